import PyProof.Rows.All
import Wide.All
import OpenK.AllK
import Wide.FinOn
import Lean
import PyProof.EqAt
import PyProof.EqKinds
import PyProof.TupleCall
import PySem.SetOps
import KE.KDictSum
import KE.KDictList
import PyProof.ZipIter
import KE.KFind
import PyProof.MaxThree
import PyProof.Rows.IntMath
import PyProof.EnumMake
import PyProof.Rows.EnumRows
import KE.KDictLaws
import PyProof.DictWalks
import PyProof.Rows.SortRuns
import KE.KSortKey
import PyProof.Rows.SortRuns
import PyProof.Rows.SortShell
import PySem.Challenge.RW_hookrail_k44_whole_no_tour_is_shorter
open Array renaming length_toList→zP,getElem?_toList→zb,getElem?_eq_getElem→yF,toList_append→yL,getElem?_eq_none→yl,toArray_toList→xI,toList_extract→xj,toList_reverse→wA,perm_iff_toList_perm→wB,toList_eraseIdxIfInBounds→wS,getElem?_eq_some_iff→ZA,toList_setIfInBounds→ZB,toList_push→ZI,size_push→Zj,getElem?_push→Zw,forIn_toList→Z7,size_map→Yq,toList→Yy
open Array.Perm renaming refl→Zm
open Bool renaming and_eq_true→yC,false_eq_true→yI,false_ne_true→yO,or_false→wZ,and_eq_true_iff→wd,false_and→wq,and_false→wv,and_true→ZO,false_or→Z0,not_true→Z1,true_or→YQ,not_eq_true'→YS,not_false→Ys,true_and→Yx
open Int renaming le_refl→zr,le_trans→yd,le_of_lt→yf,toNat_natCast→yj,toNat_of_nonneg→wI,mul_zero→wR,mul_add→wf,add_zero→wp,emod_lt_of_pos→ZD,le_total→Zb,mul_comm→Zd,sub_self→Ze,emod_nonneg→Zn,natCast_add→Zo,add_assoc→Z3,sub_zero→YO,zero_add→YU,natCast_zero→Ye,reduceToNat→Yh
open List renaming length_map→zA,length_append→zB,getElem?_eq_getElem→zD,mem_cons_self→zE,mem_cons_of_mem→zF,mem_cons→zH,map_cons→zI,length_cons→zJ,append_assoc→zL,mem_append→zM,getElem?_set_ne→zN,mem_append_right→zO,size_toArray→zQ,length_singleton→zR,getD_eq_getElem?_getD→zT,mem_singleton→zU,sum_cons→zV,mem_append_left→zW,map_append→zX,pairwise_cons→zZ,range→za,pairwise_append→zc,getElem?_append_right→zd,getElem?_map→ze,mem_iff_getElem→zf,length_take→zg,getElem?_append_left→zh,append_nil→zi,getElem?_eq_some_iff→zj,not_mem_nil→zk,replicate→zn,length_range→zo,mem_map→zu,filter_cons→zy,mem_of_getElem?→zz,getElem?_eq_none→z8,flatten_cons→yA,mem_filter→yG,take_append_drop→yH,map_map→yK,map_congr_left→yM,length_filter_le→yN,length_drop→yP,getElem_mem→yQ,nil_append→yT,mem_range→yU,replicate_succ→yV,nodup_cons→yW,length_replicate→yY,pairwise_iff_getElem→ya,map_nil→yb,nodup_append→yc,length_set→yg,getElem?_set_self→yk,mem_reverse→ym,perm_append_comm→yn,filter_cons_of_pos→yo,filter_cons_of_neg→yp,take_of_length_le→yr,eq_nil_of_length_eq_zero→yt,getElem?_replicate→yv,ext_getElem?→yw,filter_eq_self→yy,drop_eq_getElem_cons→xC,getElem?_zip_eq_some→xD,mem_iff_getElem?→xE,lookup_cons→xF,getElem_map→xG,mem_flatMap→xH,reverse_reverse→xJ,mem_of_mem_drop→xK,getElem_take→xM,getElem?_cons_succ→xN,sum_append→xO,length_zip→xP,getElem?_range→xQ,length_reverse→xS,reverse_append→xT,nodup_nil→xY,getElem?_drop→xZ,getElem?_take→xa,map_replicate→xb,length_nil→xg,getElem_drop→xk,mem_of_mem_take→xl,eraseIdxIfInBounds_toArray→xm,filterMap_cons→xn,flatMap_append→xo,getElem?_cons_zero→xq,all_eq_true→xr,nodup_range→xt,mem_flatten→xu,length→xv,filter_eq_nil_iff→xw,find?_cons→xy,all_cons→xz,getElem?_eq_none_iff→wD,getLast?_eq_none_iff→wE,extract_eq_take_drop→wF,replicate_zero→wG,length_pos_iff→wH,getElem?_take_of_lt→wJ,any_cons→wK,foldl_cons→wL,mem_replicate→wN,take_take→wQ,getElem_inj→wU,take_length→wV,any_eq_true→wW,countP_cons→wX,cons_ne_nil→wY,dropLast_concat_getLast→wk,flatten_append→wm,length_eraseIdx_of_lt→ww,perm_ext_iff_of_nodup→wx,filter_append→wy,drop_take→wz,drop_drop→w8,drop_zero→w9,getElem?_take_eq_none→ZC,exists_mem_of_ne_nil→ZE,take_sublist→ZG,reverse_cons→ZH,foldl_append→ZJ,pairwise_map→ZK,map_drop→ZM,take_append_getElem→ZN,perm_middle→ZP,drop_length→ZR,pairwise_singleton→ZS,length_eq_zero_iff→ZT,cons_append→ZU,foldl→ZW,pairwise_lt_range→ZX,range_succ_eq_map→ZY,zipWith→ZZ,sum_nil→Zc,flatMap_singleton→Zf,of_mem_zip→Zh,forIn_cons→Zk,countP_map→Zp,dropLast_eq_take→Zq,mem_of_getLast?→Zu,countP_eq_zero→Zy,map_take→Zz,mem_filterMap→Z4,filterMap_map→Z5,set_cons_succ→YC,set_cons_zero→YD,getElem_range→YE,drop_sublist→YH,all_map→YK,take_add_one→YL,set_set→YM,map→YT,getLast_cons→YV,map_reverse→Ya,map_fst_zip→Yb,flatten_nil→Yc,ext_getElem→Yd,take_left'→Yf,drop_left'→Yg,filter_map→Yi,range_succ→Yj,forIn_nil→Yo,take_zero→Yp,take_left→Yr,Nodup→Yt
open List.Pairwise renaming nil→xL,sublist→wT
open List.Perm renaming append_left→yS,append_right→yx,trans→y0,refl→xX,swap→Ym
open List.Sublist renaming refl→YW
open List.cons renaming inj→Z2
open Nat renaming le_refl→zK,ne_of_lt→zx,lt_of_lt_of_le→z7,lt_or_ge→yB,le_trans→yD,zero_le→yE,lt_succ_of_lt→yX,le_of_lt→ye,lt_succ_self→yi,le_succ→yz,zero_add→xU,lt_irrefl→xV,not_lt_zero→xx,ne_of_gt→wC,le_succ_of_le→wP,add_assoc→wc,min_eq_left→wj,sub_self→wo,add_sub_cancel_left→ZQ,lt_of_succ_lt_succ→Za,min_le_left→Zl,add_one_sub_one→Zx,lt_of_le_of_lt→Z6,add_sub_cancel→YA,eq_or_lt_of_le→YB,lt_trans→YI,le_total→YN,min_le_right→YY,not_lt→Yn
open Option renaming bind_some→yR,isSome_iff_exists→yu,map_some→xB,map_eq_some_iff→wO,bind→Zt,map→Z9,isSome_map→YR,getD_none→YZ,none→Yz
open Option.some renaming inj→zw
open PySem.Heap renaming get?_push_of_some→zG,lt_size→zS,get?_push_size→zY,get?_update_other→zt,size_push→yh,size_update→xW,get?_update_self→xf,SameBut→xh,get?_some_iff→wM
open PySem.Heap.IsSliceOf renaming new→Y0
open PySem.Heap.SameBut renaming update→Zv,refl→YJ
open PySem.W renaming Frag→zC,mg_none_of→yJ,nsIn→yZ,kia_one→yq,fnOf→xi,keepIn→xp,codeIn→wu,methodObj→ZF,mg_of→ZL,cellsFrom_some→ZV,instObj→Zg,OpenLaw→Zi,lookIn→Zr,kitOne→Zs,kf_at_spec→Z8,kitx_list→YF,kitx_dict→YG,plainGet→YX,findIn→Yk,kIn_of→Yl,WalkO→Yu,kf_at→Yv,kf_eq→Yw
open PyProof.Rows renaming wpS_bind→vL,arrOf→vM,wpS_pure→vN,Keyed→vT,SortSt→vc,pendingOf→ve,wpS_forRange→vi,seqObj→vz,wpS_mono→uA,oneType'→uB,IntsAre→uC,failedOf→uN,wpS_modify→uZ,SortedTo→uf,listUpdate_at→um,wpS_get→uo,wpS_lift→u5,SBase→u8,AllBare→tK,mirror_perm→tL,subscriptTail_builtinR→tU,plain_sorted→tV,entry_sorted→tW,envOfC→tm,kind_sorted→tt,args_list_sort→tu,numOf→t6,K_mirror_equal→t7,wpS_reverse→t8,seqEpoch_at→t9,subscriptTail→sH,args_tuple_getitem→sJ,args_sorted1→sO,minRun'→sQ,listItems_at→sS,NonInc→sw,K_bubble→sx
open PySem renaming wpAny_bind→vA,Value→vB,Shared→vC,Addr→vH,wpAny_pure→vJ,starEach→vK,wpAny→vP,FuncData→vS,Program→vU,Expr→vW,mainGlobals→vY,World→vZ,Around→vf,wpAny_ite_split→vg,sizeLine_eq→vh,backTo→vj,Heap→vk,bootBuiltins→vm,wpAny_holding→vn,wpAny_newObj_type→vo,Stmt→vp,wpAny_call_entry→vq,wpAny_mono→vt,keywordEach→v3,wpAny_Call_Name_kw→v4,builtinLookup_eq_fast→v5,wpAny_setState_of→v6,swapsWith→v8,foldedSetIterable→v9,wpAny_rule→uD,behindInMarks→uE,attributeBase→uF,wpAny_setField_rec→uG,Keyword→uH,backToKw→uI,sysModules→uJ,codeAny_builtin→uK,typeLookup_type→uL,wpAny_updateSeq→uM,plainId_quiet→uO,compareOp→uP,wpAny_passesOwn→uQ,wpAny_truthy_bool→uR,assignEach→uS,wpAny_attempt→uT,pyNext→uU,binaryOp→uV,wpAny_isInstance→uW,wpAny_field→uX,rawInt→uY,NameKind→ua,wpAny_specialOf→ub,codeAny→uc,call_meets→ud,wpAny_seqItems→ue,codeAny_mono→ug,wpAny_typeOf→uh,scanBound→ui,cLine→uj,wpAny_newList→uk,tupleKind_room_in1→uq,sliceBounds→ur,wpAny_pyIter_list→ut,isSubtype_type→uu,IsPair→uv,wpAny_nextOf_list_item→uw,Scope→ux,typeLookup→uy,pickOrder→uz,ZipApart→u4,wpAny_execs_nil→u6,letOwnedTupleGo→u7,intKind→u9,getItem→tD,setNext→tE,updateSeq→tF,wpAny_fieldsOf→tG,firstArgMember→tH,isSubtype_stop→tI,wpAny_newTuple→tJ,wpAny_comprehension_free→tM,tupleKind→tN,PassesOwn→tO,seqIndex?→tP,wpAny_askSetting→tQ,wpAny_pyIter_zip→tS,IsPart→tT,wpAny_isTrue_Compare1→tX,wpAny_nextOf_list_end→tY,wpAny_pyNext_zip_item→tZ,GenState→tf,wpAny_loadName_local→tj,codeAny_extend_loopS→tq,wpAny_pyNext_zip_end→t4,callerA→sC,valueAt→sD,wpAny_loadName_cell→sF,wpAny_standAt→sG,Result→sI,checkCount→sK,Operator→sL,BindsTo→sM,slotArgs→sN,call_meetsIn→sP,Paired→sT,Drawn→sU,CmpOp→sV,wpAny_of_eq→sW,wpAny_letGo→sZ,atKey→se,hashInt→sf,isTrue→si,pyIter→sm,argsOk→sq,raiseNew→sr
noncomputable def vF:=@if_pos
noncomputable def vG:=@if_neg
noncomputable def vO:=@absurd
noncomputable def vQ:=@decide_eq_true
noncomputable def vX:=@decide_eq_false
noncomputable def v7:=@congrArg
set_option Elab.async false
section
local macro_rules|`(∅)=>`(by omega)
local macro_rules|`(⋯)=>`(by decide +kernel)
local macro_rules|`(↥$x)=>`(some (.sh $x))
local macro_rules|`(⇑$x)=>`(by simpa using $x)
local macro_rules|`(tactic|omega)=>`(tactic|lia)
set_option compiler.extract_closed false
set_option hygiene false
def pW':List Char->List Char|' '::r=>pW' r|r=>r
def pC'(c:Char):Bool:=c.isAlphanum||"_'.!?₀₁₂₃".toList.contains c||(c.val>=913&&c.val<=969&&c.val != 955)
def pF'(e:Lean.Term):List String->Lean.Term|[]=>e|s::r=>pF' ⟨Lean.mkNode ``Lean.Parser.Term.proj #[e,Lean.mkAtom ".",if s.front.isDigit then Lean.mkNode `fieldIdx #[Lean.mkAtom s] else Lean.mkIdent (.mkSimple s)]⟩ r
def pN'(l:List String):Lean.Term:=let a:=l.takeWhile (!·.front.isDigit);pF' (Lean.mkIdent (a.foldl (λn s=>.str n s) .anonymous)) (l.drop a.length)
mutual
def pT':Nat->Nat->List Char->Lean.MacroM (Lean.Term×List Char)
 | 0,_,_=>Lean.Macro.throwUnsupported
 | n+1,p,s=>do
  let(a,s)<-match pW' s with
   | '('::r=>do
    let(a,r)<-pT' n 0 r
    let(a,r)<-match pW' r with
     | ')'::r=>pure (a,r)
     | ':'::r=>do let(b,r)<-pT' n 0 r;pure (<-`(($a : $b)),(pW' r).tail)
     | ','::r=>do let(l,r)<-pL' n #[] r;pure (<-`(($a,$l,*)),r)
     | _=>Lean.Macro.throwUnsupported
    pure (let w:=r.takeWhile pC';match r with
     | '.'::_=>(pF' a ((String.ofList w.tail).splitOn "."),r.drop w.length)
     | _=>(a,r))
   | '⟨'::r=>do let(l,r)<-pL' n #[] r;pure (<-`(⟨$l,*⟩),r)
   | '['::r=>do let(l,r)<-pL' n #[] r;pure (<-`([$l,*]),r)
   | '"'::r=>let w:=r.takeWhile (·!='"');pure (Lean.Syntax.mkStrLit (String.ofList w),r.drop (w.length+1))
   | '¬'::r=>do let(b,r)<-pT' n 40 r;pure (<-`(¬$b),r)
   | '-'::r=>do let(b,r)<-pT' n 75 r;pure (<-`(-$b),r)
   | '@'::r=>let w:=r.takeWhile pC';pure (⟨Lean.mkNode ``Lean.Parser.Term.explicit #[Lean.mkAtom "@",pN' ((String.ofList w).splitOn ".")]⟩,r.drop w.length)
   | '∅'::r=>do pure (<-`(∅),r)
   | '⋯'::r=>do pure (<-`(⋯),r)
   | '↥'::r=>do let(b,r)<-pT' n 1024 r;pure (<-`(↥$b),r)
   | '⇑'::r=>do let(b,r)<-pT' n 1024 r;pure (<-`(⇑$b),r)
   | 'λ'::r=>do
    let w:=r.takeWhile (λc=>pC' c||c==' ')
    let xs:=(((String.ofList w).splitOn " ").filter (·!="")).toArray.map λx=>if x=="_" then (⟨Lean.mkNode ``Lean.Parser.Term.hole #[Lean.mkAtom "_"]⟩:Lean.Term) else pN' [x]
    let(b,r)<-pT' n 0 (r.drop (w.length+2))
    pure (<-`(fun $xs* =>$b),r)
   | s=>let w:=s.takeWhile pC';let r:=s.drop w.length;match w with
    | []=>Lean.Macro.throwUnsupported
    | ['_']=>do pure (<-`(_),r)
    | ['P','r','o','p']=>do pure (<-`(Prop),r)
    | ['?','_']=>do pure (<-`(?_),r)
    | '.'::w=>match (String.ofList w).splitOn "." with
     | x::l=>do pure (pF' (<-`(.$(Lean.mkIdent (.mkSimple x)))) l,r)
     | _=>Lean.Macro.throwUnsupported
    | c::_=>pure (if c.isDigit then Lean.Syntax.mkNumLit (String.ofList w) else pN' ((String.ofList w).splitOn "."),r)
  if p>1023 then pure (a,s) else do let(a,s)<-pA' n a #[] s;pO' n p a s
def pA':Nat->Lean.Term->Array Lean.Term->List Char->Lean.MacroM (Lean.Term×List Char)
 | 0,_,_,_=>Lean.Macro.throwUnsupported
 | n+1,f,l,s=>do
  let r:=pW' s
  let e:=if l.isEmpty then f else Lean.Syntax.mkApp f l
  match r with
   | '('::q=>do
    let w:=q.takeWhile pC'
    match q.drop w.length with
     | ':'::'='::q=>do
      let(a,q)<-pT' n 0 q
      pA' n f (l.push ⟨Lean.mkNode ``Lean.Parser.Term.namedArgument #[Lean.mkAtom "(",pN' [String.ofList w],Lean.mkAtom ":=",a,Lean.mkAtom ")"]⟩) (pW' q).tail
     | _=>do let(a,s)<-pT' n 1024 r;pA' n f (l.push a) s
   | c::_=>if "⟨[\"@∅⋯↥⇑".toList.contains c||pC' c then do let(a,s)<-pT' n 1024 r;pA' n f (l.push a) s else if c=='λ' then do let(a,s)<-pT' n 1024 r;pure (Lean.Syntax.mkApp f (l.push a),s) else pure (e,s)
   | []=>pure (e,[])
def pO':Nat->Nat->Lean.Term->List Char->Lean.MacroM (Lean.Term×List Char)
 | 0,_,_,_=>Lean.Macro.throwUnsupported
 | n+1,p,a,s=>do
  let g(k q:Nat)(r:List Char)(f:Lean.Term->Lean.MacroM Lean.Term):=if k<p then pure (a,s) else do let(b,r)<-pT' n q r;pO' n p (<-f b) r
  match pW' s with
   | '-'::'>'::r=>g 25 25 r λb=>`($a->$b)
   | '\\'::'/'::r=>g 30 30 r λb=>`($a\/$b)
   | '/'::'\\'::r=>g 35 35 r λb=>`($a/\$b)
   | '×'::r=>g 35 35 r λb=>`($a×$b)
   | '&'::'&'::r=>g 35 36 r λb=>`($a&&$b)
   | '='::'='::r=>g 50 51 r λb=>`($a==$b)
   | '='::r=>g 50 51 r λb=>`($a=$b)
   | '≠'::r=>g 50 51 r λb=>`($a≠$b)
   | '<'::'='::r=>g 50 51 r λb=>`($a<=$b)
   | '<'::r=>g 50 51 r λb=>`($a<$b)
   | '∈'::r=>g 50 51 r λb=>`($a∈$b)
   | ':'::':'::r=>g 67 67 r λb=>`($a :: $b)
   | '+'::'+'::r=>g 65 66 r λb=>`($a++$b)
   | '+'::r=>g 65 66 r λb=>`($a+$b)
   | '-'::r=>g 65 66 r λb=>`($a-$b)
   | '*'::r=>g 70 71 r λb=>`($a*$b)
   | _=>pure (a,s)
def pL':Nat->Array Lean.Term->List Char->Lean.MacroM (Array Lean.Term×List Char)
 | 0,_,_=>Lean.Macro.throwUnsupported
 | n+1,l,s=>match pW' s with
  | '⟩'::r=>pure (l,r)
  | ']'::r=>pure (l,r)
  | ')'::r=>pure (l,r)
  | ','::r=>pL' n l r
  | s=>do let(a,r)<-pT' n 0 s;pL' n (l.push a) r
end
def tB(c:Char):String:=match c with
|'A'=>r#"Aa X.fn x2=true\/X.env.scope.names.lookup x2=some .local
Ab Ww XF
Ac PySem.Fin->vC->Prop
Ad Option V
Ae (1:Int)
Af .tup [x,y]
Ag ⟨⟨_,hS,rfl⟩,PySem.F.args_list_init_2 _ _,?_⟩
Ah ⟨rfl,I.turnedL (t':=s.toks) Jx hf⟩
Ai ⟨_,qA h1 h3 hs,λG0 H0 G ω σ H ds Q o e k=>?_⟩
Ak za (arA h l bs F).length
Al r.1<=g.2-g.1
Am qm (i:=8) qv.nd rfl (Or.inl rfl) (XD.toE AM)
An q3W (qE (XE.toV (xc c28 hr (Y1 bj (Y1 bj dD)))))
Ao Xj aA n
Ap Xb (gN 2) (Xb (gN 3) WF)
Aq XB zA8 (vOf acH) (vOf acG)
Ar WK λst4 kp4=>?_
As SetTable.below t.place slot
At List Int×List D
Au Gl X x
Av .type T
Aw .type "list"
Ay .dT kvs
Az .builtin "list.extend.loop" ⟨[fw,hV,res],[]⟩
AA ⟨vs,h1,h2,h3,h4,h5,λk es hk=>?_,λk es hk=>?_⟩
AB zAB bs
AC Y2 bn (Y2 cQ (Y2 (dOf (Xx zBV Mt)) XF))
AD XX XY es
AE XN K H ds vs
AF Sum.inl k
AG Option vB
AH .int (f q)
AI (xs.toList.take j).drop l++xs.toList.drop (j+1)
AJ λf vs=>PySem.call f vs
AK λe s'=>R (.error e) s'
AL vOf (Xo 1 [] Ph fG Xm q2h)
AM vD 5
AN (k,k1)
AO ha q2 pins s σ H _ I h
AQ fr H
AR arr.toList=P++X++S
AS [VL,HW]
AT ["things", "ties"]
AU ["number", "arc", "boxes"]
AV Y2 (dOf (XC q2a ai)) XF
AW Y2 U1 (Y2 U2 XF)
AX Option aW
AY KV kvs vs
AZ Int->Int->Bool
A2 F.map λe=>D.int (XY e)
A3 .tup [bP,dy]
A4 .int lo t
A5 .int hi u
A6 .int By
A7 .Call (.Attribute o "remove" apos) [e] [] cpos
A8 .Call (.Attribute o "extend" apos) [e] [] cpos
A9 .Call (.Attribute o "append" apos) [e] [] cpos"#
|'B'=>r#"Ba λp hp=>?_
Bb zB2 (tBM K "list" WV (Xu 4) VJ)
Bc zB2 (tBM K "list" WV (Xu 3) VJ)
Bd u8 a₀ st
Be q1J go gd gf ?_
Bf dOf (XC q1u ai)
Bg ["edge"]
Bh SqT.of ib
Bi Kp.refl st
Bj .scr ns
Bk (p,w)::P.zip vs
Bl ⟨rfl,_,_,rfl,∅,∅,∅,b4,λi hi' hin=>?_⟩
Bm ⟨_,_,_,_,_,_,rfl,mD,∅,∅,∅,∅,∅,kp4⟩
Bn λe=>z (Sum.inl.inj e)
Bo λe=>vI e.2
Bp λ_=>true
Bq zCw M frees wi g tc te
Br vz "list" xs.toArray 0
Bs vz "list" vs.toArray n
Bt vOf (Xx Wj (Y2 dS XF))
Bu vK [e1] X.env=(false,eval e1 X.env)::vK [] X.env
Bv vK [dP] X.env=(false,eval dP X.env)::vK [] X.env
Bw vK [dO] X.env=(false,eval dO X.env)::vK [] X.env
Bx q.2-q.1<t
By (j:Int)
Bz fC (.int 8)
BA a==uJ
BB [a,b]
BC [.Name x2 q5,.Name x3 q6]
BD Y8 aF
BE Xo M frees fi fg fc fe
BF Xf G H
BG Xa bM
BH I.base.free b o e n hx
BI Around.under_plainId PySem.F.plain_extend_loop _
BJ .Call (.Attribute bX "append" a2) [e1] [] c2
BK (x1.trans x2).trans x3
BL (plc h l bs).map D.int
BM (T0++T1)++B
BN ((0:Nat):Int)
BO ⟨?_,?_,fq,fq⟩
BP vOf (XB oPow (fC (.int 10)) (fC (.int 39)))
BQ vK [a] X.env=[bK]
BR s.heap.get? it=some (Wh (.int slot 0) i a n ep)
BS rows.length<=1000
BT [some (W.sh oe),↥aR,none,none,none,none,none]
BU ["start", "arcs"]
BV X.mg "zip" = none
BW FnOk X.prog X.w X.K X.mg X.base CX k f fd ps sp
BX .ref I
BY .int 1
BZ ⟨us,[]⟩
B0 ⟨none,none,none,rfl⟩
B1 ⟨SG,_,I2,rfl,q _ aau⟩
B2 λi i1 i2=>?_
B3 zCF M frees σ
B4 yE _
B5 vV 6
B6 vD 4
B8 v6 go gd gf ?_
B9 uE op b=false"#
|'C'=>r#"Ca tE a slot i ep
Cb swapsWithSole [tg] e pos.line X.env=pure false
Cc some (.ow (L.map D.int))
Cd qd (q0A q hn)
Ce pv 2
Cf lo+i
Cg [e,(e.2,e.1)]
Ch ["start", "goal", "gap"]
Ci XE.toV ace
Cj TP X pins σ Q
Ck List vp
Cl Gl X "sorted"
Cm Ext G H G' H'
Cn Cal X.prog X.w X.K X.mg X.base k f fd x ps 1 m
Co .ok (.ret res)
Cp .int ds.length
Cq .Dict [] [] q1
Cr (sts as).Perm (gls as)
Cs ⟨l,b,vs,us,rfl,rfl,lJ,x1.gh _ _ r6,f1,f2⟩
Ct some d
Cu some cX
Cv some cU
Cw q0S rfl
Cy .ref b
Cz (.nx,ω)
CA .lst cc
CB .int e.1
CC .int cj
CD .fr ds
CF ⟨σ',H',I.unwish,q⟩
CG ↥(.lst (g.map D.int))
CH xc c13 hr (Y1 bj Y5)
CI upd H p iE
CJ tL _ _ _ _
CK start N vs
CL pre.map Wd
CM o2.free no (T2.gl l n1).1 (T2.gl l n1).2
CN ms.map mvD
CO inW M frees ω
CP hl pins s σ H _ I h
CQ hi pins s σ H _ I h
CS gwt h l bs
CT ZSt h0 S z TI TO i1 i2 l1 l2 xs ys ts s.heap
CU X.mg "enumerate" = none
CV Within lo hi a b
CW Mh al bl out i j
CY Mg al bl out i j
CZ K w.params"#
|'D'=>r#"Da It->Hp->Prop
Db .int last
Dc .int jU
De .dic ks ds
Df .Slice lo hi none p2
Dg .Return (some e) pos
Dh ⟨rfl,_,_,rfl,∅,b2,∅,λi hi'=>?_,b5⟩
Di λx=>xR x p q
Dj zS e
Dk zBE td (WU 5)
Dl thn (ha pins s σ H Q I h) λc s1 e=>?_
Dm (some r,z)
Dn some (.ow es)
Do sb2.extBut _ _ n2 DO
Dp sIf (Xy (Wl (vOf (zAp .lst bE)))) bf WI
Dq s.heap.get? it=some (Wh abH i a n ep)
Dr (ds.length:Int)
Ds cutD ds lo hi
Dt a+n+1
Du a++b
Dv ["arcs"]
Dw Y2 cP XF
Dx Y1 mK Y5
Dy XU eb ?_
Dz X7 bh
DA Wz ks xss a b
DB Wh (.int (slot 0:Nat) 0) 0 a es.size ep
DC Mh a.toList b.toList out.toList (i+1) (j+1)
DD Array Nat
DE .tup ds
DF .int 1 v
DG .Call (.Name "enumerate" ep) [o0] [] ec
DH ((n+1:Nat):Int)
DI ⟨rfl,vs,SqL.of r2⟩
DJ λh' c' kp e=>fin its r' hz h' c' kp e
DK λ_ _=>rfl
DL vz "list" ks e
DM vOf (XB oDiv aw fL)
DN typeOf jm=pure (.type "method_descriptor")
DO sb1.extBut _ _ n1 e
DP sIx items.size 0 lo
DQ es.length<64
DR e=x\/H e=some (.own x)
DS [some oe,some v1,none,none,none,none,none]
DT ["boxes", "here", "k"]
DU SqL.of h1
DV Option vW
DW D.pys (b.map D.int)
DX D.pys (a.map D.int)
DY .tup [.int O1,.int O4]
DZ .lst (xs.map V.int)"#
|'E'=>r#"Ea .int ys.length
Eb .int (q.2-q.1)
Ec .bl (zCH (tyD d) c)
Ed .Call (.Name "enumerate" p) [a] [] pos
Ee (mem _).mpr (.inr (.inr ⟨b,hbm,bA⟩))
Ef (cst row).map D.int
Eh (L.map f).map D.int
Ei ⟨e,?_⟩
Ej λy hy=>?_
Ek λi j h2 h3=>?_
El λb o e=>PyProof.Rows.sortedAll_old e
Em v8 bo Oq spos.line X.env=pure true
En nrem<=a₀.size
Eo bs.length<=1000
Ep as.length<=9000
Er ["script"]
Es PyProof.Rows.sortedAll s.heap its out
Et OpR X (uP op) r
Eu .int n
Ev zBn xs lo hi
Ew ys.map D.int
Ex vOf (XB oIx aw aN)
Ey upd H p o
Ez upd H a o
EA upd G l (.frz ob (.dK (kvsOf ks0 vs)))
EB some true
EC sa+UT
ED s.heap.get? t=some ot
EE s.heap.IsList l items
EF ps.zip us
EG now.ow i ds'
EH neC b o e hx
EI k=true->stepW I μ (μ ω) J (fb ω)
EJ dOf EQ
EK dOf acD
EM as.map Y9
EN XU eb (vL (XU ea (vL (zBO hk' ?_))))
EO XD.toE (XE.toD (q21 hr.units nV iS))
EQ XB oIx dS aK
ER Option Int->Hp->Prop
ES Option Bool->vc->Prop
ET Kn h l bs
EU Builtin.List.listLengthHint (.ref r)
EV .Subscript a b pos
EW .Assign [cF] e pos
EX (qU _).mpr (.inr (.inr ⟨b,hb,bA⟩))
EY (Xq f pre).1 e.1==(Xq f pre).1 e.2.1
EZ ⟨_,_,_,_,_,_,rfl,mD,∅,j1,∅,kp4⟩
E2 λ_=>rfl
E4 x.above y c (PySem.mem_of_lookup h)
E5 vvP fj
E6 vV 5
E7 kkP fj
E8 h n st1 b1 b2 Ve S
E9 (d,ω.set i (some (.ow ds.dropLast)))"#
|'F'=>r#"Fa Xu 2
Fb Wh (.int (slot i) 0) i a es.size ep
Fc WM _
Fe (.nx,ω.set i (some (.ow (ds++ds'))))
Ff ⟨rfl,of,2*of+1,rfl,∅,hb,∅,∅⟩
Fg ⟨none,rfl⟩
Fh ⟨j,∅,h2⟩
Fi ⟨_,iK,rfl,_,rfl⟩
Fj ↥(.int t)
Fk ω.set i ↥(B x)
Fl λi ks ds' hi=>vO hi (now.od i ks ds')
Fm λH i s hi=>?_
Fn zF _ hk
Fo x1.gg.trans x2.gg
Fp w.params.followText "set-order" = true
Fq vn ?_
Fs upd H l abJ
Ft some (W.sh aP)
Fu some (.sh (Y9 e))
Fv some (.od ks' es)
Fw s1.heap.objs.size+4
Fx r.1-a
Fy q5h I.hok eb
Fz pv i hN hv hd hcd
FB ks.zip vs.toArray
FC (ks,ds)
FF ks++[k]
FH kn.length<=900
FJ k<as.length
FK its.toArray.size+its2.toArray.size
FL items.size<=sizeLine
FN intKind_is _ _ _ _
FP d.params.defaults=[]
FQ [.tup [gR,jh]]
FR Y7 st
FU XE.toD (Y6 (XE.toV (Y6 ju B5)) aj)
FV X.env.scope.names.lookup x=some .local
FW X.A.units+1<uj
FY Wo X pins H kS
FZ Wi hr.units gY aj"#
|'G'=>r#"Ga Unit->vc->Prop
Gb Str->Option ua
Gc Room (k+2) X.A
Ge Option Bool
Gf OpV X.K r o
Gg Obj.putSet es' t'
Gh List V->Hp->VK->Prop
Gi List (Key×vB)
Gj HOk X.prog X.w H' h'
Gk Gl X "list"
Gm Fun K x qual st f fd
Gn ForInStep.yield r
Go Bool->vc->Prop
Gp .ref sl
Gq (.nx,ω.set i (some (.ow (ds++es))))
Gr (.nx,ω')
Gs .Name x q
Gu .Call (.Name "range" p) [a] [] pos
Gv ((k.toNat:Nat):Int)
Gw (Xa ns).map V.int
Gx (XZ ks).map D.int
Gy ⟨rfl,lo,of,rfl,b1,b2,b3,.inl ∅⟩
Gz ⟨_,_,_,_,_,rfl,m2,∅,d2,∅,kp'⟩
GA ⟨_,_,_,_,_,rfl,m2,d1,∅,∅,kp'⟩
GB zD hlt
GC uX hz rfl (x:=.bool false) rfl ?_
GD tOp r ta tb
GE tG e rfl ?_
GF qA h1 qx hs
GG lo+k-(lo+l)
GH es++[(p,q)]
GJ as++[(l,h)]
GK [none]
GL ["things", "knots", "edges", "bound"]
GM S.filter kJ
GN .str x
GO .int q.2
GP ⟨rfl,lo,of,rfl,b1,b2,b3,.inr hb⟩
GQ ⟨rfl,lo,hi,rfl,∅,b2,∅,b4,b5⟩
GR ⟨o,e⟩
GT ⟨[],H,I,.nil,h⟩
GU λx y H Q=>r x y H Q\/r' x y H Q
GV λvs H Q E h=>?_
GW λb ob q=>zG _ q
GX λG0 H0 G ω σ H d ω' Q ow e k=>?_
GY zN ne
GZ ys.length<=sizeLine
G7 uw a1 b1 hx λh₂ c1 sb2=>vJ ?_
G8 swappedStores [tg] e X.env=pure none
G9 some (.ow ((plc h l pre).map D.int))"#
|'H'=>r#"Hb some (.od F (Wc F))
Hc putK kvs p.1 p.2
Hd pre++[d]
He h h' tk d _ ys hk (zS hS') y1 y2
Hf ds.length=xs.length
Hg a2.trans qz.symm
Hh [s1.heap.objs.size]
Hi [ph,none,none,none]
Hj [.int p.1,.int p.2]
Hl ["thing", "wanted"]
Hm ["thing", "places", "ties", "edges"]
Ho (["box"]:List Str)
Hq ["arcs", "numbers", "number", "arc"]
Hr Y1 Y4 Y5
Hs XE.toV (Y6 cZ Vc)
Ht XB o f g
Hu X2 f a b
Hv (Sum.inl:Int->Key)
Hw PE X b tb
Hz Option vH
HA .frz ob (.dK pY)
HB ⟨rfl,lo,of,rfl,b1,b2,b3,Ps⟩
HC ⟨a,vs,h1,e _ _ h2,Rk⟩
HD ⟨[iD],[]⟩
HE ⟨[du],[]⟩
HF λj fs hj=>?_
HG λb z1 z2=>?_
HH zG _ e
HJ x13.trans (Ext.hide x3.gh hn _)
HK v8 e none pos.line X.env=pure false
HL lo+t
HM lo+j
HN a2.extBut sb2.extBut D.i12.symm
HP XE.toV (q21 hr.units M3 bj)
HQ Tells ts kn f
HR Tells ts es f
HS Mh a.toList b.toList out.toList i j
HU List (TE×TE)
HV .ref D
HW .int dM
HX .inr rfl
HY .fr ((cutD ns lo hi).map D.int)
HZ .List [] q4"#
|'I'=>r#"Ib .Call (.Name "zip" p) BB [] pos
Ic (wU T.nd).mp (j2.trans i2.symm)
Id ⟨e2,lo,hi,rfl,b1,b2,∅,b4,b5⟩
Ie λx1 x2=>x1++x2
Ig λw hw=>q6G rx fx r fs w ⇑hw
Ih λi j hij hj=>?_
Ii λh=>hc g8
Ij λ_ _ q=>zG _ q
Ik zCW s₁.heap H
Il zCE 0 rows
Im (x,NameKind.free)
Io upd H2 p (.dK (kvsOf [k] [v]))
Ip tE a (slot es.size) es.size ep
Iq some (.ow (pre.flatten.map D.int))
Ir qt qq qG rfl z14 qF To
Is qce hz ht λh' f1' hz1 sb1=>?_
Iu q5X rfl z18 rfl z69 (ql nZ qp)
Iv q5H hd h2 h4
Iw q3l nV (Xp (Y1 iS (Y1 iS Y5)))
Ix over p q g
Iy (none,lo,of)
Iz (none,lo,hi)
IA (n,NameKind.cell)
IB ls.map zBx
IC hm b _ q λz=>z
ID h1.trans z
IE h hi c2 (λi hi'=>c4 i ∅) c5
IF f rN (.int j u)
IG ds.length<=1000000
IH dOf (Y3 9)
II dOf (Y3 8)
IJ dOf (Y3 7)
IK ["home", "last", "boxes", "found"]
IL ["home", "last", "boxes", "cells"]
IM ["ahead", "bound"]
IN Z.keep b o hb e
IO Str.ofString "__length_hint__"
IP SqL X.K H p ys\/SqT X.K H p ys
IQ RA.take k++r.toList++RB.drop m
IR Or.inr rfl
IS .tup (k.map kV)
IT (.nx,p.2.set i V7)
IU .int i::vs
IW .bl b
IX λb o z y=>hs'.extBut b o z y
IY λG0 H0 G ω σ H r Q ow e kk=>?_
IZ vF h1"#
|'J'=>r#"Ja ut (items:=its.toArray) mZ ?_
Jb uX hz rfl (x:=.ref TI) rfl ?_
Jc s2.trans s5
Jd qu cB
Je q36 qx
Jf q0f cZ z20 rfl z0 rfl z18 q0o
Jg q0f cZ z16 rfl z0 rfl z15 q4E
Jh lo+x-1
Ji lo+n-1
Jj k::ks
Jk eqU x
Jl [ph,none,y2.map W.sh,y3.map W.sh]
Jm X7 cP
Jn PySem.F.args_dict_get_3 _ _ _
Jo .vw ds
Jp (.nx,w)
Jq .dK kb
Jr .dK []
Js ⟨Nu,H2,I2,.cons r1 r2,q2⟩
Jt ⟨rfl,0,1,rfl,∅,hr,∅,∅⟩
Ju ⟨G,gC,o⟩
Jv λx=>(ms.map λm=>f m x).sum
Jw λi ds h=>vO h rZ
Jx λb o hb e=>?_
Jy λG0 H0 G ω σ H r Q ow e k=>?_
Jz zDA zAz
JA zCG r.2
JB zBf.flatten++S
JC vs.length<64
JD vF y
JE uv s.heap TI OJ J1
JF uV .Add
JG uF o "pop" X.env jG=eval o X.env
JH ts.map λ_=>[]
JI some ds
JJ s0.trans x2.gg
JK q0k _ _
JL (out,ω')
JM (none,a₀.size)
JN lo+nrem
JO ks.length<1000000
JP (items.size:Int)
JQ hr pos pins s1 σ H1 _ I1 q1
JR h2 G0 H0 G ω σ H d Q o e k
JS blw r.1
JT ["home", "last", "boxes", "gap"]
JU ["here", "there"]
JV XN.ints _
JW Vw K G H d v
JX Gl X "range"
JY F.pin i
JZ A.units+1<uj
J0 .type "list_reverseiterator"
J1 .ref i2
J2 .ref fa
J3 .lst (gs.map AB)
J4 .lst (((Y8 aF).map egO).map egD)
J5 .BoolOp .Or (a::b::rest) pos
J6 (wB.mp h.perm).mem_iff.mp hp
J7 (Y8 aF).map AB
J8 ⟨⟨o,e,ex.1⟩,λa e2=>?_⟩
J9 ⟨p,ns,rfl,g1,hz,Vz⟩"#
|'K'=>r#"Ka ⟨G2,Uj,q2.mono s0⟩
Kb λs t h1 h2=>zBm sb ∅ ∅
Kc λs t h1 h2=>zBm sa ∅ ∅
Kd λi s hi go' A' Q' E' q=>?_
Ke λG0 H0 G ω σ H b Q o e k=>?_
Kf xV _
Kg uF o name X.env jG=eval o X.env
Kh sub x c e
Ki lo+n
Kj lo+k
Kk es.map Y9
Kl b2.extBut sb2.extBut D.l2i1
Km [some (.ref A0),none,none,none]
Ko [D.tup [D.int one,D.int other]]
Kq Xj as j=v
Kr Wk hl
Ks Option R
Kt Ok ts es
Ku List dk
Kv .lst accv
Kw .int x
Ky .Compare a [.NotEq] [b] pos
Kz (a₀.toList.take x).drop b
KA ⟨bu,r1,p,_,rfl,g,_,rfl,?_⟩
KB ⟨[mw, a],[]⟩
KC λz=>?_
KD λj ks fs hj=>?_
KF zD hj
KG vG y
KH upd H5 D (.lst (acc++[v]))
KI upd (zBd H1 ts xs ys) S jE
KJ some (.pw ds)
KL some (.ow KY)
KM some (.od (kkP pre) (vvP pre))
KN row.map D.int
KO qd (na q)
KP q<=g.1\/g.2<=q
KQ p<=g.1\/g.2<=p
KR (ls.length:Int)
KS kn++es.map Wd
KU k _ G1 H1 x1 rfl
KW h0.objs.size<=s.heap.objs.size
KY ds.eraseIdx n
KZ (as.length:Int)
K0 ["parts"]
K1 XX (zB8 m) ds
K2 XE.toD (Wm hr.units cr ju)
K3 XD X e fd
K4 (Sum.inr a:Key)
K5 SqL.of ib
K6 SqL K H p ys\/SqT K H p ys
K7 PT X a tA
K8 PE X o td
K9 Moved.eq_with hm"#
|'L'=>r#"La List D->Option R
Lb L2.start N vs
Lc L.map λq=>D.tup [Ss,AH]
Ld I.freeC x c e
Lf Gl X "enumerate"
Lg Env0 P w K mg base A outer s H
Lh .lst cY
Li .lst (xs++zs)
Lj .int jb
Lk ⟨t,rfl⟩
Ll ⟨nQ,⟨_,HH,rfl,n,rfl⟩⟩
Lm ⟨h1,h2⟩
Ln ⟨H,I,q⟩
Lo λj k es fs m hj hk sj sk=>?_
Lp λi d h=>?_
Lq zN ne'
Lr ts.map λ_=>([]:List Int)
Ls take_one hp
Lu some k
Lv kn++(es.filter kJ).map Wd
Lw k<bs.length
Lx e.hh _ _ h2
Ly ds.length+ds'.length<=1000000
Lz [none,none]
LA SeqAt.canLay_of_shaped h4
LB SeqAt.canLay_of_shaped h3
LC PySem.F.typeCall_list_1 _
LD P.length=s0
LE KT H kvs xs
LF Int->Int->V
LG H a=some ci
LH .int many
LI .fr ((Xq f AD).2.map egD)
LJ .Constant (.bool b) j pos
LK .BoolOp .Or (b::rest) pos
LL (xs.toList.take j).drop l
LM ⟨z.1,ht _ _ z.2.1,z.2.2⟩
LN ⟨v,H,I,r,h⟩
LO ⟨dd.typeIs,λb q=>?_,hd⟩
LP ⟨_,ho2,rfl⟩
LQ λ_ q=>q
LR zx hlt
LS zAc f ks
LT y1.mono x2.gg
LU xs++ys
LV xc c37 hr ga
LW wpS_ltK b1 h0 ∅ ∅ ?_
LX vR ((atI EM k).map R.sh)
LY vK [e] X.env=cH::vK [] X.env
LZ vK BB X.env=bK::vK [b] X.env
L0 ts.map V.ref
L1 ts.map D.int
L3 some 1
L4 some (.ow (gs.map gD++[nc]))
L5 s _ _ h3
L6 qd hm
L7 q4m ry
L8 q0q I hg hm hv ?_ hn hdb
L9 putK kvs k v"#
|'M'=>r#"Ma nmP (k+1) gs
Mb lo+hi
Mc ks.map D.int
Md ho pins s1 σ H1 _ I1 q1
Me hf pins s2 σ H2 _ I2 q2
Mf he pins s1 σ H1 _ I1 q1
Mi hb pins s1 σ H1 _ I1 q1
Mj h pos pins s σ H _ I hq
Mk fe ω
Ml fa ω
Mm eval e X.env
Mn byS as n
Mo a.size-1
Mp ["script", "k"]
Mq (["gap", "lack"]:List Str)
Mr Y2 bn (Y2 cQ (Y2 cP fZ))
Ms Y2 bh (Y2 bn (Y2 cQ Dw))
Mt Y2 bE XF
Mu Y1 mM (Y1 mL (Y1 mK ga))
Mw Y1 cB (Y1 mM (Y1 mL Dx))
Mx XX XY lW
My XU eA ?_
Mz XI X tg iter fi
MA XB oIx cG aK
MB XB oIx cG aG
MC XB oIx bE aK
MD XB oIx aN cI
ME W9 kvs k
MF (Value.int (K b jB) t2,q2)
MG (Value.int (K b j2) t2,q2)
MH V->Hp->VK->Prop
MI PI X tg iter wi
MJ Obj.mapSeq f
MK IV a₀ st lo S
ML F.map Wd
MM F.args_list_extend_2 _ _
MN Array DictEntry
MO .sh .non
MP .own a
MQ .fr ((XZ p.1).map D.int)
MR .For tg iter body [] pos
MS .Compare a [.Lt] [b] pos
MT .Compare a [.Gt] [b] pos
MU .Compare a [.Eq] [b] pos
MW λi j ds' es l hi=>vO hi EG
MX yz _
MY vz "tuple" xs.toArray 0
MZ vD 6
M0 rts bs q+lfs bs q+Wp dM
M1 rows.map λr=>D.int r.1
M3 pv 1
M4 h n st hB n1 n2 n3 same
M5 bs.map λp=>D.int (f p)
M6 ["places", "ties", "edges"]
M7 ["numbers", "one", "other"]
M8 Xu i
M9 SqL.of hq"#
|'N'=>r#"Na .int home
Nb .fr ((cst q).map D.int)
Nc .Attribute o "pop" apos
Nd (((hi-lo).toNat:Nat):Int)
Nf ⟨rfl,l,l,rfl,c2,c4,c5⟩
Ng ⟨q,hq⟩
Nh ⟨_,rfl,r1⟩
Ni ⟨_,iK,rfl⟩
Nj ⟨_,hz,rfl⟩
Nk ⟨_,ho,rfl⟩
Nl σ.set 6 cV
Nm λc v hc q=>k c v ?_ q
Nn λa ha=>?_
No λ_ _ _ q=>q
Np zO _ (zO _ (q2H z eo))
Nq zO _ (zO _ (q2H hb e))
Nr zD hk
Nt y2.after x1
Nu x::xs
Nv vG hb
Nw t<X.length
Nx (sa,na+nb,pw)
Ny s.heap.IsListIter i2 l2 k2
Nz s.heap.IsListIter i1 l1 k1
NA r.append r2
NB qay hu Ce Tt Je lL
NC q21 hr.units Tu B6
ND (none,o2,i2,j2,g2,ac,bc)
NE (none,i2,j2,o2,g2,ac,bc)
NF kn++(Xq f es).2.map Wd
NG h.objs.size<=a
NH g1.trans g2
NI fs.lookup f
NJ frs X.stack
NK fC (.int 9)
NL ds.map λd=>D.bl (q d)
NM bl.take j++out.reverse
NO b=p\/b∈ls
NP [CB,.int e.2.1,.int e.2.2]
NQ ["gap"]
NR Xf H H'
NS Xc xs vs
NT Xc xs us
NU XT X a f
NV XN X.K G ds xs
NW XD X e f
NX U.Perm (n::U')
NY Option (vB×Nat)->vC->Prop
NZ Ok ts kn
N0 List Key
N1 IntKeys eI
N2 Int->Int->Prop
N5 Gl X "zip"
N6 (Bg:List Str)
N7 .type "zip"
N8 .lst gJ
N9 .int q.2.1"#
|'O'=>r#"Oa .int (kf d)
Ob .AugAssign cF op e pos
Oc .Attribute o name apos
Od (a2.endLine==c2.line)=true
Oe ⟨rfl,l,rfl,∅,b4,b5⟩
Of ⟨G2,_,_,_,_,_,S2,run⟩
Og λy hy=>Yw e1 y ⇑hy
Oh λp=>decide (p.1<p.2)
Oi λhx=>m.leb x hx y mi
Oj λhx=>m.lea x hx y mi
Ol λe he=>t e On
Om zc.mpr ⟨sA,sB,fq⟩
On zF _ he
Oo vs++dvs
Op some eS
Oq some cF
Os some CD
Ot ns.getD (1+k).toNat 0
Ou ks++[a]
Ov gT 2 eW
Ow (g.2,g.1)
Ox (g.1,g.2)
Oy ["boxes", "here", "move"]
Oz XE.toD (xc c59 hr ar)
OA XE.toD (xc c51 hr ga)
OB XE.toD (xc c46 hr ar)
OC XE.toD (xc c45 hr ar)
OD Wk hl2
OE WN ω
OF Str×vB
OG Srt al
OH .type "StopIteration"
OI .tup vs
OJ .ref i1
OK .int most
OL .inr bA
OM .builtin "isinstance"
ON (hs.2 b (zx oj)).trans e1
OO (emA h l bs F).map XJ
OP ⟨m',hm,σ3,H3,I3,w3⟩
OQ ⟨_,rfl,r⟩
OR ⟨G0,H0,G,ω,d,o,e,k⟩
OS ω.set i cU
OT za es.size
OU z.sameBut hs (cne y c e)
OV wN.mpr ⟨∅,rfl⟩
OW upd H l pP
OX uC ks.toList (ds.map kf)
OY some (W.sh (D.int home))
OZ some (.ow (ds++[d]))
O0 share i ω
O1 rts bs q
O2 ow.keep x1
O3 over q p g
O4 lfs bs q
O5 l.most=some n
O6 k1::r
O7 hf _ k rfl rfl k0 k1
O8 hc pins s σ H _ I h
O9 h pins s σ H _ I hw"#
|'P'=>r#"Pa ft ω
Pb entry n ds
Pc [df, CC,.int gW,.int mN]
Pd ([]:List vH)
Pe ([]:List rf)
Pf [(one,other)]
Pg ["home", "last", "arcs"]
Ph X7 (dOf (XC q04 ai))
Pi WE aj
Pj SetTable.below t.place j
Pk RA.drop k++RB.take m
Pl List Key×V
Pm J.stop i H'/\Q HV H'
Pn I1.kept (t':=s1.toks) hk
Po Cls ts es g a
Pp .ref s3.heap.objs.size
Pq .int k t
Pr .int 0
Ps .inl z
Pt .fr ((Y8 BG).map XJ)
Pu .While c body [] pos
Pv .BoolOp .And [a] pos
Pw .BinOp a .Mult b pos
Px .Assign [cF] bo spos
Py ((sIx n n hi:Nat):Int)
PB (XX XY es).filter kJ
PD ⟨.int nF,H,iU,bw,q⟩
PF yy.mpr DK
PH xx _
PJ x-pJ
PL vj pos jw=cH::vj pos bF
PM vOf (XB oMod mJ p6)
PN vOf (XB oMod aw fL)
PP vJ (wpAny_throw ?_)
PQ vF (vQ z)
PR tupleItemsOf_ ht ?_
PU storeName X.env x u
PV s0.heap.objs.size+4
PX s0.heap.objs.size+3
PY s0.heap.objs.size+2
PZ s0.heap.objs.size+1
P0 qaD h2 q9n q9c q9N ht
P2 pv 4
P3 (none,o',i',j',ac,bc)
P4 (none,i',j',o',ac,bc)
P5 n<(arA h l bs F).length
P6 k-lo
P7 intBits_le_64 h1 h2
P8 gN i
P9 es.size=n"#
|'Q'=>r#"Qa [a,b,c,d]
Qb ["level"]
Qc ["bound"]
Qd XD X k fk
Qe X6 w
Qf Ww (Y2 (zAA hZ) XF)
Qg We i3 k3 ∅ ∅ ?_
Qh We h0 hk ∅ ∅ ?_
Qi PA X jK t
Qj Option dG
Qk List Bool
Ql List (V×V)->Hp->Prop
Qm .tup [df, CC,gu,dy]
Qn .Dict [Lu] [e] dpos
Qo .Call oD [dP] [] q1
Qp .Call oD [dO] [] q1
Qq .Call nA [e] bp pos
Qr .BoolOp .Or [a] pos
Qs (xs.filter q).map F
Qt (ls++[q]).map V.ref
Qu (ls++[l]).map V.ref
Qv (ds.filter q).map F
Qw (S2.keep x1).setH _
Qx ((0+1+1+1+1:Nat):Int)
Qy ⟨rfl,λ_=>trivial⟩
Qz ⟨q2C t _,rfl,VN⟩
QA ⟨[u],[]⟩
QB ⟨[a],[]⟩
QC ⟨Zm _,rfl,rfl,rfl⟩
QD ⟨.bl _,H,I,rfl,?_⟩
QE λm hm=>?_
QF λi=>bs.getD i false
QG λb u z=>?_
QH zW _ z
QI zAE X.K r op
QJ xss++[[]]
QK x++[b]
QL vZ->vk->Prop
QM vQ hc
QN vG h2
QO vG h1
QP vF h2
QQ v6 go gd T.fits fF
QR v6 go gd T.fits ?_
QS upd H x o
QT ts.length-F.length
QU trT K zCy
QV tOf (XB oLt Bt bG)
QW tE a (slot i) i ep
QX some m
QY s.heap.get? tp=some ot
QZ qc q8U
Q0 qbF (xc c22 hr ar)
Q2 (p.1,p.2.1)
Q3 ns.length<64
Q4 model P w
Q5 kv.1=k
Q6 ks.map kV
Q7 i+1<P.length
Q8 h5.mono e.gg
Q9 fitsIndex_both h1 h2"#
|'R'=>r#"Ra dOf (XB oIx bE aG)
Rb dOf (XB oIx Ex aK)
Rc bH->vk->Prop
Re a₀.toList.take x
Rf a₀.toList.take n
Rh [bu]
Ri Xz (hs _ _ hi' hin) hc
Rj Xn (Y1 (Xp pN) Y5)
Rk XN.mono e h3
Rl XN K G es us
Rm XE.toV r8
Rn XE.toV (qeQ aj aj)
Ro XD.toV Wy
Rp XD.toE nG
Rq XD.toE Y4
Rr XC q0p fZ
Rs SqL.of pX
Rt RA++RB
Ru PIE X pins σ tg R
Rv List j6
Rw List ip
Rx List dj
Ry Key×V
Rz Itz K a b
RC Gap h l bs g
RD ForInStep.yield ok
RE B++[k]
RF .ref s1.heap.objs.size
RG .ok .next
RH .lst _
RI .ext (setP w S ns)
RJ .dK (putK kvs k z)
RK .Constant gc j pos
RL .Constant GN j pos
RM .BoolOp op [a] pos
RN .Assign [tg] e pos
RO (uS es X.env).length=n
RP (byS as n).1++[gW]
RQ (b-a)*d b+ws d b C
RS (b-a)*c b+ws c b C
RT ⟨u,r1,r2.mono s1⟩
RU ⟨this.1,this.2.1⟩
RV ⟨_,es',ep',hL,r'⟩
RW ⟨G5,ω3,o5,Jc,f2⟩
RX ⟨G4,ω3,o4,gg,e1⟩
RY ⟨.bl _,H,I,rfl,q⟩
RZ λv _=>v=.bl true
R0 λj y v' e1 e2 e3=>?_
R1 λhab=>vO ⋯ hab
R3 λa b=>XY a<=XY b
R4 α->β
R5 x2.gg.trans x2.gh
R6 wpAny_load hS' ?_
R7 some (.od Gd (Wc Gd))
R8 s1.heap.objs.size+3
R9 s1.heap.objs.size+2"#
|'S'=>r#"Sb q0d hN hi hx h1 hs hf
Sc q0c.mem_iff.mp ht
Sd ns.map PyData.int
Se k _ _ (Ne.symm s1) e2
Sf k _ G H dU (hg _ i j)
Sg fin h' ys sb S' p
Sh entry N.length ds
Si e _ _ h
Sj bubble_perm _ _ _
Sk bubble lD j (j-l)
Sl [gZ, .int gW,.int mN]
Sm (["part"]:List Str)
Sn (["move"]:List Str)
Sq Xx zAu (Y2 ee XF)
Ss XJ q
Su XE.toV (qV iu aj)
Sv XE.toV (qV cZ aj)
Sw XE.toV (Y6 nU aj)
Sz XE.toV (Y6 E6 aj)
SA XE.toV (Y6 B5 aj)
SB XE.toD (Y6 iu aj)
SC Srt bl
SD SqL.of (x1.gh _ _ f1)
SE .tup [.int Ao,Dc]
SF .tup (p.1.map kV)
SG .ref _
SH .int (wgh 0 rows)
SJ .Subscript o2 o3 q5
SK .Subscript o k pos'
SL .Subscript o i pos'
SM .Call nA [a] [] q
SN .BinOp a op b pos
SO (W1 gk BD).map XJ
SQ ((0+1+1+1:Nat):Int)
SR ⟨rfl,rfl,∅,Ek⟩
SS ⟨r,_,rfl,dn,kp3⟩
ST ⟨r,_,rfl,dn,kp'⟩
SU ⟨d,rfl⟩
SW ⟨?_,?_⟩
SX λz=>vO z.symm e
SY λx=>rfl
SZ λk=>bs.getD k d
S4 λi x v e1 e2 e3=>?_
S7 λi ds' hi=>vO hi EG
S8 λc hc=>(hf' c hc).1
S9 λb c hb hbc=>?_"#
|'T'=>r#"Ta α->Bool
Tc zAg H a y o
Td z8 ∅
Te yi _
Tf yD (q5U xs lo hi) hz
Tg xs.map B
Th (x.fst,x.2.fst,pw)
Ti wpAny_handled ?_
Tj vF (h1.symm.trans e)
Tk truthy v
Tl stat fr5
Tm some i
Tn s+Pre.flatten.length
To ql iR qp
Tp qA (pv 6) qx rfl
Tq q9M s.heap I.big
Tr q2.mem_iff.mp hn
Ts q.map kZ
Tt pv 5
Tu pv 0
Tv ow.ext.hh.free hpn
Tw ob.data=.dict es0 ep
Tx ns.map WData.int
Tz (none,l,r)
TB nmP k gs
TC lo+x
TD ks.toList.zip vs
TF kV k
TH its.toArray.size-1
TJ hout b y
TK h'.pend.trans h.pend
TL h'.kind.trans h.kind
TM h'.fail.trans h.fail
TN gs.flatten.length<64
TQ getElem?_pos xs j hs
TR gN 5
TU (["arc"]:List Str)
TV Y6 cZ aj
TW Y1 rH (Y1 rH Y5)
TX Xu 1
TY XC qW (Y2 eT XF)
TZ X2 f (f p) (f q)
T7 X.wish E
T8 WC.no no.pw
T9 Room k0 X.A"#
|'U'=>r#"Ua RelV x u
Ub RelV v u
Uc L2.Inv X pins σ H s
Ud IsTup s.heap t items
Ue IntKeys arr
Uf Int->Int->D
Ug I1.hok.fresh hle
Uh G p=none
Ui G a=some gP
Uj Ext.refl s1
Uk Array AG
Ul .tup [gZ, gu,dy]
Um .int 2
Uo .frz o u
Up .Tuple es x1 pos
Uq .IfExp c a b pos
Ur .Dict [] [] dpos
Us (twoA ML).map XJ
Ut (hs.2 b l6).trans e1
Uu ((2:Nat):Int)==2
Uv λl e ih he=>?_
Uw λk hk=>lt k Fn
Ux λb z=>vO z (noA b)
Uy λb u e=>zG _ e
Uz λb o e=>zG _ e
UA zS e1
UB zO _ (zU.mpr rfl)
UC zCQ (XC q03 ai)
UD vK BB X.env=[bK,pZ]
UE vJ h
UF vF hb
UG vA Fq
UH uU iD
UI uU hV
UJ uD ?_
UK s.heap.objs.size<=a
UL s.heap.IsList l2 ys
UM s.heap.IsList l1 xs
UN qu mK
UO q::qs
UP q42 hN i3 l3 f3
UQ putSet_of es' t' gd
UR pm.mem_iff.mp h
US op==CmpOp.NotIn
UT na-1
UU mirror bN _ _ _
UV kvs.length<sizeLine
UW ks.length=vs.length
UX hi-lo
UY fr H3
UZ fk ω
U0 fC df
U1 dOf (XC q29 ai)
U2 dOf (XC q0i ai)
U3 dOf (XC q0L ai)
U4 dOf (XC q01 fZ)
U5 call jm (v::us)
U6 bubble lD Kj GG
U7 assign cF X.env
U8 as.getD n (0,0)
U9 I1.laid (t':=s1.toks) Uy bZ ?_"#
|'V'=>r#"Va ["thing", "places"]
Vb ["thing", "beside"]
Vc XE.toV (q56 aj)
Vd X9 st
Ve Within.refl _ _ _
Vf Wf x&&ys.all Wf
Vg Wb ts
Vh I.ok.noex b o e
Vi Ext.hide s hp _
Vj 0<=k
Vk .ok f
Vl (.nx,ω.set i oT)
Vm .lst xs.reverse
Vn .lst mj
Vo .bl (decide Cr)
Vp .Tuple es k pos
Vq .Tuple BC kx tp
Vr (r.drop nJ).take eu
Vs (Y8 aF).map edD
Vt ⟨v,u,h1,h2,h4⟩
Vu ⟨row,U',?_,r2⟩
Vv ⟨ob,h1,h2.2.1⟩
Vx λq=>z2 q.symm
Vy λq=>z1 q.symm
Vz λl hl=>?_
VA λi v=>v=val i
VB λ_ _ _=>False
VC λ_ _ _ _ n=>n
VD zF _ hy
VE zF _ hm
VF zF _ hg
VG zF _ hc
VH zD ∅
VI zBF CX X E
VJ zAG (Xu 6) zAz
VL zAB bs q
VM xs.length<=1000000
VN xX _
VO x1.gg.trans g2
VP x1.gg.trans Jc
VQ x-(0+1)
VR wu K cdv qual=true
VS upTo 0 j.toNat
VT typeIs_str s z t
VU ts.map Value.ref
VW trk h H
VX tCB r t
VY some jx
VZ some FC
V1 some 63
V6 some 23
V7 some (.sh p.1)
V8 some (.rt r,w)
V9 some (.ref JY)"#
|'a'=>r#"ae List bi
af List Int
ah ⟨rfl,rfl,rfl,⋯,rfl,⋯,⋯⟩
ai Y2 bh (Y2 bn aE)
aj XD.toV Y4
ak model prog w
ao model X.prog X.w
aq Inv X pins σ H s
ar Y1 cB (Y1 mM (Y1 mL Y5))
au ["home", "last", "boxes"]
av .lst mm
aw vOf (Y3 0)
ay List rf
aA arA h l bs F
aB Or.inl rfl
aC RfS K G0 H0 G s as p t b ks ls xss T B h y σ H
aD .ref s.heap.objs.size
aE Y2 cQ XF
aF Pz h l bs
aG fC BY
aJ (x==("__debug__" : Str))=false
aK fC Pr
aL X.fn x=true\/X.env.scope.names.lookup x=some .local
aM vB->vC->Prop
aN vOf (Y3 2)
aO WX X N scope C s H fp
aP .lst L1
aQ vK jK X.env=cH::vK es X.env
aR .lst EM
aS uT (wpAny_callSpecial?_slot (name:=Str.ofString "__next__") hT F.slotSetNext (vq F.slotSetNext hT F.entSetNext ?_ (F.argsSetNext _)))
aW List D
aZ Array vT
a0 List vB
a8 List V
aaa shp d=true
aab s2.trans o2.gh
aac ret Value.none
aad repA ks vs k v
aae qc (qh (vE 2))
aaf ot.data=.seq ps nt
aag o.ext.hh.free e2
aah iZp (Y2 om AV)
aai hnext _ _ _ ?_
aaj base+(hint-of)
aak base+(hint-lo)
aal base+(hint+of)
aam base+(hint+lo)
aan ["script", "most"]
aao ["levels", "rest"]
aap ZF iP (.ref y)
aaq Wz ks xss a' b
aar T.lst j l xs e2 e5
aas Loc X.env.scope x3
aat Loc X.env.scope x2
aau I.hok.fresh MX
aav FnScope N ps scope
aaw Ext.refl ow.gh
aax Binds X.K fd ps ds
aay Array vT->vc->Prop
aaz Array vB->Array vB
aaA Array dk->vC->Prop
aaB AP X pins σ Q
aaC .lst (kn.map XJ)
aaD .int ns.length
aaE .int nF s.toks
aaF .builtin "sum"
aaG .builtin "len"
aaH .builtin "all"
aaI .builtin "abs"
aaJ (ds++[d]).length-1
aaK ⟨z,H,I,rw',q⟩
aaL ⟨rfl,rfl,rfl⟩
aaM ⟨f3,f1,f4,f5⟩
aaN ⟨L',y6,?_,Ej⟩
aaO λz=>vO rfl z
aaP λx=>xR x q p
aaQ λx=>xA x p q
aaR λx=>f x+f' x
aaS λj ks' es hj=>?_
aaT (xs.length:Int)
aaU vK [e1] X.env
aaV vK [b] X.env=[pZ]
aaW ue hTI rfl ?_
aaX q57 rfl
aaY (p.1:Int)
aaZ ow.gh.free hp
aa0 o.ext.gg.trans s1
aa1 no.od i ks ds
aa2 mrg f e
aa3 m-(0+1)
aa4 l.map g
aa5 keyOk m
aa6 i+j-1-k
aa7 hx.rep s
aba h r st1 dn kp
abb gs.flatten.Perm P
abc gT 2 me
abd eval ir X.env
abe bs.map XJ++FQ
abf [assign tg X.env]
abg [aP,fH,ij]
abh ["parts", "ties"]
abi ["boxes", "arcs"]
abj ["bounds"]
abk Xx op g
abl Xl 8 (eOf fR)
abm Xl 4 (eOf Bf)
abn XB oDiv mJ p6
abo X.length+Y.length
abp Value.int a t
abq Sum.inl n
abr Sum.inl k'
abt (Sum.inl h:Key)
abu Room k X.A
abv Rch es a c
abw Itt K a
abx Itl K a
aby ItemsOf.nil _
abz Ite K a
abA H a=some o
abB D.tup [pE,GO]
abC D.tup [GO,pE]
abD (0,.none)
abE .tup ys
abF .tup [gc,w1']
abG .str x t
abH .ref tp
abI .ref kS
abJ .lst gK
abK .lst CN
abL .int e.2
abM .cons ru .nil
abN .If c a b pos
abO (ve st4).size-2
abP ((0+i:Nat):Int)
abQ ⟨os,hos,hcs⟩
abR ⟨o,e,ex.2.1⟩
abS ⟨[],rfl,rfl⟩
abT λk z hk=>?_
abU λb=>c b-d b
abV λb=>c b+d b
abW λa=>f (g a)
abX λ_ _ _ e=>e
abY (y.length:Int)
abZ xc c13 hr ga
ab0 x3.gh _ _ h1
ab1 x2.hh _ _ r2
ab2 x1.gh _ _ e2
ab3 vOf (zCu aG)
ab4 vK [b] X.env
ab5 v3 kws X.env
ab6 ue hS rfl fF
ab7 ue gt gtd ?_
ab8 uM hS rfl ?_
ab9 tot+(t-a)*mW
aca some (.bl p)
acb (sizeLine:Nat)
acd qbA x1.hh r2
ace qV (vV 7) aj
acf putK kvs k y
acg pre++[(k,g)]
ach ow0.ow i ds'
aci ow.gh.free hpn
acj op==CmpOp.In
ack o1.gh _ _ r1
acl no2.ow i ds'
acm m.leb x hx y
acn m.lea x hx y
aco lo+Ki-1-k-lo
acp (kV kv.1,kv.2)
acq kH=Sum.inl k
acr gwt h l bs q
acs g.map λ_=>v
act fC (.int 64)
acu eval a X.env
acv call fE [du]
acw call Aw [aD]
acx ["boxes", "gap"]
acy Y1 (vD 8) Y5
acz Y1 (vD 7) Y5
acA XB oIx pU aK
acB XB oIx pU aG
acC XB oIx fP aG
acD XB oIx dS aG
acE XB oIx bG aK
acF XB oIx aw cI
acG XB oIx aw aK
acH XB oIx aw aG
acI Wa bs here k
acJ StateT vc Sem α
acK RB.drop m++S
acL Itk a ob kvs
acM (0,Value.none)
acN .tup [x1,y1]
acO .tup [gc,x1]
acP .int (bx bs k).2
acQ .int (bx bs k).1
acR .int (Wp dM)
acS .ins C dx fs
acT .inr (yf lt)
acU .List es pos
acV (h y).mpr zE"#
|'b'=>r#"bf Xk (eOf (fC ki))
bh dOf (Y3 0)
bi Int×Int
bj XE.toD TV
bn dOf bW
bo .ListComp elt [⟨tg,iter,ifs,0⟩] scope pos
bp [⟨some kL,.Name x p2,p3⟩]
bq qt qq qG rfl z14 qF (ql iu qp)
bu .ref p
bv bs.length<=30
bw ⟨_,rfl⟩
bA .inl rfl
bB List α
bE vOf (Y3 3)
bF vK [] X.env
bG vOf bW
bH Str->Option vB
bK (false,eval a X.env)
bM plc h l bs
bN vM st'
bO qc (qh (XD.toE WD))
bP .int a
bQ .lst nX
bR ↥b0
bS Own K G0 H0 G ω σ H
bT List Nat
bU Int->Int
bV λG0 H0 G ω σ H out ω' E o e k=>?_
bW Y3 1
bX .Call (.Attribute o1 "setdefault" a1) [e0,HZ] [] c1
bY ⟨rfl,rfl⟩
bZ zK _
b0 .lst Kk
b8 [x0,x1,↥av,x3,↥gu,Cc,↥ro]
b9 oEq false"#
|'c'=>r#"ca λG0 H0 G ω σ H r Q o e k=>?_
cb Option W
cc ns.map V.int
ce List af
cf List D->Option O
cg Int×List af
ci .dK kvs
cj (n:Int)
cn ⟨_,rfl,?_⟩
cp .bl true
cr XE.toV (Y6 iu aj)
cu ⟨rfl,I.turned (t':=s.toks) (λb o hb e=>eb b o hb e) f0 f1 f3 f4 f5⟩
cv EP X pins σ Q
cA .dic ts (nbD ts es)
cB vD 0
cC WX X N scope P1.objs.size s2 H2 fp
cE X.calm=true
cF .Name x pos'
cG vOf (Y3 4)
cH (false,eval e X.env)
cI fC Um
cJ sIx items.size items.size hi-sIx items.size 0 lo
cK .Call (.Name x p) jK [] pos
cM ["home", "last", "boxes", "thing"]
cN [gR,jh,av]
cO A.handled=none
cP dOf (Y3 3)
cQ dOf (Y3 2)
cR (nums ms).Perm mH
cT o.data=.set es ep t
cU some (.ow ds)
cV some kD
cW ha pins s σ H _ I h
cX .ref l
cY ns.map D.int
cZ vV 0
c9 Tab G H0 H p ks ls xss"#
|'d'=>r#"da ([]:List Str)
de XV X a f
df .str "box"
dh List vH
di Int×Int->Int
dj List vT
dk Int×vB
dl uT (wpAny_callSpecial?_slot (name:=Str.ofString "__next__") hT PySem.F.slot_zip_next (vq PySem.F.slot_zip_next hT PySem.F.entry_zip_next ?_ (PySem.F.args_zip_next_1 _)))
dq λr s'=>r=.ok (.ret l0)/\OldK s₁.heap s'.heap/\s'.os=s₁.os/\tK s'.gens
du .ref a
dw Array vB
dy .int b
dz vo (vJ ⟨_,rfl, "set_iterator", _,Ni,F.slotSetNext.lookup,?_⟩)
dC ls.map V.ref
dD Y1 mM Y5
dE XQ h l bs q==0
dG Out×WSt
dH List D->WSt->Option WSt
dM XQ h l bs q
dN List Str
dO .Call (.Name "zip" p2) BB [] q2
dP .Call (.Name "range" p2) [a] [] q2
dQ apos.endLine==cpos.line
dS vOf (Y3 5)
dU Ext.refl s
dX za as.length
dY vz "list" vs.toArray 0
dZ XE.toV (qt qq qG rfl z14 qF (ql cZ qp))"#
|'e'=>r#"ee vOf eV
eh Option Int
eu HT.sIx xs.length xs.length hi-HT.sIx xs.length 0 lo
eC x1.trans x2
eE chi x g.2-chi x g.1
eF .lst xs
eG ⟨_,e,rfl⟩
eI vM st
eJ t.fits es.size=true
eK Option D
eM List Ry
eN λ_=>?_
eO List Eg
eP some bu
eQ Loc X.env.scope x
eS .lst ds
eT dOf acG
eU dOf acH
eV Xx Wj (Y2 aN XF)
eW Xb fG (Xb (gN 1) WF)
eX ⟨Ext.refl sg,rfl,Lp,λi ds h=>vO h (no0.ow i ds),λi j ds es l h=>vO h (no0.ow i ds),λi ks ds h=>vO h (no0.od i ks ds),WC.no no0.pw⟩
eY λG0 H0 G ω σ H d Q o e k=>?_
eZ k==NameKind.free&&env.scope.kind == .function&&env.kindOf n==some .cell
e8 Inv X fA σ H s"#
|'f'=>r#"ff s.heap.get? a=some o
fj nmP 0 gs
fm (bs.length:Int)
fq λx hx y hy=>?_
fu u5 (uD ⟨rfl,?_⟩)
fw .ref S
fz uO PySem.F.plain_extend_loop _
fA apart pins a kS e1 ks e
fB ⟨ok.mod,ok.kind,ok.glob,ok.blt,ok.above,ok.inj,ok.has,ok.cab,ok.hd,ok.frames,ok.stk,ok.exf,ok.bs,ok.bsz,ok.noex,ok.exfs,ok.funs,ok.frf⟩
fD .fresh 0 0 Qe
fE .builtin "sorted"
fF vJ ?_
fG gN 0
fH .lst (kn.map Y9)
fI vG z
fJ w.params.setOrder a ep
fK ⟨_,_,_,_,_,rfl,m2,∅,∅,∅,∅,∅,kp'⟩
fL fC (.int 3)
fM ["start", "arcs", "waiting", "trail", "backwards", "here", "number"]
fN Mg a.toList b.toList out.toList i j
fO vG ∅
fP vOf (Y3 6)
fQ vF z
fR dOf (Y3 5)
fT Int->Int->Int
fU vK [a] X.env=bK::vK [] X.env
fV ["things", "knots", "edges"]
fW XV X b g
fX X.A.units+64<uj
fY [Ft,bR,none,none,none]
fZ Y2 bh XF"#
|'g'=>r#"ga Y1 cB Y5
gc .int i
ge (x==("__classdict__" : Str))=false
gj arA h l bs F++[(l,h)]
gk XQ h l bs
gr XE.toD (qt q4z q6L rfl z44 q6U (ql (XE.toV (q0E Hs Hs)) qp))
gu .int here
gz λb o hb q=>(zt _ _ iz).trans q
gB qm (i:=4) qv.nd rfl (Or.inl rfl) (XD.toE (XE.toD (qD nU (XE.toV (xc c71 hr (Y1 mL (Y1 AM (Y1 (vD 9) Y5))))))))
gC Xf.refl _
gE λx=>x.1.isSome
gF ha pos pins s σ H _ I h
gG ((HT.sIx items.size 0 lo:Nat):Int)==0&&Ae==1&&(HT.sIx items.size items.size hi-HT.sIx items.size 0 lo)==items.size
gH xi x qual (WP st) Vd FR .none kV doc pm an cdv ct
gJ (Xa bM).map D.int
gK (XZ ns).map V.int
gL revObj l (JP-1)
gM Option vB->vC->Prop
gO List (κ×V)
gP .lst vs
gQ .lst []
gR .int h
gU qc (qh (XD.toE (q06 (XE.toD (q0f cZ z11 rfl z0 rfl z10 qfo)) (q0P (qe5 (XE.toD (q0f cZ z12 rfl z0 rfl z9 qcn)))))))
gW Xj as n
gX λG2 H i x H' d s0 s1 hd hy=>?_
gY XE.toV (qH Su aj)
gZ .str "go"
g8 of_decide_eq_true h
g9 o.keep x1"#
|'h'=>r#"hV .ref z
hW FnOk X.prog X.w X.K X.mg X.base CX0 k f fd ps (spD X.K 1 m)
hZ Y2 bh ig"#
|'i'=>r#"ib s _ _ h1
ig Y2 bn XF
ij .lst (es.map egD)
ik λi=>ns.getD i 0
im vK es X.env
io V->Option Int->Option Int->Hp->VK->Prop
ip List Key×vH×vB
iq .ref s2.heap.objs.size
ir .Name x pos
iu vV 2
iw upd H s.heap.objs.size (.tup [gc,x])
iy dOf (Y3 4)
iz Ne.symm hb
iC I.ok.hd hc
iD .ref it
iE .frz ob ci
iF xs.map D.int
iG s.heap.objs.size+1
iH (m:Int)
iI λG0 H0 G ω σ H out ω' E ow e k=>?_
iJ zCD CX P w K mg base N qual scope f cdv A outer s H E
iK zY _ rfl
iL upd H s.heap.objs.size Af
iN List vW
iO List Mv
iP .ref f
iQ ⟨rX,rX,I.base.free,λb o e hx=>?_,I.base.tups,I.base.frzs,I.base.tbls⟩
iR vV 3
iS XE.toD (Y6 E6 aj)
iT XE.toD (Y6 nU aj)
iU I.tok _
iV HOk P w H h
iW .tup [.lst J7,Vn]
iZ (.nx,ω.set i (some (.od (Wg ks k) (putA ks ds k d))))
i9 g.2-g.1"#
|'j'=>r#"ja rts bs g+lfs bs g+Wp (XQ h l bs g)
jb (k:Int)
jc b∈X.ex\/X.s₀.heap.objs.size<=b
jd BlkOk X N M frees scope
je ω.set i ↥d
jg dOf (Xx zCI (Y2 (vOf (XB zA8 (vOf (XB oIx aw ab3)) (vOf (XB oIx aw (vOf (zCu cI)))))) XF))
jh .int l
ji he pins s σ H _ I h
jj qw (Wi hr.units (XE.toV (qH cZ aj)) aj) (qc (qh (q0E (XE.toV (qH Sv aj)) aj))) qr
jm .builtin id
jn .ListComp elt [⟨target,iter,ifs,0⟩] scope pos
jo u4 z TI TO i1 i2 l1 l2
jp Srt b.toList
jq Srt a.toList
jr FoA h l bs F
jt Bool->Hp->Prop
ju vV 1
jv PE X o M8
jw vK [e] X.env
jx some (.od ks ds)
jy q1j λ_ _ _=>rfl
jA vM st1
jE .lst L0
jF .Tuple elts kx tpos
jG eval o X.env
jH List Pl
jI .ref t
jJ qy 0
jK e::es
jM SetTable.grown es1.size
jN .Compare a [op] [b] pos
jP vF ∅
jQ vF rfl
jR .int (as.getD k.toNat (0,0)).2
jS .int (as.getD k.toNat (0,0)).1
jT zF _ hx
jU Xr aA n
jW λG0 H0 G ω σ H ds R o e k=>?_
jX vOf (Xx Wj (Y2 aw XF))
jZ W6 (k:=k) h0 ∅ hk ?_
j6 Nat×List Int
j7 x ≠ "__name__" 
j8 v3 [] X.env
j9 tO ao X.A X.env X.xe"#
|'k'=>r#"kb kvsOf ks vs
kc kvs.any λkv=>decide Q5
kg X.mg "sorted" = none
kh WC K H0 G ω σ H
ki .bl false
kj .BoolOp .And (a::b::rest) pos
km oEq true
ko [↥bQ,↥kw,Iq,CG]
kq XE.toV (qt qq qG rfl z14 qF (ql E6 qp))
kr .lst lO
ku ⟨EX,kE⟩
kw .lst (P.map D.int)
ky vt CQ (λv s1 h1=>vt h1 (λitv s2 h2=>?_) λ_ _ q=>q) λ_ _ q=>q
kz XE.toV TV
kC XE.toD (xc c27 hr ar)
kD .int k
kE (qU _).mpr (.inr (.inr ⟨b,hb,HX⟩))
kF ⟨cX,r1,.inl DI,h2 G0 H0 G ω σ H d _ ow q λv G1 H1 x1 y1=>?_⟩
kG (r.2.length:Int)
kH (Sum.inl k':Key)
kI qm (i:=5) qv.nd rfl (Or.inl rfl) (XD.toE (XE.toD (Y6 (XE.toV (Y6 iu (vV 9))) aj)))
kJ blw b
kK base+i
kL Str.ofString "key"
kM List (Str×vH)
kN D->D->Option R
kO spliced ((false,eval _ X.env)::vj q1 bF)
kP ho pins s σ H _ I h
kQ ds.zip xs
kR binT ha hb I h λv u s2 x y H2 I2 rx ry q=>ho pins s2 σ H2 x y v u Q I2 rx ry q
kT Int->Nat
kU λj k fs gs m hj hk sj sk=>?_
kW λb hb=>?_
kX λ_ _=>q5R _ _ _
kY upd H p Jr
kZ mvN bs.length aA
k7 Xl 4 (eOf (dOf (XB X3 cG (vOf (XC q0n (Y2 cQ (Y2 fR (Y2 IH XF))))))))
k8 .BoolOp .And (b::rest) pos
k9 some (.pw es)"#
|'l'=>r#"lc kindOf st=uB
lf k<xs.toList.length
lg k _ _ bA e
lh (Sum.inl k:Key)
ln IntKeys a₀
lu Ext.refl o.gh
lw λx=>(ms.map λm=>xA x m.frm m.to).sum
lx α->Int
lC vq PyProof.Rows.slot_tuple_getitem ht.typeIs entry_tuple_getitem ?_ (sJ _ _)
lD vM st2
lE row.drop (j+1)++row.take j
lG [Ft,bR,none,none,x4.map W.sh]
lH Wi hr.units (XE.toV (qH (vV 7) aj)) aj
lI WS ks xss h
lJ x1.hh _ _ r2
lK Y1 mM (Y1 mL (Y1 (XE.toD (qdn q3g q7Q rfl z18 q0o To)) Y5))
lL ⟨rfl,rfl,rfl,rfl⟩
lM λa b=>f a<=f b
lN v8 e Oq pos.line X.env=pure false
lO cells.map D.int
lQ [↥bQ,KM,↥Lj,CG,x4]
lT Array dk
lU (.rt CD,ω)
lV (za n).filter λj=>decide Kq
lW (Y8 aF).map egO
lZ fd ω
l0 .bool true
l5 λG0 H0 G ω σ H out ω' E ow e kk=>?_
l6 zx (z7 Dj (I.ok.cab x c hfn hc))
l7 vOf (XB oIx aN aG)
l8 sQ a₀.size a₀.size 0
l9 p.2==NameKind.free"#
|'m'=>r#"ma k0==NameKind.free&&env.scope.kind == .function&&env.kindOf n==some .cell
md ["count", "lack"]
me Xb (gN 4) (Xb TR WF)
mf .lst ((zAb i (j-i).toNat).map V.int)
mh .done (.ret .none)
mi ym.mp hy
mj rows.map zAq
mm bs.map XJ
mo [(h,l)]
mq tm qual scope s.heap.objs.size f cd
mt Option Nat->vc->Prop
mv List nw
mw .type "set"
mE (.nx,ω.set i OZ)
mF .dic ks LS
mG .Call (.Name "reversed" p2) [a] [] q2
mH za bs.length
mI vz "tuple" vs.toArray 0
mJ vOf (Y3 7)
mK vD 3
mL vD 2
mM vD 1
mN Xr as n
mP List V->Hp->Prop
mQ I.hok.fresh bZ
mR (.rt (.sh d),ω)
mS .fr ((XZ ns).map D.int)
mT σ.set i nh
mU XE.toD (Y6 iR aj)
mV XE.toD (Y6 (XE.toV (Y6 cZ iu)) aj)
mW (gs.length:Int)-1
mX ["thing"]
mY Option cb
mZ ⟨_,e,rfl,n,rfl⟩
m6 λcdv A outer s H vs Q E hr h=>?_
m7 (.nx,ω.set i (some (.od [k] [d])))
m8 .Call (.Attribute (.Subscript o4b e1b q8) "append" a2) [e0b] [] c2
m9 ⟨(hb C s H fp).1.can,(hb C s H fp).2.1.can,(hb C s H fp).2.2.can⟩"#
|'n'=>r#"nc .lst nC
ng ⟨"tuple", _,PyProof.Rows.slot_tuple_getitem.lookup,ht.typeIs,?_⟩
nh some v
nj (NQ:List Str)
nn Xd X.prog X.w
nu (Sum.inl n:Key)
nv (Sum.inl a:Key)
nw Nat×Nat×Nat
ny HT.sIx xs.length 0 lo=0/\HT.sIx xs.length xs.length hi=xs.length
nA .Name "sorted" p
nB (zAb lo (hi-lo).toNat).map V.int
nC (XZ F).map D.int
nD ⟨_,_,rfl⟩
nE λl hl=>k _ G _ (Ext.hide s hl _) ⟨l,us,rfl,hl,s.free hl,qe,h2⟩
nF g i j
nG XE.toD (xc c25 hr ar)
nH List (κ×vB)
nJ HT.sIx xs.length 0 lo
nK F.map XY
nM D.pys ds
nN (0:Int)
nO .Call (.Attribute (.Subscript o4 e0 q7) "append" a1) [e1] [] c1
nP (arA h l bs F).map XJ
nQ ⟨_,iK,rfl,rfl⟩
nT λb o hb e=>(sb.2 b hb).trans e
nU vV 4
nV pv 3
nW k::r
nX gs.map gD
nY bI Ix+bI O3
nZ XE.toV bq
n8 X.mg "list" = none
n9 Binds X.K fd ps []"#
|'o'=>r#"oa .tup xs
oe .int s
og o7==0&&Ae==1&&cJ==items.size
oh V->List V->Hp->VK->Prop
oi λi ks ds h=>vO h aa1
oj z7 Dj I.ok.above
om dOf (XC q1C ai)
oo Xk (eOf (zAm (dOf (zAp .int aw)) (vNot (dOf (zAp .bl aw)))))
ou WSt->Prop
ox PE X e te
oy PE X a ta
oz I1.hok.fresh bZ
oC (.nx,ω.set i ↥(.int (g a b)))
oD .Name "list" p1
oE .Call (.Name "set" p2) [a] [] q2
oG ((sIx n 0 lo:Nat):Int)
oH λ_ _=>False
oI vM st3
oJ qw (qO (qE (XE.toV (q0f iR z20 rfl z0 rfl z18 q0o)))) bO qr
oK dOf (Y3 6)
oM a₀.size-lo
oN Xl 5 (eOf (dOf (XB oIx (vOf (XB oIx aN (vOf (Y3 9)))) aG)))
oO Xd P w
oP (pe.setIfInBounds i Nx).eraseIdxIfInBounds (i+1)
oQ zAw s.heap a Qe xs
oR uo ?_
oT some (.od [] [])
oU qaE (q19 jJ (q19 (qy 1) q5s))
oV Y1 OB (Y1 OC Y5)
oW Y1 (XE.toD (xc c33 hr ar)) Y5
oX W0 scope.names X.env.cells []
oY Vis X.env.scope x
oZ .call J2 HE
o7 ((sIx items.size 0 lo:Nat):Int)
o8 λj e hj=>?_"#
|'p'=>r#"pb vJ ⟨_,rfl,UE⟩
pd vB->vB->Sem vB
ph some (W.sh aR)
pi k _ G H dU rfl
pj XN K G ds vs
pr Unit->vC->Prop
pz RelV y u
pA Part bs h l ms
pB List (Str×ua)
pC GS ts es gs hs
pD Bool->vC->Prop
pE .int q.1
pF .UnaryOp .Not a pos
pG λ_=>D.bl true
pH xi x x (WP st) Vd FR .none kV doc pm an cdv ct
pI s.heap.IsSliceOf sl vl vu .none
pJ neq+1
pK PySem.F.args_tuple_add_2 _ _
pL List cg
pM [z,TI,TO,i1,i2,l1,l2]
pN Y1 cB dD
pO Around.under_plainId PyProof.Rows.F.plain_set_update_loop _
pP .lst ys
pQ ⟨o.ext.gg,Xg o.ext.gh h2 _,Xg o.ext.hh h3 _,o.ext.new⟩
pR λ_ _=>true
pS zAT (lo:=lo) (hi:=lo+nrem) ∅ ∅ ∅ λst4 W4 KK=>?_
pT walked h l bs ms g
pU vOf (XB oIx bG fP)
pV vOf (XB oIx aN aK)
pW v3 bp X.env
pX s1 _ _ (s0 _ _ h1)
pY kvsOf ks dC
pZ (false,eval b X.env)
p6 fC (.int 4)
p8 .int (((Y8 aF).map CS).sum+2*(F.map XY).sum)"#
|'r'=>r#"re xi name qual params body scope dV kV doc pm an cdv ct
rf vH×Obj
rg (i:Int)
rh (.nx,ω.set i (some (.ow ((ns.eraseIdx j).map D.int))))
ri ⟨∅,∅⟩
rj vOf (XB oMod (vOf (XB oDiv aN (fC (.int 4096)))) fL)
rn some (.ow [])
ro mvN bs.length aA n
rq min xs.size ys.size<=sizeLine
rA Y2 (dOf acE) (Y2 (dOf (XB oIx bG aG)) XF)
rB X.env.kindOf x=some .cell\/X.env.kindOf x=some .free
rC Wo X pins H a
rD ⟨rfl,_,_,rfl,∅,∅,∅,λi hi=>?_,λi hi hin=>?_⟩
rE s1.heap.objs.size+1
rF eval b X.env
rG XE.toD (Y6 nU (XE.toV (qH Su iR)))
rH XE.toD (Y6 ju aj)
rJ X.mg x=none
rK St->Hp->Prop
rL SetTable.below xs j
rM List Env
rN .int i t
rO ⟨l,_,rfl,x1.hh.free hl,x1.gh.free hl,qe,JV⟩
rP ⟨_,_,_,rfl⟩
rQ λe=>(u9 prog w).is x e.2
rR zAl s.heap z TI TO (uY t) f1
rS upd (zBd H ts us ws) S jE
rT [D0,↥BY,↥(.int tot),↥bP,Fj,↥bQ]
rV [.tup [df, Lj,acQ,acP]]
rW I.base.keep b o e n hb hx
rX λb o e n hb hx=>?_
rY λb hb=>(hf b hb).1
rZ no.ow i ds
r8 Xn Y5
r9 X.mg "range" = none"#
|'s'=>r#"sy X.fn x3=true\/X.env.scope.names.lookup x3=some .local"#
|_=>""
local macro_rules|`($x:ident)=>do
 let s:=x.getId.toString
 if s.length>3 then Lean.Macro.throwUnsupported
 match ((tB s.front).splitOn "\n").find? (·.startsWith (s++" ")) with
 |some l=>return (<-pT' 999 0 (l.toList.drop (s.length+1))).1
 |none=>Lean.Macro.throwUnsupported
set_option linter.all false
set_option maxRecDepth 100000
namespace L2
open PySem PySem.Spec PyProof.Rows
noncomputable abbrev Key:=Sum Int Str
noncomputable def zBX:Key->vB->Bool
 | .inl k,v=>Value.isInt k v
 | .inr x,v=>Value.isStrOf x v
noncomputable def keyH(w:vZ):Key->Int
 | .inl k=>sf k
 | .inr x=>hashStr w x
theorem qK:∀{k:Key}{v:vB},zBX k v=true->(∃i t,k=Sum.inl i/\v=Value.int i t)\/(∃x t,k=Sum.inr x/\v=Value.str x t)
 | .inl i,v,h=>by
  obtain⟨t,e⟩:=Value.isInt_shape (k:=i) (v:=v) h;exact .inl ⟨i,t,rfl,e⟩
 | .inr x,v,h=>by
  obtain⟨t,e⟩:=Value.isStrOf_shape (x:=x) (v:=v) h;exact .inr ⟨x,t,rfl,e⟩
theorem qew(i:Int)(t:Tok):zBX (.inl i) rN=true:=by simp[zBX,Value.isInt]
theorem qdX(x:Str)(t:Tok):zBX (.inr x) abG=true:=by simp[zBX,Value.isStrOf]
theorem qji(a b:Int):decide (nv=Sum.inl b)=(a==b):=by
 by_cases e:a=b
 ·subst e;simp
 ·have h:¬nv=Sum.inl b:=λq=>e (Sum.inl.inj q)
  rw[vX h];exact(beq_eq_false_iff_ne.mpr e).symm
theorem qjJ(a b:Str):decide (K4=Sum.inr b)=decide (a=b):=by
 by_cases e:a=b
 ·subst e;simp
 ·have h:¬K4=Sum.inr b:=λq=>e (Sum.inr.inj q)
  rw[vX h,vX e]
theorem qks(a:Int)(b:Str):decide (nv=Sum.inr b)=false:=vX (λq=>nomatch q)
theorem qka(a:Str)(b:Int):decide (K4=Sum.inl b)=false:=vX (λq=>nomatch q)
noncomputable def Xd(prog:vU)(w:vZ):PySem.KeyKind prog w Key where
 is:=zBX
 hash:=keyH w
 inj:=λv a b ha hb=>by
  rcases qK ha with⟨i,t,rfl,rfl⟩|⟨x,t,rfl,rfl⟩
  ·rcases qK hb with⟨j,u,rfl,e⟩|⟨y,u,rfl,e⟩
   ·injection e with e1 _;rw[e1]
   ·exact nomatch e
  ·rcases qK hb with⟨j,u,rfl,e⟩|⟨y,u,rfl,e⟩
   ·exact nomatch e
   ·injection e with e1 _;rw[e1]
 byValue:=λk v h=>by
  rcases qK h with⟨i,t,rfl,rfl⟩|⟨x,t,rfl,rfl⟩ <;> rfl
 pyHash:=λhv h=>by
  rcases qK hv with⟨i,t,rfl,rfl⟩|⟨x,t,rfl,rfl⟩
  ·exact wpAny_pyHash_int h
  ·exact wpAny_pyHash_str h
 eqBool:=λhu hv h=>by
  rcases qK hu with⟨i,t,rfl,rfl⟩|⟨x,t,rfl,rfl⟩
  ·rcases qK hv with⟨j,u,rfl,rfl⟩|⟨y,u,rfl,rfl⟩
   ·rw[qji]at h;exact wpAny_eqBool_int h
   ·rw[qks]at h;exact SeqAt.EqAt.int_str i t y u _ _ _ _ h
  ·rcases qK hv with⟨j,u,rfl,rfl⟩|⟨y,u,rfl,rfl⟩
   ·rw[qka]at h;exact SeqAt.EqAt.str_int x t j u _ _ _ _ h
   ·rw[qjJ]at h;exact wpAny_eqBool_str h
 «strs»:=λk x t v h=>by
  rcases qK h with⟨i,u,rfl,e⟩|⟨y,u,rfl,e⟩
  ·exact nomatch e
  ·injection e with e1 _
   subst e1;cases v <;> rfl
theorem qaU(prog:vU)(w:vZ)(i:Int)(t:Tok):(Xd prog w).is (.inl i) rN=true:=qew i t
theorem qaV(prog:vU)(w:vZ)(x:Str)(t:Tok):(Xd prog w).is (.inr x) abG=true:=qdX x t
inductive V where
 | non|bl (b:Bool)|int (i:Int)|str (x:Str)|byt (b:Array UInt8)|flt (b:UInt64)|ref (a:vH)|ty (n:String)
 deriving DecidableEq
def RelV:V->vB->Prop
 | .non,u=>u=Value.none
 | .bl b,u=>u=Value.bool b
 | .int i,u=>∃t,u=Value.int i t
 | .str x,u=>∃t,u=Value.str x t
 | .byt b,u=>∃t,u=Value.bytes b t
 | .flt b,u=>∃t,u=Value.float b t
 | .ref a,u=>u=Value.ref a
 | .ty n,u=>u=Value.type n
abbrev Xc:List V->List vB->Prop:=sT RelV
theorem Xc.length{xs:a8}{us:a0}(r:NT):xs.length=us.length:=Paired.length r
theorem Xc.get:∀{xs:a8}{us:a0}{i:Nat}{x:V},Xc xs us->xs[i]?=some x->∃u,us[i]?=some u/\RelV x u
 | _,_,_,_,.nil,e=>by simp at e
 | _,_,0,_,.cons r _,e=>by simp at e;subst e;exact OQ
 | _,_,i+1,x,.cons _ t,e=>by
  obtain⟨u,h1,h2⟩:=Xc.get (i:=i) (x:=x) t ⇑e;exact⟨u,by simpa using h1,h2⟩
theorem Xc.set{x:V}{u:vB}(r:Ua):∀{xs:a8}{us:a0}(i:Nat),Xc xs us->Xc (xs.set i x) (us.set i u)
 | _,_,_,.nil=>.nil
 | _,_,0,.cons _ t=>.cons r t
 | _,_,i+1,.cons q t=>.cons q (Xc.set r i t)
theorem Xc.append:∀{xs ys:a8}{us ws:a0},Xc xs us->Xc ys ws->Xc LU (us++ws)
 | _,_,_,_,.nil,s=>s
 | _,_,_,_,.cons r t,s=>.cons r (Xc.append t s)
theorem Xc.take:∀{xs:a8}{us:a0}(n:Nat),Xc xs us->Xc (xs.take n) (us.take n)
 | _,_,0,_=>.nil
 | _,_,_+1,.nil=>.nil
 | _,_,n+1,.cons r t=>.cons r (Xc.take n t)
theorem Xc.drop:∀{xs:a8}{us:a0}(n:Nat),Xc xs us->Xc (xs.drop n) (us.drop n)
 | _,_,0,r=>r
 | _,_,_+1,.nil=>.nil
 | _,_,n+1,.cons _ t=>Xc.drop n t
def zBa:Option V->Option vB->Prop
 | some v,some u=>RelV v u
 | none,none=>True
 | _,_=>False
def KV{κ:Type}:List (κ×V)->List (κ×vB)->Prop:=sT λ(p:κ×V) (q:κ×vB)=>p.1=q.1/\RelV p.2 q.2
noncomputable def kV:Key->V
 | .inl i=>.int i
 | .inr x=>.str x
inductive HO where
 
 | lst (xs:List V)
 
 | tup (xs:List V)
 
 | dK (kvs:List (Key×V))|dT (kvs:List (List Key×V))
 
 | set (S:Int->Bool) (n:Nat)
 
 | ins (C dx:vH) (fs:List (Str×V))
 
 | own (x:vH)
 
 | xd (fs:List (Str×V))
 
 | met (f x:vH)
 
 | rng (lo hi:Int)
 
 | frz (o:Obj) (u:HO)
 
 | tbl (ps:Array vB)
 
 | ext (φ:vk->Prop)
noncomputable abbrev Hp:=vH->Option HO
noncomputable def upd(H:Hp)(a:vH)(o:HO):Hp:=λb=>if b=a then some o else H b
theorem qe{H:Hp}{a:vH}{o:HO}:upd H a o a=some o:=by unfold upd;rw[jQ]
theorem qd{H:Hp}{a b:vH}{o:HO}(h:b≠a):upd H a o b=H b:=by unfold upd;rw[vG h]
theorem qkQ{H:Hp}{a b:vH}{o u:HO}(h:abA)(h':H b=some u)(d:o≠u):a≠b:=by
 intro e;subst e;rw[h]at h';exact d (zw h')
theorem q0A{H:Hp}{a b:vH}{o:HO}(h:abA)(h':H b=none):a≠b:=by
 intro e;subst e;rw[h]at h';cases h'
section
variable(P:vU)(w:vZ)
def Xh(H:Hp)(h:vk)(a:vH):HO->Prop
 | .lst xs=>xs.length<=sizeLine/\∃(its:a0) (n:Nat),Xc xs its/\h.get? a=some { cls:=.type "list", data:=.seq its.toArray n }
 | .tup xs=>xs.length<=sizeLine/\∃its:List vB,Xc xs its/\IsTup h a its.toArray
 | .dK kvs=>kvs.length<=sizeLine/\BA=false/\∃vs,KV kvs vs/\h.DictOf oO a vs
 | .dT kvs=>kvs.length<=sizeLine/\BA=false/\∃xs:List ip,
   sT (λ(p:Pl) (q:ip)=>p.1=q.1/\H q.2.1=some SF/\RelV p.2 q.2.2) kvs xs /\
   ∃o es ep,h.get? a=some o/\o.ExactDict/\o.data=.dict es ep/\es.toList=xs.map (entryOfKey (tN oO))/\(xs.map (·.1)).Nodup
 | .set S n=>h.SetOf (u9 P w) a S n
 | .ins C dx fs=>H dx=some MP/\fs.length<=1000/\dx≠a/\h.get? a=some (Zg C dx) /\
   ∃mA,h.Ns1 dx mA/\(∀f,zBa NI (mA f))/\PySem.Within mA (fs.map (·.1))
 | .own _=>∃o,h.get? a=some o
 | .xd fs=>∃mA,h.Ns1 a mA/\∀f,zBa NI (mA f)
 | .rng lo hi=>∃t u v,h.get? a=some { cls:=.type "range", data:=.fields #[A4,A5,DF] }
 | .frz o u=>h.get? a=some o/\Xh H h a u
 | .tbl ps=>h.get? a=some { cls:=.none,data:=.fields ps }
 | .met f x=>h.get? a=some (ZF iP (.ref x))
 | .ext φ=>φ h/\(∃o,h.get? a=some o)/\∀h1 h2:vk,φ h1->(∀o,h1.get? a=some o->h2.get? a=some o)->φ h2
def HOk(H:Hp)(h:vk):Prop:=∀a o,H a=some o->Xh P w H h a o
end
section
variable{P:vU}{w:vZ}{H H':Hp}{h h':vk}{a:vH}{o:HO}
theorem Xh.lt(x:Xh P w H h a o):a<h.objs.size:=by
 cases o with
 | lst xs=>obtain⟨_,_,_,_,e⟩:=x;exact zS e
 | tup xs=>obtain⟨_,_,_,p⟩:=x;exact p.lt
 | dK kvs=>obtain⟨_,_,_,_,o,_,_,e,_⟩:=x;exact zS e
 | dT kvs=>obtain⟨_,_,_,_,o,_,_,e,_⟩:=x;exact zS e
 | set S n=>obtain⟨o,_,_,_,e,_⟩:=x;exact zS e
 | ins C dx fs=>obtain⟨_,_,_,e,_⟩:=x;exact zS e
 | own y=>obtain⟨_,e⟩:=x;exact zS e
 | xd fs=>obtain⟨_,⟨_,_,_,e,_⟩,_⟩:=x;exact zS e
 | rng lo hi=>obtain⟨_,_,_,e⟩:=x;exact zS e
 | frz ob u=>obtain⟨e,_⟩:=x;exact zS e
 | tbl ps=>exact zS (show h.get? a=some _ from x)
 | met f y=>exact zS (show h.get? a=some _ from x)
 | ext φ=>obtain⟨_,⟨_,e⟩,_⟩:=x;exact zS e
theorem Paired.mapP{α β:Type}{F G:α->β->Prop}:∀{l₁:bB}{l₂:List β},sT F l₁ l₂->(∀a b,F a b->G a b)->sT G l₁ l₂
 | _,_,.nil,_=>.nil
 | _,_,.cons r t,f=>.cons (f _ _ r) (Paired.mapP t f)
theorem Xh.stay(x:Xh P w H h a o)(k:∀b u,(b=a\/H b=some MP)->h.get? b=some u->h'.get? b=some u)(ho:∀b,H b=some MP->H' b=some MP)(ht:∀b xs,H b=some oa->H' b=some oa):Xh P w H' h' a o:=by
 induction o with
 | lst xs=>obtain⟨z,its,n,r,e⟩:=x;exact⟨z,its,n,r,lg⟩
 | tup xs=>obtain⟨z,its,r,ob,e,c⟩:=x;exact⟨z,its,r,ob,lg,c⟩
 | dK kvs=>obtain⟨z,y,vs,r,ob,es,ep,e,c⟩:=x;exact⟨z,y,vs,r,ob,es,ep,lg,c⟩
 | dT kvs=>
  obtain⟨z,y,xs,r,ob,es,ep,e,c⟩:=x;exact⟨z,y,xs,Paired.mapP r λp q z=>LM,ob,es,ep,lg,c⟩
 | set S n=>obtain⟨ob,es,ep,t,e,c⟩:=x;exact⟨ob,es,ep,t,lg,c⟩
 | ins C dx fs=>
  obtain⟨d,z,ne,e,mA,⟨od,es,ep,e2,c⟩,r⟩:=x;exact⟨ho _ d,z,ne,lg,mA,⟨od,es,ep,k _ _ (.inr d) e2,c⟩,r⟩
 | own y=>obtain⟨ob,e⟩:=x;exact⟨ob,lg⟩
 | xd fs=>obtain⟨mA,⟨od,es,ep,e,c⟩,r⟩:=x;exact⟨mA,⟨od,es,ep,lg,c⟩,r⟩
 | rng lo hi=>obtain⟨t,u,v,e⟩:=x;exact⟨t,u,v,lg⟩
 | frz ob u ih=>obtain⟨e,q⟩:=x;exact⟨lg,ih q⟩
 | tbl ps=>
  have e:h.get? a=some { cls:=.none,data:=.fields ps }:=x;show h'.get? a=some { cls:=.none,data:=.fields ps };exact k a _ bA e
 | met f y=>
  have e:h.get? a=some aap:=x;show h'.get? a=some aap;exact k a _ bA e
 | ext φ=>obtain⟨p,⟨o,e⟩,st⟩:=x;exact⟨st _ _ p λo q=>k _ _ bA q,⟨o,lg⟩,st⟩
theorem HOk.lt(x:iV)(e:abA):a<h.objs.size:=(x a o e).lt
theorem HOk.fresh(x:iV)(e:NG):H a=none:=by
 cases q:H a with
 | none=>rfl
 | some u=>exact vO (z7 (x.lt q) e) Kf
theorem HOk.kept(x:iV)(k:∀b u,h.get? b=some u->h'.get? b=some u):HOk P w H h':=λa o e=>
 (x a o e).stay (λb u _ q=>k b u q) LQ λ_ _ q=>q
theorem HOk.laid(x:iV)(k:∀b u,h.get? b=some u->h'.get? b=some u)(hp:NG)(new:Xh P w Ez h' a o):HOk P w Ez h':=λb u e=>by
 have hn:=x.fresh hp
 by_cases hb:b=a
 ·subst hb;rw[qe]at e;cases e;exact new
 ·rw[qd hb]at e
  exact(x b u e).stay (λc v _ q=>k c v q) (λc q=>by rw[Cd];exact q) λc xs q=>by rw[Cd];exact q
end
def Rd(H:Hp)(a:vH)(u:HO):Prop:=H a=some u\/∃o,H a=some Uo
theorem Rd.ok{P:vU}{w:vZ}{H:Hp}{h:vk}{a:vH}{u:HO}(r:Rd H a u)(x:iV):Xh P w H h a u:=by
 rcases r with r|⟨o,r⟩
 ·exact x a u r
 ·obtain⟨_,q⟩:=x a _ r
  exact q
def Mut:Option HO->Prop
 | some (.lst _)=>True
 | some (.dK _)=>True
 | some (.dT _)=>True
 | some (.set _ _)=>True
 | some (.ins _ _ _)=>True
 | some (.ext _)=>True
 | _=>False
section
variable{P:vU}{w:vZ}{H:Hp}{h h':vk}{x e:vH}{o':HO}
theorem HOk.write(ok:iV)(mu:Mut (H x))(he:DR)(k:∀b u,b≠e->h.get? b=some u->h'.get? b=some u)(heo:∃u,h'.get? e=some u)(new:Xh P w (upd H x o') h' x o'):HOk P w (upd H x o') h':=λb u q=>by
 have nown:∀c y,H c=some (.own y)->c≠x:=λc y r z=>by subst z;rw[r]at mu;exact mu
 have ntup:∀c xs,H c=some oa->c≠x:=λc xs r z=>by subst z;rw[r]at mu;exact mu
 by_cases hb:b=x
 ·subst hb;rw[qe]at q;cases q;exact new
 ·rw[qd hb]at q
  by_cases hbe:b=e
  ·have q':H b=some (.own x):=by
    rcases he with z|z
    ·exact vO (hbe.trans z) hb
    ·rw[hbe];exact z
   rw[q]at q';cases q';obtain⟨v,hv⟩:=heo;exact⟨v,by rw[hbe];exact hv⟩
  ·refine(ok b u q).stay (λc v hc r=>k c v ?_ r) (λc r=>by rw[qd (nown c b r)];exact r) λc xs r=>by rw[qd (ntup c xs r)];exact r
   rcases hc with rfl|hc
   ·exact hbe
   ·rintro rfl
    rcases he with z|z
    ·exact nown c b hc z
    ·rw[hc]at z;cases z;exact hb rfl
end
structure Un (fs ex:List vH) (H H':Hp) (h h':vk):Prop where
 keep:∀b o,h.get? b=some o->H b=none->b∉fs->b∉ex->h'.get? b=some o
 slot:∀b o,h.get? b=some o->H b=none->b∈fs->b∉ex->∃sl,h'.get? b=some { o with slots:=sl }
 free:∀b o,h.get? b=some o->H b=none->b∉ex->H' b=none
 there:∀b o,h.get? b=some o->b∉ex->∃o',h'.get? b=some o'
 tups:∀b xs,H b=some (.tup xs)->H' b=some (.tup xs)
 frzs:∀b o u,H b=some (.frz o u)->H' b=some (.frz o u)
 tbls:∀b ps,H b=some (.tbl ps)->∃more,H' b=some (.tbl (ps++more))
section
variable{fs fs' ex ex':List vH}{H H1 H2:Hp}{h h1 h2 h':vk}{a x e:vH}{o:HO}
theorem Un.any(u:Un fs ex H H1 h h1){b:vH}{ob:Obj}(q:h.get? b=some ob)(n:H b=none)(hx:b∉ex):∃sl,h1.get? b=some { ob with slots:=sl }:=by
 by_cases hb:b∈fs
 ·exact u.slot b ob q n hb hx
 ·exact⟨ob.slots,u.keep b ob q n hb hx⟩
theorem Un.kept(k:∀b u,h.get? b=some u->h'.get? b=some u):Un fs ex H H h h' :=
 ⟨λb ob q _ _ _=>k b ob q,λb ob q _ _ _=>⟨ob.slots,k b ob q⟩,λ_ _ _ n _=>n,λb ob q _=>⟨ob,k b ob q⟩,λ_ _ q=>q,No,λ_ ps q=>⟨#[],by rw[q];simp⟩⟩
theorem Un.refl:Un fs ex H H h h:=Un.kept λ_ _ q=>q
theorem Un.laid(k:∀b u,h.get? b=some u->h'.get? b=some u)(hp:NG)(hn:H a=none):Un fs ex H Ez h h' where
 keep:=λb u q _ _ _=>k b u q
 slot:=λb u q _ _ _=>⟨u.slots,k b u q⟩
 free:=λb u q n _=>by rw[qd (zx (z7 (zS q) hp))];exact n
 there:=λb u q _=>⟨u,k b u q⟩
 tups:=λb xs q=>by rw[Cd];exact q
 frzs:=λb u xs q=>by rw[Cd];exact q
 tbls:=λb ps q=>⟨#[],by rw[Cd,q];simp⟩
theorem Un.write(mu:Mut (H x))(he:DR)(k:∀b u,b≠e->h.get? b=some u->h'.get? b=some u)(heo:∃u,h'.get? e=some u):Un fs ex H QS h h':=by
 have hx:∀b,H b=none->b≠x:=λb n z=>by subst z;rw[n]at mu;exact mu
 have hb:∀b,H b=none->b≠e:=λb n z=>by
  subst z;rcases he with r|r
  ·exact hx b n r
  ·rw[n]at r;cases r
 have hm:∀b u,H b=some u->¬Mut (some u)->b≠x:=λb u q nm z=>by subst z;rw[q]at mu;exact nm mu
 refine⟨λb u q n _ _=>k b u (hb b n) q,λb u q n _ _=>⟨u.slots,k b u (hb b n) q⟩,λb u q n _=>by rw[qd (hx b n)];exact n,λb u q _=>?_,
  λb xs q=>by rw[qd IC];exact q,λb u xs q=>by rw[qd IC];exact q,λb ps q=>⟨#[],by rw[qd IC,q];simp⟩⟩
 by_cases hbe:b=e
 ·subst hbe;exact heo
 ·exact⟨u,k b u hbe q⟩
end
noncomputable def trk(h:vk)(H:Hp):List vH:=(za h.objs.size).filter λa=>(H a).isSome
noncomputable def zCW(h:vk)(H:Hp):vk:=PySem.W.hideAll h VW
theorem qfe(h:vk)(H:Hp):(zCW h H).objs.size=h.objs.size:=PySem.W.hideAll_size _ _
theorem qgh{h:vk}{H:Hp}{b:vH}{o:Obj}(e:h.get? b=some o)(n:H b=none):(zCW h H).get? b=some o :=
 PySem.W.hideAll_get _ e λhm=>by
  have q:(H b).isSome=true:=(yG.mp hm).2;rw[n]at q;simp at q
theorem qhX{h:vk}{H:Hp}{b:vH}{o:Obj}(e:(zCW h H).get? b=some o):h.get? b=some o/\H b=none:=by
 have e':h.get? b=some o:=PySem.W.of_hideAll VW e;refine⟨e',?_⟩;cases q:H b with
 | none=>rfl
 | some x=>
  have hm:b∈trk h H:=yG.mpr ⟨yU.mpr (zS e'),by simp[q]⟩;have z:(zCW h H).get? b=none:=PySem.W.hideAll_none VW hm;rw[z]at e;cases e
noncomputable def zCp(g h:vk)(L:vH):List rf:=(za h.objs.size).filterMap λa=>if a=L\/(g.get? a).isSome=true then none else (h.get? a).map λo=>(a,o)
noncomputable def rest(g h:vk)(L d:vH):List rf:=(zCp g h L).filter λp=>decide (p.1≠d)
structure Mod (K:zC) (mg:Str->Option vB) (base:vk):Prop where
 kin:K.In base
 glob:base.Ns vY mg
 blt:∃mb,base.Ns builtinsNs mb/\∀x:Str,x ≠ "__name__" -> mb x=vm x
 nolimit:base.NoLimit
structure Cx where
 prog:vU
 w:vZ
 K:zC
 mg:Str->Option vB
 base:vk
 A:vf
 N:List Str
 s₀:vC
 H₀:Hp
 env:Env
 outer:List Env
 stack:List Env
 ex:List vH
 fn:Str->Bool
 calm:Bool
 pn:List (vH×Obj)
 xe:vB->vC->Prop
noncomputable def frs(l:rM):List vH:=l.filterMap (·.frame)
noncomputable abbrev Cx.fs(X:Cx):List vH:=frs X.outer
def Vis(sc:ux)(x:Str):Prop:=sc.names.lookup x=some .local\/sc.names.lookup x=some .cell\/sc.names.lookup x=some .free
def Loc(sc:ux)(x:Str):Prop:=sc.names.lookup x=some .local\/sc.names.lookup x=some .cell
def Look(env:Env)(h:vk)(m:bH)(x:Str)(u:vB):Prop :=
 (env.kindOf x=some .local/\m x=some u)\/((env.kindOf x=some .cell\/env.kindOf x=some .free)/\∃c,env.cells.lookup x=some c/\h.IsCell c (some u))
structure Cx.Ok (X:Cx):Prop where
 mod:Mod X.K X.mg X.base
 kind:X.env.scope.kind=.function
 glob:X.env.globals=vY
 blt:X.env.builtins=builtinsNs
 above:X.s₀.heap.objs.size<=X.env.locals
 inj:∀x y c,X.env.cells.lookup x=some c->X.env.cells.lookup y=some c->x=y
 has:∀x,(X.env.kindOf x=some .cell\/X.env.kindOf x=some .free)->∃c,X.env.cells.lookup x=some c
 cab:∀x c,X.fn x=true->X.env.cells.lookup x=some c->X.s₀.heap.objs.size<=c
 hd:X.calm=true->X.A.handled=none
 frames:X.A.frames=some X.stack
 stk:X.stack=X.outer\/(X.stack=X.env::X.outer/\X.env.frame=some X.env.locals)
 exf:∀b∈X.ex,b≠X.env.locals/\∀x c,X.env.cells.lookup x=some c->c≠b
 bs:∀b o,X.base.get? b=some o->X.s₀.heap.get? b=some o/\X.H₀ b=none
 bsz:X.base.objs.size<=X.s₀.heap.objs.size
 noex:∀b o,X.base.get? b=some o->b∉X.ex
 exfs:∀b∈X.ex,b∉X.fs
 funs:X.s₀.heap.FunFrames X.base X.outer
 frf:∀b∈X.fs,X.H₀ b=none
structure Inv (X:Cx) (pins:List (vH×Obj)) (σ:List (Option V)) (H:Hp) (s:vC):Prop where
 ok:X.Ok
 os:s.os=X.s₀.os
 bare:tK s.gens
 base:Un X.fs X.ex X.H₀ H X.s₀.heap s.heap
 loc:∃m,s.heap.Ns X.env.locals m/\∀(i:Nat)(x:Str)(v:V),X.N[i]?=some x->σ[i]?=some (some v)->Vis X.env.scope x->∃u,RelV v u/\Look X.env s.heap m x u
 cell:∀x c,X.env.cells.lookup x=some c->∃v,s.heap.IsCell c v
 free:H X.env.locals=none
 freeC:∀x c,X.env.cells.lookup x=some c->H c=none
 pin:∀p∈X.pn++pins,s.heap.get? p.1=some p.2/\H p.1=none/\p.1≠X.env.locals/\p.1∉X.fs/\∀v,p.2.data≠.cell v
 hok:HOk X.prog X.w H s.heap
 len:σ.length=X.N.length
section
variable{X:Cx}{pins:List (vH×Obj)}{σ:List (Option V)}{H H':Hp}{s:vC}{h':vk}
theorem Cx.Ok.nofr(ok:X.Ok){b:vH}{o:Obj}(e:X.base.get? b=some o):b∉X.fs:=λhb=>by
 have:=(ok.funs.mem hb).1;rw[e]at this;cases this
theorem Inv.bs(I:aq):∀b o,X.base.get? b=some o->s.heap.get? b=some o/\H b=none:=λb o e=>
 ⟨I.base.keep b o (I.ok.bs b o e).1 (I.ok.bs b o e).2 (I.ok.nofr e) Vh,I.base.free b o (I.ok.bs b o e).1 (I.ok.bs b o e).2 Vh⟩
theorem Inv.bk(I:aq):∀b o,X.base.get? b=some o->s.heap.get? b=some o:=λb o e=>(I.bs b o e).1
theorem Inv.mod(I:aq):Mod X.K X.mg X.base:=I.ok.mod
theorem Inv.kIn(I:aq):X.K.In s.heap:=I.ok.mod.kin.keeps I.bk
theorem Inv.lt(I:aq):X.env.locals<s.heap.objs.size:=let ⟨_,hn,_⟩:=I.loc;hn.lt
theorem Inv.sz(I:aq):X.s₀.heap.objs.size<=s.heap.objs.size:=yD I.ok.above (ye I.lt)
theorem Inv.nofs(I:aq){a:vH}(h:UK):a∉X.fs:=λhb=>by
 obtain⟨_,o,ho,_⟩:=I.ok.funs.mem hb;exact vO (z7 (zS ho) (yD I.sz h)) Kf
theorem Inv.cne(I:aq):∀x c,X.env.cells.lookup x=some c->c≠X.env.locals:=λx c e z=>by
 obtain⟨v,o,ho,hd⟩:=I.cell x c e;obtain⟨m,⟨o',es,ep,ho',hd',_⟩,_⟩:=I.loc;rw[z,ho']at ho;cases ho;rw[hd']at hd;cases hd
theorem Inv.funs(I:aq):s.heap.FunFrames X.base X.outer:=by
 have all:∀(l:rM),(∀b∈frs l,b∈X.fs)->X.s₀.heap.FunFrames X.base l->s.heap.FunFrames X.base l:=by
  intro l
  induction l with
  | nil=>intro _ _;trivial
  | cons env r ih=>
   intro hs hl;obtain⟨hk,⟨L,o,hf,hn,ho,hd⟩,hr⟩:=hl;have hL:L∈X.fs:=hs L (by unfold frs;rw[xn,hf];exact zE);obtain⟨sl,e⟩:=I.base.slot L o ho (I.ok.frf L hL) hL λz=>I.ok.exfs L z hL;exact⟨hk,⟨L,_,hf,hn,e,hd⟩,ih (λb hb=>hs b (by unfold frs;rw[xn,hf];exact zF _ hb)) hr⟩
 exact all X.outer (λ_ hb=>hb) I.ok.funs
theorem Inv.stack(I:aq):s.heap.FunFrames X.base X.stack:=by
 rcases I.ok.stk with e|⟨e,hf⟩
 ·rw[e];exact I.funs
 ·rw[e]
  obtain⟨m,hn,_⟩:=I.loc;refine .cons (by rw[I.ok.kind];decide) hf hn ?_ I.funs;exact Heap.get?_none_of_le (yD I.ok.bsz I.ok.above)
theorem Inv.stkSub(I:aq):∀b∈frs X.stack,b∈X.env.locals::X.fs:=λb hb=>by
 rcases I.ok.stk with e|⟨e,hf⟩
 ·rw[e]at hb;exact zF _ hb
 ·rw[e]at hb
  unfold frs at hb;rw[xn,hf]at hb;exact hb
theorem Inv.stkFree(I:aq):∀b∈frs X.stack,H b=none:=λb hb=>by
 rcases zH.mp (I.stkSub b hb)with e|hb
 ·rw[e];exact I.free
 ·obtain⟨_,o,ho,_⟩:=I.ok.funs.mem hb
  exact I.base.free b o ho (I.ok.frf b hb) λz=>I.ok.exfs b z hb
theorem Inv.step{g':Array tf}{t':Nat}{d':sU}{ch:dh}(I:aq)(hch:∀b∈ch,jc/\b≠X.env.locals/\(∀x c,X.env.cells.lookup x=some c->c≠b)/\∀p∈X.pn++pins,p.1≠b)(keep:∀b o,b≠X.env.locals->b∉X.fs->b∉ch->s.heap.get? b=some o->H b=none->h'.get? b=some o)(slot:∀b o,b≠X.env.locals->b∈X.fs->b∉ch->s.heap.get? b=some o->H b=none->∃sl,h'.get? b=some { o with slots:=sl })(free:∀b o,b∉ch->s.heap.get? b=some o->H b=none->H' b=none)(there:∀b o,b∉ch->s.heap.get? b=some o->∃o',h'.get? b=some o')(tups:∀b xs,H b=some oa->H' b=some oa)(frzs:∀b o u,H b=some Uo->H' b=some Uo)(tbls:∀b ps,H b=some (.tbl ps)->∃more,H' b=some (.tbl (ps++more)))(ns:∀m,s.heap.Ns X.env.locals m->h'.Ns X.env.locals m)(hok:Gj)(hg:tK g'):
  Inv X pins σ H' { s with heap:=h',gens:=g',drawn:=d',toks:=t' }:=by
 have neL:∀b o,X.s₀.heap.get? b=some o->b≠X.env.locals:=λb o e=>zx oj;have neC:∀b o,X.s₀.heap.get? b=some o->b∉X.ex->b∉ch:=λb o e hx hb=>by
  rcases (hch b hb).1 with z|z
  ·exact hx z
  ·exact vO (z7 Dj z) Kf
 have cellK:∀x c,X.env.cells.lookup x=some c->∀v,s.heap.IsCell c v->h'.IsCell c v:=λx c e v ⟨o,ho,hd⟩=>by
  have nch:c∉ch:=λz=>(hch c z).2.2.1 x c e rfl
  by_cases hc:c∈X.fs
  ·obtain⟨sl,q⟩:=slot c o (I.cne x c e) hc nch ho Ld
   exact⟨_,q,hd⟩
  ·exact⟨o,keep c o (I.cne x c e) hc nch ho Ld,hd⟩
 refine⟨I.ok,I.os,hg,⟨rX,rX,λb o e n hx=>?_,λb o e hx=>?_,λb xs e=>tups b xs (I.base.tups b xs e),λb o xs e=>frzs b o xs (I.base.frzs b o xs e),λb ps e=>?_⟩,?_,λx c e=>?_,?_,λx c e=>?_,Ba,hok,I.len⟩
 ·exact keep b o (neL b o e) hb EH rW BH
 ·obtain⟨sl,e1⟩:=I.base.slot b o e n hb hx
  obtain⟨sl',e2⟩:=slot b _ (neL b o e) hb EH e1 BH;exact⟨sl',e2⟩
 ·obtain⟨o',e1⟩:=I.base.there b o e hx
  exact free b o' EH e1 BH
 ·obtain⟨o',e1⟩:=I.base.there b o e hx
  exact there b o' EH e1
 ·obtain⟨m1,e1⟩:=I.base.tbls b ps e
  obtain⟨m2,e2⟩:=tbls b _ e1;exact⟨m1++m2,by rw[e2,Array.append_assoc]⟩
 ·obtain⟨m,hn,hl⟩:=I.loc
  refine⟨m,ns m hn,S4⟩;obtain⟨u,r,l⟩:=hl i x v e1 e2 e3;refine⟨u,r,?_⟩;rcases l with l|⟨k,c,e,z⟩
  ·exact .inl l
  ·exact .inr ⟨k,c,e,cellK x c e _ z⟩
 ·obtain⟨v,z⟩:=I.cell x c e
  exact⟨v,cellK x c e v z⟩
 ·obtain⟨m,⟨o,_,_,ho,_⟩,_⟩:=I.loc
  exact free _ o (λz=>(hch _ z).2.1 rfl) ho I.free
 ·obtain⟨v,o,ho,hd⟩:=I.cell x c e
  exact free c o (λz=>(hch c z).2.2.1 x c e rfl) ho Ld
 ·obtain⟨e,n,ne,nf,d⟩:=I.pin p hp
  have nch:p.1∉ch:=λz=>(hch p.1 z).2.2.2 p hp rfl;exact⟨keep p.1 p.2 ne nf nch e n,free p.1 p.2 nch e n,ne,nf,d⟩
theorem Inv.un{t':Nat}(I:aq)(u:Un X.fs [] H H' s.heap h')(hok:Gj):Inv X pins σ H' { s with heap:=h',toks:=t' }:=by
 obtain⟨m,⟨o,es,ep,ho,r⟩,_⟩:=id I.loc;obtain⟨sl,hL⟩:=u.any ho I.free (by simp);exact I.step (g':=s.gens) (d':=s.drawn) (ch:=[]) (λ_ z=>nomatch z) (λb o _ hb _ e n=>u.keep b o e n hb (by simp)) (λb o _ hb _ e n=>u.slot b o e n hb (by simp)) (λb o _ e n=>u.free b o e n (by simp)) (λb o _ e=>u.there b o e (by simp)) u.tups u.frzs u.tbls (λm' hm=>by
  obtain⟨o',es',ep',ho',r'⟩:=hm;rw[ho]at ho';cases ho';exact RV) hok I.bare
theorem Inv.call{g':Array tf}{t':Nat}{d':sU}{ch:dh}(I:aq)(u:Un NJ ch H H' s.heap h')(hok:Gj)(hg:tK g')(hch:∀b∈ch,jc/\b≠X.env.locals/\(∀x c,X.env.cells.lookup x=some c->c≠b)/\∀p∈X.pn++pins,p.1≠b):
  Inv X pins σ H' { s with heap:=h',gens:=g',drawn:=d',toks:=t' }:=by
 obtain⟨m,⟨o,es,ep,ho,r⟩,_⟩:=id I.loc;obtain⟨sl,hL⟩:=u.any ho I.free λz=>(hch _ z).2.1 rfl;exact I.step (ch:=ch) hch (λb o hL hb hc e n=>u.keep b o e n (λz=>(zH.mp (I.stkSub b z)).elim hL hb) hc) (λb o _ _ hc e n=>u.any e n hc) (λb o hc e n=>u.free b o e n hc) (λb o hc e=>u.there b o e hc) u.tups u.frzs u.tbls (λm' hm=>by
  obtain⟨o',es',ep',ho',r'⟩:=hm;rw[ho]at ho';cases ho';exact RV) hok hg
theorem Inv.turned{t':Nat}{it:vH}(I:aq)(k:∀b o,b≠it->s.heap.get? b=some o->h'.get? b=some o)(hn:H it=none)(hL:it≠X.env.locals)(h1:it∈X.ex\/X.s₀.heap.objs.size<=it)(h2:∀x c,X.env.cells.lookup x=some c->c≠it)(h3:∀p∈X.pn++pins,p.1≠it):Inv X pins σ H { s with heap:=h',toks:=t' }:=by
 have nit:∀b u,H b=some u->b≠it:=λb u e z=>by rw[z,hn]at e;cases e
 refine I.step (g':=s.gens) (d':=s.drawn) (ch:=[it]) kW (λb o _ _ hc e _=>k b o (λz=>hc (by simp[z])) e) (λb o _ _ hc e _=>⟨o.slots,k b o (λz=>hc (by simp[z])) e⟩) VC
  (λb o hc e=>⟨o,k b o (λz=>hc (by simp[z])) e⟩) (λ_ _ e=>e) abX (λb ps e=>⟨#[],by rw[e];simp⟩) QE (λb u e=>?_) I.bare
 ·have e:b=it:=by simpa using hb
  subst e;exact⟨h1,hL,h2,h3⟩
 ·obtain⟨o,es,ep,ho,r⟩:=hm
  exact⟨o,es,ep,k _ o (Ne.symm hL) ho,r⟩
 ·refine(I.hok b u e).stay Nm LQ λ_ _ q=>q
  rcases hc with z|z
  ·rw[z];exact nit b u e
  ·exact nit c _ z
theorem Inv.tok(I:aq)(t:Nat):Inv X pins σ H { s with toks:=t }:=I.un (h':=s.heap) (t':=t) Un.refl I.hok
theorem Inv.kept{t':Nat}(I:aq)(k:∀b u,s.heap.get? b=some u->h'.get? b=some u):Inv X pins σ H { s with heap:=h',toks:=t' }:=I.un (Un.kept k) (I.hok.kept k)
theorem Inv.laid{a:vH}{o:HO}{t':Nat}(I:aq)(k:∀b u,s.heap.get? b=some u->h'.get? b=some u)(hp:UK)(new:Xh X.prog X.w Ez h' a o):
  Inv X pins σ Ez { s with heap:=h',toks:=t' }:=I.un (Un.laid k hp (I.hok.fresh hp)) (I.hok.laid k hp new)
theorem Inv.write{x e:vH}{o:HO}{t':Nat}(I:aq)(mu:Mut (H x))(he:DR)(k:∀b u,b≠e->s.heap.get? b=some u->h'.get? b=some u)(heo:∃u,h'.get? e=some u)(new:Xh X.prog X.w QS h' x o):Inv X pins σ QS { s with heap:=h',toks:=t' }:=I.un (Un.write mu he k heo) (I.hok.write mu he k heo new)
theorem Inv.pins_of{pins':ay}(I:aq)(h:∀p∈pins',s.heap.get? p.1=some p.2/\H p.1=none/\p.1≠X.env.locals/\p.1∉X.fs/\∀v,p.2.data≠.cell v):Inv X pins' σ H s :=
 ⟨I.ok,I.os,I.bare,I.base,I.loc,I.cell,I.free,I.freeC,λp hp=>(zM.mp hp).elim (λz=>I.pin p QH) (h p),I.hok,I.len⟩
theorem qaH{N:dN}(hN:N.Nodup){i j:Nat}{x:Str}(a:N[i]?=some x)(b:N[j]?=some x):i=j:=by
 obtain⟨h1,e1⟩:=zj.mp a;obtain⟨h2,e2⟩:=zj.mp b;exact(wU hN).mp (e1.trans e2.symm)
theorem q8h{M:Model}{A:vf}{E:aM}{i:Nat}{x:Str}{v:V}{u:vB}{Q:pr}(I:aq)(hN:X.N.Nodup)(hi:X.N[i]?=some x)(hx:eQ)(r:Ub)(h:∀s',Inv X pins mT H s'->(∃a,xh a s.heap s'.heap/\(a=X.env.locals\/X.env.cells.lookup x=some a))->Q () s')(hf:aL:=by first|exact .inl rfl|exact .inr rfl|assumption):vP M A PU Q E s:=by
 obtain⟨m,hn,hl⟩:=id I.loc;have hcls:(X.env.scope.kind == .class || (X.env.scope.kind == .module&&X.env.locals != X.env.globals))=false:=by rw[I.ok.kind];rfl
 have hiσ:i<σ.length:=by rw[I.len];exact(zj.mp hi).1
 have cne:=I.cne;have tracked:∀{a:vH}{h':vk},(∃o,s.heap.get? a=some o/\H a=none)->xh a s.heap h'->HOk X.prog X.w H h':=λ{a h'} ha hs b ob e=>by
  obtain⟨_,_,hfree⟩:=ha;refine(I.hok b ob e).stay (λc w' hc q=>(hs.2 c ?_).trans q) LQ λ_ _ q=>q;rintro rfl;rcases hc with rfl|hc
  ·rw[hfree]at e;cases e
  ·rw[hfree]at hc;cases hc
 rcases hx with hk|hk
 ·refine wpAny_storeName_local hk hn (λh' hn' hs=>?_) hcls
  obtain⟨oL,_,_,hoL,_⟩:=id hn;refine h _ ⟨I.ok,I.os,I.bare,iQ,⟨_,hn',R0⟩,λy c e=>?_,I.free,I.freeC,Ba,tracked ⟨oL,hoL,I.free⟩ hs,by simpa using I.len⟩ ⟨_,hs,bA⟩
  ·exact(hs.2 b (zx oj)).trans rW
  ·obtain⟨sl,e1⟩:=I.base.slot b o e n hb hx
   exact⟨sl,ON⟩
  ·obtain⟨o',e1⟩:=I.base.there b o e hx
   exact⟨o',ON⟩
  ·by_cases hj:j=i
   ·subst hj
    rw[hi]at e1;cases e1;rw[yk hiσ]at e2;cases e2;exact⟨u,r,.inl ⟨hk,by simp⟩⟩
   ·rw[zN (Ne.symm hj)]at e2
    obtain⟨u',r',q⟩:=hl j y v' e1 e2 e3;refine⟨u',r',?_⟩;rcases q with⟨k,e⟩|⟨k,c,e,z⟩
    ·refine .inl ⟨k,?_⟩
     have:y≠x:=λe=>hj (qaH hN e1 (e▸hi));simp[this,e]
    ·exact .inr ⟨k,c,e,OU⟩
  ·obtain⟨w',z⟩:=I.cell y c e
   exact⟨w',OU⟩
  ·obtain⟨e,n,ne,nf,d⟩:=I.pin p hp
   exact⟨(hs.2 p.1 ne).trans e,n,ne,nf,d⟩
 ·have hfn:X.fn x=true:=by
   rcases hf with z|z
   ·exact z
   ·rw[z]at hk;cases hk
  obtain⟨c,hc⟩:=I.ok.has x (.inl hk);obtain⟨w',z⟩:=I.cell x c hc;refine wpAny_storeName_cell I.ok.kind hk hc z (λh' hc' hs=>?_);obtain⟨oc,hoc,hocd⟩:=id z;refine h { s with heap:=h' } ⟨I.ok,I.os,I.bare,iQ,⟨m,hn.sameBut hs (Ne.symm (cne x c hc)),R0⟩,λy c' e=>?_,I.free,I.freeC,Ba,tracked ⟨oc,hoc,I.freeC x c hc⟩ hs,by simpa using I.len⟩ ⟨c,hs,.inr hc⟩
  ·exact(hs.2 b l6).trans rW
  ·obtain⟨sl,e1⟩:=I.base.slot b o e n hb hx
   exact⟨sl,Ut⟩
  ·obtain⟨o',e1⟩:=I.base.there b o e hx
   exact⟨o',Ut⟩
  ·by_cases hj:j=i
   ·subst hj
    rw[hi]at e1;cases e1;rw[yk hiσ]at e2;cases e2;exact⟨u,r,.inr ⟨.inl hk,c,hc,hc'⟩⟩
   ·rw[zN (Ne.symm hj)]at e2
    obtain⟨u',r',q⟩:=hl j y v' e1 e2 e3;refine⟨u',r',?_⟩;rcases q with q|⟨k,c',e,z'⟩
    ·exact .inl q
    ·refine .inr ⟨k,c',e,z'.sameBut hs ?_⟩
     rintro rfl;exact hj (qaH hN e1 (I.ok.inj _ _ _ e hc▸hi))
  ·by_cases hcc:c'=c
   ·subst hcc;exact⟨_,hc'⟩
   ·obtain⟨w2,z2⟩:=I.cell y c' e
    exact⟨w2,z2.sameBut hs hcc⟩
  ·obtain⟨e,n,ne,nf,d⟩:=I.pin p hp
   refine⟨(hs.2 p.1 ?_).trans e,n,ne,nf,d⟩;intro q;rw[q,hoc]at e;have q':oc=p.2:=zw e;exact d w' (by rw[<- q'];exact hocd)
theorem q6x{M:Model}{A:vf}{E:aM}{i:Nat}{x:Str}{v:V}{u:vB}{Q:pr}(I:aq)(hN:X.N.Nodup)(hi:X.N[i]?=some x)(hx:eQ)(r:Ub)(h:∀s',Inv X pins mT H s'->Q () s')(hf:aL:=by first|exact .inl rfl|exact .inr rfl|assumption):vP M A PU Q E s :=
 q8h I hN hi hx r (λs' I' _=>h s' I') hf
theorem Inv.call'{s':vC}{ch:dh}(I:aq)(ho:s'.os=s.os)(u:Un NJ ch H H' s.heap s'.heap)(hok:HOk X.prog X.w H' s'.heap)(hg:tK s'.gens)(hch:∀b∈ch,jc/\b≠X.env.locals/\(∀x c,X.env.cells.lookup x=some c->c≠b)/\∀p∈X.pn++pins,p.1≠b):Inv X pins σ H' s':=by
 obtain⟨h',g',d',t',o'⟩:=s';have e:o'=s.os:=ho;subst e;exact I.call (g':=g') (t':=t') (d':=d') u hok hg hch
end
abbrev XK:=vB->Option vH->Hp->Prop
noncomputable abbrev St:=List Ad
abbrev VK:=V->Hp->Prop
abbrev TE:=St->Hp->VK->Prop
abbrev TT:=St->Hp->jt->Prop
abbrev TA:=St->Hp->mP->Prop
structure Ends where
 nx:St->Hp->Prop
 rt:VK
 bk:St->Hp->Prop:=λ_ _=>False
 ct:St->Hp->Prop:=λ_ _=>False
abbrev TS:=Ends->St->Hp->Prop
def EP(X:Cx)(pins:ay)(σ:St)(Q:VK)(u:vB)(s':vC):Prop:=∃v H',Inv X pins σ H' s'/\RelV v u/\Q v H'
def TP(X:Cx)(pins:ay)(σ:St)(Q:jt)(b:Bool)(s':vC):Prop:=∃H',Inv X pins σ H' s'/\Q b H'
def AP(X:Cx)(pins:ay)(σ:St)(Q:mP)(us:a0)(s':vC):Prop:=∃vs H',Inv X pins σ H' s'/\Xc vs us/\Q vs H'
def SP(X:Cx)(pins:ay)(D:Ends)(f:Flow)(s':vC):Prop :=
 match f with
 | .next=>∃σ' H',Inv X pins σ' H' s'/\D.nx σ' H'
 | .brk=>∃σ' H',Inv X pins σ' H' s'/\D.bk σ' H'
 | .cont=>∃σ' H',Inv X pins σ' H' s'/\D.ct σ' H'
 | .ret u=>∃v σ' H',Inv X pins σ' H' s'/\RelV v u/\D.rt v H'
def PE(X:Cx)(e:vW)(t:TE):Prop :=
 ∀(pins:ay)(s:vC)(σ:St)(H:Hp)(Q:VK),Inv X pins σ H s->t σ H Q->vP ao X.A Mm cv X.xe s
def PT(X:Cx)(e:vW)(t:TT):Prop :=
 ∀(pins:ay)(s:vC)(σ:St)(H:Hp)(Q:jt),Inv X pins σ H s->t σ H Q->vP ao X.A (si e X.env Mm) Cj X.xe s
def PW(X:Cx)(e:vW)(t:TT):Prop :=
 ∀(whole:Sem vB)(pins:ay)(s:vC)(σ:St)(H:Hp)(Q:jt),Inv X pins σ H s->t σ H Q->vP ao X.A (si e X.env whole) Cj X.xe s
theorem PW.pt{X:Cx}{e:vW}{t:TT}(h:PW X e t):PT X e t:=h _
def PA(X:Cx)(es:iN)(t:TA):Prop :=
 ∀(pos:Pos)(pins:ay)(s:vC)(σ:St)(H:Hp)(Q:mP),Inv X pins σ H s->t σ H Q->vP ao X.A (spliced (vj pos im)) aaB X.xe s
def PS(X:Cx)(st:vp)(t:TS):Prop :=
 ∀(pins:ay)(s:vC)(σ:St)(H:Hp)(D:Ends),Inv X pins σ H s->t D σ H->vP ao X.A (exec st X.env) (SP X pins D) X.xe s
def PSs(X:Cx)(st:Ck)(t:TS):Prop :=
 ∀(pins:ay)(s:vC)(σ:St)(H:Hp)(D:Ends),Inv X pins σ H s->t D σ H->vP ao X.A (execs st X.env) (SP X pins D) X.xe s
theorem thn{α:Type}{t:Sem α}{Q Q':α->vC->Prop}{M:Model}{A:vf}{E:aM}{s:vC}(h:vP M A t Q E s)(hQ:∀a s,Q a s->Q' a s):vP M A t Q' E s:=vt h hQ λ_ _ x=>x
section
variable{X:Cx}
noncomputable def Xu(i:Nat):TE:=λσ H Q=>∃v,σ[i]?=some nh/\Q v H
noncomputable def tC(v:V):TE:=λ_ H Q=>Q v H
theorem qko{i:Nat}{x:Str}{pos:Pos}(hN:X.N[i]?=some x)(hv:oY)(hd:aJ:=by decide)(hcd:ge:=by decide):PE X ir M8:=by
 intro pins s σ H Q I h;obtain⟨v,e,h⟩:=h;obtain⟨m,hn,hl⟩:=I.loc;obtain⟨u,r,l⟩:=hl i x v hN e hv;have fin:EP X pins σ Q u s:=LN;rcases l with⟨hk,hm⟩|⟨hk,c,hc,hcell⟩
 ·exact wpAny_Name (tj I.ok.kind hk hn hm fin) hd
 ·rcases hk with hk|hk
  ·exact wpAny_Name (sF I.ok.kind hk hc hcell fin) hd
  ·exact wpAny_Name (wpAny_loadName_free I.ok.kind hk hc hcell fin hcd) hd
theorem qja{i j pos}:PE X RK (tC gc):=λ_ _ _ H _ I h=>wpAny_Constant_int ⟨gc,H,iU,bw,h⟩
theorem qkw{b j pos}:PE X LJ (tC IW):=λ_ _ _ H _ I h=>Constant_bool ⟨IW,H,I,rfl,h⟩
theorem qj5{x j pos}:PE X RL (tC GN):=λ_ _ _ H _ I h=>Calls.Constant_str ⟨GN,H,iU,bw,h⟩
def Gl(X:Cx)(x:Str):Prop:=X.env.kindOf x=some .globalImplicit
theorem qbo{E:aM}{pins:ay}{s:vC}{σ:St}{H:Hp}{x:Str}{u:vB}{pos:Pos}{Q:aM}(I:aq)(hg:Au)(hm:X.mg x=some u)(h:Q u s)(hd:aJ:=by decide):vP ao X.A abd Q E s :=
 Calls.Name_function_global I.ok.kind hg (Calls.loadGlobal_global (by rw[I.ok.glob];exact I.mod.glob.keeps I.bk) hm h) hd
theorem q0q{E:aM}{pins:ay}{s:vC}{σ:St}{H:Hp}{x:Str}{u:vB}{pos:Pos}{Q:aM}(I:aq)(hg:Au)(hm:rJ)(hv:vm x=some u)(h:Q u s)(hn:j7:= by decide)(hd:aJ:=by decide):vP ao X.A abd Q E s:=by
 obtain⟨mb,h1,h2⟩:=I.mod.blt;exact Calls.Name_function_global I.ok.kind hg (Calls.loadGlobal_builtin (by rw[I.ok.glob];exact I.mod.glob.keeps I.bk) hm (by rw[I.ok.blt];exact h1.keeps I.bk) ((h2 x hn).trans hv) h) hd
theorem qi8{x:Str}{v:V}{u:vB}{pos:Pos}(hg:Au)(hm:X.mg x=some u)(r:Ub)(hd:aJ:=by decide):PE X ir (tC v) :=
 λ_ _ _ H _ I h=>qbo I hg hm LN hd
theorem qi6{x:Str}{v:V}{u:vB}{pos:Pos}(hg:Au)(hm:rJ)(hv:vm x=some u)(r:Ub)(hn:j7:= by decide)(hd:aJ:=by decide):PE X ir (tC v) :=
 λ_ _ _ H _ I h=>q0q I hg hm hv LN hn hd
variable{a b:vW}{ta tb:TE}{pos:Pos}
def PC(X:Cx)(op:sV)(a b:vW)(t:TE):Prop :=
 ∀(pins:ay)(s:vC)(σ:St)(H:Hp)(Q:VK),Inv X pins σ H s->t σ H Q ->
  vP ao X.A acu (λv s₁=>vP ao X.A rF (λu s₂=>vP ao X.A (uP op v u) cv X.xe s₂) X.xe s₁) X.xe s
theorem zCO(b:vW){op:sV}(h:op≠.In)(h2:op≠.NotIn):uE op b=false:=by
 have e1:acj=false:=by cases op <;> first|rfl|exact vO rfl h
 have e2:US=false:=by cases op <;> first|rfl|exact vO rfl h2
 cases b <;> simp[uE,e1,e2]
noncomputable def tB(t:TE):TT:=λσ H Q=>t σ H λx H1=>∃c,x=.bl c/\Q c H1
theorem qjf{op:sV}{t:TE}(h:PC X op a b t)(h1:B9:=by first|exact zCO _ (by decide) (by decide)|rfl):PT X jN (tB t):=by
 intro pins s σ H Q I hw;refine tX (thn O9 λv s1 h1=>thn h1 λu s2 h2=>thn h2 λc s3 ⟨x,H1,I1,r1,q1⟩=>?_) h1;obtain⟨d,rfl,q⟩:=q1;cases r1;exact uR ⟨H1,I1,q⟩
variable{tA tB':TT}{rest:List vW}
noncomputable def tAnd(t u:TT):TT:=λσ H Q=>t σ H λc H1=>if c=true then u σ H1 Q else Q false H1
noncomputable def tOr(t u:TT):TT:=λσ H Q=>t σ H λc H1=>if c=true then Q true H1 else u σ H1 Q
noncomputable def tNot(t:TT):TT:=λσ H Q=>t σ H λc H1=>Q (!c) H1
theorem qhN(ha:K7):PW X Pv tA:=by
 intro wh pins s σ H Q I h;refine isTrue_and Dl;cases c with
 | true=>exact isTrue_and_nil e
 | false=>exact e
theorem qdM(ha:K7):PW X Qr tA:=by
 intro wh pins s σ H Q I h;refine isTrue_or Dl;cases c with
 | false=>exact isTrue_or_nil e
 | true=>exact e
theorem qjV(ha:K7)(hb:PW X k8 tB'):PW X kj (tAnd tA tB'):=by
 intro wh pins s σ H Q I h;refine isTrue_and (thn cW λc s1 ⟨H1,I1,q1⟩=>?_);cases c with
 | true=>exact hb wh pins s1 σ H1 Q I1 q1
 | false=>exact⟨H1,I1,q1⟩
theorem qhw(ha:K7)(hb:PW X LK tB'):PW X J5 (tOr tA tB'):=by
 intro wh pins s σ H Q I h;refine isTrue_or (thn cW λc s1 ⟨H1,I1,q1⟩=>?_);cases c with
 | true=>exact⟨H1,I1,q1⟩
 | false=>exact hb wh pins s1 σ H1 Q I1 q1
theorem qjn(ha:K7):PT X pF (tNot tA):=by
 intro pins s σ H Q I h;exact isTrue_not (ha pins s σ H (λc H1=>Q (!c) H1) I h)
noncomputable def tAndV(ta tb:TE):TE:=λσ H Q=>ta σ H λx H1=>∃c,x=.bl c/\if c=true then tb σ H1 Q else Q ki H1
noncomputable def tNotV(ta:TE):TE:=λσ H Q=>ta σ H λx H1=>∃c,x=.bl c/\Q (.bl (!c)) H1
theorem qkt{op}{t:TE}(h:PE X a t):PE X RM t:=λpins s σ H Q I hw=>BoolOp_one (h pins s σ H Q I hw)
theorem qjI(ha:oy)(hb:PE X k8 tb):PE X kj (tAndV ta tb):=by
 intro pins s σ H Q I h;refine BoolOp_and (thn cW λv s1 ⟨x,H1,I1,r1,q1⟩=>?_);obtain⟨c,rfl,q1⟩:=q1;cases r1;refine uR ?_;cases c with
 | true=>exact hb pins s1 σ H1 Q I1 q1
 | false=>exact⟨ki,H1,I1,rfl,q1⟩
theorem qkf(ha:oy):PE X pF (tNotV ta):=by
 intro pins s σ H Q I h;refine UnaryOp_ (thn cW λv s1 ⟨x,H1,I1,r1,q1⟩=>?_);obtain⟨c,rfl,q1⟩:=q1;cases r1;exact not_of (uR ⟨.bl (!c),H1,I1,rfl,q1⟩)
noncomputable def tIf(t:TT)(ta tb:TE):TE:=λσ H Q=>t σ H λc H1=>if c=true then ta σ H1 Q else tb σ H1 Q
theorem qfZ{c:vW}(hc:PT X c tA)(ha:oy)(hb:Hw):PE X Uq (tIf tA ta tb):=by
 intro pins s σ H Q I h;refine wpAny_IfExp (thn O8 λd s1 ⟨H1,I1,q1⟩=>?_);cases d with
 | true=>exact ha pins s1 σ H1 Q I1 q1
 | false=>exact hb pins s1 σ H1 Q I1 q1
end
def SqL(K:zC)(H:Hp)(a:vH)(xs:a8):Prop :=
 Rd H a eF \/
  ∃(o:Obj) (its:dw) (n:Nat),K.lookup a=some o/\o.cls=.type "list" /\ o.dict=none/\o.data=.seq its n/\its.size<=sizeLine/\Xc xs its.toList
def SqT(K:zC)(H:Hp)(a:vH)(xs:a8):Prop :=
 Rd H a oa \/
  ∃(o:Obj) (its:dw) (n:Nat),K.lookup a=some o/\o.cls=.type "tuple" /\ o.data=.seq its n/\its.size<=sizeLine/\Xc xs its.toList
noncomputable def absV:vB->Option V
 | .none=>some .non
 | .bool b=>some IW
 | .int i _=>some gc
 | .str x _=>some GN
 | .bytes b _=>some (.byt b)
 | .float b _=>some (.flt b)
 | .ref a=>some du
 | .type n=>some (.ty n)
 | _=>none
theorem RelV.abs{x:V}{u:vB}(r:Ua):absV u=some x:=by
 cases x with
 | non=>cases r;rfl
 | bl _=>cases r;rfl
 | int _=>obtain⟨t,rfl⟩:=r;rfl
 | str _=>obtain⟨t,rfl⟩:=r;rfl
 | byt _=>obtain⟨t,rfl⟩:=r;rfl
 | flt _=>obtain⟨t,rfl⟩:=r;rfl
 | ref _=>cases r;rfl
 | ty _=>cases r;rfl
theorem RelV.inj{x y:V}{u:vB}(r:Ua)(q:pz):x=y:=zw (r.abs.symm.trans q.abs)
theorem Xc.inj:∀{xs ys:a8}{us:a0},Xc xs us->Xc ys us->xs=ys
 | _,_,_,.nil,.nil=>rfl
 | _,_,_,.cons r t,.cons r' t'=>by rw[r.inj r',Xc.inj t t']
section
variable{X:Cx}{pins:List (vH×Obj)}{σ:St}{H:Hp}{s:vC}{a:vH}{xs ys:List V}
theorem SqL.of{K:zC}(h:H a=some eF):SqL K H a xs:=.inl (.inl h)
theorem SqT.of{K:zC}(h:H a=some oa):SqT K H a xs:=.inl (.inl h)
theorem Inv.list(I:aq)(h:SqL X.K H a xs):∃its:List vB,Xc xs its/\PlainL s.heap a its.toArray/\xs.length<=sizeLine:=by
 rcases h with h|⟨o,its,n,hk,hc,hd,hs,hz,r⟩
 ·obtain⟨z,its,n,r,e⟩:=h.ok I.hok
  exact⟨its,r,⟨_,n,e,rfl,rfl,rfl⟩,z⟩
 ·refine⟨its.toList,r,⟨o,n,I.kIn a o hk,hc,hd,by simpa using hs⟩,?_⟩
  have e:=r.length;simp only[zP]at e;omega
theorem Inv.tuple(I:aq)(h:SqT X.K H a xs):∃its:List vB,Xc xs its/\IsTup s.heap a its.toArray/\xs.length<=sizeLine:=by
 rcases h with h|⟨o,its,n,hk,hc,hs,hz,r⟩
 ·obtain⟨z,its,r,p⟩:=h.ok I.hok
  exact⟨its,r,p,z⟩
 ·refine⟨its.toList,r,⟨o,I.kIn a o hk,hc,n,by simpa using hs⟩,?_⟩
  have e:=r.length;simp only[zP]at e;omega
theorem Inv.list_inj(I:aq)(h:SqL X.K H a xs)(h':SqL X.K H a ys):xs=ys:=by
 obtain⟨its,r,⟨o,n,e,_,_,d⟩,_⟩:=I.list h;obtain⟨its',r',⟨o',n',e',_,_,d'⟩,_⟩:=I.list h';rw[e]at e';cases e';rw[d]at d';injection d' with d1 _;have:its=its':=by simpa using v7 Yy d1
 subst this;exact r.inj r'
theorem Inv.tuple_inj(I:aq)(h:SqT X.K H a xs)(h':SqT X.K H a ys):xs=ys:=by
 obtain⟨its,r,⟨o,e,_,n,d⟩,_⟩:=I.tuple h;obtain⟨its',r',⟨o',e',_,n',d'⟩,_⟩:=I.tuple h';rw[e]at e';cases e';rw[d]at d';injection d' with d1 _;have:its=its':=by simpa using v7 Yy d1
 subst this;exact r.inj r'
end
noncomputable abbrev Cx.wish(X:Cx)(E:aM):Cx:={ X with xe:=E }
noncomputable abbrev Cx.nox(X:Cx):Cx:=X.wish λ_ _=>False
theorem Cx.Ok.wish{X:Cx}(ok:X.Ok)(E:aM):(X.wish E).Ok :=
 fB
theorem Cx.Ok.unwish{X:Cx}{E:aM}(ok:(X.wish E).Ok):X.Ok :=
 fB
section
variable{X:Cx}{pins:List (vH×Obj)}{σ:St}{H:Hp}{s:vC}{E:vB->vC->Prop}
theorem Inv.wish(I:aq)(E:aM):Inv T7 pins σ H s:=⟨I.ok.wish E,I.os,I.bare,I.base,I.loc,I.cell,I.free,I.freeC,I.pin,I.hok,I.len⟩
theorem Inv.unwish(I:Inv T7 pins σ H s):Inv X pins σ H s:=⟨I.ok.unwish,I.os,I.bare,I.base,I.loc,I.cell,I.free,I.freeC,I.pin,I.hok,I.len⟩
theorem SP.unwish{D:Ends}{f:Flow}{s':vC}(h:SP T7 pins D f s'):SP X pins D f s':=by
 cases f with
 | next=>obtain⟨σ',H',I,q⟩:=h;exact CF
 | brk=>obtain⟨σ',H',I,q⟩:=h;exact CF
 | cont=>obtain⟨σ',H',I,q⟩:=h;exact CF
 | ret u=>obtain⟨v,σ',H',I,r,q⟩:=h;exact⟨v,σ',H',I.unwish,r,q⟩
theorem PSs.nox{st:Ck}{t:TS}(h:PSs X.nox st t):PSs X st t:=λpins s σ H D I hw=>
 vt (h pins s σ H D (I.wish _) hw) (λ_ _ q=>q.unwish) λ_ _ z=>False.elim z
end
section
variable{X:Cx}{st:vp}{rest:List vp}{t u:TS}{e:vW}{te:TE}{pos:Pos}
noncomputable def tNext:TS:=λD σ H=>D.nx σ H
noncomputable def zBc(t u:TS):TS:=λD σ H=>t { D with nx:=u D } σ H
theorem qiJ:PSs X [] tNext:=λ_ _ σ H _ I h=>u6 ⟨σ,H,I,h⟩
theorem qI(h1:PS X st t)(h2:PSs X rest u):PSs X (st::rest) (zBc t u):=by
 intro pins s σ H D I h;refine wpAny_execs_cons (thn (h1 pins s σ H { D with nx:=u D } I h) λf s1 q=>?_);cases f with
 | next=>
  obtain⟨σ',H',I',q⟩:=q;exact h2 pins s1 σ' H' D I' q
 | ret v=>exact q
 | brk=>exact q
 | cont=>exact q
theorem q0K(h1:PS X st t):PSs X [st] t:=by
 intro pins s σ H D I h;refine wpAny_execs_cons (thn (h1 pins s σ H D I h) λf s1 q=>?_);cases f with
 | next=>exact u6 q
 | ret v=>exact q
 | brk=>exact q
 | cont=>exact q
theorem Inv.quiet{pins:ay}{σ:St}{H:Hp}{s:vC}(I:aq):interactive X.env=false:=by simp[interactive,I.ok.kind]
noncomputable def zB2(te:TE):TS:=λD σ H=>te σ H λ_ H1=>D.nx σ H1
theorem q17(he:ox)(hs:HK:=by rfl):PS X (.Expr e pos) (zB2 te):=by
 intro pins s σ H D I h;exact wpAny_Expr_any (thn ji λv s1 ⟨x,H1,I1,r1,q1⟩=>⟨σ,H1,I1,q1⟩) I.quiet hs
noncomputable def tRet(te:TE):TS:=λD σ H=>te σ H D.rt
theorem q5l(he:ox):PS X Dg (tRet te):=by
 intro pins s σ H D I h;exact wpAny_Return_some (thn ji λv s1 ⟨x,H1,I1,r1,q1⟩=>⟨x,σ,H1,I1,r1,q1⟩)
noncomputable def tIfS(c:TT)(t u:TS):TS:=λD σ H=>c σ H λb H1=>if b=true then t D σ H1 else u D σ H1
theorem qhg{c:vW}{a b:Ck}{tc:TT}(hc:PT X c tc)(ha:PSs X a t)(hb:PSs X b u):PS X abN (tIfS tc t u):=by
 intro pins s σ H D I h;refine wpAny_If (thn O8 λd s1 ⟨H1,I1,q1⟩=>?_);cases d with
 | true=>exact ha pins s1 σ H1 D I1 q1
 | false=>exact hb pins s1 σ H1 D I1 q1
noncomputable def tNever:TS:=λ_ _ _=>False
theorem qfA:PS X st tNever:=λ_ _ _ _ _ _ h=>h.elim
end
abbrev TG:=V->St->Hp->rK->Prop
abbrev TGs:=List V->St->Hp->rK->Prop
def PG(X:Cx)(target:vW)(t:TG):Prop :=
 ∀(pins:ay)(s:vC)(σ:St)(H:Hp)(v:V)(u:vB)(Q:rK),Inv X pins σ H s->RelV v u->t v σ H Q ->
  vP ao X.A (assign target X.env u) (λ_ s'=>∃σ' H',Inv X pins σ' H' s'/\Q σ' H') X.xe s
def PGs(X:Cx)(ts:iN)(t:TGs):Prop :=
 ∀(pins:ay)(s:vC)(σ:St)(H:Hp)(vs:a8)(us:a0)(Q:rK),Inv X pins σ H s->Xc vs us->t vs σ H Q ->
  vP ao X.A (assignInOrder ((uS ts X.env).map (·.2)) us) (λ_ s'=>∃σ' H',Inv X pins σ' H' s'/\Q σ' H') X.xe s
abbrev TIp:=V->V->Hp->VK->Prop
def PIp(X:Cx)(op:sL)(t:TIp):Prop :=
 ∀(pins:ay)(s:vC)(σ:St)(H:Hp)(x y:V)(v u:vB)(Q:VK),Inv X pins σ H s->RelV x v->RelV y u->t x y H Q ->
  vP ao X.A (inplaceOp op v u) cv X.xe s
section
variable{X:Cx}{pos:Pos}
noncomputable def WU(i:Nat):TG:=λv σ H Q=>Q mT H
theorem q42{i:Nat}{x:Str}(hN:X.N.Nodup)(hi:X.N[i]?=some x)(hx:eQ)(hf:aL:=by first|exact .inl rfl|exact .inr rfl|assumption):PG X ir (WU i):=by
 intro pins s σ H v u Q I r h;exact wpAny_assign_Name (q6x I hN hi hx r (λs' I'=>⟨_,H,I',h⟩) hf)
noncomputable def gNil:TGs:=λvs σ H Q=>vs=[]/\Q σ H
noncomputable def gCons(t:TG)(u:TGs):TGs:=λvs σ H Q=>∃v r,vs=v::r/\t v σ H λσ' H'=>u r σ' H' Q
theorem qbB:PGs X [] gNil:=by
 intro pins s σ H vs us Q I r h;obtain⟨e,h⟩:=h;subst e;cases r;exact assignInOrder_nil ⟨σ,H,I,h⟩
theorem q6F{e:vW}{es:iN}{t:TG}{u:TGs}(h1:PG X e t)(h2:PGs X es u)(hs:(uS jK X.env).map (·.2)=assign e X.env::(uS es X.env).map (·.2):=by rfl):PGs X jK (gCons t u):=by
 intro pins s σ H vs us Q I r h;obtain⟨v,vr,e1,h⟩:=h;subst e1;cases r with
 | cons r rr=>
  rw[hs];refine assignInOrder_cons (thn (h1 pins s σ H _ _ _ I r h) λ_ s1 ⟨σ1,H1,I1,q1⟩=>?_);exact h2 pins s1 σ1 H1 _ _ Q I1 rr q1
noncomputable def gTup(K:zC)(n:Nat)(t:TGs):TG:=λv σ H Q=>∃a xs,v=.ref a/\SqT K H a xs/\xs.length=n/\t xs σ H Q
theorem qe0{es:iN}{k:Nat}{t:TGs}{n:Nat}(hc:cE)(h:PGs X es t)(hn:RO:=by rfl)(hst:(uS es X.env).findIdx? (·.1)=none:=by rfl):PG X Vp (gTup X.K n t):=by
 intro pins s σ H v u Q I r hw;obtain⟨a,xs,e1,hq,hl,hw⟩:=hw;subst e1;cases r;obtain⟨its,rv,ht,hz⟩:=I.tuple hq;refine assign_Tuple_tuple iC ht (by simp[hn,<- hl,rv.length]) hst λh' hx=>?_;have I1:Inv X pins σ H { s with heap:=h' }:=I.kept (t':=s.toks) λb o e=>hx b o (zx Dj) e;exact h pins _ σ H xs _ Q I1 ⇑rv hw
noncomputable def zBE(te:TE)(g:TG):TS:=λD σ H=>te σ H λx H1=>g x σ H1 D.nx
theorem qjl{tg e:vW}{te:TE}{g:TG}(he:ox)(hg:PG X tg g)(hs:Cb:=by rfl)(hw:G8:=by rfl)(h1:(uS [tg] X.env).map (·.2)=abf:=by rfl):PS X RN (zBE te g):=by
 intro pins s σ H D I h;refine wpAny_Assign_stores (thn ji λv s1 ⟨x,H1,I1,r1,q1⟩=>?_) hs hw;rw[h1];exact thn (hg pins s1 σ H1 x v _ I1 r1 q1) λ_ s2 q=>q
theorem q0d{i:Nat}{x:Str}{e:vW}{te:TE}{pos':Pos}(hN:X.N.Nodup)(hi:X.N[i]?=some x)(hx:eQ)(he:ox)(hs:lN:=by rfl)(hf:aL:=by first|exact .inl rfl|exact .inr rfl|assumption):
  PS X EW (zBE te (WU i)):=by
 intro pins s σ H D I h;refine wpAny_Assign_Name (thn ji λv s1 ⟨y,H1,I1,r1,q1⟩=>?_) hs;exact q6x I1 hN hi hx r1 (λs2 I2=>⟨_,H1,I2,q1⟩) hf
noncomputable def tAug(i:Nat)(te:TE)(ti:TIp):TS:=λD σ H=>∃x,σ[i]?=some (some x)/\te σ H λy H1=>ti x y H1 λz H2=>D.nx (σ.set i (some z)) H2
theorem qkr{i:Nat}{x:Str}{e:vW}{te:TE}{op:sL}{ti:TIp}{pos':Pos}(hN:X.N.Nodup)(hi:X.N[i]?=some x)(hx:eQ)(he:ox)(ho:PIp X op ti)(hf:aL:=by first|exact .inl rfl|exact .inr rfl|assumption):
  PS X Ob (tAug i te ti):=by
 intro pins s σ H D I h;obtain⟨v,e1,h⟩:=h;obtain⟨m,hn,hl⟩:=I.loc;have vis:Vis X.env.scope x:=by rcases hx with k|k;exact .inl k;exact .inr (.inl k)
 obtain⟨u,r,l⟩:=hl i x v hi e1 vis;refine wpAny_AugAssign_Name ?_;have go:vP ao X.A Mm (λw s₂=>vP ao X.A (inplaceOp op u w) (λr s₃=>vP ao X.A (storeName X.env x r) (λ_=>SP X pins D .next) X.xe s₃) X.xe s₂) X.xe s:=by
  refine thn ji λw s1 ⟨y,H1,I1,r1,q1⟩=>?_;refine thn (ho pins s1 σ H1 v y u w _ I1 r r1 q1) λz s2 ⟨zv,H2,I2,r2,q2⟩=>?_;exact q6x I2 hN hi hx r2 (λs3 I3=>⟨_,H2,I3,q2⟩) hf
 rcases l with⟨hk,hm⟩|⟨hk,c,hc,hcell⟩
 ·exact tj I.ok.kind hk hn hm go
 ·rcases hk with hk|hk
  ·exact sF I.ok.kind hk hc hcell go
  ·rcases hx with k|k
   ·have:X.env.scope.names.lookup x=some .free:=hk
    rw[k]at this;cases this
   ·have:X.env.scope.names.lookup x=some .free:=hk
    rw[k]at this;cases this
noncomputable def ipI(f:fT):TIp:=λx y H Q=>∃i j,x=.int i/\y=.int j/\Q (.int (f i j)) H
theorem qjE:PIp X .Add (ipI λi j=>i+j):=by
 intro pins s σ H x y v u Q I r1 r2 h;obtain⟨i,j,e1,e2,q⟩:=h;subst e1;subst e2;obtain⟨t,rfl⟩:=r1;obtain⟨t',rfl⟩:=r2;exact iadd_int ⟨.int _,H,iU,bw,q⟩
end
section
variable{X:Cx}{pos:Pos}
noncomputable def zBo(c:TT)(tb:TS):TS:=λD σ H=>∃W:Nat->St->Hp->Prop,(∃m,W m σ H)/\∀m σ H,W m σ H ->
 c σ H λb H1=>if b=true then ∃N:St->Hp->Prop,(∀σ' H',N σ' H'->∃m',m'<m/\W m' σ' H')/\tb { D with nx:=N,ct:=N,bk:=D.nx } σ H1 else D.nx σ H1
theorem qai{c:vW}{body:Ck}{tc:TT}{tb:TS}(hp:j9)(hc:PT X c tc)(hb:PSs X body tb):PS X Pu (zBo tc tb):=by
 intro pins s σ H D I h;obtain⟨W,⟨m0,w0⟩,turn⟩:=h;refine wpAny_While (codeAny_whileLoop (λn s'=>∃σ' H',Inv X pins σ' H' s'/\W n σ' H') ?_ m0 ⟨σ,H,I,w0⟩);rintro n s1 ⟨σ1,H1,I1,w1⟩;refine uQ hp (thn (hc pins s1 σ1 H1 _ I1 (turn n σ1 H1 w1)) λb s2 ⟨H2,I2,q2⟩=>?_);cases b with
 | true=>
  obtain⟨N,hN,q2⟩:=q2;rw[jQ];refine uQ hp (thn (hb pins s2 σ1 H2 _ I2 q2) λf s3 q3=>?_);cases f with
  | next=>
   obtain⟨σ3,H3,I3,n3⟩:=q3;obtain⟨m',hm,w3⟩:=hN σ3 H3 n3;exact OP
  | cont=>
   obtain⟨σ3,H3,I3,n3⟩:=q3;obtain⟨m',hm,w3⟩:=hN σ3 H3 n3;exact OP
  | brk=>exact q3
  | ret v=>exact q3
 | false=>
  rw[vG yO];exact u6 ⟨σ1,H2,I2,q2⟩
end
structure It where
 go:Nat->Hp->Prop
 yld:Nat->Hp->V->Hp->Prop
 stop:Nat->Hp->Prop
def Wo(X:Cx)(pins:ay)(H:Hp)(b:vH):Prop :=
 H b=none/\b≠X.env.locals/\b∉X.fs/\jc/\(∀x c,X.env.cells.lookup x=some c->c≠b)/\∀p∈X.pn++pins,p.1≠b
theorem Inv.fpOk{X:Cx}{pins:ay}{σ:St}{H H':Hp}{s:vC}{b:vH}(I:aq)(hb:s.heap.objs.size<=b)(hn:H' b=none):Wo X pins H' b:=by
 refine⟨hn,wC (z7 I.lt hb),I.nofs hb,.inr (yD I.sz hb),λx c e z=>?_,λp hp z=>?_⟩
 ·obtain⟨v,q⟩:=I.cell x c e
  exact vO (z7 q.lt (by rw[z];exact hb)) Kf
 ·exact vO (z7 (zS (I.pin p hp).1) (by rw[z];exact hb)) Kf
structure Turn (P:vU) (w:vZ) (K:zC) (tg:vW) (J:It) (fp:List vH) (it:vH) (tn:Nat->vk->Prop):Prop where
 mem:it∈fp
 obj:∀i h,tn i h->∀b∈fp,∃o,h.get? b=some o/\∀v,o.data≠.cell v
 keep:∀i h h',tn i h->(∀b∈fp,∀o,h.get? b=some o->h'.get? b=some o)->tn i h'
 item:∀(X:Cx),X.prog=P->X.w=w->X.K=K->X.calm=true->∀(i:Nat)(pins:List (vH×Obj))(s:vC)(σ:St)(H:Hp)(E:vB->vC->Prop),Inv X pins σ H s->(∀b∈fp,Wo X pins H b)->tn i s.heap->J.go i H ->
  vP (model P w) X.A (uU (.ref it)) (λr s1=>∃u,r=some u /\
   vP (model P w) X.A (u7 tg (.ref it) u) (λ_ s2=>∃x H',Inv X pins σ H' s2/\RelV x u/\J.yld i H x H'/\tn (i+1) s2.heap/\∀b∈fp,H' b=none) E s1) E s
 done:∀(X:Cx),X.prog=P->X.w=w->X.K=K->X.calm=true->∀(i:Nat)(pins:List (vH×Obj))(s:vC)(σ:St)(H:Hp)(E:vB->vC->Prop),Inv X pins σ H s->(∀b∈fp,Wo X pins H b)->tn i s.heap->J.stop i H ->
  vP (model P w) X.A (uU (.ref it)) (λr s1=>r=none/\Inv X pins σ H s1) E s
 self:∀(A:vf)(i:Nat)(s:vC)(Q:vB->vC->Prop)(E:vB->vC->Prop),tn i s.heap->Q (.ref it) s->vP (model P w) A (sm (.ref it)) Q E s
abbrev TI:=St->Hp->Da->Prop
def PIE(X:Cx)(pins:ay)(σ:St)(tg:vW)(R:Da)(itv:vB)(s2:vC):Prop :=
 ∃(it:vH) (fp:dh) (tn:Nat->vk->Prop) (J:It) (H':Hp),itv=.ref it/\Inv X pins σ H' s2/\Turn X.prog X.w X.K tg J fp it tn/\tn 0 s2.heap/\(∀b∈fp,Wo X pins H' b)/\R J H'
def PI(X:Cx)(tg iter:vW)(wi:TI):Prop :=
 ∀(pins:ay)(s:vC)(σ:St)(H:Hp)(R:Da),Inv X pins σ H s->wi σ H R ->
  vP ao X.A (eval iter X.env) (λv s1=>vP ao X.A (sm v) Ru X.xe s1) X.xe s
theorem q8X{M:Model}{A:vf}{E:aM}{s:vC}{tg:vW}{it:vH}{u:vB}{o:Obj}{n:String}{vs:dw}{Q:pr}(ho:s.heap.get? it=some o)(hc:o.cls=.type n)(hd:o.data=.fields vs)(hn:["enumerate", "zip", "dict_itemiterator", "dict_reverseitemiterator", "odict_iterator", "itertools.zip_longest", "itertools.pairwise"].contains n=false)(hQ:Q () s):vP M A (u7 tg iD u) Q E s:=by
 unfold u7;cases tg <;> first
  | exact vJ hQ
  | (cases u <;> first
    | exact vJ hQ
    | (refine vA (wpAny_load ho ?_)
       rw[hc,hd];show vP M A (if (["enumerate", "zip", "dict_itemiterator", "dict_reverseitemiterator", "odict_iterator", "itertools.zip_longest", "itertools.pairwise"].contains n&&vs[0]?==some (uY _))=true then _ else _) Q E s;rw[vG (by intro h;rw[hn,wq]at h;cases h)];exact vJ hQ))
noncomputable def Itl(K:zC)(a:vH):It :=
 ⟨λi H=>∃xs x,SqL K H a xs/\xs[i]?=some x,λi H x H'=>H'=H/\∀xs,SqL K H a xs->xs[i]?=some x,λi H=>∃xs,SqL K H a xs/\xs.length<=i⟩
noncomputable def Itt(K:zC)(a:vH):It :=
 ⟨λi H=>∃xs x,SqT K H a xs/\xs[i]?=some x,λi H x H'=>H'=H/\∀xs,SqT K H a xs->xs[i]?=some x,λi H=>∃xs,SqT K H a xs/\xs.length<=i⟩
noncomputable def Itr(lo:Int)(n:Nat):It:=⟨λi _=>i<n,λi H x H'=>H'=H/\x=.int Cf,λi _=>n<=i⟩
theorem qeE{P:vU}{w:vZ}{K:zC}{tg:vW}(a it:vH):Turn P w K tg abx [it] it (λi h=>h.IsListIter it a i) where
 mem:=by simp
 obj:=λi h st b hb=>by
  have e:b=it:=by simpa using hb
  subst e;obtain⟨o,e,c,d⟩:=st;exact⟨o,e,λv z=>by rw[d]at z;cases z⟩
 keep:=λi h h' st k=>st.at λo e=>k it (by simp) o e
 item:=by
  intro X hP hw hK hc i pins s σ H E I hf st hg;subst hP hw hK;obtain⟨xs,x,hq,hx⟩:=hg;obtain⟨its,rv,p,hz⟩:=I.list hq;obtain⟨u,hu,ru⟩:=rv.get hx;obtain⟨f0,f1,f2,f3,f4,f5⟩:=hf it (by simp);refine wpAny_pyNext_list_item st p.isList (x:=u) ⇑hu λh' st' sb=>?_;have I1:Inv X pins σ H { s with heap:=h' }:=I.turned (t':=s.toks) nT f0 f1 f3 f4 f5;obtain⟨o,e,c,d⟩:=id st';exact⟨u,rfl,q8X (s:={ s with heap:=h' }) e c d (by decide) ⟨x,H,I1,ru,⟨rfl,λys hy=>by rw[I.list_inj hy hq];exact hx⟩,st',rY⟩⟩
 done:=by
  intro X hP hw hK hc i pins s σ H E I hf st hg;subst hP hw hK;obtain⟨xs,hq,hx⟩:=hg;obtain⟨its,rv,p,hz⟩:=I.list hq;obtain⟨f0,f1,f2,f3,f4,f5⟩:=hf it (by simp);have hl:=rv.length;exact wpAny_pyNext_list_end iC st p.isList (by simp;omega) λh' eb=>cu
 self:=λ_ _ _ _ _ st h=>wpAny_pyIter_listiter st h
theorem qd8{P:vU}{w:vZ}{K:zC}{tg:vW}(a it:vH):Turn P w K tg abw [it] it (λi h=>h.IsTupleIter it a i) where
 mem:=by simp
 obj:=λi h st b hb=>by
  have e:b=it:=by simpa using hb
  subst e;obtain⟨o,e,c,d⟩:=st;exact⟨o,e,λv z=>by rw[d]at z;cases z⟩
 keep:=λi h h' st k=>st.at λo e=>k it (by simp) o e
 item:=by
  intro X hP hw hK hc i pins s σ H E I hf st hg;subst hP hw hK;obtain⟨xs,x,hq,hx⟩:=hg;obtain⟨its,rv,p,hz⟩:=I.tuple hq;obtain⟨u,hu,ru⟩:=rv.get hx;obtain⟨f0,f1,f2,f3,f4,f5⟩:=hf it (by simp);refine wpAny_pyNext_tuple_item st (show s.heap.IsTuple a its.toArray from p) (x:=u) ⇑hu λh' st' sb=>?_;have I1:Inv X pins σ H { s with heap:=h' }:=I.turned (t':=s.toks) nT f0 f1 f3 f4 f5;obtain⟨o,e,c,d⟩:=id st';exact⟨u,rfl,q8X (s:={ s with heap:=h' }) e c d (by decide) ⟨x,H,I1,ru,⟨rfl,λys hy=>by rw[I.tuple_inj hy hq];exact hx⟩,st',rY⟩⟩
 done:=by
  intro X hP hw hK hc i pins s σ H E I hf st hg;subst hP hw hK;obtain⟨xs,hq,hx⟩:=hg;obtain⟨its,rv,p,hz⟩:=I.tuple hq;obtain⟨f0,f1,f2,f3,f4,f5⟩:=hf it (by simp);have hl:=rv.length;exact wpAny_pyNext_tuple_end iC st (show s.heap.IsTuple a its.toArray from p) (by simp;omega) λh' eb=>cu
 self:=λ_ _ _ _ _ st h=>wpAny_pyIter_tupleiter st h
theorem qdj{P:vU}{w:vZ}{K:zC}{tg:vW}(it:vH)(lo:Int)(n:Nat):Turn P w K tg (Itr lo n) [it] it (λi h=>IsRangeIter h it (lo+(i:Nat)*1) (cj-(i:Nat)) 1) where
 mem:=by simp
 obj:=λi h st b hb=>by
  have e:b=it:=by simpa using hb
  subst e;exact⟨_,st,λv z=>by
   have z':Data.fields _=Data.cell v:=z;cases z'⟩
 keep:=λi h h' st k=>k it (by simp) _ st
 item:=by
  intro X hP hw hK hc i pins s σ H E I hf st hg;subst hP hw hK;obtain⟨f0,f1,f2,f3,f4,f5⟩:=hf it (by simp);have W:=Walks.range (prog:=X.prog) (w:=X.w) iC it lo 1 n;refine W.item i s _ _ hg st λv h' tk hv st' kk=>?_;obtain⟨t,rfl⟩:=hv;have I1:Inv X pins σ H { s with heap:=h',toks:=tk }:=I.turned (λb o hb e=>kk b o (by simpa using hb) e) f0 f1 f3 f4 f5;refine⟨_,rfl,q8X (s:={ s with heap:=h',toks:=tk }) (n := "range_iterator") st' rfl rfl (by decide) ⟨.int Cf,H,I1,⟨t,?_⟩,bY,st',rY⟩⟩;rw[Int.mul_one]
 done:=by
  intro X hP hw hK hc i pins s σ H E I hf st hg;subst hP hw hK;obtain⟨f0,f1,f2,f3,f4,f5⟩:=hf it (by simp);exact wpAny_pyNext_range_end iC st (by have:n<=i:=hg;omega) λh' eb=>cu
 self:=λ_ _ _ _ _ st h=>wpAny_pyIter_rangeiter st h
section
variable{X:Cx}{tg:vW}
noncomputable def iList(K:zC)(tl:TE):TI:=λσ H R=>tl σ H λx H1=>∃a,x=.ref a/\(∃xs,SqL K H1 a xs)/\R abx H1
noncomputable def iTup(K:zC)(tl:TE):TI:=λσ H R=>tl σ H λx H1=>∃a,x=.ref a/\(∃xs,SqT K H1 a xs)/\R abw H1
theorem q7T{l:vW}{tl:TE}(hl:PE X l tl):PI X tg l (iList X.K tl):=by
 intro pins s σ H R I h;refine thn CP λv s1 ⟨x,H1,I1,r1,q1⟩=>?_;obtain⟨a,e,⟨xs,hq⟩,q⟩:=q1;subst e;cases r1;obtain⟨its,rv,p,hz⟩:=I1.list hq;refine ut p.isList ?_;refine⟨s1.heap.objs.size,Hh,_,_,H1,rfl,I1.kept (t':=s1.toks) λb o e=>zG _ e,qeE a _,nQ,kW,q⟩;have e:b=s1.heap.objs.size:=by simpa using hb
 subst e;exact I1.fpOk bZ oz
theorem qjb{l:vW}{tl:TE}(hl:PE X l tl):PI X tg l (iTup X.K tl):=by
 intro pins s σ H R I h;refine thn CP λv s1 ⟨x,H1,I1,r1,q1⟩=>?_;obtain⟨a,e,⟨xs,hq⟩,q⟩:=q1;subst e;cases r1;obtain⟨its,rv,p,hz⟩:=I1.tuple hq;refine wpAny_pyIter_tuple (show s1.heap.IsTuple a its.toArray from p) ?_;refine⟨s1.heap.objs.size,Hh,_,_,H1,rfl,I1.kept (t':=s1.toks) λb o e=>zG _ e,qd8 a _,nQ,kW,q⟩;have e:b=s1.heap.objs.size:=by simpa using hb
 subst e;exact I1.fpOk bZ oz
theorem qgu{pins:ay}{σ:St}{H:Hp}{s:vC}{R:Da}{E:aM}{lo hi:Int}{t u v:Tok}{tk:Nat}(I:aq)(h1:-(2^62)<=lo)(h2:lo<2^62)(h3:-(2^62)<=hi)(h4:hi<2^62)(q:R (Itr lo (hi-lo).toNat) H):vP ao X.A (sm aD) Ru E { s with heap:=s.heap.push { cls:=.type "range", data:=.fields #[A4,A5,DF] },toks:=tk }:=by
 refine wpAny_pyIter_range (IsRange.new ..) (small_one h1 h2 h3 h4) ?_;have I1:Inv X pins σ H { s with heap:=s.heap.push { cls:=.type "range", data:=.fields #[A4,A5,DF] },toks:=tk }:=I.kept λb o e=>zG _ e;refine⟨(s.heap.push { cls:=.type "range", data:=.fields #[A4,A5,DF] }).objs.size,[(s.heap.push { cls:=.type "range", data:=.fields #[A4,A5,DF] }).objs.size],_,_,H,rfl,
  I1.kept (t':=tk) λb o e=>zG _ e,qdj _ lo (hi-lo).toNat,?_,λb hb=>?_,q⟩
 ·have e1:lo+BN*1=lo:=by simp
  have e2:Nd-BN=Builtin.Range.rangeSize lo hi 1:=by rw[rangeSize_one];split <;> omega
  show IsRangeIter _ _ (lo+BN*1) (Nd-BN) 1;rw[e1,e2];exact zY _ rfl
 ·have e:b=(s.heap.push { cls:=.type "range", data:=.fields #[A4,A5,DF] }).objs.size:=by simpa using hb
  subst e;exact I1.fpOk bZ oz
noncomputable def iRng1(ta:TA):TI:=λσ H R=>ta σ H λvs H1=>∃j:Int,vs=[.int j]/\-(2^62)<=j/\j<2^62/\R (Itr 0 j.toNat) H1
theorem qed{a:vW}{ta:TA}{p pos:Pos}(hg:JX)(hm:r9)(ha:PA X [a] ta)(hs:BQ:=by rfl):PI X tg Gu (iRng1 ta):=by
 intro pins s σ H R I h;refine Call_ (q0q I hg hm boot_range (PyProof.Rows.callWith_type1 (thn gF λus s1 ⟨vs,H1,I1,r1,q1⟩=>?_) hs rfl));obtain⟨j,e,q1,q2,q⟩:=q1;subst e;cases r1 with
 | cons r rr=>
  cases rr;obtain⟨t,rfl⟩:=r;exact call_range_1 (qgu I1 ∅ ∅ q1 q2 ⇑q)
noncomputable def tFor(wi:TI)(g:TG)(tb:TS):TS:=λD σ H=>wi σ H λJ H1=>∃W:Nat->Nat->St->Hp->Prop,(∃m,W 0 m σ H1)/\∀i m σ H,W i m σ H ->
 (J.stop i H/\D.nx σ H)\/(J.go i H/\∃N:St->Hp->Prop,(∀σ' H',N σ' H'->∃m',m'<m/\W (i+1) m' σ' H')/\∀x H',J.yld i H x H'->g x σ H' λσ2 H2=>tb { D with nx:=N,ct:=N,bk:=D.nx } σ2 H2)
noncomputable def zAh(fp:dh)(h:vk):List rf:=fp.filterMap λb=>(h.get? b).map λo=>(b,o)
theorem q2H{fp:dh}{h:vk}{b:vH}{o:Obj}(hb:b∈fp)(e:h.get? b=some o):(b,o)∈zAh fp h:=Z4.mpr ⟨b,hb,by rw[e];rfl⟩
theorem qeZ{fp:dh}{h:vk}{p:rf}(hp:p∈zAh fp h):p.1∈fp/\h.get? p.1=some p.2:=by
 obtain⟨b,hb,e⟩:=Z4.mp hp;cases q:h.get? b with
 | none=>rw[q]at e;cases e
 | some o=>
  rw[q]at e;have e':(b,o)=p:=zw e;subst e';exact⟨hb,q⟩
theorem Inv.pinned{pins:ay}{σ:St}{H:Hp}{s:vC}{fp:dh}(I:aq)(hf:∀b∈fp,Wo X pins H b)(ho:∀b∈fp,∃o,s.heap.get? b=some o/\∀v,o.data≠.cell v):Inv X (pins++zAh fp s.heap) σ H s :=
 I.pins_of λp hp=>(zM.mp hp).elim (λz=>I.pin p (zO _ z)) λz=>by
  obtain⟨hb,e⟩:=qeZ z;obtain⟨f0,f1,f2,_⟩:=hf p.1 hb;obtain⟨o,e',d⟩:=ho p.1 hb;rw[e]at e';cases e';exact⟨e,f0,f1,f2,d⟩
theorem Inv.unpinned{pins pl:ay}{σ:St}{H:Hp}{s:vC}(I:Inv X (pins++pl) σ H s):Inv X pins σ H s:=I.pins_of λp hp=>I.pin p (zO _ (zW _ hp))
theorem q6S{iter:vW}{body:Ck}{wi:TI}{g:TG}{tb:TS}{pos:Pos}(hp:j9)(hc:cE)(hi:MI)(hg:PG X tg g)(hb:PSs X body tb)(hs:∀x,v9 iter X.env x=pure x:=by intro _;rfl):PS X MR (tFor wi g tb):=by
 intro pins s σ H D I h;refine wpAny_For (thn CQ λv s1 h1=>thn h1 λitv s2 h2=>?_) hs;obtain⟨it,fp,tn,J,H2,e,I2,T,st2,f2,W,⟨m0,w0⟩,turn⟩:=h2;subst e;have stat:∀{H':Hp},(∀b∈fp,H' b=none)->∀b∈fp,Wo X pins H' b:=λhn b hb=>⟨hn b hb,(f2 b hb).2⟩;refine codeAny_forLoop_any (λn s'=>∃i σ' H',Inv X pins σ' H' s'/\tn i s'.heap/\(∀b∈fp,H' b=none)/\W i n σ' H') ?_ m0 ⟨0,σ,H2,I2,st2,λb hb=>(f2 b hb).1,w0⟩;rintro n s3 ⟨i,σ3,H3,I3,st3,fr3,w3⟩;rcases turn i n σ3 H3 w3 with⟨stop,qn⟩|⟨go,N,hN,step⟩
 ·refine uQ hp (thn (T.done X rfl rfl rfl hc i pins s3 σ3 H3 X.xe I3 (stat fr3) st3 stop) λr s4 ⟨hr,I4⟩=>?_)
  subst hr;exact u6 ⟨σ3,H3,I4,qn⟩
 ·refine uQ hp (thn (T.item X rfl rfl rfl hc i pins s3 σ3 H3 X.xe I3 (stat fr3) st3 go) λr s4 ⟨u,hr,h4⟩=>?_)
  subst hr;refine uQ hp (thn h4 λ_ s5 ⟨x,H5,I5,r5,y5,st5,fr5⟩=>?_);have I5':=I5.pinned Tl (T.obj _ _ st5);refine uQ hp (thn (hg _ s5 σ3 H5 x u _ I5' r5 (step x H5 y5)) λ_ s6 ⟨σ6,H6,I6,q6⟩=>?_);refine uQ hp (thn (hb _ s6 σ6 H6 _ I6 q6) λf s7 q7=>?_);have again:∀{σ7:St}{H7:Hp},Inv X (pins++zAh fp s5.heap) σ7 H7 s7->N σ7 H7->∃m,m<n/\∃i σ' H',Inv X pins σ' H' s7/\tn i s7.heap/\(∀b∈fp,H' b=none)/\W i m σ' H':=λ{σ7 H7} I7 n7=>by
   obtain⟨m',hm,w7⟩:=hN σ7 H7 n7;refine⟨m',hm,i+1,σ7,H7,I7.unpinned,T.keep _ _ _ st5 λb hb o e=>(I7.pin (b,o) Nq).1,kW,w7⟩;obtain⟨o,e,d⟩:=T.obj _ _ st5 b hb;exact(I7.pin (b,o) Nq).2.1
  cases f with
  | next=>obtain⟨σ7,H7,I7,n7⟩:=q7;exact again I7 n7
  | cont=>obtain⟨σ7,H7,I7,n7⟩:=q7;exact again I7 n7
  | brk=>obtain⟨σ7,H7,I7,q7⟩:=q7;exact⟨σ7,H7,I7.unpinned,q7⟩
  | ret v=>obtain⟨x7,σ7,H7,I7,r7,q7⟩:=q7;exact⟨x7,σ7,H7,I7.unpinned,r7,q7⟩
end
abbrev R2:=V->V->Hp->VK->Prop
def OpR(X:Cx)(f:pd)(r:R2):Prop :=
 ∀(pins:ay)(s:vC)(σ:St)(H:Hp)(x y:V)(v u:vB)(Q:VK),Inv X pins σ H s->RelV x v->RelV y u->r x y H Q ->
  vP ao X.A (f v u) cv X.xe s
def UnR(X:Cx)(f:vB->Sem vB)(r:MH):Prop :=
 ∀(pins:ay)(s:vC)(σ:St)(H:Hp)(x:V)(v:vB)(Q:VK),Inv X pins σ H s->RelV x v->r x H Q ->
  vP ao X.A (f v) cv X.xe s
def WW(X:Cx)(f:vB)(r:Gh):Prop :=
 ∀(pins:ay)(s:vC)(σ:St)(H:Hp)(xs:a8)(us:a0)(Q:VK),Inv X pins σ H s->Xc xs us->r xs H Q ->
  vP ao X.A (call f us) cv X.xe s
def TruR(X:Cx)(r:V->Hp->jt->Prop):Prop :=
 ∀(pins:ay)(s:vC)(σ:St)(H:Hp)(x:V)(v:vB)(Q:jt),Inv X pins σ H s->RelV x v->r x H Q ->
  vP ao X.A Tk Cj X.xe s
noncomputable def tOp(r:R2)(ta tb:TE):TE:=λσ H Q=>ta σ H λx H1=>tb σ H1 λy H2=>r x y H2 Q
noncomputable def tUn(r:MH)(ta:TE):TE:=λσ H Q=>ta σ H λx H1=>r x H1 Q
noncomputable def rI(C:N2)(g:LF):R2:=λx y H Q=>∃i j,x=.int i/\y=.int j/\C i j/\Q nF H
noncomputable def rI0(g:LF):R2:=λx y H Q=>∃i j,x=.int i/\y=.int j/\Q nF H
def rU(g:Int->V):V->Hp->VK->Prop:=λx H Q=>∃i,x=.int i/\Q (g i) H
section
variable{X:Cx}{a b c:vW}{ta tb tc:TE}{pos:Pos}
theorem binT(ha:oy)(hb:Hw){pins:ay}{s:vC}{σ:St}{H:Hp}{R:V->V->Hp->Prop}(I:aq)(h:ta σ H λx H1=>tb σ H1 λy H2=>R x y H2){Q:aM}{f:pd}(hf:∀v u s2 x y H2,Inv X pins σ H2 s2->RelV x v->RelV y u->R x y H2->vP ao X.A (f v u) Q X.xe s2):
  vP ao X.A acu (λv s₁=>vP ao X.A rF (λu s₂=>vP ao X.A (f v u) Q X.xe s₂) X.xe s₁) X.xe s:=by
 refine thn cW λv s1 ⟨x,H1,I1,r1,q1⟩=>?_;refine thn Mi λu s2 ⟨y,H2,I2,r2,q2⟩=>?_;exact hf v u s2 x y H2 I2 r1 r2 q2
theorem qkx{op:sL}{r:R2}(ho:OpR X (uV op) r)(ha:oy)(hb:Hw):PE X SN GD:=by
 intro pins s σ H Q I h;exact wpAny_BinOp kR
theorem qkL{op:UnaryOp}{r:MH}(ho:UnR X (unaryOp op) r)(ha:oy):PE X (.UnaryOp op a pos) (tUn r ta):=by
 intro pins s σ H Q I h;exact UnaryOp_ (thn cW λv s1 ⟨x,H1,I1,r1,q1⟩=>ho pins s1 σ H1 x v Q I1 r1 q1)
theorem opI{f:pd}{C:N2}{g:fT}(rule:∀(i j:Int)(t u:Tok)(s:vC)(Q:aM)(E:aM),C i j->Q aaE { s with toks:=s.toks+1 }->vP ao X.A IF Q E s):
  OpR X f (rI C λi j=>.int nF):=by
 intro pins s σ H x y v u Q I rx ry h;obtain⟨i,j,rfl,rfl,hc,q⟩:=h;obtain⟨t,rfl⟩:=rx;obtain⟨t',rfl⟩:=ry;exact rule i j t t' s _ _ hc PD
theorem opI0{f:pd}{g:fT}(rule:∀(i j:Int)(t u:Tok)(s:vC)(Q:aM)(E:aM),Q aaE { s with toks:=s.toks+1 }->vP ao X.A IF Q E s):
  OpR X f (rI0 λi j=>.int nF):=by
 intro pins s σ H x y v u Q I rx ry h;obtain⟨i,j,rfl,rfl,q⟩:=h;obtain⟨t,rfl⟩:=rx;obtain⟨t',rfl⟩:=ry;exact rule i j t t' s _ _ PD
theorem opB0{f:pd}{g:AZ}(rule:∀(i j:Int)(t u:Tok)(s:vC)(Q:aM)(E:aM),Q (.bool nF) s->vP ao X.A IF Q E s):
  OpR X f (rI0 λi j=>.bl nF):=by
 intro pins s σ H x y v u Q I rx ry h;obtain⟨i,j,rfl,rfl,q⟩:=h;obtain⟨t,rfl⟩:=rx;obtain⟨t',rfl⟩:=ry;exact rule i j t t' s _ _ ⟨.bl nF,H,I,rfl,q⟩
def CDiv(i j:Int):Prop:=0<j/\j<1073741824
def CPow(i j:Int):Prop:=0<=j/\j<=1000000/\i.natAbs<2^64
def CMul(i j:Int):Prop:=(-(2^64)<i/\i<2^64)\/(-(2^64)<j/\j<2^64)
theorem CMul.ok{i j:Int}(h:CMul i j):IntMulOk i j:=by
 rcases h with⟨h1,h2⟩|⟨h1,h2⟩
 ·exact .of_left P7
 ·exact .of_right P7
theorem qj6:OpR X JF (rI0 λi j=>.int (i+j)):=opI0 λ_ _ _ _ _ _ _ q=>add_int q
theorem qj4:OpR X (uV .Sub) (rI0 λi j=>.int (i-j)):=opI0 λ_ _ _ _ _ _ _ q=>sub_int q
theorem qjU:OpR X (uV .Mult) (rI CMul λi j=>.int (i*j)):=opI λ_ _ _ _ _ _ _ hc q=>mul_int q hc.ok
theorem qhJ:OpR X (uV .FloorDiv) (rI CDiv λi j=>.int (i/j)):=opI λi j _ _ _ _ _ hc q=>by
 have h1:nN<j:=hc.1;have h2:j<1073741824:=hc.2;exact floordiv_int ∅ (by rw[Int.fdiv_eq_ediv_of_nonneg i ∅];exact q) (.inl (PyProof.noPylong_small ∅))
theorem qj8:OpR X (uV .Mod) (rI (λ_ j=>0<j) λi j=>.int (i%j)):=opI λi j _ _ _ _ _ hc q=>by
 have h1:nN<j:=hc;exact mod_int' ∅ (by rw[Int.fmod_eq_emod_of_nonneg i ∅];exact q)
theorem qjX:OpR X (uV .Pow) (rI CPow λi j=>.int (i^j.toNat)):=opI λ_ _ _ _ _ _ _ hc q=>pow_int_small hc.1 hc.2.1 hc.2.2 q
theorem unI{f:vB->Sem vB}{g:bU}(rule:∀(i:Int)(t:Tok)(s:vC)(Q:aM)(E:aM),Q (.int (g i) s.toks) { s with toks:=s.toks+1 }->vP ao X.A (f rN) Q E s):
  UnR X f (rU λi=>.int (g i)):=by
 intro pins s σ H x v Q I rx h;obtain⟨i,rfl,q⟩:=h;obtain⟨t,rfl⟩:=rx;exact rule i t s _ _ ⟨.int (g i),H,iU,bw,q⟩
theorem qjq:UnR X (unaryOp .USub) (rU λi=>.int (-i)):=unI λ_ _ _ _ _ q=>neg_int q
end
section
variable{X:Cx}{a b c:vW}{ta tb tc:TE}{pos:Pos}
theorem qhe:OpR X (uP .Lt) (rI0 λi j=>.bl (decide (i<j))):=opB0 λ_ _ _ _ _ _ _ q=>lt_int q
theorem qkN:OpR X (uP .LtE) (rI0 λi j=>.bl (decide (i<=j))):=opB0 λ_ _ _ _ _ _ _ q=>le_int q
theorem qhn:OpR X (uP .Gt) (rI0 λi j=>.bl (decide (j<i))):=opB0 λ_ _ _ _ _ _ _ q=>gt_int q
theorem qkV:OpR X (uP .GtE) (rI0 λi j=>.bl (decide (j<=i))):=opB0 λ_ _ _ _ _ _ _ q=>ge_int q
theorem OpR.or{f:pd}{r r':R2}(h:OpR X f r)(h':OpR X f r'):OpR X f GU:=by
 intro pins s σ H x y v u Q I rx ry q;rcases q with q|q
 ·exact h pins s σ H x y v u Q I rx ry q
 ·exact h' pins s σ H x y v u Q I rx ry q
theorem WM(b:vW){op:sV}(h:op≠.In:=by decide)(h2:op≠.NotIn:=by decide):uE op b=false:=by
 have e1:acj=false:=by cases op <;> first|rfl|exact vO rfl h
 have e2:US=false:=by cases op <;> first|rfl|exact vO rfl h2
 cases b <;> simp[uE,e1,e2]
theorem qhO{op:sV}{r:R2}(ho:Et)(ha:oy)(hb:Hw)(hm:B9):PE X jN GD:=by
 intro pins s σ H Q I h;exact wpAny_Compare1 kR hm
noncomputable def tTest(t:TE):TT:=λσ H Q=>t σ H λx H'=>∃k,x=.bl k/\Q k H'
theorem qii{op:sV}{r:R2}(ho:Et)(ha:oy)(hb:Hw)(hm:B9):PT X jN (tTest GD):=by
 intro pins s σ H Q I h;refine tX (thn cW λv s1 ⟨x,H1,I1,r1,q1⟩=>thn Mi λu s2 ⟨y,H2,I2,r2,q2⟩=>
  thn (ho pins s2 σ H2 x y v u _ I2 r1 r2 q2) λc s3 ⟨z,H3,I3,r3,k,e,q3⟩=>?_) hm
 subst e;cases r3;exact uR ⟨H3,I3,q3⟩
def TruV(K:zC)(x:V)(H:Hp)(k:Bool):Prop :=
 match x with
 | .non=>k=false
 | .bl b=>k=b
 | .int i=>k=(i != 0)
 | .str y=>y.length<=sizeLine/\k=(abY != 0)
 | .byt y=>y.size<=sizeLine/\k=((y.size:Int) != 0)
 | .ref p=>(∃xs,SqL K H p xs/\k=!xs.isEmpty)\/(∃xs,SqT K H p xs/\k=!xs.isEmpty)\/∃kvs,H p=some ci/\k=!kvs.isEmpty
 | _=>False
theorem qcM{κ:Type}{kvs:gO}{vs:nH}(r:AY):(!vs.isEmpty)=!kvs.isEmpty:=by
 cases r <;> rfl
theorem q6X{xs:a8}{its:a0}(r:Xc xs its):(!its.toArray.isEmpty)=!xs.isEmpty:=by
 cases r <;> simp
theorem zAI:acb<2^63:=by rw[vh];decide
theorem qkc:TruR X (λx H Q=>∃k,TruV X.K x H k/\Q k H):=by
 intro pins s σ H x v Q I rx h;obtain⟨k,e,q⟩:=h;have hl:=zAI;have hs:sizeLine=16777216:=vh;cases x with
 | non=>
  cases rx;have e':k=false:=e;subst e';exact truthy_none Ln
 | bl b=>
  cases rx;have e':k=b:=e;subst e';exact uR Ln
 | int i=>
  obtain⟨t,rfl⟩:=rx;have e':k=(i != 0):=e;subst e';exact PySem.P.truthy_int Ln
 | str y=>
  obtain⟨t,rfl⟩:=rx;obtain⟨hy,e'⟩:y.length<=sizeLine/\k=(abY != 0):=e;subst e';exact PySem.P.truthy_str ∅ ⟨H,iU,q⟩
 | byt y=>
  obtain⟨t,rfl⟩:=rx;obtain⟨hy,e'⟩:y.size<=sizeLine/\k=((y.size:Int) != 0):=e;subst e';exact PySem.W.truthy_bytes ∅ ⟨H,iU,q⟩
 | ref p=>
  cases rx;have e':(∃xs,SqL X.K H p xs/\k=!xs.isEmpty)\/(∃xs,SqT X.K H p xs/\k=!xs.isEmpty)\/∃kvs,H p=some ci/\k=!kvs.isEmpty:=e;rcases e' with⟨xs,hx,e'⟩|⟨xs,hx,e'⟩|⟨kvs,hx,e'⟩
  ·subst e'
   obtain⟨its,r,pl,hz⟩:=I.list hx;have hlen:=r.length;exact wpAny_truthy_list pl.isList (by simp only[zQ];omega) ⟨H,I.tok _,by rw[q6X r];exact q⟩
  ·subst e'
   obtain⟨its,r,pl,hz⟩:=I.tuple hx;have hlen:=r.length;exact truthy_tuple pl (by simp only[zQ];omega) ⟨H,I.tok _,by rw[q6X r];exact q⟩
  ·subst e'
   obtain⟨hz,hS,vs,r,m⟩:kvs.length<=sizeLine/\(p==uJ)=false/\∃vs,KV kvs vs/\s.heap.DictOf nn p vs:=I.hok p _ hx;have hlen:kvs.length=vs.length:=Paired.length r;exact wpAny_truthy_dict hS m ∅ ⟨H,I.tok _,by rw[qcM r];exact q⟩
 | _=>exact(show False from e).elim
theorem q4o(ha:oy)(he:∀whole,si a X.env whole=(do let v <- whole;standAt a.pos;holding [v] Tk)):
  PT X a (λσ H Q=>ta σ H λx H'=>∃k,TruV X.K x H' k/\Q k H'):=by
 intro pins s σ H Q I h;exact isTrue_plain (thn cW λv s1 ⟨x,H1,I1,r1,q1⟩=>qkc pins s1 σ H1 x v Q I1 r1 q1) (he _)
theorem vals1{x:V}{us:a0}(r:Xc [x] us):∃u,us=[u]/\RelV x u:=by
 cases r with
 | cons r1 r2=>cases r2;exact Nh
theorem vals2{x y:V}{us:a0}(r:Xc [x,y] us):∃u w',us=[u,w']/\RelV x u/\RelV y w':=by
 cases r with
 | cons r1 r2=>
  cases r2 with
  | cons r3 r4=>cases r4;exact⟨_,_,rfl,r1,r3⟩
theorem q4z:WW X aaI (λxs H Q=>∃i,xs=[gc]/\Q (.int (if i<0 then -i else i)) H):=by
 intro pins s σ H xs us Q I r h;obtain⟨i,rfl,q⟩:=h;obtain⟨u,rfl,t,rfl⟩:=vals1 r;exact call_abs_int λu tk=>⟨.int (if i<0 then -i else i),H,iU,bw,q⟩
end
structure ObjM (h:vk) (x dx C:vH) (mA:Str->Option vB):Prop where
 obj:h.get? x=some (Zg C dx)
 ns:h.Ns1 dx mA
 ne:dx≠x
theorem qfg{h:vk}{dx:vH}{mA:bH}(n:h.Ns1 dx mA):∃od,h.get? dx=some od/\∀name,Zr name od=some (mA name):=by
 obtain⟨o,es,ep,ho,hd,hk,_,hm⟩:=n;refine⟨o,ho,λname=>?_⟩;have e:=hm name;unfold nsFind findBy at e;rw[<- Array.find?_toList]at e;unfold Zr;rw[hd]
 dsimp only
 split
 ·rename_i y q
  rw[q]at e;exact v7 some e
 ·rename_i q
  rw[q]at e;have a:es.toList.any (·.refKey)=false:=by
   rw[List.any_eq_false];intro y hy;obtain⟨z,t,hkey⟩:=hk y (Array.mem_toList_iff.mp hy);simp[DictEntry.refKey,hkey]
  have a':¬es.toList.any (·.refKey)=true:=by rw[a];exact yO
  rw[vG a'];exact v7 some e
theorem ObjM.look{h:vk}{x dx C:vH}{mA:bH}(I:ObjM h x dx C mA):∃od,PySem.W.InstAt h x (Zg C dx) C (some od)/\∀name,Zr name od=some (mA name) :=
 let ⟨od,ho,hl⟩:=qfg I.ns
 ⟨od,⟨I.obj,rfl,rfl,ho⟩,hl⟩
section
variable{prog:vU}{w:vZ}{A:vf}{E:vB->vC->Prop}{s:vC}{K:zC}{x dx C f:vH}{mA:Str->Option vB}{name:Str}{v:vB}
end
theorem zBa.some_of{v:V}{o:AG}(r:zBa nh o):∃u,o=some u/\RelV v u:=by
 cases o with
 | none=>exact(show False from r).elim
 | some u=>exact⟨u,rfl,r⟩
section
variable{P:vU}{w:vZ}{H H':Hp}{h h':vk}{a C dx:vH}{fs fs':List (Str×V)}
theorem qiQ(hok:iV)(e:H a=some acS):∃mA,ObjM h a dx C mA/\(∀f,zBa NI (mA f))/\PySem.Within mA (fs.map (·.1))/\fs.length<=1000/\H dx=some MP:=by
 obtain⟨d,z,ne,ob,mA,n,r,q⟩:=(show Xh P w H h a acS from hok a _ e);exact⟨mA,⟨ob,n,ne⟩,r,q,z,d⟩
end
structure Cls (K:zC) (C:vH):Prop where
 pg:YX K C Str.empty=true
 hd:PySem.W.hasDictIn K C=true
 po:PySem.W.plainOver K C=true
 sa:Yk K (.ref C) "__setattr__" = some (some (.builtin "object.__setattr__"))
theorem Cls.get{K:zC}{C:vH}(c:Cls K C)(f:Str):YX K C f=true:=c.pg
section
variable{X:Cx}{pins:List (vH×Obj)}{σ:St}{H:Hp}{s:vC}{a C dx:vH}{fs:List (Str×V)}{f:Str}{v:V}{A:vf}{E:vB->vC->Prop}
end
section
variable{X:Cx}{o e value:vW}{f:Str}{pos pos' tpos:Pos}{ta tv:TE}
end
section
variable{X:Cx}{pins:List (vH×Obj)}{σ:St}{H:Hp}{s:vC}{A:vf}{E:vB->vC->Prop}{Q:vB->vC->Prop}{c:vB}{b:Bool}
inductive TyOf (K:zC) (H:Hp):V->vB->Prop where
 | non:TyOf K H .non (.type "NoneType")
 | bl (x:Bool):TyOf K H (.bl x) (.type "bool")
 | int (i:Int):TyOf K H (.int i) (.type "int")
 | str (x:Str):TyOf K H (.str x) (.type "str")
 | flt (x:UInt64):TyOf K H (.flt x) (.type "float")
 | lst {a:vH} {xs:List V} (e:H a=some (.lst xs)):TyOf K H (.ref a) (.type "list")
 | frz {a:vH} {o:Obj} {xs:List V} (e:H a=some (.frz o (.lst xs))):TyOf K H (.ref a) (.type "list")
 | tup {a:vH} {xs:List V} (e:H a=some (.tup xs)):TyOf K H (.ref a) (.type "tuple")
 | dK {a:vH} {kvs:List (Key×V)} (e:H a=some (.dK kvs)):TyOf K H (.ref a) (.type "dict")
 | dT {a:vH} {kvs:List (List Key×V)} (e:H a=some (.dT kvs)):TyOf K H (.ref a) (.type "dict")
 | ins {a C dx:vH} {fs:List (Str×V)} (e:H a=some (.ins C dx fs)) (cl:Cls K C) (ha:Yk K (.ref C) "__class__" = some (some (.builtin "object.__class__")))
   (hn:PySem.W.specialIn K (.builtin "object.__class__") "__get__" = some (some (.builtin "getset_descriptor.__get__"))) (htk:PySem.W.takesIn K (.builtin "object.__class__")=some true)
   (hm:PySem.W.mroIn K C (.type "object")=some true):TyOf K H (.ref a) (.ref C)
theorem qeI{x:V}{u t:vB}(I:aq)(rx:Ua)(ty:TyOf X.K H x t)(e:Zs X.K t c=some b)(h:∀tk,Q (.bool b) { s with toks:=tk }):
  vP ao A (call OM [u,c]) Q E s:=by
 cases ty with
 | non=>cases (show u=Value.none from rx);exact yq PySem.W.kitx_none I.kIn True.intro e (λz=>nomatch z) h
 | bl y=>cases (show u=Value.bool y from rx);exact yq PySem.W.kitx_bool I.kIn True.intro e (λz=>nomatch z) h
 | int i=>obtain⟨t,q⟩:=(show ∃t,u=Value.int i t from rx);cases q;exact yq PySem.W.kitx_int I.kIn True.intro e (λz=>nomatch z) h
 | str y=>obtain⟨t,q⟩:=(show ∃t,u=Value.str y t from rx);cases q;exact yq PySem.W.kitx_str I.kIn True.intro e (λz=>nomatch z) h
 | flt y=>obtain⟨t,q⟩:=(show ∃t,u=Value.float y t from rx);cases q;exact yq PySem.W.kitx_float I.kIn True.intro e (λz=>nomatch z) h
 | @lst a xs ea=>
  cases (show u=Value.ref a from rx);obtain⟨_,_,n,_,h1⟩:=(show Xh X.prog X.w H s.heap a eF from I.hok a _ ea);exact yq YF I.kIn ⟨_,h1,rfl⟩ e (λz=>nomatch z) h
 | @frz a ob xs ea=>
  cases (show u=Value.ref a from rx);obtain⟨_,_,_,n,_,h1⟩:=(show Xh X.prog X.w H s.heap a (.frz ob eF)from I.hok a _ ea);exact yq YF I.kIn ⟨_,h1,rfl⟩ e (λz=>nomatch z) h
 | @tup a xs ea=>
  cases (show u=Value.ref a from rx);obtain⟨_,_,_,p⟩:=(show Xh X.prog X.w H s.heap a oa from I.hok a _ ea);obtain⟨o,h1,h2,_⟩:=p;exact yq PySem.W.kitx_tuple I.kIn ⟨o,h1,h2⟩ e (λz=>nomatch z) h
 | @dK a kvs ea=>
  cases (show u=Value.ref a from rx);obtain⟨_,_,vs,_,p⟩:=(show Xh X.prog X.w H s.heap a ci from I.hok a _ ea);obtain⟨o,es,ep,h1,h2,_⟩:=p;exact yq YG I.kIn ⟨o,h1,h2.1⟩ e (λz=>nomatch z) h
 | @dT a kvs ea=>
  cases (show u=Value.ref a from rx);obtain⟨_,_,xs,_,o,es,ep,h1,h2,_⟩:=(show Xh X.prog X.w H s.heap a Ay from I.hok a _ ea);exact yq YG I.kIn ⟨o,h1,h2.1⟩ e (λz=>nomatch z) h
 | @ins a C dx fs ea cl ha hn htk hm=>
  cases (show u=Value.ref a from rx);obtain⟨mA,O,_⟩:=qiQ I.hok ea;obtain⟨od,J,_⟩:=O.look;exact yq (PySem.W.kitx_own (cl.get _) cl.hd ha hn htk hm) I.kIn J e (λz=>nomatch z) h
end
structure Room (k:Nat) (A:vf):Prop where
 hd:A.handled=none
 dp:A.depth+3*k+5<recursionLimit
 un:A.units+16*k+200<uj
theorem Room.mono{j k:Nat}{A:vf}(r:Room k A)(h:j<=k):Room j A:=⟨r.hd,by have:=r.dp;omega,by have:=r.un;omega⟩
theorem Room.deeper{k:Nat}{A:vf}(r:Room (k+1) A)(env:Env):Room k (A.deeper env) :=
 ⟨r.hd,by have:=r.dp;show A.depth+1+3*k+5<_;omega,by have:=r.un;show A.units+3+16*k+200<_;omega⟩
theorem Room.in1{k:Nat}{A:vf}(r:Room (k+1) A):Room k A.in1 :=
 ⟨r.hd,by have:=r.dp;show A.depth+3*k+5<_;omega,by have:=r.un;show A.units+1+16*k+200<_;omega⟩
theorem Room.depth{k:Nat}{A:vf}(r:Room k A):A.depth<recursionLimit:=by have:=r.dp;omega
theorem Room.units{k:Nat}{A:vf}(r:Room k A):A.units+64<uj:=by have:=r.un;omega
noncomputable def zAz:TA:=λ_ H Q=>Q [] H
noncomputable def zAG(ta:TE)(tr:TA):TA:=λσ H Q=>ta σ H λx H1=>tr σ H1 λxs H2=>Q Nu H2
section
variable{X:Cx}{e:vW}{es:List vW}{te:TE}{t:TA}{pos:Pos}
theorem qx:PA X [] zAz:=λ_ _ _ _ H Q I h=>Calls.spliced_nil GT
theorem qA(ha:ox)(hr:PA X es t)(hs:aQ:=by rfl):PA X jK (zAG te t):=by
 intro pos pins s σ H Q I h;rw[hs];show vP _ _ (spliced (cH::vj pos im)) _ _ s;refine Calls.spliced_cons (thn cW λu s1 ⟨x,H1,I1,r1,q1⟩=>?_);exact thn JQ λus s2 ⟨xs,H2,I2,r2,q2⟩=>Js
noncomputable def tTup(t:TA):TE:=λσ H Q=>t σ H λxs H1=>xs.length<=sizeLine/\∀p,H1 p=none->Q bu (upd H1 p oa)
noncomputable def zDA(t:TA):TE:=λσ H Q=>t σ H λxs H1=>xs.length<=sizeLine/\∀p,H1 p=none->Q bu (upd H1 p eF)
theorem qjv{x1}(h:PA X es t):PE X Up (tTup t):=by
 intro pins s σ H Q I hq;refine wpAny_Tuple_spliced (thn Mj λus s1 ⟨xs,H1,I1,r,z,q⟩=>⟨by rw[<- r.length];exact z,?_⟩);have hf:H1 s1.heap.objs.size=none:=I1.hok.fresh bZ;refine⟨RF,upd H1 s1.heap.objs.size oa,U9,rfl,q _ hf⟩;exact⟨z,us,r,Fi⟩
theorem q36(h:PA X es t):PE X acU (zDA t):=by
 intro pins s σ H Q I hq;refine wpAny_List_spliced (thn Mj λus s1 ⟨xs,H1,I1,r,z,q⟩=>⟨by rw[<- r.length];exact z,?_⟩);have hf:H1 s1.heap.objs.size=none:=I1.hok.fresh bZ;refine⟨RF,upd H1 s1.heap.objs.size eF,U9,rfl,q _ hf⟩;exact⟨z,us,0,r,iK⟩
end
abbrev Sp:=List V->Hp->VK->XK->Prop
abbrev CXT:=List Env->Hp->vC->XK->vB->vC->Prop
structure Env0 (P:vU) (w:vZ) (K:zC) (mg:Str->Option vB) (base:vk) (A:vf) (outer:List Env) (s:vC) (H:Hp):Prop where
 frames:A.frames=some outer
 mod:Mod K mg base
 bs:∀b o,base.get? b=some o->s.heap.get? b=some o/\H b=none
 bsz:base.objs.size<=s.heap.objs.size
 funs:s.heap.FunFrames base outer
 frf:∀b∈frs outer,H b=none
 hok:HOk P w H s.heap
 bare:tK s.gens
def CE(outer:rM)(P:vU)(w:vZ)(H:Hp)(s:vC)(Q:VK)(u:vB)(s':vC):Prop :=
 ∃v H',s'.os=s.os/\tK s'.gens/\Un (frs outer) [] H H' s.heap s'.heap/\HOk P w H' s'.heap/\RelV v u/\Q v H'
def CR(CX:CXT)(outer:rM)(P:vU)(w:vZ)(H:Hp)(s:vC)(Q:VK)(E:XK)(r:sI)(s':vC):Prop :=
 match r with
 | .ok (.ret u)=>CE outer P w H s Q u s'
 | .ok _=>False
 | .error e=>CX outer H s E e s'
structure FnOk (P:vU) (w:vZ) (K:zC) (mg:Str->Option vB) (base:vk) (CX:CXT) (k:Nat) (f:vH) (fd:vS) (ps:List Str) (sp:Sp):Prop where
 len:∀vs H Q E,sp vs H Q E->vs.length=ps.length
 run:∀(A:vf)(outer:List Env)(s:vC)(H:Hp)(args:Args)(us:List vB)(vs:List V)(Q:VK)(E:XK),Room k A->Env0 P w K mg base A outer s H->sM s fd args (ps.zip us)->Xc vs us->sp vs H Q E ->
  uc (model P w) A (.call (.ref f) args) (CR CX outer P w H s Q E) s
theorem Env0.in1{P:vU}{w:vZ}{K:zC}{mg:bH}{base:vk}{A:vf}{outer:rM}{s:vC}{H:Hp}(e:Lg):
  Env0 P w K mg base A.in1 outer s H:=⟨e.frames,e.mod,e.bs,e.bsz,e.funs,e.frf,e.hok,e.bare⟩
section
variable{X:Cx}{pins:List (vH×Obj)}{σ:St}{H:Hp}{s s':vC}
theorem Inv.env0(I:aq):Env0 X.prog X.w X.K X.mg X.base X.A X.stack s H :=
 ⟨I.ok.frames,I.ok.mod,I.bs,yD I.ok.bsz I.sz,I.stack,I.stkFree,I.hok,I.bare⟩
theorem Inv.after{Q:VK}{u:vB}(I:aq)(h:CE X.stack X.prog X.w H s Q u s'):EP X pins σ Q u s':=by
 obtain⟨v,H',os,bare,un,hok,r,q⟩:=h;obtain⟨hh,g,d,t,os'⟩:=s';obtain rfl:os'=s.os:=os;exact⟨v,H',I.call (h':=hh) (g':=g) (d':=d) (t':=t) (ch:=[]) un hok bare (λb z=>vO z (by simp)),r,q⟩
end
noncomputable def tCall(sp:Sp)(dvs:a8)(E:XK)(t:TA):TE:=λσ H Q=>t σ H λvs H1=>sp Oo H1 Q E
def Binds(K:zC)(fd:vS)(ps:dN)(ds:a0):Prop :=
 ∀(s:vC)(us:a0),K.In s.heap->(us++ds).length=ps.length->sM s fd BZ (ps.zip (us++ds))
theorem Binds.all{K:zC}{fd:vS}{ps:dN}(h:∀us:List vB,us.length=ps.length->bindArgs fd BZ=pure EF):Binds K fd ps []:=λs us _ hl=>by
 rw[zi]at hl ⊢;exact .of_eq (h us hl)
def zBF(CX:CXT)(X:Cx)(E:XK):Prop:=∀(pins:ay)(σ:St)(H:Hp)(s:vC)(e:vB)(s':vC),Inv X pins σ H s->CX X.stack H s E e s'->X.xe e s'
section
variable{X:Cx}{CX:CXT}{k:Nat}{f C:vH}{fd:vS}{ps:List Str}{sp:Sp}{dvs:List V}{ds:List vB}{E:XK}{x m:Str}{p pos apos:Pos}{e o:vW}{es:List vW}{ta:TE}{t:TA}
theorem qjD{pins:ay}{σ:St}{H:Hp}{s:vC}{Q:VK}{us:a0}{vs:a8}(F:BW)(hr:abu)(hb:aax)(hd:Xc dvs ds)(hx:VI)(I:aq)(r:Xc vs us)(h:sp Oo H Q E):vP ao X.A (call iP us) cv X.xe s:=by
 have r2:Xc Oo (us++ds):=r.append hd;have hl:(us++ds).length=ps.length:=by rw[<- r2.length];exact F.len _ _ _ _ h
 refine wpAny_call (ug (F.run X.A X.stack s H BZ (us++ds) Oo Q E hr I.env0 (hb s us I.kIn hl) r2 h) λr s' hq=>?_);cases r with
 | error e=>exact hx pins σ H s e s' I hq
 | ok fl=>
  cases fl with
  | ret u=>exact I.after hq
  | next=>exact False.elim hq
  | brk=>exact False.elim hq
  | cont=>exact False.elim hq
theorem qcG(F:BW)(hr:abu)(hg:Au)(hm:X.mg x=some iP)(hk:xp X.K iP=true)(hb:aax)(hd:Xc dvs ds)(hx:VI)(ha:Qi)(hdb:aJ:=by decide)(he:aQ:=by rfl)(hpl:(vj pos im).any (·.1)=false:=by rfl):
  PE X cK (tCall sp dvs E t):=by
 intro pins s σ H Q I h;refine v4 (qbo I hg hm ?_ hdb);refine PySem.W.callWith_K (h₀:=X.base) I.ok.mod.kin hk (thn gF λus s1 ⟨vs,H1,I1,r,q⟩=>⟨I1.kIn,?_⟩) he hpl;exact qjD F hr hb hd hx I1 r q
end
def PK(X:Cx)(kws:List uH)(t:TA):Prop :=
 ∀(pos:Pos)(pins:ay)(s:vC)(σ:St)(H:Hp)(Q:mP),Inv X pins σ H s->t σ H Q->vP ao X.A (evalAll ((uI pos ab5).map (·.2))) aaB X.xe s
section
variable{X:Cx}{CX:CXT}{k:Nat}{f C:vH}{fd:vS}{ps ks:List Str}{sp:Sp}{E:XK}{x m:Str}{p pos apos kpos:Pos}{e o:vW}{es:List vW}{kws:List uH}{te ta:TE}{t tk:TA}{nm:Option Str}
theorem qj7:PK X [] zAz:=λ_ _ _ _ H Q I h=>wpAny_evalAll_nil GT
theorem qhS(ha:ox)(hr:PK X kws t):PK X (⟨nm,e,kpos⟩::kws) (zAG te t):=by
 intro pos pins s σ H Q I h;show vP _ _ (evalAll ((do let v <- eval e X.env;standAt pos;pure v)::(uI pos ab5).map (·.2))) _ _ s;refine wpAny_evalAll_cons (vA (thn cW λu s1 ⟨x,H1,I1,r1,q1⟩=>vA (sG fF)));exact thn JQ λus s2 ⟨xs,H2,I2,r2,q2⟩=>Js
variable{g:List vB->List vB->List vB}{gV:List V->List V->List V}
end
structure FnScope (N P:List Str) (sc:ux):Prop where
 kind:sc.kind=.function
 co:sc.isCoroutine=false
 gen:sc.isGenerator=false
 nd:N.Nodup
 pre:N.take P.length=P
 par:∀x∈P,sc.names.lookup x=some .local\/sc.names.lookup x=some .cell
 nofree:∀y∈sc.names,y.2≠.free
theorem q8o{kindOf:Gb}{x:Str}:∀{binds:List OF}{m:bH},(∀v,(x,v)∉binds)->bindL kindOf binds m x=m x
 | [],_,_=>rfl
 | (n,v)::r,m,h=>by
  unfold bindL;rw[q8o λw hw=>h w (zF _ hw)]
  split
  ·have:x≠n:=by rintro rfl;exact h v zE
   simp[this]
  ·rfl
theorem q84{kindOf:Gb}{x:Str}:∀{binds:List OF}{m:bH},(∀v,(x,v)∉binds)->bindC kindOf binds m x=m x
 | [],_,_=>rfl
 | (n,v)::r,m,h=>by
  unfold bindC;rw[q84 λw hw=>h w (zF _ hw)]
  split
  ·rfl
  ·have:x≠n:=by rintro rfl;exact h v zE
   simp[this]
theorem q8y{kindOf:Gb}{x:Str}{v:vB}:∀{P:dN}{vs:a0}{i:Nat}{m:bH},P.Nodup->P[i]?=some x->vs[i]?=some v->kindOf x=some .local ->
  bindL kindOf (P.zip vs) m x=some v
 | [],_,_,_,_,h,_,_=>by simp at h
 | _::_,[],_,_,_,_,h,_=>by simp at h
 | p::P,w::vs,0,m,nd,h1,h2,hk=>by
  simp at h1 h2;subst h1;subst h2;show bindL kindOf Bk m p=_;unfold bindL;rw[q8o λv hv=>(yW.mp nd).1 (Zh hv).1,vF hk];simp
 | p::P,w::vs,i+1,m,nd,h1,h2,hk=>by
  show bindL kindOf Bk m x=_;unfold bindL;exact q8y (i:=i) (yW.mp nd).2 ⇑h1 ⇑h2 hk
theorem q86{kindOf:Gb}{x:Str}{v:vB}:∀{P:dN}{vs:a0}{i:Nat}{m:bH},P.Nodup->P[i]?=some x->vs[i]?=some v->kindOf x≠some .local ->
  bindC kindOf (P.zip vs) m x=some v
 | [],_,_,_,_,h,_,_=>by simp at h
 | _::_,[],_,_,_,_,h,_=>by simp at h
 | p::P,w::vs,0,m,nd,h1,h2,hk=>by
  simp at h1 h2;subst h1;subst h2;show bindC kindOf Bk m p=_;unfold bindC;rw[q84 λv hv=>(yW.mp nd).1 (Zh hv).1,vG hk];simp
 | p::P,w::vs,i+1,m,nd,h1,h2,hk=>by
  show bindC kindOf Bk m x=_;unfold bindC;exact q86 (i:=i) (yW.mp nd).2 ⇑h1 ⇑h2 hk
noncomputable def start(N:dN)(vs:a8):St:=vs.map some++zn (N.length-vs.length) none
noncomputable def zCD(CX:CXT)(P:vU)(w:vZ)(K:zC)(mg:bH)(base:vk)(N:dN)(qual:Str)(scope:ux)(f:vH)(cd:vB)(A:vf)(outer:rM)(s:vC)(H:Hp)(E:XK):Cx where
 prog:=P
 w:=w
 K:=K
 mg:=mg
 base:=base
 A:=A.deeper mq
 N:=N
 s₀:=s
 H₀:=H
 env:=tm qual scope s.heap.objs.size f cd
 outer:=outer
 stack:=tm qual scope s.heap.objs.size f cd::outer
 ex:=[]
 calm:=true
 fn:=λ_=>true
 pn:=[]
 xe:=λe s'=>vP Q4 (A.deeper mq) (leaving mq e) (λ_ s''=>CX outer H s E e s'') (λe' s''=>CX outer H s E e' s'') s'
theorem q97{sc:ux}{n:Nat}{x:Str}(h:sc.names.lookup x=some .cell):∃c,(cellsFrom n sc.names []).lookup x=some c:=by
 have q:=ZV sc.names n [] (.inl h);exact yu.mp q
theorem qes{CX:CXT}{P:vU}{w:vZ}{K:zC}{mg:bH}{base:vk}{N ps:dN}{qual:Str}{scope:ux}{f:vH}{cd:vB}{A:vf}{outer:rM}{s s1:vC}{H:Hp}{E:XK}{us:a0}{vs:a8}(S:aav)(hd:cO)(e0:Lg)(hl:vs.length=ps.length)(r:Xc vs us)(x:InCallC s s.heap.objs.size (bindL (tm qual scope s.heap.objs.size f cd).kindOf EF λ_=>none) (cellsFrom iG scope.names []) (bindC (tm qual scope s.heap.objs.size f cd).kindOf EF λ_=>none) s1):
  Inv (zCD CX P w K mg base N qual scope f cd A outer s H E) [] CK H s1:=by
 have hpl:ps.length<=N.length:=by have:=v7 xv S.pre;rw[zg]at this;omega
 obtain⟨h1,tk,rfl,hk⟩:=x.done;have noA:∀b:vH,b∉(zCD CX P w K mg base N qual scope f cd A outer s H E).ex:=λb z=>vO (show b∈Pd from z) (by simp);refine⟨⟨e0.mod,S.kind,rfl,rfl,bZ,λy z c h1 h2=>?_,Ej,λy c _ h=>?_,λ_=>hd,Around.frames_deeper e0.frames,.inr bY,Ux,e0.bs,e0.bsz,λb _ _=>noA b,Ux,e0.funs,e0.frf⟩,
  rfl,e0.bare,Un.kept hk,⟨_,x.toInCall.ns,λi y v h1 h2 h3=>?_⟩,λy c h=>⟨_,x.cell y c h⟩,e0.hok.fresh bZ,λy c h=>?_,λp hp=>vO (show p∈Pe from hp) (by simp),e0.hok.kept hk,?_⟩
 ·exact name_of_addr x.apart (PySem.mem_of_lookup h1) (PySem.mem_of_lookup h2)
 ·have hy:scope.names.lookup y=some .cell\/scope.names.lookup y=some .free:=hy
  rcases hy with hy|hy
  ·exact q97 hy
  ·exact vO rfl (S.nofree _ (PySem.mem_of_lookup hy))
 ·exact ye E4
 ·have hi:i<vs.length:=by
   unfold start at h2
   by_cases hi:i<vs.length
   ·exact hi
   ·rw[zd ⇑hi]at h2
    rw[yv]at h2
    split at h2 <;> cases h2
  have ha:vs[i]?=some v:=by
   unfold start at h2;rw[zh ⇑hi,ze]at h2;cases e:vs[i]? with
   | none=>rw[e]at h2;cases h2
   | some a=>rw[e]at h2;cases h2;rfl
  obtain⟨u,hu,rv⟩:=r.get ha;have hp:ps[i]?=some y:=by
   rw[<- S.pre,wJ ∅];exact h1
  have ndP:ps.Nodup:=by rw[<- S.pre];exact S.nd.sublist (ZG _ _)
  refine⟨u,rv,?_⟩;rcases S.par y (zz hp)with k|k
  ·exact .inl ⟨k,q8y ndP hp hu k⟩
  ·obtain⟨c,e⟩:=q97 (n:=s.heap.objs.size+1) k
   refine .inr ⟨.inl k,c,e,?_⟩;have q:=x.cell y c e;rw[q86 ndP hp hu (by show scope.names.lookup y≠_;rw[k];decide)]at q;exact q
 ·exact e0.hok.fresh (ye E4)
 ·unfold start
  show _=N.length;rw[zB,zA,yY];omega
theorem qkG{CX:CXT}{P:vU}{w:vZ}{K:zC}{mg:bH}{base:vk}{k:Nat}{f:vH}{name qual:Str}{params:Arguments}{body:Ck}{scope:ux}{dV kV doc pm cdv ct oc:vB}{an od:Hz}{osl:Uk}{N ps:dN}{sp:Sp}(lk:K.lookup f=some ⟨oc,od,.func re,osl⟩)(hcd:VR)(S:aav)(len:∀vs H Q E,sp vs H Q E->vs.length=ps.length)(hbody:∀(A:vf)(outer:rM)(s:vC)(H:Hp)(vs:a8)(Q:VK)(E:XK),Room k (A.deeper (tm qual scope s.heap.objs.size f cdv))->sp vs H Q E ->
   ∃t,PSs iJ body t/\t { nx:=λ_ H'=>Q .non H',rt:=Q } CK H) :
  FnOk P w K mg base CX (k+1) f re ps sp:=by
 refine⟨len,λA outer s H args us vs Q E hr e0 hb r hsp=>?_⟩;have hl:=len _ _ _ _ hsp;have KX:K.In s.heap:=e0.mod.kin.keeps λb o e=>(e0.bs b o e).1;have lim:s.heap.NoLimit:=e0.mod.nolimit.keeps λb o e=>(e0.bs b o e).1;have hkind:∀y∈ps.zip us,scope.names.lookup y.1=some .local\/(scope.names.lookup y.1=some .cell/\((cellsFrom iG scope.names []).lookup y.1).isSome=true):=λ⟨n,v⟩ hy=>by
  rcases S.par n (Zh hy).1 with q|q
  ·exact .inl q
  ·exact .inr ⟨q,ZV _ _ _ (.inl q)⟩
 refine codeAny_call_function hr.depth (KX _ _ lk) rfl S.co S.gen rfl (PySem.W.codeRec_of KX hcd) (hb _ _ _ _ ?_);refine wpAny_newFunctionEnv_cells S.kind hkind λenv he s1 x=>?_;subst he;refine⟨lim.keeps x.toInCall.keep,codeAny_func ?_⟩;obtain⟨t,ht,hq⟩:=hbody A outer s H vs Q E (hr.deeper _) hsp;have I:Inv iJ [] CK H s1:=qes S hr.hd e0 hl r x;refine vt (ht [] s1 CK H _ I hq) (λfl s' hs=>?_) λe s' hs=>hs;have fin:∀{σ':St}{H':Hp}{v:V}{u:vB},Inv iJ [] σ' H' s'->RelV v u->Q v H'->CE outer P w H s Q u s' :=
  λ{σ' H' v u} J rv q=>⟨v,H',J.os,J.bare,J.base,J.hok,rv,q⟩
 cases fl with
 | ret u=>
  obtain⟨v,σ',H',J,rv,q⟩:=hs;exact fin J rv q
 | next=>
  obtain⟨σ',H',J,q⟩:=hs;exact fin (v:=V.non) (u:=Value.none) J rfl q
 | brk=>
  obtain⟨_,_,_,q⟩:=hs;exact False.elim q
 | cont=>
  obtain⟨_,_,_,q⟩:=hs;exact False.elim q
section
variable{X:Cx}{x:Str}{p pos:Pos}{e:vW}{es:List vW}{t:TA}{id T:String}{r:List V->Hp->VK->Prop}
noncomputable def tCB(r:Gh)(t:TA):TE:=λσ H Q=>t σ H λvs H1=>r vs H1 Q
theorem q1Q(hc:WW X jm r)(hg:Au)(hm:rJ)(hv:vm x=some jm)(ha:Qi)(hn:j7:= by decide)(hdb:aJ:=by decide)(he:aQ:=by rfl)(hpl:(vj pos im).any (·.1)=false:=by rfl):PE X cK VX:=by
 intro pins s σ H Q I h;refine v4 L8;exact PyProof.Rows.callWith_builtin1 (thn gF λus s1 ⟨vs,H1,I1,r1,q1⟩=>hc pins s1 σ H1 vs us Q I1 r1 q1) he hpl
theorem q8i(hc:WW X Av r)(hg:Au)(hm:rJ)(hv:vm x=some Av)(ha:Qi)(hn:j7:= by decide)(hdb:aJ:=by decide)(he:aQ:=by rfl)(hpl:(vj pos im).any (·.1)=false:=by rfl):PE X cK VX:=by
 intro pins s σ H Q I h;refine v4 L8;exact PyProof.Rows.callWith_type1 (thn gF λus s1 ⟨vs,H1,I1,r1,q1⟩=>hc pins s1 σ H1 vs us Q I1 r1 q1) he hpl
end
end L2
namespace HT
open PySem PyProof.Rows
section
open PySem.SeqAt
open PySem.AutoSeq1 (wpAny_loadPart')
open PySem.MeetsSeq PySem.MeetsSeq2 PySem.MeetsSeq3
end
section
variable{prog:vU}{w:vZ}{A:vf}{E:vB->vC->Prop}{s:vC}
theorem qhY{t b:vH}{vs ws:a0}{Q:aM}(ht:IsTup s.heap t vs.toArray)(hb:IsTup s.heap b ws.toArray)(hv:vs≠[])(h1:ws=[]->Q jI s)(h2:ws≠[]->Q aD { s with heap:=s.heap.push { cls:=.type "tuple", data:=.seq (vs++ws).toArray } })(hsz:vs.length+ws.length<=sizeLine):vP ak A (uV .Add jI Cy) Q E s:=by
 obtain⟨⟨cls,dd,data,sl⟩,ho,hc,n,hd⟩:=id ht;obtain⟨⟨cls2,dd2,data2,sl2⟩,ho2,hc2,n2,hd2⟩:=id hb;simp only at hc hd hc2 hd2;subst hc hd hc2 hd2;have e:vs.toArray++ws.toArray=(vs++ws).toArray:=by simp
 by_cases hw:ws=[]
 ·exact concat_meets Nk LP noFill_tuple_add seq_tuple_add PySem.F.slot_tuple_add PySem.F.entry_tuple_add pK
   (tuple_addW1 t b vs.toArray ws.toArray n n2 dd dd2 sl sl2 ⇑hv (by simp[hw])) ⟨ho,ho2,h1 hw⟩
 ·refine concat_meets Nk LP noFill_tuple_add seq_tuple_add PySem.F.slot_tuple_add PySem.F.entry_tuple_add pK
   (tuple_addW2 t b vs.toArray ws.toArray n n2 dd dd2 sl sl2 ⇑hv ⇑hw (by rw[zQ,zQ];exact hsz)) ⟨ho,ho2,?_⟩
  rw[e];exact h2 hw
noncomputable def sIx(n d:Nat):Option Int->Nat
 | none=>d
 | some v=>if v<0 then (v+cj).toNat else min v.toNat n
theorem q64(n d:Nat):sIx n d none=d:=rfl
theorem q40(n d k:Nat):sIx n d (some jb)=min k n:=by
 show (if jb<0 then (jb+cj).toNat else min (k:Int).toNat n)=min k n;rw[fO,yj]
theorem qjx(n d:Nat)(hd:d<=n)(o:eh):sIx n d o<=n:=by
 cases o with
 | none=>exact hd
 | some v=>
  show (if v<0 then (v+cj).toNat else min v.toNat n)<=n
  by_cases hv:v<0
  ·rw[vF hv];omega
  ·rw[vG hv];exact YY _ _
theorem qc9(v:Int)(n d:Nat):(if v<0 then max (v+cj) 0 else min v cj)=((sIx n d nh:Nat):Int):=by
 show (if v<0 then max (v+cj) 0 else min v cj)=(((if v<0 then (v+cj).toNat else min v.toNat n):Nat):Int)
 by_cases hv:v<0
 ·simp only[vF hv];omega
 ·simp only[vG hv];omega
theorem qcN(lo hi:eh)(n:Nat):Builtin.Slice.sliceAdjust lo hi 1 cj=(oG,Py):=by
 have h1:¬(Ae<0):=∅
 unfold Builtin.Slice.sliceAdjust;simp only[h1,if_false];refine Prod.ext ?_ ?_
 ·cases lo with
  | none=>rfl
  | some v=>exact qc9 v n 0
 ·cases hi with
  | none=>rfl
  | some v=>exact qc9 v n n
theorem qd2(i j:Nat):Builtin.Slice.slicePlaces rg By 1=j-i:=by
 unfold Builtin.Slice.slicePlaces;have h1:Ae>0:=∅
 simp only[h1,if_true,Int.ediv_one]
 split <;> omega
theorem q7o{v:vB}{o:eh}{Q:Option Int->vC->Prop}(p:tT v o)(h:Q o s):vP ak A (Builtin.Slice.slicePartIndex v) Q E s:=by
 cases p with
 | none=>exact slicePart_none h
 | int i t=>exact slicePart_int h
theorem q3q{sl:vH}{vl vu:vB}{lo hi:eh}{n:Nat}{Q:Int×Int×Nat->vC->Prop}(hs:pI)(pl:tT vl lo)(pu:tT vu hi)(h:Q (oG,1,sIx n n hi-sIx n 0 lo) s):vP ak A (Builtin.Slice.sliceApplied Gp (pure cj)) Q E s:=by
 obtain⟨os,hos,hcs,hds⟩:=id hs;unfold Builtin.Slice.sliceApplied Builtin.Slice.sliceFields;refine vA (vA (uX hos hds (x:=vl) rfl (vA (uX hos hds (x:=vu) rfl (vA (uX hos hds (x:=.none) rfl fF))))));refine vA (slicePart_none ?_);show vP _ _ (if (Ae==0)=true then _ else _) _ _ s;rw[vG (by decide)];refine vA (q7o pl (vA (q7o pu (vA fF))));show vP _ _ (match Builtin.Slice.sliceAdjust lo hi 1 cj with|(lo,hi)=>pure (lo,Ae,Builtin.Slice.slicePlaces lo hi 1)) _ _ s;rw[qcN lo hi n];show vP _ _ (pure (oG,Ae,Builtin.Slice.slicePlaces oG Py 1)) _ _ s;rw[qd2];exact vJ h
theorem qgo(xs:dw)(i k:Nat):((za k).filterMap λ(m:Nat)=>xs[(rg+iH*1).toNat]?).toArray=((xs.toList.drop i).take k).toArray:=by
 have e:(λ(m:Nat)=>xs[(rg+iH*1).toNat]?)=λm=>xs[i+m]?:=by
  funext m
  have:(rg+iH*1).toNat=i+m:=∅
  rw[this]
 rw[e];have:=pick_run xs i k;rw[Z5]at this;have e2:((λx=>xs[x]?) ∘ λx=>i+x)=λm=>xs[i+m]?:=rfl;rw[e2]at this;rw[this]
theorem q5T{t sl:vH}{items:dw}{vl vu:vB}{lo hi:eh}{Q:aM}(ht:Ud)(hs:pI)(pl:tT vl lo)(pu:tT vu hi)(hw:¬(sIx items.size 0 lo=0/\sIx items.size items.size hi=items.size))(h:Q aD { s with heap:=s.heap.push { cls:=.type "tuple", data:=.seq ((items.toList.drop DP).take cJ).toArray } })(hsz:FL):vP ak A (tD jI Gp) Q E s:=by
 have htake:sizeOk (.seq ((items.toList.drop DP).take cJ).toArray):=by
  show ((items.toList.drop DP).take cJ).toArray.size<=sizeLine;rw[zQ,zg,yP,zP];omega
 have hj:sIx items.size items.size hi<=items.size:=qjx _ _ bZ hi;obtain⟨os,hos,hcs,hds⟩:=id hs;have hTs:s.TypeIs Gp "slice" := abQ;unfold tD
 try with_reducible refine vn ?_
 first|refine vA fF|skip
 refine vA (wpAny_sequenceKey ht.typeIs (by decide) ?_);refine vA (wpAny_callSpecial?_slot (name:=Str.ofString "__getitem__") ht.typeIs PyProof.Rows.slot_tuple_getitem
  lC)
 show vP _ _ (Builtin.Tuple.tupleItemsOf jI >>= _) _ _ s;refine vA PR;refine vA (uh hTs ?_);rw[vF (by decide)];refine vA (q3q hs pl pu ?_);have hno:¬(og=true):=by
  intro q;rw[yC,yC]at q;have q1:o7=0:=eq_of_beq q.1.1;have q2:sIx items.size items.size hi-sIx items.size 0 lo=items.size:=eq_of_beq q.2;exact hw ri
 show vP _ _ (if og=true then _ else _) _ _ s;rw[vG hno,qgo]
 first
  | exact vA (m:=Builtin.Tuple.tupleExact _) (vo pb htake)
  | exact vA (m:=Builtin.Tuple.tupleExact _) (vo (vA (vJ pb)) htake)
  | exact vA (vA (m:=Builtin.Tuple.tupleExact _) (vo (vJ pb) htake))
  | exact vA (vA (m:=Builtin.Tuple.tupleExact _) (vo pb htake))
end
end HT
namespace L2
open PySem PySem.Spec PyProof.Rows
abbrev TO:=St->Hp->ER->Prop
def PO(X:Cx)(e:DV)(t:TO):Prop :=
 ∀(pins:ay)(s:vC)(σ:St)(H:Hp)(Q:ER),Inv X pins σ H s->t σ H Q ->
  vP ao X.A (evalPart e X.env) (λu s'=>∃o H',Inv X pins σ H' s'/\tT u o/\Q o H') X.xe s
noncomputable def zCv:TO:=λ_ H Q=>Q none H
noncomputable def tPart(t:TE):TO:=λσ H Q=>t σ H λx H1=>∃i,x=.int i/\Q Tm H1
theorem q2F{ns:af}:∀{us:a0},Xc cc us->uC us ns:=by
 induction ns with
 | nil=>intro us r;rw[yb]at r;cases r;exact .nil
 | cons n ns ih=>
  intro us r;rw[zI]at r;cases r with
  | cons r1 r2=>
   obtain⟨t,e⟩:=r1;subst e;exact .cons n t (ih r2)
section
variable{X:Cx}{e:vW}{te:TE}{lo hi:Option vW}{tl th:TO}{pos p2:Pos}
theorem qid:PO X none zCv:=by
 intro pins s σ H Q I h;rw[evalPart_none];exact vJ ⟨none,H,I,.none,h⟩
theorem qhG(h:ox):PO X (some e) (tPart te):=by
 intro pins s σ H Q I hw;rw[evalPart_some];refine thn O9 λu s1 ⟨x,H1,I1,r1,q1⟩=>?_;obtain⟨i,rfl,q⟩:=q1;obtain⟨t,rfl⟩:=r1;exact⟨Tm,H1,I1,rN,q⟩
def SlR(X:Cx)(r:io):Prop :=
 ∀(pins:ay)(s:vC)(σ:St)(H:Hp)(x:V)(v vl vu:vB)(lo hi:eh)(sl:vH)(Q:VK),Inv X pins σ H s->RelV x v->s.heap.IsSliceOf sl vl vu .none->tT vl lo->tT vu hi->r x lo hi H Q ->
  ∃T id,uy Av "__getitem__" = pure (some jm)/\s.TypeIs v T/\vP ao X.A (tD v Gp) cv X.xe s
theorem SlR.or{r r':io}(h:SlR X r)(h':SlR X r'):SlR X (λx lo hi H Q=>r x lo hi H Q\/r' x lo hi H Q):=by
 intro pins s σ H x v vl vu lo hi sl Q I rx hs pl pu q;rcases q with q|q
 ·exact h pins s σ H x v vl vu lo hi sl Q I rx hs pl pu q
 ·exact h' pins s σ H x v vl vu lo hi sl Q I rx hs pl pu q
noncomputable def tSl(r:io)(te:TE)(tl th:TO):TE:=λσ H Q=>te σ H λx H1=>tl σ H1 λl H2=>th σ H2 λu H3=>r x l u H3 Q
theorem qgt{r:io}(hr:SlR X r)(he:ox)(hl:PO X lo tl)(hu:PO X hi th):PE X (.Subscript e Df pos) (tSl r te tl th):=by
 intro pins s σ H Q I h;refine Subscript_ (thn ji λv s1 ⟨x,H1,I1,r1,q1⟩=>?_);refine wpAny_Slice (thn (hl pins s1 σ H1 _ I1 q1) λvl s2 ⟨l,H2,I2,pl,q2⟩=>thn (hu pins s2 σ H2 _ I2 q2) λvu s3 ⟨u,H3,I3,pu,q3⟩=>?_);rw[evalPart_none];refine vJ ?_;have I4:Inv X pins σ H3 { s3 with heap:=s3.heap.push { cls:=.type "slice", data:=.fields #[vl,vu,.none] } }:=I3.kept (t':=s3.toks) λb ob q=>zG _ q;obtain⟨T,id,hT,ht,hg⟩:=hr pins { s3 with heap:=s3.heap.push { cls:=.type "slice", data:=.fields #[vl,vu,.none] } } σ H3 x v vl vu l u s3.heap.objs.size Q I4 r1 (Y0 ..) pl pu q3;show vP ao X.A (sH e Df v Pp) cv X.xe { s3 with heap:=s3.heap.push { cls:=.type "slice", data:=.fields #[vl,vu,.none] } };exact tail_any (ops:=[Pp,v]) ht hT hg (by with_unfolding_all rfl)
noncomputable def zBn(xs:a8)(lo hi:eh):List V:=(xs.drop nJ).take eu
theorem q5U(xs:a8)(lo hi:eh):(zBn xs lo hi).length<=xs.length:=by
 unfold zBn;rw[zg,yP];omega
def rSlT(K:zC):V->Option Int->Option Int->Hp->VK->Prop:=λx lo hi H Q=>∃a xs,x=.ref a/\SqT K H a xs /\
 ¬ny/\∀p,H p=none->Q bu (upd H p (.tup Ev))
theorem qke:SlR X (rSlT X.K):=by
 intro pins s σ H x v vl vu lo hi sl Q I rx hs pl pu h;obtain⟨a,xs,rfl,hx,hw,q⟩:=h;cases rx;obtain⟨its,r,ht,hz⟩:=I.tuple hx;have hlen:its.toArray.size=xs.length:=by rw[zQ];exact r.length.symm
 refine ng;refine HT.q5T ht hs pl pu (by rw[hlen];exact hw) ?_ (by rw[hlen];exact hz);rw[hlen];refine⟨aD,_,I.laid (t':=s.toks) (o:=.tup Ev) GW bZ ?_,rfl,q _ mQ⟩;exact⟨Tf,_,Vr,IsTup.new _ _⟩
noncomputable def rCatT(K:zC):R2:=λx y H Q=>∃a b xs ys,x=.ref a/\y=.ref b/\SqT K H a xs/\SqT K H b ys/\xs≠[]/\xs.length+ys.length<=sizeLine /\
 (ys=[]->Q du H)/\(ys≠[]->∀p,H p=none->Q bu (upd H p (.tup LU)))
theorem Xc.nil_iff{xs:a8}{us:a0}(r:NT):us=[]↔xs=[]:=by
 cases r with
 | nil=>simp
 | cons _ _=>simp
theorem qiI:OpR X JF (rCatT X.K):=by
 intro pins s σ H x y v u Q I rx ry h;obtain⟨a,b,xs,ys,rfl,rfl,ha,hb,hx,hz,q1,q2⟩:=h;cases rx;cases ry;obtain⟨its,r1,p1,_⟩:=I.tuple ha;obtain⟨its2,r2,p2,_⟩:=I.tuple hb;refine HT.qhY p1 p2 (λz=>hx (r1.nil_iff.mp z)) (λz=>⟨du,H,I,rfl,q1 (r2.nil_iff.mp z)⟩) KC (by rw[<- r1.length,<- r2.length];exact hz);refine⟨aD,_,I.laid (t':=s.toks) (o:=.tup LU) GW bZ ?_,rfl,q2 (λw=>z (r2.nil_iff.mpr w)) _ mQ⟩;exact⟨by rw[zB];exact hz,_,r1.append r2,IsTup.new _ _⟩
end
noncomputable def ixN(n:Nat)(i:Int):Option Nat:=if 0<=i then (if i<n then some i.toNat else none)else if -cj<=i then some (i+n).toNat else none
noncomputable def atI{α:Type}(xs:bB)(i:Int):Option α:=(ixN xs.length i).bind λj=>xs[j]?
theorem qhH{n:Nat}{i:Int}{j:Nat}(h:ixN n i=some j):tP i n=some j/\j<n/\-cj<=i/\i<n:=by
 unfold ixN at h
 by_cases h0:0<=i
 ·rw[vF h0]at h
  by_cases h1:i<n
  ·rw[IZ]at h
   have e:i.toNat=j:=zw h;exact⟨by rw[seqIndex_of h0 h1,e],∅,∅,h1⟩
  ·rw[QO]at h;cases h
 ·rw[vG h0]at h
  by_cases h1:-cj<=i
  ·rw[IZ]at h
   have e:(i+n).toNat=j:=zw h;exact⟨by rw[seqIndex_neg ∅ h1,e],∅,h1,∅⟩
  ·rw[QO]at h;cases h
theorem q7X{α:Type}{xs:bB}{i:Int}{v:α}(h:atI xs i=some v):∃j,tP i xs.length=some j/\xs[j]?=some v/\j<xs.length/\-aaT<=i/\i<xs.length:=by
 unfold atI at h;cases e:ixN xs.length i with
 | none=>rw[e]at h;cases h
 | some j=>
  rw[e]at h;obtain⟨h1,h2,h3,h4⟩:=qhH e;exact⟨j,h1,h,h2,h3,h4⟩
def zA5(b:vW):Prop:=∀o i,subscripted b false o i=operate [o,i] (tD o i)
def IxR(X:Cx)(r:R2):Prop :=
 ∀(value slice:vW)(pins:ay)(s:vC)(σ:St)(H:Hp)(x y:V)(v u:vB)(Q:VK),Inv X pins σ H s->RelV x v->RelV y u->r x y H Q ->
  subscripted slice false v u=operate [v,u] (tD v u)->vP ao X.A (sH value slice v u) cv X.xe s
def MtR(X:Cx)(id:String)(r:oh):Prop :=
 ∀(pins:ay)(s:vC)(σ:St)(H:Hp)(x:V)(xs:a8)(v:vB)(us:a0)(Q:VK),Inv X pins σ H s->RelV x v->Xc xs us->r x xs H Q ->
  vP ao X.A U5 cv X.xe s
section
variable{X:Cx}{a b:vW}{ta tb:TE}{pos:Pos}
theorem IxR.or{r r':R2}(h:IxR X r)(h':IxR X r'):IxR X GU:=by
 intro value slice pins s σ H x y v u Q I rx ry q hs;rcases q with q|q
 ·exact h value slice pins s σ H x y v u Q I rx ry q hs
 ·exact h' value slice pins s σ H x y v u Q I rx ry q hs
theorem qkz{r:R2}(hr:IxR X r)(ha:oy)(hb:Hw)(hs:zA5 b):PE X EV GD:=by
 intro pins s σ H Q I h;exact Subscript_ (binT ha hb I h λv u s2 x y H2 I2 rx ry q=>hr a b pins s2 σ H2 x y v u Q I2 rx ry q (hs _ _))
noncomputable def rIxL(K:zC):R2:=λx y H Q=>∃p xs i v,x=.ref p/\y=.int i/\SqL K H p xs/\atI xs i=some v/\Q v H
noncomputable def rIxT(K:zC):R2:=λx y H Q=>∃p xs i v,x=.ref p/\y=.int i/\SqT K H p xs/\atI xs i=some v/\Q v H
noncomputable def rIxS:R2:=λx y H Q=>∃z i c,x=.str z/\y=.int i/\z.length<=sizeLine/\atI z.cps.toList i=some c/\Q (.str ⟨#[c]⟩) H
theorem qiv:IxR X (rIxL X.K):=by
 intro value slice pins s σ H x y v u Q I rx ry h hs;obtain⟨p,xs,i,z,rfl,rfl,hq,he,q⟩:=h;cases rx;obtain⟨t,rfl⟩:=ry;obtain⟨its,r,pl,hz⟩:=I.list hq;obtain⟨j,h1,h2,h3,h4,h5⟩:=q7X he;obtain⟨w,ew,rw'⟩:=r.get h2;have hl:=r.length;have hn:=zAI;have fin:EP X pins σ Q w s:=aaK
 by_cases h0:0<=i
 ·have hj:i.toNat=j:=by
   rw[seqIndex_of h0 h5]at h1;exact zw h1
  exact item_listR pl.isList h0 ∅ (by rw[hj];simpa using ew) fin hs
 ·have hj:(i+(its.toArray.size:Int)).toNat=j:=by
   rw[seqIndex_neg ∅ h4]at h1;rw[zQ,<- hl];exact zw h1
  exact tU (x:=w) pl.isList.typeIs slot_list_getitem.lookup
   (wpAny_getItem_list_neg (Q:=λr s'=>r=w/\EP X pins σ Q r s') pl.isList ∅ (by rw[zQ] <;> omega) ∅ (by rw[hj];simpa using ew) ⟨rfl,fin⟩) hs
theorem qjL:IxR X (rIxT X.K):=by
 intro value slice pins s σ H x y v u Q I rx ry h hs;obtain⟨p,xs,i,z,rfl,rfl,hq,he,q⟩:=h;cases rx;obtain⟨t,rfl⟩:=ry;obtain⟨its,r,pl,hz⟩:=I.tuple hq;obtain⟨j,h1,h2,h3,h4,h5⟩:=q7X he;obtain⟨w,ew,rw'⟩:=r.get h2;have hl:=r.length;have hn:=zAI;have fin:EP X pins σ Q w s:=aaK;exact tU (x:=w) pl.typeIs slot_tuple_getitem.lookup
  (getItem_tuple (j:=j) (Q:=λr s'=>r=w/\EP X pins σ Q r s') pl ∅ ∅ (by rw[zQ,<- hl];exact h1) ⇑ew ⟨rfl,fin⟩) hs
theorem qjh:IxR X rIxS:=by
 intro value slice pins s σ H x y v u Q I rx ry h hs;obtain⟨z,i,c,rfl,rfl,hz,he,q⟩:=h;obtain⟨t,rfl⟩:=rx;obtain⟨t',rfl⟩:=ry;obtain⟨j,h1,h2,h3,h4,h5⟩:=q7X he;have hl:z.cps.toList.length=z.length:=by simp[Str.length]
 rw[hl]at h1 h4 h5;have hn:=zAI;exact tail_any VT slot_str_getitem.lookup (getItem_str (c:=c) (by
  have e1:decide (i < -(2^63:Int))=false:=vX ∅;have e2:decide (i>=2^63)=false:=vX ∅;rw[e1,e2,wZ]) (by rw[h1];simpa using h2) ⟨.str ⟨#[c]⟩,H,iU,bw,q⟩) hs
noncomputable def rIx(K:zC):R2:=λx y H Q=>rIxL K x y H Q\/rIxT K x y H Q\/rIxS x y H Q
theorem qk9:IxR X (rIx X.K):=qiv.or (qjL.or qjh)
theorem Inv.lst{pins:ay}{σ:St}{H:Hp}{s:vC}{p:vH}{xs:a8}(I:aq)(h:H p=some eF):
  ∃(its:a0) (n:Nat),Xc xs its/\s.heap.get? p=some { cls:=.type "list", data:=.seq its.toArray n }/\xs.length<=sizeLine:=by
 obtain⟨z,its,n,r,e⟩:=I.hok p _ h;exact⟨its,n,r,e,z⟩
theorem qab(lo hi:eh)(n:Nat):(ur lo hi none n).1=((HT.sIx n 0 lo:Nat):Int)/\(ur lo hi none n).2.1=((HT.sIx n n hi:Nat):Int)/\(ur lo hi none n).2.2=1:=by
 refine⟨?_,?_,rfl⟩
 ·cases lo with
  | none=>simp[ur,HT.sIx]
  | some i=>
   simp only[ur,HT.sIx,YZ,show Ae>0 by decide,if_true]
   by_cases h:i<0
   ·simp only[h,if_true] <;> omega
   ·simp only[h,if_false] <;> omega
 ·cases hi with
  | none=>simp[ur,HT.sIx]
  | some i=>
   simp only[ur,HT.sIx,YZ,show Ae>0 by decide,if_true]
   by_cases h:i<0
   ·simp only[h,if_true] <;> omega
   ·simp only[h,if_false] <;> omega
theorem q8L(its:a0)(lo hi:eh):slicePick its.toArray lo hi none=((its.drop (HT.sIx its.length 0 lo)).take (HT.sIx its.length its.length hi-HT.sIx its.length 0 lo)).toArray:=by
 obtain⟨h1,h2,h3⟩:=qab lo hi its.toArray.size;unfold slicePick;rw[h1,h2,h3];simp only[sliceRange_one,pick_run,zQ] <;> rfl
def rSlL(K:zC):V->Option Int->Option Int->Hp->VK->Prop:=λx lo hi H Q=>∃a xs,x=.ref a/\SqL K H a xs/\∀p,H p=none->Q bu (upd H p (.lst Ev))
theorem qj1:SlR X (rSlL X.K):=by
 intro pins s σ H x v vl vu lo hi sl Q I rx hs pl pu h;obtain⟨a,xs,rfl,hx,q⟩:=h;cases rx;obtain⟨its,r,ht,hz⟩:=I.list hx;have hlen:=r.length;refine⟨"list", _,slot_list_getitem.lookup,ht.isList.typeIs,?_⟩;refine wpAny_getItem_list_slice ht.isList hs pl pu .none (by simp) ?_ (by rw[zQ] <;> omega);rw[q8L,<- hlen];refine⟨aD,_,I.laid (t':=s.toks) (o:=.lst Ev) GW bZ ?_,rfl,q _ mQ⟩;exact⟨Tf,_,0,Vr,iK⟩
noncomputable def zAH:V->Bool
 | .non=>true
 | .bl _=>true
 | .int _=>true
 | .str _=>true
 | _=>false
noncomputable def eqV:V->V->Bool
 | .non,.non=>true
 | .bl a,.bl b=>a==b
 | .bl a,.int b=>(if a then 1 else 0)==b
 | .int a,.bl b=>a==(if b then 1 else 0)
 | .int a,.int b=>a==b
 | .str a,.str b=>a==b
 | _,_=>false
theorem qjB{A:vf}{s:vC}{y x:V}{u v:vB}(ry:pz)(rx:RelV x v)(fy:zAH y=true)(fx:zAH x=true):SeqAt.EqAt A s u v (eqV y x):=by
 cases y with
 | non=>
  cases ry;cases x with
  | non=>cases rx;exact SeqAt.EqAt.same _
  | bl b=>cases rx;exact SeqAt.EqAt.none_bool b
  | int b=>obtain⟨t,rfl⟩:=rx;exact SeqAt.EqAt.none_int b t
  | str b=>obtain⟨t,rfl⟩:=rx;exact SeqAt.EqAt.none_str b t
  | _=>exact vO (show false=true from fx) yO
 | bl a=>
  cases ry;cases x with
  | non=>cases rx;exact SeqAt.EqAt.bool_none a
  | bl b=>cases rx;exact SeqAt.EqAt.bool_bool a b
  | int b=>obtain⟨t,rfl⟩:=rx;exact SeqAt.EqAt.bool_int a b t
  | str b=>obtain⟨t,rfl⟩:=rx;exact SeqAt.EqAt.bool_str a b t
  | _=>exact vO (show false=true from fx) yO
 | int a=>
  obtain⟨t',rfl⟩:=ry;cases x with
  | non=>cases rx;exact SeqAt.EqAt.int_none a t'
  | bl b=>cases rx;exact SeqAt.EqAt.int_bool a t' b
  | int b=>obtain⟨t,rfl⟩:=rx;exact SeqAt.EqAt.int_int a t' b t
  | str b=>obtain⟨t,rfl⟩:=rx;exact SeqAt.EqAt.int_str a t' b t
  | _=>exact vO (show false=true from fx) yO
 | str a=>
  obtain⟨t',rfl⟩:=ry;cases x with
  | non=>cases rx;exact SeqAt.EqAt.str_none a t'
  | bl b=>cases rx;exact SeqAt.EqAt.str_bool a t' b
  | int b=>obtain⟨t,rfl⟩:=rx;exact SeqAt.EqAt.str_int a t' b t
  | str b=>obtain⟨t,rfl⟩:=rx;exact SeqAt.EqAt.str_str a t' b t
  | _=>exact vO (show false=true from fx) yO
 | _=>exact vO (show false=true from fy) yO
noncomputable def eqU(x:V)(u:vB):Bool:=match u with
 | .none=>eqV .non x
 | .bool b=>eqV IW x
 | .int i _=>eqV gc x
 | .str z _=>eqV (.str z) x
 | _=>false
theorem qeF{x y:V}{u:vB}(r:pz)(f:zAH y=true):eqU x u=eqV y x:=by
 cases y with
 | non=>cases r;rfl
 | bl b=>cases r;rfl
 | int i=>obtain⟨t,rfl⟩:=r;rfl
 | str z=>obtain⟨t,rfl⟩:=r;rfl
 | _=>exact vO (show false=true from f) yO
theorem q7C{x:V}:∀{xs:a8}{us:a0},Xc xs us->xs.all zAH=true->us.any Jk=xs.any λy=>eqV y x
 | _,_,.nil,_=>rfl
 | y::xs,u::us,.cons r t,f=>by
  rw[xz,yC]at f;rw[wK,wK,qeF r f.1,q7C t f.2]
theorem q6G{A:vf}{s:vC}{x:V}{v:vB}(rx:RelV x v)(fx:zAH x=true):∀{xs:a8}{us:a0},Xc xs us->xs.all zAH=true->∀u∈us,SeqAt.EqAt A s u v (eqU x u)
 | _,_,.nil,_=>λu hu=>by cases hu
 | y::xs,u::us,.cons r t,f=>λu' hu=>by
  rw[xz,yC]at f;rcases zH.mp hu with rfl|hu
  ·rw[qeF r f.1];exact qjB r rx f.1 fx
  ·exact q6G rx fx t f.2 u' hu
noncomputable def inV(x:V)(xs:a8):Bool:=xs.any λy=>eqV y x
noncomputable def rIn(K:zC)(neg:Bool):R2:=λx y H Q=>∃p xs,y=.ref p/\(SqL K H p xs\/SqT K H p xs)/\zAH x=true/\xs.all zAH=true/\Q (.bl (if neg then !inV x xs else inV x xs)) H
theorem qa7:OpR X (uP .NotIn) (rIn X.K true):=by
 intro pins s σ H x y v u Q I rx ry h;obtain⟨p,xs,rfl,hq,fx,fs,q⟩:=h;cases ry;rcases hq with hq|hq
 ·obtain⟨its,r,pl,hz⟩:=I.list hq
  refine SeqAt.notIn_listAt Jk pl.isList Ig QD;rw[show its.toArray.any Jk=its.any Jk by simp,q7C r fs];exact q
 ·obtain⟨its,r,pl,hz⟩:=I.tuple hq
  refine SeqAt.notIn_tupleAt Jk pl Ig QD;rw[show its.toArray.any Jk=its.any Jk by simp,q7C r fs];exact q
theorem qq:WW X aaG (λxs H Q=>∃p ys,xs=Rh/\IP/\Q Ea H):=by
 intro pins s σ H xs us Q I r h;obtain⟨p,ys,rfl,hq,q⟩:=h;obtain⟨u,rfl,rx⟩:=vals1 r;cases rx;have hn:=zAI;rcases hq with hq|hq
 ·obtain⟨its,r',pl,hz⟩:=I.list hq
  have hlen:=r'.length;exact Calls.call_len_list pl.isList (by simp only[zQ] <;> omega) ⟨Ea,H,iU,⟨s.toks+1,by rw[zQ,hlen]⟩,q⟩
 ·obtain⟨its,r',pl,hz⟩:=I.tuple hq
  have hlen:=r'.length;exact len_tuple pl (by simp only[zQ] <;> omega) ⟨Ea,H,iU,⟨s.toks+1,by rw[zQ,hlen]⟩,q⟩
theorem q3g:WW X Aw (λxs H Q=>∃p ys,xs=Rh/\IP/\∀l,H l=none->Q cX OW):=by
 intro pins s σ H xs us Q I r h;obtain⟨p,ys,rfl,hq,q⟩:=h;obtain⟨u,rfl,rx⟩:=vals1 r;cases rx;have fin:∀(its:a0),Xc ys its->ys.length<=sizeLine->∀(h':vk)(c':Nat),(∀b o',s.heap.get? b=some o'->h'.get? b=some o') ->
   h'.get? s.heap.objs.size=some { cls:=.type "list", dict:=none,data:=.seq its.toArray c',slots:=#[] }->EP X pins σ Q aD { s with heap:=h' }:=λits r' hz h' c' kp e=>
  ⟨aD,_,I.laid (t':=s.toks) kp bZ (show Xh X.prog X.w _ h' _ pP from ⟨hz,its,c',r',e⟩),rfl,q _ mQ⟩
 rcases hq with hq|hq
 ·obtain⟨its,r',pl,hz⟩:=I.list hq
  have hlen:=r'.length;obtain⟨o,ho,hc,n,hd⟩:=pl.isList;exact call_list_seq p bA ho hc hd DJ (by simp only[zQ] <;> omega)
 ·obtain⟨its,r',pl,hz⟩:=I.tuple hq
  have hlen:=r'.length;obtain⟨o,ho,hc,n,hd⟩:=pl;exact call_list_seq p HX ho hc hd DJ (by simp only[zQ] <;> omega)
def tyV(K:zC)(T:String)(x:V)(H:Hp):Prop:=match x with
 | .str _=>T = "str"
 | .int _=>T = "int"
 | .ref p=>(T = "list" /\ ∃xs,SqL K H p xs)\/(T = "tuple" /\ ∃o,K.lookup p=some o/\o.cls=.type "tuple" /\ o.dict=none) \/
   (T = "dict" /\ ((∃kvs,H p=some ci)\/∃kvs,H p=some Ay))\/(T = "set" /\ ∃S n,H p=some (.set S n))
 | _=>False
theorem qek{pins:ay}{σ:St}{H:Hp}{s:vC}{T:String}{x:V}{v:vB}(I:aq)(r:RelV x v)(ty:tyV X.K T x H):
  s.TypeIs v T/\∀a,v=.ref a->∃ob,s.heap.get? a=some ob/\ob.dict=none:=by
 cases x with
 | str z=>
  obtain⟨t,rfl⟩:=r;cases (show T = "str" from ty);exact⟨VT,λ_ e=>nomatch e⟩
 | int i=>
  obtain⟨t,rfl⟩:=r;cases (show T = "int" from ty);exact⟨typeIs_int s i t,λ_ e=>nomatch e⟩
 | ref p=>
  cases r;rcases ty with⟨rfl,xs,hq⟩|⟨rfl,o,hk,hc,hd⟩|⟨rfl,hk⟩|⟨rfl,S,n,hk⟩
  ·obtain⟨its,_,pl,_⟩:=I.list hq
   refine⟨pl.isList.typeIs,λa e=>?_⟩;cases e;obtain⟨o,n,e,c,hd,_⟩:=pl;exact⟨o,e,hd⟩
  ·refine⟨⟨o,I.kIn p o hk,hc⟩,λa e=>?_⟩
   cases e;exact⟨o,I.kIn _ o hk,hd⟩
  ·have z:∃o,s.heap.get? p=some o/\o.ExactDict:=by
    rcases hk with⟨kvs,hk⟩|⟨kvs,hk⟩
    ·obtain⟨_,_,_,_,o,_,_,e,ex,_⟩:=I.hok p _ hk
     exact⟨o,e,ex⟩
    ·obtain⟨_,_,_,_,o,_,_,e,ex,_⟩:=I.hok p _ hk
     exact⟨o,e,ex⟩
   obtain⟨o,e,ex⟩:=z;refine J8;cases e2;exact abR
  ·obtain⟨o,_,_,_,e,ex,_⟩:=I.hok p _ hk
   refine J8;cases e2;exact abR
 | _=>exact False.elim ty
noncomputable def tBM0(K:zC)(T:String)(r:oh)(to:TE):TE:=λσ H Q=>to σ H λx H1=>tyV K T x H1/\r x [] H1 Q
noncomputable def tBM(K:zC)(T:String)(r:oh)(to:TE)(t:TA):TE:=λσ H Q=>to σ H λx H1=>tyV K T x H1/\t σ H1 λxs H2=>r x xs H2 Q
variable{o e:vW}{es:List vW}{to:TE}{t:TA}{name:Str}{apos cpos:Pos}{T id:String}{r:V->List V->Hp->VK->Prop}
theorem qaA(pa:PlainAttrs T)(slot:Slot T name id)(hty:DN)(hm:MtR X id r)(ho:PE X o to)(hbase:Kg:=by rfl)(hline:dQ=true:=by rfl):PE X (.Call Oc [] [] cpos) (tBM0 X.K T r to):=by
 intro pins s σ H Q I h;refine wpAny_Call_method0_late hbase hline (thn kP λv s1 ⟨x,H1,I1,r1,ty,q1⟩=>?_);obtain⟨h1,h2⟩:=qek I1 r1 ty;exact⟨T,id,pa,slot,hty,h1,h2,Calls.callWith_builtin rfl (PySem.evalArgs_none (hm pins s1 σ H1 x [] v [] Q I1 r1 .nil q1))⟩
theorem q2f(pa:PlainAttrs T)(slot:Slot T name id)(hty:DN)(hm:MtR X id r)(ho:PE X o to)(ha:Qi)(hbase:Kg:=by rfl)(hfew:((vj cpos (vK jK X.env)).all (λx=>!x.1)&&(uI cpos j8).all gE
   && decide ((e::es).length+([]:List uH).length+(if ([]:List uH).isEmpty then 0 else 1)<30))=true:=by rfl)
  (hline:dQ=true:=by rfl) (hs:vK jK X.env=cH::vK es X.env:=by rfl) (hplain:(vj cpos im).any (·.1)=false:=by rfl) :
  PE X (.Call Oc jK [] cpos) (tBM X.K T r to t):=by
 intro pins s σ H Q I h;refine wpAny_Call_method_late hbase hfew hline rfl (thn kP λv s1 ⟨x,H1,I1,r1,ty,q1⟩=>?_);obtain⟨h1,h2⟩:=qek I1 r1 ty;refine⟨T,id,pa,slot,hty,h1,h2,?_⟩;have hA:=ha cpos pins s1 σ H1 _ I1 q1;rw[hs]at hA ⊢;refine Calls.callWith_builtin (by show (false || (vj cpos im).any (·.1))=false;rw[hplain] <;> rfl) (Calls.evalArgs_plain ?_);exact thn hA λus s2 ⟨vs,H2,I2,r2,q2⟩=>hm pins s2 σ H2 x vs v us Q I2 r1 r2 q2
end
def MtM(X:Cx)(id:String)(r:oh):Prop :=
 ∀(pins:ay)(s:vC)(σ:St)(H:Hp)(x:V)(xs:a8)(v:vB)(us:a0)(Q:VK),Inv X pins σ H s->RelV x v->Xc xs us->r x xs H Q ->
  vP ao X.A U5 cv X.xe s
theorem Xc.one:∀{x:V}{us:a0},Xc [x] us->∃u,us=[u]/\RelV x u
 | _,_,.cons r .nil=>OQ
theorem Xc.zero:∀{us:a0},Xc [] us->us=[]
 | _,.nil=>rfl
theorem Xc.dropLast{xs:a8}{us:a0}(h:NT):Xc xs.dropLast us.dropLast:=by
 induction h with
 | nil=>exact .nil
 | cons r t ih=>
  cases t with
  | nil=>exact .nil
  | cons q t'=>exact .cons r ih
theorem Xc.eraseIdx:∀{xs:a8}{us:a0}(i:Nat),Xc xs us->Xc (xs.eraseIdx i) (us.eraseIdx i)
 | _,_,_,.nil=>.nil
 | _,_,0,.cons _ t=>t
 | _,_,i+1,.cons r t=>.cons r (Xc.eraseIdx i t)
theorem Xc.reverse{xs:a8}{us:a0}(h:NT):Xc xs.reverse us.reverse:=by
 induction h with
 | nil=>exact .nil
 | cons r t ih=>rw[ZH,ZH];exact Xc.append ih (.cons r .nil)
theorem Xc.rep{xs:a8}{us:a0}(h:NT):∀k:Nat,Xc (zn k xs).flatten (zn k us).flatten
 | 0=>.nil
 | k+1=>by
  rw[yV,yV,yA,yA];exact Xc.append h (Xc.rep h k)
theorem qdl{α:Type}(l:bB):l.eraseIdx (l.length-1)=l.dropLast:=by
 induction l with
 | nil=>rfl
 | cons a r ih=>
  cases r with
  | nil=>rfl
  | cons b r=>
   have e:(a::b::r).length-1=((b::r).length-1)+1:=by
    have h1:(a::b::r).length=r.length+2:=rfl;have h2:(b::r).length=r.length+1:=rfl;omega
   rw[e,List.eraseIdx_cons_succ,ih]
   all_goals rfl
theorem q5q{α:Type}:∀(l:bB)(i:Nat),(l.eraseIdx i).length<=l.length
 | [],_=>zK _
 | _::_,0=>yz _
 | _::r,i+1=>Nat.succ_le_succ (q5q r i)
theorem q89(its:a0):∀(k:Nat)(acc:a0),
  ZW Ie acc.toArray (zn k its.toArray)=(acc++(zn k its).flatten).toArray
 | 0,acc=>by simp
 | k+1,acc=>by
  have e:acc.toArray++its.toArray=(acc++its).toArray:=by simp
  have e2:(acc++its)++(zn k its).flatten=acc++(zn (k+1) its).flatten:=by
   rw[yV,yA,zL]
  rw[<- e2,<- q89 its k (acc++its),<- e,yV,wL]
section
variable{X:Cx}{pins:List (vH×Obj)}{σ:St}{H:Hp}{s:vC}{l b:vH}{xs ys zs:List V}
theorem Inv.lset{its its':a0}{n:Nat}{f:aaz}{t':Nat}(I:aq)(hH:H l=some eF)(e:s.heap.get? l=some { cls:=.type "list", data:=.seq its.toArray n })(hf:f its.toArray=its'.toArray)(hv:Xc ys its')(hz:GZ):
  Inv X pins σ OW { s with heap:=s.heap.update l MJ,toks:=t' }:=by
 have q:=PySem.IsL.update e f;rw[hf]at q;refine I.write (x:=l) (e:=l) (by rw[hH];exact trivial) bA (λb' u hb hu=>(zt s.heap MJ iz).trans hu) ⟨_,q⟩ ?_;exact⟨hz,its',_,hv,q⟩
theorem Inv.lnew{its:a0}{t':Nat}(I:aq)(hv:Xc ys its)(hz:GZ):
  Inv X pins σ (upd H s.heap.objs.size pP) { s with heap:=s.heap.push { cls:=.type "list", data:=.seq its.toArray },toks:=t' } :=
 I.laid Ij bZ ⟨hz,its,0,hv,iK⟩
theorem Inv.fresh(I:aq):H s.heap.objs.size=none:=I.hok.fresh bZ
theorem Inv.lstM(I:aq)(hH:H l=some eF):xs.length<=sizeLine/\∃(its:a0) (n:Nat),Xc xs its/\xs.length=its.length/\s.heap.get? l=some { cls:=.type "list", data:=.seq its.toArray n }:=by
 obtain⟨z,its,n,r,e⟩:=I.hok l _ hH;exact⟨z,its,n,r,r.length,e⟩
theorem zAX{n:Nat}(h:n<=sizeLine):Builtin.List.listTooLong n=false:=by
 unfold Builtin.List.listTooLong;exact vX ∅
end
section
variable{X:Cx}
def WV:V->List V->Hp->VK->Prop:=λx vs H Q=>∃l xs y,x=.ref l/\vs=[y]/\H l=some eF/\xs.length<sizeLine/\Q .non (upd H l (.lst (xs++[y])))
theorem q0T:MtM X "list.append" WV:=by
 intro pins s σ H x vs v us Q I rx rv h;obtain⟨l,xs,y,rfl,rfl,hH,hz,q⟩:=h;cases rx;obtain⟨u,rfl,ru⟩:=rv.one;obtain⟨z,its,n,r,hl,e⟩:=I.lstM hH;refine ud F.slot_list_append eG F.entry_list_append (F.args_list_append_2 _ _) (PySem.list_append l its.toArray n u (by rw[zQ];omega)) Ei;refine⟨.non,_,I.lset (its':=its++[u]) hH e (by simp) (r.append abM) ?_,rfl,q⟩;rw[zB,zR];omega
def zB3:V->List V->Hp->VK->Prop:=λx vs H Q=>∃l b xs zs,x=.ref l/\vs=[Cy]/\H l=some eF/\H b=some (.lst zs)/\xs.length+zs.length<=sizeLine/\Q .non (upd H l Li)
theorem qeU:MtM X "list.extend" zB3:=by
 intro pins s σ H x vs v us Q I rx rv h;obtain⟨l,b,xs,zs,rfl,rfl,hH,hB,hz,q⟩:=h;cases rx;obtain⟨u,rfl,ru⟩:=rv.one;cases ru;obtain⟨z,its,n,r,hl,e⟩:=I.lstM hH;obtain⟨z2,its2,n2,r2,hl2,e2⟩:=I.lstM hB;have hsz:its.toArray.size+its2.toArray.size<=sizeLine:=by rw[zQ,zQ];omega
 have hlong:¬(!its.toArray.isEmpty&&Builtin.List.listTooLong FK)=true:=by
  rw[zAX hsz,wv];exact yO
 refine ud F.slot_list_extend eG F.entry_list_extend MM
  (AutoSeq1.list_extend_list_list_0 l its.toArray n b its2.toArray n2 hlong (by rw[zQ];omega) ∅) ⟨e,e2,?_⟩
 refine⟨.non,_,I.lset (its':=its++its2) hH e (by simp) NA ?_,rfl,q⟩;rw[zB];omega
def rPop:V->List V->Hp->VK->Prop:=λx vs H Q=>∃l xs y,x=.ref l/\vs=[]/\H l=some eF/\xs[xs.length-1]?=some y/\Q y (upd H l (.lst xs.dropLast))
theorem qah:MtM X "list.pop" rPop:=by
 intro pins s σ H x vs v us Q I rx rv h;obtain⟨l,xs,y,rfl,rfl,hH,hy,q⟩:=h;cases rx;have hus:=rv.zero;subst hus;obtain⟨z,its,n,r,hl,e⟩:=I.lstM hH;obtain⟨u,hu,ru⟩:=r.get hy;have hy':its.toArray[TH]?=some u:=by
  show its.toArray[its.length-1]?=some u;rw[<- zb,<- hl];exact hu
 refine ud F.slot_list_pop eG F.entry_list_pop (F.args_list_pop_1 _) (MeetsSeq.list_pop_last l its.toArray n u hy' (by rw[zQ];omega)) Ei;refine⟨y,_,I.lset (its':=its.dropLast) hH e ?_ r.dropLast ?_,ru,q⟩
 ·show its.toArray.eraseIdxIfInBounds TH=its.dropLast.toArray
  rw[zQ,xm,qdl]
 ·rw[List.length_dropLast]
  omega
def rPopAt:V->List V->Hp->VK->Prop:=λx vs H Q=>∃l xs i k y,x=.ref l/\vs=[gc]/\H l=some eF/\-(2^63)<=i/\i<2^63/\tP i xs.length=some k/\xs[k]?=some y/\Q y (upd H l (.lst (xs.eraseIdx k)))
theorem qfP:MtM X "list.pop" rPopAt:=by
 intro pins s σ H x vs v us Q I rx rv h;obtain⟨l,xs,i,k,y,rfl,rfl,hH,h1,h2,hk,hy,q⟩:=h;cases rx;obtain⟨u,rfl,ru⟩:=rv.one;obtain⟨t,rfl⟩:=ru;obtain⟨z,its,n,r,hl,e⟩:=I.lstM hH;obtain⟨w,hw,rw'⟩:=r.get hy;refine ud F.slot_list_pop eG F.entry_list_pop (F.args_list_pop_2 _ _)
  (MeetsSeq.list_pop_at l its.toArray n i t k w Q9 (by rw[zQ,<- hl];exact hk) (by rw[<- zb];exact hw) (by rw[zQ];omega)) Ei
 refine⟨y,_,I.lset (its':=its.eraseIdx k) hH e ?_ (r.eraseIdx k) ?_,rw',q⟩
 ·show its.toArray.eraseIdxIfInBounds k=(its.eraseIdx k).toArray
  rw[xm]
 ·have:=q5q xs k
  omega
noncomputable def rCat:R2:=λx y H Q=>∃l b xs zs,x=.ref l/\y=.ref b/\H l=some eF/\H b=some (.lst zs)/\xs.length+zs.length<=sizeLine/\∀p,H p=none->Q bu (upd H p Li)
theorem qku:OpR X JF rCat:=by
 intro pins s σ H x y v u Q I rx ry h;obtain⟨l,b,xs,zs,rfl,rfl,hH,hB,hz,q⟩:=h;cases rx;cases ry;obtain⟨z,its,n,r,hl,e⟩:=I.lstM hH;obtain⟨z2,its2,n2,r2,hl2,e2⟩:=I.lstM hB;refine PySem.P.add_list e e2 ?_ (by rw[zQ,zQ];omega);have ea:its.toArray++its2.toArray=(its++its2).toArray:=by simp
 rw[ea];exact⟨SG,_,I.lnew (t':=s.toks) NA (by rw[zB];omega),rfl,q _ I.fresh⟩
noncomputable def rRep:R2:=λx y H Q=>∃l k xs,x=.ref l/\y=.int k/\H l=some eF/\-(2^63)<=k/\k<2^63/\xs.length*k.toNat<=sizeLine /\
 ∀p,H p=none->Q bu (upd H p (.lst (zn k.toNat xs).flatten))
theorem qiB{α:Type}(xs:bB)(k:Nat):(zn k xs).flatten.length=k*xs.length:=by
 induction k with
 | zero=>simp
 | succ k ih=>rw[yV,yA,zB,ih,Nat.succ_mul,Nat.add_comm]
theorem qjg:OpR X (uV .Mult) rRep:=by
 intro pins s σ H x y v u Q I rx ry h;obtain⟨l,k,xs,rfl,rfl,hH,h1,h2,hz,q⟩:=h;cases rx;obtain⟨t,rfl⟩:=ry;obtain⟨z,its,n,r,hl,e⟩:=I.lstM hH;have hlen:its.toArray.size*k.toNat<=sizeLine:=by rw[zQ,<- hl];exact hz
 have hcap:¬its.toArray.size*k.toNat>(2^63-1)/8:=by
  have:acb<=(2^63-1)/8:=by decide
  omega
 have hfit:¬(!Builtin.List.listFitsIndex k)=true:=by
  rw[Q9];exact yO
 have hlong:¬Builtin.List.listTooLong (its.toArray.size*k.toNat)=true:=by
  rw[zAX hlen];exact yO
 have hnew:ZW Ie #[] (zn (if its.toArray.isEmpty=true then 0 else k.toNat) its.toArray)=(zn k.toNat its).flatten.toArray:=by
  have f0:∀m:Nat,ZW Ie #[] (zn m its.toArray)=(zn m its).flatten.toArray:=λm=>by
   have:=q89 its m [];rw[yT]at this;exact this
  rw[f0];cases its with
  | nil=>simp
  | cons a r'=>rw[vG (by simp)]
 refine wpAny_binaryOp_repeat_ref (T := "list") (U := "int") (by decide) eG (λs'=>typeIs_int s' k t) noFill_list_mul F.fills_int_mul F.slot_int_rmul repeat_list F.slot_int_index.lookup
  (ud F.slot_int_rmul (typeIs_int s k t) F.entry_int_rmul (F.args_int_rmul_2 _ _) (int___rmul___int_list k t l its.toArray n)
   ⟨e,rfl,eG,ud F.slot_list_mul eG F.entry_list_mul (F.args_list_mul_2 _ _) (AutoListH.list___mul___list_int_3 l its.toArray n k t hfit hcap hlong) Ei⟩)
 rw[hnew];exact⟨SG,_,I.lnew (t':=s.toks) (r.rep k.toNat) (by rw[qiB,Nat.mul_comm];exact hz),rfl,q _ I.fresh⟩
end
section
variable{prog:vU}{w:vZ}{A:vf}{E:vB->vC->Prop}{s:vC}
end
section
variable{X:Cx}
end
end L2
namespace Att
open PySem PySem.W PySem.Calls PyProof.Rows
theorem W7{P:Params}{h:vk}:∀(ns:af)(vs:a0),WellAll P h vs Tx->uC vs ns:=by
 intro ns
 induction ns with
 | nil=>
  intro vs w;rw[yb]at w;cases w;exact .nil
 | cons n ns ih=>
  intro vs w;rw[zI]at w;cases w with
  | cons a b=>
   cases a;exact .cons _ _ (ih _ b)
theorem zB6{l:OpenLaw}{n:Nat}(hn:O5){P:Params}{h:vk}{args:List WData}{vals:a0}(hpre:l.row.toRowW.claim.pre args=true)(hwl:WellAll P h vals args):
  ∃a vs ns,vals=[Value.ref a]/\args=[WData.list Tx]/\h.get? a=some { cls:=.type "list", data:=.seq vs.toArray }/\uC vs ns/\ns.length<=n:=by
 have hsh:WShape.hasAll [] args [.list .int]=true:=(pre_splitW hpre).1;have hc:l.pre.holds [] { args:=args }=true:=(pre_splitW hpre).2;obtain⟨d,r,rfl,h1,h2⟩:=hasAllW_cons hsh;obtain rfl:=hasAllW_nil h2;obtain⟨xs,rfl,h3⟩:=hasW_list h1;obtain⟨ns,rfl⟩:=items_int h3;have hlen:ns.length<=n:=by
  unfold OpenLaw.pre at hc;have h4:(WTm.not (.lt (.lit CC) (.len (.arg 0)))).holds [] { args:=[.list (ns.map .int)] }=true:=by
   have h4:=(holds_andW hc).1;rw[hn]at h4;exact h4
  have h5:=condW_of h4 (w_not (w_lt w_lit (w_len_list (w_arg rfl))));rw[zA]at h5;refine Nat.le_of_not_lt λq=>?_;have q':cj<((ns.length:Nat):Int):=∅
  first
   | (rw[vQ q']at h5;exact vO h5 (by decide))
   | (simp at h5;omega)
 cases hwl with
 | cons w1 w2=>
  cases w2;cases w1 with
  | list ho hall=>exact⟨_,_,ns,rfl,rfl,ho,W7 ns _ hall,hlen⟩
theorem zCB(l:OpenLaw)(args:List WData):l.row.toRowW.claim.post args l0 args=true :=
 postW_of (r:=l.row.toRowW) (X:=(true==true))
  (show WShape.has [] l0 .bool=true by first|rfl|decide|simp[WShape.has,WShape.arms,WShape.armsAll])
  (show (WTm.eq .res (.lit l0)).value [] { args:=args,res:=some l0,after:=args }=some (.bool (true==true))from w_eq_bool (w_res rfl) w_lit) rfl
theorem attach_call{l:OpenLaw}{n:Nat}{q:vU}{loose:dN}{XP:Rc}{YP:QL}{d:DefRec}(hn:O5)(hdf:FP)(call:∀(w:vZ)(s₀ s₁:vC)(mg mb:bH)(fa:vH)(o:Obj)(pm cd doc:vB)(a:vH)(vs:a0)(ns:af),
   Ground q loose [] XP w s₀ mg mb s₁.heap->YP w s₁.heap ->
   s₁.heap.get? fa=some o->o.data=.func (docDef d.name d.params d.body d.scope pm cd doc)->s₁.heap.CodeRec cd d.name->mg d.name=some J2 ->
   s₁.heap.get? a=some { cls:=.type "list", data:=.seq vs.toArray }->uC vs ns->ns.length<=n->s₁.gens=#[] ->
   uc (model l.prog w) sC oZ dq s₁) :
  WalkO q loose XP YP l.row.toRowW d [] AJ:=by
 intro w s₀ s₁ mg mb G Y fa o pm cd doc dV kV ho hd hcd hD hmg hg args vals as hpre hlay hrd hwl hlo;obtain rfl:dV=.none:=Dflts.none hD hdf;obtain rfl:kV=.none:=Dflts.noKw hD;obtain⟨a,vs,ns,rfl,rfl,hobj,zBU,hlen⟩:=zB6 hn hpre hwl;refine enter_call (ug (call w s₀ s₁ mg mb fa o pm cd doc a vs ns G Y ho (fd_plain hd) hcd hmg hobj zBU hlen hg) λr s' hq=>?_);obtain⟨rfl,h2,h3,h4⟩:=hq;exact⟨.inl ⟨l0,l0,[],rfl,E2,l0,zCB l _,λ_=>⟨xL,λ_ hm=>(nomatch hm)⟩⟩,h2,h3,h4⟩
section
variable{prog:vU}{w:vZ}{A:vf}{E:vB->vC->Prop}{s:vC}{K:Frag}
end
end Att
namespace L2
open PySem PySem.Spec PyProof.Rows
theorem q1v:∀{vs:a0}{ns:af},uC vs ns->Xc cc vs
 | _,_,.nil=>.nil
 | _,_,.cons n t h=>.cons Lk (q1v h)
def Only(H:Hp):Prop:=∀b,H b=none\/∃o xs,H b=some (.frz o eF)
theorem qgx{P:vU}{w:vZ}{K:zC}{mg mb:bH}{CX:CXT}{k:Nat}{fa a:vH}{fd:vS}{x:Str}{sp:Sp}{s₁:vC}{vs:a0}{ns:af}(KX:K.In s₁.heap)(hns:s₁.heap.Ns vY mg)(hb:s₁.heap.Ns builtinsNs mb)(hbb:∀x:Str,x ≠ "__name__" -> mb x=vm x)(hlim:s₁.heap.NoLimit)(hg:s₁.gens=#[])(ha:s₁.heap.get? a=some { cls:=.type "list", data:=.seq vs.toArray })(hi:uC vs ns)(hl:ns.length<=sizeLine)(hr:Room k sC)(F:∀base:vk,K.In base->base.Ns vY mg->FnOk P w K mg base CX k fa fd [x] sp)(hbind:∀(s:vC)(u:vB),sM s fd QA [(x,u)])(hsp:∀H:Hp,Only H->SqL K H a cc->sp [du] H RZ λ_ _ _=>False)(hCX:∀H e s',CX [] H s₁ VB e s'->False):
  uc Q4 sC oZ dq s₁:=by
 have rv:=q1v hi;have lenV:=hi.length;have core:∀H:Hp,Only H->SqL K H a cc->HOk P w H s₁.heap->(∀b,H b≠none->b=a)->(H a≠none->K.lookup a=none) ->
   uc Q4 sC oZ dq s₁:=by
  intro H hO hS hok hA hK;have base_of:∀{b:vH}{o:Obj},s₁.heap.get? b=some o->H b=none->(zCW s₁.heap H).get? b=some o:=λe n=>qgh e n;have noA:∀{b:vH}{o:Obj}{es:MN}{ep:Nat},s₁.heap.get? b=some o->o.data=.dict es ep->H b=none:=λ{b o es ep} e d=>by
   cases q:H b with
   | none=>rfl
   | some u=>
    have e':b=a:=hA b (by rw[q];simp);subst e';rw[ha]at e;cases e;have d':Data.seq vs.toArray _=Data.dict es ep:=d;cases d'
  have nsK:∀{b:vH}{m:bH},s₁.heap.Ns b m->(zCW s₁.heap H).Ns b m:=λ{b m} ⟨o,es,ep,e,d,r⟩=>⟨o,es,ep,base_of e (noA e d),d,r⟩;have hKb:K.In Ik:=λb o e=>base_of (KX b o e) (by
   cases q:H b with
   | none=>rfl
   | some u=>
    have e':b=a:=hA b (by rw[q];simp);subst e';rw[hK (by rw[q];simp)]at e;cases e)
  have hM:Mod K mg Ik:=⟨hKb,nsK hns,⟨mb,nsK hb,hbb⟩,let ⟨mc,h1,h2⟩:=hlim;⟨mc,nsK h1,h2⟩⟩;have e0:Env0 P w K mg Ik sC [] s₁ H:=⟨rfl,hM,λb o e=>qhX e,Nat.le_of_eq (qfe _ _),trivial,λb hb=>vO (show b∈Pd from hb) (by simp),hok,.of_eq hg⟩;refine ug ((F _ hKb (nsK hns)).run sC [] s₁ H HE [du] [du] _ _ hr e0 (hbind s₁ du) (.cons rfl .nil) (hsp H hO hS)) λr s' h=>?_;cases r with
  | error e=>exact(hCX H e s' h).elim
  | ok fl=>
   cases fl with
   | next=>exact False.elim h
   | brk=>exact False.elim h
   | cont=>exact False.elim h
   | ret u=>
    obtain⟨v,H',os,bare,un,hok',r',q⟩:=h;have q':v=.bl true:=q;subst q';obtain rfl:u=Value.bool true:=r';refine⟨rfl,OldK.of_keep λb o e=>?_,os,bare⟩;cases q:H b with
    | none=>exact un.keep b o e q (by intro z;exact vO (show b∈Pd from z) (by simp)) (by simp)
    | some u=>
     rcases hO b with z|⟨ob,xs,z⟩
     ·rw[q]at z;cases z
     ·have z2:=un.frzs b ob _ z
      obtain⟨e1,_⟩:=hok b _ z;obtain⟨e2,_⟩:=hok' b _ z2;rw[e]at e1;cases e1;exact e2
 cases hk:K.lookup a with
 | some o=>
  have e:=KX a o hk;rw[ha]at e;cases e;refine core (λ_=>none) (λ_=>.inl rfl) (.inr ⟨_,vs.toArray,_,hk,rfl,rfl,rfl,by rw[zQ,lenV];exact hl,by simpa using rv⟩) (λb u z=>by have z':(none:Option HO)=some u:=z;cases z') (λb z=>vO rfl z) λz=>vO rfl z
 | none=>
  refine core (λb=>if b=a then some (.frz { cls:=.type "list", data:=.seq vs.toArray } CA)else none) (λb=>?_) (.inl (.inr ⟨{ cls:=.type "list", data:=.seq vs.toArray },jQ⟩)) QG (λb z=>?_) λ_=>hk
  ·by_cases hb:b=a
   ·exact .inr ⟨_,_,UF⟩
   ·exact .inl Nv
  ·by_cases hb:b=a
   ·have z':=(vF hb).symm.trans z
    cases z';subst hb;exact⟨ha,by rw[zA];exact hl,vs,_,rv,ha⟩
   ·have z':=(vG hb).symm.trans z
    cases z'
  ·by_cases hb:b=a
   ·exact hb
   ·exact vO Nv z
noncomputable abbrev KOf{K:zC}{h:vk}(_:K.In h):zC:=K
theorem qcH{l:Zi}{n k:Nat}{q:vU}{loose:dN}{XP:Rc}{YP:QL}{d:DefRec}{K:Params->zC}{CX:vZ->CXT}{sp:vZ->Sp}{x:Str}(hn:O5)(hn2:n<=sizeLine)(hdf:FP)(hr:Room k sC)(hY:∀(w:vZ)(h:vk),YP w h->(K w.params).In h)(F:∀(w:vZ)(mg:bH)(fa:vH)(h:vk),(K w.params).In h->h.Ns vY mg->mg d.name=some J2 ->
   ∃fd:vS,(∀(s:vC)(u:vB),sM s fd QA [(x,u)]) /\
    ∀base:vk,(K w.params).In base->base.Ns vY mg->FnOk l.prog w CZ mg base (CX w) k fa fd [x] (sp w))
  (hsp:∀(w:vZ)(H:Hp)(a:vH)(ns:af),ns.length<=n->Only H->SqL CZ H a cc->sp w [du] H RZ λ_ _ _=>False)
  (hCX:∀(w:vZ)(H:Hp)(s:vC)(e:vB)(s':vC),CX w [] H s VB e s'->False) :
  Yu q loose XP YP l.row.toRowW d [] AJ:=by
 refine Att.attach_call hn hdf λw s₀ s₁ mg mb fa o pm cd doc a vs ns G Y ho hd hcd hmg hobj zBU hlen hg=>?_;have KX:=hY w _ Y;obtain⟨fd,hb,hF⟩:=F w mg fa _ KX G.T.g hmg;exact qgx KX G.T.g G.T.b G.T.builtins G.T.nolimit hg hobj zBU (yD hlen hn2) hr hF hb (λH hO hS=>hsp w H a ns hlen hO hS) λH e s'=>hCX w H s₁ e s'
end L2
namespace L2
open PySem PySem.Spec PyProof.Rows
noncomputable def WP(s:vp):Arguments:=match s with
 | .FunctionDef _ a _ _ _ _ _ _ _ _=>a
 | _=>{ posonlyargs:=[],args:=[],vararg:=none,kwonlyargs:=[],kw_defaults:=[],kwarg:=none,defaults:=[] }
noncomputable def X9(s:vp):List vp:=match s with
 | .FunctionDef _ _ b _ _ _ _ _ _ _=>b
 | _=>[]
noncomputable def Y7(s:vp):ux:=match s with
 | .FunctionDef _ _ _ _ _ _ sc _ _ _=>sc
 | _=>{ kind:=.function,names:=[],isGenerator:=false,isCoroutine:=false }
noncomputable abbrev CX0:CXT:=λ_ _ _ _ _ _=>False
noncomputable abbrev E0:XK:=λ_ _ _=>False
theorem pass0{X:Cx}:zBF CX0 X E0:=λ_ _ _ _ _ _ _ h=>h.elim
structure Fun (K:zC) (x qual:Str) (st:vp) (f:vH) (fd:vS):Prop where
 ex:∃(oc:vB) (od:Option vH) (kV doc pm:vB) (an:Option vH) (cdv ct:vB) (osl:Array (Option vB)),
  fd=xi x qual (WP st) (X9 st) (Y7 st) .none kV doc pm an cdv ct/\K.lookup f=some ⟨oc,od,.func fd,osl⟩/\wu K cdv qual=true
 kp:xp K (.ref f)=true
section
variable{P:vU}{w:vZ}{K:zC}{mg:Str->Option vB}{base:vk}
theorem Fun.ok{x qual:Str}{st:vp}{f:vH}{fd:vS}{N ps:dN}{k:Nat}{sp:Sp}(F:Gm)(S:FnScope N ps FR)(len:∀vs H Q E,sp vs H Q E->vs.length=ps.length)(hbody:∀(cdv:vB)(A:vf)(outer:rM)(s:vC)(H:Hp)(vs:a8)(Q:VK)(E:XK),Room k (A.deeper (tm qual FR s.heap.objs.size f cdv))->sp vs H Q E ->
   ∃t,PSs (zCD CX0 P w K mg base N qual FR f cdv A outer s H E).nox Vd t/\t { nx:=λ_ H'=>Q .non H',rt:=Q } CK H):FnOk P w K mg base CX0 (k+1) f fd ps sp:=by
 obtain⟨oc,od,kV,doc,pm,an,cdv,ct,osl,rfl,lk,hcd⟩:=F.ex;refine qkG lk hcd S len λA outer s H vs Q E hr hsp=>?_;obtain⟨t,h,q⟩:=hbody cdv A outer s H vs Q E hr hsp;exact⟨t,h.nox,q⟩
theorem Fun.binds{x qual:Str}{st:vp}{f:vH}{fd:vS}{ps:dN}(F:Gm)(h:∀(kV doc pm:vB)(an:Hz)(cdv ct:vB)(us:a0),us.length=ps.length->bindArgs gH BZ=pure EF):Binds K fd ps []:=by
 obtain⟨oc,od,kV,doc,pm,an,cdv,ct,osl,rfl,lk,hcd⟩:=F.ex;exact .all (h kV doc pm an cdv ct)
theorem qjz{x qual:Str}{st:vp}{f:vH}{oc:vB}{od an:Hz}{osl:Uk}{kV doc pm cdv ct:vB}(l:K.lookup f=some ⟨oc,od,.func gH,osl⟩)(c:VR)(k:xp K iP=true):Fun K x qual st f gH:=⟨⟨oc,od,kV,doc,pm,an,cdv,ct,osl,rfl,l,c⟩,k⟩
end
theorem zBj{n:Nat}(h:n<=1000):n<sizeLine:=Z6 h (by decide)
section
variable{X:Cx}
theorem pv(i:Nat){x:Str}{pos:Pos}(hN:X.N[i]?=some x:=by rfl)(hv:oY:=by first|exact Or.inl rfl|exact Or.inr aB|exact Or.inr IR)(hd:aJ:=by decide)(hcd:ge:=by decide):PE X ir M8:=qko hN hv hd hcd
end
def Xf(H H':Hp):Prop:=∀b o,H b=some o->H' b=some o
theorem Xf.refl(H:Hp):Xf H H:=λ_ _ h=>h
theorem Xf.trans{H H1 H2:Hp}(a:Xf H H1)(b:Xf H1 H2):Xf H H2:=λc o h=>b c o (a c o h)
theorem Xf.free{H H':Hp}(e:NR){l:vH}(h:H' l=Yz):H l=Yz:=by
 cases q:H l with
 | none=>rfl
 | some o=>
  rw[e l o q]at h;cases h
theorem Xf.seq{K:zC}{H H':Hp}{a:vH}{xs:a8}(e:NR)(h:SqL K H a xs):SqL K H' a xs:=by
 rcases h with (h|⟨o,h⟩)|h
 ·exact .inl (.inl Si)
 ·exact .inl (.inr ⟨o,Si⟩)
 ·exact .inr h
end L2
namespace Hk
open PySem
def zBe(xs:DD):Prop:=xs.toList.Pairwise (· < ·)
theorem q5P{l:bT}(h:l.Pairwise (· < ·)){i j:Nat}(hi:i<l.length)(hj:j<l.length)(hij:i<j):l[i]<l[j]:=ya.mp h i j hi hj hij
theorem qgU{xs:DD}{j:Nat}(h:zBe xs):∀(fuel lo hi:Nat),lo<=hi->hi<=xs.size->hi-lo<=fuel->(∀k(z:lf),k<lo->xs.toList[k]<j)->(∀k(z:lf),hi<=k->j<=xs.toList[k]) ->
  SetTable.below.go xs j fuel lo hi<=xs.size/\(∀k(z:lf),k<SetTable.below.go xs j fuel lo hi->xs.toList[k]<j)/\(∀k(z:lf),SetTable.below.go xs j fuel lo hi<=k->j<=xs.toList[k]):=by
 intro fuel
 induction fuel with
 | zero=>
  intro lo hi h1 h2 h3 h4 h5;have e:lo=hi:=∅
  subst e;exact⟨h2,h4,h5⟩
 | succ n ih=>
  intro lo hi h1 h2 h3 h4 h5;unfold SetTable.below.go
  by_cases hl:lo<hi
  ·rw[vF hl]
   have hm:Mb/2<xs.toList.length:=by rw[zP];omega
   have hg:xs.getD (Mb/2) j=xs.toList[Mb/2]:=by
    rw[Array.getD_eq_getD_getElem?,<- zb,zD hm];rfl
   by_cases hc:xs.getD (Mb/2) j<j
   ·simp only[hc,if_true]
    refine ih _ _ ∅ h2 ∅ abT h5
    by_cases e:k=Mb/2
    ·subst e;rw[hg]at hc;exact hc
    ·have:=q5P h z hm ∅
     rw[hg]at hc;omega
   ·simp only[hc,if_false]
    refine ih _ _ ∅ ∅ ∅ h4 abT
    by_cases e:k=Mb/2
    ·subst e;rw[hg]at hc;omega
    ·have:=q5P h hm z ∅
     rw[hg]at hc;omega
  ·rw[vG hl]
   have e:lo=hi:=∅
   subst e;exact⟨h2,h4,h5⟩
theorem q9d{xs:DD}(h:zBe xs)(j:Nat):SetTable.below xs j<=xs.size/\(∀k(z:lf),k<SetTable.below xs j->xs.toList[k]<j)/\(∀k(z:lf),SetTable.below xs j<=k->j<=xs.toList[k]) :=
 qgU h xs.size 0 xs.size B4 bZ ∅ (λk z hk=>vO hk PH) (λk z hk=>by rw[zP]at z;omega)
theorem q4G{α:Type}(xs:Array α)(p:Nat)(x:α):(SetTable.insertAt xs p x).toList=xs.toList.take p++x::xs.toList.drop p:=by
 unfold SetTable.insertAt;simp[xj,yr]
theorem qaN{xs:DD}(h:zBe xs){j:Nat}(hn:xs[rL]?≠some j):zBe (SetTable.insertAt xs rL j):=by
 obtain⟨h1,h2,h3⟩:=q9d h j;unfold zBe;rw[q4G,zc];have lt:∀y∈xs.toList.drop (SetTable.below xs j),j<y:=by
  intro y hy;obtain⟨k,hk,e⟩:=zf.mp hy;rw[yP]at hk;rw[xk]at e;have hb:SetTable.below xs j<xs.toList.length:=∅
  have hh:=h3 _ hb bZ;have ne:xs.toList[rL]≠j:=λz=>hn (by rw[<- zb,zD hb,z]);have hle:xs.toList[rL]<=y:=by
   by_cases e0:k=0
   ·subst e0;rw[<- e];simp
   ·rw[<- e];exact ye (q5P h hb ∅ ∅)
  omega
 refine⟨wT (ZG _ _) h,zZ.mpr ⟨lt,wT (YH _ _) h⟩,λa ha b hb=>?_⟩;have haj:a<j:=by
  obtain⟨k,hk,e⟩:=zf.mp ha;rw[zg]at hk;rw[xM]at e;rw[<- e];exact h2 k ∅ ∅
 rcases zH.mp hb with rfl|hb
 ·exact haj
 ·exact YI haj (lt b hb)
structure Tb (t:SetTable) (n:Nat):Prop where
 fits:t.fits n=true
 rise:zBe t.place
 dum:t.dummies=#[]
theorem q98{t:SetTable}(hd:t.dummies=#[])(j:Nat):t.slot j≠.dummy:=by
 unfold SetTable.slot;rw[hd]
 dsimp only
 split
 ·exact λz=>nomatch z
 ·have:SetTable.has #[] j=false:=by simp[SetTable.has]
  rw[this];exact λz=>nomatch z
theorem qaL{t:SetTable}(hd:t.dummies=#[]){h:Int}:∀(fuel:Nat)(p:SetTable.Probe)(m:SetTable.Met),p.dummy=none->SetTable.probe.go t (λ_=>h+1) h fuel p=some m->∃j,m=.empty j none/\t.slot j=.empty:=by
 intro fuel
 induction fuel with
 | zero=>intro p m _ e;cases e
 | succ n ih=>
  intro p m hp e;unfold SetTable.probe.go at e;cases hs:t.slot p.j with
  | empty=>
   rw[hs]at e;cases e;exact⟨p.j,by rw[hp],hs⟩
  | dummy=>exact vO hs (q98 hd _)
  | live i=>
   rw[hs]at e;have hne:(h+1==h)=false:=by simp only[beq_eq_false_iff_ne,ne_eq];omega
   dsimp only at e
   rw[hne]at e;refine ih _ m ?_ e;unfold SetTable.advance
   split
   ·exact hp
   ·exact hp
theorem qaX{t:SetTable}(hd:t.dummies=#[]){h:Int}{slot:Nat}{b:Bool}(e:t.freeSlot h=some (slot,b)):b=false/\t.place[As]?≠some slot:=by
 unfold SetTable.freeSlot at e;cases q:t.probe (λ_=>h+1) h (t.probeStart h)with
 | none=>rw[q]at e;cases e
 | some m=>
  rw[q]at e;obtain⟨j,rfl,hs⟩:=qaL hd _ _ m (by rfl) q;cases e;refine⟨rfl,KC⟩;unfold SetTable.slot at hs
  dsimp only at hs
  have:(t.place[Pj]?==some j)=true:=by
   rw[show t.place[Pj]?=some j from z];simp
  rw[vF this]at hs;cases hs
theorem qcV(n:Nat):zBe (Array.range n):=by
 unfold zBe;rw[Array.toList_range];exact ZX
theorem q2C(t:SetTable)(n:Nat):Tb (t.standIn n) n:=by
 refine⟨?_,qcV n,rfl⟩;unfold SetTable.fits SetTable.standIn SetTable.fill;simp;omega
theorem qky{t:SetTable}{n:Nat}(h:zBe t.place)(hd:t.dummies=#[]):Tb (t.orStandIn n) n:=by
 unfold SetTable.orStandIn
 by_cases z:t.fits n=true
 ·rw[fQ];exact⟨z,h,hd⟩
 ·rw[fI];exact q2C t n
theorem qjs(t:SetTable)(n:Nat):(t.orStandIn n).led=t.led:=by
 unfold SetTable.orStandIn
 split <;> rfl
theorem qdP{t:SetTable}{es:lT}{h:Int}{x:vB}(T:Tb t es.size):
  (layNew t es h x).2.2.1=false/\Tb (layNew t es h x).2.1 (layNew t es h x).1.size/\(layNew t es h x).2.1.led=t.led/\(layNew t es h x).1.toList.Perm ((h,x)::es.toList):=by
 unfold layNew;cases q:t.freeSlot h with
 | none=>
  refine⟨rfl,?_,rfl,?_⟩
  ·rw[Zj];exact q2C t _
  ·rw[ZI]
   exact List.perm_append_singleton _ _
 | some p=>
  obtain⟨slot,b⟩:=p;obtain⟨rfl,hn⟩:=qaX T.dum q;have hd:(t.put slot).1.dummies=#[]:=by
   unfold SetTable.put
   dsimp only
   rw[T.dum];simp[SetTable.has]
  refine⟨rfl,qky (qaN T.rise hn) hd,(qjs _ _).trans rfl,?_⟩;rw[q4G];refine y0 ZP ?_;rw[yH]
theorem q6D{α:Type}{f:α->Option α}(h:∀x y,f x=some y->y=x):∀l:List α,(l.filterMap f).Sublist l
 | []=>by simp
 | a::r=>by
  rw[xn];cases q:f a with
  | none=>exact(q6D h r).cons a
  | some b=>rw[h a b q];exact(q6D h r).cons_cons a
theorem q6R{α:Type}:∀l:List α,(za l.length).filterMap (λi=>l[i]?)=l
 | []=>rfl
 | a::r=>by
  rw[zJ,ZY,xn];simp only[xq];rw[Z5];have e:((λi=>(a::r)[i]?) ∘ Nat.succ)=λi=>r[i]?:=by funext i;simp
  rw[e,q6R r]
theorem qi4{mask finger moves:Nat}{led plain:Bool}{hs:Array Int}{t:SetTable}{o:DD}(e:SetTable.laid mask finger moves led plain hs=some (t,o)):zBe t.place/\t.dummies=#[]/\t.led=led:=by
 unfold SetTable.laid at e;cases q:SetTable.layClean mask hs with
 | none=>rw[q]at e;cases e
 | some owner=>
  rw[q]at e;cases e;refine⟨?_,rfl,rfl⟩;unfold zBe
  dsimp only
  rw[List.map_filterMap];refine wT (q6D (λx y z=>?_) _) ZX;cases q2:owner.getD x none with
  | none=>rw[q2]at z;cases z
  | some c=>rw[q2]at z;exact(zw z).symm
theorem qgm{t:SetTable}{es:lT}(w:Nat):Tb (relayAll t es w).2.1 (relayAll t es w).1.size/\(relayAll t es w).2.1.led=t.led/\(relayAll t es w).1.toList.Perm es.toList:=by
 unfold relayAll;cases q:t.relaid (es.map (·.1)) w with
 | none=>exact Qz
 | some p=>
  obtain⟨t',order⟩:=p
  dsimp only
  obtain⟨h1,h2,h3⟩:=qi4 q
  by_cases z:(coversAll order es.size&&t'.fits (order.filterMap (es[·]?)).size)=true
  ·rw[fQ]
   rw[yC]at z;refine⟨⟨z.2,h1,h2⟩,h3,?_⟩;have hp:order.toList.Perm OT:=List.isPerm_iff.mp z.1;rw[Array.toList_filterMap];have e:(λ(i:Nat)=>es[i]?)=λ(i:Nat)=>es.toList[i]?:=by funext i;simp
   rw[e];have q2:=hp.filterMap λi=>es.toList[i]?;rw[<- zP,q6R]at q2;exact q2
  ·rw[fI]
   exact Qz
end Hk
namespace Hk
open PySem PySem.Spec PyProof.Rows
noncomputable def vI:vB->Int
 | .int i _=>i
 | _=>0
def zAS(e:dk):Prop:=∃x t,e=(sf x,Value.int x t)
theorem qde{prog:vU}{w:vZ}{l:Ku}(h:∀e∈l,zAS e):ElemsOf (u9 prog w) l:=λe he=>by
 obtain⟨x,t,rfl⟩:=h e he;exact⟨⟨x,FN,rfl⟩,rfl⟩
def zAw(h:vk)(a:vH)(led:Bool)(xs:af):Prop:=∃o es ep t,h.get? a=some o/\o.ExactSet/\o.data=.set es ep t/\Tb t es.size/\t.led=led/\es.size<ui /\
 (∀e∈es.toList,zAS e)/\es.toList.map Bo=xs/\xs.Nodup
theorem zAw.len{h:vk}{a:vH}{led:Bool}{xs:af}(S:zAw h a led xs):xs.length<ui:=by
 obtain⟨o,es,ep,t,_,_,_,_,_,z,_,e,_⟩:=S;rw[<- e,zA,zP];exact z
theorem zAw.at{h h':vk}{a:vH}{led:Bool}{xs:af}(S:zAw h a led xs)(k:∀o,h.get? a=some o->h'.get? a=some o):zAw h' a led xs:=by
 obtain⟨o,es,ep,t,e,r⟩:=S;exact⟨o,es,ep,t,k o e,r⟩
theorem qbX{prog:vU}{w:vZ}{e:dk}(h:zAS e)(x:Int):(u9 prog w).is x e.2=decide (vI e.2=x):=by
 obtain⟨y,t,rfl⟩:=h;show Value.isInt x (.int y t)=decide (y=x)
 by_cases z:y=x
 ·subst z;simp[Value.isInt]
 ·simp[Value.isInt,z]
theorem qf3{prog:vU}{w:vZ}{l:Ku}(h:∀e∈l,zAS e){x:Int}(q:l.findIdx? rQ=none):x∉l.map Bo:=λz=>by
 obtain⟨e,he,ex⟩:=zu.mp z;have:=List.findIdx?_eq_none_iff.mp q e he;rw[qbX (h e he),ex]at this;simp at this
theorem qdA{prog:vU}{w:vZ}{l:Ku}(h:∀e∈l,zAS e){x:Int}{j:Nat}(q:l.findIdx? rQ=some j):x∈l.map Bo:=by
 obtain⟨hj,hp,_⟩:=List.findIdx?_eq_some_iff_getElem.mp q;rw[qbX (h _ (yQ hj))]at hp;exact zu.mpr ⟨_,yQ hj,of_decide_eq_true hp⟩
section
variable{prog:vU}{w:vZ}{A:vf}{E:vB->vC->Prop}{s:vC}
theorem qbH{h:vk}{a:vH}{o:Obj}{es es':lT}{ep:Nat}{t t':SetTable}{led:Bool}{xs:af}(go:h.get? a=some o)(gx:o.ExactSet)(gd:cT)(T:Tb t' es'.size)(gl:t'.led=led)(gb:es'.size<ui)(gg:∀e∈es'.toList,zAS e)(gv:es'.toList.map Bo=xs)(gn:xs.Nodup):
  (h.update a Gg).get? a=some { o with data:=.set es' (ep+1) t' }/\zAw (h.update a Gg) a led xs:=by
 have q:=xf Gg go (by rw[UQ];rfl);rw[UQ]at q;exact⟨q,_,es',ep+1,t',q,gx,rfl,T,gl,gb,gg,gv,gn⟩
theorem qdQ{g:Bool->Sem Unit}(gw:∀(b:Bool)(s1:vC)(Q':pr),Q' () s1->vP ak A (g b) Q' E s1){a:vH}{o:Obj}{es es1:lT}{ep:Nat}{t t2:SetTable}{led:Bool}{xs:af}(go:ff)(gx:o.ExactSet)(gd:cT)(T:Tb t2 es1.size)(gl:t2.led=led)(gb:es1.size<ui)(gg:∀e∈es1.toList,zAS e)(gv:es1.toList.map Bo=xs)(gn:xs.Nodup){dm:Bool}{R:Option Bool->vC->Prop}(k:∀h' ys,xh a s.heap h'->zAw h' a led ys->ys.Perm xs->R EB { s with heap:=h' }):
  vP ak A (do
    storeSet a es1 t2
    if (!dm&&t2.tooFull)=true then do
      g (relayAll t2 es1 jM).2.2
      storeSet a (relayAll t2 es1 jM).1 (relayAll t2 es1 jM).2.1
      pure EB
     else pure EB) R E s:=by
 refine vA (wpAny_storeSet_of go gd ?_ (fits_of_scanBound gb));obtain⟨g1,S1⟩:=qbH go gx gd T gl gb gg gv gn;have sb:=Zv s.heap a (Obj.putSet es1 t2)
 split
 ·obtain⟨T2,l2,p2⟩:=qgm (t:=t2) (es:=es1) jM
  generalize relayAll t2 es1 jM=rl at T2 l2 p2 ⊢;obtain⟨es2,t3,gv2⟩:=rl
  dsimp only at T2 l2 p2 ⊢
  have hz:es2.size=es1.size:=by rw[<- zP,p2.length_eq,zP]
  have gb2:es2.size<ui:=by rw[hz];exact gb
  have pv:(es2.toList.map λe=>vI e.2).Perm xs:=by rw[<- gv];exact p2.map _
  refine vA (gw _ _ _ ?_);refine vA (wpAny_storeSet_of g1 rfl ?_ (fits_of_scanBound gb2));obtain⟨_,S2⟩:=qbH g1 gx rfl T2 (l2.trans gl) gb2 (λe he=>gg e (p2.mem_iff.mp he)) rfl (pv.nodup_iff.mpr gn);exact vJ (k _ _ (sb.trans (Zv _ a _)) S2 pv)
 ·exact vJ (k _ _ sb S1 VN)
theorem qkU{a:vH}{led:Bool}{xs:af}{x:Int}{tk:Tok}{Q:pD}(S:zAw s.heap a led xs)(room:xs.length+1<ui)(k:∀b h' ys,xh a s.heap h'->zAw h' a led ys->(x∈xs->ys=xs)->(x∉xs->ys.Perm Nu)->Q b { s with heap:=h' }):
  vP ak A (setAddHashed a (.int x tk) (sf x)) Q E s:=by
 obtain⟨o,es,ep,t,go,gx,gd,T,gl,gb,gg,gv,gn⟩:=id S;have hl:es.size=xs.length:=by rw[<- gv,zA,zP]
 have el:ElemsOf (u9 prog w) es.toList:=qde gg;unfold setAddHashed setAddHashedIn;refine vn (vA QR)
 dsimp only
 rw[byScan_of (knd:=u9 prog w) (x:=.int x tk) rfl gb el];simp only[↓reduceIte];unfold setAddByScan;refine vA (vA (uD (vA (wpAny_setScan_of (knd:=u9 prog w) (k:=x) FN go gd T.fits el ?_))));cases q:List.findIdx? rQ es.toList with
 | some j=>
  dsimp only
  have hx:x∈xs:=by rw[<- gv];exact qdA gg q
  refine vJ fF;exact k false s.heap xs (YJ a s.heap) S E2 λz=>vO hx z
 | none=>
  dsimp only
  have hx:x∉xs:=by rw[<- gv];exact qf3 gg q
  obtain⟨d0,T1,l1,p1⟩:=qdP (t:=t) (es:=es) (h:=sf x) (x:=.int x tk) T;generalize layNew t es (sf x) (.int x tk)=ly at d0 T1 l1 p1 ⊢;obtain⟨es1,t1,dm,gave⟩:=ly
  dsimp only at d0 T1 l1 p1 ⊢
  have gg1:∀e∈es1.toList,zAS e:=λe he=>by
   rcases zH.mp (p1.mem_iff.mp he)with rfl|he
   ·exact⟨x,tk,rfl⟩
   ·exact gg e he
  have pv:(es1.toList.map λe=>vI e.2).Perm Nu:=by rw[<- gv];exact p1.map _
  have gn1:(es1.toList.map λe=>vI e.2).Nodup:=pv.nodup_iff.mpr (yW.mpr ⟨hx,gn⟩);have gb1:es1.size<ui:=by
   have:=pv.length_eq;rw[zA,zP,zJ]at this;omega
  have gw:∀(b:Bool)(s1:vC)(Q':pr),Q' () s1->vP ak A (match b with|true=>rule "set.scan.the-table-gave-way" | false=>pure ()) Q' E s1 :=
   λb s1 Q' z=>by cases b <;> first|exact vJ z|exact uD z
  refine vA (gw _ _ _ ?_);have fin:∀h' ys,xh a s.heap h'->zAw h' a led ys->ys.Perm (es1.toList.map λe=>vI e.2)->Q true { s with heap:=h' }:=λh' ys sb S' p=>k true h' ys sb S' (λz=>vO z hx) λ_=>p.trans pv
  split
  ·refine vA ?_
   rw[hashByValue_scannable 8 (x:=Value.int x tk) rfl];refine vJ ?_;refine qdQ (λb s1 Q' z=>by cases b <;> first|exact vJ z|exact uD z) go gx gd T1 (l1.trans gl) gb1 gg1 rfl gn1 λh' ys sb S' p=>?_;exact vJ Sg
  ·refine vA fF
   simp only[↓reduceIte];refine qdQ (λb s1 Q' z=>by cases b <;> first|exact vJ z|exact uD z) go gx gd T1 (l1.trans gl) gb1 gg1 rfl gn1 λh' ys sb S' p=>?_;exact vJ Sg
end
def zCY(h:vk)(S:vH)(led:Bool)(val:Nat->Int)(m:Nat):Prop:=∃xs,zAw h S led xs/\xs.length<=m/\∀x,x∈xs↔∃i,i<m/\val i=x
theorem zCY.at{h h':vk}{a:vH}{led:Bool}{val:Nat->Int}{m:Nat}(S:zCY h a led val m)(k:∀o,h.get? a=some o->h'.get? a=some o):zCY h' a led val m:=by
 obtain⟨xs,q,r⟩:=S;exact⟨xs,q.at k,r⟩
section
variable{prog:vU}{w:vZ}{A:vf}{R:sI->vC->Prop}{I:vH}{fp wr:List vH}{G:Array tf->Array tf->Prop}{n:Nat}{P:Nat->vB->Prop}{St:Nat->vC->Prop}
theorem zC1(W:WalksS prog w A.in1 I fp wr G n P St)(S:vH)(hS:S∉fp){led:Bool}(val:Nat->Int)(hv:∀i v,P i v->∃t,v=.int (val i) t)(hb:n+1<ui):
  ∀(k i:Nat)(s:vC),n-i=k->i<=n->St i s->zCY s.heap S led val i->(∀s',Moved (S::wr) G s s'->zCY s'.heap S led val n->R (.ok (.ret .none)) s') ->
   uc ak A (.builtin "set.update.loop" ⟨[fw,BX],[]⟩) R s:=by
 have hw:S∉wr:=λz=>hS (W.sub _ z);have hsub:∀b∈wr,b∈S::wr:=λb z=>zF _ z;intro k
 induction k with
 | zero=>
  intro i s hk hi st SV hR;have hin:i=n:=∅
  subst hin;refine uK PyProof.Rows.F.entry_set_update_loop ?_;rw[pO];show vP _ A.in1 (uU BX >>= _) _ _ s;refine vA (W.done s _ _ st λs' hm=>?_);show vP _ A.in1 aac _ _ s';exact vJ (hR s' (hm.mono hsub) (SV.at λo e=>hm.heap S o hw e))
 | succ k ih=>
  intro i s hk hi st SV hR;have hlt:i<n:=∅
  refine uK PyProof.Rows.F.entry_set_update_loop ?_;rw[pO];show vP _ A.in1 (uU BX >>= _) _ _ s;refine vA (W.item i s _ _ hlt st λv s1 hP st1 hm=>?_);obtain⟨t,rfl⟩:=hv i v hP;obtain⟨xs,S1,hl,hx⟩:=SV.at (h':=s1.heap) λo e=>hm.heap S o hw e;show vP _ A.in1 (holding [Value.int (val i) t] (setAdd S (.int (val i) t)) >>= _) _ _ s1;refine vA Fq;unfold setAdd;refine vn ?_;refine vA ((u9 prog w).pyHash (k:=val i) FN ?_);refine qkU (s:={ s1 with toks:=s1.toks+1 }) (x:=val i) S1 ∅ λb h' ys sb S2 y1 y2=>?_;have SV2:zCY h' S led val (i+1):=by
   refine⟨ys,S2,?_,λx=>?_⟩
   ·by_cases z:val i∈xs
    ·rw[y1 z];omega
    ·rw[(y2 z).length_eq,zJ];omega
   ·by_cases z:val i∈xs
    ·rw[y1 z,hx]
     refine⟨λ⟨j,h1,h2⟩=>Fh,λ⟨j,h1,h2⟩=>?_⟩
     by_cases e:j=i
     ·subst e;exact(hx x).mp (by rw[<- h2];exact z)
     ·exact Fh
    ·rw[(y2 z).mem_iff,zH,hx]
     refine⟨λh=>?_,λ⟨j,h1,h2⟩=>?_⟩
     ·rcases h with h|⟨j,h1,h2⟩
      ·exact⟨i,∅,h.symm⟩
      ·exact Fh
     ·by_cases e:j=i
      ·subst e;exact .inl h2.symm
      ·exact .inr Fh
  refine vJ ⟨uO PyProof.Rows.F.plain_set_update_loop _,ih (i+1) _ ∅ hlt (W.frame _ s1 _ _ st1 MX λb z o e=>?_) SV2 λs2 hm2 S3=>?_⟩
  ·rw[sb.2 b (λy:b=S=>hS (by rw[<- y];exact z))];exact e
  ·refine hR s2 (Moved.trans W.gtrans ((hm.mono hsub).then_heap MX λb o z e=>?_) hm2) S3
   rw[sb.2 b (λy:b=S=>z (by rw[y];exact zE))];exact e
end
noncomputable abbrev X6(w:vZ):Bool:=!w.params.followText "set-order"
section
variable{prog:vU}{w:vZ}{A:vf}{E:vB->vC->Prop}{s:vC}
theorem qiN(a:vB){Q1:aM}(h:Q1 aD { s with heap:=s.heap.push { cls:=.type "set", data:=.set #[] 0 fD } }):
  uc ak A (.call (.builtin "set.__new__") KB) (wants Q1 E) s:=by
 refine codeAny_of_tree ?_;show vP _ A.in1 (checkBuiltinCall "set.__new__" KB >>= λ_=>again (.builtin "set.__new__" KB)) _ _ s;refine vA (sW (PySem.F.newCall_set_1 a) (vJ ⟨uO PySem.F.plain_set_new _,uK PySem.F.entry_set_new ?_⟩));rw[Around.under_plainId PySem.F.plain_set_new _];unfold Builtin.«set.__new__» Builtin.Frozenset.newClass;have p1:=sub_set_self;obtain⟨hp,g,d,tk,os⟩:=s
 dsimp only
 wp_walk
 refine tQ fF
 dsimp only
 simp only[newObj];refine vA (wpAny_alloc fF);exact vJ h
set_option maxHeartbeats 3200000 in
theorem qbi{l:vH}{items:dw}{ns:af}{Q:aM}(hh:cO)(il:EE)(ia:uC items.toList ns)(hb:items.size+1<ui)(k:∀(h':vk)(tk:Nat),zCY h' s.heap.objs.size Qe ik items.size->(∀b o,b<s.heap.objs.size->s.heap.get? b=some o->h'.get? b=some o)->Q aD { s with heap:=h',toks:=tk }):
  vP ak A (call mw [cX]) Q E s:=by
 obtain⟨c,tl,c1⟩:=PySem.F.called_set.mro;have c2:=PySem.F.called_set.made;have c3:=PySem.F.called_set.sub;refine wpAny_call (codeAny_of_tree ?_);show vP _ _ (callAny mw _) _ _ _;refine vJ ⟨Code.quiet_builtin _ ⋯,uK PySem.F.entry_type_call ?_⟩;rw[Around.under_plain (weight_type_call_type "set" [cX] []) rfl];have c4:=PySem.F.called_set.notType;have c5:=PySem.F.called_set.canCreate;have c6:=PySem.F.typeCall_set_1 cX
 repeat (any_goals (first|assumption|wp_step))
 refine ug (qiN cX (E:=E) (Q1:=λobj s1=>obj=.ref s.heap.objs.size/\s1={ s with heap:=s.heap.push { cls:=.type "set", data:=.set #[] 0 fD } }) bY) λr s1 hr=>?_;cases r with
 | error e=>exact hr
 | ok fl=>
  cases fl with
  | ret obj=>
   obtain⟨rfl,rfl⟩:=hr;have hS:(s.heap.push { cls:=.type "set", data:=.set #[] 0 fD }).get? s.heap.objs.size=some { cls:=.type "set", data:=.set #[] 0 fD }:=zY _ rfl;have hT:Shared.TypeIs { s with heap:=s.heap.push { cls:=.type "set", data:=.set #[] 0 fD } } aD "set" := ⟨_,hS,rfl⟩;have c7:=PySem.F.called_set.init.lookup;have c8:=PySem.F.called_set.init.bind aD
   repeat (any_goals (first|assumption|wp_step))
   refine ug (codeAny_call_builtin (R:=wants (λr s2=>r=.none/\∃h' tk,s2={ s with heap:=h',toks:=tk }/\zCY h' s.heap.objs.size Qe ik items.size /\
     (∀b o,b<s.heap.objs.size->s.heap.get? b=some o->h'.get? b=some o)) E) PySem.F.called_set.init.plain PySem.F.entry_set_init (check_set_init_1 hT ?_)) λr2 s2 hr2=>?_
   ·obtain⟨ol,e1,e2,nl,e3⟩:=il
    obtain⟨ocls,odict,odata,oslots⟩:=ol;simp only at e2 e3;subst e2;subst e3;have e1':(s.heap.push { cls:=.type "set", data:=.set #[] 0 fD }).get? l=some { cls:=.type "list", dict:=odict,data:=.seq items nl,slots:=oslots }:=zG _ e1;have d1:=PySem.F.sub_list_set;have d2:=PySem.F.sub_list_frozenset;have d3:(Value.type "list" == Value.type "dict")=false:=by decide
    have il1:(s.heap.push { cls:=.type "set", data:=.set #[] 0 fD }).IsList l items:=⟨_,e1',rfl,nl,rfl⟩;unfold Builtin.«set.__init__» noKeywords Builtin.Frozenset.updateFrom;generalize hPI:sm=PI
    wp_walk
    subst hPI;refine ut il1 ?_;refine vA (wpAny_runValue ?_);have lS:l<s.heap.objs.size:=zS e1;have h3:A.in1.in1.in1.handled=none:=by simp[hh]
    have nI:l≠(s.heap.push { cls:=.type "set", data:=.set #[] 0 fD }).objs.size:=by rw[yh];exact zx (yX lS)
    have nS:s.heap.objs.size∉[(s.heap.push { cls:=.type "set", data:=.set #[] 0 fD }).objs.size,l]:=by
     rw[yh];simp only[zH,zU,zk,or_false,not_or];exact⟨zx Te,wC lS⟩
    have hv:∀(i:Nat)(v:vB),items[i]?=some v->∃t,v=.int ((λi=>ns.getD i 0) i) t:=λi v z=>IntsAre.int_at ia i v (by rw[zb];exact z);refine zC1 ((Walks.list h3 _ l nI items).toS) s.heap.objs.size nS (led:=X6 w) ik hv hb (items.size-0) 0 _ ∅ B4 ⟨nQ,(il1.push _)⟩ ?S0 ?RR
    case S0=>
     refine⟨[],⟨_,#[],0,.fresh 0 0 Qe,zG _ hS,aaL,rfl,⟨rfl,xL,rfl⟩,rfl,by show 0<ui;decide,λe z=>by simp at z,rfl,xY⟩,bZ,λx=>⟨λz=>(by cases z),λ⟨i,z,_⟩=>vO z PH⟩⟩
    case RR=>
     intro s' hm S';obtain⟨h',g',d',tk',os'⟩:=s';have eg:g'=s.gens:=hm.gens;have ed:d'=s.drawn:=hm.drawn;have eos:os'=s.os:=hm.os;subst eg;subst ed;subst eos;show vP _ _ _ _ _ _;refine vJ ?_;show vP _ _ aac _ _ _;refine vJ ⟨rfl,h',tk',rfl,S',λb o z y=>?_⟩;refine hm.heap b o ?_ (zG _ (zG _ y));simp only[zH,zU,zk,or_false,not_or];exact⟨zx z,by rw[yh];exact zx (yX z)⟩
   ·cases r2 with
    | error e=>exact hr2
    | ok fl2=>
     cases fl2 with
     | ret r=>
      obtain⟨rfl,h',tk,rfl,S',kp⟩:=hr2
      repeat (any_goals (first|assumption|wp_step))
      exact k _ _ S' kp
     | next=>exact hr2.elim
     | brk=>exact hr2.elim
     | cont=>exact hr2.elim
  | next=>exact hr.elim
  | brk=>exact hr.elim
  | cont=>exact hr.elim
end
end Hk
namespace PySem.F
theorem slotSetNext:Slot "set_iterator" "__next__" "set_iterator.__next__" := .of (owner := "set_iterator") (n := "__next__") (by rw[uL,v5];kernel_rfl) ⋯ ⋯ ⋯ (by first|exact .inl ⋯|exact .inr ⋯) (by rw[uu];kernel_rfl)
theorem slotSetIt:Slot "set_iterator" "__iter__" "set_iterator.__iter__" := .of (owner := "set_iterator") (n := "__iter__") (by rw[uL,v5];kernel_rfl) ⋯ ⋯ ⋯ (by first|exact .inl ⋯|exact .inr ⋯) (by rw[uu];kernel_rfl)
theorem zBP:Manifest.owners.lookup (String.ofList ['r','o','t','a','r','e','t','i','_','t','e','s'].reverse)=some Manifest.sig_set_iterator:=by kernel_rfl
theorem argsSetNext(a:vB):sq "set_iterator.__next__" QB:=by
 unfold sq;rw[signature?_of (id := "set_iterator.__next__") (n:=['_','_','t','x','e','n','_','_']) (o:=['r','o','t','a','r','e','t','i','_','t','e','s']) (by kernel_rfl) zBP]
 kernel_rfl
theorem argsSetIt(a:vB):sq "set_iterator.__iter__" QB:=by
 unfold sq;rw[signature?_of (id := "set_iterator.__iter__") (n:=['_','_','r','e','t','i','_','_']) (o:=['r','o','t','a','r','e','t','i','_','t','e','s']) (by kernel_rfl) zBP]
 kernel_rfl
theorem entSetNext:entryFor table "set_iterator.__next__" = some Builtin.«set_iterator.__next__»:=entryFor_of_tree (by kernel_rfl)
theorem entSetIter:entryFor table "set.__iter__" = some Builtin.«frozenset.__iter__»:=entryFor_alias (id' := "frozenset.__iter__") (by kernel_rfl) rfl ⋯ (by kernel_rfl)
theorem entSetIt:entryFor table "set_iterator.__iter__" = some Builtin.«dict_keyiterator.__iter__»:=entryFor_alias (id' := "dict_keyiterator.__iter__") (by kernel_rfl) rfl ⋯ (by kernel_rfl)
end PySem.F
namespace Hk
open PySem PySem.Spec PyProof.Rows
section
variable{prog:vU}{w:vZ}{A:vf}{E:vB->vC->Prop}{s:vC}
theorem q4F{α:Type}:∀(l:bB)(k:Nat)(h:k<l.length),(l[k]::l.eraseIdx k).Perm l
 | a::r,0,_=>xX _
 | a::r,k+1,h=>by
  have h':k<r.length:=by simpa using h
  show (r[k]::a::r.eraseIdx k).Perm (a::r);exact(Ym a r[k] _).trans ((q4F r k h').cons a)
theorem qcf{α:Type}(next:Nat->Nat):∀(fuel k:Nat)(left:bB)(out:Array α),left.length=fuel->(pickOrder.go next fuel k left out).toList.Perm (out.toList++left)
 | 0,k,left,out,h=>by
  have e:left=[]:=yt h;subst e;unfold pickOrder.go;rw[zi]
 | fuel+1,k,left,out,h=>by
  unfold pickOrder.go;have hlt:next k%left.length<left.length:=Nat.mod_lt _ ∅
  rw[GB]
  dsimp only
  refine(qcf next fuel (k+1) _ _ (by rw[ww hlt,h];rfl)).trans ?_;rw[ZI,zL];exact yS _ (q4F left _ hlt)
theorem qeG{α:Type}(next:Nat->Nat)(xs:Array α):(uz next xs).toList.Perm xs.toList:=by
 have:=qcf next xs.size 0 xs.toList #[] (by simp)
 simpa [uz]using this
theorem qep{M:Model}{src:Source}{n:Nat}{Q:Nat->vC->Prop}(hn:n≠0)(h:Q (M.w.draws src (s.drawn.get src)%n) { s with drawn:=s.drawn.bump src }):vP M A (choose src n) Q E s:=λ_ _ _=>⟨hn,h⟩
theorem q5j{M:Model}{α:Type}:∀(n:Nat)(xs:bB)(s:vC)(Q:List α->vC->Prop),xs.length=n->(∀ys d,ys.Perm xs->Q ys { s with drawn:=d })->vP M A (drawOrder n xs) Q E s
 | 0,xs,s,Q,hl,h=>by
  have e:xs=[]:=yt hl;subst e;exact vJ (h [] s.drawn VN)
 | n+1,[],s,Q,hl,h=>by cases hl
 | n+1,x::r,s,Q,hl,h=>by
  unfold drawOrder;refine vA (qep (by simp) ?_);generalize hk:M.w.draws Source.order (s.drawn.get Source.order)%(x::r).length=k;have hlt:k<(x::r).length:=by rw[<- hk];exact Nat.mod_lt _ (by simp)
  rw[GB]
  dsimp only
  have hl2:((x::r).eraseIdx k).length=n:=by rw[ww hlt,hl];rfl
  refine vA (q5j n _ _ _ hl2 λys d p=>vJ (h _ d ?_));refine y0 (p.cons _) ?_;exact q4F _ k hlt
end
noncomputable abbrev Wh(f:vB)(i:Nat)(a:vH)(n ep:Nat):Obj:={ cls:=.type "set_iterator", data:=.fields #[f,.int i 0,du,.int n 0,.int ep 0] }
section
variable{prog:vU}{w:vZ}{A:vf}{E:vB->vC->Prop}{s:vC}
theorem q1J{a:vH}{o:Obj}{es:lT}{ep:Nat}{t:SetTable}{Q:aaA}(go:ff)(gd:cT)(gf:eJ)(h:Q es s):vP ak A (setEntries a) Q E s:=by
 unfold setEntries;exact vA (v6 go gd gf UE)
theorem qf6{it a:vH}{slot i n ep:Nat}{o:Obj}{es:lT}{t:SetTable}{x:vB}{nxt:Nat}{Q:gM}(e:BR)(go:ff)(gd:cT)(gf:eJ)(hn:P9)(hnext:∀A' Q' E',Q' (some (x,nxt)) s->vP ak A' Ca Q' E' s)(k:∀h',h'.get? it=some (Wh (.int nxt 0) (i+1) a n ep)->xh it s.heap h'->Q (some x) { s with heap:=h' }):
  vP ak A UH Q E s:=by
 have hT:s.TypeIs iD "set_iterator" := eG;unfold uU;refine vA aS;unfold Builtin.«set_iterator.__next__»;refine vA (m:=sN "__next__" 0 HD) fF;refine vA GE
 dsimp only
 refine vA Be;rw[vG (by rw[hn];simp)];simp only[yj];refine vA aai
 dsimp only
 refine vA (uG e (by simp) λh1 e1 sb1=>?_);refine vA (uG (s:={ s with heap:=h1 }) e1 (by simp) λh2 e2 sb2=>?_);refine vJ ⟨_,rfl,vJ (k h2 ?_ (sb1.trans sb2))⟩;rw[e2];simp[uY]
theorem qdY{it a:vH}{slot i n ep:Nat}{o:Obj}{es:lT}{t:SetTable}{Q:gM}(hh:cO)(e:BR)(go:ff)(gd:cT)(gf:eJ)(hn:P9)(hnext:∀A' Q' E',Q' none s->vP ak A' Ca Q' E' s)(k:∀h',Heap.ExtBut it s.heap h'->Q none { s with heap:=h' }):
  vP ak A UH Q E s:=by
 have hT:s.TypeIs iD "set_iterator" := eG;unfold uU;refine vA aS;unfold Builtin.«set_iterator.__next__»;refine vA (m:=sN "__next__" 0 HD) fF;refine vA GE
 dsimp only
 refine vA Be;rw[vG (by rw[hn];simp)];simp only[yj];refine vA aai
 dsimp only
 refine vA (uG e (by simp) λh1 e1 sb1=>?_);show vP _ _ (newExc OH [] >>= λx=>sr x) _ _ _;refine vA ?_;simp only[newExc,newTuple];refine vA (vo ?_ (by size_fits));refine vA (m:=tH _ _) (sW (a:=Value.none) (by first|rfl|(simp only[tH];rfl)) ?_);refine vo ?_ (by size_fits);simp only[sr];refine vA Ti;rw[show A.in1.handled=none from hh];refine vA PP;refine vA (uW (T := "StopIteration") (b:=true) Ni tI ?_);exact vJ (k _ ((sb1.extBut.push _).push _))
end
section
variable{prog:vU}{w:vZ}{A:vf}{E:vB->vC->Prop}{s:vC}
theorem q3t{Q:pD}(h:Q (w.params.followText "set-order") s):vP ak A setsByText Q E s:=by
 unfold setsByText;exact vA (tQ UE)
theorem q6V{a:vH}{o:Obj}{es:lT}{ep:Nat}{t:SetTable}{slot i:Nat}{r:Option (vB×Nat)}{Q:NY}(go:ff)(gd:cT)(gf:eJ)(hB:w.params.followText "set-order" = false)(hl:t.led=true)(hd:(!t.plain&&decide (es.size>1))=false)(hr:(match es[As]?,t.place[As]? with|some (_,x),some j=>some (x,j+1)|_,_=>none)=r)(h:Q r s):vP ak A Ca Q E s:=by
 unfold tE;refine vA B8
 dsimp only
 refine vA (q3t ?_);rw[hB];refine vg (λz=>vO z (by decide)) eN;refine vg (λz=>vO ((show (!t.plain&&decide (es.size>1))=true from z).symm.trans hd) (by decide)) eN;refine vA ?_;refine vg KC eN
 ·have z':(!t.led && !es.isEmpty)=true:=z
  rw[hl]at z';exact vO z' (by simp)
 ·refine vJ ?_
  refine vJ ?_;rw[<- hr]at h;exact h
theorem qeT{a:vH}{o:Obj}{es:lT}{ep:Nat}{t:SetTable}{Q:aaA}(go:ff)(gd:cT)(gf:eJ)(hB:Fp)(h:Q (uz fJ es) s):vP ak A (setWalk a) Q E s:=by
 unfold setWalk;refine vA B8
 dsimp only
 refine vA (q3t ?_);rw[hB];refine vg eN aaO;exact vA (tQ UE)
theorem q8d{a:vH}{o:Obj}{es:lT}{ep:Nat}{t:SetTable}{slot i:Nat}{Q:NY}(go:ff)(gd:cT)(gf:eJ)(hB:Fp)(h:Q (((uz fJ es)[i]?).map λe=>(e.2,slot)) s):vP ak A Ca Q E s:=by
 unfold tE;refine vA B8
 dsimp only
 refine vA (q3t ?_);rw[hB];refine vg eN aaO;refine vg (λz=>vO z (by simp)) eN;exact vA (qeT go gd gf hB UE)
theorem qbL{it:vH}{f:vB}{i:Nat}{a:vH}{n ep:Nat}{Q:aM}(e:s.heap.get? it=some (Wh f i a n ep))(h:Q iD s):vP ak A (sm iD) Q E s:=by
 have hT:s.TypeIs iD "set_iterator" := eG;refine wpAny_pyIter_slot hT F.slotSetIt (vq F.slotSetIt hT F.entSetIt ?_ (F.argsSetIt _));show vP _ _ (ret iD) _ _ s;exact vJ ⟨_,rfl, "set_iterator", _,hT,F.slotSetNext.lookup,h⟩
theorem qcT(hh:cO){I a:vH}(hne:a≠I){o:Obj}{es:lT}{ep:Nat}{t:SetTable}(gd:cT)(gf:eJ)(slot:Nat->Nat)(val:Nat->vB)(hn:∀(i:Nat)(s:vC),i<es.size->s.heap.get? a=some o->∀A' Q' E',Q' (some (val i,slot (i+1))) s->vP ak A' QW Q' E' s)(hz:∀(s:vC),s.heap.get? a=some o->∀A' Q' E',Q' none s->vP ak A' Ip Q' E' s):
  Walks prog w A I [I,a] [I] es.size VA (λi h=>h.get? I=some Fb/\h.get? a=some o) where
 sub:=λb hb=>by simp at hb;simp[hb]
 frame:=λ_ _ _ st hk=>⟨hk I (by simp) _ st.1,hk a (by simp) _ st.2⟩
 item:=λi s Q E hi st hQ=>by
  refine qf6 st.1 st.2 gd gf rfl (hn i s hi st.2) λh' e' sb=>?_;exact hQ _ h' s.toks rfl ⟨e',sb.extBut a o hne st.2⟩ λb u hb e=>sb.extBut b u (λz=>hb (by simp[z])) e
 done:=λs Q E st hQ=>qdY hh st.1 st.2 gd gf rfl (hz s st.2) λh' eb=>hQ h' s.toks λb u hb e=>eb b u (λz=>hb (by simp[z])) e
 self:=λ_ _ _ _ st hQ=>qbL st.1 hQ
theorem qdh{it a tp:vH}{i n ep p:Nat}{o:Obj}{es:lT}{t:SetTable}{x:dk}{ps:dw}{ot:Obj}{nt:Nat}{Q:gM}(e:Dq)(go:ff)(gd:cT)(gf:eJ)(hn:P9)(gt:QY)(gtd:aaf)(hp:ps[i]?=some (.int p 0))(hx:es[p]?=some x)(k:∀h',h'.get? it=some (Wh abH (i+1) a n ep)->xh it s.heap h'->Q (some x.2) { s with heap:=h' }):
  vP ak A UH Q E s:=by
 have hT:s.TypeIs iD "set_iterator" := eG;unfold uU;refine vA aS;unfold Builtin.«set_iterator.__next__»;refine vA (m:=sN "__next__" 0 HD) fF;refine vA GE
 dsimp only
 refine vA Be;rw[vG (by rw[hn];simp)];refine vA ab7
 dsimp only
 simp only[yj];rw[hp]
 dsimp only
 unfold setNextDrawn;refine vA (vA B8)
 dsimp only
 refine vg (λz=>vO z (by simp)) eN;simp only[yj];rw[hx];refine vJ ?_;refine vA (uG e (by simp) λh1 e1 sb1=>?_);refine vJ ⟨_,rfl,vJ (k h1 ?_ sb1)⟩;rw[e1];simp[uY]
theorem qd4{it a tp:vH}{i n ep:Nat}{o:Obj}{es:lT}{t:SetTable}{ps:dw}{ot:Obj}{nt:Nat}{Q:gM}(hh:cO)(e:Dq)(go:ff)(gd:cT)(gf:eJ)(hn:P9)(gt:QY)(gtd:aaf)(hp:ps[i]?=none)(k:∀h',Heap.ExtBut it s.heap h'->Q none { s with heap:=h' }):
  vP ak A UH Q E s:=by
 have hT:s.TypeIs iD "set_iterator" := eG;unfold uU;refine vA aS;unfold Builtin.«set_iterator.__next__»;refine vA (m:=sN "__next__" 0 HD) fF;refine vA GE
 dsimp only
 refine vA Be;rw[vG (by rw[hn];simp)];refine vA ab7
 dsimp only
 simp only[yj];rw[hp]
 dsimp only
 refine vA (uG e (by simp) λh1 e1 sb1=>?_);refine vA (uG (s:={ s with heap:=h1 }) e1 (by simp) λh2 e2 sb2=>?_);show vP _ _ (newExc OH [] >>= λx=>sr x) _ _ _;refine vA ?_;simp only[newExc,newTuple];refine vA (vo ?_ (by size_fits));refine vA (m:=tH _ _) (sW (a:=Value.none) (by first|rfl|(simp only[tH];rfl)) ?_);refine vo ?_ (by size_fits);simp only[sr];refine vA Ti;rw[show A.in1.handled=none from hh];refine vA PP;refine vA (uW (T := "StopIteration") (b:=true) Ni tI ?_);exact vJ (k _ (((sb1.trans sb2).extBut.push _).push _))
theorem qbe(hh:cO){I a tp:vH}(hne:a≠I)(htp:tp≠I){o:Obj}{es:lT}{ep:Nat}{t:SetTable}(gd:cT)(gf:eJ){ot:Obj}{nt:Nat}(ord:bT)(hp:ord.Perm OT)(gtd:ot.data=.seq (ord.map λ(i:Nat)=>uY i).toArray nt):
  Walks prog w A I [I,a,tp] [I] es.size (λi v=>∃p x,ord[i]?=some p/\es[p]?=some x/\v=x.2) (λi h=>h.get? I=some (Wh abH i a es.size ep)/\h.get? a=some o/\h.get? tp=some ot) where
 sub:=λb hb=>by simp at hb;simp[hb]
 frame:=λ_ _ _ st hk=>⟨hk I (by simp) _ st.1,hk a (by simp) _ st.2.1,hk tp (by simp) _ st.2.2⟩
 item:=λi s Q E hi st hQ=>by
  have hl:ord.length=es.size:=by rw[hp.length_eq,zo]
  have ho:ord[i]?=some (ord[i]'∅):=zD _;have hlt:ord[i]'∅<es.size:=yU.mp (hp.mem_iff.mp (yQ _));refine qdh (p:=ord[i]'∅) (x:=es[ord[i]'∅]) st.1 st.2.1 gd gf rfl st.2.2 gtd (by simp[uY,ho]) (by simp[hlt]) λh' e' sb=>?_;exact hQ _ h' s.toks ⟨_,_,ho,by simp[hlt],rfl⟩ ⟨e',sb.extBut a o hne st.2.1,sb.extBut tp ot htp st.2.2⟩ λb u hb e=>sb.extBut b u (λz=>hb (by simp[z])) e
 done:=λs Q E st hQ=>qd4 hh st.1 st.2.1 gd gf rfl st.2.2 gtd (by simp[hp.length_eq]) λh' eb=>hQ h' s.toks λb u hb e=>eb b u (λz=>hb (by simp[z])) e
 self:=λ_ _ _ _ st hQ=>qbL st.1 hQ
end
end Hk
namespace PySem.F
theorem slotSetLen:uy mw "__len__" = pure (some (.builtin "set.__len__")):=by rw[uL,v5];kernel_rfl
theorem slotSetIter:Slot "set" "__iter__" "set.__iter__" := .of (owner := "set") (n := "__iter__") (by rw[uL,v5];kernel_rfl) ⋯ ⋯ ⋯ (by first|exact .inl ⋯|exact .inr ⋯) (by rw[uu];kernel_rfl)
theorem argsSetIter(a:vB):sq "set.__iter__" QB:=by
 unfold sq;kernel_rfl
end PySem.F
namespace Hk
open PySem PySem.Spec PyProof.Rows
noncomputable def slotAt(xs:DD):Nat->Nat
 | 0=>0
 | i+1=>xs.toList.getD i 0+1
theorem q7j{xs:DD}(h:zBe xs):∀i,i<=xs.size->SetTable.below xs (slotAt xs i)=i:=by
 intro i hi;obtain⟨h1,h2,h3⟩:=q9d h (slotAt xs i);have hz:xs.toList.length=xs.size:=zP;cases i with
 | zero=>
  rcases Nat.eq_zero_or_pos (SetTable.below xs (slotAt xs 0))with z|z
  ·exact z
  ·exact vO (h2 0 ∅ z) PH
 | succ i=>
  have hlt:i<xs.toList.length:=∅
  have e:slotAt xs (i+1)=xs.toList[i]+1:=by
   show xs.toList.getD i 0+1=_;rw[zT,GB];rfl
  rw[e]at h2 h3 h1 ⊢;generalize SetTable.below xs (xs.toList[i]+1)=b at h1 h2 h3 ⊢;have a1:i<b:=by
   rcases yB i b with z|z
   ·exact z
   ·have:=h3 i hlt z;omega
  have a2:b<=i+1:=by
   rcases yB (i+1) b with z|z
   ·have y:=h2 (i+1) ∅ z
    have y':=q5P h hlt (show i+1<xs.toList.length by omega) (yi i);omega
   ·exact z
  omega
theorem qf7{val:Nat->vB}{n:Nat}{acc:dw}(h:ItemsOf VA acc n):acc.toList=(za n).map val:=by
 apply yw;intro i;rw[zb,ze];rcases yB i n with z|z
 ·rw[xQ z]
  have hz:i<acc.size:=by rw[h.1];exact z
  have:acc[i]?=some acc[i]:=yF hz;rw[this,h.2 i _ this];rfl
 ·rw[z8 (by rw[zo];exact z),yl (by rw[h.1];exact z)];rfl
theorem q8j:∀{l:Ku},(∀e∈l,zAS e)->uC (l.map (·.2)) (l.map λe=>vI e.2)
 | [],_=>.nil
 | e::r,h=>by
  obtain⟨x,t,rfl⟩:=h e zE;exact .cons _ _ (q8j λe he=>h e On)
section
variable{prog:vU}{w:vZ}{A:vf}{E:vB->vC->Prop}{s:vC}
theorem qfS{r:vH}{Q:pD}(hT:s.TypeIs (.ref r) "set")(h:Q false s):vP ak A EU Q E s:=by
 unfold Builtin.List.listLengthHint;refine vA (ub hT F.slotSetLen ?_);generalize hid:("set.__len__" : String)=id0
 wp_delta
 rw[show splitId id0=some ("set", "__len__")from by subst hid;decide +kernel];subst hid;refine vA (uW (T := "set") (b:=true) hT (by rw[uu];kernel_rfl) ?_);refine vg (λhab=>vO hab (by decide)) eN;refine vg eN R1;refine vA (uh hT ?_);exact vJ h
theorem qgH{a:vH}{xs:af}{Q:aM}(S:oQ)(k:∀(h':vk)(d:sU)(I:vH)(fp:dh)(P:Nat->vB->Prop)(St:Nat->vk->Prop),(∀b o,s.heap.get? b=some o->h'.get? b=some o)->s.heap.objs.size<=I->(∀b∈fp,b=a\/s.heap.objs.size<=b) ->
   (∀A:vf,A.handled=none->Walks prog w A I fp [I] xs.length P St)->St 0 h'->(∀acc:Array vB,ItemsOf P acc xs.length->∃ys,uC acc.toList ys/\ys.Perm xs)->(∀b∈fp,b<h'.objs.size)->Q BX { s with heap:=h',drawn:=d }) :
  vP ak A (sm du) Q E s:=by
 obtain⟨o,es,ep,t,go,gx,gd,T,gl,gb,gg,gv,gn⟩:=id S;have hl:es.size=xs.length:=by rw[<- gv,zA,zP]
 have hlt:a<s.heap.objs.size:=zS go;have hps:t.place.size=es.size:=by
  have:=T.fits;unfold SetTable.fits at this;simp only[yC,beq_iff_eq]at this;exact this.1
 have hT:s.TypeIs du "set" := ⟨o,go,gx.1⟩;refine wpAny_pyIter_slot hT F.slotSetIter (vq F.slotSetIter hT F.entSetIter ?_ (F.argsSetIter _));unfold Builtin.«frozenset.__iter__» Builtin.Frozenset.slot0 Builtin.Frozenset.sizeOf;refine vA ?_;refine vA (m:=sN "__iter__" 0 HE) fF;show vP _ _ (pure a) _ _ s;refine vJ ?_;refine vA (vA (q1J go gd T.fits fF));refine vA ?_;unfold setDrawn;refine vA QR
 dsimp only
 refine vA (q3t fF);have perm_ok:∀(l:Ku),l.Perm es.toList->∃ys,uC (l.map (·.2)) ys/\ys.Perm xs:=λl p=>
  ⟨_,q8j λe he=>gg e (p.mem_iff.mp he),by rw[<- gv];exact p.map _⟩
 have slots:∀(slot:Nat->Nat)(l:Ku),slot 0=0->l.Perm es.toList ->
   (∀(i:Nat)(s:vC),i<es.size->s.heap.get? a=some o->∀A' Q' E',Q' (some ((l.map (·.2)).getD i .none,slot (i+1))) s->vP ak A' QW Q' E' s) ->
   (∀(s:vC),s.heap.get? a=some o->∀A' Q' E',Q' none s->vP ak A' Ip Q' E' s) ->
   Q aD { s with heap:=s.heap.push DB }:=λslot l h0 p hn hz=>by
  have:=k (s.heap.push DB) s.drawn s.heap.objs.size [s.heap.objs.size,a] (λi v=>v=(l.map (·.2)).getD i .none) (λi h=>h.get? s.heap.objs.size=some Fb/\h.get? a=some o)
   (λb u e=>zG _ e) bZ (λb hb=>by
    simp only[zH,zk,or_false]at hb;rcases hb with rfl|rfl
    ·exact .inr bZ
    ·exact .inl rfl) (λA hh=>by rw[<- hl];exact qcT hh LR gd T.fits slot _ hn hz) ⟨iK,zG _ go⟩ (λacc hacc=>by
    rw[qf7 hacc];obtain⟨ys,y1,y2⟩:=perm_ok l p;have e:(za xs.length).map (λi=>(l.map (·.2)).getD i .none)=l.map (·.2):=by
     apply yw;intro i;have hll:l.length=xs.length:=by rw[p.length_eq,zP,hl]
     rw[ze];rcases yB i xs.length with z|z
     ·rw[xQ z]
      show some ((l.map (·.2)).getD i .none)=_;rw[zT,zD (by rw[zA,hll];exact z)];rfl
     ·rw[z8 (by rw[zo];exact z),z8 (by rw[zA,hll];exact z)];rfl
    rw[e];exact⟨ys,y1,y2⟩) (λb hb=>by
    rw[yh];simp only[zH,zk,or_false]at hb;rcases hb with rfl|rfl
    ·exact yi _
    ·exact yX hlt)
  exact this
 have getD_at:∀(l:Ku)(i:Nat)(e:dk),l[i]?=some e->(l.map (·.2)).getD i .none=e.2:=λl i e h=>by
  rw[zT,ze,h];rfl
 cases hB:w.params.followText "set-order" with
 | true=>
  refine vA fF;refine vA ?_;unfold setEpoch;refine vA QQ;refine vA dz;have pp:=qeG fJ es;have hpl:(uz fJ es).size=es.size:=by rw[<- zP,pp.length_eq,zP]
  refine slots (λ_=>0) _ rfl pp Kd λs go' A' Q' E' q=>?_
  ·refine q8d go' gd T.fits hB ?_
   have hz:i<(uz fJ es).size:=by rw[hpl];exact hi
   rw[yF hz];have:=getD_at (uz fJ es).toList i (uz fJ es)[i] (by rw[zb,yF hz]);rw[this]at q;exact q
  ·refine q8d go' gd T.fits hB ?_
   rw[yl (by rw[hpl];exact zK _)];exact q
 | false=>
  have led:t.led=true:=by rw[gl];unfold X6;rw[hB];rfl
  cases hD:(!t.plain&&decide (es.size>1))with
  | false=>
   refine vg (λz=>vO ((show (!false&&(!t.plain&&decide (es.size>1)))=true from z)) (by rw[hD];decide)) eN;refine vA fF;refine vA ?_;unfold setEpoch;refine vA QQ;refine vA dz;refine slots (slotAt t.place) es.toList rfl (xX _) Kd λs go' A' Q' E' q=>?_
   ·refine q6V go' gd T.fits hB led hD rfl ?_
    rw[q7j T.rise i ∅,yF hi,yF (show i<t.place.size by omega)];have:=getD_at es.toList i es[i] (by rw[zb,yF hi]);rw[this]at q;have e2:slotAt t.place (i+1)=t.place[i]'∅+1:=by
     show t.place.toList.getD i 0+1=_;rw[zT,zb,yF (show i<t.place.size by omega)];rfl
    rw[e2]at q;exact q
   ·refine q6V go' gd T.fits hB led hD rfl ?_
    rw[q7j T.rise es.size ∅,yl bZ];exact q
  | true=>
   refine vg eN (λz=>vO (show (!false&&(!t.plain&&decide (es.size>1)))=true by rw[hD];rfl) z);refine vA (q5j es.size OT _ _ zo λord d po=>?_);have hol:ord.length=es.size:=by rw[po.length_eq,zo]
   refine vA (tJ ?_ (by rw[zA,hol];exact yD (ye gb) (by decide)));refine vA ?_;unfold setEpoch;have go2:(s.heap.push { cls:=.type "tuple", data:=.seq (ord.map λ(i:Nat)=>uY i).toArray }).get? a=some o:=zG _ go;refine vA (v6 go2 gd T.fits fF);refine vA dz;have hs1:(s.heap.push { cls:=.type "tuple", data:=.seq (ord.map λ(i:Nat)=>uY i).toArray }).objs.size=s.heap.objs.size+1:=yh _ _;have ht1:(s.heap.push { cls:=.type "tuple", data:=.seq (ord.map λ(i:Nat)=>uY i).toArray }).get? s.heap.objs.size=some { cls:=.type "tuple", data:=.seq (ord.map λ(i:Nat)=>uY i).toArray }:=zY _ rfl;refine k _ d _ [(s.heap.push { cls:=.type "tuple", data:=.seq (ord.map λ(i:Nat)=>uY i).toArray }).objs.size,a,s.heap.objs.size] (λi v=>∃p x,ord[i]?=some p/\es[p]?=some x/\v=x.2)
    (λi h=>h.get? (s.heap.push { cls:=.type "tuple", data:=.seq (ord.map λ(i:Nat)=>uY i).toArray }).objs.size=some (Wh aD i a es.size ep)/\h.get? a=some o/\h.get? s.heap.objs.size=some { cls:=.type "tuple", data:=.seq (ord.map λ(i:Nat)=>uY i).toArray }) (λb u e=>zG _ HH) (by rw[hs1];exact yz _) kW (λA hh=>by
    rw[<- hl];exact qbe (tp:=s.heap.objs.size) hh (by rw[hs1];exact zx (yX hlt)) (by rw[hs1];exact zx Te) gd T.fits ord po rfl)
    ⟨iK,zG _ go2,zG _ ht1⟩ (λacc hacc=>?_) kW
   ·simp only[zH,zk,or_false]at hb
    rcases hb with rfl|rfl|rfl
    ·exact .inr (by rw[hs1];exact yz _)
    ·exact .inl rfl
    ·exact .inr bZ
   ·have e:acc.toList=(ord.map λp=>es.toList.getD p abD).map (·.2):=by
     apply yw;intro i;rw[zb,ze,ze];rcases yB i acc.size with z|z
     ·obtain⟨p,x,h1,h2,h3⟩:=hacc.2 i acc[i] (yF z)
      rw[yF z,h1,h3];show _=some (es.toList.getD p abD).2;rw[zT,zb,h2];rfl
     ·rw[yl z,z8 (by rw[hol,hl,<- hacc.1];exact z)];rfl
    have p2:(ord.map λp=>es.toList.getD p abD).Perm es.toList:=by
     refine(po.map _).trans ?_;have:(za es.size).map (λp=>es.toList.getD p acM)=es.toList:=by
      apply yw;intro i;rw[ze];rcases yB i es.size with z|z
      ·rw[xQ z]
       show some (es.toList.getD i acM)=_;rw[zT,zD (by rw[zP];exact z)];rfl
      ·rw[z8 (by rw[zo];exact z),z8 (by rw[zP];exact z)];rfl
     rw[this]
    rw[e];exact perm_ok _ p2
   ·rw[yh,hs1]
    simp only[zH,zk,or_false]at hb;rcases hb with rfl|rfl|rfl
    ·rw[hs1];exact yi _
    ·exact yX (yX hlt)
    ·exact yX Te
end
section
variable{prog:vU}{w:vZ}{A:vf}{E:vB->vC->Prop}{s:vC}
theorem qdp{R:sI->vC->Prop}{a:vH}{xs:af}(hh:cO)(SI:oQ)(S:vH)(hSa:S≠a)(res:vB)(c₀:Nat)(hS:s.heap.get? S=some { cls:=.type "list", data:=.seq #[] c₀ })(hR:∀h' tk d acc' c',(∀b o,b≠S->s.heap.get? b=some o->h'.get? b=some o)->h'.get? S=some { cls:=.type "list", dict:=none,data:=.seq acc' c',slots:=#[] }->(∃ys,uC acc'.toList ys/\ys.Perm xs)->R Co { s with heap:=h',toks:=tk,drawn:=d }):
  vP ak A.in1 (Builtin.List.listExtendWith fw du res)
   (λfin s'=>match fin with|.done f=>R Vk s'|.again c'=>c'.quiet=true/\uc ak A c' R s') AK s:=by
 have hn:xs.length<=sizeLine:=yD (ye SI.len) (by decide);obtain⟨o,es,ep,t,go,gx,gd,T,gl,gb,gg,gv,gn⟩:=id SI;have hTy:∀h:vk,h.get? a=some o->Shared.TypeIs { s with heap:=h } du "set" := λh e=>⟨o,e,gx.1⟩;unfold Builtin.List.listExtendWith;refine vA (uh (T := "set") ⟨o,go,gx.1⟩ ?_);have h1:Builtin.List.listSameRef fw du=false:=by simp[Builtin.List.listSameRef,hSa]
 have h2:(Value.type "set" == Value.type "list")=false:=by decide
 have h3:(Value.type "set" == Value.type "tuple")=false:=by decide
 simp only[h1,h2,h3,wZ,yI,if_false];refine vA (qgH SI λh1 d I fp P St keep hI hfp W st items hlt=>?_);have hS1:h1.get? S=some { cls:=.type "list", data:=.seq #[] c₀ }:=keep _ _ hS;have hSlt:S<s.heap.objs.size:=zS hS;have hSf:S∉fp:=λhm=>by
  rcases hfp S hm with z|z
  ·exact hSa z
  ·exact vO hSlt (Yn.mpr z)
 have key:∀(h:vk)(c₁ tk:Nat),St 0 h->(∀b o,b≠S->s.heap.get? b=some o->h.get? b=some o) ->
   h.get? S=some { cls:=.type "list", data:=.seq #[] c₁ }->uc ak A (.builtin "list.extend.loop" ⟨[fw,BX,res],[]⟩) R { s with heap:=h,toks:=tk,drawn:=d }:=by
  intro h c₁ tk hst hk hS₁;refine tq (W A.in1 hh).toS hn S hSf res xs.length 0 _ #[] c₁ rfl (yE _) hst hS₁ aby λs' acc' c' hm hS' hacc=>?_;rw[K9];refine hR s'.heap s'.toks d acc' c' (λb o hb e=>hm.heap b o (λhmem=>?_) (hk b o hb e)) hS' (items acc' hacc);rcases zH.mp hmem with e'|hmem
  ·exact hb e'
  ·exact vO Dj (by rw[zU.mp hmem];exact Yn.mpr hI)
 refine vA (vn (qfS ⟨o,keep _ _ go,gx.1⟩ ?_));refine vg eN (λ_=>vJ ⟨fz,key _ c₀ _ st (λb o _ e=>keep b o e) hS1⟩);refine vA UJ;refine vA ?_;show vP _ _ (tF S (·.push .none) >>= λ_=>tF S (·.pop)) _ _ _;refine vA (uM hS1 rfl ?_);have hS₂:=xf (Obj.mapSeq (·.push Value.none)) hS1 rfl;refine uM (hz:=by seq_fits) hS₂ rfl ?_;have hS₃:=xf (Obj.mapSeq (·.pop)) hS₂ rfl;refine vJ ⟨fz,key _ _ _ ?_ Jx hS₃⟩
 ·refine(W A.in1 hh).frame 0 _ _ st λb hb o e=>?_
  have hbS:b≠S:=λh=>hSf (h▸hb);exact(zt _ _ (Ne.symm hbS)).trans ((zt _ _ (Ne.symm hbS)).trans e)
 ·exact(zt _ _ iz).trans ((zt _ _ iz).trans (keep b o e))
theorem qb4{R:List vB->vC->Prop}{a:vH}{xs:af}(hh:cO)(SI:oQ)(h:∀(h':vk)(tk:Nat)(d:sU)(vs:a0)(ys:af),(∀b o,s.heap.get? b=some o->h'.get? b=some o)->s.heap.objs.size<h'.objs.size->uC vs ys->ys.Perm xs->R vs { s with heap:=h',toks:=tk,drawn:=d }):
  vP ak A (collect du) R E s:=by
 obtain⟨o,es,ep,t,go,gx,gd,T,gl,gb,gg,gv,gn⟩:=id SI;have hlt:a<s.heap.objs.size:=zS go;unfold collect;refine vA (wpAny_runValue (uK entry_proto_collect' ?_));rw[Around.under_plainId PySem.F.plain_proto_collect _];show vP _ A.in1 (newList [] >>= λl=>again (.builtin "list.__iadd__" ⟨[l,du],[]⟩)) _ _ s;refine vA (vo ?_);refine vJ ⟨uO PySem.F.plain_list_iadd _,uK entry_list_iadd' ?_⟩;rw[Around.under_plainId PySem.F.plain_list_iadd _];have hS₁:(s.heap.push { cls:=.type "list", data:=.seq ([]:List vB).toArray }).get? s.heap.objs.size=some { cls:=.type "list", data:=.seq #[] }:=zY _ rfl;show vP _ A.in1 (Builtin.List.listExtendWith aD du aD) _ _ _;have key:=qdp (prog:=prog) (A:=A) (s:={ s with heap:=s.heap.push { cls:=.type "list", data:=.seq ([]:List vB).toArray } })
  (R:=λ(q:sI) (s':vC)=>∃(h':vk) (tk:Nat) (d:sU) (acc':dw) (c':Nat),q=.ok (.ret aD)/\s'={ s with heap:=h',toks:=tk,drawn:=d } /\
   (∀b o,s.heap.get? b=some o->h'.get? b=some o)/\h'.get? s.heap.objs.size=some { cls:=.type "list", dict:=none,data:=.seq acc' c',slots:=#[] }/\∃ys,uC acc'.toList ys/\ys.Perm xs)
  hh (SI.at λo e=>zG _ e) s.heap.objs.size (wC hlt) aD 0 hS₁
  (λh' tk d acc' c' hk hS' hacc=>⟨h',tk,d,acc',c',rfl,rfl,λb o e=>hk b o (zx Dj) HH,hS',hacc⟩)
 refine vt key (λfin s' x=>?_) λe s' x=>?_
 ·cases fin with
  | done f=>
   obtain⟨h',tk,d,acc',c',e,rfl,hk,hS',ys,y1,y2⟩:=x;cases e;show vP _ A (load s.heap.objs.size >>= _) _ _ _;refine vA R6;exact vJ He
  | again c₁=>
   refine⟨x.1,ug x.2 λq s₂ y=>?_⟩;obtain⟨h',tk,d,acc',c',rfl,rfl,hk,hS',ys,y1,y2⟩:=y;show vP _ A (load s.heap.objs.size >>= _) _ _ _;refine vA R6;exact vJ He
 ·obtain⟨_,_,_,_,_,e',_⟩:=x
  cases e'
theorem qd9{a:vH}{xs:af}{Q:aM}(hh:cO)(SI:oQ)(h64:xs.length<64)(h:∀(D:vH)(h':vk)(tk:Nat)(d:sU)(vs:a0)(ys:af)(n:Nat),(∀b o,s.heap.get? b=some o->h'.get? b=some o)->s.heap.objs.size<=D->h'.get? D=some Bs->uC vs ys->ys.Perm xs->ys.Pairwise (· <= ·)->Q HV { s with heap:=h',toks:=tk,drawn:=d }):
  vP ak A acv Q E s:=by
 refine Calls.call_function_entry tt tV tW (sO _) ?_;unfold Builtin.«sorted»;refine vA (m:=sK "sorted" 1 1 _) fF;refine vA (qb4 (A:=A.in1) hh SI λh1 tk d vs ys hk hz y1 y2=>?_);have hlen:vs.length=xs.length:=by rw[IntsAre.length y1,y2.length_eq]
 refine vA (uk ?_ (yD (by rw[hlen];exact ye h64) (by decide)));have hoL:(h1.push dY).get? h1.objs.size=some dY:=zY _ rfl;refine vA (vn (vq slot_list_sort ⟨_,hoL,rfl⟩ entry_list_sort (list_sort_tree hoL y1 (by rw[hlen];exact h64) λout ns' a1 a2 a3=>cn) (tu _)));obtain⟨n,hn⟩:=sortedHeap_at (vs:=vs) (out:=out) hoL;refine vJ ⟨_,rfl,h h1.objs.size _ tk d out.toList ns' n (λb o e=>?_) ?_ ?_ a1 (a2.trans y2) a3⟩
 ·have e1:=hk b o e
  rw[sortedHeap_old (zx UA) (by rw[yh];exact yX UA)];exact zG _ e1
 ·exact ye hz
 ·rw[xI];exact hn
end
end Hk
namespace L2
open PySem PySem.Spec PyProof.Rows
noncomputable def W0(names:pB)(cells:kM)(cs:kM):List (Str×vH) :=
 match names with
 | []=>cs
 | p::r=>W0 r cells (if p.2 == .free then (p.1,(cells.lookup p.1).getD 0)::cs else cs)
theorem q4H{scope:ux}{env:Env}(h:∀p∈scope.names,p.2=NameKind.free->(env.cells.lookup p.1).isSome=true):
  closureFor scope env=pure (W0 scope.names env.cells []):=by
 simp only[closureFor];generalize scope.names=l at h ⊢;have key:∀(l:pB)(cs:kM),(∀p∈l,p.2=NameKind.free->(env.cells.lookup p.1).isSome=true) ->
   (forIn l cs (λ(p:Str×ua) (r:kM)=>if l9=true then (do let a <- cellOf env p.1;pure (ForInStep.yield ((p.1,a)::r)))else pure Gn):Sem _)=pure (W0 l env.cells cs):=by
  intro l
  induction l with
  | nil=>intro cs _;rfl
  | cons p r ih=>
   intro cs hp;rw[Zk];have hr:=λq hq=>hp q (zF _ hq)
   by_cases hf:p.2=NameKind.free
   ·have hs:=hp p zE hf
    obtain⟨a,ha⟩:=yu.mp hs;have e:cellOf env p.1=pure a:=by unfold cellOf;rw[ha]
    have hb:l9=true:=by rw[hf];rfl
    rw[UF,e,pure_bind,pure_bind];show forIn r _ _=_;rw[ih _ hr];show _=pure (W0 r env.cells (if p.2 == .free then _ else _));rw[UF,ha];rfl
   ·have hb:¬l9=true:=by intro z;exact hf (by cases hk:p.2 <;> simp_all)
    rw[Nv,pure_bind];show forIn r _ _=_;rw[ih _ hr];show _=pure (W0 r env.cells (if p.2 == .free then _ else _));rw[Nv]
 rw[key l [] h];rfl
theorem qbp{k:ua}(h:(k==NameKind.free)=true):k=NameKind.free:=by cases k <;> first|rfl|cases h
theorem q5f{cells:kM}:∀(l:pB)(cs:kM),(∀p∈l,p.2=NameKind.free->(cells.lookup p.1).isSome=true) ->
  (∀x c,cs.lookup x=some c->cells.lookup x=some c)->∀x c,(W0 l cells cs).lookup x=some c->cells.lookup x=some c
 | [],cs,_,h,x,c,e=>h x c e
 | p::r,cs,hp,h,x,c,e=>by
  refine q5f r _ (λq hq=>hp q (zF _ hq)) (λy d hy=>?_) x c e
  by_cases hb:l9=true
  ·rw[UF,xF]at hy
   cases hyp:y==p.1 with
   | true=>
    rw[hyp]at hy;have hy':(cells.lookup p.1).getD 0=d:=zw hy;obtain⟨a,ha⟩:=yu.mp (hp p zE (qbp hb));rw[ha]at hy';rw[eq_of_beq hyp,ha,<- hy'];rfl
   | false=>rw[hyp]at hy;exact h y d hy
  ·rw[Nv]at hy;exact h y d hy
theorem q4V{cells:kM}:∀(l:pB)(cs:kM)(x:Str),(Im∈l\/(cs.lookup x).isSome=true)->((W0 l cells cs).lookup x).isSome=true
 | [],cs,x,h=>by
  rcases h with h|h
  ·cases h
  ·exact h
 | p::r,cs,x,h=>by
  refine q4V r _ x ?_;rcases h with h|h
  ·rcases zH.mp h with rfl|h
   ·right
    show (List.lookup x (if (NameKind.free==NameKind.free)=true then _ else _)).isSome=true;rw[vF (by rfl),xF,beq_self_eq_true];rfl
   ·exact .inl h
  ·right
   by_cases hb:l9=true
   ·rw[UF,xF]
    cases hx:x==p.1 with
    | true=>rfl
    | false=>exact h
   ·rw[Nv];exact h
noncomputable def WX(X:Cx)(N:dN)(scope:ux)(C:vH)(s:vC)(H:Hp)(fp:dh):Cx :=
 { X with N:=N,s₀:=s,H₀:=H,env:=compEnvC scope oX C X.env,outer:=X.stack,stack:=X.stack,ex:=fp,fn:=λ_=>false,pn:=[],xe:=λ_ _=>False }
noncomputable def zCF(M:Nat)(frees:bT)(σ:St):St:=zn M none++frees.map λj=>(σ[j]?).getD none
structure BlkOk (X:Cx) (N:List Str) (M:Nat) (frees:List Nat) (scope:ux):Prop where
 kind:scope.kind=.function
 nocell:∀y∈scope.names,y.2≠.cell
 own:∀y∈scope.names,y.2=.local->scope.names.lookup y.1=some .local
 cells:∀p∈scope.names,p.2=NameKind.free->(X.env.cells.lookup p.1).isSome=true
 fr:∀(k:Nat)(x:Str),N[M+k]?=some x->∃j,frees[k]?=some j/\X.N[j]?=some x/\(X.env.kindOf x=some .cell\/X.env.kindOf x=some .free)/\scope.names.lookup x=some .free
 len:N.length=M+frees.length
theorem q35{env:Env}{x:Str}:∀{names:pB}{k:ua},(∀y∈names,y.2≠.cell)->(k=.cell\/k=.free) ->
  (names.map λ(n,k)=>if eZ then IA else (n,k)).lookup x=some k->Im∈names
 | [],_,_,_,h=>by cases h
 | (n,k0)::r,k,hc,hk,h=>by
  have ih:=@q35 env x r k (λy hy=>hc y VD) hk;rw[zI]at h
  by_cases hb:ma=true
  ·have hf:k0=NameKind.free:=qbp (by rw[yC,yC]at hb;exact hb.1.1)
   dsimp only at h
   rw[UF,xF]at h;cases hx:x==n with
   | true=>rw[eq_of_beq hx,hf];exact zE
   | false=>rw[hx]at h;exact zF _ (ih h)
  ·dsimp only at h
   rw[Nv,xF]at h;cases hx:x==n with
   | true=>
    rw[hx]at h;have e:k0=k:=zw h;have z:=hc (n,k0) zE;rw[eq_of_beq hx];rcases hk with rfl|rfl
    ·exact vO e z
    ·rw[e];exact zE
   | false=>rw[hx]at h;exact zF _ (ih h)
theorem q4X{env:Env}{x:Str}:∀{names:pB},names.lookup x=some .free ->
  (names.map λ(n,k)=>if eZ then IA else (n,k)).lookup x=some .cell \/
  (names.map λ(n,k)=>if eZ then IA else (n,k)).lookup x=some .free
 | [],h=>by cases h
 | (n,k0)::r,h=>by
  have ih:=@q4X env x r;rw[zI]
  dsimp only
  rw[xF]at h
  by_cases hb:ma=true
  ·rw[UF,xF]
   cases hx:x==n with
   | true=>exact .inl rfl
   | false=>rw[hx]at h;exact ih h
  ·rw[Nv,xF]
   cases hx:x==n with
   | true=>rw[hx]at h;exact .inr h
   | false=>rw[hx]at h;exact ih h
section
variable{X:Cx}{pins:List (vH×Obj)}{σ:St}{H:Hp}{s:vC}{N:List Str}{M:Nat}{frees:List Nat}{scope:ux}{fp:List vH}
theorem Inv.enter{h1:vk}{C D tk:Nat}{m1:bH}(I:aq)(B:jd)(f:∀b∈fp,Wo X pins H b)(lt:∀b∈fp,b<s.heap.objs.size)(hC:s.heap.objs.size<C)(hD:s.heap.objs.size<=D)(hDC:C≠D)(k:∀b u,s.heap.get? b=some u->h1.get? b=some u)(hns:h1.Ns C m1)(hl:h1.get? D=some { cls:=.type "list", data:=.seq ([]:List vB).toArray }):
  Inv aO [] B3 (upd H D gQ) { s with heap:=h1,toks:=tk }:=by
 have sub:=q5f (cells:=X.env.cells) scope.names [] B.cells (λx c e=>by cases e);have hfr:H D=none:=I.hok.fresh hD;have hfc:H C=none:=I.hok.fresh (ye hC);have clt:∀x c,(W0 scope.names X.env.cells []).lookup x=some c->c<s.heap.objs.size:=λx c e=>by
  obtain⟨v,q⟩:=I.cell x c Kh;exact q.lt
 refine⟨⟨I.ok.mod,B.kind,I.ok.glob,I.ok.blt,ye hC,λx y c e1 e2=>I.ok.inj x y c (sub x c e1) (sub y c e2),λx hx=>?_,λx c e=>vO e (by intro z;cases z),I.ok.hd,I.ok.frames,.inl rfl,λb hb=>?_,I.bs,yD I.ok.bsz I.sz,λb o e hb=>?_,
  λb hb hf=>?_,I.stack,I.stkFree⟩,rfl,I.bare,Un.laid k hD hfr,⟨m1,hns,S4⟩,λx c e=>?_,?_,λx c e=>?_,λp hp=>vO (show p∈Pe from hp) (by simp),I.hok.laid k hD ⟨B4,[],0,.nil,hl⟩,?_⟩
 ·have hm:Im∈scope.names:=by
   rcases hx with hx|hx
   ·exact q35 B.nocell bA hx
   ·exact q35 B.nocell HX hx
  exact yu.mp (q4V scope.names [] x (.inl hm))
 ·exact⟨zx (YI (lt b hb) hC),λx c e=>(f b hb).2.2.2.2.1 x c Kh⟩
 ·rcases (f b hb).2.2.2.1 with z|z
  ·exact I.ok.noex b o e z
  ·exact vO (z7 Dj (yD I.ok.bsz z)) Kf
 ·rcases zH.mp (I.stkSub b hf)with z|z
  ·exact(f b hb).2.1 z
  ·exact(f b hb).2.2.1 z
 ·have hi:M<=i:=by
   rcases yB i M with z|z
   ·unfold zCF at e2
    rw[zh ⇑z,yv,fQ]at e2;cases e2
   ·exact z
  obtain⟨q,rfl⟩:∃q,i=M+q:=⟨i-M,∅⟩;obtain⟨j,h1',h2',h3',h4'⟩:=B.fr q x e1;have ev:σ[j]?=some nh:=by
   unfold zCF at e2;rw[zd (by simp),yY,ZQ,ze,h1']at e2;cases e:σ[j]? with
   | none=>rw[xB,e]at e2;cases e2
   | some o=>rw[xB,e]at e2;exact e2
  obtain⟨m,hn,hl'⟩:=I.loc;have vis:Vis X.env.scope x:=by
   rcases h3' with z|z
   ·exact .inr Ps
   ·exact .inr (.inr z)
  obtain⟨u,ru,lk⟩:=hl' j x v h2' ev vis;refine⟨u,ru,.inr ?_⟩;rcases lk with⟨z,_⟩|⟨_,c,ec,ic⟩
  ·rcases h3' with y|y <;> (rw[z]at y;cases y)
  ·obtain⟨c',ec'⟩:=yu.mp (q4V (cells:=X.env.cells) scope.names [] x (.inl (PySem.mem_of_lookup h4')))
   have:c'=c:=zw ((sub x c' ec').symm.trans ec);subst this;exact⟨q4X h4',c',ec',ic.keeps k⟩
 ·obtain⟨v,q⟩:=I.cell x c Kh
  exact⟨v,q.keeps k⟩
 ·show upd H D gQ C=none
  rw[qd hDC];exact hfc
 ·show upd H D gQ c=none
  rw[qd (zx (z7 (clt x c e) hD))];exact I.freeC x c Kh
 ·show (zCF M frees σ).length=N.length
  unfold zCF;rw[zB,yY,zA,B.len]
end
section
variable{prog:vU}{w:vZ}{A:vf}{R:sI->vC->Prop}{s:vC}
theorem qb1{elt target iter:vW}{ifs:iN}{scope:ux}{pos:Pos}{it acc:vB}{env:Env}(J:Nat->vC->Prop)(turn:∀n s,J n s->vP ak A (uU it) (λr s1=>match r with
   | none=>R RG s1
   | some v=>vP ak A (u7 target it v) (λ_ s2=>vP ak A (assign target env v) (λ_ s3=>
     vP ak A (forIn ifs true λc r=>if r=true then do let ok <- si c env (eval c env);pure RD else pure Gn) (λok s4=>
      if ok=true then vP ak A (eval elt env) (λx s5=>vP ak A (call (.builtin "list.append") [acc,x]) (λ_ s6=>∃m,m<n/\J m s6) oH s5) oH s4
      else ∃m,m<n/\J m s4) oH s3) oH s2) oH s1) oH s)
  (n:Nat) (h:J n s):uc ak A (.compLoop jn 0 it acc env) R s:=by
 refine codeAny_loop rfl J (λn s hJ=>?_) n h;show vP _ A ((compTurn jn 0 it acc env).onRaise (λx=>do noteFrame x env;theTreesLotGoes x)) _ _ s;refine wpAny_noted (vt (Q:=λfin s'=>match fin with|.done f=>R Vk s'|.again c'=>c'=.compLoop jn 0 it acc env/\∃m,m<n/\J m s') ?_ (λ_ _ q=>q) λ_ _ (z:False)=>z.elim);rw[compTurn_list];refine vA (sG (vA (vt (turn n s hJ) (λr s1 h1=>?_) λ_ _ q=>q)));cases r with
 | none=>exact vJ h1
 | some v=>
  refine vA (vt h1 (λ_ s2 h2=>vA (vt h2 (λ_ s3 h3=>vA (vt h3 (λok s4 h4=>?_) λ_ _ q=>q)) λ_ _ q=>q)) λ_ _ q=>q);cases ok with
  | false=>exact vJ ⟨rfl,h4⟩
  | true=>exact vA (vA (vt h4 (λx s5 h5=>vA (vt h5 (λ_ s6 h6=>vJ (vJ ⟨rfl,h6⟩)) λ_ _ q=>q)) λ_ _ q=>q))
end
def PTs(X:Cx)(ifs:iN)(t:TT):Prop :=
 ∀(pins:ay)(s:vC)(σ:St)(H:Hp)(Q:jt),Inv X pins σ H s->t σ H Q ->
  vP ao X.A (forIn ifs true λc r=>if r=true then do let ok <- si c X.env (eval c X.env);pure RD else pure Gn) Cj X.xe s
theorem qi1{X:Cx}:PTs X [] (λ_ H Q=>Q true H):=λ_ _ _ H _ I q=>wpAny_tests_nil Ln
theorem qij{X:Cx}{c:vW}{t:TT}(h:PT X c t):PTs X [c] t:=λpins s σ H Q I q=>wpAny_tests_one (h pins s σ H Q I q)
noncomputable def zCw(M:Nat)(frees:bT)(wi:TI)(g:TG)(tc:TT)(te:TE):TE:=λσ H Q=>wi σ H λJ H1=>∀D,H1 D=none ->
 ∃W:Nat->Nat->St->Hp->Prop,(∃m,W 0 m B3 (upd H1 D gQ))/\∀i m σ' H',W i m σ' H' ->
  Pm\/(J.go i H'/\∀x H2,J.yld i H' x H2->g x σ' H2 λσ2 H3=>tc σ2 H3 λb H4=>
   if b=true then te σ2 H4 λv H5=>∃acc,H5 D=some (.lst acc)/\acc.length<sizeLine/\∃m',m'<m/\W (i+1) m' σ2 KH
   else ∃m',m'<m/\W (i+1) m' σ2 H4)
section
variable{X:Cx}{N:List Str}{M:Nat}{frees:List Nat}{scope:ux}{tg iter elt:vW}{ifs:List vW}{pos:Pos}{wi:TI}{g:TG}{tc:TT}{te:TE}
theorem q9p(hc:cE)(B:jd)(hb:∀C s H fp,PG aO tg g/\PTs aO ifs tc/\PE aO elt te){pins:ay}{σ:St}{Q:VK}{s2:vC}{itv:vB}{E:aM}{RR:vB->vH->sI->vC->Prop}(h2:PIE X pins σ tg (λJ H1=>∀D,H1 D=none ->
   ∃W:Nat->Nat->St->Hp->Prop,(∃m,W 0 m B3 (upd H1 D gQ))/\∀i m σ' H',W i m σ' H' ->
    Pm\/(J.go i H'/\∀x H2,J.yld i H' x H2->g x σ' H2 λσ2 H3=>tc σ2 H3 λb H4=>
     if b=true then te σ2 H4 λv H5=>∃acc,H5 D=some (.lst acc)/\acc.length<sizeLine/\∃m',m'<m/\W (i+1) m' σ2 KH
     else ∃m',m'<m/\W (i+1) m' σ2 H4)) itv s2)
  (hR:∀D C s' H' m,Inv X pins σ H' s'->Q HV H'->s'.heap.Ns C m->H' C=none->C≠X.env.locals->X.s₀.heap.objs.size<=C->(∀x c,X.env.cells.lookup x=some c->c≠C)->(∀p∈X.pn++pins,p.1≠C)->RR HV C RG s') :
  vP ao X.A (newList []) (λacc s3=>vP ao X.A (newFunctionEnv scope X.env.globals oX [] X.env.qual none .none (some X.env)) (λcenv s4=>
   uc ao X.A (.compStart bo 0 itv acc { cenv with scope:=relabel scope X.env }) (RR acc cenv.locals) s4) E s3) E s2:=by
 obtain⟨it,fp,tn,J,H2,e,I2,T,st2,f2,q⟩:=h2;subst e;refine vo (wpAny_newFunctionEnv B.nocell (by intro y hy;simp at hy) (λh1 hns hsb=>?_) B.kind)
 dsimp only at hns hsb ⊢
 generalize hP:s2.heap.push { cls:=.type "list", dict:=none,data:=.seq ([]:List vB).toArray }=P1 at hns hsb ⊢;have hsz:P1.objs.size=s2.heap.objs.size+1:=by rw[<- hP,yh]
 have below:∀b,b<s2.heap.objs.size->b≠P1.objs.size:=λb z=>by rw[hsz];exact zx (yX z)
 have keep:∀b u,s2.heap.get? b=some u->h1.get? b=some u:=λb u z=>hsb.extBut b u (below b (zS z)) (zG _ (hP▸zG _ z));have hne:s2.heap.objs.size≠P1.objs.size:=by rw[hsz];exact zx Te
 have hl:h1.get? s2.heap.objs.size=some { cls:=.type "list", data:=.seq ([]:List vB).toArray }:=hsb.extBut _ _ hne (zG _ (hP▸zY _ rfl));have lt2:∀b∈fp,b<s2.heap.objs.size:=λb z=>by
  obtain⟨o,eo,_⟩:=T.obj _ _ st2 b z;exact zS eo
 have hD0:H2 s2.heap.objs.size=none:=I2.hok.fresh bZ;obtain⟨W,⟨m0,w0⟩,turn⟩:=q s2.heap.objs.size hD0;have I4:=I2.enter (N:=N) (M:=M) (frees:=frees) (scope:=scope) (fp:=fp) (h1:=h1) (C:=P1.objs.size) (D:=s2.heap.objs.size) (tk:=s2.toks+([]:List OF).length) B f2 lt2 (by rw[hsz];exact yi _) bZ (Ne.symm hne) keep hns hl;have hcx:∀(C:vH),(WX X N scope C s2 H2 fp).calm=true:=λ_=>hc;have stat:∀{H':Hp},(∀b∈fp,H' b=none)->∀b∈fp,Wo cC [] H' b:=λ{H'} hn b z=>by
  refine⟨hn b z,below b (lt2 b z),λy=>?_,Ps,λx c y=>?_,λp y=>vO (show p∈Pe from y) (by simp)⟩
  ·rcases zH.mp (I2.stkSub b y)with u|u
   ·exact(f2 b z).2.1 u
   ·exact(f2 b z).2.2.1 u
  ·exact(f2 b z).2.2.2.2.1 x c (q5f (cells:=X.env.cells) scope.names [] B.cells (λx c e=>by cases e) x c y)
 have fr4:∀b∈fp,(upd H2 s2.heap.objs.size (HO.lst [])) b=none:=λb z=>by
  rw[qd (zx (lt2 b z))];exact(f2 b z).1
 have st4:tn 0 h1:=T.keep _ _ _ st2 λb _ o z=>keep b o z;have fin:∀(s':vC)(σ':St)(H':Hp),Inv cC [] σ' H' s'->Q iq H'->RR iq P1.objs.size RG s':=λs' σ' H' I' q'=>by
  obtain⟨m,hm,_⟩:=I'.loc;have u':Un NJ fp H2 H' s2.heap s'.heap:=I'.base;have I0:Inv X pins σ H' s':=I2.call' (ch:=fp) I'.os u' I'.hok I'.bare λb z=>⟨(f2 b z).2.2.2.1,(f2 b z).2.1,(f2 b z).2.2.2.2.1,(f2 b z).2.2.2.2.2⟩;refine hR _ _ s' H' m I0 q' hm I'.free (wC (z7 I2.lt (by rw[hsz];exact yz _))) (yD I2.sz (by rw[hsz];exact yz _)) (λx c z=>?_) λp z=>?_
  ·obtain⟨v,y⟩:=I2.cell x c z
   exact below c y.lt
  ·exact below p.1 (zS (I2.pin p z).1)
 have loop:∀s4:vC,s4={ s2 with heap:=h1,toks:=s2.toks+([]:List OF).length } ->
   uc ao X.A (.compLoop bo 0 iD iq (compEnvC scope oX P1.objs.size X.env)) (RR iq P1.objs.size) s4:=by
  rintro s4 rfl;refine qb1 (λn s'=>∃i σ' H',Inv cC [] σ' H' s'/\tn i s'.heap/\(∀b∈fp,H' b=none)/\W i n σ' H') ?_ m0 ⟨0,_,_,I4,st4,fr4,w0⟩;rintro n s5 ⟨i,σ5,H5,I5,st5,fr5,w5⟩;rcases turn i n σ5 H5 w5 with⟨stop,qn⟩|⟨go,step⟩
  ·refine thn (T.done cC rfl rfl rfl hc i [] s5 σ5 H5 _ I5 Tl st5 stop) λr s6 ⟨hr,I6⟩=>?_
   subst hr;exact fin s6 σ5 H5 I6 qn
  ·refine thn (T.item cC rfl rfl rfl hc i [] s5 σ5 H5 _ I5 Tl st5 go) λr s6 ⟨u,hr,h6⟩=>?_
   subst hr;refine thn h6 λ_ s7 ⟨x,H7,I7,r7,y7,st7,fr7⟩=>?_;have I7':=I7.pinned (stat fr7) (T.obj _ _ st7);have B7:=hb P1.objs.size s2 H2 fp;refine thn (B7.1 _ s7 σ5 H7 x u _ I7' r7 (step x H7 y7)) λ_ s8 ⟨σ8,H8,I8,q8⟩=>?_;refine thn (B7.2.1 _ s8 σ8 H8 _ I8 q8) λok s9 ⟨H9,I9,q9⟩=>?_;have again:∀{σa:St}{Ha:Hp}{sa:vC},Inv cC ([]++zAh fp s7.heap) σa Ha sa->(∃m',m'<n/\W (i+1) m' σa Ha) ->
     ∃m,m<n/\∃i σ' H',Inv cC [] σ' H' sa/\tn i sa.heap/\(∀b∈fp,H' b=none)/\W i m σ' H':=λ{σa Ha sa} Ia ⟨m',hm,wa⟩=>by
    refine⟨m',hm,i+1,σa,Ha,Ia.unpinned,T.keep _ _ _ st7 λb z o eo=>(Ia.pin (b,o) Np).1,λb z=>?_,wa⟩;obtain⟨o,eo,d⟩:=T.obj _ _ st7 b z;exact(Ia.pin (b,o) Np).2.1
   cases ok with
   | false=>exact again I9 q9
   | true=>
    rw[jQ];refine thn (B7.2.2 _ s9 σ8 H9 _ I9 q9) λy s10 ⟨v,H10,I10,r10,acc,ha,hz,m',hm,wn⟩=>?_;refine thn (q0T (X:=WX X N scope P1.objs.size s2 H2 fp) _ s10 σ8 H10 iq [v] iq [y] (λ_ Hn=>∃m',m'<n/\W (i+1) m' σ8 Hn) I10 rfl (.cons r10 .nil) ⟨_,acc,v,rfl,rfl,ha,hz,m',hm,wn⟩) λ_ s11 ⟨_,H11,I11,_,q11⟩=>?_;exact again I11 q11
 exact codeAny_compStart_list (loop _ rfl) (T.self _ 0 _ _ _ st4 (loop _ rfl))
theorem qip(hc:cE)(B:jd)(hi:MI)(hb:∀C s H fp,PG aO tg g/\PTs aO ifs tc/\PE aO elt te)(hs:∀x,v9 iter X.env x=pure x:=by intro _;rfl):PE X bo Bq:=by
 intro pins s σ H Q I h;rw[eval_ListComp];refine tM (use:=none) rfl hs (q4H B.cells) B.kind B.own ky;refine q9p (RR:=λacc C=>compPost ao X.A X.xe none cv acc C) hc B hb h2 λD C s' H' m I' q' hm hC h1 h3 h4 h5=>?_;exact⟨m,hm,λh' hs'=>⟨HV,H',I'.turned (t':=s'.toks) IX hC h1 (.inr h3) h4 h5,rfl,q'⟩⟩
theorem qiV{i:Nat}{x:Str}{pos' spos:Pos}(hc:cE)(hN:X.N.Nodup)(hi':X.N[i]?=some x)(hx:FV)(B:jd)(hi:MI)(hb:∀C s H fp,PG aO tg g/\PTs aO ifs tc/\PE aO elt te)(hsw:Em:=by rfl)(hs:∀x,v9 iter X.env x=pure x:=by intro _;rfl):PS X Px (zBE Bq (WU i)):=by
 intro pins s σ H D I h;rw[exec_Assign_Name_used _ _ _ _ hsw];refine vA (sG (vA ?_));show vP _ X.A (do let _ <- comprehension (.ListComp elt [⟨tg,iter,ifs,0⟩] scope pos) scope X.env _ (newList []) false (eval iter X.env) (some (assign (.Name x pos') X.env))) _ _ s;refine vA (vt (tM (use:=some U7) (Q:=λ_ s'=>SP X pins D .next s') rfl hs (q4H B.cells) B.kind B.own
  ky) (λ_ s' hq=>vJ (vJ hq)) λ_ _ q=>q)
 refine q9p (Q:=λy H1=>WU i y σ H1 D.nx) (RR:=λacc C=>compPost ao X.A X.xe (some U7) (λ_ s'=>SP X pins D .next s') acc C) hc B hb h2 λDd C s' H' m I' q' hm hC h1 h3 h4 h5=>?_;show vP _ X.A (assign cF X.env (.ref Dd)) _ _ _;refine wpAny_assign_Name (q8h I' hN hi' (.inl hx) (v:=.ref Dd) (u:=.ref Dd) rfl (λs'' I'' ⟨a,hsb,ha⟩=>?_) (.inr hx));have hCa:C≠a:=by
  rcases ha with rfl|ha
  ·exact h1
  ·exact Ne.symm (h4 x a ha)
 refine⟨m,hm.sameBut hsb hCa,λh' hs'=>⟨_,H',I''.turned (t':=s''.toks) IX hC h1 (.inr h3) h4 h5,q'⟩⟩
end
end L2
namespace Hk
open PySem L2
inductive D where
 | non|bl (b:Bool)|int (i:Int)|str (x:Str)|lst (xs:List D)|tup (xs:List D)|scr (ns:List Int)|exc (c:Str)|dic (ks:List Int) (xs:List D)
noncomputable def kvsOf:List Int->List V->List Ry
 | k::ks,v::vs=>(.inl k,v)::kvsOf ks vs
 | _,_=>[]
def excP(a C:vH)(h:vk):Prop:=∃o,h.get? a=some o/\o.cls=.ref C
mutual
def Rep(K:zC)(H:Hp):D->V->Prop
 | .non,v=>v=.non
 | .bl b,v=>v=.bl b
 | .int i,v=>v=.int i
 | .str x,v=>v=.str x
 | .lst ds,v=>∃a vs,v=.ref a/\H a=some gP/\XN K H ds vs
 | .tup ds,v=>∃a vs,v=.ref a/\H a=some OI/\XN K H ds vs
 | .scr ns,v=>∃a,v=.ref a/\SqL K H a cc
 | .exc c,v=>∃a C,v=.ref a/\yZ K vY c=some (some (.ref C))/\H a=some (.ext (excP a C))
 | .dic ks ds,v=>∃a vs,v=.ref a/\(∃o,H a=some (.frz o Jq))/\ks.length=ds.length/\XN K H ds vs
def XN(K:zC)(H:Hp):List D->List V->Prop
 | [],vs=>vs=[]
 | d::ds,vs=>∃v r,vs=v::r/\Rep K H d v/\XN K H ds r
end
mutual
theorem Rep.mono{K:zC}{H H':Hp}(e:NR):∀{d:D}{v:V},Rep K H d v->Rep K H' d v
 | .non,_,h=>h
 | .bl _,_,h=>h
 | .int _,_,h=>h
 | .str _,_,h=>h
 | .lst _,_,⟨a,vs,h1,h2,h3⟩=>HC
 | .tup _,_,⟨a,vs,h1,h2,h3⟩=>HC
 | .scr _,_,⟨a,h1,h2⟩=>⟨a,h1,e.seq h2⟩
 | .exc _,_,⟨a,C,h1,h2,h3⟩=>⟨a,C,h1,h2,e _ _ h3⟩
 | .dic _ _,_,⟨a,vs,h1,⟨o,h2⟩,h4,h3⟩=>⟨a,vs,h1,⟨o,e _ _ h2⟩,h4,Rk⟩
theorem XN.mono{K:zC}{H H':Hp}(e:NR):∀{ds:aW}{vs:a8},XN K H ds vs->XN K H' ds vs
 | [],_,h=>h
 | _::_,_,⟨v,r,h1,h2,h3⟩=>⟨v,r,h1,Rep.mono e h2,Rk⟩
end
section
variable{K:zC}{H:Hp}
theorem XN.nil:XN K H [] []:=rfl
theorem XN.cons{d:D}{ds:aW}{v:V}{vs:a8}(h:Rep K H d v)(t:AE):XN K H (d::ds) (v::vs):=⟨v,vs,rfl,h,t⟩
theorem XN.len:∀{ds:aW}{vs:a8},XN K H ds vs->ds.length=vs.length
 | [],_,h=>by cases (show _=_ from h);rfl
 | _::_,_,⟨v,r,h1,_,h3⟩=>by rw[h1,zJ,zJ,XN.len h3]
theorem XN.app:∀{ds es:aW}{vs us:a8},XN K H ds vs->XN K H es us->XN K H (ds++es) (vs++us)
 | [],_,_,_,h,t=>by cases (show _=_ from h);exact t
 | _::_,_,_,_,⟨v,r,h1,h2,h3⟩,t=>by rw[h1];exact⟨v,_,rfl,h2,XN.app h3 t⟩
theorem XN.get:∀{ds:aW}{vs:a8}{i:Nat}{d:D},XN K H ds vs->ds[i]?=some d->∃v,vs[i]?=some v/\Rep K H d v
 | [],_,_,_,_,e=>by simp at e
 | _::_,_,0,_,⟨v,r,h1,h2,h3⟩,e=>by simp at e;subst e;rw[h1];exact⟨v,rfl,h2⟩
 | _::_,_,i+1,d,⟨v,r,h1,h2,h3⟩,e=>by
  obtain⟨u,e1,e2⟩:=XN.get (i:=i) (d:=d) h3 ⇑e;exact⟨u,by rw[h1];simpa using e1,e2⟩
theorem XN.take:∀{ds:aW}{vs:a8}(n:Nat),XN K H ds vs->XN K H (ds.take n) (vs.take n)
 | _,_,0,_=>rfl
 | [],_,_+1,h=>by cases (show _=_ from h);rfl
 | _::_,_,n+1,⟨v,r,h1,h2,h3⟩=>by rw[h1];exact⟨v,_,rfl,h2,XN.take n h3⟩
theorem XN.drop:∀{ds:aW}{vs:a8}(n:Nat),XN K H ds vs->XN K H (ds.drop n) (vs.drop n)
 | _,_,0,h=>h
 | [],_,_+1,h=>by cases (show _=_ from h);rfl
 | _::_,_,n+1,⟨v,r,h1,h2,h3⟩=>by rw[h1];exact XN.drop n h3
theorem XN.ints:∀(ns:af),XN K H cY cc
 | []=>rfl
 | n::r=>⟨Eu,_,rfl,rfl,XN.ints r⟩
theorem XN.of_ints:∀{ns:af}{vs:a8},XN K H cY vs->vs=ns.map V.int
 | [],_,h=>h
 | n::r,_,⟨v,vs,h1,h2,h3⟩=>by
  have:=XN.of_ints h3;have e:v=.int n:=h2;rw[h1,this,e];rfl
theorem XN.one{d:D}{vs:a8}(h:XN K H [d] vs):∃v,vs=[v]/\Rep K H d v:=by
 obtain⟨v,r,h1,h2,h3⟩:=h;cases (show r=[]from h3);exact⟨v,h1,h2⟩
theorem XN.two{d e:D}{vs:a8}(h:XN K H [d,e] vs):∃v u,vs=[v,u]/\Rep K H d v/\Rep K H e u:=by
 obtain⟨v,r,h1,h2,h3⟩:=h;obtain⟨u,rfl,h4⟩:=XN.one h3;exact Vt
end
structure Ext (G H G' H':Hp):Prop where
 gg:Xf G G'
 gh:Xf G' H'
 hh:Xf H H'
 new:∀b,G b=none->H b≠none->G' b=none
theorem Ext.refl{G H:Hp}(h:BF):Ext G H G H:=⟨gC,h,gC,λ_ e _=>e⟩
theorem Ext.trans{G H G1 H1 G2 H2:Hp}(a:Ext G H G1 H1)(b:Ext G1 H1 G2 H2):Ext G H G2 H2:=by
 refine⟨a.gg.trans b.gg,b.gh,a.hh.trans b.hh,λc h1 h2=>?_⟩;have e1:=a.new c h1 h2;refine b.new c e1 λz=>h2 ?_;exact a.hh.free z
theorem X8{H:Hp}{p:vH}(h:H p=none)(o:HO):Xf H Ey:=λb u q=>by rw[qd (q0A q h)];exact q
theorem zAn{G H:Hp}{p:vH}(e:BF)(o:HO):Xf (upd G p o) Ey:=λb u q=>by
 by_cases z:b=p
 ·subst z;rw[qe]at q ⊢;exact q
 ·rw[qd z]at q ⊢;exact e b u q
theorem Xg{G H:Hp}{p:vH}(e:BF)(h:Uh)(o:HO):Xf G Ey:=λb u q=>by rw[qd (q0A q h)];exact e b u q
theorem Ext.lay{G H:Hp}{p:vH}(e:BF)(h:H p=none)(o:HO):Ext G H (upd G p o) Ey:=by
 have g:G p=none:=e.free h;refine⟨X8 g o,zAn e o,X8 h o,λb h1 h2=>?_⟩
 by_cases z:b=p
 ·subst z;exact vO h h2
 ·rw[qd z];exact h1
theorem Ext.hide{G H:Hp}{p:vH}(e:BF)(h:H p=none)(o:HO):Ext G H G Ey :=
 ⟨gC,Xg e (e.free h) o,X8 h o,λ_ z _=>z⟩
inductive W where
 | sh (d:D)|ow (ds:List D)|od (ks:List Int) (ds:List D)|pw (ds:List D)
noncomputable abbrev WSt:=List cb
structure Fr where
 hp:Hp
 pin:Nat->vH
noncomputable instance:CoeFun Fr λ_=>Hp:=⟨Fr.hp⟩
noncomputable instance:Coe Fr Hp:=⟨Fr.hp⟩
noncomputable def fr(H:Hp):Fr:=⟨H,λ_=>0⟩
def WC(K:zC)(F:Fr)(G:Hp)(ω:WSt)(σ:St)(H:Hp):Prop:=∀(i:Nat)ds,ω[i]?=some KJ->∃vs,σ[i]?=some V9/\H JY=some gP/\G JY=none/\F.hp JY=none/\XN K G ds vs /\
 (∀(j:Nat)es,ω[j]?=some k9->F.pin j=F.pin i->j=i)/\∀(j:Nat)es,ω[j]?=some Dn->σ[j]?≠some V9
theorem WC.keep{K:zC}{F:Fr}{G G':Hp}{ω:WSt}{σ:St}{H H':Hp}(o:WC K F G ω σ H)(e:Cm):WC K F G' ω σ H':=λi ds h=>by
 obtain⟨vs,h1,h2,h3,h4,h5,h6⟩:=o i ds h;exact⟨vs,h1,Lx,e.new _ h3 (by rw[h2];exact λz=>by cases z),h4,Q8,h6⟩
theorem WC.no{K:zC}{F:Fr}{G:Hp}{ω:WSt}{σ:St}{H:Hp}(h:∀(i:Nat)ds,ω[i]?≠some KJ):WC K F G ω σ H:=λi ds e=>vO e (h i ds)
structure Own (K:zC) (G0:Hp) (H0:Fr) (G:Hp) (ω:WSt) (σ:St) (H:Hp):Prop where
 ext:Ext G0 H0.hp G H
 len:ω.length=σ.length
 sh:∀(i:Nat)d,ω[i]?=some ↥d->∃v,σ[i]?=some (some v)/\Rep K G d v
 ow:∀(i:Nat)ds,ω[i]?=some (some (.ow ds))->∃l vs,σ[i]?=some (some (.ref l))/\H l=some (.lst vs)/\G l=none/\H0 l=none/\XN K G ds vs
 nd:∀(i j:Nat)ds es l,ω[i]?=some (some (.ow ds))->ω[j]?=some (some (.ow es))->σ[i]?=some (some (.ref l))->σ[j]?=some (some (.ref l))->i=j
 od:∀(i:Nat)ks ds,ω[i]?=some (some (.od ks ds))->∃p vs,σ[i]?=some (some (.ref p))/\H p=some (.dK (kvsOf ks vs))/\G p=none/\H0 p=none/\ks.length=ds.length/\XN K G ds vs /\
  ∀(j:Nat)ks' es,ω[j]?=some (some (.od ks' es))->σ[j]?=some (some (.ref p))->i=j
 pw:WC K H0 G ω σ H
inductive R where
 | sh (d:D)|fr (ds:List D)|vw (ds:List D)
noncomputable def R.d:R->D
 | .sh d=>d
 | .fr ds=>.lst ds
 | .vw ds=>.lst ds
def zCN(K:zC)(H G' H':Hp):R->V->Prop
 | .sh d,v=>Rep K G' d v
 | .fr ds,v=>∃l vs,v=.ref l/\H l=none/\G' l=none/\H' l=some gP/\XN K G' ds vs
 | .vw ds,v=>∃l vs,v=.ref l/\H' l=some gP/\XN K G' ds vs
def Vw(K:zC)(G H:Hp)(d:D)(v:V):Prop:=Rep K G d v\/∃ds l vs,d=.lst ds/\v=.ref l/\H l=some gP/\XN K G ds vs
theorem Own.keep{K:zC}{G0:Hp}{H0:Fr}{G G':Hp}{ω:WSt}{σ:St}{H H':Hp}(o:bS)(e:Cm):Own K G0 H0 G' ω σ H':=by
 refine⟨o.ext.trans e,o.len,Lp,λi ds h=>?_,o.nd,λi ks ds h=>?_,o.pw.keep e⟩
 ·obtain⟨v,h1,h2⟩:=o.sh i d h
  exact⟨v,h1,h2.mono e.gg⟩
 ·obtain⟨l,vs,h1,h2,h3,h4,h5⟩:=o.ow i ds h
  exact⟨l,vs,h1,Lx,e.new l h3 (by rw[h2];exact λz=>by cases z),h4,Q8⟩
 ·obtain⟨l,vs,h1,h2,h3,h4,h6,h5,h7⟩:=o.od i ks ds h
  exact⟨l,vs,h1,Lx,e.new l h3 (by rw[h2];exact λz=>by cases z),h4,h6,Q8,h7⟩
theorem Own.gh{K:zC}{G0:Hp}{H0:Fr}{G:Hp}{ω:WSt}{σ:St}{H:Hp}(o:bS):Xf G H:=o.ext.gh
noncomputable abbrev FE:=WSt->Option R
noncomputable abbrev FD:=WSt->Option D
noncomputable abbrev FT:=WSt->Option Bool
noncomputable abbrev FA:=WSt->Option aW
def zC9(K:zC)(t:TE)(f:FE):Prop:=∀G0 H0 G ω σ H r(Q:VK),Own K G0 H0 G ω σ H->f ω=some r ->
 (∀v G' H',Ext G H G' H'->zCN K H G' H' r v->Q v H')->t σ H Q
def zBs(K:zC)(t:TE)(f:FD):Prop:=∀G0 H0 G ω σ H d(Q:VK),Own K G0 H0 G ω σ H->f ω=some d ->
 (∀v G' H',Ext G H G' H'->Rep K G' d v->Q v H')->t σ H Q
def SimV(K:zC)(t:TE)(f:FD):Prop:=∀G0 H0 G ω σ H d(Q:VK),Own K G0 H0 G ω σ H->f ω=some d ->
 (∀v G' H',Ext G H G' H'->Vw K G' H' d v->Q v H')->t σ H Q
def zBQ(K:zC)(t:TT)(f:FT):Prop:=∀G0 H0 G ω σ H b(Q:jt),Own K G0 H0 G ω σ H->f ω=some b ->
 (∀G' H',Ext G H G' H'->Q b H')->t σ H Q
def SimA(K:zC)(t:TA)(f:FA):Prop:=∀G0 H0 G ω σ H ds(Q:mP),Own K G0 H0 G ω σ H->f ω=some ds ->
 (∀vs G' H',Ext G H G' H'->XN K G' ds vs->Q vs H')->t σ H Q
def XE(X:Cx)(e:vW)(f:FE):Prop:=∃t,PE X e t/\zC9 X.K t f
def XD(X:Cx)(e:vW)(f:FD):Prop:=∃t,PE X e t/\zBs X.K t f
def XV(X:Cx)(e:vW)(f:FD):Prop:=∃t,PE X e t/\SimV X.K t f
def XT(X:Cx)(e:vW)(f:FT):Prop:=∃t,PT X e t/\zBQ X.K t f
def XW(X:Cx)(e:vW)(f:FT):Prop:=∃t,PW X e t/\zBQ X.K t f
def XA(X:Cx)(es:iN)(f:FA):Prop:=(∃t,PA X es t/\SimA X.K t f)/\∀ω ds,f ω=some ds->ds.length=es.length
noncomputable def eOf(f:FD):FE:=λω=>(f ω).map R.sh
noncomputable def dOf(f:FE):FD:=λω=>match f ω with
 | ↥d=>some d
 | some (.fr ds)=>some eS
 | _=>none
noncomputable def vOf(f:FE):FD:=λω=>(f ω).map R.d
section
variable{X:Cx}{e:vW}
theorem XD.toE{f:FD}(h:NW):XE X e (eOf f):=by
 obtain⟨t,h1,h2⟩:=h;refine⟨t,h1,ca⟩;unfold eOf at e;cases q:f ω with
 | none=>rw[q]at e;cases e
 | some d=>rw[q]at e;cases e;exact h2 G0 H0 G ω σ H d Q o q k
theorem XE.toD{f:FE}(h:XE X e f):XD X e (dOf f):=by
 obtain⟨t,h1,h2⟩:=h;refine⟨t,h1,eY⟩;unfold dOf at e;cases q:f ω with
 | none=>rw[q]at e;cases e
 | some r=>
  rw[q]at e;cases r with
  | sh d'=>cases e;exact h2 G0 H0 G ω σ H _ Q o q k
  | fr ds=>
   cases e;refine h2 G0 H0 G ω σ H _ Q o q λv G' H' x ⟨l,vs,e1,e2,e3,e4,e5⟩=>?_;have s1:Xf G' (upd G' l gP):=X8 e3 _;refine k v (upd G' l gP) H' ⟨x.gg.trans s1,QG,x.hh,HG⟩ ⟨l,vs,e1,qe,e5.mono s1⟩
   ·by_cases hb:b=l
    ·subst hb;rw[qe]at z;rw[e4];exact z
    ·rw[qd hb]at z;exact x.gh b u z
   ·rw[qd (λhb=>z2 (by rw[hb];exact e2))];exact x.new b z1 z2
  | vw ds=>cases e
theorem XE.toV{f:FE}(h:XE X e f):XV X e (vOf f):=by
 obtain⟨t,h1,h2⟩:=h;refine⟨t,h1,eY⟩;unfold vOf at e;cases q:f ω with
 | none=>rw[q]at e;cases e
 | some r=>
  rw[q]at e;have e':r.d=d:=zw e;subst e';refine h2 G0 H0 G ω σ H r Q o q λv G' H' x y=>k v G' H' x ?_;cases r with
  | sh d'=>exact .inl y
  | fr ds=>obtain⟨l,vs,e1,e2,e3,e4,e5⟩:=y;exact .inr ⟨ds,l,vs,rfl,e1,e4,e5⟩
  | vw ds=>obtain⟨l,vs,e1,e2,e3⟩:=y;exact .inr ⟨ds,l,vs,rfl,e1,e2,e3⟩
theorem XD.toV{f:FD}(h:NW):XV X e f:=by
 obtain⟨t,h1,h2⟩:=h;exact⟨t,h1,λG0 H0 G ω σ H d Q o e k=>h2 G0 H0 G ω σ H d Q o e λv G' H' x y=>k v G' H' x (.inl y)⟩
end
noncomputable def Y3(i:Nat):FE:=λω=>match ω[i]? with
 | some ↥d=>↥d
 | some (some (.ow ds))=>some Jo
 | some (some (.pw ds))=>some Jo
 | _=>none
noncomputable def fC(d:D):FD:=λ_=>some d
section
variable{X:Cx}
theorem zBq{e:vW}(i:Nat)(h:PE X e M8):XE X e (Y3 i):=by
 refine⟨_,h,ca⟩;unfold Y3 at e;cases q:ω[i]? with
 | none=>rw[q]at e;cases e
 | some w=>
  rw[q]at e;cases w with
  | none=>cases e
  | some w=>
   cases w with
   | sh d=>
    cases e;obtain⟨v,h1,h2⟩:=o.sh i d q;exact⟨v,h1,k v G H lu h2⟩
   | ow ds=>
    cases e;obtain⟨l,vs,h1,h2,h3,h4,h5⟩:=o.ow i ds q;exact⟨_,h1,k _ G H lu ⟨l,vs,rfl,h2,h5⟩⟩
   | od ks ds=>cases e
   | pw ds=>
    cases e;obtain⟨vs,h1,h2,h3,h4,h5,_⟩:=o.pw i ds q;exact⟨_,h1,k _ G H lu ⟨_,vs,rfl,h2,h5⟩⟩
theorem xd_c{e:vW}{v:V}{d:D}(h:PE X e (tC v))(hr:∀K H,Rep K H d v):XD X e (fC d):=by
 refine⟨_,h,ca⟩;cases e;exact k v G H lu (hr _ _)
theorem Y4{i j pos}:XD X RK (fC gc):=xd_c qja λ_ _=>rfl
theorem WD{b j pos}:XD X LJ (fC IW):=xd_c qkw λ_ _=>rfl
theorem Wy{x j pos}:XD X RL (fC GN):=xd_c qj5 λ_ _=>rfl
end
theorem bnd{α β:Type}{o:Option α}{f:α->Option β}{r:β}(h:o.bind f=some r):∃a,o=some a/\f a=some r:=Option.bind_eq_some_iff.mp h
theorem mpd{α β:Type}{o:Option α}{f:R4}{r:β}(h:o.map f=some r):∃a,o=some a/\f a=r:=wO.mp h
noncomputable def XF:FA:=λ_=>some []
noncomputable def Y2(f:FD)(g:FA):FA:=λω=>(f ω).bind λd=>(g ω).map λds=>d::ds
section
variable{X:Cx}{e:vW}{es:List vW}
theorem Y5:XA X [] XF:=⟨⟨_,qx,λG0 H0 G ω σ H ds Q o e k=>by cases e;exact k [] G H lu rfl⟩,λω ds e=>by cases e;rfl⟩
theorem Y1{f:FD}{g:FA}(h:NW)(hr:XA X es g)(hs:aQ:=by rfl):XA X jK (Y2 f g):=by
 obtain⟨t,h1,h2⟩:=h;obtain⟨⟨u,h3,h4⟩,h5⟩:=hr;refine⟨Ai,λω ds e=>?_⟩
 ·obtain⟨d,q,e⟩:=bnd e
  obtain⟨r,q2,e⟩:=mpd e;subst e;refine h2 G0 H0 G ω σ H d _ o q λv G1 H1 x1 y1=>?_;refine h4 G0 H0 G1 ω σ H1 r _ g9 q2 λvs G2 H2 x2 y2=>?_;exact k _ G2 H2 eC (XN.cons LT y2)
 ·obtain⟨d,q,e⟩:=bnd e
  obtain⟨r,q2,e⟩:=mpd e;subst e;rw[zJ,zJ,h5 ω r q2]
noncomputable def zAA(g:FA):FD:=λω=>(g ω).map D.tup
noncomputable def Ww(g:FA):FE:=λω=>(g ω).map R.fr
theorem zBr{n:Nat}(h:n<=1000):n<=sizeLine:=ye (zBj h)
theorem Xp{x1 pos}{g:FA}(h:XA X es g)(hl:es.length<=1000:=by decide):XD X Up (zAA g):=by
 obtain⟨⟨t,h1,h2⟩,h5⟩:=h;refine⟨_,qjv h1,eY⟩;obtain⟨ds,q,e⟩:=mpd e;subst e;refine h2 G0 H0 G ω σ H ds _ o q λvs G1 H1 x1 y1=>⟨zBr (by rw[<- y1.len,h5 ω ds q];exact hl),Ba⟩;have x2:=Ext.lay x1.gh hp OI;exact k _ _ _ eC ⟨p,vs,rfl,qe,LT⟩
theorem Xn{pos}{g:FA}(h:XA X es g)(hl:es.length<=1000:=by decide):XE X acU (Ww g):=by
 obtain⟨⟨t,h1,h2⟩,h5⟩:=h;refine⟨_,q36 h1,eY⟩;obtain⟨ds,q,e⟩:=mpd e;subst e;refine h2 G0 H0 G ω σ H ds _ o q λvs G1 H1 x1 y1=>⟨zBr (by rw[<- y1.len,h5 ω ds q];exact hl),Ba⟩;have x2:=Ext.hide x1.gh hp gP;exact k _ _ _ eC ⟨p,vs,rfl,x1.hh.free hp,x1.gh.free hp,qe,y1⟩
inductive O where
 | sh (d:D)|fr (ds:List D)
noncomputable def O.r:O->R
 | .sh d=>.sh d
 | .fr ds=>.fr ds
noncomputable def spD(K:zC)(n:Nat)(m:cf):Sp:=λvs H Q _=>∃G ds r,m ds=some r/\ds.length=n/\Xf G H/\XN K G ds vs/\∀v G' H',Ext G H G' H'->zCN K H G' H' r.r v->Q v H'
noncomputable def XC(m:cf)(g:FA):FE:=λω=>(g ω).bind λds=>(m ds).map O.r
theorem zC2{CX:CXT}{k:Nat}{f:vH}{fd:vS}{ps:dN}{m:cf}{E:XK}{x:Str}{p pos:Pos}{g:FA}(F:FnOk X.prog X.w X.K X.mg X.base CX k f fd ps (spD X.K (e::es).length m))(hr:abu)(hg:Au)(hm:X.mg x=some iP)(hk:xp X.K iP=true)(hb:n9)(hx:VI)(ha:XA X jK g)(hdb:aJ:=by decide)(he:aQ:=by rfl)(hpl:(vj pos im).any (·.1)=false:=by rfl):
  XE X cK (XC m g):=by
 obtain⟨⟨t,h1,h2⟩,h5⟩:=ha;refine⟨_,qcG F hr hg hm hk hb .nil hx h1 hdb he hpl,ca⟩;obtain⟨ds,q,e⟩:=bnd e;obtain⟨r',q2,e⟩:=mpd e;subst e;refine h2 G0 H0 G ω σ H ds _ o q λvs G1 H1 x1 y1=>?_;refine⟨G1,ds,r',q2,h5 ω ds q,x1.gh,by rw[zi];exact y1,λv G2 H2 x2 y2=>k v G2 H2 eC ?_⟩;cases r' with
 | sh d=>exact y2
 | fr ds=>obtain⟨l,vs,e1,e2,e3⟩:=y2;exact⟨l,vs,e1,x1.hh.free e2,e3⟩
end
open PySem.Spec PyProof.Rows PySem.SeqAt PySem.MeetsSeq PySem.MeetsSeq2 PySem.MeetsSeq3 in
theorem q8A{prog:vU}{w:vZ}{A:vf}{E:aM}{s:vC}{t sl:vH}{items:dw}{vl vu:vB}{lo hi:eh}{Q:aM}(ht:Ud)(hs:pI)(pl:tT vl lo)(pu:tT vu hi)(hw:HT.sIx items.size 0 lo=0/\HT.sIx items.size items.size hi=items.size)(h:Q jI s):vP ak A (tD jI Gp) Q E s:=by
 obtain⟨os,hos,hcs,hds⟩:=id hs;have hTs:s.TypeIs Gp "slice" := abQ;unfold tD
 try with_reducible refine vn ?_
 first|refine vA fF|skip
 refine vA (wpAny_sequenceKey ht.typeIs (by decide) ?_);refine vA (wpAny_callSpecial?_slot (name:=Str.ofString "__getitem__") ht.typeIs PyProof.Rows.slot_tuple_getitem
  lC)
 show vP _ _ (Builtin.Tuple.tupleItemsOf jI >>= _) _ _ s;refine vA PR;refine vA (uh hTs ?_);rw[vF (by decide)];refine vA (HT.q3q hs pl pu ?_);have hy:gG=true:=by
  rw[hw.1,hw.2];simp
 show vP _ _ (if gG=true then _ else _) _ _ s;rw[vF hy];have hb:∀{R:pD},R true s->vP ak A.in1 (Builtin.Tuple.tupleIsExact jI) R E s:=λr=>by
  unfold Builtin.Tuple.tupleIsExact;refine vA (uh ht.typeIs ?_);exact vJ r
 refine vA (hb ?_);rw[jQ];refine vA UJ;exact vJ ⟨_,rfl,UE⟩
section
variable{X:Cx}
def rSlW(K:zC):V->Option Int->Option Int->Hp->VK->Prop:=λx lo hi H Q=>∃a xs,x=.ref a/\SqT K H a xs /\
 ny/\Q du H
theorem qgJ:SlR X (rSlW X.K):=by
 intro pins s σ H x v vl vu lo hi sl Q I rx hs pl pu h;obtain⟨a,xs,rfl,hx,hw,q⟩:=h;cases rx;obtain⟨its,r,ht,hz⟩:=I.tuple hx;have hlen:its.toArray.size=xs.length:=by rw[zQ];exact r.length.symm
 refine ng;exact q8A ht hs pl pu (by rw[hlen];exact hw) ⟨du,H,I,rfl,q⟩
end
theorem Vw.rep{K:zC}{G H:Hp}{d:D}{v:V}(h:JW)(e:BF):Rep K H d v:=by
 rcases h with h|⟨ds,l,vs,rfl,rfl,h1,h2⟩
 ·exact h.mono e
 ·exact⟨l,vs,rfl,h1,h2.mono e⟩
theorem Vw.keep{K:zC}{G H G' H':Hp}{d:D}{v:V}(h:JW)(e:Cm):Vw K G' H' d v:=by
 rcases h with h|⟨ds,l,vs,h0,h1,h2,h3⟩
 ·exact .inl (h.mono e.gg)
 ·exact .inr ⟨ds,l,vs,h0,h1,Lx,h3.mono e.gg⟩
theorem Vw.lst{K:zC}{G H:Hp}{ds:aW}{v:V}(h:Vw K G H eS v)(e:BF):∃a vs,v=.ref a/\H a=some gP/\XN K G ds vs:=by
 rcases h with⟨a,vs,h1,h2,h3⟩|⟨ds',l,vs,h0,h1,h2,h3⟩
 ·exact⟨a,vs,h1,e _ _ h2,h3⟩
 ·cases h0;exact⟨l,vs,h1,h2,h3⟩
theorem Vw.of_ne{K:zC}{G H:Hp}{d:D}{v:V}(h:JW)(n:∀ds,d≠.lst ds):Rep K G d v:=by
 rcases h with h|⟨ds',l,vs,h0,h1,h2,h3⟩
 ·exact h
 ·exact vO h0 (n _)
def VwA(K:zC)(G H:Hp):List D->List V->Prop
 | [],vs=>vs=[]
 | d::ds,vs=>∃v r,vs=v::r/\Vw K G H d v/\VwA K G H ds r
def SimVA(K:zC)(t:TA)(f:FA):Prop:=∀G0 H0 G ω σ H ds(Q:mP),Own K G0 H0 G ω σ H->f ω=some ds ->
 (∀vs G' H',Ext G H G' H'->VwA K G' H' ds vs->Q vs H')->t σ H Q
def XVA(X:Cx)(es:iN)(f:FA):Prop:=∃t,PA X es t/\SimVA X.K t f
section
variable{X:Cx}{e:vW}{es:List vW}
theorem qp:XVA X [] XF:=⟨_,qx,λG0 H0 G ω σ H ds Q o e k=>by cases e;exact k [] G H lu rfl⟩
theorem ql{f:FD}{g:FA}(h:XV X e f)(hr:XVA X es g)(hs:aQ:=by rfl):XVA X jK (Y2 f g):=by
 obtain⟨t,h1,h2⟩:=h;obtain⟨u,h3,h4⟩:=hr;refine Ai;obtain⟨d,q,e⟩:=bnd e;obtain⟨r,q2,e⟩:=mpd e;subst e;refine h2 G0 H0 G ω σ H d _ o q λv G1 H1 x1 y1=>?_;refine h4 G0 H0 G1 ω σ H1 r _ g9 q2 λvs G2 H2 x2 y2=>?_;exact k _ G2 H2 eC ⟨v,vs,rfl,y1.keep x2,y2⟩
noncomputable def XB(op:kN)(f g:FD):FE:=λω=>(f ω).bind λx=>(g ω).bind λy=>op x y
def OpV(K:zC)(r:R2)(op:kN):Prop:=∀G H x y d v u(Q:VK),Xf G H->op x y=some d->Vw K G H x v->Vw K G H y u ->
 (∀w G' H',Ext G H G' H'->zCN K H G' H' d w->Q w H')->r v u H Q
theorem q5H{r:R2}{o:kN}{f g:FD}{t u:TE}(hd:Gf)(h2:SimV X.K t f)(h4:SimV X.K u g):zC9 X.K (tOp r t u) Ht:=by
 intro G0 H0 G ω σ H d Q ow e k;obtain⟨x,q,e⟩:=bnd e;obtain⟨y,q2,e⟩:=bnd e;refine h2 G0 H0 G ω σ H x _ ow q λv G1 H1 x1 y1=>?_;refine h4 G0 H0 G1 ω σ H1 y _ O2 q2 λv2 G2 H2 x2 y2=>?_;refine hd G2 H2 x y d v v2 Q x2.gh e (y1.keep x2) y2 λw G3 H3 x3 z=>k w G3 H3 BK ?_;cases d with
 | sh d=>exact z
 | fr ds=>obtain⟨l,vs,e1,e2,e3⟩:=z;exact⟨l,vs,e1,(x1.trans x2).hh.free e2,e3⟩
 | vw ds=>exact z
variable{a b:vW}{pos:Pos}{f g:FD}
theorem q3p{op:sL}{r:R2}{o:kN}(ho:OpR X (uV op) r)(hd:Gf)(ha:de)(hb:fW):XE X SN Ht:=by
 obtain⟨t,h1,h2⟩:=ha;obtain⟨u,h3,h4⟩:=hb;exact⟨_,qkx ho h1 h3,Iv⟩
theorem q5w{op:sV}{r:R2}{o:kN}(ho:Et)(hd:Gf)(ha:de)(hb:fW)(hm:B9):XE X jN Ht:=by
 obtain⟨t,h1,h2⟩:=ha;obtain⟨u,h3,h4⟩:=hb;exact⟨_,qhO ho h1 h3 hm,Iv⟩
theorem qkA{r:R2}{o:kN}(ho:IxR X r)(hd:Gf)(ha:de)(hb:fW)(hs:zA5 b):XE X EV Ht:=by
 obtain⟨t,h1,h2⟩:=ha;obtain⟨u,h3,h4⟩:=hb;exact⟨_,qkz ho h1 h3 hs,Iv⟩
noncomputable def tOf(f:FE):FT:=λω=>match f ω with
 | ↥(.bl k)=>some k
 | _=>none
theorem qeu{t:TE}{f:FE}(h:zC9 X.K t f):zBQ X.K (tTest t) (tOf f):=by
 intro G0 H0 G ω σ H b Q o e k;unfold tOf at e;cases q:f ω with
 | none=>rw[q]at e;cases e
 | some r=>
  rw[q]at e;cases r with
  | sh d=>
   cases d with
   | bl c=>
    cases e;refine h G0 H0 G ω σ H _ _ o q λv G' H' x y=>?_;cases (show v=V.bl b from y);exact⟨b,rfl,k G' H' x⟩
   | _=>cases e
  | _=>cases e
theorem q3V{op:sV}{r:R2}{o:kN}(ho:Et)(hd:Gf)(ha:de)(hb:fW)(hm:B9):XT X jN (tOf Ht):=by
 obtain⟨t,h1,h2⟩:=ha;obtain⟨u,h3,h4⟩:=hb;exact⟨_,qii ho h1 h3 hm,qeu Iv⟩
noncomputable def zBb(c:AZ)(g:Uf):D->D->Option R
 | .int i,.int j=>if c i j=true then ↥nF else none
 | _,_=>none
theorem Vw.int{K:zC}{G H:Hp}{i:Int}{v:V}(h:Vw K G H gc v):v=.int i:=h.of_ne (λ_ z=>by cases z)
theorem Vw.bl{K:zC}{G H:Hp}{i:Bool}{v:V}(h:Vw K G H (.bl i) v):v=.bl i:=h.of_ne (λ_ z=>by cases z)
theorem Vw.str{K:zC}{G H:Hp}{i:Str}{v:V}(h:Vw K G H (.str i) v):v=.str i:=h.of_ne (λ_ z=>by cases z)
theorem Vw.non{K:zC}{G H:Hp}{v:V}(h:Vw K G H .non v):v=.non:=h.of_ne (λ_ z=>by cases z)
theorem Vw.tup{K:zC}{G H:Hp}{ds:aW}{v:V}(h:Vw K G H DE v):∃a vs,v=.ref a/\G a=some OI/\XN K G ds vs:=h.of_ne (λ_ z=>by cases z)
theorem Vw.scr{K:zC}{G H:Hp}{ns:af}{v:V}(h:Vw K G H Bj v):∃a,v=.ref a/\SqL K G a cc:=h.of_ne (λ_ z=>by cases z)
theorem q5L{K:zC}{C:N2}{c:AZ}{gV:LF}{g:Uf}(hc:∀i j,c i j=true->C i j)(hg:∀H i j,Rep K H nF (gV i j)):OpV K (rI C gV) (zBb c g):=by
 intro G H x y d v u Q s e hx hy k;cases x with
 | int i=>
  cases y with
  | int j=>
   cases hx.int;cases hy.int;unfold zBb at e
   dsimp only at e
   by_cases z:c i j=true
   ·rw[fQ]at e
    cases e;exact⟨i,j,rfl,rfl,hc i j z,Sf⟩
   ·rw[fI]at e;cases e
  | _=>cases e
 | _=>cases e
theorem q1j{K:zC}{gV:LF}{g:Uf}(hg:∀H i j,Rep K H nF (gV i j)):OpV K (rI0 gV) (zBb pR g):=by
 intro G H x y d v u Q s e hx hy k;cases x with
 | int i=>
  cases y with
  | int j=>
   cases hx.int;cases hy.int;cases e;exact⟨i,j,rfl,rfl,Sf⟩
  | _=>cases e
 | _=>cases e
noncomputable def zC5(i j:Int):Bool:=(decide (-(2^64)<i)&&decide (i<2^64)) || (decide (-(2^64)<j)&&decide (j<2^64))
noncomputable def cDiv(_ j:Int):Bool:=decide (0<j)&&decide (j<1073741824)
noncomputable def cMod(_ j:Int):Bool:=decide (0<j)
noncomputable def cPow(i j:Int):Bool:=decide (0<=j)&&decide (j<=1000000)&&decide (i.natAbs<2^64)
noncomputable abbrev zA8:D->D->Option R:=zBb pR λi j=>.int (i-j)
noncomputable abbrev zBZ:D->D->Option R:=zBb zC5 λi j=>.int (i*j)
noncomputable abbrev oDiv:D->D->Option R:=zBb cDiv λi j=>.int (i/j)
noncomputable abbrev oMod:D->D->Option R:=zBb cMod λi j=>.int (i%j)
noncomputable abbrev oPow:D->D->Option R:=zBb cPow λi j=>.int (i^j.toNat)
noncomputable abbrev oLt:D->D->Option R:=zBb pR λi j=>.bl (decide (i<j))
noncomputable abbrev oLe:D->D->Option R:=zBb pR λi j=>.bl (decide (i<=j))
noncomputable abbrev oGt:D->D->Option R:=zBb pR λi j=>.bl (decide (j<i))
noncomputable abbrev oGe:D->D->Option R:=zBb pR λi j=>.bl (decide (j<=i))
noncomputable def X3:D->D->Option R
 | .int i,.int j=>↥(.int (i+j))
 | .lst xs,.lst ys=>if xs.length+ys.length<=1000000 then some (.fr LU)else none
 | .tup [],.tup ys=>↥abE
 | .tup (x::xs),.tup ys=>if (x::xs).length+ys.length<=1000000 then ↥(.tup (Nu++ys))else none
 | _,_=>none
theorem q6n{n:Nat}(h:n<=1000000):n<=sizeLine:=by rw[vh];omega
noncomputable def rCat0(K:zC):R2:=λx y H Q=>∃a b ys,x=.ref a/\y=.ref b/\SqT K H a []/\SqT K H b ys/\Q Cy H
theorem qi5:OpR X JF (rCat0 X.K):=by
 intro pins s σ H x y v u Q I rx ry h;obtain⟨a,b,ys,rfl,rfl,ha,hb,q⟩:=h;cases rx;cases ry;obtain⟨its,r1,p1,_⟩:=I.tuple ha;obtain⟨its2,r2,p2,_⟩:=I.tuple hb;have e0:its=[]:=r1.nil_iff.mpr rfl;subst e0;obtain⟨⟨cls,dd,data,sl⟩,ho,hc,n,hd⟩:=id p1;obtain⟨⟨cls2,dd2,data2,sl2⟩,ho2,hc2,n2,hd2⟩:=id p2;simp only at hc hd hc2 hd2;subst hc hd hc2 hd2;exact PySem.concat_meets Nk LP PySem.noFill_tuple_add PySem.seq_tuple_add PySem.F.slot_tuple_add PySem.F.entry_tuple_add pK
  (PyProof.Rows.tuple_addW0 a b _ its2.toArray n n2 dd dd2 sl sl2 (by simp)) ⟨ho,ho2,⟨Cy,H,I,rfl,q⟩⟩
noncomputable def zB5(K:zC):R2:=λx y H Q=>rI0 (λi j=>.int (i+j)) x y H Q\/rCat x y H Q\/rCatT K x y H Q\/rCat0 K x y H Q
theorem qeY:OpR X JF (zB5 X.K):=qj6.or (qku.or (qiI.or qi5))
theorem qiE{K:zC}:OpV K (zB5 K) X3:=by
 intro G H x y d v u Q s e hx hy k;cases x with
 | int i=>
  cases y with
  | int j=>
   cases hx.int;cases hy.int;cases e;exact .inl ⟨i,j,rfl,rfl,pi⟩
  | _=>cases e
 | lst xs=>
  cases y with
  | lst ys=>
   unfold X3 at e
   dsimp only at e
   by_cases z:xs.length+ys.length<=1000000
   ·rw[fQ]at e
    cases e;obtain⟨a,vs,rfl,h1,h2⟩:=hx.lst s;obtain⟨b,us,rfl,h3,h4⟩:=hy.lst s;refine .inr (.inl ⟨a,b,vs,us,rfl,rfl,h1,h3,q6n (by rw[<- h2.len,<- h4.len];exact z),Ba⟩);exact k _ G _ Vi ⟨p,_,rfl,hp,s.free hp,qe,h2.app h4⟩
   ·rw[fI]at e;cases e
  | _=>cases e
 | tup xs=>
  cases y with
  | tup ys=>
   obtain⟨a,vs,rfl,h1,h2⟩:=hx.tup;obtain⟨b,us,rfl,h3,h4⟩:=hy.tup;cases xs with
   | nil=>
    cases e;have ev:vs=[]:=yt h2.len.symm;subst ev;exact .inr (.inr (.inr ⟨a,b,us,rfl,rfl,Bh,SqT.of L5,k _ G H dU ⟨b,us,rfl,h3,h4⟩⟩))
   | cons x0 xs=>
    unfold X3 at e
    dsimp only at e
    by_cases z:(x0::xs).length+ys.length<=1000000
    ·rw[fQ]at e
     cases e;refine .inr (.inr (.inl ⟨a,b,vs,us,rfl,rfl,Bh,SqT.of L5,λw=>?_,q6n (by rw[<- h2.len,<- h4.len];exact z),λw=>?_,λ_ p hp=>?_⟩))
     ·have:=h2.len
      rw[w]at this;cases this
     ·have:=h4.len
      rw[w]at this;have ey:ys=[]:=yt this;subst ey;rw[zi]at k;exact k _ G H dU ⟨a,vs,rfl,h1,h2⟩
     ·have x2:=Ext.lay s hp (.tup (vs++us))
      exact k _ _ _ x2 ⟨p,_,rfl,qe,(h2.app h4).mono x2.gg⟩
    ·rw[fI]at e;cases e
  | _=>cases xs <;> cases e
 | _=>cases e
theorem qD(ha:de)(hb:fW):XE X (.BinOp a .Add b pos) (XB X3 f g):=q3p qeY qiE ha hb
theorem q0E(ha:de)(hb:fW):XE X (.BinOp a .Sub b pos) (XB zA8 f g):=q3p qj4 jy ha hb
theorem mulOk{i j:Int}(h:zC5 i j=true):CMul i j:=by
 unfold zC5 at h;rw[Bool.or_eq_true,yC,yC,decide_eq_true_iff,decide_eq_true_iff,decide_eq_true_iff,decide_eq_true_iff]at h;exact h
theorem divOk{i j:Int}(h:cDiv i j=true):CDiv i j:=by
 unfold cDiv at h;rw[yC,decide_eq_true_iff,decide_eq_true_iff]at h;exact h
theorem powOk{i j:Int}(h:cPow i j=true):CPow i j:=by
 unfold cPow at h;rw[yC,yC,decide_eq_true_iff,decide_eq_true_iff,decide_eq_true_iff]at h;exact⟨h.1.1,h.1.2,h.2⟩
theorem q5d(ha:de)(hb:fW):XE X Pw (XB zBZ f g):=q3p qjU (q5L (λ_ _ h=>mulOk h) λ_ _ _=>rfl) ha hb
theorem qV(ha:de)(hb:fW):XE X (.BinOp a .FloorDiv b pos) (XB oDiv f g):=q3p qhJ (q5L (λ_ _ h=>divOk h) λ_ _ _=>rfl) ha hb
theorem qH(ha:de)(hb:fW):XE X (.BinOp a .Mod b pos) (XB oMod f g):=q3p qj8 (q5L (λ_ _ h=>of_decide_eq_true h) λ_ _ _=>rfl) ha hb
theorem qeQ(ha:de)(hb:fW):XE X (.BinOp a .Pow b pos) (XB oPow f g):=q3p qjX (q5L (λ_ _ h=>powOk h) λ_ _ _=>rfl) ha hb
noncomputable def oNeg:D->Option R
 | .int i=>↥(.int (-i))
 | _=>none
noncomputable def zCu(f:FD):FE:=λω=>(f ω).bind oNeg
theorem q56(ha:de):XE X (.UnaryOp .USub a pos) (zCu f):=by
 obtain⟨t,h1,h2⟩:=ha;refine⟨_,qkL qjq h1,λG0 H0 G ω σ H d Q ow e k=>?_⟩;obtain⟨x,q,e⟩:=bnd e;refine h2 G0 H0 G ω σ H x _ ow q λv G1 H1 x1 y1=>?_;cases x with
 | int i=>cases e;cases y1.int;exact⟨i,rfl,KU⟩
 | _=>cases e
theorem qkB(ha:de)(hb:fW):XE X MS (XB oLt f g):=q5w qhe jy ha hb Fc
theorem qcY(ha:de)(hb:fW):XE X (.Compare a [.LtE] [b] pos) (XB oLe f g):=q5w qkN jy ha hb Fc
theorem qkW(ha:de)(hb:fW):XE X MT (XB oGt f g):=q5w qhn jy ha hb Fc
theorem q3y(ha:de)(hb:fW):XT X MS (tOf (XB oLt f g)):=q3V qhe jy ha hb Fc
theorem qkC(ha:de)(hb:fW):XT X MT (tOf (XB oGt f g)):=q3V qhn jy ha hb Fc
theorem qkF(ha:de)(hb:fW):XT X (.Compare a [.GtE] [b] pos) (tOf (XB oGe f g)):=q3V qkV jy ha hb Fc
end
mutual
noncomputable def D.py:D->PyData
 | .non=>.none
 | .bl b=>.bool b
 | .int i=>.int i
 | .str x=>.str x
 | .lst xs=>.list (D.pys xs)
 | .tup xs=>.tuple (D.pys xs)
 | .scr ns=>.list Sd
 | .exc _=>.dict []
 | .dic _ _=>.dict []
noncomputable def D.pys:List D->List PyData
 | []=>[]
 | d::ds=>d.py::D.pys ds
end
section
variable{X:Cx}{pins:List (vH×Obj)}{σ:St}{H:Hp}{s:vC}
theorem zAJ{h:vk}:∀{ns:af}{us:a0},Xc cc us->∃as,ReadsAll h us Sd as
 | [],_,r=>by cases r;exact⟨_,.nil⟩
 | n::ns,_,r=>by
  rw[zI]at r;cases r with
  | cons r1 r2=>
   obtain⟨t,rfl⟩:=r1;obtain⟨as,q⟩:=zAJ (h:=h) r2;exact⟨_,.cons (.int n t) q⟩
mutual
theorem WY(I:aq):∀{d:D}{v:V}{u:vB},d.py.canLay0=true->Rep X.K H d v->RelV v u->∃as,Reads s.heap u d.py as
 | .non,_,_,_,h,r=>by cases (show _=V.non from h);cases r;exact⟨_,.none⟩
 | .bl b,_,_,_,h,r=>by cases (show _=V.bl b from h);cases r;exact⟨_,.bool b⟩
 | .int i,_,_,_,h,r=>by cases (show _=V.int i from h);obtain⟨t,rfl⟩:=r;exact⟨_,rN⟩
 | .str x,_,_,_,h,r=>by cases (show _=V.str x from h);obtain⟨t,rfl⟩:=r;exact⟨_,abG⟩
 | .lst ds,_,_,hc,⟨a,vs,rfl,h2,h3⟩,r=>by
  cases r;obtain⟨its,n,rv,e,_⟩:=I.lst h2;obtain⟨as,q⟩:=W8 I (show PyData.canLayAll0 nM=true from hc) h3 rv;exact⟨_,.list e rfl rfl ⇑q⟩
 | .tup ds,_,_,hc,⟨a,vs,rfl,h2,h3⟩,r=>by
  cases r;obtain⟨its,rv,⟨o,e,c,n,dd⟩,_⟩:=I.tuple (SqT.of h2);obtain⟨as,q⟩:=W8 I (show PyData.canLayAll0 nM=true from hc) h3 rv;exact⟨_,.tuple e c dd ⇑q⟩
 | .exc _,_,_,hc,_,_=>by cases hc
 | .dic _ _,_,_,hc,_,_=>by cases hc
 | .scr ns,_,_,_,⟨a,rfl,h2⟩,r=>by
  cases r;obtain⟨its,rv,pl,_⟩:=I.list h2;obtain⟨o,e,c,n,dd⟩:=pl.isList;obtain⟨as,q⟩:=zAJ (h:=s.heap) rv;exact⟨_,.list e c dd ⇑q⟩
theorem W8(I:aq):∀{ds:aW}{vs:a8}{us:a0},PyData.canLayAll0 nM=true->XN X.K H ds vs->Xc vs us->∃as,ReadsAll s.heap us nM as
 | [],_,_,_,h,r=>by cases (show _=[]from h);cases r;exact⟨_,.nil⟩
 | d::ds,_,_,hc,⟨v,vr,h1,h2,h3⟩,r=>by
  have hc':=wd.mp (show (d.py.canLay0&&PyData.canLayAll0 nM)=true from hc);subst h1;cases r with
  | cons r1 r2=>
   obtain⟨as,q1⟩:=WY I hc'.1 h2 r1;obtain⟨bs,q2⟩:=W8 I hc'.2 h3 r2;exact⟨_,.cons q1 q2⟩
end
end
noncomputable def shp(d:D):Bool:=SeqAt.shaped d.py
noncomputable def eqD(x y:D):Bool:=PyData.eqv x.py y.py
noncomputable def rEqD(K:zC)(neg:Bool):R2:=λx y H Q=>∃d e,Rep K H d x/\Rep K H e y/\shp d=true/\shp e=true/\Q (.bl (if neg then !eqD d e else eqD d e)) H
noncomputable def oEq(neg:Bool):D->D->Option R:=λx y=>if shp x&&shp y then ↥(.bl (if neg then !eqD x y else eqD x y))else none
section
variable{X:Cx}{a b:vW}{pos:Pos}{f g:FD}
theorem zCj(hu:fX):OpR X (uP .Eq) (rEqD X.K false):=by
 intro pins s σ H x y v u Q I rx ry h;obtain⟨d,e,h1,h2,h3,h4,q⟩:=h;obtain⟨as,ra⟩:=WY I LB h1 rx;obtain⟨bs,rb⟩:=WY I LA h2 ry;exact SeqAt.compareEq_shaped ra rb h3 h4 hu RY
theorem zCf(hu:fX):OpR X (uP .NotEq) (rEqD X.K true):=by
 intro pins s σ H x y v u Q I rx ry h;obtain⟨d,e,h1,h2,h3,h4,q⟩:=h;obtain⟨as,ra⟩:=WY I LB h1 rx;obtain⟨bs,rb⟩:=WY I LA h2 ry;exact SeqAt.compareNe_shaped ra rb h3 h4 hu RY
theorem zBC{K:zC}{neg:Bool}:OpV K (rEqD K neg) (oEq neg):=by
 intro G H x y d v u Q s e hx hy k;unfold oEq at e
 by_cases z:(shp x&&shp y)=true
 ·rw[fQ]at e
  cases e;rw[yC]at z;exact⟨x,y,aa7,hy.rep s,z.1,z.2,pi⟩
 ·rw[fI]at e;cases e
theorem Wm(hu:fX)(ha:de)(hb:fW):XE X MU (XB b9 f g):=q5w (zCj hu) zBC ha hb Fc
theorem xe_ne(hu:fX)(ha:de)(hb:fW):XE X Ky (XB km f g):=q5w (zCf hu) zBC ha hb Fc
theorem Wi(hu:fX)(ha:de)(hb:fW):XT X MU (tOf (XB b9 f g)):=q3V (zCj hu) zBC ha hb Fc
theorem zAa(hu:fX)(ha:de)(hb:fW):XT X Ky (tOf (XB km f g)):=q3V (zCf hu) zBC ha hb Fc
noncomputable def Wf:D->Bool
 | .non=>true
 | .bl _=>true
 | .int _=>true
 | .str _=>true
 | _=>false
noncomputable def D.v:D->V
 | .bl b=>.bl b
 | .int i=>.int i
 | .str x=>.str x
 | _=>.non
theorem zAQ{K:zC}{H:Hp}{d:D}{v:V}(h:Rep K H d v)(f:Wf d=true):v=d.v/\zAH v=true:=by
 cases d with
 | non=>cases (show v=V.non from h);exact bY
 | bl b=>cases (show v=V.bl b from h);exact bY
 | int b=>cases (show v=V.int b from h);exact bY
 | str b=>cases (show v=V.str b from h);exact bY
 | _=>cases f
theorem Wv{K:zC}{H:Hp}:∀{ds:aW}{vs:a8},XN K H ds vs->ds.all Wf=true->vs=ds.map D.v/\vs.all zAH=true
 | [],_,h,_=>by cases (show _=[]from h);exact bY
 | d::ds,_,⟨v,r,h1,h2,h3⟩,f=>by
  rw[xz,yC]at f;obtain⟨e1,e2⟩:=zAQ h2 f.1;obtain⟨e3,e4⟩:=Wv h3 f.2;subst h1;refine⟨by rw[zI,<- e1,<- e3],by rw[xz,e2,e4];rfl⟩
noncomputable def inD(x:D)(ds:aW):Bool:=inV x.v (ds.map D.v)
noncomputable def oIn(neg:Bool):D->D->Option R
 | x,.lst ys=>if Wf x&&ys.all Wf then ↥(.bl (if neg then !inD x ys else inD x ys))else none
 | x,.tup ys=>if Wf x&&ys.all Wf then ↥(.bl (if neg then !inD x ys else inD x ys))else none
 | _,_=>none
theorem opv_in{K:zC}{neg:Bool}:OpV K (rIn K neg) (oIn neg):=by
 intro G H x y d v u Q s e hx hy k;cases y with
 | lst ys=>
  unfold oIn at e
  dsimp only at e
  by_cases z:Vf=true
  ·rw[fQ]at e
   cases e;rw[yC]at z;obtain⟨p,vs,rfl,h1,h2⟩:=hy.lst s;obtain⟨e1,e2⟩:=zAQ aa7 z.1;obtain⟨e3,e4⟩:=Wv h2 z.2;refine⟨p,vs,rfl,.inl DU,e2,e4,?_⟩;rw[e1,e3];exact k _ G H dU rfl
  ·rw[fI]at e;cases e
 | tup ys=>
  unfold oIn at e
  dsimp only at e
  by_cases z:Vf=true
  ·rw[fQ]at e
   cases e;rw[yC]at z;obtain⟨p,vs,rfl,h1,h2⟩:=hy.tup;obtain⟨e1,e2⟩:=zAQ aa7 z.1;obtain⟨e3,e4⟩:=Wv h2 z.2;refine⟨p,vs,rfl,.inr Bh,e2,e4,?_⟩;rw[e1,e3];exact k _ G H dU rfl
  ·rw[fI]at e;cases e
 | _=>cases x <;> cases e
theorem zCR(ha:de)(hb:fW)(hm:uE .NotIn b=false:=by with_unfolding_all rfl):XT X (.Compare a [.NotIn] [b] pos) (tOf (XB (oIn true) f g)):=q3V qa7 opv_in ha hb hm
noncomputable def oIx:D->D->Option R
 | .lst ds,.int i=>(atI ds i).map R.sh
 | .tup ds,.int i=>(atI ds i).map R.sh
 | .scr ns,.int i=>(atI ns i).map λn=>.sh Eu
 | _,_=>none
theorem zBM{K:zC}{H:Hp}{ds:aW}{vs:a8}{i:Int}{d:D}(h:AE)(e:atI ds i=some d):∃v,atI vs i=some v/\Rep K H d v:=by
 unfold atI at e ⊢;rw[<- h.len];cases q:ixN ds.length i with
 | none=>rw[q]at e;cases e
 | some j=>
  rw[q]at e;obtain⟨v,e1,e2⟩:=h.get e;exact⟨v,e1,e2⟩
theorem zCJ{ns:af}{i n:Int}(e:atI ns i=some n):atI cc i=some Eu:=by
 unfold atI at e ⊢;rw[zA];cases q:ixN ns.length i with
 | none=>rw[q]at e;cases e
 | some j=>
  rw[q]at e;have e':ns[j]?=some n:=e;show (ns.map V.int)[j]?=_;rw[ze,e'];rfl
theorem opv_ix{K:zC}:OpV K (rIx K) oIx:=by
 intro G H x y d v u Q s e hx hy k;cases y with
 | int i=>
  cases hy.int;cases x with
  | lst ds=>
   obtain⟨d',q,e'⟩:=mpd e;subst e';obtain⟨p,vs,rfl,h1,h2⟩:=hx.lst s;obtain⟨w,e1,e2⟩:=zBM h2 q;exact .inl ⟨p,vs,i,w,rfl,rfl,DU,e1,k _ G H dU e2⟩
  | tup ds=>
   obtain⟨d',q,e'⟩:=mpd e;subst e';obtain⟨p,vs,rfl,h1,h2⟩:=hx.tup;obtain⟨w,e1,e2⟩:=zBM h2 q;exact .inr (.inl ⟨p,vs,i,w,rfl,rfl,Bh,e1,k _ G H dU e2⟩)
  | scr ns=>
   obtain⟨n,q,e'⟩:=mpd e;subst e';obtain⟨p,rfl,h1⟩:=hx.scr;exact .inl ⟨p,_,i,Eu,rfl,rfl,s.seq h1,zCJ q,pi⟩
  | _=>cases e
 | _=>cases x <;> cases e
theorem Y6(ha:de)(hb:fW)(hs:zA5 b:=by exact λ_ _=>rfl):XE X EV (XB oIx f g):=qkA qk9 opv_ix ha hb hs
noncomputable abbrev FO:=WSt->Option eh
def SimO(K:zC)(t:TO)(f:FO):Prop:=∀G0 H0 G ω σ H o(Q:ER),Own K G0 H0 G ω σ H->f ω=some o->(∀G' H',Ext G H G' H'->Q o H')->t σ H Q
def XO(X:Cx)(e:DV)(f:FO):Prop:=∃t,PO X e t/\SimO X.K t f
noncomputable def pNo:FO:=λ_=>some none
noncomputable def pAt(f:FD):FO:=λω=>(f ω).bind λd=>match d with|.int i=>some Tm|_=>none
theorem zAV:XO X none pNo:=⟨_,qid,λG0 H0 G ω σ H o Q ow e k=>by cases e;exact k G H aaw⟩
theorem WE(h:de):XO X (some a) (pAt f):=by
 obtain⟨t,h1,h2⟩:=h;refine⟨_,qhG h1,λG0 H0 G ω σ H o Q ow e k=>?_⟩;obtain⟨d,q,e⟩:=bnd e;refine h2 G0 H0 G ω σ H d _ ow q λv G1 H1 x1 y1=>?_;cases d with
 | int i=>cases e;cases y1.int;exact⟨i,rfl,k G1 H1 x1⟩
 | _=>cases e
noncomputable def cutD{α:Type}(xs:bB)(lo hi:eh):List α:=(xs.drop nJ).take eu
theorem zBR{K:zC}{H:Hp}{ds:aW}{vs:a8}(h:AE)(lo hi:eh):XN K H Ds (zBn vs lo hi):=by
 unfold cutD zBn;rw[h.len];exact(h.drop _).take _
theorem zCX(ns:af)(lo hi:eh):zBn cc lo hi=(cutD ns lo hi).map V.int:=by
 unfold cutD zBn;rw[zA,Zz,ZM]
noncomputable def oSl:D->Option Int->Option Int->Option R
 | .lst ds,lo,hi=>some (.fr Ds)
 | .scr ns,lo,hi=>some HY
 | .tup ds,lo,hi=>if HT.sIx ds.length 0 lo=0/\HT.sIx ds.length ds.length hi=ds.length then ↥DE else ↥(.tup Ds)
 | _,_,_=>none
noncomputable def fSl(f:FD)(l h:FO):FE:=λω=>(f ω).bind λd=>(l ω).bind λlo=>(h ω).bind λhi=>oSl d lo hi
theorem WH{lo hi:DV}{l h:FO}{p2:Pos}(ha:de)(hl:XO X lo l)(hh:XO X hi h):XE X (.Subscript a Df pos) (fSl f l h):=by
 obtain⟨t,h1,h2⟩:=ha;obtain⟨tl,h3,h4⟩:=hl;obtain⟨th,h5,h6⟩:=hh;refine⟨_,qgt (qj1.or (qke.or qgJ)) h1 h3 h5,Jy⟩;obtain⟨d,q,e⟩:=bnd e;obtain⟨lo',q2,e⟩:=bnd e;obtain⟨hi',q3,e⟩:=bnd e;refine h2 G0 H0 G ω σ H d _ ow q λv G1 H1 x1 y1=>?_;refine h4 G0 H0 G1 ω σ H1 lo' _ O2 q2 λG2 H2 x2=>?_;refine h6 G0 H0 G2 ω σ H2 hi' _ ((ow.keep x1).keep x2) q3 λG3 H3 x3=>?_;have y3:=(y1.keep x2).keep x3;have x13:=(x1.trans x2).trans x3;cases d with
 | lst ds=>
  cases e;obtain⟨p,vs,rfl,h1,h2⟩:=y3.lst x3.gh;refine .inl ⟨p,vs,rfl,DU,λn hn=>?_⟩;exact k _ G3 _ HJ ⟨n,_,rfl,x13.hh.free hn,x3.gh.free hn,qe,zBR h2 _ _⟩
 | scr ns=>
  cases e;obtain⟨p,rfl,h1⟩:=y3.scr;refine .inl ⟨p,_,rfl,x3.gh.seq h1,λn hn=>?_⟩;refine k _ G3 _ HJ ⟨n,_,rfl,x13.hh.free hn,x3.gh.free hn,qe,?_⟩;rw[zCX];exact XN.ints _
 | tup ds=>
  unfold oSl at e
  dsimp only at e
  obtain⟨p,vs,rfl,h1,h2⟩:=y3.tup
  by_cases z:HT.sIx ds.length 0 lo'=0/\HT.sIx ds.length ds.length hi'=ds.length
  ·rw[fQ]at e
   cases e;exact .inr (.inr ⟨p,vs,rfl,SqT.of ab0,by rw[<- h2.len];exact z,k _ G3 H3 x13 ⟨p,vs,rfl,h1,h2⟩⟩)
  ·rw[fI]at e
   cases e;refine .inr (.inl ⟨p,vs,rfl,SqT.of ab0,by rw[<- h2.len];exact z,λn hn=>?_⟩);have x4:=Ext.lay x3.gh hn (.tup (zBn vs lo' hi'));exact k _ _ _ (x13.trans x4) ⟨n,_,rfl,qe,(zBR h2 _ _).mono x4.gg⟩
 | _=>cases e
end
section
variable{X:Cx}{a b c:vW}{pos:Pos}{rest:List vW}{f g:FT}
noncomputable def zA1(f g:FT):FT:=λω=>(f ω).bind λc=>if c=true then g ω else some false
noncomputable def zAy(f g:FT):FT:=λω=>(f ω).bind λc=>if c=true then some true else g ω
noncomputable def Xy(f:FT):FT:=λω=>(f ω).map (!·)
theorem qfQ{t u:TT}(h:zBQ X.K t f)(h':zBQ X.K u g):zBQ X.K (tAnd t u) (zA1 f g):=by
 intro G0 H0 G ω σ H b Q o e k;obtain⟨c,q,e⟩:=bnd e;refine h G0 H0 G ω σ H c _ o q λG1 H1 x1=>?_;cases c with
 | true=>rw[jQ]at e ⊢;exact h' G0 H0 G1 ω σ H1 b Q g9 e λG2 H2 x2=>k G2 H2 eC
 | false=>cases e;exact k G1 H1 x1
theorem qiz{t u:TT}(h:zBQ X.K t f)(h':zBQ X.K u g):zBQ X.K (tOr t u) (zAy f g):=by
 intro G0 H0 G ω σ H b Q o e k;obtain⟨c,q,e⟩:=bnd e;refine h G0 H0 G ω σ H c _ o q λG1 H1 x1=>?_;cases c with
 | true=>cases e;exact k G1 H1 x1
 | false=>exact h' G0 H0 G1 ω σ H1 b Q g9 e λG2 H2 x2=>k G2 H2 eC
theorem q5z(h:NU):XW X Pv f:=let ⟨t,h1,h2⟩:=h;⟨t,qhN h1,h2⟩
theorem q2V(h:NU):XW X Qr f:=let ⟨t,h1,h2⟩:=h;⟨t,qdM h1,h2⟩
theorem q6P(h:NU)(h':XW X k8 g):XW X kj (zA1 f g):=let ⟨_,h1,h2⟩:=h;let ⟨_,h3,h4⟩:=h';⟨_,qjV h1 h3,qfQ h2 h4⟩
theorem q1g(h:NU)(h':XW X LK g):XW X J5 (zAy f g):=let ⟨_,h1,h2⟩:=h;let ⟨_,h3,h4⟩:=h';⟨_,qhw h1 h3,qiz h2 h4⟩
theorem XW.toT(h:XW X a f):XT X a f:=let ⟨t,h1,h2⟩:=h;⟨t,h1.pt,h2⟩
theorem qO(h:NU):XT X pF (Xy f):=by
 obtain⟨t,h1,h2⟩:=h;refine⟨_,qjn h1,Ke⟩;obtain⟨c,q,e⟩:=mpd e;subst e;exact h2 G0 H0 G ω σ H c _ o q k
noncomputable def truD:D->Option Bool
 | .non=>some false
 | .bl b=>some b
 | .int i=>some (i != 0)
 | .lst xs=>some (!xs.isEmpty)
 | .tup xs=>some (!xs.isEmpty)
 | _=>none
noncomputable def Wl(f:FD):FT:=λω=>(f ω).bind truD
theorem q5V{α β:Type}{xs:bB}{ys:List β}(h:xs.length=ys.length):xs.isEmpty=ys.isEmpty:=by
 cases xs <;> cases ys <;> first|rfl|cases h
theorem qE{f:FD}(h:de)(he:∀whole,si a X.env whole=(do let v <- whole;standAt a.pos;holding [v] Tk):=by intro _;rfl):XT X a (Wl f):=by
 obtain⟨t,h1,h2⟩:=h;refine⟨_,q4o h1 he,Ke⟩;obtain⟨d,q,e⟩:=bnd e;refine h2 G0 H0 G ω σ H d _ o q λv G1 H1 x1 y1=>⟨b,?_,k G1 H1 x1⟩;cases d with
 | non=>cases e;cases y1.non;rfl
 | bl c=>cases e;cases y1.bl;rfl
 | int i=>cases e;cases y1.int;rfl
 | lst xs=>
  cases e;obtain⟨p,vs,rfl,h1,h2⟩:=y1.lst x1.gh;exact .inl ⟨vs,DU,by rw[q5V h2.len]⟩
 | tup xs=>
  cases e;obtain⟨p,vs,rfl,h1,h2⟩:=y1.tup;exact .inr (.inl ⟨vs,SqT.of (x1.gh _ _ h1),by rw[q5V h2.len]⟩)
 | _=>cases e
noncomputable def blOf:D->Option Bool
 | .bl b=>some b
 | _=>none
noncomputable def zAm(f g:FD):FD:=λω=>(f ω).bind λd=>(blOf d).bind λc=>if c=true then g ω else some ki
noncomputable def vNot(f:FD):FD:=λω=>(f ω).bind λd=>(blOf d).map λc=>.bl (!c)
noncomputable def fIte(c:FT)(f g:FE):FE:=λω=>(c ω).bind λk=>if k=true then f ω else g ω
variable{fa fb:FD}
theorem q0P{op}(h:XD X a fa):XD X RM fa:=let ⟨t,h1,h2⟩:=h;⟨t,qkt h1,h2⟩
theorem q06(h:XD X a fa)(h':XD X k8 fb):XD X kj (zAm fa fb):=by
 obtain⟨t,h1,h2⟩:=h;obtain⟨u,h3,h4⟩:=h';refine⟨_,qjI h1 h3,eY⟩;obtain⟨x,q,e⟩:=bnd e;obtain⟨c,q2,e2⟩:=bnd e;clear e;refine h2 G0 H0 G ω σ H x _ o q λv G1 H1 x1 y1=>?_;cases x with
 | bl z=>
  cases q2;cases (show v=V.bl c from y1);refine⟨c,rfl,?_⟩;cases c with
  | true=>rw[jQ]at e2 ⊢;exact h4 G0 H0 G1 ω σ H1 d Q g9 e2 λv G2 H2 x2 y2=>k v G2 H2 eC y2
  | false=>cases e2;exact k _ G1 H1 x1 rfl
 | _=>cases q2
theorem qe5(h:XD X a fa):XD X pF (vNot fa):=by
 obtain⟨t,h1,h2⟩:=h;refine⟨_,qkf h1,eY⟩;obtain⟨x,q,e⟩:=bnd e;obtain⟨c,q2,e⟩:=mpd e;subst e;refine h2 G0 H0 G ω σ H x _ o q λv G1 H1 x1 y1=>?_;cases x with
 | bl z=>cases q2;cases (show v=V.bl c from y1);exact⟨c,rfl,KU⟩
 | _=>cases q2
theorem zCN.after{K:zC}{G H G1 H1 G2 H2:Hp}{r:R}{v:V}(x:Ext G H G1 H1)(y:zCN K H1 G2 H2 r v):zCN K H G2 H2 r v:=by
 cases r with
 | sh d=>exact y
 | fr ds=>obtain⟨l,vs,e1,e2,e3⟩:=y;exact⟨l,vs,e1,x.hh.free e2,e3⟩
 | vw ds=>exact y
theorem qel{fc:FT}{f g:FE}(hc:XT X c fc)(ha:XE X a f)(hb:XE X b g):XE X Uq (fIte fc f g):=by
 obtain⟨t,h1,h2⟩:=hc;obtain⟨u,h3,h4⟩:=ha;obtain⟨w,h5,h6⟩:=hb;refine⟨_,qfZ h1 h3 h5,ca⟩;obtain⟨z,q,e⟩:=bnd e;refine h2 G0 H0 G ω σ H z _ o q λG1 H1 x1=>?_;cases z with
 | true=>rw[jQ]at e ⊢;exact h4 G0 H0 G1 ω σ H1 r Q g9 e λv G2 H2 x2 y2=>k v G2 H2 eC Nt
 | false=>exact h6 G0 H0 G1 ω σ H1 r Q g9 e λv G2 H2 x2 y2=>k v G2 H2 eC Nt
end
def zAE(K:zC)(r:Gh)(op:La):Prop:=∀G H ds vs d(Q:VK),Xf G H->op ds=some d->VwA K G H ds vs ->
 (∀w G' H',Ext G H G' H'->zCN K H G' H' d w->Q w H')->r vs H Q
noncomputable def Xx(op:La)(g:FA):FE:=λω=>(g ω).bind op
section
variable{X:Cx}{e:vW}{es:List vW}{x:Str}{p pos:Pos}{r:List V->Hp->VK->Prop}{op:List D->Option R}{g:FA}{id T:String}
theorem q5B{t:TA}(hd:QI)(h:SimVA X.K t g):zC9 X.K VX abk:=by
 intro G0 H0 G ω σ H d Q o e k;obtain⟨ds,q,e⟩:=bnd e;refine h G0 H0 G ω σ H ds _ o q λvs G1 H1 x1 y1=>?_;exact hd G1 H1 ds vs d Q x1.gh e y1 λw G2 H2 x2 y2=>k w G2 H2 eC Nt
theorem qt(hc:WW X jm r)(hd:QI)(hg:Au)(hm:rJ)(hv:vm x=some jm)(ha:XVA X jK g)(hn:j7:= by decide)(hdb:aJ:=by decide)(he:aQ:=by rfl)(hpl:(vj pos im).any (·.1)=false:=by rfl):XE X cK abk:=by
 obtain⟨t,h1,h2⟩:=ha;exact⟨_,q1Q hc hg hm hv h1 hn hdb he hpl,q5B hd h2⟩
theorem qdn(hc:WW X Av r)(hd:QI)(hg:Au)(hm:rJ)(hv:vm x=some Av)(ha:XVA X jK g)(hn:j7:= by decide)(hdb:aJ:=by decide)(he:aQ:=by rfl)(hpl:(vj pos im).any (·.1)=false:=by rfl):XE X cK abk:=by
 obtain⟨t,h1,h2⟩:=ha;exact⟨_,q8i hc hg hm hv h1 hn hdb he hpl,q5B hd h2⟩
theorem VwA.one{K:zC}{G H:Hp}{d:D}{vs:a8}(h:VwA K G H [d] vs):∃v,vs=[v]/\Vw K G H d v:=by
 obtain⟨v,r,h1,h2,h3⟩:=h;cases (show r=[]from h3);exact⟨v,h1,h2⟩
theorem VwA.two{K:zC}{G H:Hp}{d e:D}{vs:a8}(h:VwA K G H [d,e] vs):∃v u,vs=[v,u]/\Vw K G H d v/\Vw K G H e u:=by
 obtain⟨v,r,h1,h2,h3⟩:=h;obtain⟨u,rfl,h4⟩:=VwA.one h3;exact Vt
noncomputable def Wj:List D->Option R
 | [.lst ds]=>↥Cp
 | [.tup ds]=>↥Cp
 | [.scr ns]=>↥aaD
 | _=>none
theorem qG{K:zC}:zAE K (λxs H Q=>∃p ys,xs=Rh/\K6/\Q Ea H) Wj:=by
 intro G H ds vs d Q s e hv k
 match ds,e with
 | [.lst ds],e=>
  cases e;obtain⟨v,rfl,h⟩:=hv.one;obtain⟨p,us,rfl,h1,h2⟩:=h.lst s;exact⟨p,us,rfl,.inl DU,k _ G H dU (by show V.int _=V.int _;rw[h2.len])⟩
 | [.tup ds],e=>
  cases e;obtain⟨v,rfl,h⟩:=hv.one;obtain⟨p,us,rfl,h1,h2⟩:=h.tup;exact⟨p,us,rfl,.inr Bh,k _ G H dU (by show V.int _=V.int _;rw[h2.len])⟩
 | [.scr ns],e=>
  cases e;obtain⟨v,rfl,h⟩:=hv.one;obtain⟨p,rfl,h1⟩:=h.scr;exact⟨p,_,rfl,.inl (s.seq h1),k _ G H dU (by show V.int _=V.int _;rw[zA])⟩
noncomputable def zCI:List D->Option R
 | [.int i]=>↥(.int (if i<0 then -i else i))
 | _=>none
theorem q6L{K:zC}:zAE K (λxs H Q=>∃i,xs=[gc]/\Q (.int (if i<0 then -i else i)) H) zCI:=by
 intro G H ds vs d Q s e hv k
 match ds,e with
 | [.int i],e=>
  cases e;obtain⟨v,rfl,h⟩:=hv.one;cases h.int;exact⟨i,rfl,pi⟩
noncomputable def zBV:List D->Option R
 | [.lst ds]=>some CD
 | [.tup ds]=>some CD
 | _=>none
theorem q7Q{K:zC}:zAE K (λxs H Q=>∃p ys,xs=Rh/\K6/\∀l,H l=none->Q cX OW) zBV:=by
 intro G H ds vs d Q s e hv k
 match ds,e with
 | [.lst ds],e=>
  cases e;obtain⟨v,rfl,h⟩:=hv.one;obtain⟨p,us,rfl,h1,h2⟩:=h.lst s;exact⟨p,us,rfl,.inl DU,nE⟩
 | [.tup ds],e=>
  cases e;obtain⟨v,rfl,h⟩:=hv.one;obtain⟨p,us,rfl,h1,h2⟩:=h.tup;exact⟨p,us,rfl,.inr Bh,nE⟩
noncomputable def allB:List D->Option Bool
 | []=>some true
 | .bl b::r=>(allB r).map λc=>b&&c
 | _=>none
noncomputable def zAr:List D->Option R
 | [.lst ds]=>(allB ds).map λb=>.sh IW
 | _=>none
noncomputable def zDD:List D->Option Int
 | []=>some 0
 | .int i::r=>(zDD r).map λc=>i+c
 | _=>none
noncomputable def zDB:List D->Option R
 | [.lst ds]=>(zDD ds).map λb=>.sh dy
 | _=>none
end
def rAll:List V->Hp->VK->Prop:=λxs H Q=>∃(p:vH) (bs:Qk),xs=Rh/\H p=some (.lst (bs.map V.bl))/\Q (.bl (bs.all id)) H
def rSum:List V->Hp->VK->Prop:=λxs H Q=>∃(p:vH) (ns:af),xs=Rh/\H p=some CA/\Q (.int ns.sum) H
section
variable{X:Cx}
theorem qbu:∀{bs:Qk}{us:a0},Xc (bs.map V.bl) us->us=bs.map Value.bool
 | [],_,r=>by cases r;rfl
 | b::bs,_,r=>by
  rw[zI]at r;cases r with
  | cons r1 r2=>cases r1;rw[qbu r2];rfl
theorem qeB{bs:Qk}:(za bs.length).all QF=bs.all id:=by
 induction bs with
 | nil=>rfl
 | cons b r ih=>
  rw[zJ,ZY,xz,YK,xz];have e:((λi=>(b::r).getD i false) ∘ Nat.succ)=λi=>r.getD i false:=by funext i;rfl
  rw[e,ih];rfl
theorem q0S(hc:cE):WW X aaH rAll:=by
 intro pins s σ H xs us Q I r h;obtain⟨p,bs,rfl,hp,q⟩:=h;obtain⟨u,rfl,rx⟩:=vals1 r;cases rx;obtain⟨its,n,rv,e,hz⟩:=I.lst hp;have ei:=qbu rv;have hlt:p<s.heap.objs.size:=zS e;refine call_all_walk Ja;refine⟨s.heap.objs.size,_,_,its.toArray.size,_,_,QF,rfl,Walks.list (by first|exact I.ok.hd hc|(show X.A.handled=none;exact I.ok.hd hc)) _ p LR its.toArray,Ll,λi v s' Q' E' hv hq=>?_,λh' tk hk=>?_⟩
 ·have hv':its[i]?=some v:=by simpa using hv
  rw[ei,ze]at hv';cases eb:bs[i]? with
  | none=>rw[eb]at hv';cases hv'
  | some b=>
   rw[eb]at hv';cases hv';have:bs.getD i false=b:=by rw[zT,eb];rfl
   have hq':Q' b s':=by rw[<- this];exact hq
   exact uR hq'
 ·have hl:its.toArray.size=bs.length:=by rw[zQ,ei,zA]
  rw[hl,qeB];exact⟨.bl _,H,I.kept (λb o z=>hk b o (λhm=>by
   have:b=s.heap.objs.size:=by simpa using hm
   subst this;exact vO (zS z) Kf) (zG _ z)),rfl,q⟩
theorem qcq:∀{ds:aW}{b:Bool},allB ds=some b->∃bs:List Bool,ds=bs.map D.bl/\bs.all id=b
 | [],_,e=>by cases e;exact abS
 | .bl c::r,b,e=>by
  obtain⟨k,q,e⟩:=mpd e;obtain⟨bs,h1,h2⟩:=qcq q;exact⟨c::bs,by rw[h1];rfl,by rw[xz,h2];exact e⟩
 | .non::_,_,e=>by cases e
 | .int _::_,_,e=>by cases e
 | .str _::_,_,e=>by cases e
 | .lst _::_,_,e=>by cases e
 | .tup _::_,_,e=>by cases e
 | .scr _::_,_,e=>by cases e
 | .exc _::_,_,e=>by cases e
 | .dic _ _::_,_,e=>by cases e
theorem qcz:∀{ds:aW}{b:Int},zDD ds=some b->∃bs:List Int,ds=bs.map D.int/\bs.sum=b
 | [],_,e=>by cases e;exact abS
 | .int c::r,b,e=>by
  obtain⟨k,q,e⟩:=mpd e;obtain⟨bs,h1,h2⟩:=qcz q;exact⟨c::bs,by rw[h1];rfl,by rw[zV,h2];exact e⟩
 | .non::_,_,e=>by cases e
 | .bl _::_,_,e=>by cases e
 | .str _::_,_,e=>by cases e
 | .lst _::_,_,e=>by cases e
 | .tup _::_,_,e=>by cases e
 | .scr _::_,_,e=>by cases e
 | .exc _::_,_,e=>by cases e
 | .dic _ _::_,_,e=>by cases e
theorem qbl{K:zC}{H:Hp}:∀{bs:Qk}{vs:a8},XN K H (bs.map D.bl) vs->vs=bs.map V.bl
 | [],_,h=>h
 | n::r,_,⟨v,vs,h1,h2,h3⟩=>by
  have:=qbl h3;have e:v=.bl n:=h2;rw[h1,this,e];rfl
theorem q2Z{K:zC}:zAE K rAll zAr:=by
 intro G H ds vs d Q s e hv k
 match ds,e with
 | [.lst ds],e=>
  obtain⟨b,q,e⟩:=mpd e;subst e;obtain⟨bs,rfl,rfl⟩:=qcq q;obtain⟨v,rfl,h⟩:=hv.one;obtain⟨p,us,rfl,h1,h2⟩:=h.lst s;exact⟨p,bs,rfl,by rw[h1,qbl h2],pi⟩
theorem q7k:∀(ns:af)(k:Nat),k<=ns.length->preSum ik k=(ns.take k).sum
 | _,0,_=>rfl
 | ns,k+1,h=>by
  have e:ns.take (k+1)=ns.take k++[ns.getD k 0]:=by
   rw[YL,VH,zT,VH];rfl
  show preSum ik k+ns.getD k 0=_;rw[q7k ns k ∅,e,xO];simp
theorem q57(hc:cE):WW X aaF rSum:=by
 intro pins s σ H xs us Q I r h;obtain⟨p,ns,rfl,hp,q⟩:=h;obtain⟨u,rfl,rx⟩:=vals1 r;cases rx;obtain⟨its,n,rv,e,hz⟩:=I.lst hp;have ia:=q2F rv;have hlen:its.length=ns.length:=by rw[<- rv.length,zA]
 have hlt:p<s.heap.objs.size:=zS e;refine call_sum_walkAnyS Ja;refine⟨s.heap.objs.size,_,_,_,its.toArray.size,_,_,ik,rfl,(Walks.list (by first|exact I.ok.hd hc|(show X.A.handled=none;exact I.ok.hd hc)) _ p LR its.toArray).toS,Ll,kW,λi v hv=>PyProof.Rows.IntsAre.int_at ia i v ⇑hv,λs' t' hm=>?_⟩
 ·show b<(s.heap.push _).objs.size
  rw[yh];rcases zH.mp hb with rfl|hb
  ·exact yi _
  ·rw[zU.mp hb];exact yX hlt
 ·rw[K9]
  have es:preSum ik its.toArray.size=ns.sum:=by
   rw[zQ,hlen,q7k ns _ bZ,wV]
  rw[es];exact⟨.int _,H,I.kept (λb o z=>hm.heap b o (λhmm=>by
   have:b=s.heap.objs.size:=by simpa using hmm
   subst this;exact vO (zS z) Kf) (zG _ z)),bw,q⟩
theorem q9W{K:zC}:zAE K rSum zDB:=by
 intro G H ds vs d Q s e hv k
 match ds,e with
 | [.lst ds],e=>
  obtain⟨b,q,e⟩:=mpd e;subst e;obtain⟨bs,rfl,rfl⟩:=qcz q;obtain⟨v,rfl,h⟩:=hv.one;obtain⟨p,us,rfl,h1,h2⟩:=h.lst s;exact⟨p,bs,rfl,by rw[h1,h2.of_ints],pi⟩
end
inductive Ty where
 | non|bl|int|str|lst|tup|dic
noncomputable def Ty.n:Ty->String
 | .non => "NoneType"
 | .bl => "bool"
 | .int => "int"
 | .str => "str"
 | .lst => "list"
 | .tup => "tuple"
 | .dic => "dict"
noncomputable def tyD:D->Ty
 | .non=>.non
 | .bl _=>.bl
 | .int _=>.int
 | .str _=>.str
 | .lst _=>.lst
 | .tup _=>.tup
 | .scr _=>.lst
 | .exc _=>.non
 | .dic _ _=>.non
noncomputable def zCH:Ty->Ty->Bool
 | .non,.non=>true
 | .bl,.bl=>true
 | .bl,.int=>true
 | .int,.int=>true
 | .str,.str=>true
 | .lst,.lst=>true
 | .tup,.tup=>true
 | _,_=>false
noncomputable def zAp(c:Ty)(f:FD):FE:=λω=>(f ω).bind λd=>match d with
 | .scr _=>none
 | .exc _=>none
 | .dic _ _=>none
 | d=>↥Ec
def IsT(K:zC)(c:Ty):Prop:=∀t:Ty,t≠.dic->Zs K (.type t.n) (.type c.n)=some (zCH t c)
def rIsi(K:zC):List V->Hp->VK->Prop:=λxs H Q=>∃x c T b,xs=[x,.ty c]/\TyOf K H x Av/\Zs K Av (.type c)=some b/\Q IW H
section
variable{X:Cx}{a:vW}{f:FD}
theorem qfV:WW X OM (rIsi X.K):=by
 intro pins s σ H xs us Q I r h;obtain⟨x,c,T,b,rfl,ty,e,q⟩:=h;obtain⟨u1,u2,rfl,r2,r3⟩:=vals2 r;cases (show u2=Value.type c from r3);exact qeI I r2 ty e λtk=>⟨IW,H,I.tok tk,rfl,q⟩
theorem qiM{K:zC}{G H:Hp}{d:D}{v:V}(h:JW)(s:BF)(n:∀ns,d≠.scr ns)(n':∀c,d≠.exc c)(n'':∀ks ds,d≠.dic ks ds):TyOf K H v (.type (tyD d).n):=by
 cases d with
 | non=>cases h.non;exact .non
 | bl b=>cases h.bl;exact .bl b
 | int i=>cases h.int;exact .int i
 | str x=>cases h.str;exact .str x
 | lst ds=>obtain⟨p,us,rfl,h1,_⟩:=h.lst s;exact .lst h1
 | tup ds=>obtain⟨p,us,rfl,h1,_⟩:=h.tup;exact .tup ib
 | scr ns=>exact vO rfl (n ns)
 | exc c=>exact vO rfl (n' c)
 | dic ks ds=>exact vO rfl (n'' ks ds)
theorem qjR(d:D):tyD d≠.dic:=by cases d <;> exact λz=>nomatch z
theorem q0f{c:Ty}{x:Str}{p q pos:Pos}(ha:de)(hk:IsT X.K c)(hg:Gl X "isinstance")(hm:X.mg "isinstance" = none)(hgc:Au)(hmc:rJ)(hvc:vm x=some (.type c.n))(hnx:j7:= by decide)(hdx:aJ:=by decide)(he:vK [a,Gs] X.env=bK::vK [Gs] X.env:=by rfl)(he2:vK [Gs] X.env=(false,eval Gs X.env)::vK [] X.env:=by rfl)(hpl:(vj pos (vK [Gs] X.env)).any (·.1)=false:=by rfl):
  XE X (.Call (.Name "isinstance" p) [a,Gs] [] pos) (zAp c f):=by
 obtain⟨t,h1,h2⟩:=ha;refine⟨_,q1Q qfV hg hm PyProof.Rows.boot_isinstance (qA h1 (qA (qi6 hgc hmc hvc (v:=.ty c.n) rfl hnx hdx) qx he2) he) (by decide) (by decide) he hpl,ca⟩;obtain⟨d,q,e⟩:=bnd e;refine h2 G0 H0 G ω σ H d _ o q λv G1 H1 x1 y1=>?_;have n:∀ns,d≠.scr ns:=λns z=>by subst z;cases e
 have n':∀c,d≠.exc c:=λns z=>by subst z;cases e
 have n'':∀ks ds,d≠.dic ks ds:=λks ds z=>by subst z;cases e
 have e':r=.sh Ec:=by
  cases d <;> first|(cases e;rfl)|cases e
 subst e';exact⟨v,c.n,(tyD d).n,zCH (tyD d) c,rfl,qiM y1 x1.gh n n' n'',hk _ (qjR d),KU⟩
end
inductive Out where
 | nx|bk|ct|rt (r:O)
noncomputable abbrev FS:=WSt->Option dG
def zBf(K:zC)(H0 G':Hp)(E:Ends):Out->St->Hp->Prop
 | .nx,σ,H=>E.nx σ H
 | .bk,σ,H=>E.bk σ H
 | .ct,σ,H=>E.ct σ H
 | .rt r,_,H=>∀v,zCN K H0 G' H r.r v->E.rt v H
def SimS(K:zC)(t:TS)(f:FS):Prop:=∀G0 H0 G ω σ H out ω'(E:Ends),Own K G0 H0 G ω σ H->f ω=some JL ->
 (∀G' σ' H',Own K G0 H0 G' ω' σ' H'->Xf G G'->zBf K H0.hp G' E out σ' H')->t E σ H
def XS(X:Cx)(st:vp)(f:FS):Prop:=∃t,PS X st t/\SimS X.K t f
def XSs(X:Cx)(st:Ck)(f:FS):Prop:=∃t,PSs X st t/\SimS X.K t f
noncomputable def WI:FS:=λω=>some Cz
noncomputable def XR(f g:FS):FS:=λω=>(f ω).bind λp=>match p.1 with
 | .nx=>g p.2
 | o=>some (o,p.2)
section
variable{X:Cx}{st:vp}{rest:List vp}{f g:FS}
theorem qr:XSs X [] WI:=⟨_,qiJ,λG0 H0 G ω σ H out ω' E o e k=>by cases e;exact k G σ H o gC⟩
theorem qc(h:XS X st f):XSs X [st] f:=let ⟨t,h1,h2⟩:=h;⟨t,q0K h1,h2⟩
theorem qb(h:XS X st f)(h':XSs X rest g):XSs X (st::rest) (XR f g):=by
 obtain⟨t,h1,h2⟩:=h;obtain⟨u,h3,h4⟩:=h';refine⟨_,qI h1 h3,bV⟩;obtain⟨⟨o1,ω1⟩,q,e⟩:=bnd e;refine h2 G0 H0 G ω σ H o1 ω1 _ o q λG1 σ1 H1 w1 g1=>?_;cases o1 with
 | nx=>exact h4 G0 H0 G1 ω1 σ1 H1 out ω' E w1 e λG2 σ2 H2 w2 g2=>k G2 σ2 H2 w2 NH
 | bk=>cases e;exact k G1 σ1 H1 w1 g1
 | ct=>cases e;exact k G1 σ1 H1 w1 g1
 | rt r=>cases e;exact k G1 σ1 H1 w1 g1
end
section
variable{K:zC}{G0:Hp}{H0:Fr}{G:Hp}{ω:WSt}{σ:St}{H:Hp}
theorem qi{α:Type}{l:bB}{i j:Nat}{x y:α}(h:(l.set i x)[j]?=some y):(i=j/\i<l.length/\y=x)\/(i≠j/\l[j]?=some y):=by
 rw[List.getElem?_set]at h
 by_cases e:i=j
 ·rw[vF e]at h
  by_cases z:i<l.length
  ·rw[fQ]at h;exact .inl ⟨e,z,(zw h).symm⟩
  ·rw[fI]at h;cases h
 ·rw[vG e]at h;exact .inr ⟨e,h⟩
theorem q28{α:Type}{l:bB}{i:Nat}{x:α}(h:i<l.length):(l.set i x)[i]?=some x:=yk h
theorem WC.set{i:Nat}{w:cb}{v:Ad}(o:kh)(hw:∀ds,w≠some (.pw ds))(hv:∀ds,w=some (.ow ds)->∀(j:Nat)es,ω[j]?=some k9->v≠some (.ref (H0.pin j))):WC K H0 G (ω.set i w) (σ.set i v) H:=by
 intro j ds hj;rcases qi hj with⟨rfl,hl,z⟩|⟨ne,z⟩
 ·exact vO z.symm (hw ds)
 ·obtain⟨vs,h1,h2,h3,h4,h5,h6,h7⟩:=o j ds z
  refine⟨vs,by rw[GY];exact h1,h2,h3,h4,h5,λk es hk=>?_,λk es hk sk=>?_⟩
  ·rcases qi hk with⟨rfl,hl',z'⟩|⟨ne',z'⟩
   ·exact vO z'.symm (hw es)
   ·exact h6 k es z'
  ·rcases qi hk with⟨rfl,hl',z'⟩|⟨ne',z'⟩
   ·rcases qi sk with⟨_,_,e⟩|⟨ne2,_⟩
    ·exact hv es z'.symm j ds z e.symm
    ·exact ne2 rfl
   ·rw[Lq]at sk;exact h7 k es z' sk
theorem WC.setW{i:Nat}{w:cb}(o:kh)(hw:∀ds,w≠some (.pw ds))(ho:∀ds,w≠some (.ow ds)):WC K H0 G (ω.set i w) σ H:=by
 intro j ds hj;rcases qi hj with⟨rfl,hl,z⟩|⟨ne,z⟩
 ·exact vO z.symm (hw ds)
 ·obtain⟨vs,h1,h2,h3,h4,h5,h6,h7⟩:=o j ds z
  refine AA
  ·rcases qi hk with⟨rfl,hl',z'⟩|⟨ne',z'⟩
   ·exact vO z'.symm (hw es)
   ·exact h6 k es z'
  ·rcases qi hk with⟨rfl,hl',z'⟩|⟨ne',z'⟩
   ·exact vO z'.symm (ho es)
   ·exact h7 k es z'
theorem WC.upd{p:vH}{ob:HO}(o:kh)(hp:∀(j:Nat)es,ω[j]?=some k9->H0.pin j≠p):WC K H0 G ω σ (upd H p ob):=by
 intro j ds hj;obtain⟨vs,h1,h2,h3⟩:=o j ds hj;exact⟨vs,h1,by rw[qd (hp j ds hj)];exact h2,h3⟩
theorem WC.grow{p:vH}{ob:HO}(o:kh)(g:Uh)(hp:∀(j:Nat)es,ω[j]?=some k9->H0.pin j≠p):WC K H0 (L2.upd G p ob) ω σ H:=by
 intro j ds hj;obtain⟨vs,h1,h2,h3,h4,h5,h6⟩:=o j ds hj;exact⟨vs,h1,h2,by rw[qd (hp j ds hj)];exact h3,h4,h5.mono (X8 g _),h6⟩
theorem WC.ne_ow{i:Nat}{ds:aW}{l:vH}(o:kh)(hi:ω[i]?=some cU)(hσ:σ[i]?=some Cu):∀(j:Nat)es,ω[j]?=some k9->H0.pin j≠l:=λj es hj y=>by
 obtain⟨_,_,_,_,_,_,_,h7⟩:=o j es hj;exact h7 i ds hi (by rw[y];exact hσ)
theorem WC.ne_ob{l:vH}(o:kh)(h:∀vs,H l≠some gP):∀(j:Nat)es,ω[j]?=some k9->H0.pin j≠l:=λj es hj y=>by
 obtain⟨vs,_,h2,_⟩:=o j es hj;exact h vs (by rw[<- y];exact h2)
theorem WC.setL{i:Nat}{ds es:aW}(o:kh)(hi:ω[i]?=some cU):WC K H0 G (ω.set i Dn) σ H:=by
 intro j ds' hj;rcases qi hj with⟨rfl,hl,z⟩|⟨ne,z⟩
 ·cases z
 ·obtain⟨vs,h1,h2,h3,h4,h5,h6,h7⟩:=o j ds' z
  refine AA
  ·rcases qi hk with⟨rfl,hl',z'⟩|⟨ne',z'⟩
   ·cases z'
   ·exact h6 k es z'
  ·rcases qi hk with⟨rfl,hl',z'⟩|⟨ne',z'⟩
   ·exact h7 i ds hi
   ·exact h7 k es z'
theorem Own.od_set{i:Nat}{w:cb}{v:Ad}(o:bS)(h:∀ks ds,w≠some (.od ks ds)):∀(j:Nat)ks ds,(ω.set i w)[j]?=some jx->∃p vs,(σ.set i v)[j]?=some eP/\H p=some Jq/\G p=none/\H0 p=none/\ks.length=ds.length/\XN K G ds vs /\
  ∀(k:Nat)ks' es,(ω.set i w)[k]?=some Fv->(σ.set i v)[k]?=some eP->j=k:=by
 intro j ks ds hj;rcases qi hj with⟨rfl,hl,z⟩|⟨ne,z⟩
 ·exact vO z.symm (h ks ds)
 ·obtain⟨p,vs,h1,h2,h3,h4,h5,h6,h7⟩:=o.od j ks ds z
  refine⟨p,vs,by rw[GY];exact h1,h2,h3,h4,h5,h6,λk ks' es hk sk=>?_⟩;rcases qi hk with⟨rfl,hl',z'⟩|⟨ne',z'⟩
  ·exact vO z'.symm (h ks' es)
  ·rw[Lq]at sk
   exact h7 k ks' es z' sk
theorem Own.setSh{i:Nat}{d:D}{v:V}(o:bS)(h:Rep K G d v):Own K G0 H0 G je mT H:=by
 refine⟨o.ext,by rw[yg,yg,o.len],o8,λj ds hj=>?_,λj k ds es l hj hk sj sk=>?_,o.od_set (λ_ _ z=>by cases z),o.pw.set (λ_ z=>by cases z) (λ_ z=>by cases z)⟩
 ·rcases qi hj with⟨rfl,hl,z⟩|⟨ne,z⟩
  ·cases z;exact⟨v,q28 (by rw[<- o.len];exact hl),h⟩
  ·obtain⟨u,h1,h2⟩:=o.sh j e z
   exact⟨u,by rw[GY];exact h1,h2⟩
 ·rcases qi hj with⟨rfl,hl,z⟩|⟨ne,z⟩
  ·cases z
  ·obtain⟨l,vs,h1,h2⟩:=o.ow j ds z
   exact⟨l,vs,by rw[GY];exact h1,h2⟩
 ·rcases qi hj with⟨rfl,hl,z⟩|⟨ne,z⟩
  ·cases z
  ·rcases qi hk with⟨rfl,hl',z'⟩|⟨ne',z'⟩
   ·cases z'
   ·rw[GY]at sj
    rw[Lq]at sk;exact o.nd j k ds es l z z' sj sk
theorem Own.setOw{i:Nat}{ds:aW}{l:vH}{vs:a8}(o:bS)(h1:H l=some gP)(h2:G l=none)(h3:H0 l=none)(h4:pj)(h5:∀(j:Nat)es,ω[j]?=some Dn->σ[j]?≠some Cu)(h6:∀(j:Nat)es,ω[j]?=some k9->H0.pin j≠l):Own K G0 H0 G OS (σ.set i Cu) H:=by
 refine⟨o.ext,by rw[yg,yg,o.len],o8,λj es hj=>?_,Lo,o.od_set (λ_ _ z=>by cases z),o.pw.set (λ_ z=>by cases z) (λ_ _ j es hj y=>h6 j es hj (by cases y;rfl))⟩
 ·rcases qi hj with⟨rfl,hl,z⟩|⟨ne,z⟩
  ·cases z
  ·obtain⟨u,q1,q2⟩:=o.sh j e z
   exact⟨u,by rw[GY];exact q1,q2⟩
 ·rcases qi hj with⟨rfl,hl,z⟩|⟨ne,z⟩
  ·cases z;exact⟨l,vs,q28 (by rw[<- o.len];exact hl),h1,h2,h3,h4⟩
  ·obtain⟨m,us,q1,q2⟩:=o.ow j es z
   exact⟨m,us,by rw[GY];exact q1,q2⟩
 ·rcases qi hj with⟨e1,hl,z⟩|⟨ne,z⟩
  ·rcases qi hk with⟨e2,hl',z'⟩|⟨ne',z'⟩
   ·exact e1.symm.trans e2
   ·rw[Lq]at sk
    subst e1;rw[q28 (by rw[<- o.len];exact hl)]at sj;cases sj;exact vO sk (h5 k fs z')
  ·rcases qi hk with⟨e2,hl',z'⟩|⟨ne',z'⟩
   ·rw[GY]at sj
    subst e2;rw[q28 (by rw[<- o.len];exact hl')]at sk;cases sk;exact vO sj (h5 j es z)
   ·rw[GY]at sj
    rw[Lq]at sk;exact o.nd j k es fs m z z' sj sk
theorem Own.mut{i:Nat}{ds es:aW}{l:vH}{vs us:a8}(o:bS)(hi:ω[i]?=some cU)(hσ:σ[i]?=some Cu)(h1:H l=some gP)(h2:G l=none)(h3:H0 l=none)(h4:Rl):
  Own K G0 H0 G (ω.set i Dn) σ (upd H l (.lst us)):=by
 have ho:i<ω.length:=(zj.mp hi).1;refine⟨pQ,by rw[yg,o.len],o8,HF,kU,KD,(o.pw.upd (o.pw.ne_ow hi hσ)).setL hi⟩
 ·rcases qi hj with⟨rfl,hl,z⟩|⟨ne,z⟩
  ·cases z
  ·exact o.sh j e z
 ·rcases qi hj with⟨rfl,hl,z⟩|⟨ne,z⟩
  ·cases z;exact⟨l,us,hσ,qe,h2,h3,h4⟩
  ·obtain⟨m,ws,q1,q2,q3,q4,q5⟩:=o.ow j fs z
   have hm:m≠l:=λy=>ne (o.nd i j ds fs l hi z hσ (by rw[<- y];exact q1));exact⟨m,ws,q1,by rw[L6];exact q2,q3,q4,q5⟩
 ·rcases qi hj with⟨e1,hl,z⟩|⟨ne,z⟩
  ·rcases qi hk with⟨e2,hl',z'⟩|⟨ne',z'⟩
   ·exact e1.symm.trans e2
   ·subst e1;exact o.nd i k ds gs m hi z' sj sk
  ·rcases qi hk with⟨e2,hl',z'⟩|⟨ne',z'⟩
   ·subst e2;exact o.nd j i fs ds m z hi sj sk
   ·exact o.nd j k fs gs m z z' sj sk
 ·rcases qi hj with⟨e1,hl,z⟩|⟨ne,z⟩
  ·cases z
  ·obtain⟨p,ws,q1,q2,q3,q4,q5,q6,q7⟩:=o.od j ks fs z
   have hp:p≠l:=λy=>by rw[y,h1]at q2;cases q2
   refine⟨p,ws,q1,by rw[qd hp];exact q2,q3,q4,q5,q6,λk ks' es hk sk=>?_⟩;rcases qi hk with⟨e2,hl',z'⟩|⟨ne',z'⟩
   ·cases z'
   ·exact q7 k ks' es z' sk
theorem Own.setOd{i:Nat}{ks:af}{ds:aW}{p:vH}{vs:a8}(o:bS)(h1:H p=some Jq)(h2:Uh)(h3:H0 p=none)(h4:ks.length=ds.length)(h5:pj)(h6:∀(j:Nat)ks' es,ω[j]?=some Fv->σ[j]?≠some eP):Own K G0 H0 G (ω.set i jx) (σ.set i eP) H:=by
 refine⟨o.ext,by rw[yg,yg,o.len],o8,λj es hj=>?_,Lo,aaS,o.pw.set (λ_ z=>by cases z) (λ_ z=>by cases z)⟩
 ·rcases qi hj with⟨rfl,hl,z⟩|⟨ne,z⟩
  ·cases z
  ·obtain⟨u,q1,q2⟩:=o.sh j e z
   exact⟨u,by rw[GY];exact q1,q2⟩
 ·rcases qi hj with⟨rfl,hl,z⟩|⟨ne,z⟩
  ·cases z
  ·obtain⟨m,us,q1,q2⟩:=o.ow j es z
   exact⟨m,us,by rw[GY];exact q1,q2⟩
 ·rcases qi hj with⟨e1,hl,z⟩|⟨ne,z⟩
  ·cases z
  ·rcases qi hk with⟨e2,hl',z'⟩|⟨ne',z'⟩
   ·cases z'
   ·rw[GY]at sj
    rw[Lq]at sk;exact o.nd j k es fs m z z' sj sk
 ·rcases qi hj with⟨rfl,hl,z⟩|⟨ne,z⟩
  ·cases z
   refine⟨p,vs,q28 (by rw[<- o.len];exact hl),h1,h2,h3,h4,h5,λk ks'' fs hk sk=>?_⟩;rcases qi hk with⟨e2,hl',z'⟩|⟨ne',z'⟩
   ·exact e2
   ·rw[Lq]at sk
    exact vO sk (h6 k ks'' fs z')
  ·obtain⟨p',vs',q1,q2,q3,q4,q5,q6,q7⟩:=o.od j ks' es z
   refine⟨p',vs',by rw[GY];exact q1,q2,q3,q4,q5,q6,λk ks'' fs hk sk=>?_⟩;rcases qi hk with⟨e2,hl',z'⟩|⟨ne',z'⟩
   ·subst e2
    rw[q28 (by rw[<- o.len];exact hl')]at sk;cases sk;exact vO q1 (h6 j ks' es z)
   ·rw[Lq]at sk
    exact q7 k ks'' fs z' sk
theorem Own.mutD{i:Nat}{ks ks2:af}{ds es:aW}{p:vH}{vs us:a8}(o:bS)(hi:ω[i]?=some jx)(hσ:σ[i]?=some eP)(h1:H p=some Jq)(h2:Uh)(h3:H0 p=none)(h4:ks2.length=es.length)(h5:Rl):
  Own K G0 H0 G (ω.set i (some (.od ks2 es))) σ (upd H p (.dK (kvsOf ks2 us))):=by
 have ho:i<ω.length:=(zj.mp hi).1;refine⟨pQ,by rw[yg,o.len],o8,HF,kU,λj ks' fs hj=>?_,(o.pw.upd (o.pw.ne_ob λvs z=>by rw[h1]at z;cases z)).setW (λ_ z=>by cases z) (λ_ z=>by cases z)⟩
 ·rcases qi hj with⟨rfl,hl,z⟩|⟨ne,z⟩
  ·cases z
  ·exact o.sh j e z
 ·rcases qi hj with⟨rfl,hl,z⟩|⟨ne,z⟩
  ·cases z
  ·obtain⟨m,ws,q1,q2,q3,q4,q5⟩:=o.ow j fs z
   have hm:m≠p:=λy=>by rw[y,h1]at q2;cases q2
   exact⟨m,ws,q1,by rw[L6];exact q2,q3,q4,q5⟩
 ·rcases qi hj with⟨e1,hl,z⟩|⟨ne,z⟩
  ·cases z
  ·rcases qi hk with⟨e2,hl',z'⟩|⟨ne',z'⟩
   ·cases z'
   ·exact o.nd j k fs gs m z z' sj sk
 ·obtain⟨p0,vs0,r1,r2,r3,r4,r5,r6,r7⟩:=o.od i ks ds hi
  rw[hσ]at r1;cases r1;rcases qi hj with⟨rfl,hl,z⟩|⟨ne,z⟩
  ·cases z
   refine⟨p,us,hσ,qe,h2,h3,h4,h5,λk ks'' gs hk sk=>?_⟩;rcases qi hk with⟨e2,hl',z'⟩|⟨ne',z'⟩
   ·exact e2
   ·exact r7 k ks'' gs z' sk
  ·obtain⟨q,ws,q1,q2,q3,q4,q5,q6,q7⟩:=o.od j ks' fs z
   have hp:q≠p:=λy=>ne (r7 j ks' fs z (by rw[<- y];exact q1));refine⟨q,ws,q1,by rw[qd hp];exact q2,q3,q4,q5,q6,λk ks'' gs hk sk=>?_⟩;rcases qi hk with⟨e2,hl',z'⟩|⟨ne',z'⟩
   ·subst e2
    rw[hσ]at sk;cases sk;exact vO rfl hp
   ·exact q7 k ks'' gs z' sk
noncomputable def share(i:Nat)(ω:WSt):WSt:=match ω[i]? with
 | some (some (.ow ds))=>ω.set i ↥eS
 | some (some (.od ks ds))=>ω.set i ↥De
 | _=>ω
theorem Own.share(i:Nat)(o:bS):(∃G',Xf G G'/\Own K G0 H0 G' O0 σ H)\/∃p kvs,σ[i]?=some eP/\H p=some ci/\∀ob,∃G',Xf G G'/\Own K G0 H0 G' O0 σ CI:=by
 unfold Hk.share;cases q:ω[i]? with
 | none=>exact .inl Ju
 | some w=>
  cases w with
  | none=>exact .inl Ju
  | some w=>
   cases w with
   | sh d=>exact .inl Ju
   | pw ds=>exact .inl Ju
   | ow ds=>
    obtain⟨l,vs,q1,q2,q3,q4,q5⟩:=o.ow i ds q;have s1:Xf G (upd G l gP):=X8 q3 _;have ho:i<ω.length:=(zj.mp q).1;refine .inl ⟨upd G l gP,s1,⟨aa0,QG,o.ext.hh,HG⟩,by rw[yg,o.len],o8,HF,kU,KD,(o.pw.grow q3 (o.pw.ne_ow q q1)).setW (λ_ z=>by cases z) (λ_ z=>by cases z)⟩
    ·by_cases hb:b=l
     ·subst hb;rw[qe]at z;rw[q2];exact z
     ·rw[qd hb]at z;exact o.ext.gh b u z
    ·rw[qd (λhb=>z2 (by rw[hb];exact q4))];exact o.ext.new b z1 z2
    ·rcases qi hj with⟨rfl,hl,z⟩|⟨ne,z⟩
     ·cases z;exact⟨_,q1,l,vs,rfl,qe,q5.mono s1⟩
     ·obtain⟨u,r1,r2⟩:=o.sh j e z
      exact RT
    ·rcases qi hj with⟨rfl,hl,z⟩|⟨ne,z⟩
     ·cases z
     ·obtain⟨m,ws,r1,r2,r3,r4,r5⟩:=o.ow j fs z
      have hm:m≠l:=λy=>ne (o.nd i j ds fs l q z q1 (by rw[<- y];exact r1));exact⟨m,ws,r1,r2,by rw[L6];exact r3,r4,r5.mono s1⟩
    ·rcases qi hj with⟨e1,hl,z⟩|⟨ne,z⟩
     ·cases z
     ·rcases qi hk with⟨e2,hl',z'⟩|⟨ne',z'⟩
      ·cases z'
      ·exact o.nd j k fs gs m z z' sj sk
    ·rcases qi hj with⟨e1,hl,z⟩|⟨ne,z⟩
     ·cases z
     ·obtain⟨m,ws,r1,r2,r3,r4,r5,r6,r7⟩:=o.od j ks fs z
      have hm:m≠l:=λy=>by rw[y,q2]at r2;cases r2
      refine⟨m,ws,r1,r2,by rw[L6];exact r3,r4,r5,r6.mono s1,λk ks' es hk sk=>?_⟩;rcases qi hk with⟨e2,hl',z'⟩|⟨ne',z'⟩
      ·cases z'
      ·exact r7 k ks' es z' sk
   | od ks0 ds=>
    obtain⟨l,vs,q1,q2,q3,q4,q6,q5,q7⟩:=o.od i ks0 ds q;refine .inr ⟨l,_,q1,q2,λob=>?_⟩;have s1:Xf G EA:=X8 q3 _;have ho:i<ω.length:=(zj.mp q).1;refine⟨EA,s1,⟨aa0,zAn o.ext.gh _,Xg o.ext.hh q4 _,HG⟩,by rw[yg,o.len],o8,HF,kU,KD,((o.pw.upd (o.pw.ne_ob λvs z=>by rw[q2]at z;cases z)).grow q3 (o.pw.ne_ob λvs z=>by rw[q2]at z;cases z)).setW (λ_ z=>by cases z) (λ_ z=>by cases z)⟩
    ·rw[qd (λhb=>z2 (by rw[hb];exact q4))];exact o.ext.new b z1 z2
    ·rcases qi hj with⟨rfl,hl,z⟩|⟨ne,z⟩
     ·cases z;exact⟨_,q1,l,vs,rfl,⟨ob,qe⟩,q6,q5.mono s1⟩
     ·obtain⟨u,r1,r2⟩:=o.sh j e z
      exact RT
    ·rcases qi hj with⟨rfl,hl,z⟩|⟨ne,z⟩
     ·cases z
     ·obtain⟨m,ws,r1,r2,r3,r4,r5⟩:=o.ow j fs z
      have hm:m≠l:=λy=>by rw[y,q2]at r2;cases r2
      exact⟨m,ws,r1,by rw[L6];exact r2,by rw[L6];exact r3,r4,r5.mono s1⟩
    ·rcases qi hj with⟨e1,hl,z⟩|⟨ne,z⟩
     ·cases z
     ·rcases qi hk with⟨e2,hl',z'⟩|⟨ne',z'⟩
      ·cases z'
      ·exact o.nd j k fs gs m z z' sj sk
    ·rcases qi hj with⟨e1,hl,z⟩|⟨ne,z⟩
     ·cases z
     ·obtain⟨m,ws,r1,r2,r3,r4,r5,r6,r7⟩:=o.od j ks fs z
      have hm:m≠l:=λy=>ne (q7 j ks fs z (by rw[<- y];exact r1));refine⟨m,ws,r1,by rw[L6];exact r2,by rw[L6];exact r3,r4,r5,r6.mono s1,λk ks' es hk sk=>?_⟩;rcases qi hk with⟨e2,hl',z'⟩|⟨ne',z'⟩
      ·cases z'
      ·exact r7 k ks' es z' sk
end
theorem Inv.freeze{X:Cx}{pins:ay}{σ:St}{H:Hp}{s:vC}{p:vH}{kvs:eM}(I:aq)(hp:H p=some ci):∃ob,Inv X pins σ CI s:=by
 have ok:=I.hok p _ hp;obtain⟨_,_,_,_,ob,_,_,e,_⟩:=id ok;have stay:∀b u,Xh X.prog X.w H s.heap b u->Xh X.prog X.w CI s.heap b u:=λb u x=>
  x.stay No (λc q=>by rw[qd (λz=>by rw[z,hp]at q;cases q)];exact q) λc xs q=>by rw[qd (λz=>by rw[z,hp]at q;cases q)];exact q
 refine⟨ob,I.step (H':=upd H p iE) (h':=s.heap) (g':=s.gens) (d':=s.drawn) (t':=s.toks) (ch:=[]) (λ_ z=>nomatch z) (λ_ _ _ _ _ e _=>e) (λ_ o _ _ _ e _=>⟨o.slots,e⟩) (λb o _ _ n=>by rw[qd (λz=>by rw[z,hp]at n;cases n)];exact n) (λ_ o _ e=>GR)
  (λb xs q=>by rw[qd (λz=>by rw[z,hp]at q;cases q)];exact q) (λb o u q=>by rw[qd (λz=>by rw[z,hp]at q;cases q)];exact q) (λb ps q=>⟨#[],by rw[qd (λz=>by rw[z,hp]at q;cases q),q];simp⟩) (λ_ hm=>hm) (λb u q=>?_) I.bare⟩
 by_cases z:b=p
 ·subst z
  rw[qe]at q;cases q;exact⟨e,stay _ _ ok⟩
 ·rw[qd z]at q
  exact stay b u (I.hok b u q)
theorem q7f{X:Cx}{sts:Ck}{t:TS}(i:Nat)(h:PSs X sts t):PSs X sts (λD σ H=>∃p kvs,σ[i]?=some eP/\H p=some ci/\∀ob,t D σ CI):=by
 intro pins s σ H D I q;obtain⟨p,kvs,_,hp,q⟩:=q;obtain⟨ob,I'⟩:=Inv.freeze I hp;exact h pins s σ _ D I' (q ob)
noncomputable def X1(i:Nat)(f:FS):FS:=λω=>f O0
theorem qT{X:Cx}{sts:Ck}{f:FS}(i:Nat)(h:XSs X sts f):XSs X sts (X1 i f):=by
 obtain⟨t,h1,h2⟩:=h;refine⟨λD σ H=>t D σ H\/∃p kvs,σ[i]?=some eP/\H p=some ci/\∀ob,t D σ CI,λpins s σ H D I q=>?_,λG0 H0 G ω σ H out ω' E o e k=>?_⟩
 ·rcases q with q|q
  ·exact h1 pins s σ H D I q
  ·exact q7f i h1 pins s σ H D I q
 ·rcases o.share i with⟨G1,g1,o1⟩|⟨p,kvs,z1,z2,z3⟩
  ·exact .inl (h2 G0 H0 G1 _ σ H out ω' E o1 e λG2 σ2 H2 w2 g2=>k G2 σ2 H2 w2 NH)
  ·refine .inr ⟨p,kvs,z1,z2,λob=>?_⟩
   obtain⟨G1,g1,o1⟩:=z3 ob;exact h2 G0 H0 G1 _ σ _ out ω' E o1 e λG2 σ2 H2 w2 g2=>k G2 σ2 H2 w2 NH
noncomputable def setR(i:Nat)(r:R)(ω:WSt):Option WSt:=match r with
 | .sh d=>some je
 | .fr ds=>some OS
 | .vw _=>none
noncomputable def Xl(i:Nat)(f:FE):FS:=λω=>(f ω).bind λr=>(setR i r ω).map λw=>Jp
section
variable{X:Cx}{e:vW}{f:FE}{pos pos':Pos}
theorem qbK{i:Nat}{t:TE}(h:zC9 X.K t f):SimS X.K (zBE t (WU i)) (Xl i f):=by
 intro G0 H0 G ω σ H out ω' E o e k;obtain⟨r,q,e⟩:=bnd e;obtain⟨w,q2,e⟩:=mpd e;cases e;refine h G0 H0 G ω σ H r _ o q λv G1 H1 x1 y1=>?_;have o1:=o.keep x1;show E.nx mT H1;cases r with
 | sh d=>cases q2;exact k G1 _ H1 (o1.setSh y1) x1.gg
 | fr ds=>
  cases q2;obtain⟨l,vs,rfl,e2,e3,e4,e5⟩:=y1;refine k G1 _ H1 (o1.setOw e4 e3 aag e5 (λj es hj z=>?_) λj es hj y=>?_) x1.gg
  ·obtain⟨m,us,q1,q2,_⟩:=o.ow j es hj
   rw[q1]at z;cases z;rw[e2]at q2;cases q2
  ·obtain⟨us,_,q2,_⟩:=o.pw j es hj
   rw[y,e2]at q2;cases q2
 | vw ds=>cases q2
theorem qm{i:Nat}{x:Str}(hN:X.N.Nodup)(hi:X.N[i]?=some x)(hx:eQ)(he:XE X e f)(hs:lN:=by rfl)(hf:aL:=by first|exact .inl rfl|exact .inr rfl|assumption):
  XS X EW (Xl i f):=let ⟨_,h1,h2⟩:=he;⟨_,Sb,qbK h2⟩
noncomputable abbrev FG:=D->WSt->Option WSt
def SimG(K:zC)(g:TG)(fg:FG):Prop:=∀G0 H0 G ω σ H d v ω'(Q:rK),Own K G0 H0 G ω σ H->fg d ω=some ω'->Rep K G d v->(∀σ',Own K G0 H0 G ω' σ' H->Q σ' H)->g v σ H Q
def XG(X:Cx)(tg:vW)(fg:FG):Prop:=∃g,PG X tg g/\SimG X.K g fg
noncomputable def gN(i:Nat):FG:=λd ω=>some je
theorem qj{i:Nat}{x:Str}(hN:X.N.Nodup)(hi:X.N[i]?=some x)(hx:eQ)(hf:aL:=by first|exact .inl rfl|exact .inr rfl|assumption):XG X ir P8 :=
 ⟨_,q42 hN hi hx hf,λG0 H0 G ω σ H d v ω' Q o e h k=>by cases e;exact k _ (o.setSh h)⟩
def SimGs(K:zC)(g:TGs)(fg:dH):Prop:=∀G0 H0 G ω σ H ds vs ω'(Q:rK),Own K G0 H0 G ω σ H->fg ds ω=some ω'->XN K G ds vs->(∀σ',Own K G0 H0 G ω' σ' H->Q σ' H)->g vs σ H Q
def XGs(X:Cx)(tg:iN)(fg:dH):Prop:=∃g,PGs X tg g/\SimGs X.K g fg
noncomputable def WF:List D->WSt->Option WSt
 | [],ω=>some ω
 | _,_=>none
noncomputable def Xb(f:FG)(g:dH):List D->WSt->Option WSt
 | d::ds,ω=>(f d ω).bind λw=>g ds w
 | [],_=>none
theorem q1V:XGs X [] WF:=⟨_,qbB,λG0 H0 G ω σ H ds vs ω' Q o e h k=>by
 cases ds with
 | nil=>cases e;cases (show vs=[]from h);exact⟨rfl,k σ o⟩
 | cons d r=>cases e⟩
theorem qN{es:iN}{fg:FG}{gs:dH}(h:XG X e fg)(h':XGs X es gs)(hs:(uS jK X.env).map (·.2)=assign e X.env::(uS es X.env).map (·.2):=by rfl):XGs X jK (Xb fg gs):=by
 obtain⟨g,h1,h2⟩:=h;obtain⟨u,h3,h4⟩:=h';refine⟨_,q6F h1 h3 hs,λG0 H0 G ω σ H ds vs ω' Q o e h k=>?_⟩;cases ds with
 | nil=>cases e
 | cons d r=>
  obtain⟨w1,q,e1⟩:=bnd e;obtain⟨v,vr,rfl,r1,r2⟩:=h;exact⟨v,vr,rfl,h2 G0 H0 G ω σ H d v w1 _ o q r1 λσ1 o1=>h4 G0 H0 G w1 σ1 H r vr ω' Q o1 e1 r2 k⟩
noncomputable def gT(n:Nat)(g:dH):FG:=λd ω=>match d with
 | .tup ds=>if ds.length=n then g ds ω else none
 | _=>none
theorem q2N{es:iN}{k n:Nat}{gs:dH}(hc:cE)(h:XGs X es gs)(hn:RO:=by rfl)(hst:(uS es X.env).findIdx? (·.1)=none:=by rfl):XG X Vp (gT n gs):=by
 obtain⟨g,h1,h2⟩:=h;refine⟨_,qe0 hc h1 hn hst,λG0 H0 G ω σ H d v ω' Q o e h k=>?_⟩;unfold gT at e;cases d with
 | tup ds=>
  dsimp only at e
  obtain⟨a,vs,rfl,r1,r2⟩:=h
  by_cases z:ds.length=n
  ·rw[fQ]at e
   exact⟨a,vs,rfl,SqT.of (o.gh _ _ r1),by rw[<- r2.len];exact z,h2 G0 H0 G ω σ H ds vs ω' Q o e r2 k⟩
  ·rw[fI]at e;cases e
 | _=>cases e
noncomputable def sAsg(f:FD)(g:FG):FS:=λω=>(f ω).bind λd=>(g d ω).map λw=>Jp
theorem qjO{tg:vW}{fd:FD}{fg:FG}(he:K3)(hg:XG X tg fg)(hs:Cb:=by rfl)(hw:G8:=by rfl)(h1:(uS [tg] X.env).map (·.2)=abf:=by rfl):XS X RN (sAsg fd fg):=by
 obtain⟨t,p1,p2⟩:=he;obtain⟨g,p3,p4⟩:=hg;refine⟨_,qjl p1 p3 hs hw h1,bV⟩;obtain⟨d,q,e⟩:=bnd e;obtain⟨w,q2,e⟩:=mpd e;cases e;refine p2 G0 H0 G ω σ H d _ o q λv G1 H1 x1 y1=>?_;exact p4 G0 H0 G1 ω σ H1 d v _ _ g9 q2 y1 λσ1 o1=>k G1 σ1 H1 o1 x1.gg
end
noncomputable def sIf(c:FT)(f g:FS):FS:=λω=>(c ω).bind λb=>if b=true then f ω else g ω
noncomputable def Xk(f:FE):FS:=λω=>(f ω).bind λr=>match r with
 | .sh d=>some mR
 | .fr ds=>some lU
 | .vw _=>none
noncomputable def zAx(i:Nat):FS:=λω=>match ω[i]? with
 | some ↥d=>some mR
 | some (some (.ow ds))=>some lU
 | _=>none
noncomputable def sNo:FS:=λ_=>none
noncomputable def zCQ(f:FE):FS:=λω=>(f ω).map λ_=>Cz
section
variable{X:Cx}{c e:vW}{a b:List vp}{st:vp}{pos:Pos}{fc:FT}{f g:FS}{fe:FE}
theorem qw(hc:XT X c fc)(ha:XSs X a f)(hb:XSs X b g):XS X abN (sIf fc f g):=by
 obtain⟨t,h1,h2⟩:=hc;obtain⟨u,h3,h4⟩:=ha;obtain⟨w,h5,h6⟩:=hb;refine⟨_,qhg h1 h3 h5,bV⟩;obtain⟨z,q,e⟩:=bnd e;refine h2 G0 H0 G ω σ H z _ o q λG1 H1 x1=>?_;cases z with
 | true=>rw[jQ]at e ⊢;exact h4 G0 H0 G1 ω σ H1 out ω' E g9 e λG2 σ2 H2 o2 g2=>k G2 σ2 H2 o2 VO
 | false=>exact h6 G0 H0 G1 ω σ H1 out ω' E g9 e λG2 σ2 H2 o2 g2=>k G2 σ2 H2 o2 VO
theorem qh(he:XE X e fe):XS X Dg (Xk fe):=by
 obtain⟨t,h1,h2⟩:=he;refine⟨_,q5l h1,bV⟩;obtain⟨r,q,e⟩:=bnd e;refine h2 G0 H0 G ω σ H r _ o q λv G1 H1 x1 y1=>?_;cases r with
 | sh d=>cases e;exact k G1 σ H1 g9 x1.gg v y1
 | fr ds=>
  cases e;obtain⟨l,vs,e1,e2,e3⟩:=y1;exact k G1 σ H1 g9 x1.gg v ⟨l,vs,e1,aag,e3⟩
 | vw ds=>cases e
theorem q5O{i:Nat}(he:PE X e M8):XS X Dg (zAx i):=by
 refine⟨_,q5l he,bV⟩;unfold zAx at e;cases q:ω[i]? with
 | none=>rw[q]at e;cases e
 | some w=>
  rw[q]at e;cases w with
  | none=>cases e
  | some w=>
   cases w with
   | sh d=>
    cases e;obtain⟨v,q1,q2⟩:=o.sh i d q;exact⟨v,q1,k G σ H o gC v q2⟩
   | ow ds=>
    cases e;obtain⟨l,vs,q1,q2,q3,q4,q5⟩:=o.ow i ds q;exact⟨_,q1,k G σ H o gC _ ⟨l,vs,rfl,q4,q3,q2,q5⟩⟩
   | od ks ds=>cases e
   | pw ds=>cases e
theorem q8U:XS X st sNo:=⟨_,qfA,λG0 H0 G ω σ H out ω' E o e k=>by cases e⟩
theorem qbF(he:XE X e fe)(hs:HK:=by rfl):XS X (.Expr e pos) (zCQ fe):=by
 obtain⟨t,h1,h2⟩:=he;refine⟨_,q17 h1 hs,bV⟩;obtain⟨r,q,e⟩:=mpd e;cases e;exact h2 G0 H0 G ω σ H r _ o q λv G1 H1 x1 y1=>k G1 σ H1 g9 x1.gg
noncomputable def zCZ(i:Nat)(f:FD):FS:=λω=>(f ω).bind λd=>match ω[i]? with
 | some (some (.ow ds))=>if ds.length<1000000 then some mE else none
 | _=>none
theorem q3l{i:Nat}{o e:vW}{fd:FD}{apos cpos:Pos}(ho:jv)(he:K3)(hbase:uF o "append" X.env jG=eval o X.env:=by rfl)(hfew:((vj cpos jw).all (λx=>!x.1)&&(uI cpos j8).all gE
   && decide (([e]:List vW).length+([]:List uH).length+(if ([]:List uH).isEmpty then 0 else 1)<30))=true:=by rfl)
  (hline:dQ=true:=by rfl) (hs:vK [e] X.env=cH::vK [] X.env:=by rfl) (hplain:(vj cpos bF).any (·.1)=false:=by rfl)
  (hsw:v8 A9 none pos.line X.env=pure false:=by rfl) :
  XS X (.Expr A9 pos) (zCZ i fd):=by
 obtain⟨t,h1,h2⟩:=he;refine⟨_,q17 (q2f PySem.F.plainAttrs_list PySem.F.slot_list_append PySem.F.type_list_append q0T ho GF hbase hfew hline hs hplain) hsw,iI⟩;obtain⟨d,q,e⟩:=bnd e;cases q2:ω[i]? with
 | none=>rw[q2]at e;cases e
 | some w=>
  rw[q2]at e;cases w with
  | none=>cases e
  | some w=>
   cases w with
   | sh d=>cases e
   | od ks ds=>cases e
   | pw ds=>cases e
   | ow ds=>
    dsimp only at e
    by_cases z:ds.length<1000000
    ·rw[fQ]at e
     cases e;obtain⟨l,vs,r1,r2,r3,r4,r5⟩:=ow.ow i ds q2;refine kF;have o1:=ow.keep x1;have hz:vs.length<sizeLine:=by rw[<- r5.len,vh];omega
     refine⟨l,vs,v,rfl,rfl,lJ,hz,?_⟩;exact k G1 σ _ (o1.mut q2 r1 lJ (x1.new l r3 (by rw[r2];exact λz=>by cases z)) r4 ((r5.mono x1.gg).app (XN.cons y1 XN.nil))) x1.gg
    ·rw[fI]at e;cases e
end
end Hk
namespace PySem
open AutoSeq1 MeetsSeq MeetsSeq2 MeetsSeq3
theorem extTup(l b:vH)(xs ys:dw)(n m:Nat)(dd:Hz)(sl:Uk)(h1:¬(!xs.isEmpty&&Builtin.List.listTooLong (xs.size+ys.size))=true)(h2:xs.size<=sizeLine)(h3:xs.size+ys.size<=sizeLine+1):
  Meets (Builtin.«list.extend» ⟨[cX,Cy],[]⟩) (λ_ R s=>s.heap.get? l=some { cls:=.type "list", data:=.seq xs n }/\s.heap.get? b=some { cls:=.type "tuple", dict:=dd,data:=.seq ys m,slots:=sl } /\
   R (.ok (.ret Value.none)) { s with heap:=s.heap.update l (Obj.mapSeq λz=>z++ys),toks:=s.toks }) :=
 .of_wp λprog w A R s h=>by
  obtain⟨hp,g,d,tk,os⟩:=s;obtain⟨e1,e2,q⟩:=h;have p1:=idx_int;have p2:=sub_tuple_tuple;have p3:=sub_list_list;have p4:=sub_tuple_list;have p5:=sub_list_tuple;have fit:(xs++ys).size<=sizeLine+1:=by rw[Array.size_append];exact h3
  wp_walk using (uM e1 rfl (hz:=h2) (_hz':=fit)),wpAny_loadPart' e1,wpAny_loadPart' e2
  exact⟨_,rfl,q⟩
end PySem
namespace Hk
open PySem L2
section
variable{X:Cx}{pos:Pos}
def rExtA:V->List V->Hp->VK->Prop:=λx vs H Q=>zB3 x vs H Q\/∃l b xs zs,x=.ref l/\vs=[Cy]/\H l=some eF/\H b=some (.tup zs)/\xs.length+zs.length<=sizeLine/\Q .non (upd H l Li)
theorem qj0:MtR X "list.extend" rExtA:=by
 intro pins s σ H x vs v us Q I rx rv h;rcases h with h|h
 ·exact qeU pins s σ H x vs v us Q I rx rv h
 obtain⟨l,b,xs,zs,rfl,rfl,hH,hB,hz,q⟩:=h;cases rx;obtain⟨u,rfl,ru⟩:=rv.one;cases ru;obtain⟨z,its,n,r,hl,e⟩:=I.lstM hH;obtain⟨its2,r2,⟨o2,e2,c2,n2,d2⟩,z2⟩:=I.tuple (SqT.of hB);have hl2:=r2.length;obtain⟨cls,dd,dt,sl⟩:=o2;cases c2;cases d2;have hsz:its.toArray.size+its2.toArray.size<=sizeLine:=by rw[zQ,zQ];omega
 have hlong:¬(!its.toArray.isEmpty&&Builtin.List.listTooLong FK)=true:=by
  rw[zAX hsz,wv];exact yO
 refine ud F.slot_list_extend eG F.entry_list_extend MM
  (extTup l b its.toArray its2.toArray n n2 dd sl hlong (by rw[zQ];omega) ∅) ⟨e,e2,?_⟩
 refine⟨.non,_,I.lset (its':=its++its2) hH e (by simp) NA ?_,rfl,q⟩;rw[zB];omega
noncomputable def itemsOf:D->Option aW
 | .lst ds=>some ds
 | .tup ds=>some ds
 | _=>none
noncomputable def zC7(i:Nat)(f:FD):FS:=λω=>(f ω).bind λd=>(itemsOf d).bind λes=>match ω[i]? with
 | some (some (.ow ds))=>if ds.length+es.length<=1000000 then some Gq else none
 | _=>none
theorem qa0{i:Nat}{o e:vW}{fd:FD}{apos cpos:Pos}(ho:jv)(he:K3)(hbase:uF o "extend" X.env jG=eval o X.env:=by rfl)(hfew:((vj cpos jw).all (λx=>!x.1)&&(uI cpos j8).all gE
   && decide (([e]:List vW).length+([]:List uH).length+(if ([]:List uH).isEmpty then 0 else 1)<30))=true:=by rfl)
  (hline:dQ=true:=by rfl) (hs:vK [e] X.env=cH::vK [] X.env:=by rfl) (hplain:(vj cpos bF).any (·.1)=false:=by rfl)
  (hsw:v8 A8 none pos.line X.env=pure false:=by rfl) :
  XS X (.Expr A8 pos) (zC7 i fd):=by
 obtain⟨t,h1,h2⟩:=he;refine⟨_,q17 (q2f PySem.F.plainAttrs_list PySem.F.slot_list_extend PySem.F.type_list_extend qj0 ho GF hbase hfew hline hs hplain) hsw,iI⟩;obtain⟨d,q,e⟩:=bnd e;obtain⟨es,q3,e⟩:=bnd e;cases q2:ω[i]? with
 | none=>rw[q2]at e;cases e
 | some w=>
  rw[q2]at e;cases w with
  | none=>cases e
  | some w=>
   cases w with
   | sh d=>cases e
   | od ks ds=>cases e
   | pw ds=>cases e
   | ow ds=>
    dsimp only at e
    by_cases z:ds.length+es.length<=1000000
    ·rw[fQ]at e
     cases e;obtain⟨l,vs,r1,r2,r3,r4,r5⟩:=ow.ow i ds q2;refine kF;have o1:=ow.keep x1;have fin:∀us:List V,XN X.K G1 es us->vs.length+us.length<=sizeLine/\zBf X.K H0 G1 E .nx σ (upd H1 l (.lst (vs++us))):=λus hu=>
      ⟨by rw[<- r5.len,<- hu.len];exact q6n z,k G1 σ _ (o1.mut q2 r1 lJ (x1.new l r3 (by rw[r2];exact λz=>by cases z)) r4 ((r5.mono x1.gg).app hu)) x1.gg⟩
     cases d with
     | lst ds'=>
      cases q3;obtain⟨b,us,rfl,r6,r7⟩:=y1;obtain⟨f1,f2⟩:=fin us r7;exact .inl Cs
     | tup ds'=>
      cases q3;obtain⟨b,us,rfl,r6,r7⟩:=y1;obtain⟨f1,f2⟩:=fin us r7;exact .inr Cs
     | _=>cases q3
    ·rw[fI]at e;cases e
end
structure IterOf (K:zC) (J:It) (G:Hp) (ds:List D):Prop where
 go:∀H i,Xf G H->i<ds.length->J.go i H
 yld:∀G2 H i x H' d,Xf G G2->Xf G2 H->ds[i]?=some d->J.yld i H x H'->∃G3,Ext G2 H G3 H'/\Rep K G3 d x
 stop:∀H,Xf G H->J.stop ds.length H
noncomputable abbrev FI:=WSt->Option aW
def SimI(K:zC)(wi:TI)(f:FI):Prop:=∀G0 H0 G ω σ H ds(R:Da),Own K G0 H0 G ω σ H->f ω=some ds->(∀J G' H',Ext G H G' H'->IterOf K J G' ds->R J H')->wi σ H R
def XI(X:Cx)(tg iter:vW)(f:FI):Prop:=∃wi,PI X tg iter wi/\SimI X.K wi f
section
variable{X:Cx}{tg e:vW}
theorem qgy{K:zC}{G:Hp}{a:vH}{ds:aW}{vs:a8}(h1:Ui)(h2:pj):IterOf K abx G ds:=by
 refine⟨Fm,gX,λH s=>⟨vs,SqL.of ib,by rw[h2.len];exact zK _⟩⟩
 ·have:i<vs.length:=by rw[<- h2.len];exact hi
  exact⟨vs,vs[i],K5,zD this⟩
 ·obtain⟨e,y⟩:=hy
  obtain⟨v,q1,q2⟩:=h2.get hd;have:=y vs Rs;rw[q1]at this;cases this;subst e;exact Ka
theorem qgq{K:zC}{G:Hp}{a:vH}{ds:aW}{vs:a8}(h1:G a=some OI)(h2:pj):IterOf K abw G ds:=by
 refine⟨Fm,gX,λH s=>⟨vs,SqT.of ib,by rw[h2.len];exact zK _⟩⟩
 ·have:i<vs.length:=by rw[<- h2.len];exact hi
  exact⟨vs,vs[i],Bh,zD this⟩
 ·obtain⟨e,y⟩:=hy
  obtain⟨v,q1,q2⟩:=h2.get hd;have:=y vs (SqT.of pX);rw[q1]at this;cases this;subst e;exact Ka
noncomputable def X7(f:FD):FI:=λω=>(f ω).bind itemsOf
theorem qu{f:FD}(h:NW):XI X tg e (X7 f):=by
 obtain⟨t,h1,h2⟩:=h;refine⟨λσ H R=>iList X.K t σ H R\/iTup X.K t σ H R,λpins s σ H R I q=>?_,jW⟩
 ·rcases q with q|q
  ·exact q7T h1 pins s σ H R I q
  ·exact qjb h1 pins s σ H R I q
 ·obtain⟨d,q,e⟩:=bnd e
  cases d with
  | lst es=>
   cases e;refine .inl (h2 G0 H0 G ω σ H _ _ o q λv G1 H1 x1 ⟨a,vs,e1,e2,e3⟩=>⟨a,e1,⟨vs,SqL.of ab2⟩,k _ G1 H1 x1 (qgy e2 e3)⟩)
  | tup es=>
   cases e;refine .inr (h2 G0 H0 G ω σ H _ _ o q λv G1 H1 x1 ⟨a,vs,e1,e2,e3⟩=>⟨a,e1,⟨vs,SqT.of ab2⟩,k _ G1 H1 x1 (qgq e2 e3)⟩)
  | _=>cases e
noncomputable def upTo(lo:Int)(n:Nat):List D:=(za n).map λ(i:Nat)=>D.int (lo+rg)
theorem qgr{K:zC}{G:Hp}(lo:Int)(n:Nat):IterOf K (Itr lo n) G (upTo lo n):=by
 have hl:(upTo lo n).length=n:=by unfold upTo;rw[zA,zo]
 refine⟨λH i s hi=>by rw[hl]at hi;exact hi,λG2 H i x H' d s0 s1 hd hy=>?_,λH s=>by rw[hl];exact zK _⟩;obtain⟨e,y⟩:=hy;subst e;refine⟨G2,Uj,?_⟩;unfold upTo at hd;rw[ze]at hd;have hi:i<n:=by
  rcases yB i n with z|z
  ·exact z
  ·rw[z8 (by rw[zo];exact z)]at hd;cases hd
 rw[xQ hi]at hd;cases hd;exact y
noncomputable def iRg1(g:FA):FI:=λω=>(g ω).bind λds=>match ds with
 | [.int j]=>if -(2^62)<=j/\j<2^62 then some VS else none
 | _=>none
theorem qeJ{a:vW}{g:FA}{p pos:Pos}(hg:JX)(hm:r9)(ha:XVA X [a] g)(hs:BQ:=by rfl):XI X tg Gu (iRg1 g):=by
 obtain⟨t,h1,h2⟩:=ha;refine⟨_,qed hg hm h1 hs,jW⟩;obtain⟨vs,q,e⟩:=bnd e;refine h2 G0 H0 G ω σ H vs _ o q λus G1 H1 x1 y1=>?_
 match vs,e with
 | [.int j],e=>
  dsimp only at e
  by_cases z:-(2^62)<=j/\j<2^62
  ·rw[fQ]at e
   cases e;obtain⟨v,rfl,y2⟩:=y1.one;cases y2.int;exact⟨j,rfl,z.1,z.2,k _ G1 H1 x1 (qgr _ _)⟩
  ·rw[fI]at e;cases e
end
noncomputable def zAe(g:FG)(b:FS):List D->FS
 | [],ω=>some Cz
 | d::ds,ω=>(g d ω).bind λw=>(b w).bind λp=>match p.1 with
  | .nx=>zAe g b ds p.2
  | .ct=>zAe g b ds p.2
  | .bk=>some (.nx,p.2)
  | .rt r=>some (.rt r,p.2)
noncomputable def zAO(fi:FI)(g:FG)(b:FS):FS:=λω=>(fi ω).bind λds=>zAe g b ds ω
section
variable{X:Cx}{tg iter:vW}{body:List vp}{pos:Pos}{fi:FI}{fg:FG}{fb:FS}
theorem qX(hp:j9)(hc:cE)(hi:Mz)(hg:XG X tg fg)(hb:XSs X body fb)(hs:∀x,v9 iter X.env x=pure x:=by intro _;rfl):XS X MR (zAO fi fg fb):=by
 obtain⟨wi,h1,h2⟩:=hi;obtain⟨g,h3,h4⟩:=hg;obtain⟨tb,h5,h6⟩:=hb;refine⟨_,q6S hp hc h1 h3 h5 hs,bV⟩;obtain⟨ds,q,e⟩:=bnd e;refine h2 G0 H0 G ω σ H ds _ o q λJ G1 H1 x1 it=>?_;refine⟨λi m σ2 H2=>∃G2 ω2,Own X.K G0 H0 G2 ω2 σ2 H2/\Xf G1 G2/\zAe fg fb (ds.drop i) ω2=some JL/\i<=ds.length/\m=ds.length-i,⟨_,G1,ω,g9,gC,e,B4,rfl⟩,?_⟩;rintro i m σ2 H2 ⟨G2,ω2,o2,s2,f2,hi2,rfl⟩
 by_cases hlt:i<ds.length
 ·refine .inr ⟨it.go H2 i aab hlt,λσ3 H3=>∃G3 ω3,Own X.K G0 H0 G3 ω3 σ3 H3/\Xf G1 G3/\zAe fg fb (ds.drop (i+1)) ω3=some JL,λσ3 H3 ⟨G3,ω3,a1,a2,a3⟩=>⟨ds.length-(i+1),∅,G3,ω3,a1,a2,a3,hlt,rfl⟩,λx H3 hy=>?_⟩
  have hd:ds[i]?=some ds[i]:=zD hlt;obtain⟨G4,x4,rx⟩:=it.yld G2 H2 i x H3 ds[i] s2 o2.gh hd hy;have o2:=o2.keep x4;have s2:=s2.trans x4.gg;rw[xC hlt]at f2;obtain⟨w,q1,f2⟩:=bnd f2;obtain⟨⟨o3,ω3⟩,q2,f2⟩:=bnd f2;refine h4 G0 H0 G4 ω2 σ2 H3 ds[i] x w _ o2 q1 rx λσ4 o4=>?_;refine h6 G0 H0 G4 w σ4 H3 o3 ω3 _ o4 q2 λG5 σ5 H5 o5 s5=>?_;cases o3 with
  | nx=>exact RW
  | ct=>exact RW
  | bk=>cases f2;exact k G5 σ5 H5 o5 VP
  | rt r=>cases f2;exact k G5 σ5 H5 o5 VP
 ·have ei:i=ds.length:=∅
  subst ei;rw[ZR]at f2;cases f2;exact .inl ⟨it.stop H2 aab,k G2 σ2 H2 o2 (x1.gg.trans s2)⟩
end
noncomputable def X5(g:FG)(c:FT)(f:FD):List D->WSt->Option aW
 | [],_=>some []
 | d::ds,ω=>(g d ω).bind λw=>(c w).bind λb=>if b=true then (f w).bind λx=>(X5 g c f ds w).map λr=>x::r else X5 g c f ds w
noncomputable def Ws:Option cb->Option W
 | some ↥d=>↥d
 | _=>none
noncomputable def inW(M:Nat)(frees:bT)(ω:WSt):WSt:=zn M none++frees.map λj=>Ws ω[j]?
noncomputable def Xo(M:Nat)(frees:bT)(fi:FI)(g:FG)(c:FT)(f:FD):FE:=λω=>(fi ω).bind λds=>if ds.length<=1000000 then (X5 g c f ds CO).map R.fr else none
def XTs(X:Cx)(ifs:iN)(f:FT):Prop:=∃t,PTs X ifs t/\zBQ X.K t f
noncomputable def Xm:FT:=λ_=>some true
theorem qC{X:Cx}:XTs X [] Xm:=⟨_,qi1,λG0 H0 G ω σ H b Q o e k=>by cases e;exact k G H lu⟩
theorem q3W{X:Cx}{c:vW}{f:FT}(h:XT X c f):XTs X [c] f:=let ⟨t,h1,h2⟩:=h;⟨t,qij h1,h2⟩
section
variable{X:Cx}{N:List Str}{M:Nat}{frees:List Nat}{scope:ux}{tg iter elt:vW}{ifs:List vW}{pos:Pos}{fi:FI}{fg:FG}{fc:FT}{fe:FD}
def WN(ω:WSt):Prop:=∀(i:Nat)w,ω[i]?=some (some w)->∃d,w=.sh d
theorem WN.ow{ω:WSt}(h:OE)(i:Nat)(ds:aW):ω[i]?≠some cU:=λz=>by obtain⟨d,e⟩:=h i _ z;cases e
theorem WN.od{ω:WSt}(h:OE)(i:Nat)(ks:af)(ds:aW):ω[i]?≠some jx:=λz=>by obtain⟨d,e⟩:=h i _ z;cases e
theorem WN.pw{ω:WSt}(h:OE)(i:Nat)(ds:aW):ω[i]?≠some KJ:=λz=>by obtain⟨d,e⟩:=h i _ z;cases e
theorem qaD{wi:TI}{g:TG}{tc:TT}{te:TE}(h2:SimI X.K wi fi)(h4:SimG X.K g fg)(h6:zBQ X.K tc fc)(h8:zBs X.K te fe)(hg:∀d ω ω',WN ω->fg d ω=some ω'->WN ω'):zC9 X.K Bq BE:=by
 intro G0 H0 G ω σ H r Q o e k;obtain⟨ds,q,e⟩:=bnd e
 by_cases hz:ds.length<=1000000
 ·rw[vF hz]at e
  obtain⟨rs,q2,e⟩:=mpd e;subst e;refine h2 G0 H0 G ω σ H ds _ o q λJ G1 H1 x1 it=>?_;intro A hA;have ow0:WN CO:=by
   intro i es z;unfold inW at z;rcases yB i M with y|y
   ·rw[zh ⇑y,yv,JD]at z;cases z
   ·rw[zd ⇑y,yY,ze]at z
    cases e1:frees[i-M]? with
    | none=>rw[e1]at z;cases z
    | some j=>
     rw[e1]at z;have z':Ws ω[j]?=some es:=zw z;generalize ω[j]?=u at z';unfold Ws at z'
     split at z'
     ·cases z';exact bw
     ·cases z'
  have own0:∀G2 H2,Xf G1 G2->Xf G2 H2->Own X.K G2 (fr H2) G2 CO B3 H2:=λG2 H2 s1 s2=>by
   have o1:=o.keep x1;refine⟨Ext.refl s2,by unfold inW zCF;simp,λi d hi=>?_,λi ds' hi=>vO hi ach,λi j ds' es l hi=>vO hi ach,λi ks ds' hi=>vO hi (ow0.od i ks ds'),WC.no ow0.pw⟩;unfold inW at hi;unfold zCF;rcases yB i M with y|y
   ·rw[zh ⇑y,yv,JD]at hi;cases hi
   ·rw[zd ⇑y,yY,ze]at hi ⊢
    cases e1:frees[i-M]? with
    | none=>rw[e1]at hi;cases hi
    | some j=>
     rw[e1]at hi;have hi':Ws ω[j]?=↥d:=zw hi;cases e2:ω[j]? with
     | none=>rw[e2]at hi';cases hi'
     | some w=>
      rw[e2]at hi';cases w with
      | none=>cases hi'
      | some w=>
       cases w with
       | ow _=>cases hi'
       | od _ _=>cases hi'
       | pw _=>cases hi'
       | sh d'=>
        cases hi';obtain⟨v,q3,q4⟩:=o1.sh j _ e2;exact⟨v,by rw[xB,q3];rfl,q4.mono s1⟩
  refine⟨λi m σ2 H2=>∃G2 ω2 accd accv,Own X.K G2 (fr H2) G2 ω2 σ2 H2/\WN ω2/\Ext G1 H1 G2 H2/\G2 A=none/\H2 A=some Kv/\XN X.K G2 accd accv/\accd.length<=i/\i<=ds.length/\m=ds.length-i /\
   ∃rest,X5 fg fc fe (ds.drop i) ω2=some rest/\accd++rest=rs,⟨_,G1,CO,[],[],own0 _ _ gC (Xg x1.gh (x1.gh.free hA) _),ow0,Ext.hide x1.gh hA _,x1.gh.free hA,qe,XN.nil,bZ,B4,rfl,rs,q2,rfl⟩,?_⟩
  rintro i m σ2 H2 ⟨G2,ω2,accd,accv,o2,no2,x2,gA,hA2,ra,la,li,rfl,rest,cd,er⟩
  by_cases hlt:i<ds.length
  ·refine .inr ⟨it.go H2 i R5 hlt,λx H3 hy=>?_⟩
   have hd:ds[i]?=some ds[i]:=zD hlt;obtain⟨G4,x4,rx⟩:=it.yld G2 H2 i x H3 ds[i] x2.gg x2.gh hd hy;have o2':=o2.keep x4;have o2:Own X.K G4 UY G4 ω2 σ2 H3:=⟨Ext.refl x4.gh,o2'.len,o2'.sh,λi ds' hi=>vO hi acl,λi j ds' es l hi=>vO hi acl,λi ks ds' hi=>vO hi (no2.od i ks ds'),WC.no no2.pw⟩;have gA:G4 A=none:=x4.new A gA (by rw[hA2];exact λz=>by cases z);have hA2:H3 A=some Kv:=x4.hh _ _ hA2;have x2:=x2.trans x4;have ra:=ra.mono x4.gg;rw[xC hlt]at cd;obtain⟨w,q1,cd⟩:=bnd cd;obtain⟨b,q3,cd⟩:=bnd cd;have now:=hg _ _ _ no2 q1;refine h4 G4 UY G4 ω2 σ2 H3 ds[i] x w _ o2 q1 rx λσ4 o4=>?_;refine h6 G4 UY G4 w σ4 H3 b _ o4 q3 λG5 H5 x5=>?_;have o5:=o4.keep x5;have gA5:G5 A=none:=x5.new A gA (by rw[hA2];exact λz=>by cases z);have hA5:H5 A=some Kv:=x5.hh _ _ hA2;cases b with
   | false=>
    rw[vG yO];rw[vG yO]at cd;have o6:Own X.K G5 (fr H5) G5 w σ4 H5:=⟨Ext.refl x5.gh,o5.len,o5.sh,S7,MW,Fl,WC.no now.pw⟩;exact⟨ds.length-(i+1),∅,G5,w,accd,accv,o6,now,x2.trans x5,gA5,hA5,ra.mono x5.gg,∅,hlt,rfl,rest,cd,er⟩
   | true=>
    rw[jQ]at cd ⊢;obtain⟨d,q4,cd⟩:=bnd cd;obtain⟨rest',q5,cd⟩:=mpd cd;subst cd;refine h8 G4 UY G5 w σ4 H5 d _ o5 q4 λv G6 H6 x6 y6=>?_;have gA6:G6 A=none:=x6.new A gA5 (by rw[hA5];exact λz=>by cases z);have hA6:H6 A=some Kv:=x6.hh _ _ hA5;have x26:=(x2.trans x5).trans x6;have raa:=ra.mono (x5.gg.trans x6.gg);have hl:accv.length<sizeLine:=by rw[<- raa.len,vh];omega
    refine⟨accv,hA6,hl,ds.length-(i+1),∅,G6,w,accd++[d],accv++[v],?_,now,⟨x26.gg,Xg x26.gh gA6 _,Xg x26.hh hA _,x26.new⟩,gA6,qe,raa.app (XN.cons y6 XN.nil),by rw[zB,zR];omega,hlt,rfl,rest',q5,by rw[zL];exact er⟩;have o6:=o5.keep x6;exact⟨Ext.refl (Xg x6.gh gA6 _),o6.len,o6.sh,S7,MW,Fl,WC.no now.pw⟩
  ·have ei:i=ds.length:=∅
   subst ei;rw[ZR]at cd;cases cd;rw[zi]at er;subst er;refine .inl ⟨it.stop H2 R5,k _ G2 H2 eC ⟨A,accv,rfl,x1.hh.free hA,gA,hA2,ra⟩⟩
 ·rw[vG hz]at e;cases e
theorem qg4{ω:WSt}{i:Nat}{d:D}(h:OE):WN je:=by
 intro j ds z;rcases qi z with⟨_,_,y⟩|⟨_,y⟩
 ·cases y;exact SU
 ·exact h j ds y
def Tame(fg:FG):Prop:=∀d ω ω',WN ω->fg d ω=some ω'->WN ω'
def zCP(gs:dH):Prop:=∀ds ω ω',WN ω->gs ds ω=some ω'->WN ω'
theorem qy(i:Nat):Tame P8:=λd ω ω' h e=>by cases e;exact qg4 h
theorem q5s:zCP WF:=λds ω ω' h e=>by
 cases ds with
 | nil=>cases e;exact h
 | cons _ _=>cases e
theorem q19{fg:FG}{gs:dH}(h:Tame fg)(h':zCP gs):zCP (Xb fg gs):=λds ω ω' n e=>by
 cases ds with
 | nil=>cases e
 | cons d r=>obtain⟨w,q,e⟩:=bnd e;exact h' _ _ _ (h _ _ _ n q) e
theorem qaE{n:Nat}{gs:dH}(h:zCP gs):Tame (gT n gs):=λd ω ω' no e=>by
 unfold gT at e;cases d with
 | tup ds=>
  dsimp only at e
  by_cases z:ds.length=n
  ·rw[fQ]at e;exact h _ _ _ no e
  ·rw[fI]at e;cases e
 | _=>cases e
noncomputable def canD(K:zC)(f:FD):TE:=λσ H Q=>∃G0 H0 G ω d,Own K G0 H0 G ω σ H/\f ω=some d/\∀v G' H',Ext G H G' H'->Rep K G' d v->Q v H'
noncomputable def canT(K:zC)(f:FT):TT:=λσ H Q=>∃G0 H0 G ω b,Own K G0 H0 G ω σ H/\f ω=some b/\∀G' H',Ext G H G' H'->Q b H'
noncomputable def canG(K:zC)(f:FG):TG:=λv σ H Q=>∃G0 H0 G ω d ω',Own K G0 H0 G ω σ H/\f d ω=some ω'/\Rep K G d v/\∀σ',Own K G0 H0 G ω' σ' H->Q σ' H
theorem XD.can{X:Cx}{e:vW}{f:FD}(h:NW):PE X e (canD X.K f):=λpins s σ H Q I ⟨G0,H0,G,ω,d,o,e,k⟩=>let ⟨_,h1,h2⟩:=h;h1 pins s σ H Q I JR
theorem XTs.can{X:Cx}{e:iN}{f:FT}(h:XTs X e f):PTs X e (canT X.K f):=λpins s σ H Q I ⟨G0,H0,G,ω,d,o,e,k⟩=>let ⟨_,h1,h2⟩:=h;h1 pins s σ H Q I JR
theorem XG.can{X:Cx}{e:vW}{f:FG}(h:XG X e f):PG X e (canG X.K f):=λpins s σ H v u Q I r ⟨G0,H0,G,ω,d,ω',o,e,y,k⟩=>let ⟨_,h1,h2⟩:=h;h1 pins s σ H v u Q I r (h2 G0 H0 G ω σ H d v ω' Q o e y k)
theorem q9N{K:zC}{f:FD}:zBs K (canD K f) f:=λG0 H0 G ω σ H d Q o e k=>OR
theorem q9c{K:zC}{f:FT}:zBQ K (canT K f) f:=λG0 H0 G ω σ H d Q o e k=>OR
theorem q9n{K:zC}{f:FG}:SimG K (canG K f) f:=λG0 H0 G ω σ H d v ω' Q o e y k=>⟨G0,H0,G,ω,d,ω',o,e,y,k⟩
theorem qJ(hc:cE)(B:jd)(hi:Mz)(ht:Tame fg)(hb:∀C s H fp,XG aO tg fg/\XTs aO ifs fc/\XD aO elt fe)(hs:∀x,v9 iter X.env x=pure x:=by intro _;rfl):XE X bo BE:=by
 obtain⟨wi,h1,h2⟩:=hi;have b4:∀C s H fp,PG aO tg (canG X.K fg)/\PTs aO ifs (canT X.K fc)/\PE aO elt (canD X.K fe):=λC s H fp=>m9;exact⟨_,qip hc B h1 b4 hs,P0⟩
theorem q1Y{i:Nat}{x:Str}{pos' spos:Pos}(hc:cE)(hN:X.N.Nodup)(hi':X.N[i]?=some x)(hx:FV)(B:jd)(hi:Mz)(ht:Tame fg)(hb:∀C s H fp,XG aO tg fg/\XTs aO ifs fc/\XD aO elt fe)(hsw:Em:=by rfl)(hs:∀x,v9 iter X.env x=pure x:=by intro _;rfl):XS X Px (Xl i BE):=by
 obtain⟨wi,h1,h2⟩:=hi;have b4:∀C s H fp,PG aO tg (canG X.K fg)/\PTs aO ifs (canT X.K fc)/\PE aO elt (canD X.K fe):=λC s H fp=>m9;exact⟨_,qiV hc hN hi' hx B h1 b4 hsw hs,qbK P0⟩
def zAR(X:Cx)(scope:ux):List Str->List Nat->Prop
 | [],[]=>True
 | x::xs,j::js=>(X.N[j]?=some x/\rB/\scope.names.lookup x=some .free)/\zAR X scope xs js
 | _,_=>False
theorem q7p{X:Cx}{scope:ux}:∀{xs:dN}{js:bT},zAR X scope xs js->∀(k:Nat)(x:Str),xs[k]?=some x->∃j,js[k]?=some j/\X.N[j]?=some x/\rB/\scope.names.lookup x=some .free
 | [],_,_,_,_,e=>by simp at e
 | _::_,[],h,_,_,_=>h.elim
 | y::ys,i::is,⟨h1,h2⟩,0,x,e=>by
  have:y=x:=by simpa using e
  subst this;exact⟨i,rfl,h1⟩
 | y::ys,i::is,⟨h1,h2⟩,k+1,x,e=>by
  obtain⟨j,q⟩:=q7p h2 k x ⇑e;exact⟨j,by simpa using q.1,q.2⟩
theorem q5W{X:Cx}{scope:ux}:∀{xs:dN}{js:bT},zAR X scope xs js->xs.length=js.length
 | [],[],_=>rfl
 | [],_::_,h=>h.elim
 | _::_,[],h=>h.elim
 | _::ys,_::is,⟨_,h2⟩=>by rw[zJ,zJ,q5W h2]
theorem blk{X:Cx}{scope:ux}(own free:dN)(frees:bT)(h1:scope.kind=.function)(h2:∀y∈scope.names,y.2≠.cell)(h3:∀y∈scope.names,y.2=.local->scope.names.lookup y.1=some .local)(h4:(scope.names.all λp=>p.2 != .free || (X.env.cells.lookup p.1).isSome)=true)(h5:zAR X scope free frees):BlkOk X (own++free) own.length frees scope:=by
 refine⟨h1,h2,h3,λp hp hf=>?_,λk x e=>?_,by rw[zB,q5W h5]⟩
 ·have:=xr.mp h4 p hp
  rw[hf]at this;simpa using this
 ·rw[zd (Nat.le_add_right _ _),ZQ]at e
  exact q7p h5 k x e
end
noncomputable def entry(n:Nat)(ds:aW):WSt:=ds.map (λd=>↥d)++zn (n-ds.length) none
noncomputable def mir(n:Nat)(body:FS)(ds:aW):Option O:=match body Pb with
 | some (.rt r,_)=>some r
 | some (.nx,_)=>some MO
 | _=>none
theorem qdc{K:zC}{H:Hp}{N:dN}{ds:aW}{vs:a8}(h:AE)(i:Nat)(d:D)(e:(entry N.length ds)[i]?=some ↥d):∃v,(L2.start N vs)[i]?=some nh/\Rep K H d v:=by
 unfold entry at e;unfold L2.start;have hl:=h.len;rcases yB i ds.length with y|y
 ·rw[zh ⇑y,ze]at e
  have e1:ds[i]?=some d:=by
   cases q:ds[i]? with
   | none=>rw[q]at e;cases e
   | some d'=>rw[q]at e;cases e;rfl
  obtain⟨v,q1,q2⟩:=h.get e1;refine⟨v,?_,q2⟩;rw[zh ⇑((∅:i<vs.length)),ze,q1];rfl
 ·rw[zd ⇑y,yv]at e
  split at e <;> cases e
theorem q2E{n:Nat}{ds:aW}:WN Pb:=by
 intro i es z;unfold entry at z;rcases yB i ds.length with y|y
 ·rw[zh ⇑y,ze]at z
  cases q:ds[i]? with
  | none=>rw[q]at z;cases z
  | some d=>rw[q]at z;cases z;exact SU
 ·rw[zd ⇑y,yv]at z
  split at z <;> cases z
theorem fnD{P:vU}{w:vZ}{K:zC}{mg:bH}{base:vk}{x qual:Str}{st:vp}{f:vH}{fd:vS}{N ps:dN}{k:Nat}{body:FS}(F:Gm)(S:FnScope N ps FR)(hb:∀(cdv:vB)(A:vf)(outer:rM)(s:vC)(H:Hp)(E:XK),Room k (A.deeper (PyProof.Rows.envOfC qual FR s.heap.objs.size f cdv))->XSs (zCD CX0 P w K mg base N qual FR f cdv A outer s H E).nox Vd body):
  FnOk P w K mg base CX0 (k+1) f fd ps (spD K ps.length (mir N.length body)):=by
 refine F.ok S GV m6
 ·obtain⟨G,ds,r,_,h2,_,h4,_⟩:=h
  rw[<- h4.len];exact h2
 ·obtain⟨G,ds,r,h1,h2,h3,h4,h5⟩:=h
  obtain⟨t,p1,p2⟩:=hb cdv A outer s H E hr;refine⟨t,p1,?_⟩;unfold mir at h1;have hl:=h4.len;have hpl:ps.length<=N.length:=by have:=v7 xv S.pre;rw[zg]at this;omega
  have o0:Own K G AQ G Sh Lb H:=by
   refine⟨Ext.refl h3,?_,λi d e=>qdc h4 i d e,λi es e=>vO e (q2E.ow i es),λi j es fs l e=>vO e (q2E.ow i es),λi ks es e=>vO e (q2E.od i ks es),WC.no q2E.pw⟩;unfold entry L2.start;simp only[zB,zA,yY];omega
  cases q:body Sh with
  | none=>rw[q]at h1;cases h1
  | some p=>
   obtain⟨out,ω'⟩:=p;rw[q]at h1;refine p2 G AQ G _ _ H out ω' _ o0 q λG' σ' H' o' s'=>?_;cases out with
   | nx=>cases h1;exact h5 _ G' H' o'.ext rfl
   | bk=>cases h1
   | ct=>cases h1
   | rt r'=>cases h1;exact λv y=>h5 v G' H' o'.ext y
theorem qF:vm "len" = some aaG:=⋯
theorem q37:vm "all" = some aaH:=⋯
theorem q9a:vm "sum" = some aaF:=⋯
theorem q6U:vm "abs" = some aaI:=⋯
theorem q2i:vm "sorted" = some fE:=⋯
theorem qfo:vm "int" = some (.type "int"):=⋯
theorem qcn:vm "bool" = some (.type "bool"):=⋯
theorem qkj:vm "str" = some (.type "str"):=⋯
theorem q0o:vm "list" = some Aw:=⋯
theorem q4E:vm "tuple" = some (.type "tuple"):=⋯
theorem qk4:vm "set" = some mw:=⋯
theorem qk3:vm "zip" = some N7:=⋯
noncomputable def zCk(o:Qj)(g:FS):Option dG:=o.bind λp=>match p.1 with
 | .nx=>g p.2
 | o=>some (o,p.2)
noncomputable def setS(i:Nat)(ω:WSt)(o:Ks):Option dG:=o.bind λr=>(setR i r ω).map λw=>Jp
noncomputable def ifS(c:Ge)(f g:FS)(ω:WSt):Option dG:=c.bind λb=>if b=true then f ω else g ω
noncomputable def retS(ω:WSt)(o:Ks):Option dG:=o.bind λr=>match r with
 | .sh d=>some mR
 | .fr ds=>some lU
 | .vw _=>none
noncomputable def retV(ω:WSt)(o:mY):Option dG:=match o with
 | some ↥d=>some mR
 | some (some (.ow ds))=>some lU
 | _=>none
noncomputable def appS(i:Nat)(ω:WSt)(o:eK)(l:mY):Option dG:=o.bind λd=>match l with
 | some (some (.ow ds))=>if ds.length<1000000 then some mE else none
 | _=>none
noncomputable def extS(i:Nat)(ω:WSt)(o:eK)(l:mY):Option dG:=o.bind λd=>(itemsOf d).bind λes=>match l with
 | some (some (.ow ds))=>if ds.length+es.length<=1000000 then some Gq else none
 | _=>none
noncomputable def shrS(i:Nat)(ω:WSt)(o:mY):WSt:=match o with
 | some (some (.ow ds))=>ω.set i ↥eS
 | some (some (.od ks ds))=>ω.set i ↥De
 | _=>ω
noncomputable def forS(o:AX)(g:FG)(b:FS)(ω:WSt):Option dG:=o.bind λds=>zAe g b ds ω
noncomputable def asgS(o:eK)(g:FG)(ω:WSt):Option dG:=o.bind λd=>(g d ω).map λw=>Jp
noncomputable def zCs(o:mY):Option R:=match o with
 | some ↥d=>↥d
 | some (some (.ow ds))=>some Jo
 | some (some (.pw ds))=>some Jo
 | _=>none
noncomputable def eD(o:eK):Option R:=o.map R.sh
noncomputable def dR(o:Ks):Option D:=match o with
 | ↥d=>some d
 | some (.fr ds)=>some eS
 | _=>none
noncomputable def vR(o:Ks):Option D:=o.map R.d
noncomputable def op2(op:kN)(x y:eK):Option R:=x.bind λx=>y.bind λy=>op x y
noncomputable def callR(m:cf)(o:AX):Option R:=o.bind λds=>(m ds).map O.r
noncomputable def consA(o:eK)(r:AX):Option aW:=o.bind λd=>r.map λds=>d::ds
noncomputable def bltR(op:La)(o:AX):Option R:=o.bind op
noncomputable def slR(o:eK)(l h:Option eh):Option R:=o.bind λd=>l.bind λlo=>h.bind λhi=>oSl d lo hi
noncomputable def atP(o:eK):Option eh:=o.bind λd=>match d with|.int i=>some Tm|_=>none
noncomputable def iteR(c:Ge)(f g:FE)(ω:WSt):Option R:=c.bind λk=>if k=true then f ω else g ω
noncomputable def isiR(c:Ty)(o:eK):Option R:=o.bind λd=>match d with
 | .scr _=>none
 | .exc _=>none
 | .dic _ _=>none
 | d=>↥Ec
noncomputable def tR(o:Ks):Option Bool:=match o with
 | ↥(.bl k)=>some k
 | _=>none
noncomputable def andT(o:Ge)(g:FT)(ω:WSt):Option Bool:=o.bind λc=>if c=true then g ω else some false
noncomputable def orT(o:Ge)(g:FT)(ω:WSt):Option Bool:=o.bind λc=>if c=true then some true else g ω
noncomputable def notT(o:Ge):Option Bool:=o.map (!·)
noncomputable def truT(o:eK):Option Bool:=o.bind truD
noncomputable def andV(o:eK)(g:FD)(ω:WSt):Option D:=o.bind λd=>(blOf d).bind λc=>if c=true then g ω else some ki
noncomputable def seqI(o:eK):Option aW:=o.bind itemsOf
noncomputable def rg1I(o:AX):Option aW:=o.bind λds=>match ds with
 | [.int j]=>if -(2^62)<=j/\j<2^62 then some VS else none
 | _=>none
noncomputable def compR(M:Nat)(fr:bT)(o:AX)(g:FG)(c:FT)(f:FD)(ω:WSt):Option R:=o.bind λds=>if ds.length<=1000000 then (X5 g c f ds (inW M fr ω)).map R.fr else none
noncomputable def outM(o:Qj):Option O:=match o with
 | some (.rt r,_)=>some r
 | some (.nx,_)=>some MO
 | _=>none
section
variable{f g:FS}{ω w:WSt}{i:Nat}{fe fe':FE}{fd fd':FD}{ft ft':FT}{r:O}{d d':D}{ds ds':List D}{a b:Int}{p q:Bool}{fa:FA}{fg:FG}{fi:FI}{n:Nat}
theorem qhb:mir n f ds=outM (f Pb):=rfl
theorem qcy:outM V8=some r:=rfl
theorem qbk:outM (some Jp)=some MO:=rfl
theorem q00:XR f g ω=zCk (f ω) g:=rfl
theorem qbQ:zCk (some Jp) g=g w:=rfl
theorem qbC:zCk V8 g=some (.rt r,w):=rfl
theorem qhB:WI ω=some Cz:=rfl
theorem qh7:Xl i fe ω=setS i ω Mk:=rfl
theorem qcF:setS i ω ↥d=some (.nx,je):=rfl
theorem qcx:setS i ω Os=some (.nx,OS):=rfl
theorem e_if:sIf ft f g ω=ifS Pa f g ω:=rfl
theorem qdw:ifS EB f g ω=f ω:=rfl
theorem qfb:ifS (some false) f g ω=g ω:=rfl
theorem qhk:Xk fe ω=retS ω Mk:=rfl
theorem qc1:retS ω ↥d=some mR:=rfl
theorem qbJ:retS ω Os=some lU:=rfl
theorem qfi:zAx i ω=retV ω ω[i]?:=rfl
theorem qbU:retV ω Cv=some lU:=rfl
theorem qh1:zCZ i fd ω=appS i ω lZ ω[i]?:=rfl
theorem zCC(h:ds.length<1000000):appS i ω Ct Cv=some mE:=vF h
theorem qgW:zC7 i fd ω=extS i ω lZ ω[i]?:=rfl
theorem q9Q(h:Ly):extS i ω (some (.tup ds')) Cv=some Fe:=vF h
theorem q4N(h:Ly):extS i ω (some (.lst ds')) Cv=some Fe:=vF h
theorem qcs:X1 i f ω=f (shrS i ω ω[i]?):=rfl
theorem qcI:shrS i ω Cv=ω.set i ↥eS:=rfl
theorem qgX:zAO fi fg f ω=forS (fi ω) fg f ω:=rfl
theorem e_fs:forS JI fg f ω=zAe fg f ds ω:=rfl
theorem qh6:sAsg fd fg ω=asgS lZ fg ω:=rfl
theorem e_ag:asgS Ct fg ω=(fg d ω).map λw=>Jp:=rfl
theorem e_gn:gN i d ω=some je:=rfl
theorem e_gt{gs}:gT n gs DE ω=if ds.length=n then gs ds ω else none:=rfl
theorem e_gc{gs}:Xb fg gs (d::ds) ω=(fg d ω).bind λw=>gs ds w:=rfl
theorem e_g0:WF [] ω=some ω:=rfl
theorem qhd:Y3 i ω=zCs ω[i]?:=rfl
theorem qcp:zCs (some ↥d)=↥d:=rfl
theorem qcl:zCs Cv=some Jo:=rfl
theorem e_c:fC d ω=some d:=rfl
theorem e_e:eOf fd ω=eD lZ:=rfl
theorem e_ed:eD Ct=↥d:=rfl
theorem e_d:dOf fe ω=dR Mk:=rfl
theorem qbT:dR ↥d=some d:=rfl
theorem qca:dR Os=some eS:=rfl
theorem e_v:vOf fe ω=vR Mk:=rfl
theorem qbZ:vR ↥d=some d:=rfl
theorem qc3:vR Os=some eS:=rfl
theorem qbN:vR (some Jo)=some eS:=rfl
theorem e_op{op}:XB op fd fd' ω=op2 op lZ (fd' ω):=rfl
theorem e_o2{op}:op2 op Ct (some d')=op d d':=rfl
theorem qdR{m}:XC m fa ω=callR m Ml:=rfl
theorem e_cl{m}:callR m JI=(m ds).map O.r:=rfl
theorem qcw:(O.sh d).r=.sh d:=rfl
theorem qbs:(O.fr ds).r=.fr ds:=rfl
theorem e_ac:Y2 fd fa ω=consA lZ Ml:=rfl
theorem e_ca:consA Ct JI=some (d::ds):=rfl
theorem e_an:XF ω=some []:=rfl
theorem qhu:Ww fa ω=(fa ω).map R.fr:=rfl
theorem qh5:zAA fa ω=(fa ω).map D.tup:=rfl
theorem qhv{op}:Xx op fa ω=bltR op Ml:=rfl
theorem e_bl{op}:bltR op JI=op ds:=rfl
theorem qhx{l h:FO}:fSl fd l h ω=slR lZ (l ω) (h ω):=rfl
theorem e_sl{lo hi:eh}:slR Ct (some lo) (some hi)=oSl d lo hi:=rfl
theorem e_po:pNo ω=some none:=rfl
theorem e_pa:pAt fd ω=atP lZ:=rfl
theorem e_ap:atP (some bP)=some (some a):=rfl
theorem qhy:fIte ft fe fe' ω=iteR Pa fe fe' ω:=rfl
theorem qdL:iteR EB fe fe' ω=fe ω:=rfl
theorem qdN:iteR (some false) fe fe' ω=fe' ω:=rfl
theorem qhl{c}:zAp c fd ω=isiR c lZ:=rfl
theorem q8u{c x}:isiR c (some GN)=↥(.bl (zCH .str c)):=rfl
theorem q8n{c}:isiR c Op=↥(.bl (zCH .lst c)):=rfl
theorem q8k{c}:isiR c (some DE)=↥(.bl (zCH .tup c)):=rfl
theorem e_t:tOf fe ω=tR Mk:=rfl
theorem e_tr:tR ↥(.bl p)=some p:=rfl
theorem qe4:zA1 ft ft' ω=andT Pa ft' ω:=rfl
theorem e_ta:andT (some p) ft ω=if p=true then ft ω else some false:=rfl
theorem qho:(if p=true then some q else some false)=some (p&&q):=by cases p <;> rfl
theorem qhh:zAy ft ft' ω=orT Pa ft' ω:=rfl
theorem e_to:orT (some p) ft ω=if p=true then some true else ft ω:=rfl
theorem qh8:(if p=true then some true else some q)=some (p || q):=by cases p <;> rfl
theorem qdJ:Xy ft ω=notT Pa:=rfl
theorem e_tn:notT (some p)=some (!p):=rfl
theorem qeO:Wl fd ω=truT lZ:=rfl
theorem qbV:truT aca=some p:=rfl
theorem q9j:truT Op=some (!ds.isEmpty):=rfl
theorem qfm:zAm fd fd' ω=andV lZ fd' ω:=rfl
theorem e_va:andV aca fd ω=if p=true then fd ω else some ki:=rfl
theorem qh3:(if p=true then some (D.bl q)else some (D.bl false))=some (.bl (p&&q)):=by cases p <;> rfl
theorem qfr:X7 fd ω=seqI lZ:=rfl
theorem qdv:seqI Op=some ds:=rfl
theorem qeK:seqI (some DE)=some ds:=rfl
theorem qhz:iRg1 fa ω=rg1I Ml:=rfl
theorem qkX(h:-(2^62)<=a/\a<2^62):rg1I (some [bP])=some (upTo 0 a.toNat):=vF h
theorem qdD{M fr}:Xo M fr fi fg ft fd ω=compR M fr (fi ω) fg ft fd ω:=rfl
theorem Wk{M fr}(h:IG):compR M fr JI fg ft fd ω=(X5 fg ft fd ds (inW M fr ω)).map R.fr:=vF h
theorem qh0:zCu fd ω=(fd ω).bind oNeg:=rfl
theorem e_ng:oNeg bP=↥(.int (-a)):=rfl
theorem qcg:Wj [eS]=↥Cp:=rfl
theorem qcv:Wj [DE]=↥Cp:=rfl
theorem qby{ns}:Wj [Bj]=↥aaD:=rfl
theorem qam:zBV [eS]=some CD:=rfl
theorem qf8:oEq false bP dy=↥(.bl (a==b)):=rfl
theorem qdT:oEq true bP dy=↥(.bl (!(a==b))):=rfl
theorem qbt:zA8 bP dy=↥(.int (a-b)):=rfl
theorem qfp:oLt bP dy=↥(.bl (decide (a<b))):=rfl
theorem qeX:oLe bP dy=↥(.bl (decide (a<=b))):=rfl
theorem qeL:oGt bP dy=↥(.bl (decide (b<a))):=rfl
theorem qe6:oGe bP dy=↥(.bl (decide (b<=a))):=rfl
theorem qcJ:X3 bP dy=↥(.int (a+b)):=rfl
theorem qgY:oIx eS bP=(atI ds a).map R.sh:=rfl
theorem qhc:oIx DE bP=(atI ds a).map R.sh:=rfl
theorem qhm{ns:af}:oIx Bj bP=(atI ns a).map λn=>.sh Eu:=rfl
theorem q0V{α:Type}{xs:bB}{i:Int}(h0:0<=i)(h1:i<xs.length):atI xs i=some (xs[i.toNat]'∅):=by
 unfold atI ixN;rw[vF h0,IZ];show xs[i.toNat]?=_;rw[VH]
theorem at0{α:Type}{x:α}{xs:bB}:atI Nu 0=some x:=by
 rw[q0V (by decide) (by rw[zJ];omega)];rfl
theorem at1{α:Type}{x y:α}{xs:bB}:atI (x::y::xs) 1=some y:=by
 rw[q0V (by decide) (by rw[zJ,zJ];omega)];rfl
theorem at2{α:Type}{x y z:α}{xs:bB}:atI (x::y::z::xs) 2=some z:=by
 rw[q0V (by decide) (by rw[zJ,zJ,zJ];omega)];rfl
theorem qiF{i j:Int}(h0:0<j)(h1:j<1073741824):cDiv i j=true:=by unfold cDiv;rw[vQ h0,vQ h1];rfl
theorem qih{i j:Int}(h0:0<j):cMod i j=true:=by unfold cMod;rw[vQ h0]
theorem qg9{i j:Int}(h0:-(2^64)<j)(h1:j<2^64):zC5 i j=true:=by unfold zC5;rw[vQ h0,vQ h1];simp
theorem qgL{i j:Int}(h0:-(2^64)<i)(h1:i<2^64):zC5 i j=true:=by unfold zC5;rw[vQ h0,vQ h1];simp
theorem q4a(h:0<b):oMod bP dy=↥(.int (a%b)):=vF (qih h)
theorem q7Y(h:0<b)(h':b<1073741824):oDiv bP dy=↥(.int (a/b)):=vF (qiF h h')
theorem q6q(h:-(2^64)<b)(h':b<2^64):zBZ bP dy=↥(.int (a*b)):=vF (qg9 h h')
theorem q9T(h:-(2^64)<a)(h':a<2^64):zBZ bP dy=↥(.int (a*b)):=vF (qgL h h')
end
def zBT(o:Qj)(P:ou):Prop:=match o with
 | some (.nx,ω)=>P ω
 | some (.ct,ω)=>P ω
 | _=>False
theorem qci{ω:WSt}{P:ou}:zBT (some Cz) P=P ω:=rfl
theorem qgO{g:FG}{b:FS}(ds:aW)(I:List D->WSt->Prop)(turn:∀pre d post ω,ds=pre++d::post->I pre ω->∃w,g d ω=some w/\zBT (b w) (I Hd)){ω:WSt}(h0:I [] ω):∃ω',zAe g b ds ω=some Gr/\I ds ω':=by
 have key:∀(post pre:aW)(ω:WSt),ds=pre++post->I pre ω->∃ω',zAe g b post ω=some Gr/\I ds ω':=by
  intro post
  induction post with
  | nil=>intro pre ω e h;exact⟨ω,rfl,by rw[e,zi];exact h⟩
  | cons d post ih=>
   intro pre ω e h;obtain⟨w,h1,h2⟩:=turn pre d post ω e h;rw[zAe,h1,yR]
   match hb:b w,h2 with
   | some (.nx,ω2),h2=>exact ih Hd ω2 (by rw[e,zL];rfl) h2
   | some (.ct,ω2),h2=>exact ih Hd ω2 (by rw[e,zL];rfl) h2
 exact key ds [] ω rfl h0
theorem qQ{α:Type}{g:FG}{b:FS}(F:α->D)(xs:bB)(I:List α->WSt->Prop)(turn:∀pre x post ω,xs=pre++x::post->I pre ω->∃w,g (F x) ω=some w/\zBT (b w) (I (pre++[x]))){ω:WSt}(h0:I [] ω):∃ω',zAe g b (xs.map F) ω=some Gr/\I xs ω':=by
 have key:∀(post pre:bB)(ω:WSt),xs=pre++post->I pre ω->∃ω',zAe g b (post.map F) ω=some Gr/\I xs ω':=by
  intro post
  induction post with
  | nil=>intro pre ω e h;exact⟨ω,rfl,by rw[e,zi];exact h⟩
  | cons d post ih=>
   intro pre ω e h;obtain⟨w,h1,h2⟩:=turn pre d post ω e h;rw[zI,zAe,h1,yR]
   match hb:b w,h2 with
   | some (.nx,ω2),h2=>exact ih Hd ω2 (by rw[e,zL];rfl) h2
   | some (.ct,ω2),h2=>exact ih Hd ω2 (by rw[e,zL];rfl) h2
 exact key xs [] ω rfl h0
theorem q3x{g:FG}{c:FT}{f:FD}(P:ou)(q:D->Bool)(F:D->D):∀(ds:aW){ω:WSt},P ω ->
  (∀d∈ds,∀ω,P ω->∃w,g d ω=some w/\P w/\c w=some (q d)/\(q d=true->f w=some (F d)))->X5 g c f ds ω=some Qv
 | [],_,_,_=>rfl
 | d::ds,ω,h,t=>by
  obtain⟨w,h1,h2,h3,h4⟩:=t d zE ω h;have ih:=q3x P q F ds h2 Ol;rw[X5,h1,yR,h3,yR];cases hq:q d with
  | true=>rw[jQ,h4 hq,yR,ih,yo hq];rfl
  | false=>rw[vG (by decide),ih,yp (by rw[hq];decide)]
theorem q3u{i:Nat}{f:FD}(F:D->D)(ds:aW){ω:WSt}(h:∀d∈ds,f je=some (F d)):X5 P8 Xm f ds ω=some (ds.map F):=by
 have:=q3x (g:=gN i) (c:=Xm) (f:=f) (λw=>∀x,w.set i x=ω.set i x) Bp F ds (ω:=ω) SY λd hd w hw=>
  ⟨w.set i ↥d,rfl,λx=>by rw[YM,hw],rfl,λ_=>by rw[hw];exact h d hd⟩
 rw[this,PF]
theorem q82{i:Nat}{c:FT}{f:FD}(q:D->Bool)(F:D->D)(ds:aW){ω:WSt}(h:∀d∈ds,c je=some (q d)/\(q d=true->f je=some (F d))):X5 P8 c f ds ω=some Qv :=
 q3x (g:=gN i) (c:=c) (f:=f) (λw=>∀x,w.set i x=ω.set i x) q F ds (ω:=ω) SY λd hd w hw=>
  ⟨w.set i ↥d,rfl,λx=>by rw[YM,hw],by rw[hw];exact(h d hd).1,λz=>by rw[hw];exact(h d hd).2 z⟩
theorem qfw{lo:Int}{n:Nat}{d:D}(h:d∈upTo lo n):∃i:Nat,i<n/\d=.int Cf:=by
 unfold upTo at h;obtain⟨i,h1,h2⟩:=zu.mp h;exact⟨i,yU.mp h1,h2.symm⟩
theorem qgD{lo:Int}{n:Nat}:(upTo lo n).length=n:=by unfold upTo;rw[zA,zo]
noncomputable def onI(F:bU):D->D
 | .int k=>.int (F k)
 | d=>d
theorem qfN{lo:Int}{n:Nat}(F:bU):(Hk.upTo lo n).map (onI F)=((za n).map λ(i:Nat)=>F (lo+rg)).map D.int:=by
 unfold upTo;rw[yK,yK];rfl
theorem qhs{ds:aW}{lo hi:eh}:oSl eS lo hi=some (.fr Ds):=rfl
theorem qkH{ns:af}{lo hi:eh}:oSl Bj lo hi=some HY:=rfl
theorem q0H{xs ys:aW}(h:xs.length+ys.length<=1000000):X3 eF pP=some (.fr LU):=vF h
theorem q90(a:Int):∀(ns:af),inD bP cY=decide (a∈ns)
 | []=>rfl
 | n::r=>by
  have ih:=q90 a r;unfold inD inV at ih ⊢;rw[zI,zI,wK,ih];have e:eqV (D.int n).v (D.int a).v=decide (a=n):=by
   show (n==a)=_
   by_cases h:a=n
   ·subst h;simp
   ·rw[vX h];simpa using λz=>h z.symm
  rw[e]
  by_cases h:a=n
  ·simp[h]
  ·by_cases h':a∈r <;> simp[h,h']
theorem qgg(ns:af):(ns.map D.int).all Wf=true:=by
 rw[YK];exact xr.mpr λ_ _=>rfl
theorem qib{a:Int}{ns:af}:oIn true bP Lh=↥(.bl (!decide (a∈ns))):=by
 show (if (Wf bP&&(ns.map D.int).all Wf)=true then _ else _)=_;rw[qgg];show some (R.sh (D.bl (!inD _ _)))=_;rw[q90]
theorem qaz{ns:af}{i:Nat}(h:i<ns.length):atI cY rg=some (.int ns[i]):=by
 rw[q0V ∅ (by rw[zA];omega)];simp
theorem q95{d:D}(h:aaa):eqD d d=true:=SeqAt.eqv_refl d.py (SeqAt.canLay_of_shaped h)
theorem q26{d:D}(h:aaa):oEq false d d=↥cp:=by
 unfold oEq;rw[h];show some (R.sh (D.bl (eqD d d)))=_;rw[q95 h]
theorem qg1{d:D}(h:aaa):oEq true d d=↥ki:=by
 unfold oEq;rw[h];show some (R.sh (D.bl (!eqD d d)))=_;rw[q95 h];rfl
theorem q5N{ds:aW}(n:Nat)(hn:n<64)(h:∀d∈ds,d.py.canLay0=true/\d.py.depth<=n):shp eS=true:=by
 unfold shp SeqAt.shaped;have:∀ds:List D,(∀d∈ds,d.py.canLay0=true/\d.py.depth<=n)->PyData.canLayAll0 nM=true/\PyData.depthAll nM<=n:=by
  intro ds
  induction ds with
  | nil=>intro _;exact⟨rfl,B4⟩
  | cons d ds ih=>
   intro h;obtain⟨a,b⟩:=ih λe he=>h e On;obtain⟨a',b'⟩:=h d zE;refine SW
   ·rw[D.pys,PyData.canLayAll0,a,a'];rfl
   ·rw[D.pys,PyData.depthAll];exact Nat.max_le.mpr ⟨b',b⟩
 obtain⟨a,b⟩:=this ds h;show (PyData.canLayAll0 nM&&decide (PyData.depthAll nM+1<=64))=true;rw[a,vQ ∅];rfl
noncomputable def zBW(x:Int):List Int->List Int
 | []=>[x]
 | y::r=>if x<y then x::y::r else if x=y then y::r else y::zBW x r
noncomputable def Xa(ns:af):List Int:=ns.foldr zBW []
theorem q6w{x y:Int}:∀{l:af},y∈zBW x l↔y=x\/y∈l
 | []=>by simp[zBW]
 | z::r=>by
  unfold zBW
  split
  ·simp
  ·split
   ·rename_i h;subst h;simp
   ·simp only[zH,q6w (l:=r)]
    constructor
    ·rintro(h|h|h) <;> simp[h]
    ·rintro(h|h|h) <;> simp[h]
theorem q8l{x:Int}:∀{l:af},l.Pairwise (· < ·)->(zBW x l).Pairwise (· < ·)
 | [],_=>by simp[zBW]
 | z::r,h=>by
  obtain⟨h1,h2⟩:=zZ.mp h;unfold zBW
  split
  ·rename_i hx
   refine zZ.mpr ⟨Ej,h⟩;rcases zH.mp hy with rfl|hy
   ·exact hx
   ·exact Int.lt_trans hx (h1 y hy)
  ·split
   ·exact h
   ·refine zZ.mpr ⟨Ej,q8l h2⟩
    rcases q6w.mp hy with rfl|hy
    ·omega
    ·exact h1 y hy
theorem q1t{y:Int}:∀{ns:af},y∈Xa ns↔y∈ns
 | []=>by simp[Xa]
 | x::r=>by
  show y∈zBW x (Xa r)↔_;rw[q6w,q1t (ns:=r),zH]
theorem q0B:∀{ns:af},(Xa ns).Pairwise (· < ·)
 | []=>xL
 | x::r=>q8l (q0B (ns:=r))
theorem qap{x:Int}:∀(l:af),(zBW x l).length<=l.length+1
 | []=>by simp[zBW]
 | z::r=>by
  have:=qap (x:=x) r;unfold zBW
  split
  ·simp
  ·split
   ·simp
   ·rw[zJ,zJ];omega
theorem q1w:∀(l:af),(Xa l).length<=l.length
 | []=>zK _
 | x::r=>by
  have h1:=qap (x:=x) (Xa r);have h2:=q1w r;show (zBW x (Xa r)).length<=_;rw[zJ];omega
theorem qch:∀{l m:af},l.Pairwise (· < ·)->m.Pairwise (· < ·)->(∀x,x∈l↔x∈m)->l=m
 | [],[],_,_,_=>rfl
 | [],y::r,_,_,h=>vO acV (by simp)
 | x::r,[],_,_,h=>vO ((h x).mp zE) (by simp)
 | x::r,y::q,hl,hm,h=>by
  obtain⟨a1,a2⟩:=zZ.mp hl;obtain⟨b1,b2⟩:=zZ.mp hm;have e:x=y:=by
   rcases zH.mp ((h x).mp zE)with e|e
   ·exact e
   ·rcases zH.mp acV with f|f
    ·exact f.symm
    ·have:=b1 x e;have:=a1 y f;omega
  subst e;rw[qch a2 b2 λz=>?_]
  constructor
  ·intro hz
   rcases zH.mp ((h z).mp (zF _ hz))with f|f
   ·have:=a1 z hz;omega
   ·exact f
  ·intro hz
   rcases zH.mp ((h z).mpr (zF _ hz))with f|f
   ·have:=b1 z hz;omega
   ·exact f
theorem qaT{l:af}(h:l.Pairwise (· <= ·))(n:l.Nodup):l.Pairwise (· < ·):=by
 induction l with
 | nil=>exact xL
 | cons x r ih=>
  obtain⟨h1,h2⟩:=zZ.mp h;obtain⟨n1,n2⟩:=yW.mp n;refine zZ.mpr ⟨Ej,ih h2 n2⟩;have:=h1 y hy;have:x≠y:=λe=>n1 (e▸hy);omega
def setP(w:vZ)(S:vH)(ns:af):vk->Prop:=λh=>zCY h S Qe ik ns.length
def rSet(w:vZ):List V->Hp->VK->Prop:=λxs H Q=>∃p ns,xs=Rh/\H p=some CA/\ns.length+1<4096/\∀S,H S=none->Q fw (upd H S RI)
def fewS(ns:af):Prop:=(Xa ns).length<64/\ns.length<4000
noncomputable instance (ns:List Int):Decidable (fewS ns):=inferInstanceAs (Decidable (_/\_))
theorem qeq{ns:af}(h:Q3):fewS ns:=⟨Z6 (q1w ns) h,∅⟩
def rSortS(w:vZ):List V->Hp->VK->Prop:=λxs H Q=>∃S ns,xs=[fw]/\H S=some RI/\fewS ns/\∀l,H l=none->Q cX (upd H l (.lst Gw))
section
variable{X:Cx}
theorem qdr{pins:ay}{σ:St}{H:Hp}{s:vC}(I:Uc)(d:sU):L2.Inv X pins σ H { s with drawn:=d } :=
 ⟨I.ok,I.os,I.bare,I.base,I.loc,I.cell,I.free,I.freeC,I.pin,I.hok,I.len⟩
theorem qgT(hc:cE):WW X mw (rSet X.w):=by
 intro pins s σ H xs us Q I r h;obtain⟨p,ns,rfl,hp,hz,q⟩:=h;obtain⟨u,rfl,rx⟩:=vals1 r;cases rx;obtain⟨its,n,rv,e,_⟩:=I.lst hp;have ia:=q2F rv;have hlen:its.length=ns.length:=by rw[<- rv.length,zA]
 refine qbi (items:=its.toArray) (ns:=ns) iC mZ ⇑ia (by rw[zQ,hlen];exact hz) λh' tk sv kp=>?_;have hsz:its.toArray.size=ns.length:=by rw[zQ,hlen]
 rw[hsz]at sv;refine⟨aD,_,I.laid (t':=tk) (λb o e=>kp b o Dj e) bZ (show Xh X.prog X.w _ h' _ (.ext (setP X.w s.heap.objs.size ns))from ⟨sv,?_,λh1 h2 a1 a2=>a1.at a2⟩),rfl,q _ mQ⟩;obtain⟨_,⟨o,_,_,_,e,_⟩,_⟩:=sv;exact GR
theorem qcK(hc:cE):WW X fE (rSortS X.w):=by
 intro pins s σ H xs us Q I r h;obtain⟨S,ns,rfl,hp,hz,q⟩:=h;obtain⟨u,rfl,rx⟩:=vals1 r;cases rx;obtain⟨⟨zs,SI,hl,hm⟩,_⟩:=I.hok S _ hp;obtain⟨o,es,ep,t,go,gx,gd,T,gl,gb,gg,gv,gn⟩:=id SI;have mz:∀x,x∈zs↔x∈Xa ns:=λx=>by
  rw[hm,q1t]
  constructor
  ·rintro⟨i,hi,rfl⟩
   dsimp only
   rw[zT,zD hi];exact yQ hi
  ·intro hx
   obtain⟨i,hi,e⟩:=zf.mp hx;exact⟨i,hi,by dsimp only;rw[zT,zD hi];exact e⟩
 have zl:=((wx gn ((q0B (ns:=ns)).imp λh=>∅)).mpr mz).length_eq;refine qd9 iC SI (by rw[zl];exact hz.1) λD h' tk d vs ys n kp hD hg ia pm pw=>?_;have ey:ys=Xa ns:=qch (qaT pw (pm.nodup_iff.mpr gn)) q0B λx=>by rw[pm.mem_iff,mz]
 subst ey;have hvl:vs.length=(Xa ns).length:=PyProof.Rows.IntsAre.length ia;have hsl:(Xa ns).length<=sizeLine:=by
  have:=pm.length_eq;exact yD (show (Xa ns).length<=64 from ye hz.1) (by decide)
 have I2:=qdr (I.laid (a:=D) (o:=.lst Gw) (t':=tk) kp hD (show Xh X.prog X.w _ h' _ RH from ⟨by rw[zA];exact hsl,vs,n,q1v ia,hg⟩)) d;exact⟨HV,_,I2,rfl,q _ (I.hok.fresh hD)⟩
noncomputable def intsOf:List D->Option af
 | []=>some []
 | .int i::r=>(intsOf r).map λl=>i::l
 | _=>none
theorem q0R:∀{ds:aW}{ns:af},intsOf ds=some ns->ds=ns.map D.int
 | [],_,e=>by cases e;rfl
 | .int c::r,b,e=>by
  obtain⟨k,q,e⟩:=mpd e;subst e;rw[q0R q];rfl
 | .non::_,_,e=>by cases e
 | .bl _::_,_,e=>by cases e
 | .str _::_,_,e=>by cases e
 | .lst _::_,_,e=>by cases e
 | .tup _::_,_,e=>by cases e
 | .scr _::_,_,e=>by cases e
 | .exc _::_,_,e=>by cases e
 | .dic _ _::_,_,e=>by cases e
theorem q0g:∀(ns:af),intsOf cY=some ns
 | []=>rfl
 | n::r=>by show (intsOf (r.map D.int)).map _=_;rw[q0g r];rfl
noncomputable def zBB:D->Option R
 | .lst ds=>(intsOf ds).bind λns=>if fewS ns then some (.fr ((Xa ns).map D.int))else none
 | _=>none
noncomputable def WJ(f:FD):FE:=λω=>(f ω).bind zBB
theorem q6Q{a:vW}{f:FD}{p1 p2 q1 q2:Pos}(hg1:Cl)(hm1:kg)(hg2:Gl X "set")(hm2:X.mg "set" = none)(ha:de)(hc:cE:=by rfl)(he1:fU:=by rfl)(hpl1:(vj q2 bF).any (·.1)=false:=by rfl)(he2:vK [oE] X.env=(false,eval oE X.env)::vK [] X.env:=by rfl)(hpl2:(vj q1 bF).any (·.1)=false:=by rfl):
  XE X (.Call (.Name "sorted" p1) [oE] [] q1) (WJ f):=by
 obtain⟨t,h1,h2⟩:=ha;refine⟨_,q1Q (qcK hc) hg1 hm1 q2i (qA (q8i (qgT hc) hg2 hm2 qk4 (qA h1 qx he1) (by decide) (by decide) he1 hpl1) qx he2) (by decide) (by decide) he2 hpl2,ca⟩;obtain⟨d,q,e⟩:=bnd e;refine h2 G0 H0 G ω σ H d _ o q λv G1 H1 x1 y1=>?_;cases d with
 | lst ds=>
  obtain⟨ns,e1,e2⟩:=bnd (show (intsOf ds).bind _=some r from e);have hds:=q0R e1;subst hds
  by_cases hz:fewS ns
  ·rw[vF hz]at e2
   cases e2;obtain⟨p,vs,rfl,g1,g2⟩:=y1.lst x1.gh;have hv:=g2.of_ints;subst hv;refine⟨p,ns,rfl,g1,by have:=hz.2;omega,λS hS=>?_⟩;refine⟨S,ns,rfl,qe,hz,Vz⟩;have x2:=Ext.hide x1.gh hS (.ext (setP X.w S ns));have x3:=Ext.hide x2.gh hl (.lst Gw);exact k _ G1 _ BK ⟨l,_,rfl,(x1.trans x2).hh.free hl,x2.gh.free hl,qe,JV⟩
  ·rw[vG hz]at e2;cases e2
 | _=>cases e
end
end Hk
namespace PySem.F
theorem noLenZip:uy N7 "__len__" = pure none:=by rw[uL,v5];kernel_rfl
theorem noHintZip:uy N7 "__length_hint__" = pure none:=by rw[uL,v5];kernel_rfl
end PySem.F
namespace Hk
open PySem PySem.Spec PyProof.Rows
section
variable{prog:vU}{w:vZ}{A:vf}{E:vB->vC->Prop}{s:vC}
abbrev zAl(h:vk)(z TI TO:vH)(f0 f1:vB):Prop:=h.get? z=some { cls:=.type "zip", dict:=none,data:=.fields #[f0,f1,.bool false,.ref TI,.ref TO],slots:=#[] }
theorem qgv{a:vH}{Q:Option Obj->vC->Prop}(h:Q (s.heap.get? a) s):vP ak A (loadIfAlive a) Q E s:=λ_ _ _=>h
theorem qce{z TI TO t:vH}{ot:Obj}{f1:vB}{Q:pD}(hz:rR)(ht:ED)(k:∀h' f1',zAl h' z TI TO (uY t) f1'->xh z s.heap h'->Q false { s with heap:=h' }):vP ak A (Builtin.SmallTypes.ownedTupleIsFree hV) Q E s:=by
 unfold Builtin.SmallTypes.ownedTupleIsFree;refine vA (uX hz rfl (x:=uY t) rfl ?_);show vP _ _ (loadIfAlive ((t:Int)).toNat >>= _) _ _ _;rw[yj];refine vA (qgv ?_);rw[ht];show vP _ _ (field hV 1 >>= _) _ _ _;refine vA (uX hz rfl (x:=f1) rfl ?_);refine vg eN eN
 ·refine vA (uG hz (by simp) λh1 e1 sb=>vJ (k h1 l0 e1 sb))
 ·exact vJ (k s.heap f1 hz (YJ z s.heap))
theorem qdC{z TI TO i1 i2 l1 l2 t:vH}{ot:Obj}{f1:vB}{k1 k2:Nat}{xs ys:dw}{x y:vB}{Q:gM}(D:jo)(hz:rR)(ht:ED)(hTI:JE)(h1:Nz)(h2:Ny)(hl1:UM)(hl2:UL)(hx:xs[k1]?=some x)(hy:ys[k2]?=some y)(hQ:∀h' f1',zAl h' z TI TO (uY t) f1'->h'.IsListIter i1 l1 (k1+1)->h'.IsListIter i2 l2 (k2+1)->uv h' s.heap.objs.size x y ->
   (∀c o,c≠z->c≠i1->c≠i2->s.heap.get? c=some o->h'.get? c=some o)->Q (some aD) { s with heap:=h' }) :
  vP ak A UI Q E s:=by
 have hT:s.TypeIs hV "zip" := Nj;unfold uU;refine vA dl;show vP _ _ (field hV 2 >>= _) _ _ _;refine vA GC;show vP _ _ (field hV 3 >>= _) _ _ _;refine vA Jb;refine vA aaW;show vP _ _ (Builtin.SmallTypes.ownedTupleIsFree hV >>= _) _ _ _;refine vA Is;simp only[yI,if_false];have a1:=h1.extBut sb1.extBut D.i1z;have a2:=h2.extBut sb1.extBut D.i2z;have b1:=hl1.extBut sb1.extBut D.l1z;have b2:=hl2.extBut sb1.extBut D.l2z;rw[<- Z7];simp only[Zk,Yo];refine vA (vA UG);show vP _ _ (Builtin.SmallTypes.nextOf OJ >>= _) _ _ _;refine vA G7;refine vJ ?_;refine vA UG;show vP _ _ (Builtin.SmallTypes.nextOf J1 >>= _) _ _ _;refine vA (uw HN Kl hy λh₃ c2 sb3=>vJ ?_);refine vJ fF;show vP _ _ (newTuple [x,y] >>= _) _ _ _;refine vA (tJ ?_);have hsz:h₃.objs.size=s.heap.objs.size:=by rw[sb3.1,sb2.1,sb1.1]
 refine vJ ⟨_,rfl,fF⟩
 dsimp only
 rw[hsz];refine hQ _ f1' ?_ ?_ ?_ ?_ ?_
 ·exact zG _ (sb3.extBut _ _ D.i2z.symm (sb2.extBut _ _ D.i1z.symm hz1))
 ·exact(c1.extBut sb3.extBut D.i12).at λo e=>zG _ e
 ·exact c2.at λo e=>zG _ e
 ·have:=zY h₃ (o:={ cls:=.type "tuple", data:=.seq [x,y].toArray }) rfl
  rw[hsz]at this;exact this
 ·exact λc o n1 n2 n3 e=>zG _ (sb3.extBut _ _ n3 Do)
theorem qg3{z TI TO i1 i2 l1 l2 t:vH}{ot:Obj}{f1:vB}{k1 k2:Nat}{xs ys:dw}{Q:gM}(hh:cO)(D:jo)(hz:rR)(ht:ED)(hTI:JE)(h1:Nz)(h2:Ny)(hl1:UM)(hl2:UL)(hend:xs[k1]?=none\/ys[k2]?=none)(hQ:∀h',(∀c o,c≠z->c≠i1->c≠i2->s.heap.get? c=some o->h'.get? c=some o)->Q none { s with heap:=h' }):
  vP ak A UI Q E s:=by
 have hT:s.TypeIs hV "zip" := Nj;unfold uU;refine vA dl;show vP _ _ (field hV 2 >>= _) _ _ _;refine vA GC;show vP _ _ (field hV 3 >>= _) _ _ _;refine vA Jb;refine vA aaW;show vP _ _ (Builtin.SmallTypes.ownedTupleIsFree hV >>= _) _ _ _;refine vA Is;simp only[yI,if_false];have a1:=h1.extBut sb1.extBut D.i1z;have a2:=h2.extBut sb1.extBut D.i2z;have b1:=hl1.extBut sb1.extBut D.l1z;have b2:=hl2.extBut sb1.extBut D.l2z;rw[<- Z7];simp only[Zk,Yo];refine vA (vA UG);show vP _ _ (Builtin.SmallTypes.nextOf OJ >>= _) _ _ _;cases hx:xs[k1]? with
 | none=>
  refine vA (tY hh a1 b1 hx λh₂ e sb2 he=>?_);obtain⟨o,ho,hc⟩:=he;refine vA (uW (T := "StopIteration") (b:=true) ⟨o,ho,hc⟩ tI ?_);exact vJ (hQ _ λc o n1 n2 n3 e=>sb2 _ _ n2 DO)
 | some x=>
  have hy:ys[k2]?=none:=by rcases hend with h|h;rw[hx]at h;cases h;exact h
  refine vA G7;refine vJ ?_;refine vA UG;show vP _ _ (Builtin.SmallTypes.nextOf J1 >>= _) _ _ _;refine vA (tY hh HN Kl hy λh₃ e sb3 he=>?_);obtain⟨o,ho,hc⟩:=he;refine vA (uW (T := "StopIteration") (b:=true) ⟨o,ho,hc⟩ tI ?_);exact vJ (hQ _ λc o n1 n2 n3 e=>sb3 _ _ n3 Do)
structure ZSt (h0:vk) (S z TI TO i1 i2 l1 l2:vH) (xs ys:Array vB) (ts:List vH) (h:vk):Prop where
 zip:(ts=[]/\zAl h z TI TO .none (.bool false))\/∃t f1,t∈ts/\zAl h z TI TO (uY t) f1
 pTI:uv h TI (.ref i1) (.ref i2)
 pTO:∃a b,uv h TO a b
 it1:h.IsListIter i1 l1 ts.length
 it2:h.IsListIter i2 l2 ts.length
 hl1:h.IsList l1 xs
 hl2:h.IsList l2 ys
 tups:∀(j:Nat)t,ts[j]?=some t->∃x y,xs[j]?=some x/\ys[j]?=some y/\uv h t x y
 old:∀t∈ts,t≠S/\t≠z/\t≠TO/\t≠i1/\t≠i2
 nd:ts.Nodup
 new:∀t∈ts,h0.objs.size<=t
 keep:∀b o,b≠S->h0.get? b=some o->h.get? b=some o
theorem qfL{h0:vk}{S z TI TO i1 i2 l1 l2:vH}{xs ys:dw}{ts:dh}{Q:gM}(D:jo)(hf:∀b∈[z,TO,i1,i2],h0.get? b=none)(hS:S∉pM)(Z:CT)(hSo:∃o,s.heap.get? S=some o)(hsz:KW)(hlt:ts.length<min xs.size ys.size)(k:∀h' t,ZSt h0 S z TI TO i1 i2 l1 l2 xs ys (ts++[t]) h'->(∀o,s.heap.get? S=some o->h'.get? S=some o)->s.heap.objs.size<=h'.objs.size->Q (some jI) { s with heap:=h' }):
  vP ak A UI Q E s:=by
 have hix:ts.length<xs.size:=z7 hlt (Zl ..);have hiy:ts.length<ys.size:=z7 hlt (YY ..);obtain⟨a,b,hTO⟩:=Z.pTO;obtain⟨oS,hoS⟩:=hSo;have gx:=yF hix;have gy:=yF hiy;simp only[zH,zk,or_false,not_or]at hS;have nz:∀b o,h0.get? b=some o->b≠z/\b≠TO/\b≠i1/\b≠i2:=λb o e=>
  ⟨λq=>(by have:=hf z (by simp);rw[q,this]at e;cases e),λq=>(by have:=hf TO (by simp);rw[q,this]at e;cases e),λq=>(by have:=hf i1 (by simp);rw[q,this]at e;cases e),λq=>(by have:=hf i2 (by simp);rw[q,this]at e;cases e)⟩
 have fin:∀(h':vk)(f1:vB)(u:vH),u∈ts++[s.heap.objs.size]->zAl h' z TI TO (uY u) f1->(∃a b,uv h' TO a b)->h'.IsListIter i1 l1 (ts.length+1)->h'.IsListIter i2 l2 (ts.length+1)->uv h' s.heap.objs.size xs[ts.length] ys[ts.length] ->
   (∀c o,c≠z->c≠TO->c≠i1->c≠i2->s.heap.get? c=some o->h'.get? c=some o)->Q (some aD) { s with heap:=h' }:=λh' f1 u hu g1 g2 g3 g4 g5 g6=>by
  refine k h' _ ⟨.inr ⟨u,f1,hu,g1⟩,g6 _ _ D.TIz D.TITO D.TIi1 D.TIi2 Z.pTI,g2,by rw[zB];exact g3,by rw[zB];exact g4,Z.hl1.at λo e=>g6 _ o D.l1z D.l1TO D.l1i1 D.l1i2 e,Z.hl2.at λo e=>g6 _ o D.l2z D.l2TO D.l2i1 D.l2i2 e,λj t ht=>?_,λt ht=>?_,?_,λt ht=>?_,λb o hb e=>?_⟩ (λo e=>?_) (ye (zS g5))
  ·rcases yB j ts.length with y|y
   ·rw[zh y]at ht
    obtain⟨p,q,r1,r2,r3⟩:=Z.tups j t ht;have ho:=Z.old t (zz ht);exact⟨p,q,r1,r2,g6 _ _ ho.2.1 ho.2.2.1 ho.2.2.2.1 ho.2.2.2.2 r3⟩
   ·rw[zd y]at ht
    have hj:j=ts.length:=by
     rcases yB (j-ts.length) 1 with c|c
     ·omega
     ·rw[z8 ⇑c]at ht;cases ht
    subst hj;rw[wo]at ht;cases ht;exact⟨_,_,gx,gy,g5⟩
  ·rcases zM.mp ht with ht|ht
   ·exact Z.old t ht
   ·rw[zU.mp ht]
    have lt:∀{c o},s.heap.get? c=some o->s.heap.objs.size≠c:=λe=>wC Dj;refine⟨lt hoS,?_,lt hTO,?_,?_⟩
    ·rcases Z.zip with⟨_,e⟩|⟨_,_,_,e⟩ <;> exact lt e
    ·obtain⟨_,e,_⟩:=Z.it1;exact lt e
    ·obtain⟨_,e,_⟩:=Z.it2;exact lt e
  ·refine yc.mpr ⟨Z.nd,by simp,λa ha b hb=>?_⟩
   rw[zU.mp hb];intro e;obtain⟨j,hj,ej⟩:=zf.mp ha;obtain⟨_,_,_,_,et⟩:=Z.tups j a (by rw[KF,ej]);exact vO (zS et) (by rw[e];exact xV _)
  ·rcases zM.mp ht with ht|ht
   ·exact Z.new t ht
   ·rw[zU.mp ht];exact hsz
  ·obtain⟨n1,n2,n3,n4⟩:=nz b o e
   exact g6 b o n1 n2 n3 n4 IN
  ·exact g6 S o hS.1 hS.2.2.1 hS.2.2.2.1 hS.2.2.2.2.1 e
 rcases Z.zip with⟨_,hz⟩|⟨t,f1,ht,hz⟩
 ·exact tZ D hz Z.pTI hTO Z.it1 Z.it2 Z.hl1 Z.hl2 gx gy λh' a1 a2 a3 a4 a5 a6 a7=>fin h' _ _ (by simp) a1 ⟨_,_,a2⟩ a3 a4 a5 a7
 ·obtain⟨j,hj,ej⟩:=zf.mp ht
  obtain⟨_,_,_,_,et⟩:=Z.tups j t (by rw[KF,ej]);refine qdC D hz et Z.pTI Z.it1 Z.it2 Z.hl1 Z.hl2 gx gy λh' f1' a1 a3 a4 a5 a7=>fin h' f1' t (zW _ ht) a1 ⟨a,b,?_⟩ a3 a4 a5 λc o n1 _ n3 n4 e=>a7 c o n1 n3 n4 e;exact a7 _ _ D.TOz D.TOi1 D.TOi2 hTO
theorem qie{h0:vk}{S z TI TO i1 i2 l1 l2:vH}{xs ys:dw}{ts:dh}{Q:gM}(hh:cO)(D:jo)(Z:CT)(hlt:ts.length=min xs.size ys.size)(k:∀h',(∀c o,c≠z->c≠TO->c≠i1->c≠i2->s.heap.get? c=some o->h'.get? c=some o)->Q none { s with heap:=h' }):
  vP ak A UI Q E s:=by
 obtain⟨a,b,hTO⟩:=Z.pTO;have hend:xs[ts.length]?=none\/ys[ts.length]?=none:=by
  rcases YN xs.size ys.size with h|h
  ·left;exact yl ∅
  ·right;exact yl ∅
 rcases Z.zip with⟨_,hz⟩|⟨t,f1,ht,hz⟩
 ·exact t4 hh D hz Z.pTI hTO Z.it1 Z.it2 Z.hl1 Z.hl2 hend λh' g=>k h' g
 ·obtain⟨j,hj,ej⟩:=zf.mp ht
  obtain⟨_,_,_,_,et⟩:=Z.tups j t (by rw[KF,ej]);exact qg3 hh D hz et Z.pTI Z.it1 Z.it2 Z.hl1 Z.hl2 hend λh' g=>k h' λc o n1 _ n3 n4 e=>g c o n1 n3 n4 e
end
end Hk
namespace Hk
open PySem PySem.Spec PySem.W PyProof.Rows
section
variable{prog:vU}{w:vZ}{A:vf}{E:vB->vC->Prop}{R:sI->vC->Prop}{s:vC}
abbrev zAU(h:vk)(S:vH)(acc:dw)(c:Nat):Prop:=h.get? S=some { cls:=.type "list", dict:=none,data:=.seq acc c,slots:=#[] }
theorem q87{h0 h h':vk}{S z TI TO i1 i2 l1 l2:vH}{xs ys:dw}{ts:dh}(hS:S∉pM)(Z:ZSt h0 S z TI TO i1 i2 l1 l2 xs ys ts h)(k:∀b o,b≠S->h.get? b=some o->h'.get? b=some o):
  ZSt h0 S z TI TO i1 i2 l1 l2 xs ys ts h':=by
 simp only[zH,zk,or_false,not_or]at hS;obtain⟨s1,s2,s3,s4,s5,s6,s7⟩:=hS;refine⟨?_,k _ _ (Ne.symm s2) Z.pTI,?_,Z.it1.at λo e=>k _ o (Ne.symm s4) e,Z.it2.at λo e=>k _ o (Ne.symm s5) e,Z.hl1.at λo e=>k _ o (Ne.symm s6) e,Z.hl2.at λo e=>k _ o (Ne.symm s7) e,λj t ht=>?_,Z.old,Z.nd,Z.new,λb o hb e=>k b o hb IN⟩
 ·rcases Z.zip with⟨e1,e2⟩|⟨t,f1,e1,e2⟩
  ·exact .inl ⟨e1,Se⟩
  ·exact .inr ⟨t,f1,e1,Se⟩
 ·obtain⟨a,b,e⟩:=Z.pTO
  exact⟨a,b,k _ _ (Ne.symm s3) e⟩
 ·obtain⟨x,y,a1,a2,a3⟩:=Z.tups j t ht
  exact⟨x,y,a1,a2,k _ _ (Z.old t (zz ht)).1 a3⟩
theorem qgz{h0:vk}{S z TI TO i1 i2 l1 l2:vH}{xs ys:dw}{res:vB}(hh:cO)(D:jo)(hf:∀b∈[z,TO,i1,i2],h0.get? b=none)(hS:S∉pM)(hn:rq)(g0:Array tf)(d0:sU)(o0)(hR:∀(h':vk)(tk:Nat)(ts:dh)(c:Nat),ts.length=min xs.size ys.size->ts.Nodup->(∀t∈ts,t≠S/\h0.objs.size<=t)->zAU h' S (ts.map Value.ref).toArray c->(∀b o,b≠S->h0.get? b=some o->h'.get? b=some o)->(∀(j:Nat)t,ts[j]?=some t->∃x y,xs[j]?=some x/\ys[j]?=some y/\uv h' t x y)->R Co ⟨h',g0,d0,tk,o0⟩):
  ∀(k:Nat)(h:vk)(tk:Nat)(ts:dh)(c:Nat),min xs.size ys.size-ts.length=k->ts.length<=min xs.size ys.size->ZSt h0 S z TI TO i1 i2 l1 l2 xs ys ts h->zAU h S (ts.map Value.ref).toArray c->h0.objs.size<=h.objs.size ->
   uc ak A Az R ⟨h,g0,d0,tk,o0⟩:=by
 have hS':=hS;simp only[zH,zk,or_false,not_or]at hS';have nz:∀b o,h0.get? b=some o->b≠z/\b≠TO/\b≠i1/\b≠i2:=λb o e=>
  ⟨λq=>(by have:=hf z (by simp);rw[q,this]at e;cases e),λq=>(by have:=hf TO (by simp);rw[q,this]at e;cases e),λq=>(by have:=hf i1 (by simp);rw[q,this]at e;cases e),λq=>(by have:=hf i2 (by simp);rw[q,this]at e;cases e)⟩
 intro k
 induction k with
 | zero=>
  intro h tk ts c hk hi Z hl hsz;have hin:ts.length=min xs.size ys.size:=∅
  refine uK PySem.F.entry_extend_loop ?_;rw[BI];show vP _ A.in1 (uU hV >>= _) _ _ _;refine vA (qie (A:=A.in1) hh D Z hin λh' g=>?_);refine vJ (hR h' tk ts c hin Z.nd (λt ht=>⟨(Z.old t ht).1,Z.new t ht⟩) (g _ _ hS'.1 hS'.2.2.1 hS'.2.2.2.1 hS'.2.2.2.2.1 hl) Jx λj t ht=>?_)
  ·obtain⟨n1,n2,n3,n4⟩:=nz b o e
   exact g b o n1 n2 n3 n4 IN
  ·obtain⟨x,y,a1,a2,a3⟩:=Z.tups j t ht
   have ho:=Z.old t (zz ht);exact⟨x,y,a1,a2,g _ _ ho.2.1 ho.2.2.1 ho.2.2.2.1 ho.2.2.2.2 a3⟩
 | succ k ih=>
  intro h tk ts c hk hi Z hl hsz;have hlt:ts.length<min xs.size ys.size:=∅
  refine uK PySem.F.entry_extend_loop ?_;rw[BI];show vP _ A.in1 (uU hV >>= _) _ _ _;refine vA (qfL (A:=A.in1) D hf hS Z ⟨_,hl⟩ hsz hlt λh' t Z' hk' hsz'=>?_);have hl':=hk' _ hl;show vP _ A.in1 (tF S (·.push jI) >>= _) _ _ _;refine vA ?_;have sz:(ts.map Value.ref).toArray.size=ts.length:=by simp
  have e:=get?_update_seq hl' (·.push (Value.ref t));have e2:(ts.map Value.ref).toArray.push jI=((ts++[t]).map Value.ref).toArray:=by simp
  rw[e2]at e;refine uM hl' rfl (vJ ⟨fz,ih _ _ (ts++[t]) _ (by rw[zB,zR];omega) (by rw[zB,zR];omega) (q87 hS Z' λb o hb e=>?_) e (by rw[xW];exact yD hsz hsz')⟩)
   (by rw[sz];omega) (by show ((ts.map Value.ref).toArray.push jI).size<=sizeLine+1;rw[Zj,sz];omega)
  exact(zt _ _ iz).trans e
theorem qd3{h0:vk}{S z TI TO i1 i2 l1 l2:vH}{xs ys:dw}{res:vB}{c₀:Nat}(hh:cO)(D:jo)(hf:∀b∈[z,TO,i1,i2],h0.get? b=none)(hS:S∉pM)(hn:rq)(Z:ZSt h0 S z TI TO i1 i2 l1 l2 xs ys [] s.heap)(hl:zAU s.heap S #[] c₀)(hsz:KW)(hR:∀(h':vk)(tk:Nat)(ts:dh)(c:Nat),ts.length=min xs.size ys.size->ts.Nodup->(∀t∈ts,t≠S/\h0.objs.size<=t)->zAU h' S (ts.map Value.ref).toArray c->(∀b o,b≠S->h0.get? b=some o->h'.get? b=some o)->(∀(j:Nat)t,ts[j]?=some t->∃x y,xs[j]?=some x/\ys[j]?=some y/\uv h' t x y)->R Co { s with heap:=h',toks:=tk }):
  vP ak A.in1 (Builtin.List.listExtendWith fw hV res)
   (λfin s'=>match fin with|.done f=>R Vk s'|.again c'=>c'.quiet=true/\uc ak A c' R s') AK s:=by
 obtain⟨hp,g,d,tk,os⟩:=s;have hS':=hS;simp only[zH,zk,or_false,not_or]at hS';obtain⟨_,hz⟩|⟨t,_,ht,_⟩:=Z.zip
 rotate_left
 ·cases ht
 have hT:Shared.TypeIs ⟨hp,g,d,tk,os⟩ hV "zip" := Nj;unfold Builtin.List.listExtendWith;refine vA (uh (T := "zip") hT ?_);have h1:Builtin.List.listSameRef fw hV=false:=by simp[Builtin.List.listSameRef,hS'.1]
 have h2:(Value.type "zip" == Value.type "list")=false:=by decide
 have h3:(Value.type "zip" == Value.type "tuple")=false:=by decide
 simp only[h1,h2,h3,wZ,yI,if_false];refine vA (tS hz ?_);refine vA Fq;unfold Builtin.List.listLengthHint;refine vA (ub hT PySem.F.noLenZip ?_);show vP _ A.in1 (specialOf (Value.ref z) IO >>= _) _ _ _;refine vA (ub hT PySem.F.noHintZip ?_);refine vJ ?_;have key:∀(h:vk)(c₁:Nat),ZSt h0 S z TI TO i1 i2 l1 l2 xs ys [] h->zAU h S #[] c₁->h0.objs.size<=h.objs.size->uc ak A Az R ⟨h,g,d,tk,os⟩ :=
  λh c₁ Z' hl' z'=>qgz hh D hf hS hn g d os (λh' tk' ts c a1 a2 a3 a4 a5 a6=>hR h' tk' ts c a1 a2 a3 a4 a5 a6) _ h tk [] c₁ rfl (yE _) Z' hl' z'
 refine vg eN (λ_=>vJ ⟨fz,key _ c₀ Z hl hsz⟩);refine vA UJ;refine vA ?_;show vP _ _ (tF S (·.push .none) >>= λ_=>tF S (·.pop)) _ _ _;refine vA (uM hl rfl ?_);have hS₂:=xf (Obj.mapSeq (·.push Value.none)) hl rfl;refine uM (hz:=by seq_fits) hS₂ rfl ?_;have hS₃:=xf (Obj.mapSeq (·.pop)) hS₂ rfl;refine vJ ⟨fz,key _ _ (q87 hS Z λb o hb e=>?_) hS₃ (by rw[xW,xW];exact hsz)⟩;exact(zt _ _ iz).trans ((zt _ _ iz).trans e)
theorem qgE{l1 l2:vH}{xs ys:dw}{Q:aM}{s0:vC}(hh:cO)(hl1:s0.heap.IsList l1 xs)(hl2:s0.heap.IsList l2 ys)(hn:rq)(hz:IsZip s.heap PV PY PX .none)(hp1:uv s.heap PY (.ref s0.heap.objs.size) (.ref PZ))(hp2:uv s.heap PX .none .none)(hi1:s.heap.IsListIter s0.heap.objs.size l1 0)(hi2:s.heap.IsListIter PZ l2 0)(hs:s.heap.objs.size=s0.heap.objs.size+5)(hk:∀c o,s0.heap.get? c=some o->s.heap.get? c=some o)(hQ:∀(h':vk)(tk:Nat)(S:vH)(ts:dh)(c:Nat),s0.heap.objs.size<=S->ts.length=min xs.size ys.size->ts.Nodup->(∀t∈ts,t≠S/\s0.heap.objs.size<=t)->zAU h' S (ts.map Value.ref).toArray c->(∀b o,s0.heap.get? b=some o->h'.get? b=some o) ->
   (∀(j:Nat)t,ts[j]?=some t->∃x y,xs[j]?=some x/\ys[j]?=some y/\uv h' t x y)->Q fw { s with heap:=h',toks:=tk }) :
  vP ak A (call Aw [.ref PV]) Q E s:=by
 refine callType_codes (Q₁:=λobj s₁=>obj=.ref s.heap.objs.size/\s₁={ s with heap:=s.heap.push { cls:=.type "list", data:=.seq #[] } }) PySem.F.called_list LC PySem.F.entry_list_init
  (code_list_new _ bY) λobj s₁ h₁=>?_
 obtain⟨rfl,rfl⟩:=h₁;have hS:(s.heap.push { cls:=.type "list", data:=.seq #[] }).get? s.heap.objs.size=some { cls:=.type "list", data:=.seq #[] }:=zY _ rfl;refine Ag;generalize hn0:s0.heap.objs.size=n at *;have e1:l1<n:=by obtain⟨_,e,_⟩:=hl1;rw[<- hn0];exact zS e
 have e2:l2<n:=by obtain⟨_,e,_⟩:=hl2;rw[<- hn0];exact zS e
 generalize hS0:s.heap.objs.size=S at *;have D:u4 (n+4) (n+2) (n+3) n (n+1) l1 l2:=by
  constructor <;> (intro q;simp only[vH]at *;omega)
 have hSn:S∉[n+4,n+2,n+3,n,n+1,l1,l2]:=by
  simp only[zH,zk,or_false,not_or];refine⟨?_,?_,?_,?_,?_,?_,?_⟩ <;> (intro q;simp only[vH]at *;omega)
 have hf:∀b∈[n+4,n+3,n,n+1],s0.heap.get? b=none:=λb hb=>by
  cases q:s0.heap.get? b with
  | none=>rfl
  | some o=>
   have:=zS q;rw[hn0]at this;simp only[zH,zk,or_false]at hb;simp only[vH]at *;omega
 show vP _ _ (do let old <- Builtin.List.listItems (.ref S);Builtin.List.listUpdate fw (λ_=>#[]);letGo old.toList.reverse;Builtin.List.listExtendWith fw (.ref (n+4)) .none) _ _ _;refine vA ?_;unfold Builtin.List.listItems;refine vA ab6;show vP _ _ (tF S (λ_=>#[]) >>= λ_=>letGo (#[]:Array vB).toList.reverse >>= λ_=>Builtin.List.listExtendWith fw (.ref (n+4)) .none) _ _ _;refine vA ab8;have hS₂:=get?_update_seq hS (λ_=>(#[]:Array vB));have oth:∀b o,b≠S->s.heap.get? b=some o->((s.heap.push { cls:=.type "list", data:=.seq #[] }).update S (Obj.mapSeq (λ_=>(#[]:Array vB)))).get? b=some o :=
  λb o hb e=>(zt _ _ iz).trans HH
 refine vA (sZ ?_);have hSn':=hSn;simp only[zH,zk,or_false,not_or]at hSn';refine qd3 (A:=A.in1) (h0:=s0.heap) hh D hf hSn hn ⟨.inl ⟨rfl,oth _ _ (Ne.symm hSn'.1) hz⟩,oth _ _ (Ne.symm hSn'.2.1) hp1,⟨_,_,oth _ _ (Ne.symm hSn'.2.2.1) hp2⟩,hi1.at λo e=>oth _ o (Ne.symm hSn'.2.2.2.1) e,hi2.at λo e=>oth _ o (Ne.symm hSn'.2.2.2.2.1) e,
  hl1.at λo e=>oth _ o (Ne.symm hSn'.2.2.2.2.2.1) (hk _ o e),hl2.at λo e=>oth _ o (Ne.symm hSn'.2.2.2.2.2.2) (hk _ o e),λj t ht=>(by simp at ht),λt ht=>(by simp at ht),xY,λt ht=>(by simp at ht),λb o hb e=>oth b o hb (hk b o e)⟩ hS₂ (by rw[xW,yh,hn0,hS0];simp only[vH]at *;omega) λh' tk ts c a1 a2 a3 a4 a5 a6=>?_
 rw[hn0]at a3;exact⟨rfl,hQ h' tk S ts c (by simp only[vH]at *;omega) a1 a2 a3 a4 (λb o e=>a5 b o (λq=>by
  have:=zS e;rw[hn0,q]at this;simp only[vH]at *;omega) e) a6⟩
end
end Hk
namespace Hk
open PySem L2
section
variable{X:Cx}{pins:List (vH×Obj)}{σ:St}{H H':Hp}{s:vC}
theorem qg5{h':vk}{t':Nat}(I:Uc)(k:∀b u,s.heap.get? b=some u->h'.get? b=some u)(hs:NR)(hn:∀b,H b=none->H' b≠none->s.heap.objs.size<=b)(new:∀b u,H b=none->H' b=some u->Xh X.prog X.w H' h' b u):L2.Inv X pins σ H' { s with heap:=h',toks:=t' }:=by
 refine I.un ⟨λb o q _ _ _=>k b o q,λb o q _ _ _=>⟨o.slots,k b o q⟩,λb o q n _=>?_,λb o q _=>⟨o,k b o q⟩,λb xs q=>hs _ _ q,λb o u q=>hs _ _ q,λb ps q=>⟨#[],by rw[hs _ _ q];simp⟩⟩ λb u e=>?_
 ·cases e:H' b with
  | none=>rfl
  | some u=>exact vO (zS q) (Yn.mpr (hn b n (by rw[e];exact λz=>by cases z)))
 ·cases q:H b with
  | none=>exact new b u q e
  | some u'=>
   have:=hs _ _ q;rw[e]at this;cases this;exact(I.hok b u q).stay (λc v _ z=>k c v z) (λc z=>hs _ _ z) λc xs z=>hs _ _ z
noncomputable def zBd(H:Hp):List vH->List V->List V->Hp
 | t::ts,x::xs,y::ys=>upd (zBd H ts xs ys) t Af
 | _,_,_=>H
theorem q2K{b:vH}:∀{ts:dh}{xs ys:a8},b∉ts->zBd H ts xs ys b=H b
 | [],_,_,_=>rfl
 | _::_,[],_,_=>rfl
 | _::_,_::_,[],_=>rfl
 | t::ts,x::xs,y::ys,h=>by
  rw[zH,not_or]at h;show upd _ t _ b=_;rw[qd h.1];exact q2K h.2
theorem q7x:∀{ts:dh}{xs ys:a8}{j:Nat}{t:vH}{x y:V},ts.Nodup->ts[j]?=some t->xs[j]?=some x->ys[j]?=some y->zBd H ts xs ys t=some Af
 | [],_,_,_,_,_,_,_,h,_,_=>by simp at h
 | _::_,[],_,_,_,_,_,_,_,h,_=>by simp at h
 | _::_,_::_,[],_,_,_,_,_,_,_,h=>by simp at h
 | u::ts,a::xs,b::ys,0,t,x,y,n,h1,h2,h3=>by
  simp at h1 h2 h3;subst h1;subst h2;subst h3;exact qe
 | u::ts,a::xs,b::ys,j+1,t,x,y,n,h1,h2,h3=>by
  simp only[xN]at h1 h2 h3;obtain⟨n1,n2⟩:=yW.mp n;show upd _ u _ t=_;rw[qd (λe=>n1 (by rw[<- e];exact zz h1))];exact q7x n2 h1 h2 h3
def rLZ:List V->Hp->VK->Prop:=λvs H2 Q=>∃p q xs ys,vs=[bu,.ref q]/\H2 p=some eF/\H2 q=some pP /\
 ∀(S:vH)(ts:dh),H2 S=none->(∀t∈ts,H2 t=none/\t≠S)->ts.Nodup->ts.length=min xs.length ys.length->Q fw (upd (zBd H2 ts xs ys) S jE)
theorem q6z:∀{xs:a8}{us:a0},Xc xs us->∀{j:Nat}{u:vB},us[j]?=some u->∃x,xs[j]?=some x/\RelV x u
 | _,_,.nil,j,u,h=>by simp at h
 | _,_,.cons r1 r2,0,u,h=>by simp at h;subst h;exact Nh
 | _,_,.cons r1 r2,j+1,u,h=>by
  simp only[xN]at h ⊢;exact q6z r2 h
theorem q8s:∀(ts:dh),Xc L0 VU
 | []=>.nil
 | t::r=>.cons rfl (q8s r)
theorem qcR{a b:vW}{t:TA}{p1 p2 q1 q2:Pos}(hg1:Gk)(hm1:n8)(hg2:N5)(hm2:BV)(ha:PA X BB t)(hc:cE)(he1:LZ)(hpl1:(vj q2 ab4).any (·.1)=false)(he2:Bw)(hpl2:(vj q1 bF).any (·.1)=false):
  PE X Qp (tCB rLZ t):=by
 intro pins s σ H Q I h;refine v4 (q0q I hg1 hm1 q0o ?_ (by decide) (by decide));refine PyProof.Rows.callWith_type1 ?_ he2 hpl2;rw[he2];show vP _ _ kO _ _ s;refine Calls.spliced_cons ?_;refine v4 (q0q I hg2 hm2 qk3 ?_ (by decide) (by decide));refine PyProof.Rows.callWith_type1 (thn AO λus s1 ⟨vs,H1,I1,r1,q1⟩=>?_) he1 hpl1
 ·obtain⟨p,q,xs,ys,rfl,hp,hq,k⟩:=q1
  obtain⟨u1,u2,rfl,e1,e2⟩:=vals2 r1;cases e1;cases e2;obtain⟨its1,n1,rv1,g1,z1⟩:=I1.lst hp;obtain⟨its2,n2,rv2,g2,z2⟩:=I1.lst hq;have il1:s1.heap.IsList p its1.toArray:=⟨_,g1,rfl,n1,rfl⟩;have il2:s1.heap.IsList q its2.toArray:=⟨_,g2,rfl,n2,rfl⟩;refine call_zip_2 il1 il2 λh' a1 a2 a3 a4 a5 a6 a7=>?_;refine Calls.spliced_nil ?_;have len1:its1.toArray.size=xs.length:=by rw[zQ,rv1.length]
  have len2:its2.toArray.size=ys.length:=by rw[zQ,rv2.length]
  refine qgE (s0:=s1) (I1.ok.hd hc) il1 il2 (by rw[len1];exact yD (Zl _ _) z1) a1 a2 a3 a4 a5 a6 a7 λh2 tk S ts c b1 b2 b3 b4 b5 b6 b7=>?_;rw[len1,len2]at b2;have fS:H1 S=none:=I1.hok.fresh b1;have ft:∀t∈ts,H1 t=none:=λt ht=>I1.hok.fresh (b4 t ht).2;have hsame:Xf H1 KI:=λb u e=>by
   have nS:b≠S:=λz=>by rw[z,fS]at e;cases e
   have nt:b∉ts:=λz=>by rw[ft b z]at e;cases e
   rw[qd nS,q2K nt];exact e
  have tup:∀(j:Nat)t,ts[j]?=some t->∃x y,xs[j]?=some x/\ys[j]?=some y/\zBd H1 ts xs ys t=some Af/\Xh X.prog X.w KI h2 t Af:=λj t ht=>by
   obtain⟨x',y',c1,c2,c3⟩:=b7 j t ht;obtain⟨x,d1,d2⟩:=q6z rv1 (j:=j) (u:=x') ⇑c1;obtain⟨y,d3,d4⟩:=q6z rv2 (j:=j) (u:=y') ⇑c2;exact⟨x,y,d1,d3,q7x b3 ht d1 d3,⟨by show 2<=sizeLine;decide,[x',y'],.cons d2 (.cons d4 .nil),⟨_,c3,rfl,_,rfl⟩⟩⟩
  refine⟨fw,_,qg5 (s:=s1) (t':=tk) I1 b6 hsame (λb n1 n2=>?_) (λb u n1 n2=>?_),rfl,k S ts fS (λt ht=>⟨ft t ht,(b4 t ht).1⟩) b3 b2⟩
  ·by_cases e:b=S
   ·rw[e];exact b1
   ·by_cases e':b∈ts
    ·exact(b4 b e').2
    ·rw[qd e,q2K e']at n2;exact vO n1 n2
  ·by_cases e:b=S
   ·subst e
    rw[qe]at n2;cases n2;refine⟨?_,VU,c,q8s ts,b5⟩;rw[zA,b2];exact yD (Zl _ _) z1
   ·by_cases e':b∈ts
    ·obtain⟨j,hj,ej⟩:=zf.mp e'
     obtain⟨x,y,_,_,m1,m2⟩:=tup j b (by rw[KF,ej]);rw[qd e,m1]at n2;cases n2;exact m2
    ·rw[qd e,q2K e',n1]at n2;cases n2
noncomputable def pairD(x y:D):D:=.tup [x,y]
noncomputable def Wn:List D->Option R
 | [.lst xs,.lst ys]=>some (.fr (ZZ pairD xs ys))
 | _=>none
theorem q53{K:zC}{G:Hp}:∀{ds:aW}{ts:dh},ds.length=ts.length->(∀(j:Nat)d t,ds[j]?=some d->ts[j]?=some t->Rep K G d jI)->XN K G ds L0
 | [],[],_,_=>rfl
 | [],_::_,h,_=>by simp at h
 | _::_,[],h,_=>by simp at h
 | d::ds,t::ts,h,f=>⟨jI,_,rfl,f 0 d t rfl rfl,q53 ⇑h λj e u h1 h2=>f (j+1) e u ⇑h1 ⇑h2⟩
theorem qd0{K:zC}:zAE K rLZ Wn:=by
 intro G H ds vs d Q s e hv k
 match ds,e with
 | [.lst xs,.lst ys],e=>
  cases e;obtain⟨v,u,rfl,h,h'⟩:=hv.two;obtain⟨p,us,rfl,h1,h2⟩:=h.lst s;obtain⟨q,ws,rfl,h3,h4⟩:=h'.lst s;refine⟨p,q,us,ws,rfl,h1,h3,λS ts hS ht nd hl=>?_⟩
  let G':Hp:=λb=>if b∈ts then zBd H ts us ws b else G b
  have hout:∀b,b∉ts->G' b=G b:=λb z=>vG z;have hin:∀b,b∈ts->G' b=zBd H ts us ws b:=λb z=>vF z;have gg:Xf G G':=λb o z=>by
   have n:b∉ts:=λy=>by rw[s.free (ht b y).1]at z;cases z
   rw[hout b n];exact z
  have hh:Xf H rS:=λb o z=>by
   have nS:b≠S:=λy=>by rw[y,hS]at z;cases z
   have n:b∉ts:=λy=>by rw[(ht b y).1]at z;cases z
   rw[qd nS,q2K n];exact z
  have gh:Xf G' rS:=λb o z=>by
   by_cases y:b∈ts
   ·rw[hin b y]at z
    rw[qd (ht b y).2];exact z
   ·rw[TJ]at z
    exact hh b o (s _ _ z)
  have x:Ext G H G' rS:=⟨gg,gh,hh,λb z1 z2=>by
   have n:b∉ts:=λy=>z2 (ht b y).1;rw[hout b n];exact z1⟩
  have nS:S∉ts:=λy=>(ht S y).2 rfl;refine k _ G' _ x ⟨S,_,rfl,hS,by rw[hout S nS];exact s.free hS,qe,q53 ?_ λj d t e1 e2=>?_⟩
  ·rw[List.length_zipWith,hl,h2.len,h4.len]
  ·rw[List.getElem?_zipWith]at e1
   cases q1:xs[j]? with
   | none=>rw[q1]at e1;cases e1
   | some a=>
    cases q2:ys[j]? with
    | none=>rw[q1,q2]at e1;cases e1
    | some b=>
     rw[q1,q2]at e1;cases e1;obtain⟨va,y1,y2⟩:=h2.get q1;obtain⟨vb,y3,y4⟩:=h4.get q2;refine⟨t,[va,vb],rfl,?_,XN.cons (y2.mono gg) (XN.cons (y4.mono gg) XN.nil)⟩;rw[hin t (zz e2)];exact q7x nd e2 y1 y3
theorem qdi{a b:vW}{g:FA}{p1 p2 q1 q2:Pos}(hg1:Gk)(hm1:n8)(hg2:N5)(hm2:BV)(ha:XVA X BB g)(hc:cE:=by rfl)(he1:LZ:=by rfl)(hpl1:(vj q2 ab4).any (·.1)=false:=by rfl)(he2:Bw:=by rfl)(hpl2:(vj q1 bF).any (·.1)=false:=by rfl):
  XE X Qp (Xx Wn g):=by
 obtain⟨t,h1,h2⟩:=ha;exact⟨_,qcR hg1 hm1 hg2 hm2 h1 hc he1 hpl1 he2 hpl2,q5B qd0 h2⟩
end
section
variable{X:Cx}
end
noncomputable def whD(c:FT)(b:FS):Nat->FS
 | 0=>λ_=>none
 | n+1=>λω=>(c ω).bind λk=>if k=true then (b ω).bind (λp=>match p.1 with
   | .nx=>whD c b n p.2
   | .ct=>whD c b n p.2
   | .bk=>some (.nx,p.2)
   | .rt r=>some (.rt r,p.2))else some Cz
noncomputable def sWh(n:Nat)(c:FT)(b:FS):FS:=whD c b n
section
variable{X:Cx}{c:vW}{body:List vp}{fc:FT}{fb:FS}{pos:Pos}{n:Nat}
theorem qeR{K:zC}{t:TT}{u:TS}(h2:zBQ K t fc)(h4:SimS K u fb):SimS K (zBo t u) (sWh n fc fb):=by
 intro G0 H0 G ω σ H out ω' E o e k;refine⟨λm σ1 H1=>∃G1 ω1,Own K G0 H0 G1 ω1 σ1 H1/\Xf G G1/\whD fc fb m ω1=some JL,⟨n,G,ω,o,gC,e⟩,λm σ1 H1 ⟨G1,ω1,o1,g1,e1⟩=>?_⟩;cases m with
 | zero=>cases e1
 | succ m=>
  obtain⟨b,q,e1⟩:=bnd e1;refine h2 G0 H0 G1 ω1 σ1 H1 b _ o1 q λG2 H2 x2=>?_;cases b with
  | false=>cases e1;exact k G2 σ1 H2 (o1.keep x2) (g1.trans x2.gg)
  | true=>
   rw[jQ];rw[jQ]at e1;obtain⟨⟨o3,ω3⟩,q3,e1⟩:=bnd e1;refine⟨λσ' H'=>∃G1 ω1,Own K G0 H0 G1 ω1 σ' H'/\Xf G G1/\whD fc fb m ω1=some JL,λσ' H' z=>⟨m,yi m,z⟩,?_⟩;refine h4 G0 H0 G2 ω1 σ1 H2 o3 ω3 _ (o1.keep x2) q3 λG4 σ4 H4 o4 g4=>?_;have gg:=(g1.trans x2.gg).trans g4;cases o3 with
   | nx=>exact RX
   | ct=>exact RX
   | bk=>cases e1;exact k G4 σ4 H4 o4 gg
   | rt r=>cases e1;exact k G4 σ4 H4 o4 gg
theorem qfv(hp:j9)(hc:XT X c fc)(hb:XSs X body fb):XS X Pu (sWh n fc fb):=by
 obtain⟨t,h1,h2⟩:=hc;obtain⟨u,h3,h4⟩:=hb;exact⟨_,qai hp h1 h3,qeR h2 h4⟩
end
section
variable{fc:FT}{fb:FS}
def stepW(I:ou)(μ:WSt->Nat)(m:Nat)(J:ou)(o:Qj):Prop:=match o with
 | some (.nx,w)=>I w/\μ w<m
 | some (.ct,w)=>I w/\μ w<m
 | some (.bk,w)=>J w
 | _=>False
theorem q9i(I:ou)(μ:WSt->Nat)(J:ou)(stop:∀ω,I ω->fc ω=some false->J ω)(turn:∀ω,I ω->∃k,fc ω=some k/\EI):
  ∀(n:Nat)(ω:WSt),I ω->μ ω<n->∃ω',whD fc fb n ω=some Gr/\J ω'
 | 0,_,_,z=>vO z PH
 | n+1,ω,h,z=>by
  obtain⟨k,e,t⟩:=turn ω h;show ∃ω',((fc ω).bind _)=_/\_;rw[e];cases k with
  | false=>exact⟨ω,rfl,stop ω h e⟩
  | true=>
   have t:=t rfl;rw[show ∀(f:Bool->Option dG),(some true).bind f=f true from λ_=>rfl,vF rfl];cases q:fb ω with
   | none=>rw[q]at t;exact t.elim
   | some p=>
    rw[q]at t;obtain⟨o,w⟩:=p;cases o with
    | nx=>exact q9i I μ J stop turn n w t.1 (by have:=t.2;omega)
    | ct=>exact q9i I μ J stop turn n w t.1 (by have:=t.2;omega)
    | bk=>exact⟨w,rfl,t⟩
    | rt r=>exact t.elim
theorem qjk{n:Nat}(I:ou)(μ:WSt->Nat)(J:ou)(stop:∀ω,I ω->fc ω=some false->J ω)(turn:∀ω,I ω->∃k,fc ω=some k/\EI){ω:WSt}(h:I ω)(z:μ ω<n):∃ω',sWh n fc fb ω=some Gr/\J ω':=q9i I μ J stop turn n ω h z
end
section
variable{X:Cx}{pos:Pos}{o:vW}{apos cpos:Pos}{i:Nat}
end
noncomputable abbrev FM:=WSt->Option (D×WSt)
def SimM(K:zC)(t:TE)(f:FM):Prop:=∀G0 H0 G ω σ H d ω'(Q:VK),Own K G0 H0 G ω σ H->f ω=some (d,ω') ->
 (∀v G' H',Own K G0 H0 G' ω' σ H'->Xf G G'->Rep K G' d v->Q v H')->t σ H Q
def XM(X:Cx)(e:vW)(f:FM):Prop:=∃t,PE X e t/\SimM X.K t f
noncomputable def popD(k:Int)(i:Nat)(ω:WSt):Option (D×WSt):=match ω[i]? with
 | some (some (.ow ds))=>if -(2^63)<=k/\k<2^63 then (tP k ds.length).bind λn=>(ds[n]?).map λd=>(d,ω.set i KL)else none
 | _=>none
noncomputable def mPop(i:Nat)(fd:FD):FM:=λω=>(fd ω).bind λd=>match d with
 | .int k=>popD k i ω
 | _=>none
theorem XN.erase{K:zC}{H:Hp}:∀{ds:aW}{vs:a8}(n:Nat),XN K H ds vs->XN K H KY (vs.eraseIdx n)
 | [],_,_,h=>by cases (show _=_ from h);rfl
 | _::_,_,0,⟨v,r,h1,h2,h3⟩=>by rw[h1];exact h3
 | _::_,_,n+1,⟨v,r,h1,h2,h3⟩=>by rw[h1];exact⟨v,_,rfl,h2,XN.erase n h3⟩
section
variable{X:Cx}{pos:Pos}{o e:vW}{apos cpos pos':Pos}{i:Nat}{fd:FD}{f:FM}
theorem qk1(ho:jv)(he:K3)(hbase:JG:=by rfl)(hfew:((vj cpos jw).all (λx=>!x.1)&&(uI cpos j8).all gE
   && decide (([e]:List vW).length+([]:List uH).length+(if ([]:List uH).isEmpty then 0 else 1)<30))=true:=by rfl)
  (hline:dQ=true:=by rfl) (hs:vK [e] X.env=cH::vK [] X.env:=by rfl) (hplain:(vj cpos bF).any (·.1)=false:=by rfl) :
  XM X (.Call Nc [e] [] cpos) (mPop i fd):=by
 obtain⟨t,h1,h2⟩:=he;refine⟨_,q2f PySem.F.plainAttrs_list PySem.F.slot_list_pop PySem.F.type_list_pop qfP ho GF hbase hfew hline hs hplain,GX⟩;obtain⟨d0,q,e⟩:=bnd e;cases d0 with
 | int m=>
  have e:popD m i ω=some (d,ω'):=e;unfold popD at e
  split at e
  ·rename_i ds q2
   by_cases z:-(2^63)<=m/\m<2^63
   ·rw[fQ]at e
    obtain⟨n,hn,e⟩:=bnd e;cases hd:ds[n]? with
    | none=>rw[hd]at e;cases e
    | some d1=>
     rw[hd]at e;cases e;obtain⟨l,vs,r1,r2,r3,r4,r5⟩:=ow.ow i ds q2;refine⟨cX,r1,.inl DI,h2 G0 H0 G ω σ H _ _ ow q λv G1 H1 x1 y1=>?_⟩;cases (show v=.int m from y1);have o1:=ow.keep x1;obtain⟨y,hy,ry⟩:=r5.get hd;exact⟨l,vs,m,n,y,rfl,rfl,x1.hh _ _ r2,z.1,z.2,by rw[<- r5.len];exact hn,hy,k y G1 _ (o1.mut q2 r1 lJ (x1.new l r3 (by rw[r2];exact λz=>by cases z)) r4 ((r5.mono x1.gg).erase n)) x1.gg (ry.mono x1.gg)⟩
   ·rw[fI]at e;cases e
  ·cases e
 | _=>cases e
noncomputable def zAs(i:Nat)(f:FM):FS:=λω=>(f ω).map λp=>IT
theorem qc4{x:Str}(hN:X.N.Nodup)(hi:X.N[i]?=some x)(hx:eQ)(he:XM X e f)(hs:lN:=by rfl)(hf:aL:=by first|exact .inl rfl|exact .inr rfl|assumption):
  XS X EW (zAs i f):=by
 obtain⟨t,h1,h2⟩:=he;refine⟨_,Sb,bV⟩;unfold zAs at e;cases q:f ω with
 | none=>rw[q]at e;cases e
 | some p=>
  obtain⟨d,ω1⟩:=p;rw[q]at e;cases e;exact h2 G0 H0 G ω σ H d ω1 _ o q λv G1 H1 o1 g1 r1=>k G1 _ H1 (o1.setSh r1) g1
end
section
variable{X:Cx}{a b c:vW}{pos:Pos}{fa fb fc:FD}{op op':sV}{p p':Int->Int->Bool}
end
noncomputable def zC6(x:Int):List Int->List Int
 | []=>[x]
 | y::r=>if x<=y then x::y::r else y::zC6 x r
noncomputable def XZ(ns:af):List Int:=ns.foldr zC6 []
theorem q5m{x:Int}:∀{l:af},(zC6 x l).Perm (x::l)
 | []=>.refl _
 | y::r=>by
  unfold zC6
  by_cases h:x<=y
  ·rw[vF h]
  ·rw[vG h];exact(q5m.cons y).trans (.swap x y r)
theorem qz:∀{l:af},(XZ l).Perm l
 | []=>.refl _
 | y::r=>q5m.trans ((qz (l:=r)).cons y)
theorem qbO{x:Int}:∀{l:af},l.Pairwise (· <= ·)->(zC6 x l).Pairwise (· <= ·)
 | [],_=>ZS _ _
 | y::r,h=>by
  obtain⟨h1,h2⟩:=zZ.mp h;unfold zC6
  by_cases z:x<=y
  ·rw[fQ]
   refine zZ.mpr ⟨Nn,h⟩;cases ha with
   | head=>exact z
   | tail _ ha=>exact yd z (h1 a ha)
  ·rw[fI]
   refine zZ.mpr ⟨Nn,qbO h2⟩;cases (q5m.mem_iff.mp ha:a∈x::r)with
   | head=>omega
   | tail _ ha=>exact h1 a ha
theorem q0C:∀{l:af},(XZ l).Pairwise (· <= ·)
 | []=>.nil
 | y::r=>qbO (q0C (l:=r))
theorem q1a:∀{l m:af},l.Pairwise (· <= ·)->m.Pairwise (· <= ·)->l.Perm m->l=m
 | [],m,_,_,p=>(List.Perm.nil_eq p)
 | a::l,m,h,h',p=>by
  cases m with
  | nil=>exact vO p.length_eq (by simp)
  | cons b m=>
   obtain⟨h1,h2⟩:=zZ.mp h;obtain⟨h3,h4⟩:=zZ.mp h';have hab:a=b:=by
    have x1:a∈b::m:=p.mem_iff.mp (.head _);have x2:b∈a::l:=p.mem_iff.mpr (.head _);cases x1 with
    | head=>rfl
    | tail _ x1=>
     cases x2 with
     | head=>rfl
     | tail _ x2=>have:=h3 a x1;have:=h1 b x2;omega
   subst hab;rw[q1a h2 h4 p.cons_inv]
theorem q59(l:af):(XZ l).length=l.length:=qz.length_eq
theorem qga{l m:af}:XZ l=XZ m↔l.Perm m :=
 ⟨λh=>qz.symm.trans (h▸qz),λh=>q1a q0C q0C ((qz.trans h).trans qz.symm)⟩
def rSortL:List V->Hp->VK->Prop:=λxs H Q=>∃p ns,xs=Rh/\H p=some CA/\ns.length<64/\∀l,H l=none->Q cX Fs
noncomputable def zCb:D->Option R
 | .lst ds=>(intsOf ds).bind λns=>if ns.length<64 then some mS else none
 | _=>none
noncomputable def zA9(f:FD):FE:=λω=>(f ω).bind zCb
section
variable{X:Cx}
theorem qcO:WW X fE rSortL:=by
 intro pins s σ H xs us Q I r h;obtain⟨p,ns,rfl,hp,hz,q⟩:=h;obtain⟨u,rfl,rx⟩:=vals1 r;cases rx;obtain⟨its,n,rv,e,_⟩:=I.lst hp;have hlen:its.length=ns.length:=by rw[<- rv.length,zA]
 refine PyProof.Rows.sorted_ints mZ (q2F rv) ∅ λout ns' a1 a2 a3=>?_;obtain⟨m,hm⟩:=PyProof.Rows.sortedAll_at s.heap its out;have en:ns'=XZ ns:=q1a a3 q0C Hg;subst en;have hsl:(XZ ns).length<=sizeLine:=by rw[q59];exact yD (ye hz) (by decide)
 have I2:=I.laid (a:=s.heap.objs.size+1) (o:=.lst gK) (t':=s.toks) El MX
  (show Xh X.prog X.w _ Es _ RH from ⟨by rw[zA];exact hsl,out.toList,m,q1v a1,by rw[xI];exact hm⟩)
 exact B1
theorem qbS{a:vW}{f:FD}{p q:Pos}(hg:Cl)(hm:kg)(ha:de)(he:fU:=by rfl)(hpl:(vj q bF).any (·.1)=false:=by rfl):XE X SM (zA9 f):=by
 obtain⟨t,h1,h2⟩:=ha;refine⟨_,q1Q qcO hg hm q2i (qA h1 qx he) (by decide) (by decide) he hpl,ca⟩;obtain⟨d,z,e⟩:=bnd e;refine h2 G0 H0 G ω σ H d _ o z λv G1 H1 x1 y1=>?_;cases d with
 | lst ds=>
  obtain⟨ns,e1,e2⟩:=bnd (show (intsOf ds).bind _=some r from e);have hds:=q0R e1;subst hds
  by_cases hz:ns.length<64
  ·rw[vF hz]at e2
   cases e2;obtain⟨p,vs,rfl,g1,g2⟩:=y1.lst x1.gh;have hv:=g2.of_ints;subst hv;refine J9;have x2:=Ext.hide x1.gh hl abJ;exact k _ G1 _ eC rO
  ·rw[vG hz]at e2;cases e2
 | _=>cases e
end
end Hk
namespace Hk
open PySem PySem.Spec PyProof.Rows
theorem zCU:uy J0 "__len__" = pure none:=by rw[uL,v5];kernel_rfl
theorem zCz:uy J0 "__length_hint__" = pure (some (.builtin "list_reverseiterator.__length_hint__")):=by rw[uL,v5];kernel_rfl
section
variable{prog:vU}{w:vZ}{A:vf}{E:vB->vC->Prop}{s:vC}
theorem qfu{r:vH}{Q:pD}(hT:s.TypeIs (.ref r) "list_reverseiterator")(h:Q false s):vP ak A EU Q E s:=by
 unfold Builtin.List.listLengthHint;refine vA (ub hT zCU ?_);show vP _ A (specialOf (Value.ref r) IO >>= _) _ _ _;refine vA (ub hT zCz ?_);generalize hid:("list_reverseiterator.__length_hint__" : String)=id0
 wp_delta
 rw[show splitId id0=some ("list_reverseiterator", "__length_hint__")from by subst hid;decide +kernel];subst hid;refine vA (uW (T := "list_reverseiterator") (b:=true) hT (by rw[uu];kernel_rfl) ?_);refine vg (λhab=>vO hab (by decide)) eN;refine vg eN R1;refine vg (λhab=>vO hab ⋯) eN;exact vJ h
theorem qcZ{R:sI->vC->Prop}{S I l:vH}{items:dw}{res:vB}{c₀:Nat}(hh:cO)(hn:FL)(hSI:S≠I)(hSl:S≠l)(hne:l≠I)(hit:s.heap.IsRevIter I l (JP-1))(hl:EE)(hS:zAU s.heap S #[] c₀)(hR:∀(h':vk)(tk:Nat)(c:Nat),(∀b o,b≠S->b≠I->s.heap.get? b=some o->h'.get? b=some o)->zAU h' S items.reverse c->R Co { s with heap:=h',toks:=tk }):
  vP ak A.in1 (Builtin.List.listExtendWith fw BX res)
   (λfin s'=>match fin with|.done f=>R Vk s'|.again c'=>c'.quiet=true/\uc ak A c' R s') AK s:=by
 have W:=Walks.listRev (prog:=prog) (w:=w) (A:=A.in1) hh I l hne items;have hT:=hit.typeIs;have hSf:S∉[I,l]:=by simp[hSI,hSl]
 unfold Builtin.List.listExtendWith;refine vA (uh (T := "list_reverseiterator") hT ?_);rw[show Builtin.List.listSameRef fw BX=false by simp[Builtin.List.listSameRef,hSI],show (Value.type "list_reverseiterator" == Value.type "list")=false by decide,show (Value.type "list_reverseiterator" == Value.type "tuple")=false by decide];refine vg (λhab=>vO hab (by decide)) eN;refine vA (wpAny_pyIter_revIter hit ?_);refine vA (vn (qfu hT ?_));refine vg (λhab=>vO hab (by decide)) eN;have st:0<=items.size/\s.heap.IsRevIter I l (JP-1-BN)/\s.heap.IsList l items:=⟨B4,by simpa using hit,hl⟩;refine vJ ⟨fz,tq W.toS hn S hSf res items.size 0 _ #[] c₀ rfl (yE _) st hS aby λs' acc' c' hm hS' hacc=>?_⟩;rw[K9];have e:acc'=items.reverse:=by
  apply Array.ext_getElem?;intro j;rcases yB j items.size with z|z
  ·have hz:j<acc'.size:=by rw[hacc.1];exact z
   have q:acc'[j]?=some acc'[j]:=yF hz;rw[q,Array.getElem?_reverse z];exact(hacc.2 j _ q).symm
  ·rw[yl (by rw[hacc.1];exact z),yl (by rw[Array.size_reverse];exact z)]
 subst e;exact hR s'.heap s'.toks c' (λb o b1 b2 e=>hm.heap b o (by simp[b1,b2]) e) hS'
theorem qgc{l:vH}{items:dw}{Q:aM}(hh:cO)(hn:FL)(hl:EE)(hQ:∀(h':vk)(tk:Nat)(S:vH)(c:Nat),s.heap.objs.size<=S->(∀b o,s.heap.get? b=some o->h'.get? b=some o)->zAU h' S items.reverse c->Q fw { s with heap:=h',toks:=tk }):
  vP ak A acw Q E { s with heap:=s.heap.push gL }:=by
 have hll:l<s.heap.objs.size:=by obtain⟨_,e,_⟩:=hl;exact zS e
 have gI:(s.heap.push gL).get? s.heap.objs.size=some gL:=zY _ rfl;have k1:∀b o,s.heap.get? b=some o->(s.heap.push gL).get? b=some o:=λb o e=>zG _ e;generalize hI:s.heap.objs.size=I at *;generalize hp:s.heap.push gL=h1 at *;have hI1:I<h1.objs.size:=zS gI;have hS:(h1.push { cls:=.type "list", data:=.seq #[] }).get? h1.objs.size=some { cls:=.type "list", data:=.seq #[] }:=zY _ rfl;refine callType_codes (s:={ s with heap:=h1 }) (Q₁:=λobj s₁=>obj=.ref h1.objs.size/\s₁={ s with heap:=h1.push { cls:=.type "list", data:=.seq #[] } }) PySem.F.called_list LC PySem.F.entry_list_init
  (code_list_new _ bY) λobj s₁ z=>?_
 obtain⟨rfl,rfl⟩:=z;refine Ag;generalize hS0:h1.objs.size=S at *;show vP _ _ (do let old <- Builtin.List.listItems (.ref S);Builtin.List.listUpdate fw (λ_=>#[]);letGo old.toList.reverse;Builtin.List.listExtendWith fw BX .none) _ _ _;apply vA;unfold Builtin.List.listItems;refine vA ab6;show vP _ _ (tF S (λ_=>#[]) >>= λ_=>letGo (#[]:Array vB).toList.reverse >>= λ_=>Builtin.List.listExtendWith fw BX .none) _ _ _;refine vA ab8;have hS2:=get?_update_seq hS (λ_=>(#[]:Array vB));have oth:∀b o,b≠S->h1.get? b=some o->((h1.push { cls:=.type "list", data:=.seq #[] }).update S (Obj.mapSeq (λ_=>(#[]:Array vB)))).get? b=some o :=
  λb o hb e=>(zt _ _ iz).trans HH
 refine vA (sZ ?_);have n1:S≠I:=by simp only[vH]at *;omega
 have n2:S≠l:=by simp only[vH]at *;omega
 have n3:l≠I:=by simp only[vH]at *;omega
 refine qcZ (A:=A.in1) (items:=items) (I:=I) (l:=l) hh hn n1 n2 n3 ⟨_,oth _ _ (Ne.symm n1) gI,rfl,rfl⟩ (hl.at λo e=>oth l o (Ne.symm n2) (k1 l o e)) hS2 λh' tk c kp e=>?_;refine⟨rfl,hQ h' tk S c (by simp only[vH]at *;omega) (λb o z=>?_) e⟩;have hb:b<I:=hI▸zS z;exact kp b o (by simp only[vH]at *;omega) (by simp only[vH]at *;omega) (oth b o (by simp only[vH]at *;omega) (k1 b o z))
end
open L2
def rLR:List V->Hp->VK->Prop:=λvs H Q=>∃p xs,vs=Rh/\H p=some eF/\∀S,H S=none->Q fw (upd H S Vm)
section
variable{X:Cx}
theorem qcW{a:vW}{t:TA}{p1 p2 q1 q2:Pos}(hg1:Gk)(hm1:n8)(hg2:Gl X "reversed")(hm2:X.mg "reversed" = none)(ha:PA X [a] t)(hc:cE)(he1:fU)(hpl1:(vj q2 bF).any (·.1)=false)(he2:vK [mG] X.env=(false,eval mG X.env)::vK [] X.env)(hpl2:(vj q1 bF).any (·.1)=false):
  PE X (.Call oD [mG] [] q1) (tCB rLR t):=by
 intro pins s σ H Q I h;refine v4 (q0q I hg1 hm1 q0o ?_ (by decide) (by decide));refine PyProof.Rows.callWith_type1 ?_ he2 hpl2;rw[he2];show vP _ _ kO _ _ s;refine Calls.spliced_cons ?_;refine v4 (q0q I hg2 hm2 PyProof.Rows.boot_reversed ?_ (by decide) (by decide));refine PyProof.Rows.callWith_type1 (thn AO λus s1 ⟨vs,H1,I1,r1,z1⟩=>?_) he1 hpl1;obtain⟨p,xs,rfl,hp,k⟩:=z1;obtain⟨u,rfl,e1⟩:=vals1 r1;cases e1;obtain⟨its,n,rv,g1,sz⟩:=I1.lst hp;have il:s1.heap.IsList p its.toArray:=⟨_,g1,rfl,n,rfl⟩;refine call_reversed_list il (Calls.spliced_nil ?_);refine qgc (I1.ok.hd hc) (by rw[zQ,<- rv.length];exact sz) il λh2 tk S c b1 b2 b3=>?_;refine⟨fw,_,I1.laid (t':=tk) b2 b1 (show Xh X.prog X.w _ h2 S Vm from ⟨by rw[xS];exact sz,its.reverse,c,rv.reverse,by rw[b3];simp⟩),rfl,k S (I1.hok.fresh b1)⟩
end
end Hk
namespace L2
open PySem PySem.Spec PyProof.Rows
theorem Inv.turnedL{X:Cx}{pins:ay}{σ:List Ad}{H:Hp}{s:vC}{h':vk}{t':Nat}{fp:dh}(I:aq)(k:∀b o,b∉fp->s.heap.get? b=some o->h'.get? b=some o)(hf:∀b∈fp,Wo X pins H b):
  Inv X pins σ H { s with heap:=h',toks:=t' }:=by
 have nit:∀b u,H b=some u->b∉fp:=λb u e z=>by have:=(hf b z).1;rw[e]at this;cases this
 refine I.step (g':=s.gens) (d':=s.drawn) (ch:=fp) kW (λb o _ _ hc e _=>k b o hc e) (λb o _ _ hc e _=>⟨o.slots,k b o hc e⟩) VC
  (λb o hc e=>⟨o,k b o hc e⟩) (λ_ _ e=>e) abX (λb ps e=>⟨#[],by rw[e];simp⟩) QE (λb u e=>?_) I.bare
 ·obtain⟨f0,f1,f2,f3,f4,f5⟩:=hf b hb
  exact aaM
 ·obtain⟨o,es,ep,ho,r⟩:=hm
  exact⟨o,es,ep,k _ o (λz=>(hf _ z).2.1 rfl) ho,r⟩
 ·refine(I.hok b u e).stay Nm LQ λ_ _ q=>q
  rcases hc with z|z
  ·rw[z];exact nit b u e
  ·exact nit c _ z
noncomputable def Itz(K:zC)(a b:vH):It :=
 ⟨λi H=>∃xs ys x y,SqL K H a xs/\SqL K H b ys/\xs[i]?=some x/\ys[i]?=some y,
  λi H x H'=>∃t x1 y1,H t=none/\x=.ref t/\H'=upd H t acN/\∀xs ys,SqL K H a xs->SqL K H b ys->xs[i]?=some x1/\ys[i]?=some y1,
  λi H=>∃xs ys,SqL K H a xs/\SqL K H b ys/\(xs[i]?=none\/ys[i]?=none)⟩
theorem qfC{P:vU}{w:vZ}{K:zC}{elts:iN}{kx}{tpos:Pos}(a b z TI TO i1 i2:vH)(D:u4 z TI TO i1 i2 a b):
  Turn P w K jF Rz [z,TI,TO,i1,i2] z (λi h=>IsZip h z TI TO .none/\uv h TI OJ J1/\(∃x y,uv h TO x y)/\h.IsListIter i1 a i/\h.IsListIter i2 b i) where
 mem:=by simp
 obj:=λi h st c hc=>by
  obtain⟨s1,s2,⟨_,_,s3⟩,⟨o4,e4,c4,d4⟩,⟨o5,e5,c5,d5⟩⟩:=st;simp only[zH,zk,or_false]at hc;rcases hc with rfl|rfl|rfl|rfl|rfl
  ·exact⟨_,s1,λv y=>by cases (show Data.fields _=Data.cell v from y)⟩
  ·exact⟨_,s2,λv y=>by cases (show Data.seq _ _=Data.cell v from y)⟩
  ·exact⟨_,s3,λv y=>by cases (show Data.seq _ _=Data.cell v from y)⟩
  ·exact⟨_,e4,λv y=>by rw[d4]at y;cases y⟩
  ·exact⟨_,e5,λv y=>by rw[d5]at y;cases y⟩
 keep:=λi h h' st k=>by
  obtain⟨s1,s2,⟨x,y,s3⟩,s4,s5⟩:=st;exact⟨k _ (by simp) _ s1,k _ (by simp) _ s2,⟨x,y,k _ (by simp) _ s3⟩,s4.at λo e=>k _ (by simp) o e,s5.at λo e=>k _ (by simp) o e⟩
 item:=by
  intro X hP hw hK hc i pins s σ H E I hf st hg;subst hP hw hK;obtain⟨xs,ys,x,y,hq1,hq2,hx,hy⟩:=hg;obtain⟨its1,rv1,p1,hz1⟩:=I.list hq1;obtain⟨its2,rv2,p2,hz2⟩:=I.list hq2;obtain⟨u1,hu1,ru1⟩:=rv1.get hx;obtain⟨u2,hu2,ru2⟩:=rv2.get hy;obtain⟨s1,s2,⟨_,_,s3⟩,s4,s5⟩:=st;have ex:∀c∈[z,TI,TO,i1,i2],∃o,s.heap.get? c=some o:=λc hc=>by
   simp only[zH,zk,or_false]at hc;rcases hc with rfl|rfl|rfl|rfl|rfl
   ·exact⟨_,s1⟩
   ·exact⟨_,s2⟩
   ·exact⟨_,s3⟩
   ·obtain⟨o,e,_⟩:=s4;exact GR
   ·obtain⟨o,e,_⟩:=s5;exact GR
  have nt:∀c∈[z,TI,TO,i1,i2],c≠s.heap.objs.size:=λc hc=>by
   obtain⟨o,e⟩:=ex c hc;exact zx Dj
  refine tZ D s1 s2 s3 s4 s5 p1.isList p2.isList (x:=u1) (y:=u2) (by simpa using hu1) (by simpa using hu2) λh' a1 a2 a3 a4 a5 a6 hk=>?_;have hn:H s.heap.objs.size=none:=I.hok.fresh bZ;have I1:Inv X pins σ iL { s with heap:=s.heap.push { cls:=.type "tuple", data:=.seq #[u1,u2] },toks:=s.toks } :=
   I.laid Uz bZ (show Xh X.prog X.w _ _ _ Af from ⟨by show 2<=sizeLine;decide,[u1,u2],.cons ru1 (.cons ru2 .nil),Fi⟩)
  have hf':∀c∈[z,TI,TO,i1,i2],Wo X pins iL c:=λc hc=>by
   obtain⟨f0,f⟩:=hf c hc;exact⟨by rw[qd (nt c hc)];exact f0,f⟩
  have I2:Inv X pins σ iL { s with heap:=h',toks:=s.toks }:=I1.turnedL (λb o hb e=>by
   simp only[zH,zk,or_false,not_or]at hb
   by_cases q:b=s.heap.objs.size
   ·subst q
    rw[iK]at e;cases e;exact a5
   ·have e':s.heap.get? b=some o:=by
     rcases yB b s.heap.objs.size with l|l
     ·obtain⟨z1,z2⟩:=wM.mp e
      refine wM.mpr ⟨?_,z2⟩;rw[<- z1];show s.heap.objs[b]?=(s.heap.objs.push _)[b]?;rw[Zw,vG q]
     ·have:=zS e
      rw[yh]at this;exact vO (by simp only[vH]at *;omega) q
    exact hk b o hb.1 hb.2.2.1 hb.2.2.2.1 hb.2.2.2.2 e') hf'
  refine⟨_,rfl,wpAny_letOwnedTupleGo_zip a1 λh2 b1 sb=>?_⟩;have I3:Inv X pins σ iL { s with heap:=h2,toks:=s.toks }:=I2.turnedL (λb o hb e=>(sb.2 b (λq=>hb (by simp[q]))).trans e) hf';refine⟨aD,_,I3,rfl,⟨_,x,y,hn,rfl,rfl,λxs' ys' q1 q2=>⟨by rw[I.list_inj q1 hq1];exact hx,by rw[I.list_inj q2 hq2];exact hy⟩⟩,⟨b1,?_,⟨u1,u2,sb.extBut _ _ D.TOz a2⟩,a3.extBut sb.extBut D.i1z,a4.extBut sb.extBut D.i2z⟩,S8⟩;exact sb.extBut _ _ D.TIz (hk _ _ D.TIz D.TITO D.TIi1 D.TIi2 s2)
 done:=by
  intro X hP hw hK hc i pins s σ H E I hf st hg;subst hP hw hK;obtain⟨xs,ys,hq1,hq2,hx⟩:=hg;obtain⟨its1,rv1,p1,hz1⟩:=I.list hq1;obtain⟨its2,rv2,p2,hz2⟩:=I.list hq2;obtain⟨s1,s2,⟨_,_,s3⟩,s4,s5⟩:=st;have l1:=rv1.length;have l2:=rv2.length;refine t4 iC D s1 s2 s3 s4 s5 p1.isList p2.isList ?_ λh' hk=>Ah
  ·rcases hx with hx|hx
   ·exact .inl (by rw[wD]at hx;simp;omega)
   ·exact .inr (by rw[wD]at hx;simp;omega)
  ·simp only[zH,zk,or_false,not_or]at hb
   exact hk b o hb.1 hb.2.2.1 hb.2.2.2.1 hb.2.2.2.2 e
 self:=λ_ _ _ _ _ st h=>tS st.1 h
noncomputable def iZip(K:zC)(ta:TA):TI:=λσ H R=>ta σ H λvs H1=>∃a b xs ys,vs=[du,Cy]/\SqL K H1 a xs/\SqL K H1 b ys/\R Rz H1
theorem qjd{X:Cx}{a b:vW}{ta:TA}{p pos tpos:Pos}{elts:iN}{kx}(hg:N5)(hm:BV)(ha:PA X BB ta)(hs:UD:=by rfl)(hs2:aaV:=by rfl):
  PI X jF Ib (iZip X.K ta):=by
 intro pins s σ H R I h;refine Call_ (q0q I hg hm PyProof.Rows.boot_zip (PyProof.Rows.callWith_type1 (thn gF λus s1 ⟨vs,H1,I1,r1,q1⟩=>?_) (by rw[hs,hs2]) (by rw[hs2];rfl)));obtain⟨l1,l2,xs,ys,e,hq1,hq2,q⟩:=q1;subst e;cases r1 with
 | cons r rr=>
  cases rr with
  | cons r' rr=>
   cases rr;cases r;cases r';obtain⟨its1,rv1,p1,hz1⟩:=I1.list hq1;obtain⟨its2,rv2,p2,hz2⟩:=I1.list hq2;have e1:l1<s1.heap.objs.size:=by obtain⟨_,_,e,_⟩:=p1;exact zS e
   have e2:l2<s1.heap.objs.size:=by obtain⟨_,_,e,_⟩:=p2;exact zS e
   refine call_zip_2 p1.isList p2.isList λh' a1 a2 a3 a4 a5 a6 hk=>?_;refine tS a1 ?_;have D:u4 Fw R9 R8 s1.heap.objs.size rE l1 l2:=by
    generalize s1.heap.objs.size=n at *
    constructor <;> (intro q;simp only[vH]at *;omega)
   refine⟨Fw,[Fw,R9,R8,s1.heap.objs.size,rE],_,_,H1,rfl,Pn,qfC l1 l2 _ _ _ _ _ D,⟨a1,a2,⟨_,_,a3⟩,a4,a5⟩,λc hc=>?_,q⟩;have hle:s1.heap.objs.size<=c:=by
    simp only[zH,zk,or_false]at hc;simp only[vH]at *;omega
   have I2:=I1.kept (t':=s1.toks) hk;exact I1.fpOk hle Ug
end L2
namespace Hk
open PySem L2
noncomputable def zAd:List D->List D->List D
 | a::as,b::bs=>.tup BB::zAd as bs
 | _,_=>[]
theorem q62:∀(as bs:aW),(zAd as bs).length=min as.length bs.length
 | a::as,b::bs=>by show (zAd as bs).length+1=_;rw[q62 as bs,zJ,zJ];omega
 | [],bs=>by cases bs <;> simp[zAd]
 | a::as,[]=>by simp[zAd]
theorem qao:∀(as bs:aW)(i:Nat)(d:D),(zAd as bs)[i]?=some d->∃a b,as[i]?=some a/\bs[i]?=some b/\d=.tup BB
 | a::as,b::bs,0,d,h=>by cases h;exact⟨a,b,rfl,rfl,rfl⟩
 | a::as,b::bs,i+1,d,h=>qao as bs i d h
 | [],bs,i,d,h=>by cases bs <;> cases h
 | a::as,[],i,d,h=>by cases h
theorem qfx{K:zC}{G:Hp}{a b:vH}{ds es:aW}{vs us:a8}(h1:Ui)(h2:pj)(h3:G b=some (.lst us))(h4:Rl):IterOf K Rz G (zAd ds es):=by
 have l1:=h2.len;have l2:=h4.len;refine⟨Fm,gX,λH s=>⟨vs,us,K5,SqL.of L5,?_⟩⟩
 ·rw[q62]at hi
  exact⟨vs,us,vs[i]'∅,us[i]'∅,K5,SqL.of L5,zD _,zD _⟩
 ·obtain⟨t,x1,y1,ht,rfl,rfl,y⟩:=hy
  obtain⟨e1,e2⟩:=y vs us Rs (SqL.of (s1 _ _ (s0 _ _ h3)));obtain⟨p,q,f1,f2,rfl⟩:=qao ds es i d hd;obtain⟨v,q1,q2⟩:=h2.get f1;obtain⟨u,q3,q4⟩:=h4.get f2;rw[e1]at q1;cases q1;rw[e2]at q3;cases q3;have x2:=Ext.lay s1 ht acN;exact⟨_,x2,⟨t,_,rfl,qe,XN.cons (q2.mono JJ) (XN.cons (q4.mono JJ) XN.nil)⟩⟩
 ·rw[q62]
  rcases YN ds.length es.length with h|h
  ·exact .inl Td
  ·exact .inr Td
noncomputable def iZp(g:FA):FI:=λω=>(g ω).bind λds=>match ds with
 | [.lst a,.lst b]=>some (zAd a b)
 | _=>none
theorem q7g{X:Cx}{a b:vW}{g:FA}{p pos tpos:Pos}{elts:iN}{kx}(hg:N5)(hm:BV)(ha:XA X BB g)(hs:UD:=by rfl)(hs2:aaV:=by rfl):
  XI X jF Ib (iZp g):=by
 obtain⟨⟨t,h1,h2⟩,_⟩:=ha;refine⟨_,qjd hg hm h1 hs hs2,jW⟩;obtain⟨vs,q,e⟩:=bnd e;refine h2 G0 H0 G ω σ H vs _ o q λus G1 H1 x1 y1=>?_
 match vs,e with
 | [.lst as,.lst bs],e=>
  cases e;obtain⟨v1,r1,rfl,z1,z2⟩:=y1;obtain⟨v2,r2,rfl,z3,z4⟩:=z2;cases (show r2=[]from z4);obtain⟨a1,ws1,rfl,f1,f2⟩:=z1;obtain⟨a2,ws2,rfl,f3,f4⟩:=z3;exact⟨a1,a2,ws1,ws2,rfl,SD,SqL.of (x1.gh _ _ f3),k _ G1 H1 x1 (qfx f1 f2 f3 f4)⟩
noncomputable def zAb(lo:Int)(n:Nat):List Int:=(za n).map λ(i:Nat)=>lo+rg
theorem q6o(lo:Int)(n:Nat):(zAb lo n).length=n:=by unfold zAb;rw[zA,zo]
theorem qc2:∀(vs:a8)(us:a0),vs.length=us.length->(∀(j:Nat)v u,vs[j]?=some v->us[j]?=some u->RelV v u)->Xc vs us
 | [],[],_,_=>.nil
 | [],_::_,h,_=>by simp at h
 | _::_,[],h,_=>by simp at h
 | v::vs,u::us,h,f=>.cons (f 0 v u rfl rfl) (qc2 vs us ⇑h λj a b e1 e2=>f (j+1) a b ⇑e1 ⇑e2)
def rLG(lo:List V->Option bi):List V->Hp->VK->Prop:=λvs H Q=>∃i j:Int,lo vs=some (i,j)/\(-(2^62)<=i/\i<2^62)/\(-(2^62)<=j/\j<2^62)/\(j-i).toNat<=1000000/\∀S,H S=none->Q fw (upd H S mf)
noncomputable def lo1:List V->Option bi
 | [.int j]=>some (0,j)
 | _=>none
section
open PySem.Spec PyProof.Rows
variable{X:Cx}
theorem qg8{pins:ay}{σ:L2.St}{H:Hp}{s:vC}{Q:VK}{E:aM}{lo hi:Int}{t u v:Tok}{tk:Nat}(I:aq)(hc:cE)(h1:-(2^62)<=lo/\lo<2^62)(h2:-(2^62)<=hi/\hi<2^62)(h3:(hi-lo).toNat<=1000000)(q:∀S,H S=none->Q fw (upd H S (.lst nB))):
  vP ao X.A acw cv E { s with heap:=s.heap.push { cls:=.type "range", data:=.fields #[A4,A5,DF] },toks:=tk }:=by
 refine call_list_range iC (IsRange.new ..) (small_one h1.1 h1.2 h2.1 h2.2) (n:=(hi-lo).toNat) (by rw[rangeSize_one];split <;> omega) ∅ λh' tk' acc c b1 b2 b3=>?_;have b1':∀b o,s.heap.get? b=some o->h'.get? b=some o:=λb o e=>b1 b o HH;have hle:s.heap.objs.size<=(s.heap.push { cls:=.type "range", data:=.fields #[A4,A5,DF] }).objs.size:=by rw[yh];omega
 have hv:Xc nB acc.toList:=by
  refine qc2 _ _ (by rw[zA,q6o,zP,b3.1]) λj x y e1 e2=>?_;obtain⟨t',rfl⟩:=b3.2 j y ⇑e2;have hj:j<(hi-lo).toNat:=by
   have:=(zj.mp e1).1;rw[zA,q6o]at this;exact this
  unfold zAb at e1;rw[yK,ze,xQ hj]at e1;cases e1;exact⟨t',by simp⟩
 refine⟨SG,_,I.laid (t':=tk') b1' hle (show Xh X.prog X.w _ h' _ (.lst nB)from ⟨by rw[zA,q6o,vh];omega,acc.toList,c,hv,by rw[xI];exact b2⟩),rfl,q _ (I.hok.fresh hle)⟩
theorem qaQ{a:vW}{t:TA}{p1 p2 q1 q2:Pos}(hg1:Gk)(hm1:n8)(hg2:JX)(hm2:r9)(ha:PA X [a] t)(hc:cE)(he1:fU)(hpl1:(vj q2 bF).any (·.1)=false)(he2:Bv)(hpl2:(vj q1 bF).any (·.1)=false):
  PE X Qo (tCB (rLG lo1) t):=by
 intro pins s σ H Q I h;refine v4 (q0q I hg1 hm1 q0o ?_ (by decide) (by decide));refine PyProof.Rows.callWith_type1 ?_ he2 hpl2;rw[he2];show vP _ _ kO _ _ s;refine Calls.spliced_cons ?_;refine v4 (q0q I hg2 hm2 boot_range ?_ (by decide) (by decide));refine PyProof.Rows.callWith_type1 (thn AO λus s1 ⟨vs,H1,I1,r1,z1⟩=>?_) he1 hpl1;obtain⟨i,j,e,b1,b2,b3,k⟩:=z1
 match vs,e,r1 with
 | [.int j'],e,r1=>
  cases e;obtain⟨u,rfl,e1⟩:=vals1 r1;obtain⟨t',rfl⟩:=e1;exact call_range_1 (Calls.spliced_nil (qg8 I1 hc b1 b2 b3 k))
end
noncomputable def zBv(i j:Int):Option R:=if ((-(2^62)<=i/\i<2^62)/\-(2^62)<=j/\j<2^62)/\(j-i).toNat<=1000000 then some (.fr ((zAb i (j-i).toNat).map D.int))else none
noncomputable def zAu:List D->Option R
 | [.int j]=>zBv 0 j
 | _=>none
theorem qhK{K:zC}{G H:Hp}{i j:Int}{r:R}{Q:VK}(s:BF)(e:zBv i j=some r)(k:∀v G' H',Ext G H G' H'->zCN K H G' H' r v->Q v H'):
  (-(2^62)<=i/\i<2^62)/\(-(2^62)<=j/\j<2^62)/\(j-i).toNat<=1000000/\∀S,H S=none->Q fw (upd H S mf):=by
 unfold zBv at e
 by_cases z:((-(2^62)<=i/\i<2^62)/\-(2^62)<=j/\j<2^62)/\(j-i).toNat<=1000000
 ·rw[fQ]at e
  cases e;refine⟨z.1.1,z.1.2,z.2,λS hS=>?_⟩;have x2:=Ext.hide s hS mf;exact k _ G _ x2 ⟨S,_,rfl,hS,s.free hS,qe,JV⟩
 ·rw[fI]at e;cases e
theorem qi0{K:zC}:zAE K (rLG lo1) zAu:=by
 intro G H ds vs d Q s e hv k
 match ds,e with
 | [.int j],e=>
  obtain⟨v,rfl,h⟩:=hv.one;cases h.int;obtain⟨a1,a2,a3,a4⟩:=qhK s e k;exact⟨0,j,rfl,a1,a2,a3,a4⟩
theorem q5X{X:Cx}{a:vW}{g:FA}{p1 p2 q1 q2:Pos}(hg1:Gk)(hm1:n8)(hg2:JX)(hm2:r9)(ha:XVA X [a] g)(hc:cE:=by rfl)(he1:fU:=by rfl)(hpl1:(vj q2 bF).any (·.1)=false:=by rfl)(he2:Bv:=by rfl)(hpl2:(vj q1 bF).any (·.1)=false:=by rfl):
  XE X Qo (Xx zAu g):=by
 obtain⟨t,h1,h2⟩:=ha;exact⟨_,qaQ hg1 hm1 hg2 hm2 h1 hc he1 hpl1 he2 hpl2,q5B qi0 h2⟩
end Hk
namespace Hk
open PySem L2 PyProof.Rows
noncomputable def zBA(k:Int):List Int->Option Nat
 | []=>none
 | a::r=>if a=k then some 0 else (zBA k r).map (·+1)
theorem q7S{k:Int}:∀{ns:af}{its:a0},Xc cc its->PySem.W.kf_ints its=true/\Yv k its=zBA k ns
 | [],its,h=>by cases h;exact bY
 | a::r,its,h=>by
  cases h with
  | cons h1 h2=>
   obtain⟨t,rfl⟩:=h1;obtain⟨e1,e2⟩:=q7S (k:=k) h2;refine⟨e1,?_⟩;unfold Yv zBA;rw[e2]
   by_cases z:a=k
   ·have:isInt k abp=true:=by simp[isInt,z]
    rw[this,fQ];rfl
   ·have:isInt k abp=false:=by simp[isInt,z]
    rw[this,fI];cases zBA k r <;> rfl
def rRem:V->List V->Hp->VK->Prop:=λx vs H Q=>∃l ns k j,x=.ref l/\vs=[kD]/\H l=some CA/\zBA k ns=some j/\Q .non (upd H l (.lst ((ns.map V.int).eraseIdx j)))
theorem qkb{X:Cx}:MtM X "list.remove" rRem:=by
 intro pins s σ H x vs v us Q I rx rv h;obtain⟨l,ns,k,j,rfl,rfl,hH,hj,q⟩:=h;cases rx;obtain⟨u,rfl,ru⟩:=rv.one;obtain⟨t,rfl⟩:=ru;obtain⟨z,its,n,r,hl,e⟩:=I.lstM hH;obtain⟨e1,e2⟩:=q7S (k:=k) r;rw[hj]at e2;obtain⟨a,b,c⟩:=Z8 e2;refine ud F.slot_list_remove eG F.entry_list_remove (F.args_list_remove_2 _ _)
  (MeetsSeq.list_remove l its.toArray n Pq (isInt k) Og j ⇑a ⇑b (λi hi hlt=>(by simpa using c i ⇑hi hlt)) (by rw[zQ];omega)) Ei
 refine⟨.non,_,I.lset (its':=its.eraseIdx j) hH e ?_ (r.eraseIdx j) ?_,rfl,q⟩
 ·show its.toArray.eraseIdxIfInBounds j=(its.eraseIdx j).toArray
  rw[xm]
 ·have:=q5q cc j
  omega
noncomputable def sRem(i:Nat)(fd:FD):FS:=λω=>(fd ω).bind λd=>match d with
 | .int k=>match ω[i]? with
  | some (some (.ow ds))=>(intsOf ds).bind λns=>(zBA k ns).map λj=>rh
  | _=>none
 | _=>none
section
variable{X:Cx}{pos:Pos}{o e:vW}{apos cpos:Pos}{i:Nat}{fd:FD}
theorem q5e{α β:Type}(f:R4):∀(l:bB)(j:Nat),(l.map f).eraseIdx j=(l.eraseIdx j).map f
 | [],_=>rfl
 | _::_,0=>rfl
 | a::l,j+1=>by simp[q5e f l j]
theorem qjH(ho:jv)(he:K3)(hbase:uF o "remove" X.env jG=eval o X.env:=by rfl)(hfew:((vj cpos jw).all (λx=>!x.1)&&(uI cpos j8).all gE
   && decide (([e]:List vW).length+([]:List uH).length+(if ([]:List uH).isEmpty then 0 else 1)<30))=true:=by rfl)
  (hline:dQ=true:=by rfl) (hs:vK [e] X.env=cH::vK [] X.env:=by rfl) (hplain:(vj cpos bF).any (·.1)=false:=by rfl)
  (hsw:v8 A7 none pos.line X.env=pure false:=by rfl) :
  XS X (.Expr A7 pos) (sRem i fd):=by
 obtain⟨t,h1,h2⟩:=he;refine⟨_,q17 (q2f PySem.F.plainAttrs_list PySem.F.slot_list_remove PySem.F.type_list_remove qkb ho GF hbase hfew hline hs hplain) hsw,iI⟩;obtain⟨d,q,e⟩:=bnd e;cases d with
 | int m=>
  dsimp only at e
  split at e
  ·rename_i ds q2
   obtain⟨ns,e1,e2⟩:=bnd e;clear e;have hds:=q0R e1;subst hds;obtain⟨j,hj,e3⟩:=mpd e2;cases e3;obtain⟨l,vs,r1,r2,r3,r4,r5⟩:=ow.ow i _ q2;have hv:=r5.of_ints;subst hv;refine⟨cX,r1,.inl ⟨rfl,_,SqL.of r2⟩,h2 G0 H0 G ω σ H _ _ ow q λv G1 H1 x1 y1=>?_⟩;cases (show v=.int m from y1);have o1:=ow.keep x1;refine⟨l,ns,m,j,rfl,rfl,lJ,hj,k G1 σ _ ?_ x1.gg⟩;rw[q5e];exact o1.mut q2 r1 lJ (x1.new l r3 (by rw[r2];exact λz=>by cases z)) r4 JV
  ·cases e
 | _=>cases e
end
end Hk
namespace Hk
open PySem L2
section
variable{X:Cx}{o c:vW}{body:List vp}{pos ipos npos:Pos}{i j:Nat}{fc:FT}{fb:FS}
end
noncomputable def dropW(o:Ks)(ω:WSt):Option dG:=o.map λ_=>Cz
noncomputable def zipI(o:AX):Option aW:=o.bind λds=>match ds with
 | [.lst a,.lst b]=>some (zAd a b)
 | _=>none
noncomputable def remS(i:Nat)(ω:WSt)(o:eK)(l:mY):Option dG:=o.bind λd=>match d with
 | .int k=>match l with
  | some (some (.ow ds))=>(intsOf ds).bind λns=>(zBA k ns).map λj=>rh
  | _=>none
 | _=>none
noncomputable def popW(i j:Nat)(ω:WSt)(o:eK)(l:mY):Option dG:=(o.bind λd=>match d with
 | .int k=>match l with
  | some (some (.ow ds))=>if -(2^63)<=k/\k<2^63 then (tP k ds.length).bind λn=>(ds[n]?).map λd=>(d,ω.set j KL)else none
  | _=>none
 | _=>none).map λp=>IT
noncomputable def sortR(o:eK):Option R:=o.bind zCb
section
variable{ω:WSt}{fe:FE}{fd:FD}{fa:FA}{r:R}{ds as bs:List D}{i j:Nat}{f:FS}{ft:FT}{m:List D->List D}
theorem qc7:zCQ fe ω=dropW Mk ω:=rfl
theorem e_wd:dropW (some r) ω=some Cz:=rfl
theorem qdG:iZp fa ω=zipI Ml:=rfl
theorem e_wz:zipI (some [.lst as,.lst bs])=some (zAd as bs):=rfl
theorem qfj:sRem i fd ω=remS i ω lZ ω[i]?:=rfl
theorem qej:zAs i (mPop j fd) ω=popW i j ω lZ ω[j]?:=by
 unfold zAs mPop popD popW;cases fd ω with
 | none=>rfl
 | some d=>cases d <;> rfl
theorem qbW:zA9 fd ω=sortR lZ:=rfl
end
theorem qjQ{i:Nat}{ω:WSt}{k:Int}{ns:af}{p:Nat}(h:zBA k ns=some p):remS i ω cV (some (some (.ow cY)))=some (.nx,ω.set i (some (.ow ((ns.eraseIdx p).map D.int)))):=by
 show (intsOf cY).bind _=_;rw[q0g];show (zBA k ns).map _=_;rw[h];rfl
theorem qcc{ns:af}(h:Q3):sortR (some Lh)=some mS:=by
 show (intsOf cY).bind _=_;rw[q0g];exact vF h
theorem qbx{n:Int}(h:-(2^62)<=n/\n<=1000000):zAu [Eu]=some (.fr ((zAb 0 n.toNat).map D.int)):=by
 show zBv 0 n=_;unfold zBv;rw[vF ⟨⟨⟨by decide,by decide⟩,h.1,∅⟩,∅⟩,YO]
theorem qjF{i j:Nat}{ω:WSt}{k:Int}{ds:aW}(h0:Vj)(h1:k<ds.length)(h2:IG):popW i j ω cV Cv=some (.nx,(ω.set j (some (.ow (ds.eraseIdx k.toNat)))).set i ↥(ds[k.toNat]'∅)):=by
 have e1:tP k ds.length=some k.toNat:=by
  show (if (decide (0<=(if k<0 then k+Dr else k))&&decide ((if k<0 then k+Dr else k)<Dr))=true then some (if k<0 then k+Dr else k).toNat else none)=_;rw[vG (show ¬k<0 by omega)];exact vF (by simp;omega)
 show Z9 _ (if -(2^63)<=k/\k<2^63 then _ else none)=_;rw[vF ri,e1];show Z9 _ ((ds[k.toNat]?).map _)=_;rw[zD (show k.toNat<ds.length by omega)];rfl
end Hk
namespace L2
open PySem PySem.Spec PyProof.Rows
section
variable{κ:Type}[DecidableEq κ]
noncomputable def W9(kvs:gO)(k:κ):Option V:=(kvs.find? λkv=>decide Q5).map (·.2)
noncomputable def putK(kvs:gO)(k:κ)(v:V):List (κ×V) :=
 if kc=true then kvs.map (λkv=>if kv.1=k then (kv.1,v)else kv)else kvs++[(k,v)]
theorem q4p{p:κ×V}{r:gO}{k:κ}(e:p.1=k):W9 (p::r) k=some p.2:=by simp[W9,xy,e]
theorem q4h{p:κ×V}{r:gO}{k:κ}(e:¬p.1=k):W9 (p::r) k=W9 r k:=by simp[W9,xy,e]
theorem q69(k:κ):∀kvs:List (κ×V),kc=(W9 kvs k).isSome
 | []=>rfl
 | p::r=>by
  rw[wK]
  by_cases e:p.1=k
  ·simp only[q4p e,vQ e,YQ,Option.isSome_some]
  ·rw[q4h e,vX e,Z0];exact q69 k r
theorem q3K(kvs:gO)(k:κ)(v:V):(putK kvs k v).length<=kvs.length+1:=by
 unfold putK
 split
 ·rw[zA];omega
 ·rw[zB,zJ,xg];omega
theorem qfM{kvs:gO}{k:κ}(v:V)(h:W9 kvs k=none):putK kvs k v=kvs++[(k,v)]:=by
 unfold putK;rw[q69,h];exact vG (by decide)
theorem zBa.isSome_eq{o:Ad}{u:AG}(r:zBa o u):o.isSome=u.isSome:=by
 cases o with
 | none=>cases u with
  | none=>rfl
  | some _=>exact(show False from r).elim
 | some _=>cases u with
  | none=>exact(show False from r).elim
  | some _=>rfl
theorem zBa.getD{o:Ad}{u:AG}{d:V}{d':vB}(r:zBa o u)(rd:RelV d d'):RelV (o.getD d) (u.getD d'):=by
 cases o with
 | none=>cases u with
  | none=>exact rd
  | some _=>exact(show False from r).elim
 | some _=>cases u with
  | none=>exact(show False from r).elim
  | some _=>exact r
theorem KV.val{kvs:gO}{vs:nH}(r:AY)(k:κ):zBa ME (sD vs k):=by
 unfold KV at r
 induction r with
 | nil=>exact True.intro
 | @cons p q ps qs h t ih=>
  obtain⟨h1,h2⟩:=h
  by_cases e:p.1=k
  ·have e':q.1=k:=h1.symm.trans e
   have b:sD UO k=some q.2:=by simp[sD,xy,e']
   rw[q4p e,b];exact h2
  ·have e':¬q.1=k:=λz=>e ID
   have b:sD UO k=sD qs k:=by simp[sD,xy,e']
   rw[q4h e,b];exact ih
theorem KV.any{kvs:gO}{vs:nH}(r:AY)(k:κ):kc=vs.any λkv=>decide Q5:=by
 unfold KV at r
 induction r with
 | nil=>rfl
 | cons h t ih=>rw[wK,wK,ih,h.1]
theorem KV.repl{kvs:gO}{vs:nH}(r:AY)(k:κ){y:V}{u:vB}(ry:pz):
  KV (kvs.map λkv=>if kv.1=k then (kv.1,y)else kv) (vs.map λkv=>if kv.1=k then (kv.1,u)else kv):=by
 unfold KV at r ⊢
 induction r with
 | nil=>exact .nil
 | @cons p q ps qs h t ih=>
  rw[zI,zI];refine .cons ?_ ih;obtain⟨h1,h2⟩:=h
  by_cases e:p.1=k
  ·rw[vF e,Tj];exact⟨h1,ry⟩
  ·rw[vG e,vG (λz=>e ID)];exact Lm
theorem KV.put{kvs:gO}{vs:nH}(r:AY)(k:κ){y:V}{u:vB}(ry:pz):KV acf (stored vs k u):=by
 unfold putK stored;rw[r.any k]
 by_cases e:(vs.any λkv=>decide Q5)=true
 ·rw[vF e,vF e];exact r.repl k ry
 ·rw[vG e,vG e];exact Paired.snoc r ⟨rfl,ry⟩
theorem KV.keys{kvs:gO}{vs:nH}(r:AY):kvs.map (·.1)=vs.map (·.1):=by
 unfold KV at r
 induction r with
 | nil=>rfl
 | cons h t ih=>rw[zI,zI,ih,h.1]
theorem KV.length{kvs:gO}{vs:nH}(r:AY):kvs.length=vs.length:=Paired.length r
end
theorem q4m{P:vU}{w:vZ}{k:Key}{u:vB}(r:RelV TF u):(Xd P w).is k u=true:=by
 cases k with
 | inl i=>obtain⟨t,e⟩:=(show ∃t,u=Value.int i t from r);subst e;exact qaU P w i t
 | inr x=>obtain⟨t,e⟩:=(show ∃t,u=Value.str x t from r);subst e;exact qaV P w x t
theorem q8f{P:vU}{w:vZ}:∀{ks:N0}{us:a0},Xc Q6 us->ItemsAre oO ks us
 | [],_,r=>by rw[yb]at r;cases r;exact .nil
 | k::ks,_,r=>by
  rw[zI]at r;cases r with
  | cons h t=>exact .cons (q4m h) (q8f t)
abbrev KT(H:Hp):List Pl->List ip->Prop:=sT λp q=>p.1=q.1/\H q.2.1=some SF/\RelV p.2 q.2.2
theorem KT.val{H:Hp}{kvs:jH}{xs:Rw}(r:LE)(k:N0):zBa ME ((se xs k).map (·.2)):=by
 induction r with
 | nil=>exact True.intro
 | @cons p q ps qs h t ih=>
  obtain⟨h1,_,h2⟩:=h
  by_cases e:p.1=k
  ·have e':q.1=k:=h1.symm.trans e
   have b:se UO k=some q.2:=by simp[se,xy,e']
   rw[q4p e,b];exact h2
  ·have e':¬q.1=k:=λz=>e ID
   have b:se UO k=se qs k:=by simp[se,xy,e']
   rw[q4h e,b];exact ih
theorem KT.repl{H:Hp}{kvs:jH}{xs:Rw}(r:LE)(k:N0){y:V}{u:vB}(ry:pz):
  KT H (kvs.map λkv=>if kv.1=k then (kv.1,y)else kv) (xs.map (putAt k u)):=by
 induction r with
 | nil=>exact .nil
 | @cons p q ps qs h t ih=>
  rw[zI,zI];refine .cons ?_ ih;obtain⟨h1,h2,h3⟩:=h;unfold putAt
  by_cases e:p.1=k
  ·rw[vF e,Tj];exact⟨h1,h2,ry⟩
  ·rw[vG e,vG (λz=>e ID)];exact⟨h1,h2,h3⟩
theorem KT.put{H:Hp}{kvs:jH}{xs:Rw}(r:LE)(k:N0){b:vH}{y:V}{u:vB}(hb:H b=some IS)(ry:pz):
  KT H acf (storedH xs k b u):=by
 have e:kc=(se xs k).isSome:=by
  rw[q69,(r.val k).isSome_eq,YR]
 unfold putK storedH;rw[e]
 by_cases q:(se xs k).isSome=true
 ·rw[vF q,vF q];exact r.repl k ry
 ·rw[vG q,vG q];exact Paired.snoc r ⟨rfl,hb,ry⟩
theorem KT.keeps{H H':Hp}{kvs:jH}{xs:Rw}(r:LE)(ht:∀b ys,H b=some abE->H' b=some abE):KT H' kvs xs :=
 Paired.mapP r λ_ _ z=>LM
section
variable{P:vU}{w:vZ}{H:Hp}{h:vk}{a:vH}
theorem qhr{u:HO}(ok:iV)(e:Rd H a u):Xh P w H h a u:=e.ok ok
theorem q4x{kvs:eM}(ok:iV)(e:Rd H a ci):kvs.length<=sizeLine/\BA=false/\∃vs,KV kvs vs/\h.DictOf oO a vs :=
 show Xh P w H h a ci from qhr ok e
theorem qcS{kvs:eM}(ok:iV)(e:LG):kvs.length<=sizeLine/\BA=false/\∃vs,KV kvs vs/\h.DictOf oO a vs:=q4x ok (.inl e)
theorem q5h{ks:N0}(ok:iV)(e:H a=some (.tup Q6)):(tN oO).is h ks a:=by
 obtain⟨_,its,r,o,h1,h2,n,h3⟩:=(show Xh P w H h a (.tup Q6)from ok a _ e);exact⟨o,its.toArray,n,h1,h2,h3,by simpa using q8f r⟩
theorem q5A{kvs:jH}(ok:iV)(e:Rd H a Ay):kvs.length<=sizeLine/\BA=false /\
  ∃xs,KT H kvs xs/\h.DictOfH (tN oO) a xs:=by
 obtain⟨z,y,xs,r,o,es,ep,h1,h2,h3,h4,h5⟩:=(show Xh P w H h a Ay from qhr ok e);refine⟨z,y,xs,r,o,es,ep,h1,h2,h3,h4,λx hx=>?_,h5⟩;have all:∀{l:jH}{m:Rw},KT H l m->∀x∈m,(tN oO).is h x.1 x.2.1:=by
  intro l m q
  induction q with
  | nil=>intro x hx;exact nomatch hx
  | @cons p q ps qs hq t ih=>
   intro x hx;rcases zH.mp hx with e|hx
   ·subst e
    exact q5h ok (by rw[<- hq.1];exact hq.2.1)
   ·exact ih x hx
 exact all r x hx
theorem qkM{kvs:jH}(ok:iV)(e:H a=some Ay):kvs.length<=sizeLine/\BA=false /\
  ∃xs,KT H kvs xs/\h.DictOfH (tN oO) a xs:=q5A ok (.inl e)
end
def zAg(H:Hp)(a:vH)(y:V)(r:Ad):Prop :=
 (∃kvs k,Rd H a ci/\y=kV k/\r=W9 kvs k)\/∃kvs k b,Rd H a Ay/\y=.ref b/\H b=some IS/\r=W9 kvs k
def zCn(H:Hp)(a:vH)(y v:V)(H':Hp):Prop :=
 (∃kvs k,H a=some ci/\y=kV k/\kvs.length<sizeLine/\H'=upd H a (.dK L9)) \/
 ∃kvs k b,H a=some Ay/\y=.ref b/\H b=some IS/\kvs.length<sizeLine/\H'=upd H a (.dT L9)
theorem zAg.k{H:Hp}{a:vH}{kvs:eM}{k:Key}(e:LG):zAg H a TF ME:=.inl ⟨kvs,k,.inl e,rfl,rfl⟩
theorem zCn.k{H:Hp}{a:vH}{kvs:eM}{k:Key}{v:V}(e:LG)(hl:UV):zCn H a TF v (upd H a (.dK L9)):=.inl ⟨kvs,k,e,rfl,hl,rfl⟩
section
variable{X:Cx}{pins:List (vH×Obj)}{σ:St}{H:Hp}{s:vC}{a:vH}{y v:V}{u r:vB}{o:Option V}{A:vf}{E:vB->vC->Prop}
theorem Inv.big(I:aq):uJ<s.heap.objs.size:=by
 have h:vY<s.heap.objs.size:=(I.mod.glob.keeps I.bk).lt;exact YI (by decide) h
theorem qfn{Q:aM}(hu:JZ)(I:aq)(g:zAg H a y nh)(ry:pz)(h:∀w' s',Inv X pins σ H s'->RelV v w'->Q w' s'):
  vP ao A (tD du u) Q E s:=by
 rcases g with⟨kvs,k,e,ey,l⟩|⟨kvs,k,b,e,ey,eb,l⟩
 ·subst ey
  obtain⟨z,hd,vs,rel,dd⟩:=q4x I.hok e;obtain⟨w',hw,rw'⟩:=zBa.some_of (v:=v) (o:=sD vs k) (by rw[l];exact rel.val k);exact wpAny_getItem_of L7 dd.mapOf hw (h w' _ iU rw')
 ·subst ey
  cases (show u=Value.ref b from ry);obtain⟨z,hd,xs,rel,dd⟩:=q5A I.hok e;obtain⟨w',hw,rw'⟩:=zBa.some_of (v:=v) (o:=(se xs k).map (·.2)) (by rw[l];exact rel.val k);obtain⟨p,hp,hp2⟩:=wO.mp hw;refine wpAny_getItem_heap (uq hu) Fy dd hp ?_;rw[hp2];exact h w' _ iU rw'
theorem qhF{Q:aM}(hu:JZ)(I:aq)(g:Tc)(ry:pz)(h:∀s',Inv X pins σ H s'->Q (.bool (!o.isSome)) s'):
  vP ao A (uP .NotIn u du) Q E s:=by
 rcases g with⟨kvs,k,e,ey,l⟩|⟨kvs,k,b,e,ey,eb,l⟩
 ·subst ey
  obtain⟨z,hd,vs,rel,dd⟩:=q4x I.hok e;refine wpAny_notIn_of L7 hd dd.mapOf ?_;rw[<- (rel.val k).isSome_eq,<- l];exact h _ iU
 ·subst ey
  cases (show u=Value.ref b from ry);obtain⟨z,hd,xs,rel,dd⟩:=q5A I.hok e;refine wpAny_notIn_heap (uq hu) Fy hd dd ?_;have q:=(rel.val k).isSome_eq;rw[YR]at q;rw[<- q,<- l];exact h _ iU
theorem q5M{h':vk}{t':Nat}{ob:HO}(I:aq)(mu:Mut (H a))(hs:xh a s.heap h')(he:∃q,h'.get? a=some q)(new:Xh X.prog X.w (upd H a ob) h' a ob):
  Inv X pins σ (upd H a ob) { s with heap:=h',toks:=t' } :=
 I.write (x:=a) (e:=a) mu bA (λb q hb z=>(hs.2 b hb).trans z) he new
theorem q9x{P:vU}{w:vZ}{H':Hp}{h':vk}{kvs:eM}{vs:Gi}(z:kvs.length<=sizeLine)(hd:BA=false)(rel:AY)(dd:h'.DictOf oO a vs):
  Xh P w H' h' a ci:=⟨z,hd,vs,rel,dd⟩
theorem qef{H':Hp}{Q:pr}(hu:JZ)(I:aq)(g:zCn H a y v H')(ry:pz)(rv:RelV v r)(h:∀s',Inv X pins σ H' s'->Q () s'):
  vP ao A (setItem du u r) Q E s:=by
 rcases g with⟨kvs,k,e,ey,l,eH⟩|⟨kvs,k,b,e,ey,eb,l,eH⟩
 ·subst ey eH
  obtain⟨z,hd,vs,rel,dd⟩:=qcS I.hok e;have hz:vs.length<=sizeLine:=by rw[<- rel.length];exact z
  have hl:(putK kvs k v).length<=sizeLine:=by have:=q3K kvs k v;omega
  refine wpAny_setItem_pairs (hsz:=hz) L7 dd λh' dd' hs=>h _ ?_;have he:∃q,h'.get? a=some q:=let ⟨q,_,_,hq,_⟩:=dd';Ng
  exact q5M I (by rw[e];exact True.intro) hs he (q9x hl hd (rel.put k rv) dd')
 ·subst ey eH
  cases (show u=Value.ref b from ry);obtain⟨z,hd,xs,rel,dd⟩:=qkM I.hok e;have hz:xs.length<=sizeLine:=by rw[<- Paired.length rel];exact z
  have hl:(putK kvs k v).length<=sizeLine:=by have:=q3K kvs k v;omega
  refine wpAny_setItem_heap (hsz:=hz) (uq hu) Fy dd λh' dd' hs=>h _ ?_;obtain⟨q,es,ep,hq,h2,h3,h4,_,h5⟩:=dd';refine q5M I (by rw[e];exact True.intro) hs Ng ⟨hl,hd,_,(rel.put k eb rv).keeps λc ys ec=>?_,q,es,ep,hq,h2,h3,h4,h5⟩;rw[qd (qkQ ec e (λz=>nomatch z))];exact ec
end
section
variable{X:Cx}{pins:List (vH×Obj)}{σ:St}{H:Hp}{s:vC}{a:vH}{kvs:List (Key×V)}{k:Key}{u:vB}{A:vf}{E:vB->vC->Prop}
end
def NoSl(i:vW):Prop:=∀ov iv,subscripted i false ov iv=operate [ov,iv] (tD ov iv)
theorem qiq{prog:vU}{w:vZ}{A:vf}{E:aM}{s:vC}{env:Env}{value slice:vW}{pos:Pos}{T id:String}{Q:aM}(hl:uy Av "__getitem__" = pure (some jm))(hs:NoSl slice)(h:vP ak A (eval value env) (λo s₁=>vP ak A (eval slice env) (λi s₂=>s₂.TypeIs o T/\vP ak A (tD o i) Q E s₂) E s₁) E s):
  vP ak A (eval (.Subscript value slice pos) env) Q E s:=by
 refine Subscript_ (vt h (λo s₁ h₁=>vt h₁ (λi s₂ h₂=>?_) λ_ _ x=>x) λ_ _ x=>x);obtain⟨hT,h₂⟩:=h₂;unfold sH;refine vA ?_;rw[getitemInPython_of_ne hT.not_modules];refine vA (ub hT hl ?_);have fin:vP ak A (subscripted slice false o i) (λr s₃=>vP ak A (letTemporaryGo value o r >>= λ_=>pure r) Q E s₃) E s₂:=by
  rw[hs o i];exact wpAny_operating (vt h₂ (λr s₃ h₃=>vA (wpAny_letTemporaryGo (vJ h₃))) λ_ _ x=>x)
 first
  | exact vJ (vA fin)
  | exact vA (vJ (vA fin))
  | exact vA fin
theorem qb6{X:Cx}{pins:ay}{σ:St}{H:Hp}{s:vC}{a:vH}{y:V}{o:Ad}(I:aq)(g:Tc):s.TypeIs du "dict" := by
 rcases g with⟨kvs,k,e,_,_⟩|⟨kvs,k,b,e,_,_,_⟩
 ·obtain⟨_,_,vs,_,dd⟩:=q4x I.hok e
  exact dd.typeIs
 ·obtain⟨_,_,xs,_,dd⟩:=q5A I.hok e
  exact dd.typeIs
noncomputable def zC0(td ty:TE):TE:=λσ H Q=>td σ H λx H1=>ty σ H1 λy H2=>∃a v,x=.ref a/\zAg H2 a y nh/\Q v H2
noncomputable def tDIn(ty td:TE):TE:=λσ H Q=>ty σ H λy H1=>td σ H1 λx H2=>∃a o,x=.ref a/\zAg H2 a y o/\Q (.bl o.isSome) H2
noncomputable def zBt(ty td:TE):TE:=λσ H Q=>ty σ H λy H1=>td σ H1 λx H2=>∃a o,x=.ref a/\zAg H2 a y o/\Q (.bl (!o.isSome)) H2
noncomputable def sDPut(td ty tv:TE):TS:=λD σ H=>tv σ H λv H1=>td σ H1 λx H2=>ty σ H2 λy H3=>∃a H4,x=.ref a/\zCn H3 a y v H4/\D.nx σ H4
section
variable{X:Cx}{o i e value:vW}{pos pos' tpos:Pos}{td ty tv:TE}
theorem q5F(hu:FW)(ho:K8)(hi:PE X i ty)(hs:NoSl i):PE X (.Subscript o i pos) (zC0 td ty):=by
 intro pins s σ H Q I h;refine qiq PySem.F.slot_dict_getitem.lookup hs (thn kP λu s1 ⟨x,H1,I1,rx,q1⟩=>thn (hi pins s1 σ H1 _ I1 q1) λiv s2 ⟨y,H2,I2,ry,a,v,ex,g,q2⟩=>?_);subst ex;obtain rfl:u=Value.ref a:=rx;exact⟨qb6 I2 g,qfn hu I2 g ry λw' s3 I3 rw'=>⟨v,H2,I3,rw',q2⟩⟩
theorem qet(hu:FW)(hi:PE X i ty)(ho:K8):PC X .NotIn i o (zBt ty td):=by
 intro pins s σ H Q I h;refine thn CQ λiv s1 ⟨y,H1,I1,ry,q1⟩=>thn Md λu s2 ⟨x,H2,I2,rx,a,ov,ex,g,q2⟩=>?_;subst ex;obtain rfl:u=Value.ref a:=rx;exact qhF hu I2 g ry λs3 I3=>⟨.bl (!ov.isSome),H2,I3,rfl,q2⟩
theorem qbP(hu:FW)(ho:K8)(hi:PE X i ty)(hv:PE X value tv)(hs:v8 value (some SL) pos.line X.env=pure false):
  PS X (.Assign [SL] value pos) (sDPut td ty tv):=by
 intro pins s σ H D I h;refine wpAny_Assign_Subscript (thn (hv pins s σ H _ I h) λr s1 ⟨v,H1,I1,rv,q1⟩=>thn Md λu s2 ⟨x,H2,I2,rx,q2⟩=>thn (hi pins s2 σ H2 _ I2 q2) λiv s3 ⟨y,H3,I3,ry,a,H4,ex,g,q3⟩=>?_) hs;subst ex;obtain rfl:u=Value.ref a:=rx;exact qef hu I3 g ry rv λs4 I4=>⟨σ,H4,I4,q3⟩
end
theorem q9M{P:vU}{w:vZ}{H:Hp}(h:vk)(hb:uJ<h.objs.size):Xh P w H (h.push { cls:=.type "dict", data:=.dict #[] }) h.objs.size Jr :=
 ⟨B4,beq_eq_false_iff_ne.mpr (Ne.symm (zx hb)),[],.nil,Heap.DictOf.new h⟩
noncomputable def tDNewK:TE:=λ_ H Q=>∀p,H p=none->Q bu kY
section
variable{X:Cx}{pos:Pos}
theorem q6g:PE X (.Dict [] [] pos) tDNewK:=λpins s σ H Q I h=>
 wpAny_Dict_empty ⟨aD,_,I.laid (a:=s.heap.objs.size) (o:=.dK []) (t':=s.toks) Ij bZ Tq,rfl,h _ mQ⟩
end
def zB9:List (TE×TE)->St->Hp->Ql->Prop
 | [],_,H,Q=>Q [] H
 | (tk,tv)::r,σ,H,Q=>tk σ H λx H1=>tv σ H1 λy H2=>zB9 r σ H2 λps H3=>Q ((x,y)::ps) H3
abbrev VV:List (V×V)->List (vB×vB)->Prop:=sT λp q=>RelV p.1 q.1/\RelV p.2 q.2
def PPs(X:Cx)(pos:Pos)(keys:List DV)(values:iN)(trs:HU):Prop :=
 ∀(pins:ay)(s:vC)(σ:St)(H:Hp)(Q:Ql),Inv X pins σ H s->zB9 trs σ H Q ->
  vP ao X.A (evalPairs (pairTrees keys values X.env pos)) (λvs s'=>∃ps H',Inv X pins σ H' s'/\VV ps vs/\Q ps H') X.xe s
theorem qiW{X:Cx}{pos:Pos}:PPs X pos [] [] []:=λpins s σ H Q I h=>pairTrees_nil_walk GT
theorem qfO{X:Cx}{pos:Pos}{k v:vW}{ks:List DV}{vs:iN}{tk tv:TE}{trs:HU}(hk:PE X k tk)(hv:PE X v tv)(hr:PPs X pos ks vs trs):
  PPs X pos (some k::ks) (v::vs) ((tk,tv)::trs):=λpins s σ H Q I h=>
 pairTrees_cons_walk (thn (hk pins s σ H _ I h) λu s1 ⟨x,H1,I1,rx,q1⟩=>thn (hv pins s1 σ H1 _ I1 q1) λw2 s2 ⟨y,H2,I2,ry,q2⟩=>
  thn (hr pins s2 σ H2 _ I2 q2) λws s3 ⟨ps,H3,I3,rel,q3⟩=>⟨(x,y)::ps,H3,I3,.cons ⟨rx,ry⟩ rel,q3⟩)
noncomputable def zAK(kvs more:eM):List Ry:=more.foldl (λacc kv=>putK acc kv.1 kv.2) kvs
theorem KV.merge:∀{more:eM}{rs:Gi}{kvs:eM}{vs:Gi},KV more rs->KV kvs vs->KV (zAK kvs more) (merged vs rs):=by
 intro more rs kvs vs r;unfold KV at r
 induction r generalizing kvs vs with
 | nil=>intro q;exact q
 | @cons p q ps qs h t ih=>
  intro r0;have e:KV Hc (stored vs q.1 q.2):=by
   have:=r0.put p.1 h.2;rw[<- h.1];exact this
  exact ih e
theorem q4I:∀(more kvs:eM),(zAK kvs more).length<=kvs.length+more.length
 | [],kvs=>by show kvs.length<=kvs.length+0;omega
 | p::r,kvs=>by
  have h1:=q4I r Hc;have h2:=q3K kvs p.1 p.2;show (zAK Hc r).length<=_;rw[zJ];omega
theorem q7q{P:vU}{w:vZ}:∀{kvs:eM}{ws:List (vB×vB)},VV (kvs.map λkv=>acp) ws->∃rs,Carries oO ws rs/\KV kvs rs
 | [],_,r=>by rw[yb]at r;cases r;exact⟨[],True.intro,.nil⟩
 | p::kvs,_,r=>by
  rw[zI]at r;cases r with
  | @cons a b as bs h t=>
   obtain⟨rs,c,q⟩:=q7q (P:=P) (w:=w) t;obtain⟨b1,b2⟩:=b;exact⟨(p.1,b2)::rs,⟨q4m h.1,rfl,c⟩,.cons ⟨rfl,h.2⟩ q⟩
noncomputable def tDisp(trs:HU):TE:=λσ H Q=>∀p,H p=none->zB9 trs σ kY λps H2=>H2 p=some Jr/\∃kvs:List Ry,ps=kvs.map (λkv=>acp)/\kvs.length<=15/\Q bu (upd H2 p (.dK (zAK [] kvs)))
theorem qhR{X:Cx}{pos:Pos}{keys:List DV}{values:iN}{trs:HU}(h:PPs X pos keys values trs)(hall:keys.all (·.isSome)=true)(hl:keys.length=values.length)(h0:keys≠[])(h15:keys.length<=15):PE X (.Dict keys values pos) (tDisp trs):=by
 intro pins s σ H Q I q;have hn:=I.hok.fresh (zK s.heap.objs.size);have I1:=I.laid (a:=s.heap.objs.size) (o:=.dK []) (h':=s.heap.push { cls:=.type "dict", data:=.dict #[] }) (t':=s.toks) Ij bZ Tq;refine wpAny_Dict_walk (knd:=Xd X.prog X.w) hall hl h0 h15 (thn (h pins _ σ _ _ I1 (q _ hn)) λws s2 ⟨ps,H2,I2,rel,e,kvs,ep,lk,q2⟩=>?_);subst ep;obtain⟨rs,c,rk⟩:=q7q (P:=X.prog) (w:=X.w) rel;obtain⟨z,hd,vs0,r0,dd⟩:=qcS I2.hok e;cases r0;refine⟨rs,c,dd,λh' dd' hs=>⟨aD,_,?_,rfl,q2⟩⟩;have hz:(zAK [] kvs).length<=sizeLine:=by
  have h1:=q4I kvs [];rw[xg]at h1;rw[vh];omega
 have he:∃q,h'.get? s.heap.objs.size=some q:=let ⟨q,_,_,hq,_⟩:=dd';Ng
 exact q5M I2 (by rw[e];exact True.intro) hs he (q9x hz hd (rk.merge .nil) dd')
structure M2 (X:Cx) (o:vW) (m:Str) (apos:Pos) (e f:vW) (cpos:Pos):Prop where
 base:uF o m X.env (eval o X.env)=eval o X.env
 few:((vj cpos (vK [e,f] X.env)).all (λx=>!x.1)&&(uI cpos (v3 [] X.env)).all (λx=>x.1.isSome)
  && decide (([e,f]:List vW).length+([]:List uH).length+(if ([]:List uH).isEmpty then 0 else 1)<30))=true
 line:(apos.endLine==cpos.line)=true
 trees:vj cpos (vK [e,f] X.env)=[(false,eval e X.env),(false,eval f X.env)]
def IsD(H:Hp)(a:vH):Prop:=(∃kvs,Rd H a ci)\/∃kvs,Rd H a Ay
theorem qdV{X:Cx}{pins:ay}{σ:St}{H:Hp}{s:vC}{a:vH}(I:aq)(d:IsD H a):
  s.TypeIs du "dict" /\ (∀b,Value.ref a=.ref b->∃ob,s.heap.get? b=some ob/\ob.dict=none)/\BA=false:=by
 rcases d with⟨kvs,e⟩|⟨kvs,e⟩
 ·obtain⟨_,hd,vs,_,dd⟩:=q4x I.hok e
  refine LO;cases q;obtain⟨ob,_,_,h1,h2,_⟩:=dd;exact Vv
 ·obtain⟨_,hd,xs,_,dd⟩:=q5A I.hok e
  refine LO;cases q;obtain⟨ob,_,_,h1,h2,_⟩:=dd;exact Vv
section
variable{X:Cx}{pins:List (vH×Obj)}{σ:St}{H:Hp}{s:vC}{a:vH}{y d:V}{u r:vB}{o:Option V}{A:vf}{E:vB->vC->Prop}
theorem qjt{Q:aM}(hu:JZ)(I:aq)(g:Tc)(ry:pz)(rd:RelV d r)(h:∀w' s',Inv X pins σ H s'->RelV (o.getD d) w'->Q w' s'):
  vP ao A (call (.builtin "dict.get") [du,u,r]) Q E s:=by
 rcases g with⟨kvs,k,e,ey,l⟩|⟨kvs,k,b,e,ey,eb,l⟩
 ·subst ey
  obtain⟨z,hd,vs,rel,dd⟩:=q4x I.hok e;refine sP PySem.F.slot_dict_get dd.typeIs PySem.F.entry_dict_get Jn (meets_dict_get_default nn a L7 hd r) ⟨_,dd.mapOf,h _ _ iU ?_⟩;rw[l];exact(rel.val k).getD rd
 ·subst ey
  cases (show u=Value.ref b from ry);obtain⟨z,hd,xs,rel,dd⟩:=q5A I.hok e;refine sP PySem.F.slot_dict_get dd.typeIs PySem.F.entry_dict_get Jn (meetsH_dict_get_default (tN nn) a b hd r) ⟨uq hu,k,xs,Fy,dd,h _ _ iU ?_⟩;rw[l];exact(rel.val k).getD rd
end
noncomputable def zBl(td ty tx:TE):TE:=λσ H Q=>td σ H λx H1=>∃a,x=.ref a/\IsD H1 a/\ty σ H1 λy H2=>tx σ H2 λz H3=>∃o,zAg H3 a y o/\Q (o.getD z) H3
section
variable{X:Cx}{o e f:vW}{apos cpos:Pos}{td ty tx:TE}
theorem qay(hu:FW)(ho:K8)(he:PE X e ty)(hf:PE X f tx)(m:M2 X o "get" apos e f cpos):PE X (.Call (.Attribute o "get" apos) [e,f] [] cpos) (zBl td ty tx):=by
 intro pins s σ H Q I h;refine wpAny_Call_method m.base m.few m.line PySem.F.plainAttrs_dict PySem.F.slot_dict_get PySem.F.type_dict_get (thn kP λu s1 ⟨x,H1,I1,rx,a,ex,d,q1⟩=>?_);subst ex;obtain rfl:u=Value.ref a:=rx;obtain⟨t1,t2,_⟩:=qdV I1 d;refine⟨t1,t2,?_⟩;rw[m.trees];refine Calls.callWith_builtin rfl (Calls.evalArgs_plain (Calls.spliced_cons (thn Mf λiv s2 ⟨y,H2,I2,ry,q2⟩=>
  Calls.spliced_cons (thn Me λfv s3 ⟨z,H3,I3,rz,ov,g,q3⟩=>Calls.spliced_nil ?_))))
 exact qjt hu I3 g ry rz λw' s4 I4 rw'=>⟨_,H3,I4,rw',q3⟩
end
section
variable{X:Cx}{pins:List (vH×Obj)}{σ:St}{H:Hp}{s:vC}{a:vH}{kvs:List (Key×V)}{A:vf}{E:vB->vC->Prop}
end
section
variable{X:Cx}{pins:List (vH×Obj)}{σ:St}{H:Hp}{s:vC}{a:vH}{y:V}{u:vB}{A:vf}{E:vB->vC->Prop}
end
end L2
namespace Hk
open PySem L2
noncomputable def Xe{α:Type}:List Int->List α->Int->Option α
 | k'::ks,x::xs,k=>if k'=k then some x else Xe ks xs k
 | _,_,_=>none
noncomputable def repA{α:Type}:List Int->List α->Int->α->List α
 | k'::ks,x::xs,k,y=>(if k'=k then y else x)::repA ks xs k y
 | _,xs,_,_=>xs
noncomputable def Wg(ks:af)(k:Int):List Int:=if k∈ks then ks else ks++[k]
noncomputable def putA{α:Type}(ks:af)(xs:bB)(k:Int)(y:α):List α:=if k∈ks then repA ks xs k y else xs++[y]
theorem q9b{α:Type}:∀(ks:af)(xs:bB)(k:Int)(y:α),(repA ks xs k y).length=xs.length
 | [],xs,_,_=>rfl
 | _::_,[],_,_=>rfl
 | k'::ks,x::xs,k,y=>by show (repA ks xs k y).length+1=xs.length+1;rw[q9b ks xs k y]
theorem qiA{α:Type}{ks:af}{xs:bB}(k:Int)(y:α)(h:ks.length=xs.length):(Wg ks k).length=(putA ks xs k y).length:=by
 unfold Wg putA
 by_cases z:k∈ks
 ·rw[fQ,fQ,q9b];exact h
 ·rw[fI,fI,zB,zB,h];rfl
theorem q0b:∀{ks:af}{vs:a8},ks.length=vs.length->∀k,W9 kb AF=Xe ks vs k
 | [],[],_,k=>rfl
 | [],_::_,h,_=>by simp at h
 | _::_,[],h,_=>by simp at h
 | k'::ks,v::vs,h,k=>by
  show W9 ((abr,v)::kvsOf ks vs) AF=if k'=k then some v else Xe ks vs k
  by_cases z:k'=k
  ·rw[fQ,q4p (p:=(kH,v)) (by rw[z])]
  ·rw[fI,q4h (p:=(kH,v)) Bn]
   exact q0b ⇑h k
theorem q2k:∀{ks:af}{vs:a8},ks.length=vs.length->(kvsOf ks vs).length=ks.length
 | [],[],_=>rfl
 | [],_::_,h=>by simp at h
 | _::_,[],h=>by simp at h
 | k'::ks,v::vs,h=>by show (kvsOf ks vs).length+1=_;rw[q2k ⇑h];rfl
theorem q7e:∀{ks:af}{vs:a8},ks.length=vs.length->(kvsOf ks vs).map (·.1)=ks.map Hv
 | [],[],_=>rfl
 | [],_::_,h=>by simp at h
 | _::_,[],h=>by simp at h
 | k'::ks,v::vs,h=>by show kH::(kvsOf ks vs).map (·.1)=_;rw[q7e ⇑h];rfl
theorem q7Z:∀{ks:af}{vs:a8},ks.length=vs.length->∀k,(kvsOf ks vs).any (λkv=>decide (kv.1=lh))=decide (k∈ks)
 | [],[],_,_=>rfl
 | [],_::_,h,_=>by simp at h
 | _::_,[],h,_=>by simp at h
 | k'::ks,v::vs,h,k=>by
  show (decide acq || (kvsOf ks vs).any _)=_;rw[q7Z ⇑h k];have e:decide acq=decide (k'=k):=by
   by_cases z:k'=k
   ·rw[z];simp
   ·rw[vX z,vX Bn]
  rw[e];simp only[zH]
  by_cases z:k'=k
  ·simp[z]
  ·have:¬k=k':=λy=>z y.symm
   simp[z,this]
theorem q8t:∀{ks:af}{vs:a8},ks.length=vs.length->∀(k:Int)(v:V),(kvsOf ks vs).map (λkv=>if kv.1=lh then (kv.1,v)else kv)=kvsOf ks aad
 | [],[],_,_,_=>rfl
 | [],_::_,h,_,_=>by simp at h
 | _::_,[],h,_,_=>by simp at h
 | k'::ks,u::vs,h,k,v=>by
  show (if kH=Sum.inl k then (kH,v)else (abr,u))::(kvsOf ks vs).map _=(abr,if k'=k then v else u)::kvsOf ks aad;rw[q8t ⇑h k v]
  by_cases z:k'=k
  ·rw[vF (by rw[z]),fQ]
  ·rw[vG Bn,fI]
theorem q7h:∀{ks:af}{vs:a8},ks.length=vs.length->∀(k:Int)(v:V),kvsOf ks vs++[(AF,v)]=kvsOf FF (vs++[v])
 | [],[],_,_,_=>rfl
 | [],_::_,h,_,_=>by simp at h
 | _::_,[],h,_,_=>by simp at h
 | k'::ks,u::vs,h,k,v=>by show _::(kvsOf ks vs++[(AF,v)])=_;rw[q7h ⇑h k v];rfl
theorem q4T{ks:af}{vs:a8}(h:UW)(k:Int)(v:V):putK kb AF v=kvsOf (Wg ks k) (putA ks vs k v):=by
 unfold putK Wg putA;rw[q7Z h]
 by_cases z:k∈ks
 ·rw[PQ,fQ,fQ];exact q8t h k v
 ·rw[vG (by rw[vX z];decide),fI,fI];exact q7h h k v
section
variable{K:zC}{G:Hp}
theorem XN.val:∀{ks:af}{ds:aW}{vs:a8}{k:Int}{d:D},XN K G ds vs->Xe ks ds k=some d->∃v,Xe ks vs k=some v/\Rep K G d v
 | [],_,_,_,_,_,e=>by cases e
 | _::_,[],_,_,_,_,e=>by cases e
 | k'::ks,d'::ds,_,k,d,⟨v,r,h1,h2,h3⟩,e=>by
  subst h1;have e:(if k'=k then some d' else Xe ks ds k)=some d:=e;show ∃u,(if k'=k then some v else Xe ks r k)=some u/\_
  by_cases z:k'=k
  ·rw[fQ]at e ⊢;cases e;exact⟨v,rfl,h2⟩
  ·rw[fI]at e ⊢;exact XN.val h3 e
theorem XN.isVal:∀{ks:af}{ds:aW}{vs:a8}(k:Int),XN K G ds vs->(Xe ks vs k).isSome=(Xe ks ds k).isSome
 | [],_,_,_,_=>rfl
 | _::_,[],_,_,h=>by cases (show _=[]from h);rfl
 | k'::ks,d'::ds,_,k,⟨v,r,h1,h2,h3⟩=>by
  subst h1;show (if k'=k then some v else Xe ks r k).isSome=(if k'=k then some d' else Xe ks ds k).isSome
  by_cases z:k'=k
  ·rw[fQ,fQ];rfl
  ·rw[fI,fI];exact XN.isVal k h3
theorem XN.repA:∀{ks:af}{ds:aW}{vs:a8}(k:Int){d:D}{v:V},XN K G ds vs->Rep K G d v->XN K G (Hk.repA ks ds k d) (Hk.repA ks vs k v)
 | [],_,_,_,_,_,h,_=>h
 | _::_,[],_,_,_,_,h,_=>by cases (show _=[]from h);rfl
 | k'::ks,d'::ds,_,k,d,v,⟨u,r,h1,h2,h3⟩,hv=>by
  subst h1;refine⟨_,_,rfl,?_,XN.repA k h3 hv⟩
  by_cases z:k'=k
  ·rw[fQ,fQ];exact hv
  ·rw[fI,fI];exact h2
theorem XN.putA{ks:af}{ds:aW}{vs:a8}(k:Int){d:D}{v:V}(h:pj)(hv:Rep K G d v):XN K G (Hk.putA ks ds k d) (Hk.putA ks vs k v):=by
 unfold Hk.putA
 by_cases z:k∈ks
 ·rw[fQ,fQ];exact h.repA k hv
 ·rw[fI,fI];exact h.app (XN.cons hv XN.nil)
end
noncomputable def zAF:Option cb->Option At
 | some (some (.od ks ds))=>some FC
 | some ↥(.dic ks ds)=>some FC
 | _=>none
theorem qbA{H H':Hp}{p:vH}{u:HO}(e:NR)(h:Rd H p u):Rd H' p u:=by
 rcases h with h|⟨o,h⟩
 ·exact .inl Si
 ·exact .inr ⟨o,Si⟩
theorem qbn{H:Hp}{a:vH}{kvs:eM}{k:Key}(e:Rd H a ci):zAg H a TF ME:=.inl ⟨kvs,k,e,rfl,rfl⟩
theorem Own.dic{K:zC}{G0:Hp}{H0:Fr}{G:Hp}{ω:WSt}{σ:St}{H:Hp}{i:Nat}{ks:af}{ds:aW}(o:bS)(h:zAF ω[i]?=some FC):
  ∃p vs,σ[i]?=some eP/\Rd H p Jq/\ks.length=ds.length/\XN K G ds vs:=by
 unfold zAF at h
 split at h
 ·rename_i q
  cases h;obtain⟨p,vs,h1,h2,_,_,h5,h6,_⟩:=o.od i _ _ q;exact⟨p,vs,h1,.inl h2,h5,h6⟩
 ·rename_i q
  cases h;obtain⟨v,h1,p,vs,rfl,⟨ob,h2⟩,h3,h4⟩:=o.sh i _ q;exact⟨p,vs,h1,.inr ⟨ob,o.gh _ _ h2⟩,h3,h4⟩
 ·cases h
section
variable{X:Cx}{o k e:vW}{pos pos' dpos:Pos}{i:Nat}{fk fv:FD}
theorem hu1(hu:fX):X.A.units+1<uj:=∅
noncomputable def zBu(i:Nat):FS:=λω=>some Vl
theorem q7G{x:Str}(hN:X.N.Nodup)(hi:X.N[i]?=some x)(hx:eQ)(hs:v8 Ur Oq pos.line X.env=pure false:=by rfl)(hf:aL:=by first|exact .inl rfl|exact .inr rfl|assumption):
  XS X (.Assign [cF] Ur pos) (zBu i):=by
 refine⟨_,q0d hN hi hx q6g hs hf,iI⟩;cases e;intro p hp;have o1:=ow.keep (Ext.hide ow.gh hp Jr);refine k G _ _ (o1.setOd (ks:=[]) (ds:=[]) (vs:=[]) qe aaZ (ow.ext.hh.free hp) rfl XN.nil λj ks' es hj z=>?_) gC;obtain⟨q,us,h1,h2,_⟩:=ow.od j ks' es hj;rw[h1]at z;cases z;rw[hp]at h2;cases h2
noncomputable def zBS(i:Nat)(fk fv:FD):FS:=λω=>(fv ω).bind λd=>(fk ω).bind λc=>match c,ω[i]? with
 | .int k,some (some (.od ks ds))=>if ks.length<1000000 then some iZ else none
 | _,_=>none
theorem q5y(hu:fX)(ho:jv)(hk:Qd)(hv:XD X e fv)(hs:v8 e (some SK) pos.line X.env=pure false:=by rfl):XS X (.Assign [SK] e pos) (zBS i fk fv):=by
 obtain⟨tk,h1,h2⟩:=hk;obtain⟨tv,h3,h4⟩:=hv;refine⟨_,qbP (hu1 hu) ho h1 h3 hs,l5⟩;obtain⟨d,q1,e⟩:=bnd e;obtain⟨c,q2,e⟩:=bnd e;refine h4 G0 H0 G ω σ H d _ ow q1 λv G1 H1 x1 y1=>?_;cases c with
 | int k=>
  split at e
  ·rename_i _ _ _ k' ks ds ek q3
   cases ek
   by_cases z:ks.length<1000000
   ·rw[fQ]at e
    cases e;have o1:=ow.keep x1;obtain⟨p,vs,r1,r2,r3,r4,r5,r6,r7⟩:=o1.od i ks ds q3;refine⟨bu,r1,h2 G0 H0 G1 ω σ H1 _ _ o1 q2 λu G2 H2 x2 y2=>?_⟩;cases (show u=.int k from y2);have o2:=o1.keep x2;have hl:ks.length=vs.length:=by rw[r5];exact r6.len
    refine⟨p,_,rfl,zCn.k (k:=Sum.inl k) ab1 (by rw[q2k hl,vh];omega),?_⟩;rw[q4T hl];exact kk G2 σ _ (o2.mutD q3 r1 ab1 (x2.new p r3 (by rw[r2];exact λz=>by cases z)) r4 (qiA k d r5) ((r6.mono x2.gg).putA k LT)) Fo
   ·rw[fI]at e;cases e
  ·cases e
 | _=>cases e
noncomputable def zAW(i:Nat)(fk:FD):FE:=λω=>(zAF ω[i]?).bind λp=>(fk ω).bind λc=>match c with
 | .int k=>(Xe p.1 p.2 k).map R.sh
 | _=>none
theorem q21(hu:fX)(ho:jv)(hk:Qd)(hs:NoSl k:=by intro _ _;rfl):XE X (.Subscript o k pos) (zAW i fk):=by
 obtain⟨tk,h1,h2⟩:=hk;refine⟨_,q5F (hu1 hu) ho h1 hs,IY⟩;obtain⟨⟨ks,ds⟩,q1,e⟩:=bnd e;obtain⟨c,q2,e⟩:=bnd e;obtain⟨p,vs,r1,r2,r3,r4⟩:=ow.dic q1;refine⟨bu,r1,h2 G0 H0 G ω σ H c _ ow q2 λu G1 H1 x1 y1=>?_⟩;cases c with
 | int k=>
  cases (show u=.int k from y1);obtain⟨d,q3,e⟩:=mpd e;subst e;obtain⟨v,z1,z2⟩:=r4.val q3;have hl:ks.length=vs.length:=by rw[r3];exact r4.len
  have g:=qbn (k:=lh) acd;rw[q0b hl,z1]at g;exact⟨p,v,rfl,g,kk v G1 H1 x1 (z2.mono x1.gg)⟩
 | _=>cases e
noncomputable def zBy(neg:Bool)(i:Nat)(fk:FD):FT:=λω=>(fk ω).bind λc=>(zAF ω[i]?).bind λp=>match c with
 | .int k=>some (if neg then !(Xe p.1 p.2 k).isSome else (Xe p.1 p.2 k).isSome)
 | _=>none
theorem qhI{tk:TE}{neg:Bool}(h2:zBs X.K tk fk):zBQ X.K (tB (if neg then zBt tk M8 else L2.tDIn tk M8)) (zBy neg i fk):=by
 intro G0 H0 G ω σ H b Q ow e kk;obtain⟨c,q2,e⟩:=bnd e;obtain⟨⟨ks,ds⟩,q1,e⟩:=bnd e;cases c with
 | int k=>
  have fin:∀(u:V)G1 H1,Ext G H G1 H1->u=.int k->∃p vs,σ[i]?=some eP/\zAg H1 p u (Xe ks vs k)/\(Xe ks vs k).isSome=(Xe ks ds k).isSome:=λu G1 H1 x1 hu=>by
   subst hu;obtain⟨p,vs,r1,r2,r3,r4⟩:=ow.dic q1;have hl:ks.length=vs.length:=by rw[r3];exact r4.len
   have g:=qbn (k:=lh) acd;rw[q0b hl]at g;exact⟨p,vs,r1,g,XN.isVal k r4⟩
  cases neg with
  | true=>
   refine h2 G0 H0 G ω σ H _ _ ow q2 λu G1 H1 x1 y1=>?_;obtain⟨p,vs,r1,g,hs⟩:=fin u G1 H1 x1 y1;refine KA;cases e;rw[hs];exact kk G1 H1 x1
  | false=>
   refine h2 G0 H0 G ω σ H _ _ ow q2 λu G1 H1 x1 y1=>?_;obtain⟨p,vs,r1,g,hs⟩:=fin u G1 H1 x1 y1;refine KA;cases e;rw[hs];exact kk G1 H1 x1
 | _=>cases e
theorem q80(hu:fX)(hk:Qd)(ho:jv)(hb:uE .NotIn o=false:=by rfl):XT X (.Compare k [.NotIn] [o] pos) (zBy true i fk):=by
 obtain⟨tk,h1,h2⟩:=hk;exact⟨_,qjf (qet (hu1 hu) h1 ho) hb,qhI (neg:=true) h2⟩
end
section
variable{X:Cx}{o k e:vW}{pos pos' dpos:Pos}{i:Nat}{fk fv:FD}
noncomputable def zBp(i:Nat)(fk fv:FD):FS:=λω=>(fk ω).bind λc=>(fv ω).bind λd=>match c with
 | .int k=>some m7
 | _=>none
theorem qfY{x:Str}(hN:X.N.Nodup)(hi:X.N[i]?=some x)(hx:eQ)(hk:Qd)(hv:XD X e fv)(hs:v8 Qn Oq pos.line X.env=pure false:=by rfl)(hf:aL:=by first|exact .inl rfl|exact .inr rfl|assumption):
  XS X (.Assign [cF] Qn pos) (zBp i fk fv):=by
 obtain⟨tk,h1,h2⟩:=hk;obtain⟨tv,h3,h4⟩:=hv;refine⟨_,q0d hN hi hx (qhR (qfO h1 h3 qiW) rfl rfl (by simp) (by show 1<=15;decide)) hs hf,l5⟩;obtain⟨c,q1,e⟩:=bnd e;obtain⟨d,q2,e⟩:=bnd e;cases c with
 | int k=>
  cases e;intro p hp;have x0:=Ext.hide ow.gh hp Jr;have o1:=ow.keep x0;refine h2 G0 H0 G ω σ _ _ _ o1 q1 λu G1 H1 x1 y1=>?_;cases (show u=.int k from y1);have o2:=o1.keep x1;refine h4 G0 H0 G1 ω σ H1 d _ o2 q2 λv G2 H2 x2 y2=>?_;have o3:=o2.keep x2;have hp2:H2 p=some Jr:=x2.hh _ _ (x1.hh _ _ qe);have gp1:G1 p=none:=x1.new p aaZ (by rw[qe];exact λz=>by cases z);have gp2:G2 p=none:=x2.new p gp1 (by rw[x1.hh _ _ qe];exact λz=>by cases z);have h0p:H0 p=none:=ow.ext.hh.free hp;refine⟨hp2,[(AF,v)],rfl,by show 1<=15;decide,?_⟩;have em:zAK [] [(lh,v)]=kvsOf [k] [v]:=by
   show putK [] lh v=_;unfold putK;rw[vG (by simp)];rfl
  rw[em];have ext4:Ext G0 H0.hp G2 Io:=⟨o3.ext.gg,Xg o3.ext.gh gp2 _,Xg o3.ext.hh h0p _,o3.ext.new⟩;have np:∀(j:Nat)ds',ω[j]?=some (some (.ow ds'))->∀l vs,σ[j]?=some Cu->H2 l=some gP->l≠p:=λj ds' hj l vs _ h z=>by rw[z,hp2]at h;cases h
  have npd:∀(j:Nat)ks' es,ω[j]?=some Fv->σ[j]?≠some eP:=λj ks' es hj z=>by
   obtain⟨q,us,w1,w2,_⟩:=ow.od j ks' es hj;rw[w1]at z;cases z;rw[hp]at w2;cases w2
  have o4:Own X.K G0 H0 G2 ω σ Io:=by
   refine⟨ext4,o3.len,o3.sh,λj ds' hj=>?_,o3.nd,aaS,o3.pw.upd (o3.pw.ne_ob λvs z=>by rw[hp2]at z;cases z)⟩
   ·obtain⟨l,vs,w1,w2,w3,w4,w5⟩:=o3.ow j ds' hj
    exact⟨l,vs,w1,by rw[qd (np j ds' hj l vs w1 w2)];exact w2,w3,w4,w5⟩
   ·obtain⟨q,us,w1,w2,w3,w4,w5,w6,w7⟩:=o3.od j ks' es hj
    have nq:q≠p:=λz=>npd j ks' es hj (by rw[<- z];exact w1);exact⟨q,us,w1,by rw[qd nq];exact w2,w3,w4,w5,w6,w7⟩
  exact kk G2 _ _ (o4.setOd (ks:=[k]) (ds:=[d]) (vs:=[v]) qe gp2 h0p rfl (XN.cons y2 XN.nil) npd) Fo
 | _=>cases e
end
section
open PySem.Spec PyProof.Rows PySem.W
theorem qcA:∀(vs:a0)(ns:af),vs.length=ns.length->(∀(j:Nat)v n,vs[j]?=some v->ns[j]?=some n->∃t,v=.int n t)->uC vs ns
 | [],[],_,_=>.nil
 | [],_::_,h,_=>by simp at h
 | _::_,[],h,_=>by simp at h
 | v::vs,n::ns,h,f=>by
  obtain⟨t,rfl⟩:=f 0 v n rfl rfl;exact .cons _ _ (qcA vs ns ⇑h λj a b e1 e2=>f (j+1) a b ⇑e1 ⇑e2)
variable{prog:vU}{w:vZ}{A:vf}{E:vB->vC->Prop}{s:vC}
theorem qaY{a:vH}{kvs:Gi}{ns:af}{Q:aM}(hh:cO)(lo:BA=false)(dd:s.heap.DictOf (Xd prog w) a kvs)(hk:kvs.map (·.1)=ns.map Hv)(h64:Q3)(h:∀(h1 h':vk)(tk:Nat)(vs:a0)(ys:af)(n:Nat),(∀b o,s.heap.get? b=some o->h1.get? b=some o)->(∀b o,h1.get? b=some o->h'.get? b=some o)->h'.get? h1.objs.size=some Bs->uC vs ys->ys.Perm ns->ys.Pairwise (· <= ·)->Q (.ref h1.objs.size) { s with heap:=h',toks:=tk }):
  vP ak A acv Q E s:=by
 obtain⟨ep,hat⟩:=dd.dictAt;have hkl:kvs.length=ns.length:=by have:=v7 xv hk;simpa using this
 refine Calls.call_function_entry tt tV tW (sO _) ?_;unfold Builtin.«sorted»;refine vA (m:=sK "sorted" 1 1 _) fF;refine vA (kdu_collect (A:=A.in1) (kdl_dict (knd:=Xd prog w) (kvs:=kvs) (ep:=ep) lo) hh hat (by rw[hkl];exact yD (ye h64) (by decide)) λh1 tk acc hk1 hacc=>?_);have y1:uC acc.toList ns:=by
  refine qcA _ _ (by rw[zP,hacc.1,hkl]) λj v n e1 e2=>?_;obtain⟨k,x,hx,hi⟩:=hacc.2 j v (by rw[<- zb];exact e1);have e3:(kvs.map (·.1))[j]?=some k:=by rw[ze,hx];rfl
  rw[hk,ze,e2]at e3;cases e3;rcases qK (k:=nu) hi with⟨i,t,e4,rfl⟩|⟨x,t,e4,_⟩
  ·cases e4;exact Lk
  ·cases e4
 have hlen:acc.toList.length=ns.length:=IntsAre.length y1;refine vA (uk ?_ (yD (by rw[hlen];exact ye h64) (by decide)));generalize acc.toList=vs at y1 hlen;have hoL:(h1.push dY).get? h1.objs.size=some dY:=zY _ rfl;refine vA (vn (vq slot_list_sort ⟨_,hoL,rfl⟩ entry_list_sort (list_sort_tree hoL y1 (by rw[hlen];exact h64) λout ns' a1 a2 a3=>cn) (tu _)));obtain⟨n,hn⟩:=sortedHeap_at (vs:=vs) (out:=out) hoL;refine vJ ⟨_,rfl,h h1 _ tk out.toList ns' n hk1 (λb o e1=>?_) ?_ a1 a2 a3⟩
 ·rw[sortedHeap_old (zx UA) (by rw[yh];exact yX UA)]
  exact zG _ e1
 ·rw[xI];exact hn
end
def rSortD:List V->Hp->VK->Prop:=λxs H Q=>∃p kvs ns,xs=Rh/\Rd H p ci/\kvs.map (·.1)=ns.map Hv/\ns.length<64/\∀l,H l=none->Q cX Fs
section
variable{X:Cx}{o:vW}{i:Nat}
theorem qd5(hc:cE):WW X fE rSortD:=by
 intro pins s σ H xs us Q I r h;obtain⟨p,kvs,ns,rfl,hp,hk,hz,q⟩:=h;obtain⟨u,rfl,rx⟩:=vals1 r;cases rx;obtain⟨_,lo,vs,rel,dd⟩:=q4x I.hok hp;refine qaY iC lo dd (by rw[<- rel.keys];exact hk) hz λh1 h' tk us ys n k1 k2 g1 a1 a2 a3=>?_;have en:ys=XZ ns:=q1a a3 q0C Hg;subst en;have I1:Inv X pins σ H { s with heap:=h1,toks:=tk }:=I.kept k1;have hsl:(XZ ns).length<=sizeLine:=by rw[q59];exact yD (ye hz) (by decide)
 have I2:=I1.laid (a:=h1.objs.size) (o:=.lst gK) (t':=tk) (h':=h') k2 bZ
  (show Xh X.prog X.w _ h' _ RH from ⟨by rw[zA];exact hsl,us,n,q1v a1,g1⟩)
 exact⟨SG,_,I2,rfl,q _ oz⟩
noncomputable def zBk(i:Nat):FE:=λω=>(zAF ω[i]?).bind λp=>if p.1.length<64 then some MQ else none
theorem qgk{p q:Pos}(hc:cE)(hg:Cl)(hm:kg)(ho:jv)(he:vK [o] X.env=(false,jG)::vK [] X.env:=by rfl)(hpl:(vj q bF).any (·.1)=false:=by rfl):XE X (.Call nA [o] [] q) (zBk i):=by
 refine⟨_,q1Q (qd5 hc) hg hm q2i (qA ho qx he) (by decide) (by decide) he hpl,Jy⟩;obtain⟨⟨ks,ds⟩,q1,e⟩:=bnd e;obtain⟨p,vs,r1,r2,r3,r4⟩:=ow.dic q1
 by_cases hz:ks.length<64
 ·have e:(if ks.length<64 then some (R.fr Gx)else none)=some r:=e
  rw[vF hz]at e;cases e;refine⟨bu,r1,p,_,ks,rfl,r2,q7e (by rw[r3];exact r4.len),hz,Vz⟩;have x2:=Ext.hide ow.gh hl (.lst ((XZ ks).map V.int));exact k _ G _ x2 ⟨l,_,rfl,hl,ow.gh.free hl,qe,JV⟩
 ·have e:(if ks.length<64 then some (R.fr Gx)else none)=some r:=e
  rw[vG hz]at e;cases e
noncomputable def zCT(i:Nat):FM:=λω=>match ω[i]? with
 | some (some (.ow ds))=>(ds[ds.length-1]?).map λd=>E9
 | _=>none
theorem XN.dropLast{K:zC}{H:Hp}{ds:aW}{vs:a8}(h:AE):XN K H ds.dropLast vs.dropLast:=by
 rw[Zq,Zq,h.len];exact h.take _
theorem qiL{apos cpos:Pos}(ho:jv)(hbase:JG:=by rfl)(hline:dQ=true:=by rfl):
  XM X (.Call Nc [] [] cpos) (zCT i):=by
 refine⟨_,qaA PySem.F.plainAttrs_list PySem.F.slot_list_pop PySem.F.type_list_pop qah ho hbase hline,GX⟩;unfold zCT at e
 split at e
 ·rename_i ds q2
  obtain⟨d1,hd,e⟩:=mpd e;cases e;obtain⟨l,vs,r1,r2,r3,r4,r5⟩:=ow.ow i ds q2;obtain⟨y,hy,ry⟩:=r5.get hd;refine⟨.ref l,r1,.inl DI,l,vs,y,rfl,rfl,r2,by rw[<- r5.len];exact hy,k y G _ (ow.mut q2 r1 r2 r3 r4 r5.dropLast) gC ry⟩
 ·cases e
end
noncomputable def Wz:List Int->List af->Int->Int->List af
 | k::ks,x::xs,a,b=>if k=a then QK::xs else x::Wz ks xs a b
 | _,xs,_,_=>xs
theorem q6C:∀(ks:af)(xs:ce)(a b:Int),(Wz ks xs a b).length=xs.length
 | [],_,_,_=>rfl
 | _::_,[],_,_=>rfl
 | k::ks,x::xs,a,b=>by
  unfold Wz
  by_cases z:k=a
  ·rw[fQ];rfl
  ·rw[fI,zJ,zJ,q6C ks xs a b]
structure Tab (G H0 H:Hp) (p:vH) (ks:List Int) (ls:List vH) (xss:List (List Int)):Prop where
 dict:H p=some (.dK (kvsOf ks (ls.map V.ref)))
 gp:G p=none
 hp:H0 p=none
 len:ks.length=ls.length
 len2:ls.length=xss.length
 lst:∀(j:Nat)l xs,ls[j]?=some l->xss[j]?=some xs->H l=some (.lst (xs.map V.int))
 gl:∀l∈ls,G l=none/\H0 l=none
 nd:ls.Nodup
theorem Tab.inn{G H0 H:Hp}{p:vH}{ks:af}{ls:dh}{xss:ce}(T:c9){l:vH}(h:l∈ls):∃xs:List Int,H l=some DZ:=by
 obtain⟨j,hj,rfl⟩:=zf.mp h;have hj2:j<xss.length:=by rw[<- T.len2];exact hj
 exact⟨xss[j],T.lst j _ _ KF (zD hj2)⟩
theorem Tab.pl{G H0 H:Hp}{p:vH}{ks:af}{ls:dh}{xss:ce}(T:c9):p∉ls:=λh=>by
 obtain⟨xs,e⟩:=T.inn h;rw[T.dict]at e;cases e
theorem Tab.keep{G G' H0 H H':Hp}{p:vH}{ks:af}{ls:dh}{xss:ce}(T:c9)(x:Cm):Tab G' H0 H' p ks ls xss :=
 ⟨x.hh _ _ T.dict,x.new p T.gp (by rw[T.dict];exact λz=>by cases z),T.hp,T.len,T.len2,λj l xs h1 h2=>x.hh _ _ (T.lst j l xs h1 h2),λl h=>by
  obtain⟨xs,e⟩:=T.inn h;exact⟨x.new l (T.gl l h).1 (by rw[e];exact λz=>by cases z),(T.gl l h).2⟩,T.nd⟩
theorem qfh:∀{ks:af}{ls:dh}{a:Int},ks.length=ls.length->a∈ks->∃(j:Nat) (l:vH),ks[j]?=some a/\ls[j]?=some l/\Xe ks dC a=some cX/\∀(xss:ce)(b:Int),xss.length=ls.length->∃xs,xss[j]?=some xs/\Wz ks xss a b=xss.set j (xs++[b])
 | [],_,_,_,h=>by simp at h
 | _::_,[],_,h,_=>by simp at h
 | k::ks,l::ls,a,h,ha=>by
  by_cases z:k=a
  ·refine⟨0,l,by rw[z];rfl,rfl,vF z,λxss b hx=>?_⟩
   cases xss with
   | nil=>simp at hx
   | cons x xs=>exact⟨x,rfl,fQ⟩
  ·have ha':a∈ks:=(zH.mp ha).resolve_left λe=>z e.symm
   obtain⟨j,l',e1,e2,e3,e4⟩:=qfh (ks:=ks) (ls:=ls) ⇑h ha';refine⟨j+1,l',e1,e2,?_,λxss b hx=>?_⟩
   ·show (if k=a then _ else _)=_
    rw[fI];exact e3
   ·cases xss with
    | nil=>simp at hx
    | cons x xs=>
     obtain⟨y,h1,h2⟩:=e4 xs b ⇑hx;refine⟨y,h1,?_⟩;show (if k=a then _ else x::Wz ks xs a b)=_;rw[fI,h2];rfl
theorem Tab.app{G H0 H:Hp}{p:vH}{ks:af}{ls:dh}{xss:ce}(T:c9){a:Int}(b:Int)(ha:a∈ks):
  ∃(l:vH) (xs:af),l∈ls/\xs∈xss/\Xe ks dC a=some cX/\zAg H p bP Cu/\H l=some DZ/\Tab G H0 (upd H l (.lst ((xs++[b]).map V.int))) p ks ls DA:=by
 obtain⟨j,l,e1,e2,e3,e4⟩:=qfh T.len ha;obtain⟨xs,e5,e6⟩:=e4 xss b T.len2.symm;have hl:l∈ls:=zz e2;have hlp:p≠l:=λz=>T.pl (z▸hl);have g:=zAg.k (k:=nv) T.dict;rw[q0b (by rw[zA];exact T.len),e3]at g;refine⟨l,xs,hl,zz e5,e3,g,aar,?_⟩;rw[e6];refine⟨by rw[qd hlp];exact T.dict,T.gp,T.hp,T.len,by rw[yg];exact T.len2,λi m ys h1 h2=>?_,T.gl,T.nd⟩;rcases qi h2 with⟨rfl,_,rfl⟩|⟨ne,h3⟩
 ·rw[e2]at h1
  cases h1;exact qe
 ·have hm:m≠l:=λz=>by
   subst z;obtain⟨i1,i2⟩:=zj.mp h1;obtain⟨j1,j2⟩:=zj.mp e2;exact ne Ic
  rw[L6];exact T.lst i m ys h1 h3
theorem Own.free{K:zC}{G0:Hp}{H0:Fr}{G:Hp}{ω:WSt}{σ:St}{H:Hp}{q:vH}{ob:HO}(o:bS)(no:OE)(hG:G q=none)(h0:H0 q=none):Own K G0 H0 G ω σ (upd H q ob) :=
 ⟨⟨o.ext.gg,Xg o.ext.gh hG _,Xg o.ext.hh h0 _,o.ext.new⟩,o.len,o.sh,Jw,o.nd,oi,T8⟩
theorem Tab.put{G H0 H:Hp}{p:vH}{ks:af}{ls:dh}{xss:ce}(T:c9){k:Int}{l:vH}(hk:k∉ks)(hl:H l=none)(sg:BF)(s0:Xf H0 H)(hz:JO):
  ∃H4,zCn (upd H l gQ) p kD cX H4/\H4=upd (upd H l gQ) p (.dK (kvsOf FF Qu))/\Tab G H0 H4 p FF (ls++[l]) QJ:=by
 have hpl:p≠l:=λz=>by rw[<- z,T.dict]at hl;cases hl
 have hlen:ks.length=(ls.map V.ref).length:=by rw[zA];exact T.len
 have e:putK pY AF cX=kvsOf FF Qu:=by
  rw[q4T hlen];unfold Wg putA;rw[vG hk,vG hk,zX];rfl
 have d:=zCn.k (H:=upd H l gQ) (a:=p) (kvs:=kvsOf ks dC) (k:=lh) (v:=.ref l) (by rw[qd hpl];exact T.dict) (by rw[q2k hlen,vh];omega);rw[e]at d;refine⟨_,d,rfl,qe,T.gp,T.hp,by rw[zB,zB,T.len];rfl,by rw[zB,zB,T.len2];rfl,λj m xs h1 h2=>?_,λm hm=>?_,?_⟩
 ·rcases yB j ls.length with z|z
  ·rw[zh z]at h1
   rw[zh (by rw[<- T.len2];exact z)]at h2;have e1:=T.lst j m xs h1 h2;have n1:m≠p:=λy=>T.pl (y▸zz h1);have n2:m≠l:=λy=>by rw[y,hl]at e1;cases e1
   rw[qd n1,qd n2];exact e1
  ·rw[zd z]at h1
   rw[zd (by rw[<- T.len2];exact z),<- T.len2]at h2;cases hj:j-ls.length with
   | zero=>
    rw[hj]at h1 h2;cases h1;cases h2;rw[qd (Ne.symm hpl)];exact qe
   | succ n=>rw[hj]at h1;cases h1
 ·rcases zM.mp hm with h|h
  ·exact T.gl m h
  ·cases zU.mp h;exact⟨sg.free hl,s0.free hl⟩
 ·rw[yc]
  refine⟨T.nd,by simp,λa ha b hb z=>?_⟩;cases zU.mp hb;obtain⟨xs,e1⟩:=T.inn ha;rw[z,hl]at e1;cases e1
noncomputable def pairsOf:List D->Option ae
 | []=>some []
 | .tup [.int a,.int b]::r=>(pairsOf r).map λl=>(a,b)::l
 | _=>none
noncomputable def Y9(e:bi):D:=.tup [CB,abL]
theorem q4A:∀{ds:aW}{es:ae},pairsOf ds=some es->ds=es.map Y9
 | [],_,h=>by cases h;rfl
 | d::r,es,h=>by
  unfold pairsOf at h
  split at h
  ·rename_i e;cases e
  ·rename_i e
   cases e;obtain⟨l,h1,h2⟩:=mpd h;subst h2;rw[q4A h1];rfl
  ·cases h
theorem q3D:∀es:List bi,pairsOf Kk=some es
 | []=>rfl
 | e::r=>by show (pairsOf (r.map Y9)).map _=_;rw[q3D r];rfl
noncomputable def Wb(ks:af)(xss:ce)(e:bi):List af:=Wz ks (Wz ks xss e.1 e.2) e.2 e.1
noncomputable def nbT(ts:af)(es:ae):List af:=es.foldl Vg JH
noncomputable def nbM(a b:aW):Option D:=(intsOf a).bind λts=>(pairsOf b).bind λes=>if ts.Nodup/\(∀e∈es,e.1∈ts/\e.2∈ts)/\ts.length<=1000/\es.length<=1000 then some (.dic ts ((nbT ts es).map λxs=>.lst iF))else none
noncomputable def sNb:FS:=λω=>match ω with
 | [↥(.lst a),↥(.lst b),none,none,none]=>(nbM a b).map λd=>mR
 | _=>none
theorem zCr{a b:D}{x:eK}:WN [↥a,↥b,none,none,x.map W.sh]:=by
 intro i w e
 match i,e with
 | 0,e=>cases e;exact bw
 | 1,e=>cases e;exact bw
 | 2,e=>cases e
 | 3,e=>cases e
 | 4,e=>
  cases x with
  | none=>cases e
  | some d=>cases e;exact SU
 | i+5,e=>simp at e
theorem Own.other{K:zC}{G0:Hp}{H0:Fr}{G:Hp}{ω:WSt}{σ:St}{H:Hp}{i:Nat}{v:Ad}(o:bS)(no:OE)(hi:∀w,ω[i]?≠some (some w)):Own K G0 H0 G ω (σ.set i v) H :=
 ⟨o.ext,by rw[yg];exact o.len,λj d h=>by
  obtain⟨u,h1,h2⟩:=o.sh j d h;exact⟨u,by rw[zN (λz=>hi _ (z▸h))];exact h1,h2⟩,λi ds h=>vO h rZ,λi j ds es l h=>vO h rZ,λi ks ds h=>vO h aa1,WC.no no.pw⟩
theorem q3U(n:Nat):∀(ks:af)(xss:ce)(a b:Int),(∀x∈xss,x.length<=n)->∀x∈Wz ks xss a b,x.length<=n+1
 | [],xss,_,_,h,x,hx=>wP (h x hx)
 | _::_,[],_,_,h,x,hx=>by cases hx
 | k::ks,y::xss,a,b,h,x,hx=>by
  unfold Wz at hx
  by_cases z:k=a
  ·rw[fQ]at hx
   rcases zH.mp hx with rfl|hx
   ·have:=h y zE
    rw[zB,zR];omega
   ·exact wP (h x jT)
  ·rw[fI]at hx
   rcases zH.mp hx with rfl|hx
   ·exact wP (h _ zE)
   ·exact q3U n ks xss a b (λx h'=>h x (zF _ h')) x hx
theorem Tab.told{K:zC}{G0 G:Hp}{H0:Fr}{H:Hp}{ω:WSt}{σ:St}{p:vH}{ks:af}{ls:dh}{xss:ce}(T:c9)(o:bS)(no:OE)(ob:Obj):
  ∃G',Xf G G'/\Own K G0 H0 G' ω σ (upd H p HA)/\Rep K G' (.dic ks (xss.map λxs=>.lst iF)) bu:=by
 obtain⟨H',hH⟩:∃H':Hp,H'=upd H p HA:=bw;rw[<- hH];have hp':H' p=some HA:=by rw[hH];exact qe
 have hn':∀b,b≠p->H' b=H b:=λb h=>by rw[hH];exact qd h
 let G':Hp:=λb=>if b=p\/b∈ls then H' b else G b
 have hin:∀b,NO->G' b=H' b:=λb h=>vF h;have hout:∀b,¬NO->G' b=G b:=λb h=>vG h;have gn:∀b,NO->G b=none/\H0 b=none:=λb h=>by
  rcases h with rfl|h
  ·exact⟨T.gp,T.hp⟩
  ·exact T.gl b h
 have gg:Xf G G':=λb u z=>by
  by_cases y:b=p\/b∈ls
  ·rw[(gn b y).1]at z;cases z
  ·rw[TJ];exact z
 have gh:Xf G' H':=λb u z=>by
  by_cases y:b=p\/b∈ls
  ·rw[hin b y]at z;exact z
  ·rw[TJ]at z;rw[hn' b λw=>y (.inl w)];exact o.gh b u z
 have hh:Xf H0.hp H':=λb u z=>by
  rw[hn' b λw=>by rw[w,T.hp]at z;cases z];exact o.ext.hh b u z
 refine⟨G',gg,⟨⟨o.ext.gg.trans gg,gh,hh,HG⟩,o.len,Lp,Jw,o.nd,oi,T8⟩,p,ls.map V.ref,rfl,⟨ob,by rw[hin p bA];exact hp'⟩,by rw[zA,<- T.len2];exact T.len,?_⟩
 ·by_cases y:b=p\/b∈ls
  ·exact vO (gn b y).2 z2
  ·rw[TJ];exact o.ext.new b z1 z2
 ·obtain⟨v,h1,h2⟩:=o.sh i d h
  exact⟨v,h1,h2.mono gg⟩
 ·refine q53 (by rw[zA];exact T.len2.symm) λj d t h1 h2=>?_
  rw[ze]at h1;cases q:xss[j]? with
  | none=>rw[q]at h1;cases h1
  | some xs=>
   rw[q]at h1;cases h1;have hl:=T.lst j t xs h2 q;exact⟨t,_,rfl,by rw[hin t (.inr (zz h2)),hn' t λw=>by rw[w,T.dict]at hl;cases hl];exact hl,XN.ints xs⟩
theorem qff{K:zC}{ta tb:TE}{g0 g1:FD}(k2:zBs K ta g0)(k4:zBs K tb g1){G0:Hp}{H0:Fr}{G:Hp}{ω:WSt}{σ:St}{H:Hp}{p:vH}{ks:af}{ls:dh}{xss:ce}{a b:Int}{Q:VK}(o:bS)(no:OE)(hσ:σ[2]?=some eP)(T:c9)(h0:g0 ω=some bP)(h1:g1 ω=some dy)(ha:a∈ks)(hz:∀xs∈xss,xs.length<1000000)(h:∀G' H',Own K G0 H0 G' ω σ H'->Xf G G'->Tab G' H0 H' p ks ls DA->Q .non H'):tBM K "list" WV (zC0 Fa ta) (zAG tb zAz) σ H Q:=by
 refine⟨bu,hσ,k2 G0 H0 G ω σ H _ _ o h0 λu G1 H1 x1 y1=>?_⟩;cases (show u=.int a from y1);have o1:=o.keep x1;have T1:=T.keep x1;obtain⟨l,xs,m1,m2,m3,m4,m5,_⟩:=T1.app b ha;refine⟨p,cX,rfl,m4,.inl ⟨rfl,_,SqL.of m5⟩,k4 G0 H0 G1 ω σ H1 _ _ o1 h1 λu G2 H2 x2 y2=>?_⟩;cases (show u=.int b from y2);have o2:=o1.keep x2;have T2:=T1.keep x2;obtain⟨l',xs',n1,n2,n3,n4,n5,n6⟩:=T2.app b ha;rw[m3]at n3;cases n3;refine⟨l,_,.int b,rfl,rfl,n5,by rw[zA,vh];have:=hz xs' n2;omega,?_⟩;rw[show xs'.map V.int++[V.int b]=(xs'++[b]).map V.int by rw[zX];rfl];exact h G2 _ CM Fo n6
theorem qfl{a b:vW}{p:Pos}{n:Str}{env:Env}(m:Sem vB):uF (.Subscript a b p) n env m=m:=rfl
section
variable{X:Cx}
theorem qkl{x2 x3 x4:Str}{o0 o1 o2 o3 o4 o4b e0 e1 e0b e1b e0':vW}{q1 q2 q3 q4 q5 q6 q7 q8 q9 q10 q11 q12 q13 q14 q15 a1 a2 c1 c2:Pos}{g0 g1:FD}(hu:fX)(hp:j9)(hc:cE)(hN:X.N.Nodup)(i2:X.N[2]?=some x2)(i3:X.N[3]?=some x3)(i4:X.N[4]?=some x4)(l2:aat)(l3:aas)(l4:Loc X.env.scope x4)(f2:Aa)(f3:sy)(f4:X.fn x4=true\/X.env.scope.names.lookup x4=some .local)(h0:PE X o0 (Xu 0))(h1:PE X o1 TX)(h2:PE X o2 Fa)(h2':PE X o4 Fa)(h2b:PE X o4b Fa)(h3:PE X o3 (Xu 3))(h5:PE X e0' Fa)(ha:XD X e0 g0)(hb:XD X e1 g1)(hab:XD X e0b g0)(hbb:XD X e1b g1)(hg0:∀(ω:WSt)e,ω[4]?=some Fu->g0 ω=some CB)(hg1:∀(ω:WSt)e,ω[4]?=some Fu->g1 ω=some abL)(s1:v8 Cq (some (.Name x2 q2)) q3.line X.env=pure false:=by rfl)(s2:v8 HZ (some SJ) q6.line X.env=pure false:=by rfl)(n0:NoSl e0:=by intro _ _;rfl)(n1:NoSl e1b:=by intro _ _;rfl)(w1:((vj c1 aaU).all (λx=>!x.1)&&(uI c1 j8).all gE&&decide (([e1]:List vW).length+([]:List uH).length+(if ([]:List uH).isEmpty then 0 else 1)<30))=true:=by rfl)(w2:((vj c2 (vK [e0b] X.env)).all (λx=>!x.1)&&(uI c2 j8).all gE&&decide (([e0b]:List vW).length+([]:List uH).length+(if ([]:List uH).isEmpty then 0 else 1)<30))=true:=by rfl)(z1:(a1.endLine==c1.line)=true:=by rfl)(z2:Od:=by rfl)(t1:Bu:=by rfl)(t2:vK [e0b] X.env=(false,eval e0b X.env)::vK [] X.env:=by rfl)(p1:(vj c1 bF).any (·.1)=false:=by rfl)(p2:(vj c2 bF).any (·.1)=false:=by rfl)(v1:v8 nO none q9.line X.env=pure false:=by rfl)(v2:v8 m8 none q10.line X.env=pure false:=by rfl)(y1:∀x,v9 o0 X.env x=pure x:=by intro _;rfl)(y2:∀x,v9 o1 X.env x=pure x:=by intro _;rfl):
  XSs X [.Assign [.Name x2 q2] Cq q3,.For (.Name x3 q11) o0 [.Assign [SJ] HZ q6] [] q12,
   .For (.Name x4 q13) o1 [.Expr nO q9,.Expr m8 q10] [] q14,.Return (some e0') q15] sNb:=by
 obtain⟨ta,k1,k2⟩:=ha;obtain⟨tb,k3,k4⟩:=hb;obtain⟨ta',k1',k2'⟩:=hab;obtain⟨tb',k3',k4'⟩:=hbb;have hu:=hu1 hu;refine⟨_,qI (q0d hN i2 l2 q6g s1 f2) (qI (q6S hp hc (q7T h0) UP (q0K (qbP hu h2 h3 Je s2)) y1)
  (qI (q6S hp hc (q7T h1) (q42 hN i4 l4 f4) (qI (q17 (q2f PySem.F.plainAttrs_list PySem.F.slot_list_append PySem.F.type_list_append q0T (q5F hu h2' k1 n0) (qA k3 qx t1) (qfl _) w1 z1 t1 p1) v1)
   (q0K (q17 (q2f PySem.F.plainAttrs_list PySem.F.slot_list_append PySem.F.type_list_append q0T (q5F hu h2b k3' n1) (qA k1' qx t2) (qfl _) w2 z2 t2 p2) v2))) y2) (q7f 2 (q0K (q5l h5))))),λG0 H0 G ω σ H out ω' E ow e kk=>?_⟩
 unfold sNb at e
 split at e
 case h_2=>cases e
 case h_1 _ a b=>
 obtain⟨d,e2,e3⟩:=mpd e;clear e;cases e3;obtain⟨ts,e4,e5⟩:=bnd e2;obtain⟨es,e6,e7⟩:=bnd e5;clear e2 e5
 by_cases cond:ts.Nodup/\(∀e∈es,e.1∈ts/\e.2∈ts)/\ts.length<=1000/\es.length<=1000
 case neg=>rw[vG cond]at e7;cases e7
 rw[vF cond]at e7;cases e7;obtain⟨cd1,cd2,cd3,cd4⟩:=cond;have ha':=q0R e4;have hb':=q4A e6;subst ha' hb';clear e4 e6;have no:WN fY:=zCr (x:=none);have hlen:σ.length=5:=ow.len.symm;obtain⟨v0,r0,A0,vs0,rfl,r1,r2⟩:=ow.sh 0 _ rfl;obtain⟨v1,r3,A1,vs1,rfl,r4,r5⟩:=ow.sh 1 _ rfl;have hvs0:=r2.of_ints;subst hvs0;intro p hpn;have o1:Own X.K G0 H0 G fY (σ.set 2 eP) kY:=(ow.free no aci Tv).other no λw z=>by cases z
 have T0:Tab G H0 kY p (ts.take 0) [] ((ts.take 0).map λ_=>[]):=⟨qe,aci,Tv,rfl,rfl,λj l xs h=>(by simp at h),λl h=>(by cases h),xY⟩;refine⟨.ref A0,by rw[zN (by decide)];exact r0,A0,rfl,⟨_,SqL.of ack⟩,λn m σ2 H2=>∃ls,Own X.K G0 H0 G fY σ2 H2/\σ2[2]?=some eP/\Tab G H0 H2 p (ts.take n) ls ((ts.take n).map λ_=>[])/\n<=ts.length/\m=ts.length-n,
  ⟨_,[],o1,yk (by rw[hlen];decide),T0,B4,rfl⟩,?_⟩
 rintro n m σ2 H2 ⟨ls,o2,s22,T2,hn,rfl⟩
 by_cases hlt:n<ts.length
 ·have hq:=o2.gh _ _ r1
  refine .inr ⟨⟨_,.int ts[n],SqL.of hq,by rw[ze,GB];rfl⟩,λσ3 H3=>∃ls,Own X.K G0 H0 G fY σ3 H3/\σ3[2]?=some eP/\Tab G H0 H3 p (ts.take (n+1)) ls ((ts.take (n+1)).map λ_=>[]),
   λσ3 H3 ⟨ls,b1,b2,b3⟩=>⟨ts.length-(n+1),∅,ls,b1,b2,b3,hlt,rfl⟩,λy H3 hy=>?_⟩
  obtain⟨rfl,hy⟩:=hy;have hy:=hy _ M9;rw[ze,GB]at hy;cases hy;have hl2:σ2.length=5:=o2.len.symm;refine⟨by show 0<=sizeLine;exact yE _,λl hl=>?_⟩;refine⟨.ref p,by rw[zN (by decide)];exact s22,.int ts[n],yk (by rw[hl2];decide),?_⟩;have nk:ts[n]∉ts.take n:=λz=>by
   obtain⟨j,hj,ej⟩:=zf.mp z;rw[xM]at ej;have hj':j<n:=by rw[zg]at hj;omega
   have:=(wU cd1).mp ej;omega
  obtain⟨H4,d1,d2,T4⟩:=T2.put nk hl o2.gh o2.ext.hh (by rw[zg];omega);refine⟨p,H4,rfl,d1,ls++[l],?_,by rw[zN (by decide)];exact s22,?_⟩
  ·subst d2
   exact((o2.free no (o2.gh.free hl) (o2.ext.hh.free hl)).free no T2.gp T2.hp).other no λw z=>by cases z
  ·rw[(ZN hlt).symm,zX]
   exact T4
 ·have en:n=ts.length:=∅
  subst en;rw[wV]at T2;refine .inl ⟨⟨_,SqL.of (o2.gh _ _ r1),by rw[zA];exact zK _⟩,?_⟩;obtain⟨v1',r3',A1',vs1',rfl,r4',r5'⟩:=o2.sh 1 _ rfl;have hl5:es.length=vs1'.length:=by have:=r5'.len;rw[zA]at this;exact this
  refine⟨.ref A1',r3',A1',rfl,⟨_,SqL.of (o2.gh _ _ r4')⟩,λn m σ3 H3=>∃G3 x4,Own X.K G0 H0 G3 lG σ3 H3/\Xf G G3/\σ3[2]?=some eP/\Tab G3 H0 H3 p ts ls ((es.take n).foldl Vg JH) /\
   (∀xs∈(es.take n).foldl (Wb ts) (ts.map λ_=>[]),xs.length<=2*n)/\n<=es.length/\m=es.length-n,
   ⟨_,G,none,o2,Xf.refl _,s22,T2,λxs hx=>by obtain⟨_,_,rfl⟩:=zu.mp hx;exact zK _,yE _,rfl⟩,?_⟩
  rintro n m σ3 H3 ⟨G3,x4,o3,g3,s32,T3,b3,hn3,rfl⟩
  by_cases hlt3:n<es.length
  ·have hq3:=o3.gh _ _ (g3 _ _ r4')
   have hlv:n<vs1'.length:=by rw[<- hl5];exact hlt3
   refine .inr ⟨⟨_,vs1'[n],SqL.of hq3,zD hlv⟩,λσ4 H4=>∃G4 x4,Own X.K G0 H0 G4 lG σ4 H4/\Xf G G4/\σ4[2]?=some eP/\Tab G4 H0 H4 p ts ls ((es.take (n+1)).foldl Vg JH) /\
    (∀xs∈(es.take (n+1)).foldl (Wb ts) (ts.map λ_=>[]),xs.length<=2*(n+1)),
    λσ4 H4 ⟨G4,x4,b1,b2,b4,b5,b6⟩=>⟨es.length-(n+1),∅,G4,x4,b1,b2,b4,b5,b6,hlt3,rfl⟩,λy H4 hy=>?_⟩
   obtain⟨rfl,hy⟩:=hy;have hy:=hy _ (SqL.of hq3);rw[zD hlv]at hy;cases hy;have hd:(es.map Y9)[n]?=some (Y9 es[n]):=by rw[ze,zD hlt3];rfl
   obtain⟨v,hv1,hv2⟩:=r5'.get hd;rw[zD hlv]at hv1;cases hv1;have hl3:σ3.length=5:=o3.len.symm;have o4:Own X.K G0 H0 G3 [Ft,bR,none,none,↥(Y9 es[n])] (σ3.set 4 (some vs1'[n])) H4:=o3.setSh (i:=4) (hv2.mono g3);have no4:WN [Ft,bR,none,none,↥(Y9 es[n])]:=zCr (x:=some (Y9 es[n]));have s42:(σ3.set 4 (some vs1'[n]))[2]?=some eP:=by rw[zN (by decide)];exact s32
   obtain⟨in1,in2⟩:=cd2 es[n] (yQ hlt3);refine qff k2 k4 o4 no4 s42 T3 (hg0 _ es[n] rfl) (hg1 _ es[n] rfl) in1 (λxs hx=>by have:=b3 xs hx;omega) λG5 H5 o5 g5 T5=>?_;have b5:=q3U (2*n) ts _ es[n].1 es[n].2 b3;refine qff k4' k2' o5 no4 s42 T5 (hg1 _ es[n] rfl) (hg0 _ es[n] rfl) in2 (λxs hx=>by have:=b5 xs hx;omega) λG6 H6 o6 g6 T6=>?_;have b6:=q3U (2*n+1) ts _ es[n].2 es[n].1 b5;have et:es.take (n+1)=es.take n++[es[n]]:=(ZN hlt3).symm;refine⟨G6,some (Y9 es[n]),o6,(g3.trans g5).trans g6,s42,?_,?_⟩
   ·rw[et,ZJ];exact T6
   ·rw[et,ZJ]
    intro xs hx;have:=b6 xs hx;omega
  ·have en3:n=es.length:=∅
   subst en3;rw[wV]at T3;refine .inl ⟨⟨_,SqL.of (o3.gh _ _ (g3 _ _ r4')),by rw[hl5];exact zK _⟩,?_⟩;have no3:WN lG:=zCr;refine⟨p,_,s32,T3.dict,λob=>?_⟩;obtain⟨G',g',o',rp⟩:=T3.told o3 no3 ob;generalize upd H3 p (.frz ob _)=H4 at o' ⊢;refine⟨bu,s32,?_⟩;have oF:Own X.K G0 H0 G' fY σ3 H4:=by
    refine⟨o'.ext,o'.len,Lp,Jw,λi j ds es l h=>vO h rZ,oi,T8⟩
    match i,h with
    | 0,h=>exact o'.sh 0 d h
    | 1,h=>exact o'.sh 1 d h
    | 2,h=>cases h
    | 3,h=>cases h
    | 4,h=>cases h
    | i+5,h=>simp at h
   exact kk G' σ3 H4 oF (g3.trans g') bu rp
end
theorem qjA{ω:WSt}{e:bi}(h:ω[4]?=some ↥(Y9 e)):dOf MA ω=some CB:=by
 unfold dOf XB vOf Y3 fC;rw[h];rfl
theorem qjw{ω:WSt}{e:bi}(h:ω[4]?=some ↥(Y9 e)):dOf MB ω=some abL:=by
 unfold dOf XB vOf Y3 fC;rw[h];rfl
noncomputable def zCh(i:Nat)(ω:WSt)(c d:eK):Option dG:=c.bind λc=>d.bind λd=>match c with
 | .int k=>some m7
 | _=>none
noncomputable def dsetS(i:Nat)(ω:WSt)(v c:eK)(w:mY):Option dG:=v.bind λd=>c.bind λc=>match c,w with
 | .int k,some (some (.od ks ds))=>if ks.length<1000000 then some iZ else none
 | _,_=>none
noncomputable def dgetR(o:Option At)(c:eK):Option R:=o.bind λp=>c.bind λc=>match c with
 | .int k=>(Xe p.1 p.2 k).map R.sh
 | _=>none
noncomputable def dhasT(neg:Bool)(c:eK)(o:Option At):Option Bool:=c.bind λc=>o.bind λp=>match c with
 | .int k=>some (if neg then !(Xe p.1 p.2 k).isSome else (Xe p.1 p.2 k).isSome)
 | _=>none
noncomputable def zCe(o:Option At):Option R:=o.bind λp=>if p.1.length<64 then some MQ else none
noncomputable def pop0(i:Nat)(ω:WSt)(w:mY):Option (D×WSt):=match w with
 | some (some (.ow ds))=>(ds[ds.length-1]?).map λd=>E9
 | _=>none
noncomputable def zCo(j i:Nat)(ω:WSt)(w:mY):Option dG:=(pop0 i ω w).map λp=>(.nx,p.2.set j V7)
section
variable{ω:WSt}{fk fv:FD}{i j:Nat}{ks:List Int}{ds:List D}{k:Int}{d:D}{neg:Bool}
theorem qe8:zBu i ω=some Vl:=rfl
theorem qcr:zBp i fk fv ω=zCh i ω UZ (fv ω):=rfl
theorem qhf:zCh i ω cV Ct=some m7:=rfl
theorem qf4:zBS i fk fv ω=dsetS i ω (fv ω) UZ ω[i]?:=rfl
theorem qe9:zAW i fk ω=dgetR (zAF ω[i]?) UZ:=rfl
theorem qhA:dgetR VZ cV=(Xe ks ds k).map R.sh:=rfl
theorem qhi:zAF VY=some FC:=rfl
theorem qha:zAF (some ↥De)=some FC:=rfl
theorem qex:zBy neg i fk ω=dhasT neg UZ (zAF ω[i]?):=rfl
theorem qgZ:dhasT true cV VZ=some (!(Xe ks ds k).isSome):=rfl
theorem qct:zBk i ω=zCe (zAF ω[i]?):=rfl
theorem qcu:zAs j (zCT i) ω=zCo j i ω ω[i]?:=rfl
theorem qhq:shrS i ω VY=ω.set i ↥De:=rfl
end
theorem q41{i:Nat}{ω:WSt}{ks:af}{ds:aW}{k:Int}{d:D}(h:JO):dsetS i ω Ct cV VY=some iZ:=vF h
theorem qfJ{ks:af}{ds:aW}(h:ks.length<64):zCe VZ=some (.fr Gx):=vF h
theorem qis{j i:Nat}{ω:WSt}{ds:aW}{d:D}:zCo j i ω (some OZ)=some (.nx,(ω.set i cU).set j ↥d):=by
 unfold zCo pop0;have e1:(ds++[d])[aaJ]?=some d:=by
  rw[zB,zR,YA,zd bZ,wo];rfl
 have e2:(ds++[d]).dropLast=ds:=by simp
 show Z9 _ (((ds++[d])[aaJ]?).map _)=_;rw[e1,e2];rfl
section
variable{X:Cx}{o k e:vW}{pos pos':Pos}{i:Nat}{fk fv:FD}
end
section
variable{X:Cx}{e:vW}{pos pos':Pos}{i:Nat}{fe:FD}
noncomputable def sAug(g:fT)(i:Nat)(fe:FD):FS:=λω=>(fe ω).bind λd=>match d,ω[i]? with
 | .int b,some ↥(.int a)=>some oC
 | _,_=>none
theorem qjm{x:Str}{op:sL}{g:fT}(hop:PIp X op (ipI g))(hN:X.N.Nodup)(hi:X.N[i]?=some x)(hx:eQ)(he:XV X e fe)(hf:aL:=by first|exact .inl rfl|exact .inr rfl|assumption):
  XS X Ob (sAug g i fe):=by
 obtain⟨t,h1,h2⟩:=he;refine⟨_,qkr hN hi hx h1 hop hf,l5⟩;obtain⟨d,q1,e⟩:=bnd e;cases d with
 | int b=>
  split at e
  ·rename_i _ _ _ b' a ek q3
   cases ek;cases e;obtain⟨v,r1,r2⟩:=ow.sh i _ q3;cases (show v=.int a from r2);refine⟨bP,r1,h2 G0 H0 G ω σ H _ _ ow q1 λu G1 H1 x1 y1=>?_⟩;cases y1.int;exact⟨a,b,rfl,rfl,kk G1 _ H1 ((ow.keep x1).setSh (d:=.int (g a b)) (v:=.int (g a b)) rfl) x1.gg⟩
  ·cases e
 | _=>cases e
end
section
open PySem.Spec PyProof.Rows
variable{X:Cx}
end
end Hk
namespace L2
open PySem PySem.Spec PyProof.Rows
end L2
namespace Hk
open PySem L2
noncomputable def augS(g:fT)(i:Nat)(ω:WSt)(v:eK)(w:mY):Option dG:=v.bind λd=>match d,w with
 | .int b,some ↥(.int a)=>some oC
 | _,_=>none
section
variable{ω:WSt}{fk fv:FD}{fa:FA}{i j:Nat}{ds:List D}{a b c:Int}{d:D}{g:Int->Int->Int}
theorem qhj:sAug g i fv ω=augS g i ω (fv ω) ω[i]?:=rfl
theorem qeA:augS g i ω (some dy) (some ↥bP)=some oC:=rfl
end
end Hk
namespace L2
open PySem PySem.Spec PyProof.Rows
noncomputable def Ite(K:zC)(a:vH):It :=
 ⟨λi H=>∃xs x,SqL K H a xs/\xs[i]?=some x,
  λi H x H'=>∃t x1,H t=none/\x=.ref t/\H'=upd H t acO/\∀xs,SqL K H a xs->xs[i]?=some x1,
  λi H=>∃xs,SqL K H a xs/\xs[i]?=none⟩
theorem qea{P:vU}{w:vZ}{K:zC}{elts:iN}{kx}{tpos:Pos}(a e it:vH)(hne:e≠it)(hae:a≠e)(hai:a≠it):
  Turn P w K jF abz [e,it] e (λi h=>(∃old,IsEnum h e it rg old)/\h.IsListIter it a i) where
 mem:=by simp
 obj:=λi h st c hc=>by
  obtain⟨⟨old,s1⟩,⟨o4,e4,c4,d4⟩⟩:=st;simp only[zH,zk,or_false]at hc;rcases hc with rfl|rfl
  ·exact⟨_,s1,λv y=>by cases (show Data.fields _=Data.cell v from y)⟩
  ·exact⟨_,e4,λv y=>by rw[d4]at y;cases y⟩
 keep:=λi h h' st k=>by
  obtain⟨⟨old,s1⟩,s4⟩:=st;exact⟨⟨old,k _ (by simp) _ s1⟩,s4.at λo e=>k _ (by simp) o e⟩
 item:=by
  intro X hP hw hK hc i pins s σ H E I hf st hg;subst hP hw hK;obtain⟨xs,x,hq,hx⟩:=hg;obtain⟨its,rv,p,hz⟩:=I.list hq;obtain⟨u,hu,ru⟩:=rv.get hx;obtain⟨⟨old,s1⟩,s4⟩:=st;have ex:∀c∈[e,it],∃o,s.heap.get? c=some o:=λc hc=>by
   simp only[zH,zk,or_false]at hc;rcases hc with rfl|rfl
   ·exact⟨_,s1⟩
   ·obtain⟨o,e,_⟩:=s4;exact GR
  have nt:∀c∈[e,it],c≠s.heap.objs.size:=λc hc=>by
   obtain⟨o,e⟩:=ex c hc;exact zx Dj
  refine wpAny_pyNext_enum_item s1 s4 p.isList (x:=u) (by simpa using hu) hne λh' a1 a2 a3 a4 hk=>?_;have hn:H s.heap.objs.size=none:=I.hok.fresh bZ;have I1:Inv X pins σ iw { s with heap:=s.heap.push { cls:=.type "tuple", data:=.seq #[.int i s.toks,u] },toks:=s.toks+1 } :=
   I.laid Uz bZ (show Xh X.prog X.w _ _ _ (.tup [gc,x])from ⟨by show 2<=sizeLine;decide,[.int i s.toks,u],.cons bw abM,Fi⟩)
  have hf':∀c∈[e,it],Wo X pins iw c:=λc hc=>by
   obtain⟨f0,f⟩:=hf c hc;exact⟨by rw[qd (nt c hc)];exact f0,f⟩
  have I2:Inv X pins σ iw { s with heap:=h',toks:=s.toks+1 }:=I1.turnedL (λb o hb e=>by
   simp only[zH,zk,or_false,not_or]at hb
   by_cases q:b=s.heap.objs.size
   ·subst q
    rw[iK]at e;cases e;exact a3
   ·have e':s.heap.get? b=some o:=by
     rcases yB b s.heap.objs.size with l|l
     ·obtain⟨z1,z2⟩:=wM.mp e
      refine wM.mpr ⟨?_,z2⟩;rw[<- z1];show s.heap.objs[b]?=(s.heap.objs.push _)[b]?;rw[Zw,vG q]
     ·have:=zS e
      rw[yh]at this;exact vO (by simp only[vH]at *;omega) q
    exact hk b o hb.1 hb.2 e') hf'
  refine⟨_,rfl,wpAny_letOwnedTupleGo_enum a1 λh2 b1 sb=>?_⟩;have I3:Inv X pins σ iw { s with heap:=h2,toks:=s.toks+1 }:=I2.turnedL (λb o hb e=>(sb.2 b (λq=>hb (by simp[q]))).trans e) hf';have hi:((i+1:Nat):Int)=rg+1:=by push_cast;rfl
  refine⟨aD,_,I3,rfl,⟨_,x,hn,rfl,rfl,λxs' q1=>by rw[I.list_inj q1 hq];exact hx⟩,⟨⟨u,by rw[hi];exact b1⟩,a2.extBut sb.extBut (Ne.symm hne)⟩,S8⟩
 done:=by
  intro X hP hw hK hc i pins s σ H E I hf st hg;subst hP hw hK;obtain⟨xs,hq,hx⟩:=hg;obtain⟨its,rv,p,hz⟩:=I.list hq;obtain⟨⟨old,s1⟩,s4⟩:=st;have l1:=rv.length;refine wpAny_pyNext_enum_end iC s1 s4 p.isList ?_ λh' hk=>Ah
  ·rw[wD]at hx;simp;omega
  ·simp only[zH,zk,or_false,not_or]at hb
   exact hk b o hb.2 e
 self:=λ_ _ _ _ _ st h=>by
  obtain⟨⟨old,s1⟩,s4⟩:=st;exact wpAny_pyIter_enum s1 h
noncomputable def iEnum(K:zC)(ta:TA):TI:=λσ H R=>ta σ H λvs H1=>∃a xs,vs=[du]/\SqL K H1 a xs/\R abz H1
theorem qcj{X:Cx}{a:vW}{ta:TA}{p pos tpos:Pos}{elts:iN}{kx}(hg:Lf)(hm:CU)(ha:PA X [a] ta)(hs:BQ:=by rfl):
  PI X jF Ed (iEnum X.K ta):=by
 intro pins s σ H R I h;refine Call_ (q0q I hg hm PyProof.Rows.boot_enumerate (PyProof.Rows.callWith_type1 (thn gF λus s1 ⟨vs,H1,I1,r1,q1⟩=>?_) hs rfl));obtain⟨l,xs,e,hq,q⟩:=q1;subst e;cases r1 with
 | cons r rr=>
  cases rr;cases r;obtain⟨its,rv,p1,hz⟩:=I1.list hq;have hlt:l<s1.heap.objs.size:=by obtain⟨_,_,e,_⟩:=p1;exact zS e
  refine call_enumerate_list p1.isList λh' a1 a2 a3 hk=>?_;refine wpAny_pyIter_enum a1 ?_;refine⟨rE,[rE,s1.heap.objs.size],_,_,H1,rfl,Pn,qea l _ _ (Nat.succ_ne_self _) (zx (yX hlt)) LR,⟨⟨_,a1⟩,a2⟩,λc hc=>?_,q⟩;have hle:s1.heap.objs.size<=c:=by
   simp only[zH,zk,or_false]at hc;simp only[vH]at *;omega
  exact I1.fpOk hle Ug
end L2
namespace Hk
open PySem L2
noncomputable def zAC:Nat->List D->List D
 | i,a::as=>.tup [gc,a]::zAC (i+1) as
 | _,[]=>[]
theorem q54:∀(i:Nat)(as:aW),(zAC i as).length=as.length
 | i,a::as=>by show (zAC (i+1) as).length+1=_;rw[q54];rfl
 | i,[]=>rfl
theorem q8p:∀(k:Nat)(as:aW)(i:Nat)(d:D),(zAC k as)[i]?=some d->∃a,as[i]?=some a/\d=.tup [.int ((k+i:Nat):Int),a]
 | k,a::as,0,d,h=>by cases h;exact⟨a,rfl,rfl⟩
 | k,a::as,i+1,d,h=>by
  obtain⟨b,h1,h2⟩:=q8p (k+1) as i d h;exact⟨b,h1,by rw[h2];congr 4;omega⟩
 | k,[],i,d,h=>by cases h
theorem qe1{K:zC}{G:Hp}{a:vH}{ds:aW}{vs:a8}(h1:Ui)(h2:pj):IterOf K abz G (zAC 0 ds):=by
 have l1:=h2.len;refine⟨Fm,gX,λH s=>⟨vs,K5,?_⟩⟩
 ·rw[q54]at hi
  exact⟨vs,vs[i]'∅,K5,zD _⟩
 ·obtain⟨t,x1,ht,rfl,rfl,y⟩:=hy
  have e1:=y vs Rs;obtain⟨p,f1,rfl⟩:=q8p 0 ds i d hd;obtain⟨v,q1,q2⟩:=h2.get f1;rw[e1]at q1;cases q1;have x2:=Ext.lay s1 ht acO;exact⟨_,x2,⟨t,_,rfl,qe,XN.cons (by show (.int i:V)=.int abP;rw[xU]) (XN.cons (q2.mono JJ) XN.nil)⟩⟩
 ·rw[q54];exact z8 ∅
noncomputable def iEn(g:FA):FI:=λω=>(g ω).bind λds=>match ds with
 | [.lst a]=>some (zAC 0 a)
 | _=>none
theorem qhU{X:Cx}{a:vW}{g:FA}{p pos tpos:Pos}{elts:iN}{kx}(hg:Lf)(hm:CU)(ha:XA X [a] g)(hs:BQ:=by rfl):
  XI X jF Ed (iEn g):=by
 obtain⟨⟨t,h1,h2⟩,_⟩:=ha;refine⟨_,qcj hg hm h1 hs,jW⟩;obtain⟨vs,q,e⟩:=bnd e;refine h2 G0 H0 G ω σ H vs _ o q λus G1 H1 x1 y1=>?_
 match vs,e with
 | [.lst as],e=>
  cases e;obtain⟨v1,r1,rfl,z1,z2⟩:=y1;cases (show r1=[]from z2);obtain⟨a1,ws1,rfl,f1,f2⟩:=z1;exact⟨a1,ws1,rfl,SD,k _ G1 H1 x1 (qe1 f1 f2)⟩
noncomputable def enI(o:AX):Option aW:=o.bind λds=>match ds with
 | [.lst a]=>some (zAC 0 a)
 | _=>none
theorem qh4{fa:FA}{ω:WSt}:iEn fa ω=enI Ml:=rfl
theorem qhE{ds:aW}:enI (some [eS])=some (zAC 0 ds):=rfl
section
open PyProof.Rows PySem.Spec
variable{prog:vU}{w:vZ}{A:vf}{E:vB->vC->Prop}{s:vC}{l:vH}{xs:Array (Int×Tok)}
end
section
variable{X:Cx}
open PyProof.Rows PySem.Spec
end
end Hk
namespace Hk
open PySem PySem.Spec PyProof.Rows L2
section
variable{prog:vU}{w:vZ}{A:vf}{E:vB->vC->Prop}{s:vC}
end
end Hk
namespace L2
open PySem PySem.Spec PyProof.Rows Hk
end L2
namespace Hk
open PySem L2
end Hk
namespace L2
open PySem PySem.Spec PyProof.Rows
noncomputable def Itk(a:vH)(ob:Obj)(kvs:eM):It :=
 ⟨λi H=>H a=some iE/\i<kvs.length,λi H x H'=>H'=H/\∃n v,kvs[i]?=some (abq,v)/\x=.int n,λi H=>H a=some iE/\kvs.length<=i⟩
theorem qeP{X:Cx}{pins:ay}{σ:St}{H:Hp}{s:vC}{a:vH}{ob:Obj}{kvs:eM}{es0:MN}{ep:Nat}(I:aq)(h:H a=some iE)(hd:Tw):
  BA=false/\∃vs,KV kvs vs/\s.heap.DictAt nn a vs ep:=by
 obtain⟨e,_,lo,vs,r,o,es,ep',e',c1,c2,c3⟩:=(show Xh X.prog X.w H s.heap a iE from I.hok a _ h);refine⟨lo,vs,r,o,es,e',c1,?_,c3⟩;rw[e]at e';cases e';rw[hd]at c2;cases c2;exact hd
theorem qfs{P:vU}{w:vZ}{K:zC}{tg:vW}{ob:Obj}{kvs:eM}{es0:MN}{ep:Nat}(a it:vH)(hne:a≠it)(hd:Tw)(hk:∀p∈kvs,∃n:Int,p.1=nu):
  Turn P w K tg acL [it] it (λi h=>h.IsKeyIter it a i kvs.length ep) where
 mem:=by simp
 obj:=λi h st b hb=>by
  have e:b=it:=by simpa using hb
  subst e;obtain⟨o,e,c,d⟩:=st;exact⟨o,e,λv z=>by rw[d]at z;cases z⟩
 keep:=λi h h' st k=>st.at λo e=>k it (by simp) o e
 item:=by
  intro X hP hw hK hc i pins s σ H E I hf st hg;subst hP hw hK;obtain⟨hq,hi⟩:=hg;obtain⟨lo,vs,r,hm⟩:=qeP I hq hd;have hl:kvs.length=vs.length:=by have:=v7 xv r.keys;simpa using this
  obtain⟨⟨k,v⟩,hx⟩:∃p,kvs[i]?=some p:=⟨kvs[i],zD hi⟩;obtain⟨n,rfl⟩:=hk _ (zz hx);obtain⟨⟨k',u⟩,hu⟩:∃p,vs[i]?=some p:=⟨vs[i]'∅,zD _⟩;have ek:k'=nu:=by
   have h1:(kvs.map (·.1))[i]?=some abq:=by rw[ze,hx];rfl
   rw[r.keys,ze,hu]at h1;exact zw h1
  subst ek;obtain⟨f0,f1,f2,f3,f4,f5⟩:=hf it (by simp);rw[hl]at st;refine wpAny_pyNext_dict_item st hm hu λkey h' hkey st' sb=>?_;have I1:Inv X pins σ H { s with heap:=h' }:=I.turned (t':=s.toks) nT f0 f1 f3 f4 f5;obtain⟨t,rfl⟩:∃t,key=.int n t:=by
   rcases qK (k:=nu) hkey with⟨i,t,e4,rfl⟩|⟨x,t,e4,_⟩
   ·cases e4;exact Lk
   ·cases e4
  obtain⟨o,e,c,d⟩:=id st';rw[<- hl]at st';exact⟨.int n t,rfl,q8X (s:={ s with heap:=h' }) e c d (by decide) ⟨Eu,H,I1,Lk,⟨rfl,n,v,hx,rfl⟩,st',rY⟩⟩
 done:=by
  intro X hP hw hK hc i pins s σ H E I hf st hg;subst hP hw hK;obtain⟨hq,hi⟩:=hg;obtain⟨lo,vs,r,hm⟩:=qeP I hq hd;have hl:kvs.length=vs.length:=by have:=v7 xv r.keys;simpa using this
  obtain⟨f0,f1,f2,f3,f4,f5⟩:=hf it (by simp);rw[hl]at st;exact wpAny_pyNext_dict_end iC st hm Td λh' eb=>cu
 self:=λ_ _ _ _ _ st h=>wpAny_pyIter_keyiter st h
noncomputable def iKeys(tl:TE):TI:=λσ H R=>tl σ H λv H1=>∃a ob kvs,v=.ref a/\H1 a=some iE/\(∀p∈kvs,∃n:Int,p.1=nu)/\R acL H1
theorem qhT{X:Cx}{tg l:vW}{tl:TE}(hl:PE X l tl):PI X tg l (iKeys tl):=by
 intro pins s σ H R I h;refine thn CP λv s1 ⟨x,H1,I1,r1,q1⟩=>?_;obtain⟨a,ob,kvs,e,hq,hk,q⟩:=q1;subst e;cases r1;obtain⟨e0,_,lo,vs,r,o,es,ep,e',c1,c2,c3⟩:=(show Xh X.prog X.w H1 s1.heap a iE from I1.hok a _ hq);have hob:ob.data=.dict es ep:=by rw[e0]at e';cases e';exact c2
 have hm:s1.heap.DictAt nn a vs ep:=⟨o,es,e',c1,c2,c3⟩;have hlen:kvs.length=vs.length:=by have:=v7 xv r.keys;simpa using this
 have hlt:a<s1.heap.objs.size:=zS e0;refine wpAny_pyIter_dict lo hm ?_;refine⟨s1.heap.objs.size,Hh,_,_,H1,rfl,I1.kept (t':=s1.toks) λb o e=>zG _ e,qfs a _ LR hob hk,⟨_,zY _ rfl,rfl,by rw[hlen];rfl⟩,kW,q⟩;have e:b=s1.heap.objs.size:=by simpa using hb
 subst e;exact I1.fpOk bZ oz
end L2
namespace Hk
open PySem L2
theorem q8c:∀{ks:af}{vs:a8}{i:Nat}{n:Int}{v:V},(kvsOf ks vs)[i]?=some (abq,v)->ks[i]?=some n
 | [],_,_,_,_,h=>by cases h
 | _::_,[],_,_,_,h=>by cases h
 | k::ks,v::vs,0,n,u,h=>by cases h;rfl
 | k::ks,v::vs,i+1,n,u,h=>q8c (ks:=ks) (vs:=vs) h
theorem q8x:∀{ks:af}{vs:a8},∀p∈kvsOf ks vs,∃n:Int,p.1=nu
 | [],_,_,h=>by cases h
 | _::_,[],_,h=>by cases h
 | k::ks,v::vs,p,h=>by
  rcases zH.mp h with rfl|h
  ·exact⟨k,rfl⟩
  ·exact q8x p h
theorem qfq{K:zC}{G:Hp}{a:vH}{ob:Obj}{ks:af}{vs:a8}(h1:G a=some (.frz ob Jq))(hl:UW):IterOf K (Itk a ob kb) G Mc:=by
 have l1:=q2k hl;refine⟨λH i s hi=>⟨s _ _ h1,by rw[zA]at hi;omega⟩,gX,λH s=>⟨s _ _ h1,by rw[zA];omega⟩⟩;obtain⟨e,n,v,q1,q2⟩:=hy;subst e q2;have:=q8c q1;rw[ze,this]at hd;cases hd;exact⟨G2,Uj,rfl⟩
noncomputable def zCS:Option cb->Option aW
 | some ↥(.dic ks _)=>some Mc
 | _=>none
noncomputable def iDk(i:Nat):FI:=λω=>zCS ω[i]?
theorem qi7{X:Cx}{tg o:vW}{i:Nat}(ho:jv):XI X tg o (iDk i):=by
 refine⟨_,qhT ho,λG0 H0 G ω σ H ds R ow e k=>?_⟩;unfold iDk zCS at e
 split at e
 ·rename_i ks ds' q
  cases e;obtain⟨v,h1,p,vs,rfl,⟨ob,h2⟩,h3,h4⟩:=ow.sh i _ q;exact⟨bu,h1,p,ob,_,rfl,ow.gh _ _ h2,q8x,k _ G H aaw (qfq h2 (by rw[h3];exact h4.len))⟩
 ·cases e
end Hk
namespace Hk
open PySem PySem.Spec L2 PyProof.Rows
section
variable{P:vU}{w:vZ}{H:Hp}{h:vk}{a:vH}{o:HO}
end
section
variable{X:Cx}{pins:List (vH×Obj)}{σ:L2.St}{H:Hp}{s:vC}{h':vk}
end
section
variable{X:Cx}{E:XK}
end
noncomputable abbrev FX:=WSt->Option Str
section
variable{X:Cx}{E:XK}{st:vp}{rest:List vp}{e:vW}{es:List vW}{pos:Pos}{g g':FX}
end
end Hk
namespace PySem
section
variable{M:Model}{A:vf}{E:vB->vC->Prop}{nm q:Str}{C N:vH}{bs bm:List vB}{hdct:Bool}{sn:List Str}{sub:List vB}{ab:Bool}{col:Option Bool}{dd:Option vH}{k0 k1 k2 k3 k5:Option vB}{newId:String}
variable{nm' q':Str}{C' N':vH}{bs' bm':List vB}{hdct':Bool}{sn':List Str}{sub':List vB}{ab':Bool}{col':Option Bool}{dd':Option vH}{j0 j1 j2 j3 j5:Option vB}{newId':String}
end
end PySem
namespace Hk
open PySem PySem.Spec L2 PyProof.Rows
section
variable{X:Cx}{pins:List (vH×Obj)}{σ:L2.St}{H:Hp}{s:vC}
end
section
variable{X:Cx}{st:vp}{rest:List vp}{e:vW}{es:List vW}{pos:Pos}{g g':FX}
end
section
variable{X:Cx}{pins:List (vH×Obj)}{σ:L2.St}{H:Hp}{s:vC}
end
section
variable{K:zC}{G0:Hp}{H0:Fr}{G:Hp}{ω:WSt}{σ:L2.St}{H:Hp}
end
section
variable{X:Cx}
end
end Hk
namespace PySem.W
open PySem PySem.Calls PyProof.Rows
open Builtin Builtin.ObjectAttr Builtin.Getset_descriptor
section
variable{prog:vU}{w:vZ}{A:vf}{E:vB->vC->Prop}{K:Frag}{x C:vH}{h:vk}{g:Array tf}{d:sU}{t:Nat}{os:OsState}{ob:Obj}
end
end PySem.W
namespace Hk
open PySem PySem.Spec L2 PyProof.Rows
section
variable{X:Cx}{a:vW}{f:FD}
end
section
variable{X:Cx}{E:XK}{st:vp}{rest:List vp}{g:FX}
end
section
variable{f fh:FS}{g g':FX}{cs:List Str}{i:Nat}{ω w:WSt}{c:Str}{ft:FT}{fa:FA}{ds:List D}{fd:FD}{fe:FE}{o:Out}{r:R}
end
section
variable{X:Cx}
end
section
variable{f fh:FS}{g:FX}{cs:List Str}{ω:WSt}{c:Str}
end
end Hk
namespace L2
open PySem PySem.Spec PyProof.Rows
section
variable{X:Cx}{pins:List (vH×Obj)}{σ:St}{H:Hp}{s:vC}{a:vH}{A:vf}{E:vB->vC->Prop}{kvs:List (Key×V)}{k:Key}{u r:vB}{z:V}
theorem qgb{Q:aM}(I:aq)(e:LG)(hz:UV)(ry:RelV TF u)(rz:RelV z r)(h1:∀v w' s',W9 kvs k=some v->Inv X pins σ H s'->RelV v w'->Q w' s')(h2:W9 kvs k=none->∀s',Inv X pins σ (upd H a RJ) s'->Q r s'):
  vP ao A (call (.builtin "dict.setdefault") [du,u,r]) Q E s:=by
 obtain⟨zl,hd,vs,rel,dd⟩:=qcS I.hok e;have rv:=rel.val k;refine sP PySem.F.slot_dict_setdefault dd.typeIs PySem.F.entry_dict_setdefault (PySem.F.args_dict_setdefault_3 _ _ _) (kt_meets_setdefault nn a L7 hd r)
  ⟨vs,dd,by rw[<- rel.length];exact zl,λv hv=>?_,λhn h' dd' hs=>?_⟩
 ·rw[hv]at rv
  cases q:W9 kvs k with
  | none=>rw[q]at rv;exact rv.elim
  | some v0=>rw[q]at rv;exact h1 v0 v _ q iU rv
 ·rw[hn]at rv
  cases q:W9 kvs k with
  | some v0=>rw[q]at rv;exact rv.elim
  | none=>
   refine h2 q _ ?_;have he:∃q,h'.get? a=some q:=let ⟨q,_,_,hq,_⟩:=dd';Ng
   have hl:(putK kvs k z).length<=sizeLine:=by rw[qfM z q,zB,zR];exact hz
   exact q5M I (by rw[e];exact True.intro) hs he (q9x hl hd (rel.put k rz) dd')
end
noncomputable def tDSd(td ty tx:TE):TE:=λσ H Q=>td σ H λx H1=>∃a,x=.ref a/\IsD H1 a/\ty σ H1 λy H2=>tx σ H2 λz H3=>∃kvs k,H3 a=some ci/\y=kV k/\kvs.length<sizeLine /\
 (∀v,W9 kvs k=some v->Q v H3)/\(W9 kvs k=none->Q z (upd H3 a RJ))
theorem qju{X:Cx}{o e f:vW}{apos cpos:Pos}{td ty tx:TE}(ho:K8)(he:PE X e ty)(hf:PE X f tx)(m:M2 X o "setdefault" apos e f cpos):PE X (.Call (.Attribute o "setdefault" apos) [e,f] [] cpos) (tDSd td ty tx):=by
 intro pins s σ H Q I h;refine wpAny_Call_method m.base m.few m.line PySem.F.plainAttrs_dict PySem.F.slot_dict_setdefault PySem.F.type_dict_setdefault (thn kP λu s1 ⟨x,H1,I1,rx,a,ex,d,q1⟩=>?_);subst ex;obtain rfl:u=Value.ref a:=rx;obtain⟨t1,t2,_⟩:=qdV I1 d;refine⟨t1,t2,?_⟩;rw[m.trees];refine Calls.callWith_builtin rfl (Calls.evalArgs_plain (Calls.spliced_cons (thn Mf λiv s2 ⟨y,H2,I2,ry,q2⟩=>
  Calls.spliced_cons (thn Me λfv s3 ⟨z,H3,I3,rz,kvs,k,ea,ey,hz,g1,g2⟩=>Calls.spliced_nil ?_))))
 subst ey;exact qgb I3 ea hz ry rz (λv w' s4 hv I4 rw'=>⟨v,H3,I4,rw',g1 v hv⟩) λhn s4 I4=>⟨z,_,I4,rz,g2 hn⟩
end L2
namespace Hk
open PySem L2
theorem q0I{α:Type}:∀{ks:af}{xs:bB}{k:Int},ks.length=xs.length->(Xe ks xs k).isSome=decide (k∈ks)
 | [],[],k,_=>by simp[Xe]
 | [],_::_,_,h=>by simp at h
 | _::_,[],_,h=>by simp at h
 | k'::ks,x::xs,k,h=>by
  show (if k'=k then some x else Xe ks xs k).isSome=_
  by_cases z:k'=k
  ·rw[fQ,vQ (by rw[z];exact zE)];rfl
  ·rw[fI,q0I ⇑h]
   have:(k∈k'::ks)↔k∈ks:=⟨λm=>(zH.mp m).resolve_left λe=>z e.symm,zF _⟩;rw[decide_eq_decide.mpr this]
theorem q8m{α:Type}{v:α}:∀{ks:af}{xs:bB}{k:Int},ks.length=xs.length->k∉ks->Xe FF (xs++[v]) k=some v
 | [],[],k,_,_=>vF rfl
 | [],_::_,_,h,_=>by simp at h
 | _::_,[],_,h,_=>by simp at h
 | k'::ks,x::xs,k,h,hk=>by
  show (if k'=k then some x else Xe FF (xs++[v]) k)=some v;rw[vG (λz=>hk (by rw[z];exact zE))];exact q8m ⇑h λm=>hk (zF _ m)
noncomputable def X4(st:List Int×List af)(n:Int)(a:Int):List Int×List af :=
 if a∈st.1 then (st.1,Wz st.1 st.2 a n)else (st.1++[a],Wz (st.1++[a]) (st.2++[[]]) a n)
noncomputable def byS(as:ae):Nat->List Int×List af
 | 0=>([],[])
 | n+1=>match as[n]? with
  | some a=>X4 Mn n a.1
  | none=>byS as n
noncomputable def spT(K:zC):Sp:=λvs H Q _=>∃(G:Hp) (as:ae),Xf G H/\XN K G [aR] vs/\as.length<=9000 /\
 ∀G' p ls H',Ext G H G' H'->Tab G' H H' p (byS as as.length).1 ls (byS as as.length).2->Q bu H'
theorem qhC(as:ae):∀n:Nat,(byS as n).1.length<=n/\∀xs∈(byS as n).2,xs.length<=n
 | 0=>⟨bZ,λxs h=>by cases h⟩
 | n+1=>by
  obtain⟨h1,h2⟩:=qhC as n;unfold byS;cases q:as[n]? with
  | none=>exact⟨by show (byS as n).1.length<=_;omega,λxs hx=>by have:=h2 xs hx;omega⟩
  | some a=>
   show (X4 Mn n a.1).1.length<=_/\∀xs∈(X4 (byS as n) n a.1).2,_;unfold X4
   split
   ·exact⟨by show (byS as n).1.length<=_;omega,q3U n _ _ _ _ h2⟩
   ·refine⟨by show ((byS as n).1++[a.1]).length<=_;rw[zB,zR];omega,q3U n _ _ _ _ λxs hx=>?_⟩
    rcases zM.mp hx with y|y
    ·exact h2 xs y
    ·cases zU.mp y;exact yE _
section
variable{K:zC}{G0:Hp}{H0:Fr}{G:Hp}{ω:WSt}{σ:St}{H:Hp}
end
theorem noOw4{d0 d2 d3:eK}:WN [d0.map W.sh,none,d2.map W.sh,d3.map W.sh]:=by
 intro i w h
 match i,h with
 | 0,h=>cases d0 <;> cases h;exact bw
 | 1,h=>cases h
 | 2,h=>cases d2 <;> cases h;exact bw
 | 3,h=>cases d3 <;> cases h;exact bw
 | i+4,h=>simp at h
section
variable{X:Cx}
theorem qim{ta:TE}{g0:FD}(k2:zBs X.K ta g0){G0:Hp}{H0:Fr}{G:Hp}{ω:WSt}{σ:St}{H:Hp}{p:vH}{ks:af}{ls:dh}{xss:ce}{a n:Int}{Q:VK}(o:Own X.K G0 H0 G ω σ H)(no:OE)(s1:σ[1]?=some eP)(s2:σ[2]?=some (some Eu))(T:c9)(h0:g0 ω=some bP)(hk:JO)(hz:∀xs∈xss,xs.length<1000000)(h:∀G' H' ls',Own X.K G0 H0 G' ω σ H'->Xf G G'->Tab G' H0 H' p (X4 (ks,xss) n a).1 ls' (X4 (ks,xss) n a).2->Q .non H'):
  tBM X.K "list" WV (tDSd TX ta Jz) (zAG Fa zAz) σ H Q:=by
 have hlen:ks.length=(ls.map V.ref).length:=by rw[zA];exact T.len
 refine⟨bu,s1,p,rfl,.inl ⟨_,.inl T.dict⟩,k2 G0 H0 G ω σ H _ _ o h0 λu G1 H1 x1 y1=>?_⟩;cases (show u=.int a from y1);have o1:=o.keep x1;have T1:=T.keep x1;refine⟨by show 0<=sizeLine;exact yE _,λq hq=>?_⟩;have hpq:p≠q:=λz=>by rw[<- z,T1.dict]at hq;cases hq
 have x2:=Ext.hide o1.gh hq gQ;have o2:=o1.keep x2;have T2:=T1.keep x2;have vv:W9 pY nv=Xe ks dC a:=q0b hlen a;refine⟨kvsOf ks dC,Sum.inl a,T2.dict,rfl,by rw[q2k hlen,vh];omega,λv hv=>?_,λhn=>?_⟩
 ·
  have ha:a∈ks:=by
   have:=q0I (ks:=ks) (xs:=ls.map V.ref) (k:=a) hlen;rw[vv]at hv;rw[hv]at this;exact of_decide_eq_true this.symm
  obtain⟨l,xs,n1,n2,n3,n4,n5,n6⟩:=T2.app n ha;rw[vv,n3]at hv;cases hv;refine⟨.inl ⟨rfl,_,SqL.of n5⟩,.int n,s2,l,_,.int n,rfl,rfl,n5,by rw[zA,vh];have:=hz xs n2;omega,?_⟩;rw[show xs.map V.int++[V.int n]=(xs++[n]).map V.int by rw[zX];rfl];refine h G1 _ ls CM x1.gg ?_;unfold X4;rw[vF ha];exact n6
 ·have ha:a∉ks:=λha=>by
   have:=q0I (ks:=ks) (xs:=ls.map V.ref) (k:=a) hlen;rw[vv]at hn;rw[hn,vQ ha]at this;cases this
  obtain⟨H4,_,e4,T4⟩:=T1.put (l:=q) ha hq o1.gh o1.ext.hh hk;have ep:putK pY (Sum.inl a) (.ref q)=kvsOf Ou Qt:=by
   rw[q4T hlen];unfold Wg putA;rw[vG ha,vG ha,zX];rfl
  rw[ep,<- e4];have gp:=T1.gp;have gq:G1 q=none:=o1.gh.free hq;have h0q:H0 q=none:=o1.ext.hh.free hq;have o4:Own X.K G0 H0 G1 ω σ H4:=by rw[e4];exact o2.free no T1.gp T1.hp
  obtain⟨l,xs,n1,n2,n3,n4,n5,n6⟩:=T4.app n (a:=a) (by simp);have hq4:H4 q=some gQ:=by rw[e4,qd (Ne.symm hpq)];exact qe
  have lq:l=q:=by
   have:Xe Ou Qt a=some (.ref q):=by
    rw[zX];exact q8m hlen ha
   rw[this]at n3;cases n3;rfl
  subst lq;rw[hq4]at n5;have xe:xs=[]:=by
   cases xs with
   | nil=>rfl
   | cons y ys=>cases n5
  subst xe;refine⟨.inl ⟨rfl,_,SqL.of hq4⟩,.int n,s2,l,_,.int n,rfl,rfl,hq4,by show 0<sizeLine;rw[vh];omega,?_⟩;refine h G1 _ (ls++[l]) (o4.free no gq h0q) x1.gg ?_;unfold X4;rw[vG ha];exact n6
theorem qil{x1 x2 x3:Str}{o0 o1 e0 e1 e2:vW}{q1 q2 q3 q4 q5 q6 q9 q12 q15 a1 a2 c1 c2 ep ec tp:Pos}{kx}{g0:FD}(hp:j9)(hc:cE)(hN:X.N.Nodup)(i1:X.N[1]?=some x1)(i2:X.N[2]?=some x2)(i3:X.N[3]?=some x3)(l1:Loc X.env.scope x1)(l2:aat)(l3:aas)(f1:X.fn x1=true\/X.env.scope.names.lookup x1=some .local)(f2:Aa)(f3:sy)(hge:Lf)(hme:CU)(h0:PE X o0 (Xu 0))(h1:PE X o1 TX)(h2:PE X e1 Fa)(h3:PE X e2 TX)(ha:XD X e0 g0)(hg0:∀(ω:WSt)e,ω[3]?=some Fu->g0 ω=some CB)(hl:X.N.length=4)(m2:M2 X o1 "setdefault" a1 e0 HZ c1)(s1:v8 Cq (some (.Name x1 q2)) q3.line X.env=pure false)(sE:vK [o0] X.env=[(false,eval o0 X.env)])(ab:uF bX "append" X.env (eval bX X.env)=eval bX X.env)(w1:((vj c2 aaU).all (λx=>!x.1)&&(uI c2 j8).all gE&&decide (([e1]:List vW).length+([]:List uH).length+(if ([]:List uH).isEmpty then 0 else 1)<30))=true)(z1:Od)(t1:Bu)(p1:(vj c2 bF).any (·.1)=false)(v1:v8 BJ none q9.line X.env=pure false)(pg:∀t,PGs X BC t->PG X Vq (gTup X.K 2 t))(y1:∀x,v9 DG X.env x=pure x){vs:a8}{H:Hp}{Q:VK}{E:XK}(sp:spT X.K vs H Q E):
  ∃t,PSs X [.Assign [.Name x1 q2] Cq q3,.For Vq DG [.Expr BJ q9] [] q12,.Return (some e2) q15] t /\
   t { nx:=λ_ H'=>Q .non H',rt:=Q } (L2.start X.N vs) H:=by
 obtain⟨ta,k1,k2⟩:=ha;refine⟨_,qI (q0d hN i1 l1 q6g s1 f1) (qI (q6S hp hc (qcj hge hme (qA h0 qx sE) sE) (pg _ (q6F (q42 hN i2 l2 f2) (q6F UP qbB)))
  (q0K (q17 (q2f PySem.F.plainAttrs_list PySem.F.slot_list_append PySem.F.type_list_append q0T (qju h1 k1 Je m2) (qA h2 qx t1) ab w1 z1 t1 p1) v1)) y1) (q0K (q5l h3))),?_⟩
 obtain⟨G,as,sg,rp,hlen,fin⟩:=sp;obtain⟨v0,rfl,A0,vs0,rfl,r1,r2⟩:=rp.one;have hl0:as.length=vs0.length:=by have:=r2.len;rw[zA]at this;exact this
 have hst:L2.start X.N [V.ref A0]=Km:=by
  unfold L2.start;rw[hl];rfl
 rw[hst];intro p hp0;have no0:WN Hi:=noOw4 (d0:=some aR) (d2:=none) (d3:=none);have o0:Own X.K G AQ G Hi Km H:=by
  refine eX
  match i,h with
  | 0,h=>cases h;exact⟨_,rfl,A0,vs0,rfl,r1,r2⟩
  | 1,h=>cases h
  | 2,h=>cases h
  | 3,h=>cases h
  | i+4,h=>simp at h
 have o1:Own X.K G AQ G Hi [some (.ref A0),eP,none,none] kY:=(o0.free no0 (sg.free hp0) hp0).other (i:=1) no0 λw z=>by cases z
 have T0:Tab G H kY p (byS as 0).1 [] (byS as 0).2:=⟨qe,sg.free hp0,hp0,rfl,rfl,λj l xs h=>(by simp at h),λl h=>(by cases h),xY⟩;refine⟨.ref A0,rfl,A0,vs0,rfl,SqL.of ack,λi m σ' H'=>∃(G':Hp) (ls:dh) (y2 y3:eK),Own X.K G AQ G' Jl σ' H'/\Xf G G'/\σ'[1]?=some eP/\Tab G' H H' p (byS as i).1 ls (byS as i).2/\i<=as.length/\m=as.length-i,
  ⟨_,G,[],none,none,o1,gC,rfl,T0,B4,rfl⟩,?_⟩
 rintro i m σ' H' ⟨G',ls,y2,y3,o2,g2,s12,T2,hi,rfl⟩;have hq:=o2.gh _ _ (g2 _ _ r1)
 by_cases hlt:i<as.length
 ·refine .inr ⟨⟨vs0,vs0[i]'∅,M9,zD _⟩,λσ3 H3=>∃(G':Hp) (ls:dh) (y2 y3:eK),Own X.K G AQ G' Jl σ3 H3/\Xf G G'/\σ3[1]?=some eP/\Tab G' H H3 p (byS as (i+1)).1 ls (byS as (i+1)).2,
   λσ3 H3 ⟨G3,ls3,z2,z3,b1,b2,b3,b4⟩=>⟨as.length-(i+1),∅,G3,ls3,z2,z3,b1,b2,b3,b4,hlt,rfl⟩,λx H3 hy=>?_⟩
  obtain⟨t,w1',ht,rfl,rfl,hy⟩:=hy;have hy:=hy _ M9;have x3:=Ext.hide o2.gh ht abF;have o3:=o2.keep x3;have T3:=T2.keep x3;refine⟨t,_,rfl,SqT.of qe,rfl,gc,_,rfl,?_⟩;refine⟨w1',_,rfl,rfl,?_⟩;obtain⟨u,e1,e2⟩:=r2.get (i:=i) (d:=Y9 as[i]) (by rw[ze,GB];rfl);rw[hy]at e1;cases e1;have o4:=(o3.setSh (i:=2) (d:=.int i) (v:=.int i) rfl).setSh (i:=3) (d:=Y9 as[i]) (v:=w1') (e2.mono g2);have o4':Own X.K G AQ G' [ph,none,(some (D.int i)).map W.sh,(some (Y9 as[i])).map W.sh] ((σ'.set 2 (some gc)).set 3 (some w1')) (upd H' t abF):=o4;have hl4:σ'.length=4:=o2.len.symm;have bd:=qhC as i;refine qim k2 o4' (noOw4 (d0:=some aR) (d2:=some _) (d3:=some _)) (by rw[zN (by decide),zN (by decide)];exact s12) (by rw[zN (by decide)];exact yk (by rw[hl4];decide)) T3 (hg0 _ as[i] rfl) ∅ (λxs hx=>by have:=bd.2 xs hx;omega) λG5 H5 ls5 o5 g5 T5=>?_;have eb:byS as (i+1)=X4 (byS as i) i as[i].1:=by
   show (match as[i]? with|some a=>X4 (byS as i) i a.1|none=>byS as i)=_;rw[GB]
  refine⟨G5,ls5,_,_,o5,g2.trans g5,by rw[zN (by decide),zN (by decide)];exact s12,?_⟩;rw[eb];exact T5
 ·have en:i=as.length:=∅
  subst en;refine .inl ⟨⟨vs0,M9,Td⟩,bu,s12,fin G' p ls H' ?_ T2⟩;exact⟨g2,o2.ext.gh,o2.ext.hh,o2.ext.new⟩
end
noncomputable def WS:List Int->List af->Int->List af
 | k::ks,x::xs,a=>if k=a then x.dropLast::xs else x::WS ks xs a
 | _,xs,_=>xs
noncomputable def WB(ks:af)(xss:ce)(h:Int):List Int:=(Xe ks xss h).getD []
theorem q7L:∀{ks:af}{ls:dh}{a:Int},ks.length=ls.length->a∈ks->∃(j:Nat) (l:vH),ls[j]?=some l/\Xe ks dC a=some cX/\∀(xss:ce),xss.length=ls.length->∃xs,xss[j]?=some xs/\Xe ks xss a=some xs/\WS ks xss a=xss.set j xs.dropLast
 | [],_,_,_,h=>by simp at h
 | _::_,[],_,h,_=>by simp at h
 | k::ks,l::ls,a,h,ha=>by
  by_cases z:k=a
  ·refine⟨0,l,rfl,fQ,λxss hx=>?_⟩
   cases xss with
   | nil=>simp at hx
   | cons x xs=>exact⟨x,rfl,fQ,fQ⟩
  ·have ha':a∈ks:=(zH.mp ha).resolve_left λe=>z e.symm
   obtain⟨j,l',e2,e3,e4⟩:=q7L (ks:=ks) (ls:=ls) ⇑h ha';refine⟨j+1,l',e2,?_,λxss hx=>?_⟩
   ·show (if k=a then _ else _)=_
    rw[fI];exact e3
   ·cases xss with
    | nil=>simp at hx
    | cons x xs=>
     obtain⟨y,h1,h2,h3⟩:=e4 xs ⇑hx;refine⟨y,h1,?_,?_⟩
     ·show (if k=a then _ else _)=_
      rw[fI];exact h2
     ·show (if k=a then _ else x::WS ks xs a)=_
      rw[fI,h3];rfl
theorem Tab.pop{G H0 H:Hp}{p:vH}{ks:af}{ls:dh}{xss:ce}(T:c9){a:Int}(ha:a∈ks):
  ∃(l:vH) (xs:af),l∈ls/\Xe ks xss a=some xs/\zAg H p bP Cu/\H l=some DZ/\Tab G H0 (upd H l (.lst (xs.dropLast.map V.int))) p ks ls (WS ks xss a):=by
 obtain⟨j,l,e2,e3,e4⟩:=q7L T.len ha;obtain⟨xs,e5,e7,e6⟩:=e4 xss T.len2.symm;have hl:l∈ls:=zz e2;have hlp:p≠l:=λz=>T.pl (z▸hl);have g:=zAg.k (k:=nv) T.dict;rw[q0b (by rw[zA];exact T.len),e3]at g;refine⟨l,xs,hl,e7,g,aar,?_⟩;rw[e6];refine⟨by rw[qd hlp];exact T.dict,T.gp,T.hp,T.len,by rw[yg];exact T.len2,λi m ys h1 h2=>?_,T.gl,T.nd⟩;rcases qi h2 with⟨rfl,_,rfl⟩|⟨ne,h3⟩
 ·rw[e2]at h1
  cases h1;exact qe
 ·have hm:m≠l:=λz=>by
   subst z;obtain⟨i1,i2⟩:=zj.mp h1;obtain⟨j1,j2⟩:=zj.mp e2;exact ne Ic
  rw[L6];exact T.lst i m ys h1 h3
theorem Tab.beside{G H0 H:Hp}{p q:vH}{ob:HO}{ks:af}{ls:dh}{xss:ce}(T:c9)(h1:q≠p)(h2:q∉ls):Tab G H0 (upd H q ob) p ks ls xss :=
 ⟨by rw[qd (Ne.symm h1)];exact T.dict,T.gp,T.hp,T.len,T.len2,λj l xs e1 e2=>by
  have hn:l≠q:=λz=>h2 (by rw[<- z];exact zz e1);rw[qd hn];exact T.lst j l xs e1 e2,T.gl,T.nd⟩
noncomputable def WL(as:ae)(ks:af):Nat->List af->List Int->List Int->Int->Option af
 | 0,_,_,_,_=>none
 | n+1,xss,T,B,h=>match (WB ks xss h).getLast? with
  | some k=>if 0<=k/\k<as.length/\T.length<1000000 then WL as ks n lI (T++[k]) B (as.getD k.toNat (0,0)).2 else none
  | none=>match T.getLast? with
   | some k=>if 0<=k/\k<as.length/\B.length<1000000 then WL as ks n xss T.dropLast RE (as.getD k.toNat (0,0)).1 else none
   | none=>some B.reverse
structure RfS (K:zC) (G0:Hp) (H0:Fr) (G:Hp) (s:Int) (as:List (Int×Int)) (p t b:vH) (ks:List Int) (ls:List vH) (xss:List (List Int)) (T B:List Int) (h:Int) (y:Option D) (σ:St) (H:Hp):Prop where
 o:Own K G0 H0 G [some (W.sh (.int s)),↥(.lst (as.map Y9)),none,none,none,↥(.int h),y.map W.sh] σ H
 s2:σ[2]?=some (some (.ref p))
 s3:σ[3]?=some (some (.ref t))
 s4:σ[4]?=some (some (.ref b))
 s5:σ[5]?=some (some (.int h))
 tab:Tab G H0 H p ks ls xss
 ht:H t=some (.lst (T.map V.int))
 gt:G t=none
 ht0:H0 t=none
 hb:H b=some (.lst (B.map V.int))
 gb:G b=none
 hb0:H0 b=none
 tb:t≠b
 tl:t∉ls
 bl:b∉ls
theorem noOw7{d0 d1 d5 d6:eK}:WN [d0.map W.sh,d1.map W.sh,none,none,none,d5.map W.sh,d6.map W.sh]:=by
 intro i w h
 match i,h with
 | 0,h=>cases d0 <;> cases h;exact bw
 | 1,h=>cases d1 <;> cases h;exact bw
 | 2,h=>cases h
 | 3,h=>cases h
 | 4,h=>cases h
 | 5,h=>cases d5 <;> cases h;exact bw
 | 6,h=>cases d6 <;> cases h;exact bw
 | i+7,h=>simp at h
section
variable{K:zC}{G0:Hp}{H0:Fr}{G:Hp}{s:Int}{as:List (Int×Int)}{p t b:vH}{ks:List Int}{ls:List vH}{xss:List (List Int)}{T B:List Int}{h:Int}{y:Option D}{σ:St}{H:Hp}
theorem RfS.no(S:aC):WN [some (W.sh oe),↥aR,none,none,none,↥gR,y.map W.sh] :=
 noOw7 (d0:=some oe) (d1:=some aR) (d5:=some gR) (d6:=y)
theorem RfS.keep{G' H':Hp}(S:aC)(x:Cm):RfS K G0 H0 G' s as p t b ks ls xss T B h y σ H' :=
 ⟨S.o.keep x,S.s2,S.s3,S.s4,S.s5,S.tab.keep x,x.hh _ _ S.ht,x.new t S.gt (by rw[S.ht];exact λz=>by cases z),S.ht0,x.hh _ _ S.hb,x.new b S.gb (by rw[S.hb];exact λz=>by cases z),S.hb0,S.tb,S.tl,S.bl⟩
theorem RfS.tp(S:aC):t≠p/\b≠p:=by
 have h1:=S.ht;have h2:=S.hb;have h3:=S.tab.dict;refine⟨KC,KC⟩
 ·rw[z,h3]at h1;cases h1
 ·rw[z,h3]at h2;cases h2
theorem RfS.setT{T':af}(S:aC):RfS K G0 H0 G s as p t b ks ls xss T' B h y σ (upd H t (.lst (T'.map V.int))) :=
 ⟨S.o.free S.no S.gt S.ht0,S.s2,S.s3,S.s4,S.s5,S.tab.beside S.tp.1 S.tl,qe,S.gt,S.ht0,by rw[qd (Ne.symm S.tb)];exact S.hb,S.gb,S.hb0,S.tb,S.tl,S.bl⟩
theorem RfS.setB{B':af}(S:aC):RfS K G0 H0 G s as p t b ks ls xss T B' h y σ (upd H b (.lst (B'.map V.int))) :=
 ⟨S.o.free S.no S.gb S.hb0,S.s2,S.s3,S.s4,S.s5,S.tab.beside S.tp.2 S.bl,by rw[qd S.tb];exact S.ht,S.gt,S.ht0,qe,S.gb,S.hb0,S.tb,S.tl,S.bl⟩
theorem RfS.len(S:aC):σ.length=7:=S.o.len.symm
theorem RfS.setN(S:aC)(k:Int):RfS K G0 H0 G s as p t b ks ls xss T B h cV Nl H :=
 ⟨S.o.setSh (i:=6) (d:=.int k) (v:=.int k) rfl,by rw[zN (by decide)];exact S.s2,by rw[zN (by decide)];exact S.s3,by rw[zN (by decide)];exact S.s4,by rw[zN (by decide)];exact S.s5,S.tab,S.ht,S.gt,S.ht0,S.hb,S.gb,S.hb0,S.tb,S.tl,S.bl⟩
theorem RfS.setH(S:aC)(k:Int):RfS K G0 H0 G s as p t b ks ls xss T B k y (σ.set 5 cV) H :=
 ⟨S.o.setSh (i:=5) (d:=.int k) (v:=.int k) rfl,by rw[zN (by decide)];exact S.s2,by rw[zN (by decide)];exact S.s3,by rw[zN (by decide)];exact S.s4,yk (by rw[S.len];decide),S.tab,S.ht,S.gt,S.ht0,S.hb,S.gb,S.hb0,S.tb,S.tl,S.bl⟩
theorem RfS.popW(S:aC){l:vH}{H':HO}(hl:l∈ls){xss':ce}(T':Tab G H0 (upd H l H') p ks ls xss'):RfS K G0 H0 G s as p t b ks ls xss' T B h y σ (upd H l H') :=
 have n1:t≠l:=λz=>S.tl (by rw[z];exact hl);have n2:b≠l:=λz=>S.bl (by rw[z];exact hl)
 ⟨S.o.free S.no (S.tab.gl l hl).1 (S.tab.gl l hl).2,S.s2,S.s3,S.s4,S.s5,T',by rw[qd n1];exact S.ht,S.gt,S.ht0,by rw[qd n2];exact S.hb,S.gb,S.hb0,S.tb,S.tl,S.bl⟩
theorem qdF(S:aC){Q:jt}(q:∀H',RfS K G0 H0 G s as p t b ks ls xss T B h y σ H'->Q (!(WB ks xss h).isEmpty) H'):
  (zBl Fa (Xu 5) Jz) σ H λx H'=>∃k,TruV K x H' k/\Q k H':=by
 refine⟨.ref p,S.s2,p,rfl,.inl ⟨_,.inl S.tab.dict⟩,.int h,S.s5,by show 0<=sizeLine;exact yE _,λr hr=>?_⟩;have S1:=S.keep (Ext.hide S.o.gh hr gQ);have hlen:ks.length=(ls.map V.ref).length:=by rw[zA];exact S.tab.len
 have g:=zAg.k (k:=abt) S1.tab.dict;rw[q0b hlen]at g;refine⟨_,g,?_⟩
 by_cases hk:h∈ks
 ·obtain⟨l,xs,e1,e2,e3,e4,_⟩:=S1.tab.pop hk
  have ev:Xe ks dC h=some cX:=by
   obtain⟨j,l',f2,f3,f4⟩:=q7L S.tab.len hk;obtain⟨xs',f5,f7,f6⟩:=f4 xss S.tab.len2.symm;have g2:=zAg.k (k:=abt) S1.tab.dict;rw[q0b hlen,f3]at g2;rcases e3 with⟨kvs,k,d1,d2,d3⟩|⟨kvs,k,b,d1,d2,_⟩
   ·rcases d1 with d1|⟨ob,d1⟩
    ·rw[S1.tab.dict]at d1
     cases d1;cases k with
     | inl i=>cases d2;rw[q0b hlen]at d3;exact d3.symm
     | inr x=>cases d2
    ·rw[S1.tab.dict]at d1;cases d1
   ·cases d2
  rw[ev];refine⟨!xs.isEmpty,?_,?_⟩
  ·refine .inl ⟨_,SqL.of e4,?_⟩
   rw[List.isEmpty_map]
  ·have:WB ks xss h=xs:=by unfold WB;rw[e2];rfl
   rw[<- this];exact q _ S1
 ·have ev:Xe ks dC h=none:=by
   have:=q0I (ks:=ks) (xs:=ls.map V.ref) (k:=h) hlen;rw[vX hk]at this;cases z:Xe ks dC h with
   | none=>rfl
   | some v=>rw[z]at this;cases this
  have ev2:WB ks xss h=[]:=by
   have:=q0I (ks:=ks) (xs:=xss) (k:=h) (by rw[S.tab.len];exact S.tab.len2);rw[vX hk]at this;unfold WB;cases z:Xe ks xss h with
   | none=>rfl
   | some v=>rw[z]at this;cases this
  rw[ev];refine⟨false,?_,by have:=q _ S1;rw[ev2]at this;exact this⟩;exact .inl ⟨_,SqL.of qe,rfl⟩
end
noncomputable def trT(K:zC)(t:TE):TT:=λσ H Q=>t σ H λx H'=>∃k,TruV K x H' k/\Q k H'
noncomputable def zCy:TE:=zBl Fa (Xu 5) Jz
noncomputable def zB7(K:zC)(td:TE):TS:=zBc (zBE (tBM0 K "list" rPop (zC0 Fa (Xu 5))) (WU 6)) (zBc Bc Dk)
noncomputable def zB0(K:zC)(td:TE):TS:=zBc (zBE (tBM0 K "list" rPop (Xu 3)) (WU 6)) (zBc Bb Dk)
section
variable{K:zC}{G0:Hp}{H0:Fr}{G:Hp}{s:Int}{as:List (Int×Int)}{p t b:vH}{ks:List Int}{ls:List vH}{xss:List (List Int)}{T B:List Int}{h:Int}{y:Option D}{σ:St}{H:Hp}
theorem q88{xs:af}{k:Int}(e:xs.getLast?=some k):(xs.map V.int)[(xs.map V.int).length-1]?=some kD/\(xs.map V.int).dropLast=xs.dropLast.map V.int:=by
 rw[List.getLast?_eq_getElem?]at e;refine⟨by rw[zA,ze,e];rfl,by rw[List.map_dropLast]⟩
theorem RfS.s6(S:aC)(k:Int):(σ.set 6 cV)[6]?=some cV:=yk (by rw[S.len];decide)
theorem qiP{td:TE}{f:FD}(hd:zBs K td f)(hf:∀(ω:WSt)(k:Int),ω[1]?=some ↥aR->ω[6]?=some ↥kD->0<=k->k<as.length->f ω=some jR)(S:aC){k:Int}(e:(WB ks xss h).getLast?=some k)(k0:Vj)(k1:FJ)(hT:T.length<1000000){D0:Ends}(q:∀G' σ' H',RfS K G0 H0 G' s as p t b ks ls lI (T++[k]) B (as.getD k.toNat (0,0)).2 cV σ' H'->D0.nx σ' H'):zB7 K td D0 σ H:=by
 have hk:h∈ks:=by
  have:=q0I (ks:=ks) (xs:=xss) (k:=h) (by rw[S.tab.len];exact S.tab.len2);unfold WB at e;cases z:Xe ks xss h with
  | none=>rw[z]at e;cases e
  | some v=>rw[z]at this;exact of_decide_eq_true this.symm
 obtain⟨l,xs,e1,e2,e3,e4,e5⟩:=S.tab.pop hk;have ex:xs.getLast?=some k:=by unfold WB at e;rw[e2]at e;exact e
 obtain⟨m1,m2⟩:=q88 ex;refine⟨bu,S.s2,gR,S.s5,p,cX,rfl,e3,.inl ⟨rfl,_,SqL.of e4⟩,l,_,kD,rfl,rfl,e4,m1,?_⟩;rw[m2];have S1:=(S.popW e1 e5).setN k;show zBc Bc Dk D0 Nl _;refine⟨.ref t,S1.s3,.inl ⟨rfl,_,SqL.of S1.ht⟩,.int k,S.s6 k,t,_,.int k,rfl,rfl,S1.ht,by rw[zA,vh];omega,?_⟩;rw[show T.map V.int++[V.int k]=(T++[k]).map V.int by rw[zX];rfl];have S2:=S1.setT (T':=T++[k]);show td _ _ _;refine hd G0 H0 G _ _ _ _ _ S2.o O7 λu G1 H1 x1 y1=>?_;cases (show u=.int _ from y1);exact q G1 _ H1 Qw
theorem qhQ{td:TE}{f:FD}(hd:zBs K td f)(hf:∀(ω:WSt)(k:Int),ω[1]?=some ↥aR->ω[6]?=some ↥kD->0<=k->k<as.length->f ω=some jS)(S:aC){k:Int}(e:T.getLast?=some k)(k0:Vj)(k1:FJ)(hB:B.length<1000000){D0:Ends}(q:∀G' σ' H',RfS K G0 H0 G' s as p t b ks ls xss T.dropLast RE (as.getD k.toNat (0,0)).1 cV σ' H'->D0.nx σ' H'):zB0 K td D0 σ H:=by
 obtain⟨m1,m2⟩:=q88 e;refine⟨jI,S.s3,.inl ⟨rfl,_,SqL.of S.ht⟩,t,_,kD,rfl,rfl,S.ht,m1,?_⟩;rw[m2];have S1:=(S.setT (T':=T.dropLast)).setN k;show zBc Bb Dk D0 Nl _;refine⟨.ref b,S1.s4,.inl ⟨rfl,_,SqL.of S1.hb⟩,.int k,S.s6 k,b,_,.int k,rfl,rfl,S1.hb,by rw[zA,vh];omega,?_⟩;rw[show B.map V.int++[V.int k]=(B++[k]).map V.int by rw[zX];rfl];have S2:=S1.setB (B':=B++[k]);show td _ _ _;refine hd G0 H0 G _ _ _ _ _ S2.o O7 λu G1 H1 x1 y1=>?_;cases (show u=.int _ from y1);exact q G1 _ H1 Qw
end
noncomputable def tRF(K:zC)(E:XK)(td1 td0:TE):TS :=
 zBc (zBE (tCall (spT K) [] E (zAG TX zAz)) (WU 2)) (zBc (zBE Jz (WU 3)) (zBc (zBE Jz (WU 4)) (zBc (zBE (Xu 0) (WU 5))
  (zBc (zBo (tOr (trT K (Xu 3)) QU) (tIfS QU (zB7 K td1) (zB0 K td0))) (tRet (tCB rLR (zAG (Xu 4) zAz)))))))
noncomputable def zAL(s:Int)(as:ae):Option af:=if as.length<=9000 then WL as (byS as as.length).1 100000 (byS as as.length).2 [] [] s else none
noncomputable def mRF:List D->Option O
 | [.int s,.lst ds]=>(pairsOf ds).bind λas=>(zAL s as).map λrow=>.fr KN
 | _=>none
theorem qkR{K:zC}{E E':XK}{td1 td0:TE}{f1 f0:FD}(h1:zBs K td1 f1)(h0:zBs K td0 f0)(hf1:∀(as:ae)(ω:WSt)(k:Int),ω[1]?=some ↥aR->ω[6]?=some ↥kD->0<=k->k<as.length->f1 ω=some jR)(hf0:∀(as:ae)(ω:WSt)(k:Int),ω[1]?=some ↥aR->ω[6]?=some ↥kD->0<=k->k<as.length->f0 ω=some jS){N:dN}(hN:N.length=7){vs:a8}{H:Hp}{Q:VK}(sp:spD K 2 mRF vs H Q E'):tRF K E td1 td0 { nx:=λ_ H'=>Q .non H',rt:=Q } Lb H:=by
 obtain⟨G,ds,r,e,hl,sg,rp,fin⟩:=sp
 match ds,e with
 | [.int s,.lst ds],e=>
  obtain⟨as,ea,e⟩:=bnd e;obtain⟨row,er,e⟩:=mpd e;subst e;have hds:=q4A ea;subst hds;clear ea;unfold zAL at er
  by_cases hlen:as.length<=9000
  case neg=>rw[vG hlen]at er;cases er
  rw[vF hlen]at er;obtain⟨v0,v1,rfl,r0,r1⟩:=rp.two;cases (show v0=.int s from r0);have hst:L2.start N [V.int s,v1]=DS:=by
   unfold L2.start;rw[hN];rfl
  rw[hst];have no0:WN BT:=noOw7 (d0:=some oe) (d1:=some aR) (d5:=none) (d6:=none);have o0:Own K G AQ G BT DS H:=by
   refine eX
   match i,h with
   | 0,h=>cases h;exact⟨_,rfl,rfl⟩
   | 1,h=>cases h;exact Nh
   | 2,h=>cases h
   | 3,h=>cases h
   | 4,h=>cases h
   | 5,h=>cases h
   | 6,h=>cases h
   | i+7,h=>simp at h
  refine⟨v1,rfl,G,as,sg,XN.cons r1 XN.nil,hlen,λG1 p ls H1 x1 T1=>?_⟩;have o1:=(o0.keep x1).other (i:=2) (v:=some bu) no0 λw z=>by cases z
  refine⟨by show 0<=sizeLine;exact yE _,λt ht=>?_⟩;have x2:=Ext.hide o1.gh ht gQ;have o2:=(o1.keep x2).other (i:=3) (v:=some jI) no0 λw z=>by cases z
  have T2:=T1.keep x2;refine⟨by show 0<=sizeLine;exact yE _,λb hb=>?_⟩;have x3:=Ext.hide o2.gh hb gQ;have o3:=(o2.keep x3).other (i:=4) (v:=some Cy) no0 λw z=>by cases z
  have T3:=T2.keep x3;have tb:t≠b:=λz=>by rw[<- z,qe]at hb;cases hb
  have tl:t∉ls:=λz=>by
   obtain⟨xs,w⟩:=T1.inn z;rw[ht]at w;cases w
  have bl:b∉ls:=λz=>by
   obtain⟨xs,w⟩:=T2.inn z;rw[hb]at w;cases w
  have o4:=o3.setSh (i:=5) (d:=.int s) (v:=.int s) rfl;have S0:RfS K G AQ G1 s as p t b (byS as as.length).1 ls (byS as as.length).2 [] [] s none [some oe,some v1,eP,some jI,some Cy,some oe,none] (upd (upd H1 t gQ) b gQ) :=
   ⟨o4,rfl,rfl,rfl,rfl,T3,by rw[qd tb];exact qe,o1.gh.free ht,o1.ext.hh.free ht,qe,o2.gh.free hb,o2.ext.hh.free hb,tb,tl,bl⟩
  refine⟨oe,rfl,?_⟩;generalize (byS as as.length).1=ks at S0 er;generalize (byS as as.length).2=xss at S0 er;refine⟨λm σ' H'=>∃G' xss T B h y,RfS K G AQ G' s as p t b ks ls xss T B h y σ' H'/\WL as ks m xss T B h=some row,⟨100000,G1,xss,[],[],s,none,S0,er⟩,?_⟩;rintro m σ' H' ⟨G',xss,T,B,h,y,S,run⟩;cases m with
  | zero=>cases run
  | succ n=>
   have body:∀Hx,RfS K G AQ G' s as p t b ks ls xss T B h y σ' Hx->(T≠[]\/WB ks xss h≠[])->∀D0:Ends,∃NN:St->Hp->Prop,(∀σ2 H2,NN σ2 H2->∃m',m'<n+1/\∃G' xss T B h y,RfS K G AQ G' s as p t b ks ls xss T B h y σ2 H2/\WL as ks m' xss T B h=some row)/\tIfS QU (zB7 K td1) (zB0 K td0) { D0 with nx:=NN,ct:=NN,bk:=D0.nx } σ' Hx:=by
    intro Hx Sx hne D0;refine⟨λσ2 H2=>∃G' xss T B h y,RfS K G AQ G' s as p t b ks ls xss T B h y σ2 H2/\WL as ks n xss T B h=some row,λσ2 H2 z=>⟨n,yi n,z⟩,?_⟩;refine qdF Sx λHy Sy=>?_;unfold WL at run;cases eg:(WB ks xss h).getLast? with
    | some k=>
     rw[eg]at run;have run:(if 0<=k/\k<as.length/\T.length<1000000 then WL as ks n lI (T++[k]) B (as.getD k.toNat (0,0)).2 else none)=some row:=run;have hne:(WB ks xss h).isEmpty=false:=by
      cases z:WB ks xss h with
      | nil=>rw[z]at eg;cases eg
      | cons a r=>rfl
     rw[hne];show (if (!false)=true then _ else _);rw[vF (show (!false)=true from rfl)]
     by_cases c:0<=k/\k<as.length/\T.length<1000000
     ·rw[vF c]at run
      exact qiP h1 (hf1 as) Sy eg c.1 c.2.1 c.2.2 λG2 σ2 H2 S2=>Of
     ·rw[vG c]at run;cases run
    | none=>
     rw[eg]at run;have hem:WB ks xss h=[]:=wE.mp eg;rw[hem];show (if (!true)=true then _ else _);rw[vG (by decide)];cases et:T.getLast? with
     | none=>exact vO (wE.mp et) (hne.resolve_right λz=>z hem)
     | some k=>
      have run:(match T.getLast? with
       | some k=>if 0<=k/\k<as.length/\B.length<1000000 then WL as ks n xss T.dropLast RE (as.getD k.toNat (0,0)).1 else none
       | none=>some B.reverse)=some row:=run
      rw[et]at run;have run:(if 0<=k/\k<as.length/\B.length<1000000 then WL as ks n xss T.dropLast RE (as.getD k.toNat (0,0)).1 else none)=some row:=run
      by_cases c:0<=k/\k<as.length/\B.length<1000000
      ·rw[vF c]at run
       exact qhQ h0 (hf0 as) Sy et c.1 c.2.1 c.2.2 λG2 σ2 H2 S2=>Of
      ·rw[vG c]at run;cases run
   refine⟨jI,S.s3,!(T.map V.int).isEmpty,.inl ⟨_,SqL.of S.ht,rfl⟩,?_⟩;cases T with
   | cons a r=>
    show (if (!false)=true then _ else _);rw[vF (show (!false)=true from rfl)];show (if true=true then _ else _);rw[jQ];exact body H' S (.inl (by simp)) _
   | nil=>
    show (if (!true)=true then _ else _);rw[vG (by decide)];refine qdF S λHx Sx=>?_;cases eg:WB ks xss h with
    | cons a r=>
     show (if (!false)=true then _ else _);rw[vF (show (!false)=true from rfl)];exact body Hx Sx (.inr (by rw[eg];simp)) _
    | nil=>
     show (if (!true)=true then _ else _);rw[vG (by decide)];have rw0:row=B.reverse:=by
      unfold WL at run;rw[eg]at run;have run:some B.reverse=some row:=run;exact(zw run).symm
     subst rw0;refine⟨Cy,Sx.s4,b,_,rfl,Sx.hb,λSa hS=>?_⟩;have x9:=Ext.hide Sx.o.gh hS (.lst (B.map V.int).reverse);have o9:=Sx.o.keep x9;refine fin (.ref Sa) G' _ o9.ext ⟨Sa,_,rfl,Sx.o.ext.hh.free hS,Sx.o.gh.free hS,qe,?_⟩;rw[<- Ya];exact XN.ints _
theorem qjr{ω:WSt}{e:bi}(h:ω[3]?=some ↥(Y9 e)):dOf MC ω=some CB:=by
 unfold dOf XB vOf Y3 fC;rw[h];rfl
theorem q8T{as:ae}{k:Int}(k0:Vj)(k1:FJ):atI EM k=some (Y9 (as.getD k.toNat (0,0))):=by
 rw[q0V k0 (by rw[zA];exact k1)];have hk:k.toNat<as.length:=∅
 rw[xG,zT,Nr];rfl
theorem qje{as:ae}{ω:WSt}{k:Int}(h1:ω[1]?=some ↥aR)(h6:ω[6]?=some ↥kD)(k0:Vj)(k1:FJ):
  dOf acB ω=some jR:=by
 have e:=q8T (as:=as) k0 k1;show dR (op2 oIx (vR (op2 oIx (vR (zCs ω[1]?)) (vR (zCs ω[6]?)))) (some BY))=_;rw[h1,h6];show dR (op2 oIx LX (some BY))=_;rw[e];rfl
theorem qkq{as:ae}{ω:WSt}{k:Int}(h1:ω[1]?=some ↥aR)(h6:ω[6]?=some ↥kD)(k0:Vj)(k1:FJ):
  dOf acA ω=some jS:=by
 have e:=q8T (as:=as) k0 k1;show dR (op2 oIx (vR (op2 oIx (vR (zCs ω[1]?)) (vR (zCs ω[6]?)))) (some Pr))=_;rw[h1,h6];show dR (op2 oIx LX (some Pr))=_;rw[e];rfl
theorem qjp{X:Cx}{e1 e0:vW}{E E':XK}{f1 f0:FD}(h1:XD X e1 f1)(h0:XD X e0 f0)(hf1:∀(as:ae)(ω:WSt)(k:Int),ω[1]?=some ↥aR->ω[6]?=some ↥kD->0<=k->k<as.length->f1 ω=some jR)(hf0:∀(as:ae)(ω:WSt)(k:Int),ω[1]?=some ↥aR->ω[6]?=some ↥kD->0<=k->k<as.length->f0 ω=some jS){N:dN}(hN:N.length=7){vs:a8}{H:Hp}{Q:VK}(sp:spD X.K 2 mRF vs H Q E'){sts:Ck}(hb:∀{td1 td0:TE},PE X e1 td1->PE X e0 td0->PSs X sts (tRF X.K E td1 td0)):
  ∃t,PSs X sts t/\t { nx:=λ_ H'=>Q .non H',rt:=Q } Lb H:=by
 obtain⟨td1,p1,q1⟩:=h1;obtain⟨td0,p0,q0⟩:=h0;exact⟨_,hb p1 p0,qkR q1 q0 hf1 hf0 hN sp⟩
abbrev Cal(P:vU)(w:vZ)(K:zC)(mg:bH)(base:vk)(k:Nat)(f:vH)(d:vS)(x:Str)(ps:dN)(n:Nat)(m:cf):Prop :=
 FnOk P w K mg base CX0 k f d ps (spD K n m)/\mg x=some iP/\xp K iP=true/\Binds K d ps []
section
variable{X:Cx}{x:Str}{pos:Pos}
theorem xc{e:vW}{es:iN}{k k0:Nat}{f:vH}{fd:vS}{ps:dN}{m:cf}{p:Pos}{g:FA}(c:Cal X.prog X.w X.K X.mg X.base k f fd x ps (e::es).length m)(hr:T9)(ha:XA X jK g)(hk:k<=k0:=by decide)(hg:Au:=by exact rfl)(hdb:aJ:=by decide)(he:aQ:=by rfl)(hpl:(vj pos im).any (·.1)=false:=by rfl):
  XE X cK (XC m g):=zC2 c.1 (hr.mono hk) hg c.2.1 c.2.2.1 c.2.2.2 pass0 ha hdb he hpl
theorem vE(i:Nat)(hN:X.N[i]?=some x:=by rfl)(hv:oY:=by first|exact Or.inl rfl|exact Or.inr aB|exact Or.inr IR)(hd:aJ:=by decide)(hcd:ge:=by decide):XE X ir (Y3 i):=zBq i Fz
theorem vV(i:Nat)(hN:X.N[i]?=some x:=by rfl)(hv:oY:=by first|exact Or.inl rfl|exact Or.inr aB|exact Or.inr IR)(hd:aJ:=by decide)(hcd:ge:=by decide):XV X ir (vOf (Y3 i)):=XE.toV (zBq i Fz)
theorem vD(i:Nat)(hN:X.N[i]?=some x:=by rfl)(hv:oY:=by first|exact Or.inl rfl|exact Or.inr aB|exact Or.inr IR)(hd:aJ:=by decide)(hcd:ge:=by decide):XD X ir (dOf (Y3 i)):=XE.toD (zBq i Fz)
end
def Fd(K:zC)(x:Str)(st:vp)(f:vH):Prop:=yZ K vY x=some (some iP)/\∃fd,Fun K x x st f fd
section
variable{P:vU}{w:vZ}{K:zC}{mg:Str->Option vB}{base h:vk}{x:Str}{st:vp}{f:vH}{fd:vS}
theorem qkD{oc:vB}{od an:Hz}{osl:Uk}{kV doc pm cdv ct:vB}(a:yZ K vY x=some (some iP))(l:K.lookup f=some ⟨oc,od,.func pH,osl⟩)(c:wu K cdv x=true)(k:xp K iP=true):Fd K x st f:=⟨a,_,qjz l c k⟩
theorem us_1{us:a0}(h:us.length=1):∃a,us=[a]:=by match us,h with|[_],_=>exact bw
theorem us_2{us:a0}(h:us.length=2):∃a b,us=BB:=by match us,h with|[_,_],_=>exact nD
theorem us_3{us:a0}(h:us.length=3):∃a b c,us=[a,b,c]:=by match us,h with|[_,_,_],_=>exact rP
theorem us_4{us:a0}(h:us.length=4):∃a b c d,us=Qa:=by match us,h with|[_,_,_,_],_=>exact⟨_,_,_,_,rfl⟩
theorem us_5{us:a0}(h:us.length=5):∃a b c d e,us=[a,b,c,d,e]:=by match us,h with|[_,_,_,_,_],_=>exact⟨_,_,_,_,_,rfl⟩
theorem qo(P:vU)(w:vZ)(base:vk)(X:K.In h)(G:h.Ns vY mg){x:Str}{st:vp}{f:vH}{fd:vS}{k n:Nat}{ps:dN}{m:cf}(D:Fd K x st f)(F:Fun K x x st f fd)(o:FnOk P w K mg base CX0 k f fd ps (spD K n m))(b:∀(kV doc pm:vB)(an:Hz)(cdv ct:vB)(us:a0),us.length=ps.length->bindArgs pH BZ=pure EF:=by intro _ _ _ _ _ _ us hl;first|(obtain⟨_,rfl⟩:=us_1 hl;rfl)|(obtain⟨_,_,rfl⟩:=us_2 hl;rfl)|(obtain⟨_,_,_,rfl⟩:=us_3 hl;rfl)|(obtain⟨_,_,_,_,rfl⟩:=us_4 hl;rfl)|(obtain⟨_,_,_,_,_,rfl⟩:=us_5 hl;rfl)):Cal P w K mg base k f fd x ps n m :=
 ⟨o,ZL X G D.1,F.kp,F.binds b⟩
end
end Hk
namespace Hk
open PySem PyProof.Rows
noncomputable def kcl(c:Int)(l:dj):List vT:=l.filter λp=>t6 p.1==c
def zBG(l m:dj):Prop:=∀c,kcl c l=kcl c m
theorem q0J(c:Int)(a b:dj):kcl c Du=kcl c a++kcl c b:=wy ..
theorem q5I(c:Int)(a:dj):kcl c a.reverse=(kcl c a).reverse:=List.filter_reverse ..
theorem q75{c:Int}{l:dj}(h:∀p∈l,t6 p.1≠c):kcl c l=[]:=xw.mpr λp hp=>by simpa using h p hp
theorem q49{xs:aZ}{i:Nat}{p:vT}(h:xs.toList[i]?=some p):K xs i=t6 p.1:=by
 unfold K;rw[<- zb,h]
theorem qcm{α:Type}{l:bB}{i j:Nat}{p:α}(h:p∈(l.take j).drop i):∃n,i<=n/\n<j/\l[n]?=some p:=by
 obtain⟨m,hm⟩:=xE.mp h;rw[xZ,xa]at hm
 split at hm
 ·exact⟨i+m,∅,by assumption,hm⟩
 ·cases hm
theorem cut3{α:Type}(l:bB){i j:Nat}(h:i<=j):l.take i++((l.take j).drop i++l.drop j)=l:=by
 have:l.take i=(l.take j).take i:=by rw[wQ,wj h]
 rw[this,<- zL,yH,yH]
theorem q3F{xs:aZ}{i j:Nat}(hij:i<=j)(hj:j<=xs.size):(mirror xs i j ((j-i)/2)).toList=xs.toList.take i++(((xs.toList.take j).drop i).reverse++xs.toList.drop j):=by
 apply yw;intro k;rw[zb,getElem?_mirror_all hj];have hl:xs.toList.length=xs.size:=zP;rcases yB k i with h1|h1
 ·rw[fO,zh (by rw[zg];omega),xa,IZ,zb]
 ·rw[zd (by rw[zg];omega),zg,show min i xs.toList.length=i by omega]
  have ld:((xs.toList.take j).drop i).length=j-i:=by rw[yP,zg];omega
  rcases yB k j with h2|h2
  ·rw[vF Lm,zh (by rw[xS,ld];omega),List.getElem?_reverse (by rw[ld];omega),ld,xZ,xa,jP,zb]
   congr 1;omega
  ·rw[fO,zd (by rw[xS,ld];omega),xS,ld,xZ,zb]
   congr 1;omega
theorem qbc{xs:aZ}{j l:Nat}(hs:j<xs.size)(hl:l<=j):(bubble xs j (j-l)).toList=xs.toList.take l++(xs[j]::AI):=by
 apply yw;intro k;rw[zb,getElem?_bubble hs _ ∅,show j-(j-l)=l by omega];have hn:xs.toList.length=xs.size:=zP;rcases yB k l with h1|h1
 ·rw[fO,fO,zh (by rw[zg];omega),xa,IZ,zb]
 ·rw[zd (by rw[zg];omega),zg,show min l xs.toList.length=l by omega]
  rcases YB h1 with h2|h2
  ·subst h2
   rw[jQ,wo,xq,TQ]
  ·rw[fO]
   obtain⟨m,hm⟩:∃m,k-l=m+1:=⟨k-l-1,∅⟩;rw[hm,xN];have ld:((xs.toList.take j).drop l).length=j-l:=by rw[yP,zg];omega
   rcases yB m (j-l)with h3|h3
   ·rw[jP,zh (by rw[ld];exact h3),xZ,xa,jP,zb]
    congr 1;omega
   ·rw[fO,zd (by rw[ld];exact h3),ld,xZ,zb]
    congr 1;omega
theorem qaZ{xs:aZ}{j l:Nat}(hs:j<xs.size)(hl:l<=j)(h:∀i,l<=i->i<j->K xs j<K xs i):zBG (bubble xs j (j-l)).toList xs.toList:=by
 intro c;have hx:xs.toList[j]?=some xs[j]:=by rw[zb,TQ]
 have e:xs.toList=xs.toList.take l++((xs.toList.take j).drop l++(xs[j]::xs.toList.drop (j+1))):=by
  have d:xs.toList.drop j=xs[j]::xs.toList.drop (j+1):=by
   rw[xC (by rw[zP];exact hs),Array.getElem_toList]
  rw[<- d,cut3 _ hl]
 rw[qbc hs hl,q0J];have e2:kcl c xs.toList=kcl c (xs.toList.take l)++(kcl c LL++kcl c (xs[j]::xs.toList.drop (j+1))):=by
  conv=>lhs;rw[e]
  rw[q0J,q0J]
 rw[e2]
 congr 1
 show kcl c ([xs[j]]++AI)=_++kcl c ([xs[j]]++xs.toList.drop (j+1));rw[q0J,q0J,q0J]
 by_cases z:t6 xs[j].1=c
 ·have no:kcl c LL=[]:=q75 λp hp=>by
   obtain⟨n,n1,n2,n3⟩:=qcm hp;have k1:=q49 n3;have k2:=q49 hx;have:=h n n1 n2;omega
  rw[no,yT,yT]
 ·have no:kcl c [xs[j]]=[]:=q75 λp hp=>by cases zU.mp hp;exact z
  rw[no,yT,yT]
structure DInv (a₀:Array vT) (xs:Array vT) (x neq:Nat):Prop where
 le:neq+1<=x
 ni:sw xs x
 eq:∀i,x-(neq+1)<=i->i<x->K xs i=K xs (x-1)
 lt:0<x-(neq+1)->K xs (x-(neq+1))<K xs (x-(neq+1)-1)
 cl:∀c,kcl c (xs.toList.take (x-(neq+1)))=(kcl c (a₀.toList.take (x-(neq+1)))).reverse
 dr:xs.toList.drop (x-(neq+1))=a₀.toList.drop (x-(neq+1))
theorem DInv.flip{a₀ xs:aZ}{x neq:Nat}(D:DInv a₀ xs x neq)(hx:x<=xs.size)(hz:xs.size=a₀.size):
  (∀c,kcl c ((mirror xs PJ x ((x-PJ)/2)).toList.take x)=(kcl c Re).reverse)/\(mirror xs PJ x ((x-PJ)/2)).toList.drop x=a₀.toList.drop x:=by
 have hb:x-pJ<=x:=Nat.sub_le _ _;have hle:=D.le;have hbx:x-pJ<x:=∅
 have lt:=D.lt;have eq:=D.eq;have ni:=D.ni;have cl:=D.cl;have dr:=D.dr;generalize x-pJ=b at hb hbx lt eq cl dr;have hn:xs.toList.length=xs.size:=zP;have hn0:a₀.toList.length=a₀.size:=zP;have run:(xs.toList.take x).drop b=(a₀.toList.take x).drop b:=by
  rw[wz,wz,dr]
 have lrun:((xs.toList.take x).drop b).length=x-b:=by rw[yP,zg];omega
 rw[q3F hb hx];have l1:(xs.toList.take b++((xs.toList.take x).drop b).reverse).length=x:=by
  rw[zB,xS,lrun,zg];omega
 rw[<- zL];refine⟨λc=>?_,?_⟩
 ·rw[Yf l1,q0J,q5I,run]
  have e0:a₀.toList.take x=a₀.toList.take b++(a₀.toList.take x).drop b:=by
   have:a₀.toList.take b=(a₀.toList.take x).take b:=by rw[wQ,wj hb]
   rw[this,yH]
  have e9:kcl c Re=kcl c (a₀.toList.take b)++kcl c Kz:=(v7 (kcl c) e0).trans (q0J c _ _);rw[e9,xT,<- cl c]
  by_cases z:c=K xs (x-1)
  ·have no:kcl c (xs.toList.take b)=[]:=q75 λp hp=>by
    obtain⟨m,hm⟩:=xE.mp hp;rw[xa]at hm
    split at hm
    ·rename_i hmb
     have k1:=q49 hm;have k2:=lt ∅;have k3:=ni m (b-1) ∅ ∅;have k4:K xs b=K xs (x-1):=eq b bZ hbx;omega
    ·cases hm
   rw[no,yT,zi]
  ·have no:kcl c Kz=[]:=q75 λp hp=>by
    rw[<- run]at hp;obtain⟨n,n1,n2,n3⟩:=qcm hp;have k1:=q49 n3;have k2:=eq n n1 n2;intro y;exact z ∅
   rw[no,List.reverse_nil,zi,yT]
 ·rw[Yg l1]
  have e1:xs.toList.drop x=(xs.toList.drop b).drop (x-b):=by rw[w8];congr 1;omega
  have e2:a₀.toList.drop x=(a₀.toList.drop b).drop (x-b):=by rw[w8];congr 1;omega
  rw[e1,e2,dr]
section
variable{prog:vU}{w:vZ}{A:vf}{E:vB->vC->Prop}{s:vC}{a₀:Array vT}
theorem q5K{xs ys:aZ}{x:Nat}(h:sw xs x)(e:∀k,K ys k=K xs k)(hl:x=0\/K xs x<=K xs (x-1)):sw ys (x+1):=by
 intro i j hij hj;rw[e,e];rcases yB j x with y|y
 ·exact h i j hij y
 ·obtain rfl:j=x:=∅
  rcases YB hij with z|z
  ·rw[z];exact zr _
  ·rcases hl with hl|hl
   ·omega
   ·exact yd hl (h i (j-1) ∅ ∅)
theorem qba{st:vc}{n nrem:Nat}{Q:DescSt->vc->Prop}(h0:ln)(hn:En)(h1:1<=n)(hnn:n<=nrem)(hB:Bd)(hD:DInv a₀ eI n 0)(h:∀m neq st',u8 a₀ st'->n<=m->m<=nrem->DInv a₀ bN m neq->Q (none,m,neq) st'):wpS ak A E s (descLoop n nrem) Q st:=by
 unfold descLoop;refine vi (I:=λx c st'=>∃neq,c=(none,x,neq)/\u8 a₀ st'/\DInv a₀ bN x neq) ?turn ?done ⟨0,rfl,hB,hD⟩
 case done=>
  rintro c st' ⟨neq,rfl,b1,b2⟩;rw[Nat.max_eq_right hnn]at b2 ⊢;exact h nrem neq st' b1 hnn bZ b2
 case turn=>
  rintro x c st' hx1 hx2 ⟨neq,rfl,b1,D⟩
  dsimp only
  have hsz:(vM st').size=a₀.size:=b1.size;have hle:=D.le;refine vL LW
  by_cases less:K bN x<K bN (x-1)
  ·rw[vQ less]
   simp only[if_true];obtain⟨f1,f2⟩:=D.flip ∅ hsz;have ke:=t7 (xs:=vM st') (i:=x-pJ) (j:=x) ∅ D.eq;have next:DInv a₀ (mirror bN PJ x ((x-PJ)/2)) (x+1) 0:=by
    refine⟨∅,q5K D.ni ke (.inr (yf less)),B2,eN,?_,?_⟩
    ·congr 1;omega
    ·show K _ x<K _ (x-1)
     rw[ke,ke];exact less
    ·exact f1
    ·exact f2
   by_cases hq:neq>0
   ·rw[vF hq]
    exact vL (t8 (vN ⟨0,rfl,b1.setArr CJ,next⟩))
   ·rw[vG hq]
    have hq0:neq=0:=∅
    subst hq0;have e:mirror bN VQ x ((x-VQ)/2)=vM st':=by
     have:(x-VQ)/2=0:=∅
     rw[this];rfl
    rw[e]at next
    exact vN ⟨0,rfl,b1,next⟩
  ·rw[vX less]
   simp only[yI,if_false];refine vL LW
   by_cases more:K bN (x-1)<K bN x
   ·rw[vQ more]
    simp only[if_true];exact vN (h x neq st' b1 hx1 ∅ D)
   ·rw[vX more]
    simp only[yI,if_false];have ex:K bN x=K bN (x-1):=∅
    have eb:x+1-(neq+1+1)=x-pJ:=∅
    refine vN ⟨pJ,rfl,b1,∅,q5K D.ni E2 (.inr ∅),B2,?_,?_,?_⟩
    ·rw[eb]at i1
     rw[show x+1-1=x by omega,ex];rcases yB i x with y|y
     ·exact D.eq i i1 y
     ·obtain rfl:i=x:=∅
      exact ex
    ·rw[eb];exact D.lt
    ·rw[eb];exact D.cl
    ·rw[eb];exact D.dr
theorem qbD{st:vc}{n nrem:Nat}{Q:mt}(h0:ln)(hn:En)(h1:1<=n)(hnn:n<=nrem)(hB:Bd)(hs:sw eI n)(hc:∀c,kcl c ((vM st).toList.take n)=(kcl c Rf).reverse)(hd:(vM st).toList.drop n=a₀.toList.drop n)(h:∀m st',u8 a₀ st'->1<=m->m<=nrem->uf bN m->zBG (vM st').toList a₀.toList->Q QX st'):wpS ak A E s (tail3 n nrem) Q st:=by
 unfold tail3;have hsz:n<=(vM st).size:=by rw[hB.size];omega
 refine vL (t8 ?_);have b1:u8 a₀ (setArr st (mirror eI 0 n ((n-0)/2))):=hB.setArr CJ;have stb:zBG (mirror eI 0 n ((n-0)/2)).toList a₀.toList:=λc=>by
  rw[q3F B4 hsz,Yp,yT,w9,q0J,q5I,hc c,xJ,hd,<- q0J,yH]
 refine vL (wpS_ascLoop h0 hn h1 hnn b1 Ih λm m1 m2 m3 _=>vN (h m _ b1 ∅ m2 m3 stb));show K (mirror eI 0 n ((n-0)/2)) i<=K (mirror eI 0 n ((n-0)/2)) j;rw[K_mirror hsz,K_mirror hsz,jP,jP];exact hs _ _ ∅ ∅
theorem q5Z{st:vc}{n nrem:Nat}{Q:mt}(h0:ln)(hn:En)(hnn:n+1<=nrem)(hB:Bd)(hD:DInv a₀ eI (n+1) 0)(h:∀m st',u8 a₀ st'->1<=m->m<=nrem->uf bN m->zBG (vM st').toList a₀.toList->Q QX st'):wpS ak A E s (descPart n nrem) Q st:=by
 unfold descPart;refine vL fu;refine vL (qba h0 hn ∅ hnn hB hD λm neq st' b1 m1 m2 D=>?_)
 dsimp only
 have hsz:(vM st').size=a₀.size:=b1.size;have hle:=D.le;obtain⟨f1,f2⟩:=D.flip ∅ hsz;have ke:=t7 (xs:=vM st') (i:=m-pJ) (j:=m) ∅ D.eq
 by_cases hq:neq>0
 ·rw[vF hq]
  refine vL (t8 (qbD h0 hn ∅ m2 (b1.setArr CJ) Ih f1 f2 h));show K UU j<=K UU i;rw[ke,ke];exact D.ni i j hij hj
 ·rw[vG hq]
  have hq0:neq=0:=∅
  subst hq0;have e:mirror bN aa3 m ((m-aa3)/2)=vM st':=by
   have:(m-aa3)/2=0:=∅
   rw[this];rfl
  rw[e]at f1 f2;exact qbD h0 hn ∅ m2 b1 D.ni f1 f2 h
theorem qaW{st:vc}{nrem:Nat}{Q:mt}(h0:ln)(hn:En)(h1:1<=nrem)(hB:Bd)(hA:vM st=a₀)(h:∀m st',u8 a₀ st'->1<=m->m<=nrem->uf bN m->zBG (vM st').toList a₀.toList->Q QX st'):wpS ak A E s (countRun' 0 nrem) Q st:=by
 rw[countRun0_eq];refine vL (wpS_ascLoop h0 hn (zK 1) h1 hB (λi j hij hj=>by obtain rfl:i=j:=∅;exact zr _) λn n1 n2 n3 n4=>?_)
 dsimp only
 have same:zBG (vM st).toList a₀.toList:=λc=>by rw[hA]
 by_cases e1:n=nrem
 ·rw[vF ⇑e1]
  exact vN M4
 ·rw[vG ⇑e1]
  have lt:=n4.resolve_left e1
  by_cases e2:n>1
  ·rw[vF e2]
   refine vL (wpS_ltK hB h0 ∅ ∅ ?_)
   by_cases rose:K eI 0<K eI (n-1)
   ·rw[vQ rose]
    simp only[if_true];exact vN M4
   ·rw[vX rose]
    simp only[yI,if_false];have hsz:n<=(vM st).size:=by rw[hB.size];omega
    have all:∀k,0<=k->k<n->K eI k=K eI (n-1):=λk _ hk=>by
     have a1:=n3 0 k ∅ hk;have a2:=n3 k (n-1) ∅ ∅;omega
    have ke:=t7 (xs:=vM st) (i:=0) (j:=n) hsz all;refine vL (t8 (q5Z h0 hn ∅ (hB.setArr CJ) ?_ h));show DInv a₀ (mirror eI 0 n ((n-0)/2)) (n+1) 0;have ml:=q3F (yE n) hsz;rw[Yp,yT,w9]at ml;have ll:(((vM st).toList.take n).reverse).length=n:=by rw[xS,zg,zP];omega
    have ni:sw eI n:=λi j hij hj=>by rw[all i ∅ ∅,all j ∅ hj];exact zr _
    refine⟨∅,q5K ni ke acT,B2,eN,λc=>?_,?_⟩
    ·congr 1;omega
    ·show K _ n<K _ (n-1)
     rw[ke,ke];exact lt
    ·show kcl c ((mirror eI 0 n ((n-0)/2)).toList.take n)=(kcl c Rf).reverse
     rw[ml,Yf ll,q5I,hA]
    ·show (mirror eI 0 n ((n-0)/2)).toList.drop n=a₀.toList.drop n
     rw[ml,Yg ll,hA]
  ·rw[vG e2]
   obtain rfl:n=1:=∅
   refine q5Z h0 hn ∅ hB ?_ h;have ni:sw eI 1:=λi j hij hj=>by obtain rfl:i=j:=∅;exact zr _
   refine⟨∅,q5K ni E2 acT,B2,λ_=>lt,λc=>?_,?_⟩
   ·congr 1;omega
   ·show kcl c ((vM st).toList.take 1)=(kcl c (a₀.toList.take 1)).reverse
    rw[hA,<- q5I];cases a₀.toList with
    | nil=>rfl
    | cons p r=>rfl
   ·rw[hA]
theorem qdW{st:vc}{n ok:Nat}{Q:Go}(h0:ln)(hn:n<=a₀.size)(hok:ok<=n)(hB:Bd)(hs:uf eI ok)(hS:zBG (vM st).toList a₀.toList)(h:∀st',u8 a₀ st'->uf bN n->zBG (vM st').toList a₀.toList->Q true st'):wpS ak A E s (binarySort' 0 n ok) Q st:=by
 rw[binarySort'_eq];simp only[xU];refine vL (uA (vi (I:=λj c st'=>c=(none,())/\u8 a₀ st'/\uf bN (min j n)/\zBG (vM st').toList a₀.toList)
  (Q:=λc st'=>c=(none,())/\u8 a₀ st'/\uf bN n/\zBG (vM st').toList a₀.toList) ?turn ?done ?first) λc st' z=>?_)
 case first=>
  refine⟨rfl,hB,Ih,hS⟩
  by_cases y:ok=0
  ·obtain rfl:i=j:=∅
   exact zr _
  ·exact hs i j hij ∅
 case done=>
  rintro c st' ⟨hc,b1,b2,b3⟩;rw[show min (max (max ok 1) n) n=n by omega]at b2;exact⟨hc,b1,b2,b3⟩
 case turn=>
  rintro j c st' j1 j2 ⟨rfl,b1,b2,b3⟩;rw[show min j n=j by omega]at b2;have hj:j<a₀.size:=∅
  have hjs:j<(vM st').size:=by rw[b1.size];exact hj
  refine vL (uA (vi (I:=λx c st2=>st2=st'/\∃l r,c=Tz/\l<=r/\r<=j/\r-l<=j-x/\(∀i,i<l->K bN i<=K bN j)/\∀i,r<=i->i<j->K bN j<K bN i)
   (Q:=λc st2=>st2=st'/\∃l r,c=Tz/\l<=j/\(∀i,i<l->K bN i<=K bN j)/\∀i,l<=i->i<j->K bN j<K bN i) ?half ?found ?all) λc st2 z=>?_)
  case all=>exact⟨rfl,0,j,rfl,B4,bZ,∅,λi y=>∅,λi y1 y2=>∅⟩
  case found=>
   rintro c st2 ⟨rfl,l,r,rfl,c1,c2,c3,c4,c5⟩;obtain rfl:l=r:=∅
   exact Nf
  case half=>
   rintro x c st2 _ hx ⟨rfl,l,r,rfl,c1,c2,c3,c4,c5⟩
   dsimp only
   by_cases y:l>=r
   ·rw[JD]
    obtain rfl:l=r:=∅
    exact vN Nf
   ·rw[KG]
    refine vL (wpS_ltK b1 h0 hj ∅ ?_)
    by_cases less:K lD j<K lD ((l+r)/2)
    ·rw[vQ less]
     simp only[if_true];refine vN ⟨rfl,l,(l+r)/2,rfl,∅,∅,∅,c4,B2⟩;exact Int.lt_of_lt_of_le less (b2 _ _ i1 i2)
    ·rw[vX less]
     simp only[yI,if_false];refine vN ⟨rfl,(l+r)/2+1,r,rfl,∅,∅,∅,λi i1=>?_,c5⟩;have:=b2 i ((l+r)/2) ∅ ∅;omega
  obtain⟨rfl,l,r,rfl,c1,c2,c3⟩:=z;show wpS _ _ _ _ (do moveDown' j l;pure (ForInStep.yield (none,()))) _ _;rw[moveDown'_eq];refine vL (uZ (vN ⟨rfl,b1.setArr Sj,?_,?_⟩))
  ·rw[show min (j+1) n=j+1 by omega]
   intro i k hik hk;show K Sk i<=K Sk k;rw[sx hjs ∅,sx hjs ∅,show j-(j-l)=l by omega]
   repeat' split
   all_goals first
    | (exfalso;omega)
    | exact zr _
    | exact c2 _ ∅
    | exact yf (c3 _ ∅ ∅)
    | exact b2 _ _ ∅ ∅
  ·intro c
   rw[<- b3 c];exact qaZ hjs c1 c3 c
 obtain⟨rfl,b1,b2,b3⟩:=z;exact vN (h st' b1 b2 b3)
def zCg(a₀:aZ)(st:vc):Prop:=SDone a₀ st/\zBG (vM st).toList a₀.toList
theorem qbf{st:vc}{Q:Ga}(h0:ln)(hB:Bd)(hA:vM st=a₀)(h2:2<=a₀.size)(h64:a₀.size<64)(h:∀st',(vM st').Perm a₀->uN st'=none->uf bN a₀.size->zBG (vM st').toList a₀.toList->Q () st'):wpS ak A E s sortRuns' Q st:=by
 rw[sortRuns'_eq];refine vL oR
 dsimp only
 have mr:sQ a₀.size a₀.size 0=a₀.size:=by
  cases e:a₀.size with
  | zero=>omega
  | succ f=>rw[minRun'_succ,jP]
 simp only[hB.size,mr];refine vL (uA (vi (I:=λx c st'=>(x=0/\c=(none,0)/\st'=st)\/(1<=x/\c=JM/\zCg a₀ st')) (Q:=λc st'=>c=JM/\zCg a₀ st') ?turn ?done (.inl aaL)) λc st' z=>?_)
 case done=>
  rintro c st' (⟨y,_,_⟩|⟨_,y1,y2⟩)
  ·omega
  ·exact⟨y1,y2⟩
 case turn=>
  rintro x c st' _ hx (⟨rfl,rfl,rfl⟩|⟨x1,rfl,D⟩)
  ·dsimp only
   rw[fO];simp only[Nat.sub_zero,Nat.min_self,xU];refine vL (qaW h0 bZ ∅ hB hA λm st2 b1 m1 m2 m3 m4=>?_)
   dsimp only
   by_cases y:m<a₀.size
   ·rw[JD]
    refine vL fu;refine vL (qdW h0 bZ m2 b1 m3 m4 λst3 d1 d2 d3=>?_);simp only[Z1,yI,if_false];refine vL oR;have nb:(ve st3).back?=none:=by rw[d1.pend];rfl
    rw[nb]
    dsimp only
    exact vL (uZ (vN (.inr ⟨∅,rfl,d1.done d2,d3⟩)))
   ·rw[KG]
    obtain rfl:m=a₀.size:=∅
    refine vL oR;have nb:(ve st2).back?=none:=by rw[b1.pend];rfl
    rw[nb]
    dsimp only
    exact vL (uZ (vN (.inr ⟨∅,rfl,b1.done m3,m4⟩)))
  ·dsimp only
   rw[vF bZ];exact vN ⟨rfl,D⟩
 obtain⟨rfl,D⟩:=z
 dsimp only
 refine vL (uA (vi (I:=λ_ c st2=>st2=st'/\c=(none,())) (Q:=λc st2=>st2=st'/\c=(none,())) (λx c st2 _ _ y=>?_) (λ_ _ y=>y) bY) λc st2 y=>?_)
 ·obtain⟨rfl,rfl⟩:=y
  refine vL oR;rw[vF (by rw[D.1.2.2.1];exact zK 1)];exact vN bY
 ·obtain⟨rfl,rfl⟩:=y
  exact vN (h _ D.1.1 D.1.2.1 D.1.2.2.2 D.2)
end
section
variable{α β:Type}
noncomputable def zAf(f:lx)(x:α):List α->List α
 | []=>[x]
 | y::r=>if f x<=f y then x::y::r else y::zAf f x r
noncomputable def XX(f:lx)(l:bB):List α:=l.foldr (zAf f) []
noncomputable def clK(f:lx)(c:Int)(l:bB):List α:=l.filter λx=>f x==c
theorem q5c{f:lx}{x:α}:∀{l:bB},(zAf f x l).Perm (x::l)
 | []=>.refl _
 | y::r=>by
  unfold zAf
  split
  ·exact .refl _
  ·exact(q5c.cons y).trans (.swap x y r)
theorem q0c{f:lx}:∀{l:bB},(XX f l).Perm l
 | []=>.refl _
 | y::r=>q5c.trans ((q0c (l:=r)).cons y)
theorem q5k(f:lx)(l:bB):(XX f l).length=l.length:=q0c.length_eq
theorem qbE{f:lx}{x:α}:∀{l:bB},l.Pairwise lM->(zAf f x l).Pairwise lM
 | [],_=>ZS _ _
 | y::r,h=>by
  obtain⟨h1,h2⟩:=zZ.mp h;unfold zAf
  split
  ·rename_i z
   refine zZ.mpr ⟨Nn,h⟩;rcases zH.mp ha with rfl|ha
   ·exact z
   ·exact yd z (h1 a ha)
  ·rename_i z
   refine zZ.mpr ⟨Nn,qbE h2⟩;rcases zH.mp (q5c.mem_iff.mp ha)with rfl|ha
   ·omega
   ·exact h1 a ha
theorem q4y{f:lx}:∀{l:bB},(XX f l).Pairwise lM
 | []=>.nil
 | y::r=>qbE (q4y (l:=r))
theorem qc0{f:lx}{x:α}(c:Int):∀{l:bB},l.Pairwise lM->clK f c (zAf f x l)=clK f c (x::l)
 | [],_=>rfl
 | y::r,h=>by
  obtain⟨h1,h2⟩:=zZ.mp h;unfold zAf
  split
  ·rfl
  ·rename_i z
   have ih:=qc0 (x:=x) c h2;unfold clK at ih ⊢;rw[zy,ih,zy,zy,zy]
   by_cases a:f x=c
   ·have:¬f y=c:=∅
    simp[a,this]
   ·simp[a]
theorem qaF{f:lx}(c:Int):∀{l:bB},clK f c (XX f l)=clK f c l
 | []=>rfl
 | y::r=>by
  show clK f c (zAf f y (XX f r))=_;rw[qc0 c q4y];unfold clK;rw[zy,zy];have ih:=qaF (f:=f) c (l:=r);unfold clK at ih;rw[ih]
theorem q2I{f:lx}{a:α}{l:bB}:clK f (f a) (a::l)=a::clK f (f a) l:=by
 unfold clK;rw[zy,vF (by simp)]
theorem qbz{f:lx}:∀{l m:bB},l.Pairwise lM->m.Pairwise lM->(∀c,clK f c l=clK f c m)->l=m
 | [],m,_,_,h=>by
  cases m with
  | nil=>rfl
  | cons b m=>have:=h (f b);rw[q2I]at this;cases this
 | a::l,m,h1,h2,h=>by
  cases m with
  | nil=>have:=h (f a);rw[q2I]at this;cases this
  | cons b m=>
   obtain⟨p1,p2⟩:=zZ.mp h1;obtain⟨q1,q2⟩:=zZ.mp h2;have x1:a∈b::m:=by
    have:a∈clK f (f a) (b::m):=by rw[<- h,q2I];exact zE
    exact(yG.mp this).1
   have x2:b∈a::l:=by
    have:b∈clK f (f b) (a::l):=by rw[h,q2I];exact zE
    exact(yG.mp this).1
   have e:f a=f b:=by
    rcases zH.mp x1 with y|y
    ·rw[y]
    ·rcases zH.mp x2 with z|z
     ·rw[z]
     ·have:=q1 a y;have:=p1 b z;omega
   have hab:=h (f a);rw[q2I]at hab;rw[e,q2I]at hab;obtain⟨rfl,_⟩:=Z2 hab;refine v7 (a::·) (qbz p2 q2 λc=>?_);have hc:=h c;unfold clK at hc ⊢;rw[zy,zy]at hc
   by_cases z:(f a==c)=true
   ·rw[fQ,fQ]at hc;exact(Z2 hc).2
   ·rw[fI,fI]at hc;exact hc
theorem q9O{f:β->Int}{g:R4}{x:α}:∀{l:bB},zAf f (g x) aa4=(zAf abW x l).map g
 | []=>rfl
 | y::r=>by
  show (if f (g x)<=f (g y)then _ else _)=(if f (g x)<=f (g y)then _ else _:List α).map g
  split
  ·rfl
  ·rw[q9O];rfl
theorem q2j{f:β->Int}{g:R4}:∀{l:bB},XX f aa4=(XX abW l).map g
 | []=>rfl
 | y::r=>by
  show zAf f (g y) (XX f (r.map g))=(zAf _ y (XX _ r)).map g;rw[q2j,q9O]
end
theorem qiS{a₀ xs:aZ}(hp:xs.Perm a₀)(hs:uf xs a₀.size)(hS:zBG xs.toList a₀.toList):xs.toList=XX (λp=>t6 p.1) a₀.toList:=by
 have hn:xs.size=a₀.size:=hp.size_eq;refine qbz (f:=λp:vT=>t6 p.1) (ya.mpr λi j hi hj hij=>?_) q4y λc=>(hS c).trans (qaF c).symm;have e1:=q49 (xs:=xs) (i:=i) (zD hi);have e2:=q49 (xs:=xs) (i:=j) KF;rw[<- e1,<- e2];exact hs i j ∅ (by rw[zP]at hj;omega)
end Hk
namespace Hk
open PySem PySem.Spec PyProof.Rows L2
section
variable{X:Cx}{pins:List (vH×Obj)}{σ:L2.St}{H:Hp}{s:vC}
theorem qem{h':vk}{a:vH}{ys:a8}{its:a0}{n t':Nat}(I:aq)(fa:rC)(k:∀b o,b≠a->s.heap.get? b=some o->h'.get? b=some o)(new:h'.get? a=some { cls:=.type "list", data:=.seq its.toArray n })(hv:Xc ys its)(hz:GZ):Inv X pins σ (upd H a pP) { s with heap:=h',toks:=t' }:=by
 obtain⟨f0,f1,f2,f3,f4,f5⟩:=fa;have I1:=I.turned (h':=h') (t':=t') (it:=a) k f0 f1 f3 f4 f5;have na:∀{b:vH}{u:HO},H b=some u->b≠a:=λq z=>by rw[z,f0]at q;cases q
 refine Inv.step (s:={ s with heap:=h',toks:=t' }) (H':=upd H a pP) (h':=h') (g':=s.gens) (d':=s.drawn) (t':=t') (ch:=[a]) I1 kW (λb o _ _ _ e _=>e) (λb o _ _ _ e _=>⟨o.slots,e⟩)
  (λb o hc e n=>by rw[qd ⇑hc];exact n) (λb o _ e=>GR) (λb xs q=>by rw[KO];exact q) (λb o u q=>by rw[KO];exact q)
  (λb ps q=>⟨#[],by rw[KO,q];simp⟩) (λ_ hm=>hm) (λb u q=>?_) I1.bare
 ·cases zU.mp hb
  exact aaM
 ·by_cases z:b=a
  ·subst z
   rw[qe]at q;cases q;exact⟨hz,its,n,hv,new⟩
  ·rw[qd z]at q
   exact(I1.hok b u q).stay No (λc q=>by rw[KO];exact q) (λc xs q=>by rw[KO];exact q)
theorem qio{k:Nat}{f:vH}{fd:vS}{ps:dN}{sp:Sp}{E:XK}{Q:VK}{us:a0}{vs:a8}{E':aM}(F:FnOk X.prog X.w X.K X.mg X.base CX0 k f fd ps sp)(hr:Gc)(hb:n9)(I:aq)(r:Xc vs us)(h:sp vs H Q E):vP ao X.A.in1.in1 (call iP us) cv E' s:=by
 have hl:(us++[]).length=ps.length:=by rw[zi,<- r.length];exact F.len _ _ _ _ h
 have b:=hb s us I.kIn hl;rw[zi]at b;refine wpAny_call (ug (F.run X.A.in1.in1 X.stack s H BZ us vs Q E hr.in1.in1 I.env0.in1.in1 b r h) λr s' hq=>?_);cases r with
 | error e=>exact False.elim hq
 | ok fl=>
  cases fl with
  | ret u=>exact I.after hq
  | next=>exact False.elim hq
  | brk=>exact False.elim hq
  | cont=>exact False.elim hq
end
theorem q3P{α:Type}{f g:lx}:∀{l:bB},(∀x∈l,f x=g x)->XX f l=XX g l
 | [],_=>rfl
 | y::r,h=>by
  show zAf f y (XX f r)=zAf g y (XX g r);rw[q3P λx hx=>h x jT];have:∀{l:bB},(∀x∈l,f x=g x)->zAf f y l=zAf g y l:=λ{l} hl=>by
   induction l with
   | nil=>rfl
   | cons z r ih=>
    unfold zAf;rw[h y zE,hl z zE,ih λx hx=>hl x jT]
  exact this λx hx=>h x (zF _ (q0c.mem_iff.mp hx))
theorem q9z{α:Type}{f:α->V}{g:α->vB}:∀{l:bB},(∀t∈l,RelV (f t) (g t))->Xc (l.map f) aa4
 | [],_=>.nil
 | t::r,h=>.cons (h t zE) (q9z λx hx=>h x jT)
theorem q7w:∀{xs:a8}{vs:a0}{i:Nat}{v:vB},Xc xs vs->vs[i]?=some v->∃x,xs[i]?=some x/\RelV x v
 | _,_,i,v,.nil,h=>by simp at h
 | _,_,0,v,.cons r _,h=>by simp at h;subst h;exact OQ
 | _,_,i+1,v,.cons _ r,h=>by
  obtain⟨x,a,b⟩:=q7w (i:=i) r ⇑h;exact⟨x,by simpa using a,b⟩
theorem q9L:∀{vs:a0}{ns:af}{i:Nat}{v:vB},uC vs ns->vs[i]?=some v->ns[i]?=some (t6 v)
 | _,_,i,v,.nil,h=>by simp at h
 | _,_,0,v,.cons _ _ _,h=>by simp at h;subst h;rfl
 | _,_,i+1,v,.cons _ _ r,h=>by
  have:=q9L (i:=i) r ⇑h;simpa using this
theorem qb7{xs:a8}{vs ks:a0}{ds:aW}{kf:D->Int}(rv:NS)(hd:Hf)(hk:uC ks (ds.map kf)):Xc ((XX (λz:D×V=>kf z.1) kQ).map (·.2)) ((XX (λp:vB×vB=>t6 p.1) (ks.zip vs)).map (·.2)):=by
 have l1:=rv.length;have l2:=hk.length;rw[zA]at l2
 let L:=(ds.zip xs).zip (ks.zip vs)
 have e1:ds.zip xs=L.map Prod.fst:=by
  rw[Yb];rw[xP,xP];omega
 have e2:ks.zip vs=L.map Prod.snd:=by
  rw[List.map_snd_zip];rw[xP,xP];omega
 have mem:∀t∈L,kf t.1.1=t6 t.2.1/\RelV t.1.2 t.2.2:=λt ht=>by
  obtain⟨i,hi⟩:=xE.mp ht;obtain⟨a1,a2⟩:=xD.mp hi;obtain⟨b1,b2⟩:=xD.mp a1;obtain⟨c1,c2⟩:=xD.mp a2;obtain⟨x,g1,g2⟩:=q7w rv c2;rw[b2]at g1;cases g1;have g3:=q9L hk c1;rw[ze,b1]at g3;exact⟨zw g3,g2⟩
 rw[e1,e2,q2j,q2j,yK,yK,q3P λt ht=>(mem t ht).1];exact q9z λt ht=>(mem t Sc).2
section
variable{X:Cx}{pins:List (vH×Obj)}{σ:L2.St}{G H:Hp}{s:vC}{a kS:vH}{xs:List V}{vs:List vB}{ds:List D}{kf:D->Int}
noncomputable def apart(pins:ay)(a kS:vH)(e1:Nat)(ks:dw)(e:Nat):List rf:=pins++[(kS,DL),(a,vz "list" #[] e1)]
theorem q6p(I:e8):s.heap.get? kS=some DL/\H kS=none:=by
 have:=I.pin (kS,DL) (zO _ (zO _ zE));exact RU
theorem q7s(I:e8):s.heap.get? a=some (vz "list" #[] e1)/\H a=none:=by
 have:=I.pin (a,vz "list" #[] e1) (zO _ (zO _ (zF _ zE)));exact RU
theorem q8q(I:e8):Inv X pins σ H s:=I.unpinned
theorem q9l{e1 e:Nat}{ks:dw}(I:aq)(fk:FY)(fa:rC)(hk:s.heap.get? kS=some DL)(ha:s.heap.get? a=some (vz "list" #[] e1)):Inv X fA σ H s :=
 I.pins_of λp hp=>by
  rcases zM.mp hp with z|z
  ·exact I.pin p (zO _ z)
  ·rcases zH.mp z with rfl|z
   ·exact⟨hk,fk.1,fk.2.1,fk.2.2.1,λv h=>by cases h⟩
   ·cases zU.mp z
    exact⟨ha,fa.1,fa.2.1,fa.2.2.1,λv h=>by cases h⟩
theorem q7K{h:vk}{b:vH}{ys:dw}{n:Nat}(q:h.get? b=some (vz "list" ys n))(f:aaz):∃n',(h.update b MJ).get? b=some (vz "list" (f ys) n'):=⟨_,get?_update_seq q f⟩
theorem q5C{H':Hp}{b:vH}(h:Wo X pins H b)(n:H' b=none):Wo X pins H' b:=⟨n,h.2⟩
theorem qag{st:vc}{ks:dw}{e e1:Nat}{P:Ac}{E:aM}{A:vf}(I:e8)(ne:kS≠a)(fk:FY)(fa:rC)(rv:NS)(hd:Hf)(hk:OX)(h64:JC)(ho:(vM st).toList=XX (λp:vT=>t6 p.1) TD)(hf:uN st=none)(h:∀s',Inv X pins σ (upd H a (.lst ((XX (λz:D×V=>kf z.1) kQ).map (·.2)))) s'->P mh s'):
  vP ao A (ksk_tail a false e1 abI st) P E s:=by
 obtain⟨qk,hk0⟩:=q6p I;obtain⟨qa,ha0⟩:=q7s I;have I0:=q8q I;have lk:ks.toList.length=vs.length:=by have:=hk.length;have:=rv.length;rw[zA]at *;omega
 have lo:((vM st).map (·.2)).size=vs.length:=by
  rw[Yq,<- zP,ho,q5k,xP];omega
 have qa1:(s.heap.update kS (Obj.mapSeq λ_=>(#[]:Array vB))).get? a=some (vz "list" #[] e1):=(zt _ _ ne).trans qa;obtain⟨c2,qa2⟩:=q7K qa1 (λ_=>(vM st).map (·.2));have sv:=qb7 rv hd hk;have el:((vM st).map (·.2)).toList=(XX (λp:vB×vB=>t6 p.1) TD).map (·.2):=by rw[Array.toList_map,ho]
 unfold ksk_tail
 try dsimp only
 refine vA (um qk rfl (vA (sZ (vA (t9 qa1 rfl ?_)))) (by rw[<- zP,lk,vh];omega) B4);refine vA (um qa1 rfl ?_ B4 (by show ((vM st).map (·.2)).size<=_;rw[lo,vh];omega));rw[hf];simp only[bne_self_eq_false,yI,if_false];refine vJ (h _ ?_);have I1:=I0.turned (h':=s.heap.update kS (Obj.mapSeq λ_=>(#[]:Array vB))) (t':=s.toks) (it:=kS) gz fk.1 fk.2.1 fk.2.2.2.1 fk.2.2.2.2.1 fk.2.2.2.2.2;refine qem (s:={ s with heap:=s.heap.update kS (Obj.mapSeq λ_=>(#[]:Array vB)) }) (its:=((vM st).map (·.2)).toList) (n:=c2) (t':=s.toks) I1 fa gz ?_ (by rw[el];exact sv) ?_
 ·rw[xI];exact qa2
 ·rw[sv.length,<- el,zP,lo,vh];omega
theorem qiy{ks:dw}{e e1:Nat}{P:Ac}{E:aM}{A:vf}(I:e8)(ne:kS≠a)(fk:FY)(fa:rC)(rv:NS)(hd:Hf)(hk:OX)(h64:JC)(h:∀s',Inv X pins σ (upd H a (.lst ((XX (λz:D×V=>kf z.1) kQ).map (·.2)))) s'->P mh s'):
  vP ao A (ksk_end a false vs.toArray e1 abI ks) P E s:=by
 have lk:ks.size=vs.length:=by rw[<- zP];have:=hk.length;have:=rv.length;rw[zA]at *;omega
 have lz:(ks.zip vs.toArray).size=vs.length:=by rw[Array.size_zip,lk,zQ,Nat.min_self]
 have ez:(ks.zip vs.toArray).toList=ks.toList.zip vs:=ksk_zip ks vs;unfold ksk_end
 try dsimp only
 rw[vG (by decide)]
 by_cases h2:vs.toArray.size<2
 ·rw[QP,QP]
  refine vA fF;rw[StateT.run_pure];refine vA (vJ (qag (st:=SortSt.mk' general' FB #[] 7 none) I ne fk fa rv hd hk h64 ?_ rfl h));show (ks.zip vs.toArray).toList=_;rw[ez];rw[zQ]at h2;have l2:(ks.toList.zip vs).length<2:=by rw[xP];omega
  match ks.toList.zip vs,l2 with
  | [],_=>rfl
  | [_],_=>rfl
  | _::_::_,l2=>simp at l2;omega
 ·rw[QN,QN]
  rw[zQ]at h2;rw[ksk_kind hk (by rw[lk];omega)];refine vA (vJ (vA (vt (qbf (a₀:=ks.zip vs.toArray) (st:=SortSt.mk' uB FB #[] 7 none)
   (Q:=λ_ st'=>(vM st').Perm FB/\uN st'=none/\uf bN (ks.zip vs.toArray).size/\zBG (vM st').toList (ks.zip vs.toArray).toList)
   (ksk_intKeys hk) QC rfl (by rw[lz];omega) (by rw[lz];exact h64) λst' b1 b2 b3 b4=>⟨b1,b2,b3,b4⟩) ?_ λ_ _ z=>z)))
  rintro⟨⟨⟩,st'⟩ s' ⟨rfl,b1,b2,b3,b4⟩
  try dsimp only
  refine qag I ne fk fa rv hd hk h64 ?_ b2 h;rw[qiS b1 b3 b4,ez]
theorem qgR{k:Nat}{f:vH}{fd:vS}{ps:dN}{m:cf}{e1:Nat}{P:Ac}{E:aM}(F:hW)(hr:Gc)(hb:n9)(I:Inv X (apart pins a kS e1 #[] 0) σ H s)(ne:kS≠a)(fk:FY)(fa:rC)(sg:BF)(rp:NV)(rv:NS)(h64:JC)(hm:∀d∈ds,m [d]=↥Oa)(h:∀G' H' s',Ext G H G' H'->H' a=none->Inv X pins σ (upd H' a (.lst ((XX (λz:D×V=>kf z.1) kQ).map (·.2)))) s'->P mh s'):
  vP ao X.A.in1.in1 (ksk_rest a iP false vs.toArray e1 abI) P E s:=by
 have ld:ds.length=xs.length:=rp.len;have lv:xs.length=vs.length:=rv.length;unfold ksk_rest;refine vA UJ;rw[List.forIn_toArray];refine vA (ksk_fold (λi s'=>∃G' H' ks e,Inv X fA σ H' s'/\Ext G H G' H'/\uC ks.toList ((ds.map kf).take i)) vs 0 s
  ⟨G,H,#[],0,I,Ext.refl sg,by simpa using IntsAre.nil⟩ ?turn ?done)
 case turn=>
  rintro j x s' hx ⟨G',H',ks,e,I',x',hk⟩;simp only[xU]at hk ⊢;have hj:j<vs.length:=(zj.mp hx).1;obtain⟨y,hy,ry⟩:=q7w rv hx;have hdj:ds[j]?=some ds[j]:=zD ∅;obtain⟨y',hy',rd⟩:=rp.get hdj;rw[hy]at hy';cases hy';have lks:ks.size<=vs.length:=by
   have:=hk.length;rw[zP,zg]at this;omega
  refine vA (uT (vt (qio (Q:=λv H2=>v=.int (kf ds[j])/\∃G2,Ext G H G2 H2) (E:=λ_ _ _=>False) (E':=λ_ _=>False) F hr hb I' (.cons ry .nil) ?_) (λu s2 he=>?_) λ_ _ z=>False.elim z))
  ·exact⟨G',[ds[j]],_,hm _ (yQ ∅),rfl,x'.gh,XN.cons (rd.mono x'.gg) XN.nil,λv G2 H2 x2 y2=>⟨y2,G2,x'.trans x2⟩⟩
  ·obtain⟨v,H2,I2,rvu,rfl,G2,x2⟩:=he
   obtain⟨t2,rfl⟩:∃t,u=.int (kf ds[j]) t:=by
    obtain⟨t,z⟩:=rvu;exact⟨t,z⟩
   try dsimp only
   obtain⟨qk,hk0⟩:=q6p I2;obtain⟨qa,ha0⟩:=q7s I2;obtain⟨c2,qk2⟩:=q7K qk (·.push (.int (kf ds[j]) t2));have fk2:=q5C fk hk0;refine vA (um qk rfl (vJ ⟨rfl,G2,H2,ks.push (.int (kf ds[j]) t2),c2,?_,x2,?_⟩) (by rw[vh];omega) (by rw[Zj,vh];omega))
   ·have I3:=(q8q I2).turned (h':=s2.heap.update kS (Obj.mapSeq (·.push (.int (kf ds[j]) t2)))) (t':=s2.toks) (it:=kS) gz fk2.1 fk2.2.1 fk2.2.2.2.1 fk2.2.2.2.2.1 fk2.2.2.2.2.2
    exact q9l I3 fk2 (q5C fa ha0) qk2 ((zt _ _ ne).trans qa)
   ·have ek:(ds.map kf).take (j+1)=(ds.map kf).take j++[kf ds[j]]:=by
     rw[YL,ze,hdj];rfl
    have ea:(ks.push (Value.int (kf ds[j]) t2)).toList=ks.toList++[Value.int (kf ds[j]) t2]:=by simp
    rw[ea,ek];exact ksk_snoc hk
 case done=>
  rintro s' ⟨G',H',ks,e,I',x',hk⟩;rw[yr (by rw[zA];omega)]at hk;obtain⟨qk,hk0⟩:=q6p I';obtain⟨qa,ha0⟩:=q7s I'
  try dsimp only
  exact vA (sS qk rfl (qiy I' ne (q5C fk hk0) (q5C fa ha0) rv ld hk h64 λs2 I2=>h G' H' s2 x' ha0 I2))
end
section
variable{X:Cx}{pins:List (vH×Obj)}{σ:L2.St}{G H:Hp}{s:vC}{a:vH}{xs:List V}{vs:List vB}{ds:List D}{kf:D->Int}{k:Nat}{f:vH}{fd:vS}{ps:List Str}{m:List D->Option O}
theorem qgN{n:Nat}{P:Ac}{E:aM}(F:hW)(hr:Gc)(hb:n9)(I:aq)(fa:rC)(qa:s.heap.get? a=some Bs)(sg:BF)(rp:NV)(rv:NS)(h64:JC)(hm:∀d∈ds,m [d]=some (.sh Oa))(h:∀G' H' s',Ext G H G' H'->H' a=none->Inv X pins σ (upd H' a (.lst ((XX (λz:D×V=>kf z.1) kQ).map (·.2)))) s'->P mh s'):
  vP ao X.A.in1.in1 (ksk_tree a iP false) P E s:=by
 obtain⟨e1,qa1⟩:=q7K qa (λ_=>(#[]:Array vB));have la:a<s.heap.objs.size:=zS qa;have I3:=I.turned (h':=s.heap.update a (Obj.mapSeq λ_=>(#[]:Array vB))) (t':=s.toks) (it:=a) gz fa.1 fa.2.1 fa.2.2.2.1 fa.2.2.2.2.1 fa.2.2.2.2.2;have I4:=I3.kept (h':=(s.heap.update a (Obj.mapSeq λ_=>(#[]:Array vB))).push mI) (t':=s.toks) λb u q=>zG _ q;have fk:=I4.fpOk bZ (I4.hok.fresh bZ);have I5:=I4.kept (h':=((s.heap.update a (Obj.mapSeq λ_=>(#[]:Array vB))).push mI).push (vz "list" #[] 0)) (t':=s.toks) λb u q=>zG _ q;have qa5:(((s.heap.update a (Obj.mapSeq λ_=>(#[]:Array vB))).push mI).push (vz "list" #[] 0)).get? a=some (vz "list" #[] e1):=zG _ (zG _ qa1);have hn:((s.heap.update a (Obj.mapSeq λ_=>(#[]:Array vB))).push mI).objs.size=s.heap.objs.size+1:=by rw[size_push',xW]
 have I6:=q9l (e:=0) (ks:=#[]) I5 fk fa iK qa5;have z64:vs.toArray.size<=sizeLine:=by rw[zQ,vh];omega
 unfold ksk_tree;refine vA (sS qa rfl (vA (um qa rfl (vA (t9 qa1 rfl (vA (tJ (vA (uk Fq B4)) ⇑z64)))) z64 B4)));exact qgR F hr hb I6 (by rw[hn];exact wC (yX la)) fk fa sg rp rv h64 hm h
theorem qdg{p:vH}{Q:VK}{E:aM}(F:hW)(hr:Gc)(hb:n9)(I:aq)(hp:H p=some eF)(sg:BF)(rp:NV)(h64:xs.length<64)(hm:∀d∈ds,m [d]=↥Oa)(q:∀G' H' l,Ext G H G' H'->H' l=none->H l=none->Q cX (upd H' l (.lst ((XX (λz:D×V=>kf z.1) kQ).map (·.2))))):
  vP ao X.A (call fE Rh [(kL, iP)]) cv E s:=by
 obtain⟨vs,n0,rv,e0,_⟩:=I.lst hp;have lv:xs.length=vs.length:=rv.length;have z64:vs.length<=sizeLine:=by rw[vh];omega
 have hn:((s.heap.push (vz "list" #[] 0)).update s.heap.objs.size (Obj.mapSeq (·++vs.toArray))).objs.size=s.heap.objs.size+1:=by rw[xW,size_push']
 have keep:∀b o,s.heap.get? b=some o->(((s.heap.push (vz "list" #[] 0)).update s.heap.objs.size (Obj.mapSeq (·++vs.toArray))).push dY).get? b=some o:=λb o z=>by
  have lt:b<s.heap.objs.size:=zS z;exact zG _ ((zt _ _ (wC lt)).trans (zG _ z))
 have I2:=I.kept (t':=s.toks) keep;have fa:Wo X pins H iG:=I.fpOk MX aau;have qa:(((s.heap.push (vz "list" #[] 0)).update s.heap.objs.size (Obj.mapSeq (·++vs.toArray))).push dY).get? iG=some dY:=by
  rw[<- hn];exact zY _ rfl
 refine call_function_entry_kw tt tV tW (ksk_s1 _ _) ?_;unfold Builtin.«sorted»;apply vA (m:=sK "sorted" 1 1 _);apply vJ;refine vA (collect_list ⟨_,e0,rfl,n0,rfl⟩ (vA (uk ?_ z64)) z64);show vP _ _ _ _ _ { s with heap:=((s.heap.push (vz "list" #[] 0)).update s.heap.objs.size (Obj.mapSeq (·++vs.toArray))).push dY };rw[hn];refine vA (vn (wpAny_call_entry_kw slot_list_sort ⟨_,qa,rfl⟩ entry_list_sort ?go (ksk_l1 _ _)))
 case go=>
  show vP ao X.A.in1.in1 (Builtin.«list.sort» ⟨[.ref iG],[(kL, iP)]⟩) _ _ _;rw[ksk_t1];refine qgN F hr hb I2 fa qa sg rp rv ∅ hm λG' H' s' x' hn' I'=>cn;exact vJ ⟨_,rfl,SG,_,I',rfl,q G' H' _ x' hn' fa.1⟩
theorem q9J{K:zC}{G:Hp}:∀{l:List (D×V)},(∀t∈l,Rep K G t.1 t.2)->XN K G (l.map (·.1)) (l.map (·.2))
 | [],_=>rfl
 | t::r,h=>XN.cons (h t zE) (q9J λx hx=>h x jT)
theorem qdb{K:zC}{G:Hp}{ds:aW}{xs:a8}{kf:D->Int}(h:XN K G ds xs):XN K G (XX kf ds) ((XX (λz:D×V=>kf z.1) kQ).map (·.2)):=by
 have l:=h.len;have e:ds=(ds.zip xs).map Prod.fst:=by rw[Yb];omega
 have mem:∀t∈ds.zip xs,Rep K G t.1 t.2:=λt ht=>by
  obtain⟨i,hi⟩:=xE.mp ht;obtain⟨a1,a2⟩:=xD.mp hi;obtain⟨v,b1,b2⟩:=h.get a1;rw[a2]at b1;cases b1;exact b2
 have e2:XX kf ds=(XX (λz:D×V=>kf z.1) kQ).map (·.1):=by
  conv=>lhs;rw[e]
  rw[q2j]
 rw[e2];exact q9J λt ht=>mem t Sc
noncomputable def zB8(m:cf)(d:D):Int:=match m [d]with
 | ↥(.int k)=>k
 | _=>0
noncomputable def keyOk(m:cf)(d:D):Bool:=match m [d]with
 | ↥(.int _)=>true
 | _=>false
theorem qgK{m:cf}{d:D}(h:keyOk m d=true):m [d]=↥(.int (zB8 m d)):=by
 unfold keyOk at h;unfold zB8
 split at h
 ·rename_i k e;rw[e]
 ·cases h
noncomputable def tSortK(K:zC)(m:cf)(te:TE):TE:=λσ H Q=>te σ H λv H1=>∃p xs G ds,v=.ref p/\H1 p=some eF/\Xf G H1/\XN K G ds xs/\xs.length<64/\(∀d∈ds,keyOk m d=true) /\
 ∀G' H' l,Ext G H1 G' H'->H' l=none->H1 l=none->Q cX (upd H' l (.lst ((XX (λz:D×V=>zB8 m z.1) kQ).map (·.2))))
def askK(K:zC)(m:cf)(Q:VK):V->Hp->Prop:=λv H1=>∃p xs G ds,v=.ref p/\H1 p=some eF/\Xf G H1/\XN K G ds xs/\xs.length<64/\(∀d∈ds,keyOk m d=true) /\
 ∀G' H' l,Ext G H1 G' H'->H' l=none->H1 l=none->Q cX (upd H' l (.lst ((XX (λz:D×V=>zB8 m z.1) kQ).map (·.2))))
def one1(R:V->Hp->Prop):List V->Hp->Prop:=λus H1=>match us with
 | [v]=>R v H1
 | _=>False
theorem qiX{R:V->Hp->Prop}{us:a8}{H1:Hp}(h:one1 R us H1):∃v,us=[v]/\R v H1:=by
 unfold one1 at h
 split at h
 ·exact⟨_,rfl,h⟩
 ·exact h.elim
theorem qgd{e:vW}{te:TE}{x:Str}{p p2 p3 pos:Pos}{k0:Nat}(c:Cn)(hr:T9)(hg:Cl)(hm:kg)(hx:Au)(he:ox)(hk:k+2<=k0)(hd:aJ:=by decide)(hs:LY:=by rfl)(h1:PL:=by rfl)(h2:(vj pos jw).any (·.1)=false:=by rfl)(h3:(uI pos pW).all (·.1.isSome)=true:=by rfl)(h4:(uI pos pW).any (·.1.isNone)=false:=by rfl)(h5:(uI pos pW).filterMap (·.1)=[kL]:=by rfl):
  PE X Qq (tSortK X.K m te):=by
 intro pins s σ H Q I h;refine v4 (q0q I hg hm q2i ?_ (by decide) (by decide));refine callWith_kw (thn (qA he qx hs pos pins s σ H (one1 (askK X.K m Q)) I h) λus s1 ⟨ws,H1,I1,r1,q1⟩=>?_) h1 h2 h3 h4;obtain⟨v,rfl,p,xs,G,ds,rfl,b1,b2,b3,b4,b5,b6⟩:=qiX q1;obtain⟨u,rfl,ru⟩:=vals1 r1;cases ru;refine thn (qhS (kpos:=p3) (nm:=some kL) (qi8 (v:=.ref f) hx c.2.1 rfl hd) qj7 pos pins s1 σ H1 (λzs H2=>zs=[iP]/\H2=H1) I1 bY) λzs s2 ⟨ys,H2,I2,rz,e1,e2⟩=>?_;subst e1;subst e2;obtain⟨u,rfl,ru⟩:=vals1 rz;cases ru;rw[h5];exact qdg c.1 (hr.mono hk) c.2.2.2 I2 b1 b2 b3 b4 (λd hd=>qgK (b5 d hd)) b6
end
noncomputable def zCd(m:cf):D->Option R
 | .lst ds=>if ds.length<64/\ds.all aa5=true then some (.fr K1)else none
 | _=>none
noncomputable def zBg(m:cf)(f:FD):FE:=λω=>(f ω).bind (zCd m)
theorem qgM{X:Cx}{k:Nat}{f:vH}{fd:vS}{ps:dN}{m:cf}{e:vW}{fe:FD}{x:Str}{p p2 p3 pos:Pos}{k0:Nat}(c:Cn)(hr:T9)(hm:kg)(he:XV X e fe)(hg:Gl X "sorted" := by exact rfl)(hx:Au:=by exact rfl)(hk:k+2<=k0:=by decide)(hd:aJ:=by decide)(hs:LY:=by rfl)(h1:PL:=by rfl)(h2:(vj pos jw).any (·.1)=false:=by rfl)(h3:(uI pos pW).all (·.1.isSome)=true:=by rfl)(h4:(uI pos pW).any (·.1.isNone)=false:=by rfl)(h5:(uI pos pW).filterMap (·.1)=[kL]:=by rfl):
  XE X Qq (zBg m fe):=by
 obtain⟨t,g1,g2⟩:=he;refine⟨_,qgd c hr hg hm hx g1 hk hd hs h1 h2 h3 h4 h5,λG0 H0 G ω σ H r Q o er kk=>?_⟩;obtain⟨d,q,er⟩:=bnd er;refine g2 G0 H0 G ω σ H d _ o q λv G1 H1 x1 y1=>?_;cases d with
 | lst ds=>
  have er':(if ds.length<64/\ds.all aa5=true then some (R.fr K1)else none)=some r:=er
  by_cases z:ds.length<64/\ds.all aa5=true
  ·rw[fQ]at er'
   cases er';obtain⟨p,vs,rfl,w1,w2⟩:=y1.lst x1.gh;refine⟨p,vs,G1,ds,rfl,w1,x1.gh,w2,by rw[<- w2.len];exact z.1,xr.mp z.2,λG2 H2 l x2 n2 n1=>?_⟩;have x3:=Ext.hide x2.gh n2 (.lst ((XX (λz:D×V=>zB8 m z.1) (ds.zip vs)).map (·.2)));exact kk _ G2 _ BK ⟨l,_,rfl,x1.hh.free n1,x2.gh.free n2,qe,qdb (w2.mono x2.gg)⟩
  ·rw[fI]at er';cases er'
 | _=>cases er
end Hk
namespace Hk
open PySem L2
noncomputable def skR(m:cf)(o:eK):Option R:=o.bind (zCd m)
section
variable{m:List D->Option O}{f:FD}{ω:WSt}{d:D}{i:Nat}{ks:List Int}{ds:List D}
theorem qcb:zBg m f ω=skR m (f ω):=rfl
theorem qdK:iDk i ω=zCS ω[i]?:=rfl
theorem qey:zCS (some ↥De)=some Mc:=rfl
theorem qkO(h:ds.length<64)(h':∀d∈ds,keyOk m d=true):skR m Op=some (.fr K1):=vF ⟨h,xr.mpr h'⟩
end
noncomputable def zBh:D->D->Option R
 | .lst xs,.int k=>if (0<=k/\k<=1000)/\xs.length<=1000 then some (.fr (zn k.toNat xs).flatten)else none
 | _,_=>none
theorem XN.rep{K:zC}{H:Hp}{ds:aW}{vs:a8}(h:AE):∀n:Nat,XN K H (zn n ds).flatten (zn n vs).flatten
 | 0=>rfl
 | n+1=>by
  rw[yV,yV,yA,yA];exact h.app (h.rep n)
theorem qiO{K:zC}:OpV K rRep zBh:=by
 intro G H x y d v u Q s e hx hy k
 match x,y,e with
 | .lst xs,.int n,e=>
  unfold zBh at e
  dsimp only at e
  by_cases z:(0<=n/\n<=1000)/\xs.length<=1000
  ·rw[fQ]at e
   cases e;obtain⟨a,vs,rfl,h1,h2⟩:=hx.lst s;cases hy.int;have hz:vs.length*n.toNat<=sizeLine:=by
    rw[<- h2.len];have:=Nat.mul_le_mul z.2 (show n.toNat<=1000 by omega);rw[vh];omega
   refine⟨a,n,vs,rfl,rfl,h1,∅,∅,hz,Ba⟩;exact k _ G _ Vi ⟨p,_,rfl,hp,s.free hp,qe,h2.rep _⟩
  ·rw[fI]at e;cases e
section
variable{X:Cx}{a b:vW}{pos:Pos}{f g:FD}
theorem qk6(ha:de)(hb:fW):XE X Pw (XB zBh f g):=q3p qjg qiO ha hb
end
theorem qec{ds:aW}{k:Int}(h0:Vj)(h1:k<=1000)(h2:ds.length<=1000):zBh eS kD=some (.fr (zn k.toNat ds).flatten):=vF ⟨⟨h0,h1⟩,h2⟩
def rIdx:V->List V->Hp->VK->Prop:=λx vs H Q=>∃(l:vH) (ns:af) (k:Int) (j:Nat),x=.ref l/\vs=[kD]/\H l=some CA/\zBA k ns=some j/\Q A6 H
theorem qgp{X:Cx}:MtM X "list.index" rIdx:=by
 intro pins s σ H x vs v us Q I rx rv h;obtain⟨l,ns,k,j,rfl,rfl,hH,hj,q⟩:=h;cases rx;obtain⟨u,rfl,ru⟩:=rv.one;obtain⟨t,rfl⟩:=ru;obtain⟨z,its,n,r,hl,e⟩:=I.lstM hH;obtain⟨e1,e2⟩:=q7S (k:=k) r;rw[hj]at e2;obtain⟨a,b,c⟩:=Z8 e2;refine ud F.slot_list_index eG F.entry_list_index (F.args_list_index_2 _ _)
  (MeetsSeq.list_index l its.toArray n Pq (PyProof.Rows.isInt k) Og j ⇑a (by have:=zAI;omega) ⇑b (λi hi hlt=>(by simpa using c i ⇑hi hlt))) Ei
 exact⟨A6,H,iU,bw,q⟩
noncomputable def idxD:D->D->Option R
 | .lst ds,.int k=>(intsOf ds).bind λns=>(zBA k ns).map λ(j:Nat)=>.sh A6
 | _,_=>none
noncomputable def fIdx(f g:FD):FE:=λω=>(f ω).bind λd=>(g ω).bind λc=>idxD d c
section
variable{X:Cx}{o e:vW}{apos cpos:Pos}{f g:FD}
theorem qfK(ho:XV X o f)(he:XD X e g)(hbase:uF o "index" X.env jG=eval o X.env:=by rfl)(hfew:((vj cpos jw).all (λx=>!x.1)&&(uI cpos j8).all gE
   && decide (([e]:List vW).length+([]:List uH).length+(if ([]:List uH).isEmpty then 0 else 1)<30))=true:=by rfl)
  (hline:dQ=true:=by rfl) (hs:vK [e] X.env=cH::vK [] X.env:=by rfl) (hplain:(vj cpos bF).any (·.1)=false:=by rfl) :
  XE X (.Call (.Attribute o "index" apos) [e] [] cpos) (fIdx f g):=by
 obtain⟨t,h1,h2⟩:=ho;obtain⟨u,h3,h4⟩:=he;refine⟨_,q2f PySem.F.plainAttrs_list PySem.F.slot_list_index PySem.F.type_list_index qgp h1 (qA h3 qx hs) hbase hfew hline hs hplain,IY⟩;obtain⟨d,q1,e⟩:=bnd e;obtain⟨c,q2,e⟩:=bnd e;obtain⟨ds,k,rfl,rfl,e⟩:∃ds k,d=.lst ds/\c=.int k/\((intsOf ds).bind λns=>(zBA k ns).map λ(j:Nat)=>R.sh A6)=some r:=by
  cases d with
  | lst ds=>
   cases c with
   | int k=>exact⟨ds,k,rfl,rfl,e⟩
   | _=>cases e
  | _=>cases e
 obtain⟨ns,q3,e⟩:=bnd e;obtain⟨j,q4,e⟩:=mpd e;subst e;have hds:=q0R q3;subst hds;refine h2 G0 H0 G ω σ H _ _ ow q1 λv G1 H1 x1 y1=>?_;obtain⟨p,vs,rfl,g1,g2⟩:=y1.lst x1.gh;have hv:=g2.of_ints;subst hv;refine⟨.inl ⟨rfl,_,SqL.of g1⟩,h4 G0 H0 G1 ω σ H1 _ _ O2 q2 λw G2 H2 x2 y2=>?_⟩;cases (show w=.int k from y2);exact⟨p,ns,k,j,rfl,rfl,x2.hh _ _ g1,q4,kk _ G2 H2 eC rfl⟩
end
end Hk
namespace So
open PySem PyProof.Rows
noncomputable def zCt:Bool->vT->Array vT->Nat->Nat->Nat->StateT vc Sem (Option Nat):=sortPriv% PySem.Builtin.gallop
noncomputable def bey(left:Bool)(k:Int)(arr:aZ)(i:Nat):Bool:=if left=true then decide (K arr i<k)else !decide (k<K arr i)
section
variable{prog:vU}{w:vZ}{A:vf}{E:vB->vC->Prop}{s:vC}
theorem XL{α:Type}{c:Prop}{_:Decidable c}{m n:acJ}{Q:α->vc->Prop}{st:vc}(hc:c)(h:wpS ak A E s m Q st):wpS ak A E s (if c then m else n) Q st:=by rw[vF hc];exact h
theorem XH{α:Type}{c:Prop}{_:Decidable c}{m n:acJ}{Q:α->vc->Prop}{st:vc}(hc:¬c)(h:wpS ak A E s n Q st):wpS ak A E s (if c then m else n) Q st:=by rw[vG hc];exact h
theorem qaz{arr:aZ}(h0:Ue){i:Nat}(hi:i<arr.size):∃p t q,arr[i]?=some p/\p=(Value.int (K arr i) t,q):=by
 have hm:arr[i]∈arr.toList:=by simp
 obtain⟨n,t,hn⟩:=h0 _ hm;have e:arr[i]?=some arr[i]:=getElem?_pos _ i hi;have e2:arr[i]=(Value.int n t,arr[i].2):=Prod.ext hn rfl;refine⟨_,t,arr[i].2,e,?_⟩;unfold K;rw[e,e2];rfl
theorem zBO{st:vc}{a b:Int}{t u:Tok}{p q:vB}{Q:ES}(hk:lc)(h:Q (some (decide (a<b))) st):wpS ak A E s (lt' (.int a t,p) (.int b u,q)) Q st:=by
 rw[lt'_eq];refine vL oR;rw[hk,keyLt'_oneType];refine vL (u5 (uT (oneLt_int ⟨rfl,?_⟩)));exact vN h
theorem XU{st:vc}{arr:aZ}{i:Nat}{p:vT}{Q:vT->vc->Prop}(h:arr[i]?=some p)(hq:Q p st):wpS ak A E s (elem' arr i) Q st:=by
 rw[elem'_eq,h];exact vN hq
theorem W6{st:vc}{left:Bool}{k:Int}{t:Tok}{q:vB}{arr:aZ}{i:Nat}{Q:ES}(h0:Ue)(hi:i<arr.size)(hk:lc)(h:Q (some (bey left k arr i)) st):
  wpS ak A E s (do let x <- elem' arr i;if left=true then lt' x (Pq,q)else do let l <- lt' (.int k t,q) x;pure (Z9 (λx=>!x) l)) Q st:=by
 obtain⟨p,u,r,e1,rfl⟩:=qaz h0 hi;refine vL (XU e1 ?_);cases left with
 | true=>exact zBO hk h
 | false=>exact vL (zBO hk (vN h))
theorem Xz{left:Bool}{k:Int}{arr:aZ}{i j:Nat}(h:K arr i<=K arr j)(hj:bey left k arr j=true):bey left k arr i=true:=by
 unfold bey at *;cases left with
 | true=>simp only[if_true,decide_eq_true_eq]at *;omega
 | false=>simp only[yI,if_false,YS,decide_eq_false_iff_not]at *;omega
theorem Xw{left:Bool}{k:Int}{t:Tok}{q:vB}{arr:aZ}{base n hint:Nat}{st:vc}{Q:mt}(h0:Ue)(hk:lc)(hsz:base+n<=arr.size)(hh:hint<n)(hs:∀i j,i<=j->j<n->K arr kK<=K arr (base+j))(h:∀m,m<=n->(∀i,i<m->bey left k arr kK=true)->(∀i,m<=i->i<n->bey left k arr kK=false)->Q QX st):wpS ak A E s (zCt left (Pq,q) arr base n hint) Q st:=by
 refine vL jZ
 dsimp -zeta only
 cases hr:bey left k arr (base+hint)with
 | true=>
  refine XL rfl ?_;refine vL (uA (vi (I:=λx c st'=>st'=st/\∃lo of,c=Iy/\hint+lo<n/\bey left k arr aam=true/\lo<of/\x+1<=of) (Q:=λc st'=>st'=st/\∃lo of,c=Iy/\hint+lo<n/\bey left k arr aam=true/\lo<of/\(of>=n-hint\/bey left k arr aal=false)) ?_ ?_ Jt) ?_)
  ·rintro x c st' _ hx ⟨rfl,lo,of,rfl,b1,b2,b3,b4⟩
   dsimp -zeta only
   by_cases z:of>=n-hint
   ·refine XL z ?_
    exact vN HB
   ·refine XH z ?_
    refine vL jZ
    dsimp -zeta only
    cases hb:bey left k arr aal with
    | true=>
     refine XH (by decide) ?_;exact vN Ff
    | false=>
     refine XL (by decide) ?_;exact vN GP
  ·rintro c st' ⟨rfl,lo,of,rfl,b1,b2,b3,b4⟩
   exact Gy
  ·rintro c st' ⟨rfl,lo,of,rfl,b1,b2,b3,b4⟩
   dsimp -zeta only
   refine vL (uA (Q:=λc st2=>st2=st'/\∃lo hi,c=Iz/\lo<=hi/\hi<=n/\hi-lo<=0/\(∀i,i<lo->bey left k arr kK=true)/\(∀i,hi<=i->i<n->bey left k arr kK=false)) ?_ ?_)
   ·refine vi (I:=λx c st2=>st2=st'/\∃lo hi,c=Iz/\lo<=hi/\hi<=n/\hi-lo<=n-x/\(∀i,i<lo->bey left k arr kK=true)/\(∀i,hi<=i->i<n->bey left k arr kK=false)) ?_ ?_ ?_
    ·rintro x c st2 _ hx ⟨e2,lo,hi,rfl,b1,b2,b3,b4,b5⟩
     subst e2
     dsimp -zeta only
     by_cases z:lo>=hi
     ·rw[fQ]
      exact vN GQ
     ·rw[fI]
      refine vL jZ
      dsimp -zeta only
      cases hb:bey left k arr (base+(lo+UX/2))with
      | true=>
       rw[jQ];refine vN Dh;exact Xz (hs _ _ (show i<=lo+UX/2 by omega) ∅) hb
      | false=>
       rw[vG (by decide)];refine vN Bl;cases hc:bey left k arr kK with
       | false=>rfl
       | true=>rw[Ri]at hb;cases hb
    ·rintro c st2 ⟨e2,lo,hi,rfl,b1,b2,b3,b4,b5⟩
     exact Id
    refine rD
    ·exact Xz (hs _ _ ∅ b1) b2
    ·rcases b4 with b4|b4
     ·omega
     ·cases hc:bey left k arr kK with
      | false=>rfl
      | true=>rw[Xz (hs (hint+of) i ∅ hin) hc]at b4;cases b4
   ·rintro c st2 ⟨e2,lo,hi,rfl,c1,c2,c3,c4,c5⟩
    subst e2;exact vN IE
 | false=>
  refine XH (by decide) ?_;refine vL (uA (vi (I:=λx c st'=>st'=st/\∃lo of,c=Iy/\lo<=hint/\bey left k arr aak=false/\lo<of/\x+1<=of) (Q:=λc st'=>st'=st/\∃lo of,c=Iy/\lo<=hint/\bey left k arr aak=false/\lo<of/\(of>=hint+1\/bey left k arr aaj=true)) ?_ ?_ Jt) ?_)
  ·rintro x c st' _ hx ⟨rfl,lo,of,rfl,b1,b2,b3,b4⟩
   dsimp -zeta only
   by_cases z:of>=hint+1
   ·refine XL z ?_
    exact vN HB
   ·refine XH z ?_
    refine vL jZ
    dsimp -zeta only
    cases hb:bey left k arr aaj with
    | true=>
     refine XL rfl ?_;exact vN GP
    | false=>
     refine XH (by decide) ?_;exact vN Ff
  ·rintro c st' ⟨rfl,lo,of,rfl,b1,b2,b3,b4⟩
   exact Gy
  ·rintro c st' ⟨rfl,lo,of,rfl,b1,b2,b3,b4⟩
   dsimp -zeta only
   refine vL (uA (Q:=λc st2=>st2=st'/\∃lo hi,c=Iz/\lo<=hi/\hi<=n/\hi-lo<=0/\(∀i,i<lo->bey left k arr kK=true)/\(∀i,hi<=i->i<n->bey left k arr kK=false)) ?_ ?_)
   ·refine vi (I:=λx c st2=>st2=st'/\∃lo hi,c=Iz/\lo<=hi/\hi<=n/\hi-lo<=n-x/\(∀i,i<lo->bey left k arr kK=true)/\(∀i,hi<=i->i<n->bey left k arr kK=false)) ?_ ?_ ?_
    ·rintro x c st2 _ hx ⟨e2,lo,hi,rfl,b1,b2,b3,b4,b5⟩
     subst e2
     dsimp -zeta only
     by_cases z:lo>=hi
     ·rw[fQ]
      exact vN GQ
     ·rw[fI]
      refine vL jZ
      dsimp -zeta only
      cases hb:bey left k arr (base+(lo+UX/2))with
      | true=>
       rw[jQ];refine vN Dh;exact Xz (hs _ _ (show i<=lo+UX/2 by omega) ∅) hb
      | false=>
       rw[vG (by decide)];refine vN Bl;cases hc:bey left k arr kK with
       | false=>rfl
       | true=>rw[Ri]at hb;cases hb
    ·rintro c st2 ⟨e2,lo,hi,rfl,b1,b2,b3,b4,b5⟩
     exact Id
    refine rD
    ·rcases b4 with b4|b4
     ·omega
     ·exact Xz (hs _ _ ∅ ∅) b4
    ·cases hc:bey left k arr kK with
     | false=>rfl
     | true=>rw[Xz (hs (hint-lo) i ∅ hin) hc]at b2;cases b2
   ·rintro c st2 ⟨e2,lo,hi,rfl,c1,c2,c3,c4,c5⟩
    subst e2;exact vN IE
end
noncomputable def ke(p:vT):Int:=t6 p.1
abbrev Le(x y:vT):Prop:=ke x<=ke y
abbrev Srt(l:dj):Prop:=l.Pairwise Le
structure Mg (al bl out:List vT) (i j:Nat):Prop where
 perm:(out++(al.drop i++bl.drop j)).Perm (al++bl)
 srt:Srt out
 lea:∀x∈out,∀y∈al.drop i,Le x y
 leb:∀x∈out,∀y∈bl.drop j,Le x y
structure Done (al bl r:List vT):Prop where
 perm:r.Perm (al++bl)
 srt:Srt r
variable{al bl out:List vT}{i j:Nat}
theorem Xv(h:OG)(k:Nat):Srt (al.drop k):=h.sublist (YH k al)
theorem zBD(l:dj)(i k:Nat):l.drop i=(l.drop i).take k++l.drop (i+k):=by
 rw[<- w8,yH]
theorem Mg.a(m:CY)(sa:OG)(k:Nat)(h:∀x∈(al.drop i).take k,∀y∈bl.drop j,Le x y):Mg al bl (out++(al.drop i).take k) (i+k) j:=by
 have e:=zBD al i k;have sd:Srt ((al.drop i).take k++al.drop (i+k)):=by rw[<- e];exact Xv sa i
 obtain⟨s1,s2,s3⟩:=zc.mp sd;have hin:∀y∈(al.drop i).take k,y∈al.drop i:=λy hy=>xl hy;have hout:∀y∈al.drop (i+k),y∈al.drop i:=λy hy=>by rw[e];exact zO _ hy
 refine BO
 ·have:out++(al.drop i).take k++(al.drop (i+k)++bl.drop j)=out++(al.drop i++bl.drop j):=by
   rw[zL,<- zL ((al.drop i).take k),<- e]
  rw[this];exact m.perm
 ·exact zc.mpr ⟨m.srt,s1,λx hx y hy=>m.lea x hx y (hin y hy)⟩
 ·rcases zM.mp hx with hx|hx
  ·exact m.lea x hx y (hout y hy)
  ·exact s3 x hx y hy
 ·rcases zM.mp hx with hx|hx
  ·exact m.leb x hx y hy
  ·exact h x hx y hy
theorem Mg.b(m:CY)(sb:SC)(k:Nat)(h:∀x∈(bl.drop j).take k,∀y∈al.drop i,Le x y):Mg al bl (out++(bl.drop j).take k) i (j+k):=by
 have e:=zBD bl j k;have sd:Srt ((bl.drop j).take k++bl.drop (j+k)):=by rw[<- e];exact Xv sb j
 obtain⟨s1,s2,s3⟩:=zc.mp sd;have hin:∀y∈(bl.drop j).take k,y∈bl.drop j:=λy hy=>xl hy;have hout:∀y∈bl.drop (j+k),y∈bl.drop j:=λy hy=>by rw[e];exact zO _ hy
 refine BO
 ·refine y0 ?_ m.perm
  rw[zL];refine yS out ?_;refine y0 ?_ (yS (al.drop i) (List.Perm.of_eq e.symm));rw[<- zL,<- zL];exact yx _ yn
 ·exact zc.mpr ⟨m.srt,s1,λx hx y hy=>m.leb x hx y (hin y hy)⟩
 ·rcases zM.mp hx with hx|hx
  ·exact m.lea x hx y hy
  ·exact h x hx y hy
 ·rcases zM.mp hx with hx|hx
  ·exact m.leb x hx y (hout y hy)
  ·exact s3 x hx y hy
theorem Mg.done(m:CY)(sa:OG)(sb:SC)(h:∀x∈al.drop i,∀y∈bl.drop j,Le x y):Done al bl (out++al.drop i++bl.drop j):=by
 refine⟨by rw[zL];exact m.perm,?_⟩;rw[zL];exact zc.mpr ⟨m.srt,zc.mpr ⟨Xv sa i,Xv sb j,h⟩,λx hx y hy=>(zM.mp hy).elim acn acm⟩
theorem Mg.last(m:CY)(sa:OG)(sb:SC)(h:∀y∈bl.drop j,∀x∈al.drop i,Le y x):Done al bl (out++bl.drop j++al.drop i):=by
 refine SW
 ·rw[zL]
  exact(yS out yn).trans m.perm
 ·rw[zL]
  exact zc.mpr ⟨m.srt,zc.mpr ⟨Xv sb j,Xv sa i,h⟩,λx hx y hy=>(zM.mp hy).elim acm acn⟩
noncomputable def zCM:Array vT->Array vT->StateT vc Sem aZ:=sortPriv% PySem.Builtin.mergeLo
structure Kp (st st':vc):Prop where
 kind:kindOf st'=kindOf st
 arr:vM st'=vM st
 pend:ve st'=ve st
 fail:uN st'=uN st
theorem Kp.refl(st:vc):Kp st st:=lL
theorem zBi{xs:aZ}{i:Nat}{p:vT}(h:xs[i]?=some p):K xs i=ke p:=by unfold K ke;rw[h]
theorem drop_one{xs:aZ}{i:Nat}{p:vT}(h:xs[i]?=some p):xs.toList.drop i=p::xs.toList.drop (i+1):=by
 obtain⟨hi,e⟩:=ZA.mp h;rw[xC ⇑hi]
 congr 1
theorem zAM{xs:aZ}{i:Nat}:(xs.extract i xs.size).toList=xs.toList.drop i:=by
 rw[xj,wF];exact yr (by simp)
theorem zA7{xs:aZ}{i k:Nat}:(xs.extract i (i+k)).toList=(xs.toList.drop i).take k:=by
 simp[xj,List.extract_eq_drop_take]
theorem Wu{l:dj}(s:Srt l){i:Nat}{p:vT}{t:dj}(h:l.drop i=p::t):∀y∈l.drop i,Le p y:=by
 have:=Xv s i;rw[h]at this ⊢;intro y hy;rcases zH.mp hy with rfl|hy
 ·exact zr _
 ·exact(zZ.mp this).1 y hy
theorem zBH{xs:aZ}{i:Nat}(h:xs.size<=i):xs.toList.drop i=[]:=List.drop_eq_nil_of_le ⇑h
theorem Mg.b1{a b out:aZ}{i j:Nat}{p q:vT}(m:fN)(sa:jq)(sb:jp)(hp:b[j]?=some p)(hq:a[i]?=some q)(h:Le p q):Mg a.toList b.toList (out.push p).toList i (j+1):=by
 have e:=drop_one hp;have:=m.b sb 1 (by
  rw[e];intro x hx y hy;have:x=p:=by simpa using hx
  subst this;exact yd h (Wu sa (drop_one hq) y hy))
 rw[e]at this;simpa using this
theorem Mg.a1{a b out:aZ}{i j:Nat}{p q:vT}(m:fN)(sa:jq)(sb:jp)(hp:a[i]?=some p)(hq:b[j]?=some q)(h:Le p q):Mg a.toList b.toList (out.push p).toList (i+1) j:=by
 have e:=drop_one hp;have:=m.a sa 1 (by
  rw[e];intro x hx y hy;have:x=p:=by simpa using hx
  subst this;exact yd h (Wu sb (drop_one hq) y hy))
 rw[e]at this;simpa using this
theorem Mg.dB{a b out:aZ}{i j:Nat}(m:fN)(sa:jq)(sb:jp)(h:b.size<=j):Done a.toList b.toList (out++a.extract i a.size++b.extract j b.size).toList:=by
 have:=m.done sa sb (λx _ y hy=>by rw[zBH h]at hy;cases hy);rw[yL,yL,zAM,zAM];exact this
theorem Mg.dA{a b out:aZ}{i j:Nat}(m:fN)(sa:jq)(sb:jp)(h:a.size<=i):Done a.toList b.toList (out++a.extract i a.size++b.extract j b.size).toList:=by
 have:=m.done sa sb (λx hx=>by rw[zBH h]at hx;cases hx);rw[yL,yL,zAM,zAM];exact this
theorem Mg.dL{a b out:aZ}{i j:Nat}(m:fN)(sa:jq)(sb:jp)(hl:∀y∈b.toList,∀x∈a.toList.drop (a.size-1),Le y x)(h:i+1=a.size):Done a.toList b.toList (out++b.extract j b.size++a.extract i a.size).toList:=by
 have:=m.last sa sb (λy hy x hx=>hl y (xK hy) x (by rw[show a.size-1=i by omega];exact hx));rw[yL,yL,zAM,zAM];exact this
end So
set_option maxHeartbeats 1000000
namespace So
open PySem PyProof.Rows
section
variable{prog:vU}{w:vZ}{A:vf}{E:vB->vC->Prop}{s:vC}
theorem Xi{xs:aZ}{i:Nat}(h0:IntKeys xs)(h:i<xs.size):∃t q,xs[i]?=some (Value.int (K xs i) t,q):=by
 obtain⟨p,t,q,e,rfl⟩:=qaz h0 h;exact⟨t,q,e⟩
theorem zBm{xs:aZ}(hs:Srt xs.toList){i j:Nat}(h1:i<=j)(h2:j<xs.size):K xs i<=K xs j:=by
 have e1:xs[i]?=some xs[i]:=getElem?_pos _ i ∅;have e2:xs[j]?=some xs[j]:=getElem?_pos _ j h2;rw[zBi e1,zBi e2];rcases yB i j with z|z
 ·exact ya.mp hs i j (by simp;omega) ⇑h2 z
 ·have:i=j:=∅
  subst this;exact zr _
noncomputable def zCl:Nat->StateT vc Sem Unit:=sortPriv% PySem.Builtin.setMinGallop
theorem Kp.trans{a b c:vc}(h:Kp a b)(h':Kp b c):Kp a c:=⟨TL,h'.arr.trans h.arr,TK,TM⟩
theorem WK{g:Nat}{st:vc}{Q:Ga}(h:∀st',Kp st st'->Q () st'):wpS ak A E s (zCl g) Q st:=uZ (h _ lL)
theorem zA6{xs:aZ}{i k:Nat}{v:Int}(h:∀t,t<k->i+t<xs.size->K xs (i+t)<=v):∀x∈(xs.toList.drop i).take k,ke x<=v:=by
 intro x hx;obtain⟨t,ht,e⟩:=zf.mp hx;rw[xM,xk]at e;rw[zg,yP]at ht;have hl:i+t<xs.size:=by simp at ht;omega
 have e2:xs[i+t]?=some x:=by rw[getElem?_pos xs (i+t) hl,<- e];rfl
 have:=h t ∅ hl;rw[zBi e2]at this;exact this
theorem zAj{k:Int}{xs:aZ}{i:Nat}:(bey false k xs i=true->K xs i<=k)/\(bey false k xs i=false->k<K xs i):=by
 unfold bey;simp only[yI,if_false,YS,decide_eq_false_iff_not,Bool.not_eq_false',decide_eq_true_eq];exact⟨λh=>∅,id⟩
theorem zAo{k:Int}{xs:aZ}{i:Nat}:(bey true k xs i=true->K xs i<k)/\(bey true k xs i=false->k<=K xs i):=by
 unfold bey;simp only[if_true,decide_eq_true_eq,decide_eq_false_iff_not];exact⟨id,λh=>∅⟩
theorem zA4{a b:aZ}{st:vc}{Q:aay}(ha:IntKeys a)(hb:IntKeys b)(sa:jq)(sb:jp)(na:1<=a.size)(nb:1<=b.size)(h1:K b 0<=K a 0)(hl:∀y∈b.toList,∀x∈a.toList.drop (a.size-1),Le y x)(hk:lc)(h:∀r st',Done a.toList b.toList r.toList->Kp st st'->Q r st'):wpS ak A E s (zCM a b) Q st:=by
 refine vL fu;obtain⟨t0,q0,eb0⟩:=Xi hb (show 0<b.size by omega);obtain⟨u0,r0,ea0⟩:=Xi ha (show 0<a.size by omega);refine vL (XU eb0 ?_);have m0:Mg a.toList b.toList (#[]:Array vT).toList 0 0:=⟨by simp,xL,λx hx=>by simp at hx,λx hx=>by simp at hx⟩;have m1:=m0.b1 sa sb eb0 ea0 (show K b 0<=K a 0 from h1);have m1:Mg a.toList b.toList (#[(Value.int (K b 0) t0,q0)]:Array vT).toList 0 1:=m1
 dsimp -zeta only
 by_cases z1:b.size=1
 ·refine XL (by rw[z1];rfl) ?_
  exact vN (h _ st (m1.dB sa sb ∅) Bi)
 refine XH (by simp;omega) ?_
 by_cases z2:a.size=1
 ·refine XL (by rw[z2];rfl) ?_
  exact vN (h _ st (m1.dL sa sb hl ∅) Bi)
 refine XH (by simp;omega) ?_;refine vL oR;refine vL (uA (vi
  (I:=λx c st'=>∃o i j g,c=(none,o,i,j,g)/\Mg a.toList b.toList o.toList i j/\i+1<a.size/\j<b.size/\x+1<=i+j/\Kp st st')
  (Q:=λc st'=>∃r z,c=Dm/\Done a.toList b.toList r.toList/\Kp st st') ?_ ?_ ⟨_,_,_,_,rfl,m1,∅,∅,∅,Bi⟩) ?_)
 ·rintro x c st1 _ hx ⟨o,i,j,g,rfl,m,b1,b2,b3,kp⟩
  dsimp -zeta only
  refine vL (uA (vi
   (I:=λy c st'=>∃o' i' j' ac bc,c=P3/\Mg a.toList b.toList o'.toList i' j'/\i'+1<a.size/\j'<b.size/\i+j+y<=i'+j'/\Kp st st')
   (Q:=λc st'=>(∃r z,c=Dm/\Done a.toList b.toList r.toList/\Kp st st')\/∃o' i' j' ac bc,c=P3/\Mg a.toList b.toList o'.toList i' j'/\i'+1<a.size/\j'<b.size/\i+j+1<=i'+j'/\Kp st st') ?_ ?_ ⟨_,_,_,_,_,rfl,m,b1,b2,∅,kp⟩) ?_)
  ·rintro y c st2 _ hy ⟨o',i',j',ac,bc,rfl,m',d1,d2,d3,kp'⟩
   dsimp -zeta only
   obtain⟨t1,q1,eb⟩:=Xi hb d2;obtain⟨u1,r1,ea⟩:=Xi ha (show i'<a.size by omega);have hk':kindOf st2=uB:=kp'.kind.trans hk;refine vL EN
   dsimp -zeta only
   by_cases hw:K b j'<K a i'
   ·refine XL (vQ hw) ?_
    have m2:=m'.b1 sa sb eb ea (show K b j'<=K a i' by omega);refine vL Dy
    by_cases z:j'+1=b.size
    ·refine XL (by rw[z];exact beq_self_eq_true _) ?_
     exact vN (.inl ⟨_,_,rfl,m2.dB sa sb ∅,kp'⟩)
    ·refine XH ⇑z ?_
     split
     ·exact vN (.inr GA)
     ·exact vN GA
   ·refine XH (λh=>hw g8) ?_
    have m2:=m'.a1 sa sb ea eb (show K a i'<=K b j' by omega);refine vL (XU ea ?_)
    by_cases z:i'+1+1=a.size
    ·refine XL (by rw[z];exact beq_self_eq_true _) ?_
     exact vN (.inl ⟨_,_,rfl,m2.dL sa sb hl z,kp'⟩)
    ·refine XH ⇑z ?_
     split
     ·exact vN (.inr Gz)
     ·exact vN Gz
  ·rintro c st2 ⟨o',i',j',ac,bc,rfl,m',d1,d2,d3,kp'⟩
   omega
  ·rintro c st2 (⟨r,z,rfl,dn,kp'⟩|⟨o',i',j',ac,bc,rfl,m',d1,d2,d3,kp'⟩)
   ·exact vN ST
   ·dsimp -zeta only
    refine vL fu;refine vL (uA (vi
     (I:=λy c st'=>∃o2 i2 j2 g2 ac bc,c=ND/\Mg a.toList b.toList o2.toList i2 j2/\i2+1<a.size/\j2<b.size/\i'+j'+y<=i2+j2/\Kp st st')
     (Q:=λc st'=>(∃r z,c=Dm/\Done a.toList b.toList r.toList/\Kp st st')\/∃o2 i2 j2 g2 ac bc,c=ND/\Mg a.toList b.toList o2.toList i2 j2/\i2+1<a.size/\j2<b.size/\i'+j'<=i2+j2/\Kp st st') ?_ ?_ ⟨_,_,_,_,_,_,rfl,m',d1,d2,∅,kp'⟩) ?_)
    ·rintro y c st3 _ hy ⟨o2,i2,j2,g2,ac2,bc2,rfl,m2,e1,e2,e3,kp3⟩
     dsimp -zeta only
     obtain⟨t2,q2,eb⟩:=Xi hb e2;obtain⟨u2,r2,ea⟩:=Xi ha (show i2<a.size by omega);refine' (λ(key:∀gg,(_:Nat->Prop) gg)=>_) _
     rotate_left
     ·by_cases hg:g2>1
      ·refine XL hg ?_
       generalize g2-1=gg;exact key gg
      ·refine XH hg ?_
       exact key g2
     ·intro gg
      refine vL Ar;replace kp4:=kp3.trans kp4;have hk4:kindOf st4=uB:=kp4.kind.trans hk;refine vL Dy;refine vL (Xw (k:=K b j2) ha hk4 ∅ ∅ Kc λk g1 g2 g3=>?_)
      dsimp -zeta only
      refine' (λ(key:∀(oA:aZ)(iA:Nat),Mg a.toList b.toList oA.toList iA j2->iA+1<a.size->K b j2<=K a iA->i2<=iA->(_:Array vT->Nat->Prop) oA iA)=>_) _
      rotate_left
      ·by_cases hk0:k>0
       ·refine XL hk0 ?_
        have mA:=m2.a sa k (λx hx y hy=>yd (zA6 (v:=K b j2) (λt h1 h2=>zAj.1 (g2 t h1)) x hx) (Wu sb (drop_one eb) y hy));have mA:Mg a.toList b.toList (o2++a.extract i2 (i2+k)).toList (i2+k) j2:=by rw[yL,zA7];exact mA
        by_cases z:i2+k+1=a.size
        ·refine XL (by rw[z];exact beq_self_eq_true _) ?_
         exact vN (.inl ⟨_,_,rfl,mA.dL sa sb hl z,kp4⟩)
        refine XH ⇑z ?_
        by_cases z':i2+k=a.size
        ·refine XL (by rw[z'];exact beq_self_eq_true _) ?_
         exact vN (.inl ⟨_,_,rfl,mA.dA sa sb ∅,kp4⟩)
        refine XH ⇑z' ?_;have i1:i2+k+1<a.size:=∅
        have hlt:K b j2<=K a (i2+k):=yf (zAj.2 (g3 k bZ ∅));have le1:i2<=i2+k:=∅
        generalize o2++a.extract i2 (i2+k)=oA at mA ⊢;generalize i2+k=iA at mA i1 hlt le1 ⊢;exact key _ _ mA i1 hlt le1
       ·refine XH hk0 ?_
        have mA:=m2;have i1:i2+1<a.size:=e1;have hlt:K b j2<=K a i2:=yf (zAj.2 (g3 0 ∅ ∅));generalize o2=oA at mA ⊢;generalize hiA:i2=iA at mA i1 hlt ⊢;have le1:i2<=iA:=∅
        exact key _ _ mA i1 hlt le1
      ·intro oA iA mA i1 hlt le1
       obtain⟨u3,r3,eA⟩:=Xi ha (show iA<a.size by omega);have mB:=mA.b1 sa sb eb eA hlt;refine vL Dy
       by_cases z3:j2+1=b.size
       ·refine XL (by rw[z3];exact beq_self_eq_true _) ?_
        exact vN (.inl ⟨_,_,rfl,mB.dB sa sb ∅,kp4⟩)
       refine XH ⇑z3 ?_;refine vL My;refine vL (Xw (k:=K a iA) hb hk4 ∅ ∅ Kb λk2 p1 p2 p3=>?_)
       dsimp -zeta only
       refine' (λ(key2:∀(oB:aZ)(jB:Nat),Mg a.toList b.toList oB.toList iA jB->jB<b.size->K a iA<=K b jB->j2+1<=jB->(_:Array vT->Nat->Prop) oB jB)=>_) _
       rotate_left
       ·by_cases hk2:k2>0
        ·refine XL hk2 ?_
         have mC:=mB.b sb k2 (λx hx y hy=>yd (zA6 (v:=K a iA) (λt h1 h2=>yf (zAo.1 (p2 t h1))) x hx) (Wu sa (drop_one eA) y hy));rw[<- zA7,<- yL]at mC
         by_cases z4:j2+1+k2=b.size
         ·refine XL (by rw[z4];exact beq_self_eq_true _) ?_
          exact vN (.inl ⟨_,_,rfl,mC.dB sa sb ∅,kp4⟩)
         refine XH ⇑z4 ?_;have j1:j2+1+k2<b.size:=∅
         have hle:K a iA<=K b (j2+1+k2):=zAo.2 (p3 k2 bZ ∅);have le2:j2+1<=j2+1+k2:=∅
         generalize oA.push MG++b.extract (j2+1) (j2+1+k2)=oB at mC ⊢;generalize j2+1+k2=jB at mC j1 hle le2 ⊢;exact key2 _ _ mC j1 hle le2
        ·refine XH hk2 ?_
         have mC:=mB;have j1:j2+1<b.size:=∅
         have hle:K a iA<=K b (j2+1):=zAo.2 (p3 0 ∅ ∅);generalize oA.push MG=oB at mC ⊢;generalize hjB:j2+1=jB at mC j1 hle ⊢;have le2:j2+1<=jB:=∅
         exact key2 _ _ mC j1 hle le2
       ·intro oB jB mC j1 hle le2
        obtain⟨t5,q5,eB⟩:=Xi hb j1;have mD:=mC.a1 sa sb eA eB hle;refine vL My
        by_cases z5:iA+1+1=a.size
        ·refine XL (by rw[z5];exact beq_self_eq_true _) ?_
         exact vN (.inl ⟨_,_,rfl,mD.dL sa sb hl z5,kp4⟩)
        refine XH ⇑z5 ?_
        by_cases z6:(decide (k<7)&&decide (k2<7))=true
        ·refine XL z6 ?_
         exact vN (.inr EZ)
        ·refine XH z6 ?_
         exact vN EZ
    ·rintro c st3 ⟨o2,i2,j2,g2,ac2,bc2,rfl,m2,e1,e2,e3,kp3⟩
     omega
    ·rintro c st3 (⟨r,z,rfl,dn,kp3⟩|⟨o2,i2,j2,g2,ac2,bc2,rfl,m2,e1,e2,e3,kp3⟩)
     ·exact vN SS
     ·dsimp -zeta only
      refine vL Ar;exact vN ⟨_,_,_,_,rfl,m2,e1,e2,∅,kp3.trans kp4⟩
 ·rintro c st1 ⟨o,i,j,g,rfl,m,b1,b2,b3,kp⟩
  omega
 ·rintro c st1 ⟨r,z,rfl,dn,kp⟩
  exact vN aba
end
end So
set_option maxHeartbeats 1000000
namespace So
open PySem PyProof.Rows
structure Mh (al bl out:List vT) (i j:Nat):Prop where
 perm:(al.take i++(bl.take j++out.reverse)).Perm (al++bl)
 srt:Srt out.reverse
 lea:∀x∈al.take i,∀y∈out,Le x y
 leb:∀x∈bl.take j,∀y∈out,Le x y
theorem Xt{l:dj}(h:Srt l)(k:Nat):Srt (l.take k):=h.sublist (ZG k l)
theorem zB1(l:dj){i k:Nat}(h:k<=i):l.take i=l.take k++(l.take i).drop k:=by
 have:=(yH k (l.take i)).symm;rw[wQ,wj h]at this;exact this
variable{al bl out:List vT}{i j:Nat}
theorem Mh.a(m:CW)(sa:OG){k:Nat}(hk:k<=i)(h:∀x∈bl.take j,∀y∈(al.take i).drop k,Le x y):Mh al bl (out++((al.take i).drop k).reverse) k j:=by
 have e:=zB1 al hk;have sd:Srt (al.take k++(al.take i).drop k):=by rw[<- e];exact Xt sa i
 obtain⟨s1,s2,s3⟩:=zc.mp sd;refine BO
 ·rw[xT,xJ]
  refine y0 ?_ m.perm;have e2:al.take i++NM=al.take k++((al.take i).drop k++NM):=by rw[<- zL (al.take k),<- e]
  rw[e2];refine yS _ ?_;rw[<- zL,<- zL];exact yx _ yn
 ·rw[xT,xJ]
  exact zc.mpr ⟨s2,m.srt,λx hx y hy=>m.lea x (xK hx) y mi⟩
 ·rcases zM.mp hy with hy|hy
  ·exact m.lea x (by rw[e];exact zW _ hx) y hy
  ·exact s3 x hx y mi
 ·rcases zM.mp hy with hy|hy
  ·exact m.leb x hx y hy
  ·exact h x hx y mi
theorem Mh.b(m:CW)(sb:SC){k:Nat}(hk:k<=j)(h:∀x∈al.take i,∀y∈(bl.take j).drop k,Le x y):Mh al bl (out++((bl.take j).drop k).reverse) i k:=by
 have e:=zB1 bl hk;have sd:Srt (bl.take k++(bl.take j).drop k):=by rw[<- e];exact Xt sb j
 obtain⟨s1,s2,s3⟩:=zc.mp sd;refine BO
 ·rw[xT,xJ]
  have e2:bl.take k++((bl.take j).drop k++out.reverse)=bl.take j++out.reverse:=by rw[<- zL (bl.take k),<- e]
  rw[e2];exact m.perm
 ·rw[xT,xJ]
  exact zc.mpr ⟨s2,m.srt,λx hx y hy=>m.leb x (xK hx) y mi⟩
 ·rcases zM.mp hy with hy|hy
  ·exact m.lea x hx y hy
  ·exact h x hx y mi
 ·rcases zM.mp hy with hy|hy
  ·exact m.leb x (by rw[e];exact zW _ hx) y hy
  ·exact s3 x hx y mi
theorem Mh.done(m:CW)(sa:OG)(sb:SC)(h:∀x∈al.take i,∀y∈bl.take j,Le x y):Done al bl (al.take i++bl.take j++out.reverse):=by
 refine⟨by rw[zL];exact m.perm,?_⟩;refine zc.mpr ⟨zc.mpr ⟨Xt sa i,Xt sb j,h⟩,m.srt,fq⟩;exact(zM.mp hx).elim Oj Oi
theorem Mh.first(m:CW)(sa:OG)(sb:SC)(h:∀y∈bl.take j,∀x∈al.take i,Le y x):Done al bl (bl.take j++al.take i++out.reverse):=by
 refine SW
 ·refine y0 ?_ m.perm
  rw[<- zL];exact yx _ yn
 ·refine zc.mpr ⟨zc.mpr ⟨Xt sb j,Xt sa i,h⟩,m.srt,fq⟩
  exact(zM.mp hx).elim Oi Oj
theorem take_one{xs:aZ}{i:Nat}{p:vT}(h:xs[i]?=some p):(xs.toList.take (i+1)).drop i=[p]:=by
 obtain⟨hi,e⟩:=ZA.mp h;rw[wz,xC ⇑hi];simp[e]
theorem Wq{xs:aZ}(s:Srt xs.toList){i:Nat}{p:vT}(h:xs[i]?=some p):∀y∈xs.toList.take (i+1),Le y p:=by
 have sd:=Xt s (i+1);have e:=zB1 xs.toList (show i<=i+1 by omega);rw[take_one h]at e;rw[e]at sd ⊢;intro y hy;rcases zM.mp hy with hy|hy
 ·exact(zc.mp sd).2.2 y hy p (by simp)
 ·have:y=p:=by simpa using hy
  rw[this];exact zr _
theorem Mh.a1{a b out:aZ}{i j:Nat}{p q:vT}(m:DC)(sa:jq)(sb:jp)(hp:a[i]?=some p)(hq:b[j]?=some q)(h:Le q p):Mh a.toList b.toList (out.push p).toList i (j+1):=by
 have:=m.a sa (k:=i) ∅ (by
  rw[Ls];intro x hx y hy;have:y=p:=by simpa using hy
  subst this;exact yd (Wq sb hq x hx) h)
 rw[Ls]at this;simpa using this
theorem Mh.b1{a b out:aZ}{i j:Nat}{p q:vT}(m:DC)(sa:jq)(sb:jp)(hp:b[j]?=some p)(hq:a[i]?=some q)(h:Le q p):Mh a.toList b.toList (out.push p).toList (i+1) j:=by
 have:=m.b sb (k:=j) ∅ (by
  rw[Ls];intro x hx y hy;have:y=p:=by simpa using hy
  subst this;exact yd (Wq sa hq x hx) h)
 rw[Ls]at this;simpa using this
theorem zCV{xs:aZ}{i:Nat}:(xs.extract 0 i).toList=xs.toList.take i:=by
 rw[xj,wF];simp
theorem zA0{xs:aZ}{i k:Nat}:(xs.extract k i).toList=(xs.toList.take i).drop k:=by
 rw[xj,wF,wz]
theorem Mh.d0{a b out:aZ}{i j:Nat}(m:HS)(sa:jq)(sb:jp)(h:i=0\/j=0):Done a.toList b.toList (a.extract 0 i++b.extract 0 j++out.reverse).toList:=by
 have:=m.done sa sb (λx hx y hy=>by
  rcases h with rfl|rfl
  ·simp at hx
  ·simp at hy)
 rw[yL,yL,zCV,zCV,wA];exact this
theorem Mh.dF{a b out:aZ}{i j:Nat}(m:HS)(sa:jq)(sb:jp)(hf:∀y∈b.toList.take 1,∀x∈a.toList,Le y x)(h:j=1):Done a.toList b.toList (b.extract 0 j++a.extract 0 i++out.reverse).toList:=by
 have:=m.first sa sb (λy hy x hx=>hf y (by rw[h]at hy;exact hy) x (xl hx))
 rw[yL,yL,zCV,zCV,wA];exact this
end So
set_option maxHeartbeats 1000000
namespace So
open PySem PyProof.Rows
noncomputable def zCL:Array vT->Array vT->StateT vc Sem aZ:=sortPriv% PySem.Builtin.mergeHi
section
variable{prog:vU}{w:vZ}{A:vf}{E:vB->vC->Prop}{s:vC}
theorem zBL{xs:aZ}{i k:Nat}{v:Int}(h:∀t,k<=t->t<i->v<=K xs t):∀x∈(xs.toList.take i).drop k,v<=ke x:=by
 intro x hx;obtain⟨t,ht,e⟩:=zf.mp hx;rw[xk,xM]at e;rw[yP,zg]at ht;have hl:k+t<xs.size:=by simp at ht;omega
 have e2:xs[k+t]?=some x:=by rw[getElem?_pos xs (k+t) hl,<- e];rfl
 have:=h (k+t) ∅ ∅;rw[zBi e2]at this;exact this
theorem zAv{a b:aZ}{st:vc}{Q:aay}(ha:IntKeys a)(hb:IntKeys b)(sa:jq)(sb:jp)(na:1<=a.size)(nb:1<=b.size)(h1:K b (b.size-1)<=K a Mo)(hf:∀y∈b.toList.take 1,∀x∈a.toList,Le y x)(hk:lc)(h:∀r st',Done a.toList b.toList r.toList->Kp st st'->Q r st'):wpS ak A E s (zCL a b) Q st:=by
 refine vL fu;obtain⟨t0,q0,ea0⟩:=Xi ha (show a.size-1<a.size by omega);obtain⟨u0,r0,eb0⟩:=Xi hb (show b.size-1<b.size by omega);refine vL (XU ea0 ?_);have m0:Mh a.toList b.toList (#[]:Array vT).toList (a.size-1+1) (b.size-1+1):=by
  rw[show a.size-1+1=a.size by omega,show b.size-1+1=b.size by omega];refine⟨?_,xL,λx _ y hy=>by simp at hy,λx _ y hy=>by simp at hy⟩;rw[yr (by simp),yr (by simp)];simp
 have m1:=m0.a1 sa sb ea0 eb0 (show K b (b.size-1)<=K a Mo from h1);rw[show b.size-1+1=b.size by omega]at m1;have m1:Mh a.toList b.toList (#[(Value.int (K a Mo) t0,q0)]:Array vT).toList Mo b.size:=m1
 dsimp -zeta only
 by_cases z1:a.size-1=0
 ·refine XL (by rw[z1];rfl) ?_
  exact vN (h _ st (m1.d0 sa sb (.inl z1)) Bi)
 refine XH ⇑z1 ?_
 by_cases z2:b.size=1
 ·refine XL (by rw[z2];rfl) ?_
  exact vN (h _ st (m1.dF sa sb hf z2) Bi)
 refine XH ⇑z2 ?_;refine vL oR;refine vL (uA (vi
  (I:=λx c st'=>∃o i j g,c=(none,i,j,o,g)/\Mh a.toList b.toList o.toList i j/\1<=i/\2<=j/\i<=a.size/\j<=b.size/\x+1+i+j<=a.size+b.size/\Kp st st')
  (Q:=λc st'=>∃r z,c=Dm/\Done a.toList b.toList r.toList/\Kp st st') ?_ ?_ ⟨_,_,_,_,rfl,m1,∅,∅,∅,∅,∅,Bi⟩) ?_)
 ·rintro x c st1 _ hx ⟨o,i,j,g,rfl,m,b1,b2,b3,b4,b5,kp⟩
  dsimp -zeta only
  refine vL (uA (vi
   (I:=λy c st'=>∃o' i' j' ac bc,c=P4/\Mh a.toList b.toList o'.toList i' j'/\1<=i'/\2<=j'/\i'<=a.size/\j'<=b.size/\y+i'+j'<=i+j/\Kp st st')
   (Q:=λc st'=>(∃r z,c=Dm/\Done a.toList b.toList r.toList/\Kp st st')\/∃o' i' j' ac bc,c=P4/\Mh a.toList b.toList o'.toList i' j'/\1<=i'/\2<=j'/\i'<=a.size/\j'<=b.size/\1+i'+j'<=i+j/\Kp st st') ?_ ?_ ⟨_,_,_,_,_,rfl,m,b1,b2,b3,b4,∅,kp⟩) ?_)
  ·rintro y c st2 _ hy ⟨o',i',j',ac,bc,rfl,m',c1,c2,c3,c4,c5,kp'⟩
   dsimp -zeta only
   obtain⟨i',rfl⟩:∃n,i'=n+1:=⟨i'-1,∅⟩;obtain⟨j',rfl⟩:∃n,j'=n+1:=⟨j'-1,∅⟩;obtain⟨t1,q1,eb⟩:=Xi hb (show j'<b.size by omega);obtain⟨u1,r1,ea⟩:=Xi ha (show i'<a.size by omega);have hk':kindOf st2=uB:=kp'.kind.trans hk;refine vL EN
   dsimp -zeta only
   by_cases hw:K b j'<K a i'
   ·refine XL (vQ hw) ?_
    have m2:=m'.a1 sa sb ea eb (show K b j'<=K a i' by omega);refine vL (XU ea ?_)
    by_cases z:i'=0
    ·refine XL (by rw[z];rfl) ?_
     exact vN (.inl ⟨_,_,rfl,m2.d0 sa sb Ps,kp'⟩)
    ·refine XH ⇑z ?_
     split
     ·exact vN (.inr fK)
     ·exact vN fK
   ·refine XH (λh=>hw g8) ?_
    have m2:=m'.b1 sa sb eb ea (show K a i'<=K b j' by omega);refine vL Dy
    by_cases z:j'=1
    ·refine XL (by rw[z];rfl) ?_
     exact vN (.inl ⟨_,_,rfl,m2.dF sa sb hf z,kp'⟩)
    ·refine XH ⇑z ?_
     split
     ·exact vN (.inr fK)
     ·exact vN fK
  ·rintro c st2 ⟨o',i',j',ac,bc,rfl,m',c1,c2,c3,c4,c5,kp'⟩
   omega
  ·rintro c st2 (⟨r,z,rfl,dn,kp'⟩|⟨o',i',j',ac,bc,rfl,m',c1,c2,c3,c4,c5,kp'⟩)
   ·exact vN ST
   ·dsimp -zeta only
    refine vL fu;refine vL (uA (vi
     (I:=λy c st'=>∃o2 i2 j2 g2 ac bc,c=NE/\Mh a.toList b.toList o2.toList i2 j2/\1<=i2/\2<=j2/\i2<=a.size/\j2<=b.size/\y+i2+j2<=i'+j'/\Kp st st')
     (Q:=λc st'=>(∃r z,c=Dm/\Done a.toList b.toList r.toList/\Kp st st')\/∃o2 i2 j2 g2 ac bc,c=NE/\Mh a.toList b.toList o2.toList i2 j2/\1<=i2/\2<=j2/\i2<=a.size/\j2<=b.size/\i2+j2<=i'+j'/\Kp st st') ?_ ?_ ⟨_,_,_,_,_,_,rfl,m',c1,c2,c3,c4,∅,kp'⟩) ?_)
    ·rintro y c st3 _ hy ⟨o2,i2,j2,g2,ac2,bc2,rfl,m2,e1,e2,e3,e4,e5,kp3⟩
     dsimp -zeta only
     obtain⟨jB,rfl⟩:∃n,j2=n+1:=⟨j2-1,∅⟩;obtain⟨t2,q2,eb⟩:=Xi hb (show jB<b.size by omega);refine' (λ(key:∀gg,(_:Nat->Prop) gg)=>_) _
     rotate_left
     ·by_cases hg:g2>1
      ·refine XL hg ?_
       generalize g2-1=gg;exact key gg
      ·refine XH hg ?_
       exact key g2
     ·intro gg
      refine vL Ar;replace kp4:=kp3.trans kp4;have hk4:kindOf st4=uB:=kp4.kind.trans hk;refine vL Dy;refine vL (Xw (k:=K b jB) ha hk4 ∅ ∅ Kc λk g1 g2 g3=>?_);simp only[xU]at g2 g3
      dsimp -zeta only
      refine' (λ(key:∀(oA:aZ)(kA iA:Nat),Mh a.toList b.toList oA.toList iA (jB+1)->K a (iA-1)<=K b jB->(1<=iA/\iA<=i2)->(_:Array vT->Nat->Nat->Prop) oA kA iA)=>_) _
      rotate_left
      ·by_cases hk0:i2-k>0
       ·refine XL hk0 ?_
        have mA:=m2.a sa g1 (λx hx y hy=>yd (Wq sb eb x hx) (zBL (v:=K b jB) (λt h1 h2=>yf (zAj.2 (g3 t h1 h2))) y hy));have mA:Mh a.toList b.toList (o2++(a.extract k i2).reverse).toList k (jB+1):=by rw[yL,wA,zA0];exact mA
        by_cases z:k=0
        ·refine XL (by rw[z];rfl) ?_
         exact vN (.inl ⟨_,_,rfl,mA.d0 sa sb Ps,kp4⟩)
        refine XH ⇑z ?_;have hle:K a (k-1)<=K b jB:=zAj.1 (g2 (k-1) ∅);have i1:1<=k/\k<=i2:=⟨∅,g1⟩;generalize o2++(a.extract k i2).reverse=oA at mA ⊢;generalize i2-k=kA;generalize k=iA at mA hle i1 ⊢;exact key oA kA iA mA hle i1
       ·refine XH hk0 ?_
        have mA:=m2;have hle:K a (i2-1)<=K b jB:=zAj.1 (g2 (i2-1) ∅);have i1:1<=i2/\i2<=i2:=⟨e1,bZ⟩;generalize o2=oA at mA ⊢;generalize i2-k=kA;generalize hiA:i2=iA at mA hle ⊢;rw[hiA]at i1;have i1:1<=iA/\iA<=i2:=⟨i1.1,∅⟩;exact key oA kA iA mA hle i1
      ·intro oA kA iA mA hle i1
       obtain⟨iB,rfl⟩:∃n,iA=n+1:=⟨iA-1,∅⟩
       dsimp -zeta only[Zx]at hle ⊢
       obtain⟨u3,r3,eA⟩:=Xi ha (show iB<a.size by omega);have mB:=mA.b1 sa sb eb eA hle;refine vL Dy
       by_cases z3:jB=1
       ·refine XL (by rw[z3];rfl) ?_
        exact vN (.inl ⟨_,_,rfl,mB.dF sa sb hf z3,kp4⟩)
       refine XH ⇑z3 ?_;refine vL My;refine vL (Xw (k:=K a iB) hb hk4 ∅ ∅ Kb λk2 p1 p2 p3=>?_);simp only[xU]at p2 p3
       dsimp -zeta only
       refine' (λ(key2:∀(oB:aZ)(kB jC:Nat),Mh a.toList b.toList oB.toList (iB+1) jC->K b (jC-1)<=K a iB->(2<=jC/\jC<=jB)->(_:Array vT->Nat->Nat->Prop) oB kB jC)=>_) _
       rotate_left
       ·by_cases hk2:jB-k2>0
        ·refine XL hk2 ?_
         have mC:=mB.b sb p1 (λx hx y hy=>yd (Wq sa eA x hx) (zBL (v:=K a iB) (λt h1 h2=>zAo.2 (p3 t h1 h2)) y hy));rw[<- zA0,<- wA,<- yL]at mC
         by_cases z4:k2=1
         ·refine XL (by rw[z4];rfl) ?_
          exact vN (.inl ⟨_,_,rfl,mC.dF sa sb hf z4,kp4⟩)
         refine XH ⇑z4 ?_
         by_cases z4':k2=0
         ·refine XL (by rw[z4'];rfl) ?_
          exact vN (.inl ⟨_,_,rfl,mC.d0 sa sb (.inr z4'),kp4⟩)
         refine XH ⇑z4' ?_;have hle2:K b (k2-1)<=K a iB:=yf (zAo.1 (p2 (k2-1) ∅));have j1:2<=k2/\k2<=jB:=⟨∅,p1⟩;generalize oA.push MF++(b.extract k2 jB).reverse=oB at mC ⊢;generalize jB-k2=kB;generalize k2=jC at mC hle2 j1 ⊢;exact key2 oB kB jC mC hle2 j1
        ·refine XH hk2 ?_
         have mC:=mB;have hle2:K b (jB-1)<=K a iB:=yf (zAo.1 (p2 (jB-1) ∅));generalize oA.push MF=oB at mC ⊢;generalize jB-k2=kB;generalize hjC:jB=jC at mC hle2 ⊢;have j1:2<=jC/\jC<=jB:=ri;exact key2 oB kB jC mC hle2 j1
       ·intro oB kB jC mC hle2 j1
        obtain⟨jD,rfl⟩:∃n,jC=n+1:=⟨jC-1,∅⟩
        dsimp -zeta only[Zx]at hle2
        obtain⟨t5,q5,eB⟩:=Xi hb (show jD<b.size by omega);have mD:=mC.a1 sa sb eA eB hle2;refine vL My
        by_cases z5:iB=0
        ·refine XL (by rw[z5];rfl) ?_
         exact vN (.inl ⟨_,_,rfl,mD.d0 sa sb (.inl z5),kp4⟩)
        refine XH ⇑z5 ?_
        by_cases z6:(decide (kA<7)&&decide (kB<7))=true
        ·refine XL z6 ?_
         exact vN (.inr Bm)
        ·refine XH z6 ?_
         exact vN Bm
    ·rintro c st3 ⟨o2,i2,j2,g2,ac2,bc2,rfl,m2,e1,e2,e3,e4,e5,kp3⟩
     omega
    ·rintro c st3 (⟨r,z,rfl,dn,kp3⟩|⟨o2,i2,j2,g2,ac2,bc2,rfl,m2,e1,e2,e3,e4,e5,kp3⟩)
     ·exact vN SS
     ·dsimp -zeta only
      refine vL Ar;exact vN ⟨_,_,_,_,rfl,m2,e1,e2,e3,e4,∅,kp3.trans kp4⟩
 ·rintro c st1 ⟨o,i,j,g,rfl,m,b1,b2,b3,b4,b5,kp⟩
  omega
 ·rintro c st1 ⟨r,z,rfl,dn,kp⟩
  exact vN aba
end
end So
set_option maxHeartbeats 1000000
namespace So
open PySem PyProof.Rows
theorem zCx{P:dj}{x y:vT}{S:dj}{n:Nat}(h:n=P.length):(P++x::S).set n y=P++y::S:=by
 subst h;rw[List.set_append_right _ _ bZ,wo];rfl
theorem zBN(s:Nat):∀(ys:dj)(n:Nat)(xs:aZ)(P M S:dj),xs.toList=P++M++S->P.length=s+n->M.length=ys.length ->
  ((ys.zipIdx n).foldl (λa p=>a.setIfInBounds (s+p.2) p.1) xs).toList=P++ys++S
 | [],n,xs,P,M,S,h,hp,hm=>by
  have:M=[]:=ZT.mp hm;subst this;exact h
 | y::ys,n,xs,P,M,S,h,hp,hm=>by
  cases M with
  | nil=>cases hm
  | cons x M=>
   rw[List.zipIdx_cons,wL];have h2:(xs.setIfInBounds (s+n) y).toList=(P++[y])++M++S:=by
    rw[ZB,h];have:P++x::M++S=P++x::(M++S):=by simp
    rw[this,zCx ∅];simp
   rw[zBN s ys (n+1) _ (P++[y]) M S h2 (by simp;omega) ⇑hm];simp
section
variable{prog:vU}{w:vZ}{A:vf}{E:vB->vC->Prop}{s:vC}
theorem Wx{xs ys:aZ}(h:IntKeys xs)(hs:∀p∈ys.toList,p∈xs.toList):IntKeys ys:=λp hp=>h p (hs p hp)
theorem zB4{X M Y:dj}(h1:Srt X)(h2:Srt M)(h3:Srt Y)(h12:∀x∈X,∀y∈M,Le x y)(h13:∀x∈X,∀y∈Y,Le x y)(h23:∀x∈M,∀y∈Y,Le x y):Srt (X++M++Y) :=
 zc.mpr ⟨zc.mpr ⟨h1,h2,h12⟩,h3,λx hx y hy=>(zM.mp hx).elim (λhx=>h13 x hx y hy) (λhx=>h23 x hx y hy)⟩
theorem zC3{σ:Type}{M:Model}{x:σ}{Q:PUnit->σ->Prop}{st:σ}(h:Q ⟨⟩ x):wpS M A E s (set x:StateT σ Sem PUnit) Q st:=by
 unfold wpS;rw[StateT.run_set];exact vJ ⟨rfl,h⟩
theorem zCm{arr:aZ}{P X S:dj}{s0 t:Nat}(hl:AR)(hp:LD)(ht:Nw):arr[s0+t]?=X[t]?:=by
 rw[<- zb,hl,zL,zd ∅,show s0+t-P.length=t by omega,zh ht]
theorem zAD{arr:aZ}{P X S:dj}{s0 t:Nat}(hl:AR)(hp:LD)(ht:Nw):K arr (s0+t)=ke X[t]:=by
 have:=zCm hl hp ht;rw[zD ht]at this;exact zBi this
theorem zAZ{arr:aZ}{P X S:dj}{s0:Nat}(hl:AR)(hp:LD)(hs:Srt X):∀i j,i<=j->j<X.length->K arr (s0+i)<=K arr (s0+j):=λi j h1 h2=>by
 rw[zAD hl hp ∅,zAD hl hp h2];rcases yB i j with z|z
 ·exact ya.mp hs i j ∅ h2 z
 ·have:i=j:=∅
  subst this;exact zr _
theorem WR{X:dj}{k:Nat}{x:vT}(h:x∈X.take k):∃t,∃(ht:Nw),t<k/\X[t]=x:=by
 obtain⟨t,ht,e⟩:=zf.mp h;rw[zg]at ht;rw[xM]at e;exact⟨t,∅,∅,e⟩
theorem WO{X:dj}{k:Nat}{x:vT}(h:x∈X.drop k):∃t,∃(ht:Nw),k<=t/\X[t]=x:=by
 obtain⟨t,ht,e⟩:=zf.mp h;rw[yP]at ht;rw[xk]at e;exact⟨k+t,∅,∅,e⟩
theorem zCA{arr:aZ}{P X S:dj}{s0 e0:Nat}(hl:AR)(hp:LD)(he:e0=s0+X.length):(arr.extract s0 e0).toList=X:=by
 rw[zA0,hl,zL];subst he;rw[<- hp,<- zB,<- zL,Yr,List.drop_left]
theorem zA3{st:vc}{i sa na pw sb nb pw2:Nat}{P S RA RB:dj}{Q:Go}(h0:N1)(hk:lc)(hfl:uN st=none)(p1:(ve st)[i]?=some (sa,na,pw))(p2:(ve st)[i+1]?=some (sb,nb,pw2))(hl:(vM st).toList=P++RA++RB++S)(lP:P.length=sa)(lA:RA.length=na)(lB:RB.length=nb)(hsb:sb=sa+na)(n1:1<=na)(n2:1<=nb)(sA:Srt RA)(sB:Srt RB)(h:∀st' R,kindOf st'=uB->uN st'=none->ve st'=((ve st).setIfInBounds i Nx).eraseIdxIfInBounds (i+1)->(vM st').toList=P++R++S->R.Perm Rt->Srt R->Q true st'):wpS ak A E s (mergeAt' i) Q st:=by
 cases st with
 | mk kd arr pe gl fa=>
 dsimp only[vM,kindOf,ve,uN]at h0 hk hfl p1 p2 hl
 refine vL oR
 dsimp -zeta only
 rw[p1,p2]
 dsimp -zeta only
 refine vL (zC3 ?_);generalize hst2:SortSt.mk' kd arr oP gl fa=st2;have k2:kindOf st2=uB:=by rw[<- hst2];exact hk
 have f2:uN st2=none:=by rw[<- hst2];exact hfl
 have pd2:ve st2=(pe.setIfInBounds i Nx).eraseIdxIfInBounds (i+1):=by rw[<- hst2]
 have ar2:vM st2=arr:=by rw[<- hst2]
 change wpS _ _ _ _ _ _ (SortSt.mk' kd arr oP gl fa)
 rw[hst2];have hlA:arr.toList=P++RA++(RB++S):=by rw[hl];simp
 have hlB:arr.toList=(P++RA)++RB++S:=by rw[hl]
 have lPA:(P++RA).length=sb:=by rw[zB];omega
 have hsz:arr.size=sa+na+nb+S.length:=by
  have:=v7 xv hl;simp only[zB,zP]at this;omega
 obtain⟨t0,q0,eb0⟩:=Xi h0 (show sb<arr.size by omega);have kb0:K arr sb=ke RB[0]:=zAD (t:=0) hlB lPA ∅;refine vL (XU eb0 ?_);refine vL (Xw (k:=K arr sb) h0 k2 ∅ ∅ (λi j h1 h2=>zAZ hlA lP sA i j h1 ∅) λk g1 g2 g3=>?_)
 dsimp -zeta only
 have a1:∀x∈RA.take k,ke x<=K arr sb:=λx hx=>by
  obtain⟨t,ht,hk',rfl⟩:=WR hx;rw[<- zAD hlA lP ht];exact zAj.1 (g2 t hk')
 have a2:∀x∈RA.drop k,K arr sb<ke x:=λx hx=>by
  obtain⟨t,ht,hk',rfl⟩:=WO hx;rw[<- zAD hlA lP ht];exact zAj.2 (g3 t hk' ∅)
 have bb:∀x∈RB,K arr sb<=ke x:=λx hx=>by
  obtain⟨t,ht,rfl⟩:=zf.mp hx;rw[<- zAD hlB lPA ht];exact zAZ hlB lPA sB 0 t ∅ ht
 by_cases z1:na-k=0
 ·refine XL (by rw[z1];rfl) ?_
  refine vN (h st2 Rt k2 f2 pd2 (by rw[ar2,hl];simp) VN Om);have e:RA.take k=RA:=yr ∅;exact yd (a1 x (by rw[e];exact hx)) (bb y hy)
 refine XH ⇑z1 ?_;have hla:sa+k+(na-k)-1=sa+UT:=∅
 rw[hla];obtain⟨t1,q1,ea1⟩:=Xi h0 (show sa+UT<arr.size by omega);have ka:K arr EC=ke RA[UT]:=zAD hlA lP ∅;refine vL (XU ea1 ?_);refine vL (Xw (k:=K arr EC) h0 k2 ∅ ∅ (λi j h1 h2=>zAZ hlB lPA sB i j h1 ∅) λm c1 c2 c3=>?_)
 dsimp -zeta only
 have b1:∀x∈RB.take m,ke x<K arr EC:=λx hx=>by
  obtain⟨t,ht,hk',rfl⟩:=WR hx;rw[<- zAD hlB lPA ht];exact zAo.1 (c2 t hk')
 have b2:∀x∈RB.drop m,K arr EC<=ke x:=λx hx=>by
  obtain⟨t,ht,hk',rfl⟩:=WO hx;rw[<- zAD hlB lPA ht];exact zAo.2 (c3 t hk' ∅)
 have aa:∀x∈RA,ke x<=K arr EC:=λx hx=>by
  obtain⟨t,ht,rfl⟩:=zf.mp hx;rw[<- zAD hlA lP ht];exact zAZ hlA lP sA t UT ∅ ∅
 by_cases z2:m=0
 ·refine XL (by rw[z2];rfl) ?_
  refine vN (h st2 Rt k2 f2 pd2 (by rw[ar2,hl];simp) VN Om);exact yd (aa x hx) (b2 y (by rw[z2];exact hy))
 refine XH ⇑z2 ?_;have eA:RA=RA.take k++RA.drop k:=(yH k RA).symm;have eB:RB=RB.take m++RB.drop m:=(yH m RB).symm;have hx:(arr.extract (sa+k) sb).toList=RA.drop k:=zCA (P:=P++RA.take k) (S:=RB++S) (by rw[hlA,zL P (RA.take k),yH]) (by rw[zB,zg];omega) (by rw[yP];omega);have hy:(arr.extract sb (sb+m)).toList=RB.take m:=zCA (P:=P++RA) (S:=RB.drop m++S) (by rw[hlB,zL (P++RA) (RB.take m),show RB.take m++acK=RB++S by rw[<- zL,yH],zL (P++RA)]) lPA (by rw[zg];omega);generalize hX:arr.extract (sa+k) sb=X at hx;generalize hY:arr.extract sb (sb+m)=Y at hy;have lX:X.size=na-k:=by rw[<- zP,hx,yP];omega
 have lY:Y.size=m:=by rw[<- zP,hy,zg];omega
 have iX:IntKeys X:=Wx h0 λp hp=>by rw[hx]at hp;rw[hlA];have:=xK hp;simp[this]
 have iY:IntKeys Y:=Wx h0 λp hp=>by rw[hy]at hp;rw[hlB];have:=xl hp;simp[this]
 have sX:Srt X.toList:=by rw[hx];exact Xv sA k
 have sY:Srt Y.toList:=by rw[hy];exact Xt sB m
 have memX:∀i,i<X.size->∃x∈RA.drop k,K X i=ke x:=λi hi=>by
  have e:X[i]?=some X[i]:=getElem?_pos _ i hi;exact⟨X[i],by rw[<- hx];simp,zBi e⟩
 have memY:∀i,i<Y.size->∃x∈RB.take m,K Y i=ke x:=λi hi=>by
  have e:Y[i]?=some Y[i]:=getElem?_pos _ i hi;exact⟨Y[i],by rw[<- hy];simp,zBi e⟩
 have q1:∀x∈RA.drop k,∀y∈RB.take 1,Le y x:=λx hx y hy=>by
  obtain⟨t,ht,hk',rfl⟩:=WR hy;have:t=0:=∅
  subst this;have:=a2 x hx;show ke RB[0]<=ke x;rw[<- kb0];omega
 have h1:K Y 0<=K X 0:=by
  obtain⟨x,hx',ex⟩:=memX 0 ∅;have e:Y[0]?=some Y[0]:=getElem?_pos _ 0 ∅;rw[ex,zBi e];refine q1 x hx' _ ?_;have:Y.toList.take 1=RB.take 1:=by rw[hy,wQ];congr 1;omega
  rw[<- this];have:=drop_one e;rw[w9]at this;rw[this];simp
 have hlast:∀y∈Y.toList,∀x∈X.toList.drop (X.size-1),Le y x:=λy hy' x hx'=>by
  rw[hy]at hy';rw[hx,w8]at hx';obtain⟨t,ht,hk',rfl⟩:=WO hx';have:t=na-1:=∅
  subst this;have:=b1 y hy';show ke y<=ke RA[UT];rw[<- ka];omega
 have h1':K Y (Y.size-1)<=K X (X.size-1):=by
  obtain⟨y,hy',ey⟩:=memY (Y.size-1) ∅;have e:X[X.size-1]?=some X[X.size-1]:=getElem?_pos _ _ ∅;rw[ey,zBi e];refine hlast y (by rw[hy];exact hy') _ ?_;rw[drop_one e];simp
 have hfirst:∀y∈Y.toList.take 1,∀x∈X.toList,Le y x:=λy hy' x hx'=>by
  rw[hy,wQ]at hy';rw[hx]at hx';exact q1 x hx' y (by rw[show min 1 m=1 by omega]at hy';exact hy')
 by_cases z3:na-k<=m
 case' pos=>
  refine XL z3 ?_;refine vL (zA4 iX iY sX sY ∅ ∅ h1 hlast k2 λr st3 dn kp=>?_)
 case' neg=>
  refine XH z3 ?_;refine vL (zAv iX iY sX sY ∅ ∅ h1' hfirst k2 λr st3 dn kp=>?_)
 all_goals
  rw[hx,hy]at dn;have f3:uN st3=none:=kp.fail.trans f2;have ar3:vM st3=arr:=kp.arr.trans ar2;have pm:(RA.take k++r.toList++RB.drop m).Perm Rt:=by
   have:RA++RB=RA.take k++Pk++RB.drop m:=by
    conv=>lhs;rw[eA,eB]
    simp only[zL]
   rw[this];exact yx _ (yS _ dn.perm)
  have inr:∀x∈r.toList,x∈RA.drop k\/x∈RB.take m:=λx hx'=>zM.mp (dn.perm.mem_iff.mp hx');have sAA:Srt (RA.take k++RA.drop k):=by rw[<- eA];exact sA
  have sBB:Srt (RB.take m++RB.drop m):=by rw[<- eB];exact sB
  have sR:Srt IQ:=zB4 (Xt sA k) dn.srt (Xv sB m)
   (λx hx' y hy'=>(inr y hy').elim (λhy'=>(zc.mp sAA).2.2 x hx' y hy') (λhy'=>yd (a1 x hx') (bb y (xl hy'))))
   (λx hx' y hy'=>yd (a1 x hx') (bb y (xK hy')))
   (λx hx' y hy'=>(inr x hx').elim (λhx'=>yd (aa x (xK hx')) (b2 y hy')) (λhx'=>(zc.mp sBB).2.2 x hx' y hy'))
  have lr:r.toList.length=(RA.drop k++RB.take m).length:=dn.perm.length_eq;have hput:=zBN (sa+k) r.toList 0 arr (P++RA.take k) Pk acK (by
   rw[hl]
   conv=>lhs;rw[eA,eB]
   simp only[zL]) (by rw[zB,zg];omega) lr.symm
  refine vL (uZ (vL oR));have fin:=h (SortSt.mk' (kindOf st3) (ZW (λa x=>a.setIfInBounds (sa+k+x.snd) x.fst) oI r.toList.zipIdx) (ve st3) (gallopOf st3) (uN st3)) IQ (kp.kind.trans k2) f3 (kp.pend.trans pd2) (by
   show (ZW _ oI _).toList=_;rw[ar3,hput];simp only[zL]) pm sR
  show wpS _ _ _ _ (pure (uN st3).isNone) _ _;rw[f3];exact vN fin
end
end So
set_option maxHeartbeats 1000000
namespace So
open PySem PyProof.Rows
def SrK(xs:aZ)(lo k:Nat):Prop:=∀i j,i<=j->j<k->K xs Cf<=K xs HM
structure Within (lo hi:Nat) (st st':vc):Prop where
 kind:kindOf st'=kindOf st
 pend:ve st'=ve st
 fail:uN st'=uN st
 perm:(vM st').Perm (vM st)
 out:∀t,(t<lo\/hi<=t)->(vM st')[t]?=(vM st)[t]?
theorem Within.refl(lo hi:Nat)(st:vc):Within lo hi st st:=⟨rfl,rfl,rfl,Zm _,DK⟩
theorem Within.trans{lo hi:Nat}{a b c:vc}(h:CV)(h':Within lo hi b c):Within lo hi a c:=⟨TL,TK,TM,h'.perm.trans h.perm,λt ht=>(h'.out t ht).trans (h.out t ht)⟩
theorem Within.size{lo hi:Nat}{a b:vc}(h:CV):(vM b).size=(vM a).size:=h.perm.size_eq
theorem Within.ints{lo hi:Nat}{a b:vc}(h:CV)(h0:IntKeys (vM a)):IntKeys (vM b):=λp hp=>h0 p J6
theorem zAP{lo hi:Nat}{st:vc}{ys:aZ}(hp:ys.Perm eI)(ho:∀t,(t<lo\/hi<=t)->ys[t]?=(vM st)[t]?):Within lo hi st (setArr st ys):=⟨rfl,rfl,rfl,hp,ho⟩
section
variable{prog:vU}{w:vZ}{A:vf}{E:vB->vC->Prop}{s:vC}
theorem We{st:vc}{i j:Nat}{Q:ES}(h0:N1)(hk:lc)(hi:i<(vM st).size)(hj:j<(vM st).size)(h:Q (some (decide (K eI i<K eI j))) st):wpS ak A E s (ltAt' i j) Q st:=by
 obtain⟨t,p,e1⟩:=Xi h0 hi;obtain⟨u,q,e2⟩:=Xi h0 hj;exact wpS_ltAt hk e1 e2 h
theorem zBY{st:vc}{lo n ok:Nat}{Q:Go}(h0:N1)(hk:lc)(hn:lo+n<=(vM st).size)(hok:ok<=n)(hs:SrK eI lo ok)(h:∀st',Within lo Ki st st'->SrK bN lo n->Q true st'):wpS ak A E s (binarySort' lo n ok) Q st:=by
 refine vL (uA (vi
  (I:=λx c st'=>c=(none,())/\Within lo Ki st st'/\SrK bN lo x)
  (Q:=λc st'=>c=(none,())/\Within lo Ki st st'/\SrK bN lo n) ?_ ?_ ⟨rfl,Ve,?_⟩) ?_)
 ·rintro k c st1 hk1 hkn ⟨rfl,W,S⟩
  have sz:=W.size;have i0:=W.ints h0;have kd:kindOf st1=uB:=W.kind.trans hk
  dsimp only
  refine vL (uA (vi
   (I:=λy c st'=>st'=st1/\∃l r,c=Tz/\l<=r/\r<=k/\r-l<=k-y/\(∀t,t<l->K jA HL<=K jA Kj)/\(∀t,r<=t->t<k->K jA Kj<K jA HL))
   (Q:=λc st'=>st'=st1/\∃l,c=(none,l,l)/\l<=k/\(∀t,t<l->K jA HL<=K jA Kj)/\(∀t,l<=t->t<k->K jA Kj<K jA HL)) ?_ ?_ ⟨rfl,0,k,rfl,∅,∅,∅,λt ht=>∅,λt h1 h2=>∅⟩) ?_)
  ·rintro y c st2 _ hy ⟨rfl,l,r,rfl,b1,b2,b3,b4,b5⟩
   dsimp only
   by_cases z:l>=r
   ·rw[fQ]
    have:l=r:=∅
    subst this;exact vN Oe
   ·rw[fI]
    refine vL (We i0 kd ∅ ∅ ?_)
    dsimp only
    by_cases hc:K lD Kj<K lD (lo+(l+r)/2)
    ·rw[QM,jQ]
     refine vN ⟨rfl,_,_,rfl,∅,∅,∅,b4,λt h1 h2=>?_⟩;have:=S ((l+r)/2) t h1 h2;omega
    ·rw[vX hc,vG (by decide)]
     refine vN ⟨rfl,_,_,rfl,∅,∅,∅,λt ht=>?_,b5⟩;have:=S t ((l+r)/2) ∅ ∅;omega
  ·rintro c st2 ⟨rfl,l,r,rfl,b1,b2,b3,b4,b5⟩
   have:l=r:=∅
   subst this;exact Oe
  ·rintro c st2 ⟨rfl,l,rfl,b1,b4,b5⟩
   dsimp only
   refine vL (uZ ?_);have hsrc:lo+k<(vM st2).size:=∅
   have hd:lo+k-(lo+l)<=lo+k:=∅
   refine vN ⟨rfl,W.trans (zAP Sj λt ht=>?_),λi j h1 h2=>?_⟩
   ·show (bubble lD Kj GG)[t]?=_
    rw[getElem?_bubble hsrc _ hd,fO,fO]
   ·show K U6 Cf<=K U6 HM
    rw[sx hsrc hd,sx hsrc hd];have e:lo+k-GG=lo+l:=∅
    rw[e]
    by_cases c1:i=l
    ·rw[jP]
     by_cases c2:j=l
     ·rw[jP];exact zr _
     ·rw[fO,jP,show lo+j-1=lo+(j-1) by omega]
      exact yf (b5 (j-1) ∅ ∅)
    ·rw[fO]
     by_cases c3:l<i
     ·rw[jP,fO,jP,show lo+i-1=lo+(i-1) by omega,show lo+j-1=lo+(j-1) by omega]
      exact S (i-1) (j-1) ∅ ∅
     ·rw[fO]
      by_cases c2:j=l
      ·rw[jP];exact b4 i ∅
      ·rw[fO]
       by_cases c4:l<j
       ·rw[jP,show lo+j-1=lo+(j-1) by omega]
        exact S i (j-1) ∅ ∅
       ·rw[fO]
        exact S i j h1 ∅
 ·rintro c st1 ⟨rfl,W,S⟩
  refine⟨rfl,W,λi j h1 h2=>S i j h1 ∅⟩
 ·intro i j h1 h2
  by_cases z:ok=0
  ·have:i=j:=∅
   subst this;exact zr _
  ·exact hs i j h1 ∅
 ·rintro c st1 ⟨rfl,W,S⟩
  exact vN (h st1 W S)
end
end So
set_option maxHeartbeats 2000000
namespace So
open PySem PyProof.Rows
section
variable{prog:vU}{w:vZ}{A:vf}{E:vB->vC->Prop}{s:vC}
theorem zAT{st:vc}{lo hi i j:Nat}{Q:Ga}(hi1:lo<=i)(hj:j<=hi)(hs:hi<=(vM st).size)(h:∀st',Within lo hi st st'->(∀k,K bN k=if i<=k/\k<j then K eI aa6 else K eI k)->Q () st'):wpS ak A E s (reverseSlice' i j) Q st:=by
 rw[reverseSlice'_eq];refine uZ (h _ (zAP CJ λt ht=>?_) λk=>K_mirror ∅ k);rw[getElem?_mirror_all ∅,fO]
theorem keepK{xs ys:aZ}{i j:Nat}(KK:∀k,K ys k=if i<=k/\k<j then K xs aa6 else K xs k)(e:∀k,i<=k->k<j->K xs k=K xs (j-1))(k:Nat):K ys k=K xs k:=by
 rw[KK k]
 split
 ·rename_i hh
  rw[e aa6 ∅ ∅,e k hh.1 hh.2]
 ·rfl
theorem zCq{st:vc}{lo nrem:Nat}{Q:mt}(h0:N1)(hk:lc)(hn:lo+nrem<=(vM st).size)(h1:1<=nrem)(h:∀n st',1<=n->n<=nrem->Within lo JN st st'->SrK bN lo n->Q (some n) st'):wpS ak A E s (countRun' lo nrem) Q st:=by
 refine vL (uA (vi
  (I:=λx c st'=>st'=st/\c=(none,x)/\x<=nrem/\SrK eI lo x)
  (Q:=λc st'=>st'=st/\∃n,c=(none,n)/\1<=n/\n<=nrem/\SrK eI lo n/\(n<nrem->K eI Ki<K eI Ji)) ?_ ?_ ⟨rfl,rfl,h1,λi j h2 h3=>by rw[show i=j by omega];exact zr _⟩) ?_)
 ·rintro x c st1 hx1 hx ⟨rfl,rfl,b1,S⟩
  dsimp only
  refine vL Qh
  dsimp only
  by_cases hc:K jA TC<K jA Jh
  ·refine XL QM ?_
   exact vN ⟨rfl,x,rfl,hx1,b1,S,λ_=>hc⟩
  ·refine XH Ii ?_
   refine vN SR
   by_cases z:j=x
   ·subst z
    by_cases z2:i=j
    ·rw[z2];exact zr _
    ·have:=S i (j-1) ∅ ∅
     rw[show lo+(j-1)=lo+j-1 by omega]at this;omega
   ·exact S i j h2 ∅
 ·rintro c st1 ⟨rfl,rfl,b1,S⟩
  exact⟨rfl,_,rfl,∅,b1,S,λz=>∅⟩
 ·rintro c st1 ⟨rfl,n,rfl,b1,b2,S,b3⟩
  dsimp only
  by_cases z1:n=nrem
  ·refine XL (by rw[z1];exact beq_self_eq_true _) ?_
   exact vN E8
  refine XH ⇑z1 ?_;have b3:=b3 ∅;have start:∃stA,stA=st1:=bw
  by_cases z2:n>1
  case' pos=>
   refine XL z2 ?_;refine vL Qh
   dsimp only
   by_cases hc:K jA lo<K jA Ji
   ·refine XL QM ?_
    exact vN E8
   refine XH Ii ?_;refine vL (zAT (lo:=lo) (hi:=lo+nrem) bZ ∅ hn λst2 W KK=>?_);have eqs:∀t,t<n->K jA HL=K jA Ji:=λt ht=>by
    have e1:=S 0 t ∅ ht;have e2:=S t (n-1) ∅ ∅;rw[show lo+(n-1)=lo+n-1 by omega]at e2;rw[Nat.add_zero]at e1;omega
   have same:∀k,K lD k=K jA k:=λk=>by
    rw[KK k]
    split
    ·rename_i hh
     have e1:=eqs aco ∅;have e2:=eqs P6 ∅;rw[show lo+aco=lo+Ki-1-k by omega]at e1;rw[show lo+P6=k by omega]at e2;rw[e1,e2]
    ·rfl
   have eqs:∀t,t<n->K lD HL=K lD Ji:=λt ht=>by rw[same,same];exact eqs t ht
   have b3:K lD Ki<K lD Ji:=by rw[same,same];exact b3
  case' neg=>
   refine XH z2 ?_;have W:Within lo JN st1 st1:=Within.refl _ _ _;have eqs:∀t,t<n->K jA HL=K jA Ji:=λt ht=>by rw[show lo+t=lo+n-1 by omega]
   generalize hst2:st1=st2 at eqs b3 ⊢;have W:Within lo JN st1 st2:=by rw[<- hst2];exact Within.refl _ _ _
  all_goals
   clear start;refine vL fu;refine vL (uA (vi
    (I:=λx c st'=>∃q,c=(none,x,q)/\x<=nrem/\q+1<=x/\Within lo JN st1 st'/\(∀i j,i<=j->j<x->K bN HM<=K bN Cf)/\(∀t,x-1-q<=t->t<x->K bN HL=K bN Jh))
    (Q:=λc st'=>∃m q,c=(none,m,q)/\1<=m/\m<=nrem/\q+1<=m/\Within lo JN st1 st'/\(∀i j,i<=j->j<m->K bN HM<=K bN Cf)/\(∀t,m-1-q<=t->t<m->K bN HL=K bN (lo+m-1))) ?_ ?_ ⟨0,rfl,∅,∅,W,Ek,λt h2 h3=>by rw[show lo+t=lo+(n+1)-1 by omega]⟩) ?_)
   ·rintro x c st3 hx1 hx ⟨q,rfl,c1,c2,W3,N3,E3⟩
    dsimp only
    have i3:=W3.ints h0;have k3:kindOf st3=uB:=W3.kind.trans hk;have s3:=W3.size;refine vL Qg
    dsimp only
    by_cases hc:K oI TC<K oI Jh
    ·refine XL QM ?_
     have N4:∀i j,i<=j->j<x+1->K oI HM<=K oI Cf:=λi j h2 h3=>by
      by_cases z:j=x
      ·subst z
       by_cases z2:i=j
       ·rw[z2];exact zr _
       ·have:=N3 i (j-1) ∅ ∅
        rw[show lo+(j-1)=lo+j-1 by omega]at this;omega
      ·exact N3 i j h2 ∅
     by_cases zq:q>0
     ·refine XL zq ?_
      refine vL pS;have same:=keepK KK (λk h2 h3=>by
       have:=E3 P6 ∅ ∅;rw[show lo+P6=k by omega]at this;exact this)
      refine vN ⟨0,rfl,∅,∅,W3.trans W4,λi j h2 h3=>by rw[same,same];exact N4 i j h2 h3,λt h2 h3=>by rw[show lo+t=lo+(x+1)-1 by omega]⟩
     ·refine XH zq ?_
      exact vN ⟨0,rfl,∅,∅,W3,N4,λt h2 h3=>by rw[show lo+t=lo+(x+1)-1 by omega]⟩
    ·refine XH Ii ?_
     refine vL Qg
     dsimp only
     by_cases hd:K oI Jh<K oI TC
     ·refine XL (vQ hd) ?_
      exact vN ⟨x,q,rfl,∅,c1,c2,W3,N3,E3⟩
     ·refine XH (λh=>hd g8) ?_
      have eq:K oI TC=K oI Jh:=∅
      refine vN ⟨q+1,rfl,∅,∅,W3,Ek,λt h2 h3=>?_⟩
      ·by_cases z:j=x
       ·subst z
        by_cases z2:i=j
        ·rw[z2];exact zr _
        ·have:=N3 i (j-1) ∅ ∅
         rw[show lo+(j-1)=lo+j-1 by omega]at this;omega
       ·exact N3 i j h2 ∅
      ·rw[show lo+(x+1)-1=lo+x by omega,eq]
       by_cases z:t=x
       ·rw[z,eq]
       ·exact E3 t ∅ ∅
   ·rintro c st3 ⟨q,rfl,c1,c2,W3,N3,E3⟩
    exact⟨_,q,rfl,∅,c1,c2,W3,N3,E3⟩
   ·by_cases z:j=n
    ·subst z
     by_cases z2:i=j
     ·rw[z2];exact zr _
     ·have:=eqs i ∅
      omega
    ·have e1:=eqs i ∅
     have e2:=eqs j ∅;omega
   ·rintro c st3 ⟨m,q,rfl,c0,c1,c2,W3,N3,E3⟩
    dsimp only
    have s3:=W3.size;have start:∃stA,stA=st3:=bw
    by_cases zq:q>0
    case' pos=>
     refine XL zq ?_;refine vL pS;have same:=keepK KK (λk h2 h3=>by
      have:=E3 P6 ∅ ∅;rw[show lo+P6=k by omega]at this;exact this)
     have N4:∀i j,i<=j->j<m->K (vM st4) HM<=K (vM st4) Cf:=λi j h2 h3=>by rw[same,same];exact N3 i j h2 h3
     replace W4:=W3.trans W4
    case' neg=>
     refine XH zq ?_;have N4:=N3;have W4:=W3;generalize hst4:st3=st4 at N4 W4 ⊢
    all_goals
     have s4:=W4.size;refine vL (zAT (lo:=lo) (hi:=lo+nrem) ∅ ∅ ∅ λst5 W5 KK5=>?_);replace W5:=W4.trans W5;have s5:=W5.size;have i5:=W5.ints h0;have k5:kindOf st5=uB:=W5.kind.trans hk;have S5:SrK (vM st5) lo m:=λi j h2 h3=>by
      rw[KK5 Cf,KK5 HM,jP,jP,show lo+(lo+m)-1-Cf=lo+(m-1-i) by omega,show lo+(lo+m)-1-HM=lo+(m-1-j) by omega];exact N4 (m-1-j) (m-1-i) ∅ ∅
     refine vL (uA (vi
      (I:=λx c st'=>st'=st5/\c=(none,x)/\x<=nrem/\SrK (vM st5) lo x)
      (Q:=λc st'=>st'=st5/\∃n,c=(none,n)/\1<=n/\n<=nrem/\SrK (vM st5) lo n) ?_ ?_ ⟨rfl,rfl,c1,S5⟩) ?_)
     ·rintro x c st6 hx1 hx ⟨rfl,rfl,d1,S6⟩
      dsimp only
      refine vL (We i5 k5 ∅ ∅ ?_)
      dsimp only
      by_cases hc:K (vM st6) TC<K (vM st6) Jh
      ·refine XL QM ?_
       exact vN ⟨rfl,x,rfl,∅,d1,S6⟩
      ·refine XH Ii ?_
       refine vN SR
       by_cases z:j=x
       ·subst z
        by_cases z2:i=j
        ·rw[z2];exact zr _
        ·have:=S6 i (j-1) ∅ ∅
         rw[show lo+(j-1)=lo+j-1 by omega]at this;omega
       ·exact S6 i j h2 ∅
     ·rintro c st6 ⟨rfl,rfl,d1,S6⟩
      exact⟨rfl,_,rfl,∅,d1,S6⟩
     ·rintro c st6 ⟨rfl,n',rfl,d0,d1,S6⟩
      exact vN (h n' st6 d0 d1 W5 S6)
end
end So
set_option maxHeartbeats 2000000
namespace So
open PySem PyProof.Rows
def WA:Nat->List nw->List dj->Prop
 | _,[],[]=>True
 | s,p::r,X::Xs=>p.1=s/\p.2.1=X.length/\1<=X.length/\Srt X/\WA (s+X.length) r Xs
 | _,_,_=>False
theorem zAY:∀{s:Nat}{ps:mv}{Xs:Rx},WA s ps Xs->ps.length=Xs.length
 | _,[],[],_=>rfl
 | _,_::_,_::_,h=>by rw[zJ,zJ,zAY h.2.2.2.2]
 | _,[],_::_,h=>h.elim
 | _,_::_,[],h=>h.elim
theorem zBz:∀(i s:Nat)(ps:mv)(Xs:Rx),WA s ps Xs->i+1<ps.length->∃Pre X Y zBf pw pw2,Xs=Pre++X::Y::zBf/\ps[i]?=some (Tn,X.length,pw)/\ps[i+1]?=some (s+Pre.flatten.length+X.length,Y.length,pw2)/\1<=X.length/\1<=Y.length/\Srt X/\Srt Y /\
  ∀R:List vT,R.length=X.length+Y.length->Srt R->WA s ((ps.set i (Tn,abo,pw)).eraseIdx (i+1)) (Pre++R::zBf)
 | 0,s,ps,Xs,h,hl=>by
  match ps,Xs,h,hl with
  | p::q::r,X::Y::Xs,⟨h1,h2,h3,h4,h5,h6,h7,h8,h9⟩,_=>
   refine⟨[],X,Y,Xs,p.2.2,q.2.2,rfl,?_,?_,h3,h7,h4,h8,λR hR sR=>?_⟩
   ·show some p=_
    rw[<- h2];exact v7 some (Prod.ext h1 rfl)
   ·show some q=_
    rw[<- h6];exact v7 some (Prod.ext h5 rfl)
   ·refine⟨rfl,hR.symm,∅,sR,?_⟩
    rw[hR,<- wc];exact h9
 | i+1,s,ps,Xs,h,hl=>by
  match ps,Xs,h,hl with
  | p::r,X0::Xs,⟨h1,h2,h3,h4,h5⟩,hl=>
   obtain⟨Pre,X,Y,zBf,pw,pw2,e,g1,g2,g3,g4,g5,g6,g7⟩:=zBz i (s+X0.length) r Xs h5 ⇑hl;refine⟨X0::Pre,X,Y,zBf,pw,pw2,by rw[e];rfl,?_,?_,g3,g4,g5,g6,λR hR sR=>?_⟩
   ·show r[i]?=_
    rw[g1,yA,zB,<- wc]
   ·show r[i+1]?=_
    rw[g2,yA,zB,<- wc s]
   ·have:=g7 R hR sR
    rw[yA,zB,<- wc];exact⟨h1,h2,h3,h4,this⟩
theorem zAi:∀{s:Nat}{ps:mv}{Xs:Rx}{X:dj}{pw:Nat},WA s ps Xs->1<=X.length->Srt X->WA s (ps++[(s+Xs.flatten.length,X.length,pw)]) (Xs++[X])
 | s,[],[],X,pw,_,h1,h2=>⟨rfl,rfl,h1,h2,trivial⟩
 | s,p::r,X0::Xs,X,pw,⟨g1,g2,g3,g4,g5⟩,h1,h2=>by
  refine⟨g1,g2,g3,g4,?_⟩;have:=zAi (pw:=pw) g5 h1 h2;rw[yA,zB,<- wc];exact this
theorem zBK:∀{s:Nat}{ps ps':mv}{Xs:Rx},WA s ps Xs->ps'.map (λp=>Q2)=ps.map (λp=>Q2)->WA s ps' Xs
 | s,[],[],[],_,_=>trivial
 | s,p::r,p'::r',X::Xs,⟨h1,h2,h3,h4,h5⟩,e=>by
  rw[zI,zI]at e;obtain⟨e1,e2⟩:=Z2 e;obtain⟨f1,f2⟩:=Prod.mk.inj e1;exact⟨f1.trans h1,f2.trans h2,h3,h4,zBK h5 e2⟩
 | s,p::r,[],_,_,e=>by cases e
 | s,[],p::r,_,_,e=>by cases e
 | s,p::r,p'::r',[],h,_=>h.elim
structure IV (a₀:Array vT) (st:vc) (lo:Nat) (S:List vT):Prop where
 kind:kindOf st=uB
 fail:uN st=none
 perm:(vM st).Perm a₀
 runs:∃Xs,(vM st).toList=Xs.flatten++S/\WA 0 (ve st).toList Xs/\Xs.flatten.length=lo
section
variable{prog:vU}{w:vZ}{A:vf}{E:vB->vC->Prop}{s:vC}
theorem IV.ints{a₀:aZ}{st:vc}{lo:Nat}{S:dj}(h:MK)(h0:ln):IntKeys eI:=λp hp=>h0 p J6
theorem WZ{a₀:aZ}{st:vc}{lo i:Nat}{S:dj}{Q:Go}(h0:ln)(V:MK)(hi:i+1<(ve st).size)(h:∀st',IV a₀ st' lo S->(ve st').size+1=(ve st).size->Q true st'):wpS ak A E s (mergeAt' i) Q st:=by
 obtain⟨Xs,e1,e2,e3⟩:=V.runs;obtain⟨Pre,X,Y,zBf,pw,pw2,rfl,g1,g2,g3,g4,g5,g6,g7⟩:=zBz i 0 _ _ e2 ⇑hi;rw[xU]at g1 g2 g7;rw[zb]at g1 g2;have hl:(vM st).toList=Pre.flatten++X++Y++JB:=by
  rw[e1];simp
 refine zA3 (V.ints h0) V.kind V.fail g1 g2 hl rfl rfl rfl rfl g3 g4 g5 g6 λst' R k1 k2 k3 k4 k5 k6=>?_;have lR:R.length=X.length+Y.length:=by rw[k5.length_eq,zB]
 refine h st' ⟨k1,k2,?_,Pre++R::zBf,?_,?_,?_⟩ ?_
 ·refine Array.Perm.trans ?_ V.perm
  rw[wB,k4,hl];have:Pre.flatten++X++Y++JB=Pre.flatten++(X++Y)++JB:=by simp
  rw[this];exact yx _ (yS _ k5)
 ·rw[k4];simp
 ·rw[k3]
  have:=g7 R lR k6;rw[wS,ZB];exact this
 ·rw[<- e3];simp[lR];omega
 ·rw[k3]
  have hi':i+1<((ve st).setIfInBounds i (Pre.flatten.length,abo,pw)).size:=by simpa using hi
  rw[<- zP,wS,List.length_eraseIdx];rw[vF ⇑hi];simp;omega
end
end So
set_option maxHeartbeats 2000000
namespace So
open PySem PyProof.Rows
theorem zAN{α β:Type}{g:R4}{f:α->α}(h:∀x,g (f x)=g x):∀(l:bB)(i:Nat),(l.modify i f).map g=l.map g
 | [],i=>by simp
 | x::l,0=>by simp[h]
 | x::l,i+1=>by simp[zAN h l i]
theorem zAk:∀{s:Nat}{ps:mv}{Xs:Rx},WA s ps Xs->Xs.length<=Xs.flatten.length
 | _,[],[],_=>zK _
 | _,_::_,X::Xs,h=>by
  have:=zAk h.2.2.2.2;have:=h.2.2.1;rw[zJ,yA,zB];omega
theorem IV.push{a₀:aZ}{st:vc}{lo m:Nat}{X S:dj}(V:IV a₀ st lo (X++S))(lX:X.length=m)(h1:1<=m)(sX:Srt X):IV a₀ (setPending st ((ve st).push (lo,m,0))) (lo+m) S:=by
 obtain⟨Xs,e1,e2,e3⟩:=V.runs;refine⟨V.kind,V.fail,V.perm,Xs++[X],?_,?_,?_⟩
 ·show (vM st).toList=_
  rw[e1];simp
 ·show WA 0 ((ve st).push (lo,m,0)).toList _
  have:=zAi (pw:=0) e2 (∅:1<=X.length) sX;rw[xU,e3,lX]at this;rw[ZI];exact this
 ·rw[wm,zB,e3];simp[lX]
theorem IV.pow{a₀:aZ}{st:vc}{lo i pw:Nat}{S:dj}(V:MK):IV a₀ (setPending st ((ve st).modify i λx=>Th)) lo S:=by
 obtain⟨Xs,e1,e2,e3⟩:=V.runs;refine⟨V.kind,V.fail,V.perm,Xs,e1,?_,e3⟩;show WA 0 ((ve st).modify i λx=>Th).toList _;refine zBK e2 ?_;rw[Array.toList_modify];exact zAN (g:=λp:Nat×Nat×Nat=>Q2) (f:=λx=>(x.1,x.2.1,pw)) E2 _ _
theorem Within.wider{lo hi hi':Nat}{a b:vc}(h:CV)(hh:hi<=hi'):Within lo hi' a b:=⟨h.kind,h.pend,h.fail,h.perm,λt ht=>h.out t ∅⟩
section
variable{prog:vU}{w:vZ}{A:vf}{E:vB->vC->Prop}{s:vC}
theorem zA2{a₀:aZ}{st:vc}{Q:Ga}(h0:ln)(hB:Bd)(h:∀st',(vM st').Perm a₀->uN st'=none->uf bN a₀.size->Q () st'):wpS ak A E s sortRuns' Q st:=by
 rw[sortRuns'_eq];refine vL oR;have hsz:=hB.size
 dsimp -zeta only
 simp -zeta only[hsz];have V0:IV a₀ st 0 (vM st).toList:=⟨hB.kind,hB.failed,hB.perm,[],rfl,by rw[hB.pend];trivial,rfl⟩;refine vL (uA (vi
  (I:=λx c st'=>∃lo S,c=(none,lo)/\IV a₀ st' lo S/\lo<=a₀.size/\(x<=lo\/lo=a₀.size))
  (Q:=λc st'=>c=JM/\∃S,IV a₀ st' a₀.size S) ?_ ?_ ⟨0,_,rfl,V0,B4,.inl bZ⟩) ?_)
 ·rintro x c st1 _ hx ⟨lo,S,rfl,V,b1,b2⟩
  dsimp -zeta only
  have hsz1:(vM st1).size=a₀.size:=V.perm.size_eq
  by_cases z:lo>=a₀.size
  ·refine XL z ?_
   have:lo=a₀.size:=∅
   subst this;exact vN ⟨rfl,S,V⟩
  refine XH z ?_;have i1:=V.ints h0;refine vL (zCq i1 V.kind ∅ ∅ λn st2 n1 n2 W Sr=>?_)
  dsimp -zeta only
  have key:∀(m:Nat)(st3:vc),1<=m->m<=a₀.size-lo->Within lo (lo+oM) st1 st3->SrK oI lo m->∃X S',IV a₀ st3 lo (X++S')/\X.length=m/\Srt X:=λm st3 m1 m2 W3 S3=>by
   obtain⟨Xs,e1,e2,e3⟩:=V.runs;have sz3:(vM st3).size=a₀.size:=W3.size.trans hsz1;have tk:(vM st3).toList.take lo=Xs.flatten:=by
    have:(vM st3).toList.take lo=(vM st1).toList.take lo:=by
     apply yw;intro t
     by_cases ht:t<lo
     ·rw[wJ ht,wJ ht,zb,zb]
      exact W3.out t (.inl ht)
     ·rw[ZC ∅,ZC ∅]
    rw[this,e1,<- e3,Yr]
   refine⟨((vM st3).toList.drop lo).take m,((vM st3).toList.drop lo).drop m,⟨W3.kind.trans V.kind,W3.fail.trans V.fail,W3.perm.trans V.perm,Xs,?_,?_,e3⟩,?_,?_⟩
   ·rw[yH,<- tk,yH]
   ·rw[W3.pend];exact e2
   ·rw[zg,yP,zP];omega
   ·rw[Srt,ya]
    intro i j hi hj hij;rw[zg,yP,zP]at hj;have:=S3 i j ∅ ∅;have q1:(vM st3)[Cf]?=some (vM st3)[Cf]:=getElem?_pos _ _ ∅;have q2:(vM st3)[HM]?=some (vM st3)[HM]:=getElem?_pos _ _ ∅;rw[zBi q1,zBi q2]at this;rw[xM,xM,xk,xk];exact this
  have sz2:=W.size
  by_cases zm:n<sQ a₀.size a₀.size 0
  case' pos=>
   refine XL zm ?_;refine vL fu;refine vL (zBY (W.ints i1) (W.kind.trans V.kind) ∅ ∅ Sr λst3 W3 S3=>?_);refine XH (by decide) ?_;have f1:1<=min oM l8:=∅
   have f2:min oM l8<=a₀.size-lo:=∅
   have W4:=W.trans (W3.wider (∅:lo+min oM l8<=lo+oM));generalize min oM l8=m at f1 f2 S3 ⊢;obtain⟨X,S',V3,lX,sX⟩:=key m st3 f1 f2 W4 S3
  case' neg=>
   refine XH zm ?_;obtain⟨X,S',V3,lX,sX⟩:=key n st2 n1 n2 W Sr;have f1:=n1;have f2:=n2;generalize hm:n=m at lX f1 f2 ⊢;generalize hst3:st2=st3 at V3 ⊢
  all_goals
   refine vL oR;cases hb:(ve st3).back? with
   | none=>
    dsimp -zeta only
    exact vL (uZ (vN ⟨lo+m,S',rfl,V3.push lX f1 sX,∅,.inl ∅⟩))
   | some p=>
    obtain⟨s1,n1',pp⟩:=p
    dsimp only
    refine vL (uA (vi (I:=λy c st'=>c=(none,())/\IV a₀ st' lo (X++S')) (Q:=λc st'=>c=(none,())/\IV a₀ st' lo (X++S')) ?_ (λ_ _ hh=>hh) ⟨rfl,V3⟩) ?_)
    ·rintro y c st4 _ _ ⟨rfl,V4⟩
     refine vL oR
     by_cases zp:(ve st4).size>1
     ·rw[vF zp,getElem?_pos (ve st4) abO ∅]
      generalize (ve st4)[abO]=row;obtain⟨r1,r2,r3⟩:=row
      dsimp only
      split
      ·exact vN ⟨rfl,V4⟩
      ·refine vL (WZ h0 V4 ∅ λst5 V5 _=>?_)
       refine XH (by decide) ?_;exact vN ⟨rfl,V5⟩
     ·rw[vG zp]
      exact vN ⟨rfl,V4⟩
    ·rintro c st4 ⟨rfl,V4⟩
     dsimp only
     exact vL (uZ (vL (uZ (vN ⟨lo+m,S',rfl,V4.pow.push lX f1 sX,∅,.inl ∅⟩))))
 ·rintro c st1 ⟨lo,S,rfl,V,b1,b2⟩
  have:lo=a₀.size:=∅
  subst this;exact⟨rfl,S,V⟩
 ·rintro c st1 ⟨rfl,S,V⟩
  dsimp -zeta only
  have hsz1:(vM st1).size=a₀.size:=V.perm.size_eq;have many:∀st' S',IV a₀ st' a₀.size S'->(ve st').size<=a₀.size:=λst' S' V'=>by
   obtain⟨Xs,e1,e2,e3⟩:=V'.runs;have l1:=zAY e2;have l2:=zAk e2;rw[zP]at l1;omega
  have m1:=many st1 S V;refine vL (uA (vi
   (I:=λx c st'=>c=(none,())/\IV a₀ st' a₀.size S/\((ve st').size<=1\/(ve st').size+x<=(ve st1).size))
   (Q:=λc st'=>c=(none,())/\IV a₀ st' a₀.size S/\(ve st').size<=1) ?_ ?_ ⟨rfl,V,.inr ∅⟩) ?_)
  ·rintro x c st2 _ _ ⟨rfl,V2,b⟩
   refine vL oR
   by_cases z:(ve st2).size<=1
   ·refine XL z ?_
    exact vN ⟨rfl,V2,z⟩
   refine XH z ?_;have hx:∀c:Bool,(if c=true then (ve st2).size-2-1 else (ve st2).size-2)+1<(ve st2).size:=λc=>by cases c <;> simp <;> omega
   refine vL (WZ h0 V2 (hx _) λst3 V3 hs=>?_);refine XH (by decide) ?_;exact vN ⟨rfl,V3,.inr ∅⟩
  ·rintro c st2 ⟨rfl,V2,b⟩
   exact⟨rfl,V2,∅⟩
  ·rintro c st2 ⟨rfl,V2,b⟩
   dsimp only
   refine vN (h st2 V2.perm V2.fail ?_);obtain⟨Xs,e1,e2,e3⟩:=V2.runs;have sz2:(vM st2).size=a₀.size:=V2.perm.size_eq;have hS:S=[]:=by
    have:=v7 xv e1;rw[zB,zP,e3,sz2]at this;exact ZT.mp ∅
   have hl:=zAY e2;rw[zP]at hl;have st:Srt (vM st2).toList:=by
    rw[e1,hS,zi]
    match Xs,e2,hl with
    | [],_,_=>exact xL
    | [X],e2,_=>
     rw[yA,Yc,zi]
     match hp:(ve st2).toList,e2 with
     | p::r,e2=>exact e2.2.2.2.1
    | X::Y::Z,_,hl=>rw[zJ,zJ]at hl;omega
   exact λi j h1 h2=>zBm st h1 ∅
end
end So
set_option maxHeartbeats 2000000
namespace So
open PySem PyProof.Rows
section
variable{prog:vU}{w:vZ}{A:vf}{E:vB->vC->Prop}{s:vC}
theorem zCK{a:vH}{xs:a0}{is:af}{k:Nat}{P:Fin->vC->Prop}(at_:s.heap.get? a=some (vz "list" xs.toArray k))(hin:uC xs is)(big:2<=xs.length)(fits:VM)(h:∀(o:dw)(js:af),uC o.toList js->js.Perm is->js.Pairwise (· <= ·)->P mh { s with heap:=sortedHeap s.heap a xs o }):vP ak A (Builtin.«list.sort» HE) P E s:=by
 have la:=zS at_;have empty:=get?_update_seq at_ (λ_=>(#[]:Array vB));rw[list_sort_plain];refine vA (sS at_ rfl (vA (um at_ rfl ?_)));refine vA (t9 empty rfl (vA (tJ (vA (uk Fq)))));have still:(((s.heap.update a (Obj.mapSeq λ_=>#[])).push MY).push (vz "list" #[] 0)).get? a=some _:=zG _ (zG _ empty)
 change vP ak A _ P E (Shared.mk (((s.heap.update a (Obj.mapSeq λ_=>#[])).push MY).push (vz "list" #[] 0)) _ _ _ _)
 have many:¬xs.toArray.size<2:=by rw[zQ];omega
 dsimp only
 rw[vG many,vG many];have kk:keyKind' xs.toArray=pure uB:=by
  match xs,big,hin with
  | _::_::_,_,hin=>exact keyKind_ints hin
 rw[kk];refine vA fF;have base:u8 (pairsOf xs) (SortSt.mk' uB (xs.toArray.zip xs.toArray) #[] 7 none):=QC;refine vA (vt (zA2 (Q:=λ_ t=>(vM t).Perm (pairsOf xs)/\uN t=none/\uf (vM t) (pairsOf xs).size) hin.intKeys base λt q1 q2 q3=>⟨q1,q2,q3⟩) (λr s3 hr=>?_) λ_ _ z=>z);obtain⟨⟨⟩,t⟩:=r;obtain⟨rfl,q1,q2,q3⟩:=hr
 dsimp only
 obtain⟨js,c1,c2,c3⟩:=sorted_out hin q1 q3;have lt:((vM t).map (·.2)).size<=sizeLine:=by
  rw[Yq,q1.size_eq,pairsOf_size,vh];omega
 refine vA (t9 still rfl (vA (um still rfl ?_ (hsz2:=wP lt))));rw[q2];simp only[bne_self_eq_false,yI,if_false];exact vJ (h _ js c1 c2 c3)
theorem sorted_any{l:vH}{xs:a0}{is:af}{Q:aM}(isl:s.heap.IsList l xs.toArray)(hin:uC xs is)(fits:VM)(h:∀(o:dw)(js:af),uC o.toList js->js.Perm is->js.Pairwise (· <= ·)->Q (.ref iG) { s with heap:=sortedAll s.heap xs o }):vP ak A (call fE [cX]) Q E s:=by
 by_cases few:xs.length<64
 ·exact sorted_ints isl hin few h
 refine Calls.call_function_entry tt tV tW (sO cX) ?_;unfold Builtin.«sorted»;refine vA (m:=sK "sorted" 1 1 _) (vJ (vA (collect_list isl ?_ (by rw[vh];omega))));have many:((s.heap.push (vz "list" #[] 0)).update s.heap.objs.size (Obj.mapSeq (·++xs.toArray))).objs.size=s.heap.objs.size+1:=(xW _ _ _).trans (size_push' _ _);refine vA (uk ?_);generalize hh:(s.heap.push (vz "list" #[] 0)).update s.heap.objs.size (Obj.mapSeq (·++xs.toArray))=h2 at many ⊢;have here:(h2.push Br).get? iG=some Br:=by
  have:=zY h2 (o:=vz "list" xs.toArray 0) rfl
  rwa [many]at this
 change vP _ _ _ _ _ (Shared.mk (h2.push Br) _ _ _ _)
 rw[many];refine vA (vn (vq slot_list_sort ⟨_,here,rfl⟩ entry_list_sort ?_ (tu _)));refine zCK here hin ∅ fits λo js c1 c2 c3=>?_;refine⟨_,rfl,vJ cn⟩;subst hh;exact h o js c1 c2 c3
end
end So
namespace Hk
open PySem L2
def rSortB:List V->Hp->VK->Prop:=λxs H Q=>∃p ns,xs=Rh/\H p=some CA/\ns.length<=1000000/\∀l,H l=none->Q cX Fs
noncomputable def zCc:D->Option R
 | .lst ds=>(intsOf ds).bind λns=>if ns.length<=1000000 then some mS else none
 | _=>none
noncomputable def zBJ(f:FD):FE:=λω=>(f ω).bind zCc
section
variable{X:Cx}
theorem qd7:WW X fE rSortB:=by
 intro pins s σ H xs us Q I r h;obtain⟨p,ns,rfl,hp,hz,q⟩:=h;obtain⟨u,rfl,rx⟩:=vals1 r;cases rx;obtain⟨its,n,rv,e,_⟩:=I.lst hp;have hlen:its.length=ns.length:=by rw[<- rv.length,zA]
 refine So.sorted_any mZ (q2F rv) ∅ λout ns' a1 a2 a3=>?_;obtain⟨m,hm⟩:=PyProof.Rows.sortedAll_at s.heap its out;have en:ns'=XZ ns:=q1a a3 q0C Hg;subst en;have hsl:(XZ ns).length<=sizeLine:=by rw[q59,vh];omega
 have I2:=I.laid (a:=s.heap.objs.size+1) (o:=.lst gK) (t':=s.toks) El MX
  (show Xh X.prog X.w _ Es _ RH from ⟨by rw[zA];exact hsl,out.toList,m,q1v a1,by rw[xI];exact hm⟩)
 exact B1
theorem q9G{a:vW}{f:FD}{p q:Pos}(hg:Cl)(hm:kg)(ha:de)(he:fU:=by rfl)(hpl:(vj q bF).any (·.1)=false:=by rfl):XE X SM (zBJ f):=by
 obtain⟨t,h1,h2⟩:=ha;refine⟨_,q1Q qd7 hg hm q2i (qA h1 qx he) (by decide) (by decide) he hpl,ca⟩;obtain⟨d,z,e⟩:=bnd e;refine h2 G0 H0 G ω σ H d _ o z λv G1 H1 x1 y1=>?_;cases d with
 | lst ds=>
  obtain⟨ns,e1,e2⟩:=bnd (show (intsOf ds).bind _=some r from e);have hds:=q0R e1;subst hds
  by_cases hz:ns.length<=1000000
  ·rw[vF hz]at e2
   cases e2;obtain⟨p,vs,rfl,g1,g2⟩:=y1.lst x1.gh;have hv:=g2.of_ints;subst hv;refine J9;have x2:=Ext.hide x1.gh hl abJ;exact k _ G1 _ eC rO
  ·rw[vG hz]at e2;cases e2
 | _=>cases e
noncomputable def zCi(o:eK):Option R:=o.bind zCc
theorem qaB{fd:FD}{ω:WSt}:zBJ fd ω=zCi lZ:=rfl
theorem q8V{ns:af}(h:ns.length<=1000000):zCi (some Lh)=some mS:=by
 show (intsOf cY).bind _=_;rw[q0g];exact vF h
end
end Hk
set_option maxHeartbeats 4000000
namespace Kx
open PySem L2 Hk
noncomputable def top(i:Nat):vp:=PySem.Challenge.pw_hookrail_k44_whole_no_tour_is_shorter.main.body.getD i (.Pass ⟨0,0,0,0⟩)
section
variable{P:vU}{w:vZ}{K:zC}{mg:Str->Option vB}{base:vk}{f:vH}{fd:vS}
noncomputable def q6Z:FS:=oo
noncomputable def qW:List D->Option O:=mir 1 q6Z
noncomputable abbrev q4i:vp:=top 6
theorem qd6:FnScope mX mX (Y7 q4i):=ah
variable(z0:mg "isinstance" = none)
variable(z9:mg "bool" = none)
variable(z10:mg "int" = none)
variable(z11:IsT K .int)
variable(z12:IsT K .bl)
include z0 z9 z10 z11 z12 in
theorem qb0(F:Fun K "is_whole" "is_whole" q4i f fd):FnOk P w K mg base CX0 1 f fd mX (spD K 1 qW):=by
 have h:=fnD (P:=P) (w:=w) (mg:=mg) (base:=base) (k:=0) (body:=q6Z) F qd6 (λcdv A outer s H E hr=>
   gU)
 exact h
noncomputable def q6j:FS:=(Xk (eOf (zAm (dOf (zAp .tup aw)) (zAm (dOf (XB b9 jX cI)) (zAm (dOf TY) (dOf (XC qW (Y2 eU XF))))))))
noncomputable def q2O:List D->Option O:=mir 1 q6j
noncomputable abbrev q6e:vp:=top 7
theorem qge:FnScope mX mX (Y7 q6e):=ah
variable{fc13:vH}{dc13:vS}(c13:Cal P w K mg base 1 fc13 dc13 "is_whole" ["thing"] 1 qW)
variable(z14:mg "len" = none)
variable(z15:mg "tuple" = none)
variable(z16:IsT K .tup)
include z0 c13 z14 z15 z16 in
theorem qdS(F:Fun K "is_box" "is_box" q6e f fd):FnOk P w K mg base CX0 2 f fd mX (spD K 1 q2O):=by
 have h:=fnD (P:=P) (w:=w) (mg:=mg) (base:=base) (k:=1) (body:=q6j) F qge (λcdv A outer s H E hr=>
   (qc (qh (XD.toE (q06 (XE.toD Jg) (q06 (XE.toD (Wm hr.units dZ aj)) (q06 (XE.toD CH) (q0P (XE.toD CH)))))))))
 exact h
noncomputable def q51:FD:=(dOf (XC q2O fZ))
noncomputable def q3M:FS:=(XR (sIf (zAy (Xy (Wl (vOf (XC qW fZ)))) (zAy (Xy (Wl (vOf (XC qW ig)))) (Xy (Wl (vOf (zAp .lst aN)))))) bf WI)
  (Xk (Xx zAr (Y2 (vOf (Xo 1 [] (X7 cQ) fG Xm q51)) XF))))
noncomputable def q0G:List D->Option O:=mir 3 q3M
noncomputable abbrev q3S:vp:=top 8
theorem qb2:FnScope au au (Y7 q3S):=ah
variable{fc17:vH}{dc17:vS}(c17:Cal P w K mg base 2 fc17 dc17 "is_box" ["thing"] 1 q2O)
variable(z18:mg "list" = none)
variable(z19:mg "all" = none)
variable(z20:IsT K .lst)
include z0 c13 c17 z18 z19 z20 in
theorem q9g(F:Fun K "is_errand" "is_errand" q3S f fd):FnOk P w K mg base CX0 3 f fd au (spD K 3 q0G):=by
 have h:=fnD (P:=P) (w:=w) (mg:=mg) (base:=base) (k:=2) (body:=q3M) F qb2 (λcdv A outer s H E hr=>
   (qb (qw (XW.toT (q1g (qO (qE (XE.toV abZ))) (q1g (qO (qE (XE.toV (xc c13 hr dD)))) (q2V (qO (qE (XE.toV (q0f iu z20 rfl z0 rfl z18 q0o)))))))) bO qr)
   (qc (qh (qt Cw q2Z rfl z19 q37 (ql (XE.toV (qJ rfl (blk ["box"] [] [] rfl ⋯ ⋯ rfl trivial) (qu mL) jJ (λ_ _ _ _=>⟨(qj (i:=0) (show (Ho++da:List Str).Nodup from by decide +kernel) rfl aB),qC,(XE.toD (xc c17 hr ga))⟩))) qp))))))
 exact h
noncomputable def q23:FS:=(sIf (Xy (Wl (vOf (XC q0G ai)))) sNo WI)
noncomputable def q03:List D->Option O:=mir 3 q23
noncomputable abbrev q27:vp:=top 9
theorem q7W:FnScope au au (Y7 q27):=ah
variable{fc21:vH}{dc21:vS}(c21:Cal P w K mg base 3 fc21 dc21 "is_errand" ["home", "last", "boxes"] 3 q0G)
include c21 in
theorem q70(F:Fun K "check_errand" "check_errand" q27 f fd):FnOk P w K mg base CX0 4 f fd au (spD K 3 q03):=by
 have h:=fnD (P:=P) (w:=w) (mg:=mg) (base:=base) (k:=3) (body:=q23) F q7W (λcdv A outer s H E hr=>
   (qc (qw (qO (qE (XE.toV (xc c21 hr ar)))) QZ qr)))
 exact h
noncomputable def q6r:FS:=(zC7 3 iy)
noncomputable def q7D:FS:=(XR UC
  (XR (Xl 3 (Ww hZ))
  (XR (zAO (X7 cQ) (gN 4) q6r)
  (Xk (WJ bE)))))
noncomputable def q1u:List D->Option O:=mir 5 q7D
noncomputable abbrev q7t:vp:=top 10
theorem q7V:FnScope ["home", "last", "boxes", "places", "box"] au (Y7 q7t):=ah
variable{fc22:vH}{dc22:vS}(c22:Cal P w K mg base 4 fc22 dc22 "check_errand" ["home", "last", "boxes"] 3 q03)
variable(z23:mg "sorted" = none)
variable(z24:mg "set" = none)
include c22 z23 z24 in
theorem qg2(F:Fun K "stops" "stops" q7t f fd):FnOk P w K mg base CX0 5 f fd au (spD K 3 q1u):=by
 have h:=fnD (P:=P) (w:=w) (mg:=mg) (base:=base) (k:=4) (body:=q7D) F q7V (λcdv A outer s H E hr=>
   (qb Q0
   (qb (qm (i:=3) q7V.nd rfl (Or.inl rfl) (Xn pN))
   (qb (qX PassesOwn.never rfl (qu mL) (qj (i:=4) q7V.nd rfl aB) (qc (qa0 nV B6)))
   (qc (qh (q6Q rfl z23 rfl z24 iR)))))))
 exact h
noncomputable def q9t:FS:=(XR (Xl 3 (eOf Bf))
  (Xk (Xx Wn (Y2 bE (Y2 (vOf (fSl bE (pAt aG) pNo)) XF)))))
noncomputable def q1C:List D->Option O:=mir 4 q9t
noncomputable abbrev q9m:vp:=top 11
theorem qdz:FnScope ["home", "last", "boxes", "places"] au (Y7 q9m):=ah
variable{fc25:vH}{dc25:vS}(c25:Cal P w K mg base 5 fc25 dc25 "stops" ["home", "last", "boxes"] 3 q1u)
variable(z26:mg "zip" = none)
include z18 c25 z26 in
theorem qhZ(F:Fun K "gaps" "gaps" q9m f fd):FnOk P w K mg base CX0 6 f fd au (spD K 3 q1C):=by
 have h:=fnD (P:=P) (w:=w) (mg:=mg) (base:=base) (k:=5) (body:=q9t) F qdz (λcdv A outer s H E hr=>
   (qb (qm (i:=3) qdz.nd rfl (Or.inl rfl) Rp)
   (qc (qh (qdi rfl z18 rfl z26 (ql iR (ql (XE.toV (WH iR Pi zAV)) qp)))))))
 exact h
noncomputable def q3b:FD:=(zAA (Y2 eT (Y2 eU (Y2 (dOf Aq) XF))))
noncomputable def q3L:FS:=(Xk (Xo 1 [] (X7 om) fG Xm q3b))
noncomputable def q0i:List D->Option O:=mir 3 q3L
noncomputable abbrev q3z:vp:=top 12
theorem qbh:FnScope au au (Y7 q3z):=ah
variable{fc27:vH}{dc27:vS}(c27:Cal P w K mg base 6 fc27 dc27 "gaps" ["home", "last", "boxes"] 3 q1C)
include c27 in
theorem q9U(F:Fun K "gap_edges" "gap_edges" q3z f fd):FnOk P w K mg base CX0 7 f fd au (spD K 3 q0i):=by
 have h:=fnD (P:=P) (w:=w) (mg:=mg) (base:=base) (k:=6) (body:=q3L) F qbh (λcdv A outer s H E hr=>
   (qc (qh (qJ rfl (blk NQ [] [] rfl ⋯ ⋯ rfl trivial) (qu kC) jJ (λ_ _ _ _=>⟨(qj (i:=0) (show (nj++da:List Str).Nodup from by decide +kernel) rfl aB),qC,(Xp (Y1 bj (Y1 bj (Y1 (XE.toD (q0E kz kz)) Y5))))⟩)))))
 exact h
noncomputable def q3c:FS:=(Xk (eOf (zAm (dOf (XB oLe aw pV)) (dOf (XB oLe l7 bG)))))
noncomputable def q0u:List D->Option O:=mir 3 q3c
noncomputable abbrev q2X:vp:=top 14
theorem q9A:FnScope Ch Ch (Y7 q2X):=ah
theorem q8O(F:Fun K "leads_over" "leads_over" q2X f fd):FnOk P w K mg base CX0 1 f fd Ch (spD K 3 q0u):=by
 have h:=fnD (P:=P) (w:=w) (mg:=mg) (base:=base) (k:=0) (body:=q3c) F q9A (λcdv A outer s H E hr=>
   (qc (qh (XD.toE (q06 (XE.toD (qcY cZ cr)) (q0P (XE.toD (qcY cr ju))))))))
 exact h
noncomputable def q4c:FT:=(Wl (vOf (XC q0u (Y2 eT (Y2 eU ig)))))
noncomputable def q4r:FD:=bh
noncomputable def q4f:FT:=(Wl (vOf (XC q0u (Y2 eU (Y2 eT ig)))))
noncomputable def q4C:FD:=bh
noncomputable def q5u:FS:=(XR (Xl 2 (Xo 1 [1] Dz fG q4c q4r))
  (X1 2 (XR (Xl 3 (Xo 1 [1] Dz fG q4f q4C))
  (X1 3 (Xk (eOf (zAA (Y2 (dOf eV) (Y2 (dOf (Xx Wj Mt)) XF)))))))))
noncomputable def q0N:List D->Option O:=mir 4 q5u
noncomputable abbrev q5a:vp:=top 15
theorem q5o:FnScope ["boxes", "gap", "rights", "lefts"] acx (Y7 q5a):=ah
variable{fc28:vH}{dc28:vS}(c28:Cal P w K mg base 1 fc28 dc28 "leads_over" ["start", "goal", "gap"] 3 q0u)
include z14 c28 in
theorem qcL(F:Fun K "crossed" "crossed" q5a f fd):FnOk P w K mg base CX0 2 f fd acx (spD K 2 q0N):=by
 have h:=fnD (P:=P) (w:=w) (mg:=mg) (base:=base) (k:=1) (body:=q5u) F q5o (λcdv A outer s H E hr=>
   (qb (q1Y (i:=2) rfl q5o.nd rfl rfl (blk ["box"] NQ [1] rfl ⋯ ⋯ rfl ⟨⟨rfl,(by first|exact Or.inl rfl|exact Or.inr rfl),rfl⟩,trivial⟩) Jd jJ (λ_ _ _ _=>⟨(qj (i:=0) (show (Ho++nj:List Str).Nodup from by decide +kernel) rfl aB),An,cB⟩))
   (qT 2 (qb (q1Y (i:=3) rfl q5o.nd rfl rfl (blk ["box"] NQ [1] rfl ⋯ ⋯ rfl ⟨⟨rfl,(by first|exact Or.inl rfl|exact Or.inr rfl),rfl⟩,trivial⟩) Jd jJ (λ_ _ _ _=>⟨(qj (i:=0) (show (Ho++nj:List Str).Nodup from by decide +kernel) rfl aB),An,cB⟩))
   (qT 3 (qc (qh (XD.toE (Xp (Y1 (XE.toD bq) (Y1 (XE.toD Ir) Y5)))))))))))
 exact h
noncomputable def q9f:FS:=(XR (Xl 4 (eOf (dOf (XC q0N (Y2 (dOf Qf) Dw)))))
  (XR (Xl 5 (eOf (dOf (XC q0N (Y2 cQ Dw)))))
  (Xk (XB X3 (vOf (XB zA8 (vOf (XB zA8 (vOf MA) (vOf MB))) (vOf EQ))) (vOf acD)))))
noncomputable def q5i:List D->Option O:=mir 6 q9f
noncomputable abbrev q9q:vp:=top 16
theorem q9P:FnScope ["home", "last", "boxes", "gap", "own", "carried"] JT (Y7 q9q):=ah
variable{fc29:vH}{dc29:vS}(c29:Cal P w K mg base 2 fc29 dc29 "crossed" ["boxes", "gap"] 2 q0N)
include c29 in
theorem qhV(F:Fun K "lack" "lack" q9q f fd):FnOk P w K mg base CX0 3 f fd JT (spD K 4 q5i):=by
 have h:=fnD (P:=P) (w:=w) (mg:=mg) (base:=base) (k:=2) (body:=q9f) F q9P (λcdv A outer s H E hr=>
   (qb (qm (i:=4) q9P.nd rfl (Or.inl rfl) (XD.toE (XE.toD (xc c29 hr (Y1 (XE.toD Rj) Dx)))))
   (qb (qm (i:=5) q9P.nd rfl (Or.inl rfl) (XD.toE (XE.toD (xc c29 hr (Y1 mL Dx)))))
   (qc (qh (qD (XE.toV (q0E (XE.toV (q0E Sw Sw)) Sz)) Sz))))))
 exact h
noncomputable def q9r:FD:=(dOf (XC q5i Mr))
noncomputable def q7M:FS:=(Xk (Xo 1 [0,1,2] (X7 om) fG Xm q9r))
noncomputable def q2a:List D->Option O:=mir 3 q7M
noncomputable abbrev q7J:vp:=top 17
theorem qig:FnScope au au (Y7 q7J):=ah
variable{fc30:vH}{dc30:vS}(c30:Cal P w K mg base 3 fc30 dc30 "lack" ["home", "last", "boxes", "gap"] 4 q5i)
include c27 c30 in
theorem qgV(F:Fun K "lacks" "lacks" q7J f fd):FnOk P w K mg base CX0 7 f fd au (spD K 3 q2a):=by
 have h:=fnD (P:=P) (w:=w) (mg:=mg) (base:=base) (k:=6) (body:=q7M) F qig (λcdv A outer s H E hr=>
   (qc (qh (qJ rfl (blk NQ au [0,1,2] rfl ⋯ ⋯ rfl ⟨⟨rfl,(by first|exact Or.inl rfl|exact Or.inr rfl),rfl⟩,⟨⟨rfl,(by first|exact Or.inl rfl|exact Or.inr rfl),rfl⟩,⟨⟨rfl,(by first|exact Or.inl rfl|exact Or.inr rfl),rfl⟩,trivial⟩⟩⟩) (qu kC) jJ (λ_ _ _ _=>⟨(qj (i:=0) (show (nj++(au:List Str):List Str).Nodup from by decide +kernel) rfl aB),qC,(XE.toD (xc c30 hr Mu))⟩)))))
 exact h
noncomputable def q5n:FS:=sNb
noncomputable def q1O:List D->Option O:=mir 5 q5n
noncomputable abbrev q2P:vp:=top 19
theorem q4Z:FnScope ["things", "ties", "beside", "thing", "tie"] AT (Y7 q2P):=ah
theorem q8C(F:Fun K "neighbours" "neighbours" q2P f fd):FnOk P w K mg base CX0 1 f fd AT (spD K 2 q1O):=by
 have h:=fnD (P:=P) (w:=w) (mg:=mg) (base:=base) (k:=0) (body:=q5n) F q4Z (λcdv A outer s H E hr=>
   (qkl hr.units PassesOwn.never rfl q4Z.nd rfl rfl rfl (by first|exact Or.inl rfl|exact Or.inr rfl) (by first|exact Or.inl rfl|exact Or.inr rfl) (by first|exact Or.inl rfl|exact Or.inr rfl) (by first|exact .inl rfl|exact .inr rfl) (by first|exact .inl rfl|exact .inr rfl) (by first|exact .inl rfl|exact .inr rfl) Tu M3 Ce Ce Ce nV Ce iT iT iT iT (λω e h=>qjA h) (λω e h=>qjw h)))
 exact h
noncomputable def q3C:FS:=(sIf (zBy true 2 fR) (XR (zBS 2 fR (fC cp))
  (zCZ 3 fR)) WI)
noncomputable def q2e:FT:=(Wl bE)
noncomputable def q3O:FS:=(XR (zAs 4 (zCT 3))
  (zAO (X7 (dOf (zAW 1 iy))) TR q3C))
noncomputable def q4w:FS:=(XR (zBp 2 bh (fC cp))
  (XR (Xl 3 (Ww fZ))
  (XR (sWh 1000000 q2e q3O)
  (Xk (zBk 2)))))
noncomputable def q1A:List D->Option O:=mir 6 q4w
noncomputable abbrev q4d:vp:=top 20
theorem q1x:FnScope ["thing", "beside", "found", "waiting", "here", "other"] Vb (Y7 q4d):=ah
include z23 in
theorem qaP(F:Fun K "group_of" "group_of" q4d f fd):FnOk P w K mg base CX0 1 f fd Vb (spD K 2 q1A):=by
 have h:=fnD (P:=P) (w:=w) (mg:=mg) (base:=base) (k:=0) (body:=q4w) F q1x (λcdv A outer s H E hr=>
   (qb (qfY (i:=2) q1x.nd rfl (Or.inl rfl) cB WD)
   (qb (qm (i:=3) q1x.nd rfl (Or.inl rfl) (Xn ga))
   (qb (qfv PassesOwn.never (qE iR) (qb (qc4 (i:=4) q1x.nd rfl (Or.inl rfl) (qiL nV))
   (qc (qX PassesOwn.never rfl (qu (XE.toD (q21 hr.units M3 B6))) (qj (i:=5) q1x.nd rfl aB) (qc (qw (q80 hr.units AM Ce) (qb (q5y hr.units Ce AM WD)
   (qc (q3l nV AM))) qr))))))
   (qc (qh (qgk rfl rfl z23 Ce)))))))
 exact h
noncomputable def q4R:FS:=(zBS 3 IJ (fC cp))
noncomputable def q55:FS:=(sIf (zBy true 3 fR) (XR (Xl 6 (eOf (dOf (XC q1A (Y2 fR aE)))))
  (XR (zCZ 4 oK)
  (zAO (X7 oK) (gN 7) q4R))) WI)
noncomputable def q6a:FS:=(XR (Xl 2 (eOf (dOf (XC q1O hZ))))
  (XR (zBu 3)
  (XR (Xl 4 Ab)
  (XR (zAO (X7 (dOf (zA9 aw))) TR q55)
  (zAx 4)))))
noncomputable def q1l:List D->Option O:=mir 8 q6a
noncomputable abbrev q6u:vp:=top 21
theorem q1r:FnScope ["things", "ties", "beside", "grouped", "told", "thing", "group", "member"] AT (Y7 q6u):=ah
variable{fc31:vH}{dc31:vS}(c31:Cal P w K mg base 1 fc31 dc31 "neighbours" ["things", "ties"] 2 q1O)
variable{fc32:vH}{dc32:vS}(c32:Cal P w K mg base 1 fc32 dc32 "group_of" ["thing", "beside"] 2 q1A)
include z23 c31 c32 in
theorem qdE(F:Fun K "groups" "groups" q6u f fd):FnOk P w K mg base CX0 2 f fd AT (spD K 2 q1l):=by
 have h:=fnD (P:=P) (w:=w) (mg:=mg) (base:=base) (k:=1) (body:=q6a) F q1r (λcdv A outer s H E hr=>
   (qb (qm (i:=2) q1r.nd rfl (Or.inl rfl) (XD.toE (XE.toD (xc c31 hr pN))))
   (qb (q7G (i:=3) q1r.nd rfl aB)
   (qb (qm (i:=4) q1r.nd rfl (Or.inl rfl) r8)
   (qb (qX PassesOwn.never rfl (qu (XE.toD (qbS rfl z23 cZ))) (qj (i:=5) q1r.nd rfl aB) (qc (qw (q80 hr.units AM nV) (qb (qm (i:=6) q1r.nd rfl (Or.inl rfl) (XD.toE (XE.toD (xc c32 hr (Y1 AM (Y1 mL Y5))))))
   (qb (q3l P2 MZ)
   (qc (qX PassesOwn.never rfl (qu MZ) (qj (i:=7) q1r.nd rfl aB) (qc (q5y hr.units nV (vD 7) WD)))))) qr)))
   (qc (q5O P2)))))))
 exact h
noncomputable def q4k:FT:=(tOf (XB km bG aK))
noncomputable def q6J:FD:=bh
noncomputable def q7r:FS:=(XR (Xl 3 (Xo 2 [] aah Ov q4k q6J))
  (X1 3 (Xk (XB X3 (vOf (XB X3 (vOf (Xx zBV (Y2 aN XF))) (vOf Qf))) bE))))
noncomputable def q29:List D->Option O:=mir 4 q7r
noncomputable abbrev q7z:vp:=top 22
theorem qcE:FnScope ["home", "last", "boxes", "lacking"] au (Y7 q7z):=ah
variable{fc33:vH}{dc33:vS}(c33:Cal P w K mg base 7 fc33 dc33 "lacks" ["home", "last", "boxes"] 3 q2a)
include z18 z26 c27 c33 in
theorem qfB(F:Fun K "knots" "knots" q7z f fd):FnOk P w K mg base CX0 8 f fd au (spD K 3 q29):=by
 have h:=fnD (P:=P) (w:=w) (mg:=mg) (base:=base) (k:=7) (body:=q7r) F qcE (λcdv A outer s H E hr=>
   (qb (q1Y (i:=3) rfl qcE.nd rfl rfl (blk ["gap", "lack"] [] [] rfl ⋯ ⋯ rfl trivial) (q7g rfl z26 (Y1 kC oW)) oU (λ_ _ _ _=>⟨(q2N rfl (qN (qj (i:=0) (show (Mq++da:List Str).Nodup from by decide +kernel) rfl aB) (qN (qj (i:=1) (show (Mq++da:List Str).Nodup from by decide +kernel) rfl aB) q1V))),(q3W (zAa hr.units ju aj)),cB⟩))
   (qT 3 (qc (qh (qD (XE.toV (qD (XE.toV (qdn q3g q7Q rfl z18 q0o (ql iu qp))) (XE.toV Rj))) iR))))))
 exact h
noncomputable def q9B:FS:=(Xk acF)
noncomputable def q0p:List D->Option O:=mir 1 q9B
noncomputable abbrev q9D:vp:=top 24
theorem qjM:FnScope Bg Bg (Y7 q9D):=ah
theorem qiZ(F:Fun K "cost" "cost" q9D f fd):FnOk P w K mg base CX0 1 f fd Bg (spD K 1 q0p):=by
 have h:=fnD (P:=P) (w:=w) (mg:=mg) (base:=base) (k:=0) (body:=q9B) F qjM (λcdv A outer s H E hr=>
   (qc (qh TV)))
 exact h
noncomputable def q1p:FS:=(zBS 1 iy cQ)
noncomputable def q1n:FS:=(zAO Jm (gN 4) q1p)
noncomputable def q1z:FS:=(XR (zBu 1)
  (XR (zAO (iEn fZ) (gT 2 Ap) q1n)
  (X1 1 (Xk bW))))
noncomputable def qS:List D->Option O:=mir 5 q1z
noncomputable abbrev q1E:vp:=top 25
theorem q0h:FnScope ["parts", "numbers", "number", "part", "thing"] K0 (Y7 q1E):=ah
variable(z34:mg "enumerate" = none)
include z34 in
theorem q6H(F:Fun K "group_numbers" "group_numbers" q1E f fd):FnOk P w K mg base CX0 1 f fd K0 (spD K 1 qS):=by
 have h:=fnD (P:=P) (w:=w) (mg:=mg) (base:=base) (k:=0) (body:=q1z) F q0h (λcdv A outer s H E hr=>
   (qb (q7G (i:=1) q0h.nd rfl aB)
   (qb (qX PassesOwn.never rfl (qhU rfl z34 ga) (q2N rfl (qN (qj (i:=2) q0h.nd rfl aB) (qN (qj (i:=3) q0h.nd rfl aB) q1V))) (qc (qX PassesOwn.never rfl (qu mK) (qj (i:=4) q0h.nd rfl aB) (qc (q5y hr.units M3 B6 mL)))))
   (qT 1 (qc (qh (vE 1)))))))
 exact h
noncomputable def q0X:FS:=(zBS 3 iy (dOf (fIte (tOf (XB b9 (vOf (zAW 0 iy)) aN)) bW (zAW 0 iy))))
noncomputable def q1b:FS:=(XR (zBu 3)
  (XR (zAO (iDk 0) (gN 4) q0X)
  (X1 3 (Xk (Y3 3)))))
noncomputable def qZ:List D->Option O:=mir 5 q1b
noncomputable abbrev q1d:vp:=top 26
theorem q1c:FnScope ["numbers", "one", "other", "joined", "thing"] M7 (Y7 q1d):=ah
theorem q4U(F:Fun K "with_two_joined" "with_two_joined" q1d f fd):FnOk P w K mg base CX0 1 f fd M7 (spD K 3 qZ):=by
 have h:=fnD (P:=P) (w:=w) (mg:=mg) (base:=base) (k:=0) (body:=q1b) F q1c (λcdv A outer s H E hr=>
   (qb (q7G (i:=3) q1c.nd rfl aB)
   (qb (qX PassesOwn.never rfl (qi7 Tu) (qj (i:=4) q1c.nd rfl aB) (qc (q5y hr.units nV B6 (XE.toD (qel (Wi hr.units (XE.toV NC) iu) (vE 1) NC)))))
   (qT 3 (qc (qh (vE 3)))))))
 exact h
noncomputable def q50:FS:=(XR (Xl 6 (eOf (dOf (zAW 3 EJ))))
  (XR (Xl 7 (eOf (dOf (zAW 3 EK))))
  (sIf (tOf (XB km fP mJ)) (XR (zCZ 4 fR)
  (Xl 3 (eOf (dOf (XC qZ (Y2 cP (Y2 oK (Y2 IJ XF)))))))) WI)))
noncomputable def q60:FS:=(XR (Xl 3 (eOf (dOf (XC qS (Y2 (dOf (XC q1l hZ)) XF)))))
  (XR (Xl 4 Ab)
  (XR (zAO (X7 (dOf (zBg q0p aN))) TR q50)
  (zAx 4))))
noncomputable def q04:List D->Option O:=mir 8 q60
noncomputable abbrev q6E:vp:=top 27
theorem q1m:FnScope ["things", "knots", "edges", "numbers", "taken", "edge", "one", "other"] fV (Y7 q6E):=ah
variable{fc35:vH}{dc35:vS}(c35:Cal P w K mg base 1 fc35 dc35 "group_numbers" ["parts"] 1 qS)
variable{fc36:vH}{dc36:vS}(c36:Cal P w K mg base 2 fc36 dc36 "groups" ["things", "ties"] 2 q1l)
variable{fc37:vH}{dc37:vS}(c37:Cal P w K mg base 1 fc37 dc37 "cost" ["edge"] 1 q0p)
variable{fc38:vH}{dc38:vS}(c38:Cal P w K mg base 1 fc38 dc38 "with_two_joined" ["numbers", "one", "other"] 3 qZ)
include z23 c35 c36 c37 c38 in
theorem qen(F:Fun K "forest" "forest" q6E f fd):FnOk P w K mg base CX0 4 f fd fV (spD K 3 q04):=by
 have h:=fnD (P:=P) (w:=w) (mg:=mg) (base:=base) (k:=3) (body:=q60) F q1m (λcdv A outer s H E hr=>
   (qb (qm (i:=3) q1m.nd rfl (Or.inl rfl) (XD.toE (XE.toD (xc c35 hr (Y1 (XE.toD (xc c36 hr pN)) Y5)))))
   (qb (qm (i:=4) q1m.nd rfl (Or.inl rfl) r8)
   (qb (qX PassesOwn.never rfl (qu (XE.toD (qgM c37 hr z23 iu))) (qj (i:=5) q1m.nd rfl aB) (qb (qm (i:=6) q1m.nd rfl (Or.inl rfl) EO)
   (qb (qm (i:=7) q1m.nd rfl (Or.inl rfl) EO)
   (qc (qw (zAa hr.units B5 (vV 7)) (qb (q3l P2 AM)
   (qc (qm (i:=3) q1m.nd rfl (Or.inl rfl) (XD.toE (XE.toD (xc c38 hr (Y1 mK (Y1 MZ acz)))))))) qr)))))
   (qc (q5O P2))))))
 exact h
noncomputable def q1F:FT:=(tOf (XB oLt (vOf Rr) bG))
noncomputable def q1I:FD:=(zAA (Y2 eT (Y2 eU XF)))
noncomputable def q2b:FS:=(XR (Xl 4 (Xo 1 [3] (X7 cQ) fG q1F q1I))
  (X1 4 (Xk (XC q1l (Y2 bh (Y2 (dOf (XB X3 bG cG)) XF))))))
noncomputable def q0w:List D->Option O:=mir 5 q2b
noncomputable abbrev q1S:vp:=top 28
theorem q45:FnScope ["things", "knots", "edges", "bound", "cheaper"] GL (Y7 q1S):=ah
include c36 c37 in
theorem q78(F:Fun K "groups_below" "groups_below" q1S f fd):FnOk P w K mg base CX0 3 f fd GL (spD K 4 q0w):=by
 have h:=fnD (P:=P) (w:=w) (mg:=mg) (base:=base) (k:=2) (body:=q2b) F q45 (λcdv A outer s H E hr=>
   (qb (q1Y (i:=4) rfl q45.nd rfl rfl (blk Bg Qc [3] rfl ⋯ ⋯ rfl ⟨⟨rfl,(by first|exact Or.inl rfl|exact Or.inr rfl),rfl⟩,trivial⟩) (qu mL) jJ (λ_ _ _ _=>⟨(qj (i:=0) (show (N6++(Qc:List Str):List Str).Nodup from by decide +kernel) rfl aB),(q3W (q3y (XE.toV LV) ju)),(Xp (Y1 bj (Y1 bj Y5)))⟩))
   (qT 4 (qc (qh (xc c36 hr (Y1 cB (Y1 (XE.toD (qD ju nU)) Y5))))))))
 exact h
noncomputable def q2h:FD:=(dOf Rr)
noncomputable def q4W:FD:=(zAA (Y2 bh (Y2 (dOf (XC q0w Mr)) XF)))
noncomputable def q61:FS:=(XR (Xl 3 (eOf (dOf (WJ AL))))
  (Xk (Xo 1 [0,1,2] Jm fG Xm q4W)))
noncomputable def q1P:List D->Option O:=mir 4 q61
noncomputable abbrev q6A:vp:=top 29
theorem q9Y:FnScope ["things", "knots", "edges", "costs"] fV (Y7 q6A):=ah
variable{fc39:vH}{dc39:vS}(c39:Cal P w K mg base 4 fc39 dc39 "forest" ["things", "knots", "edges"] 3 q04)
variable{fc40:vH}{dc40:vS}(c40:Cal P w K mg base 3 fc40 dc40 "groups_below" ["things", "knots", "edges", "bound"] 4 q0w)
include z23 z24 c37 c39 c40 in
theorem qf9(F:Fun K "levels" "levels" q6A f fd):FnOk P w K mg base CX0 5 f fd fV (spD K 3 q1P):=by
 have h:=fnD (P:=P) (w:=w) (mg:=mg) (base:=base) (k:=4) (body:=q61) F q9Y (λcdv A outer s H E hr=>
   (qb (qm (i:=3) q9Y.nd rfl (Or.inl rfl) (XD.toE (XE.toD (q6Q rfl z23 rfl z24 (XE.toV (qJ rfl (blk Bg [] [] rfl ⋯ ⋯ rfl trivial) (qu (XE.toD (xc c39 hr ar))) jJ (λ_ _ _ _=>⟨(qj (i:=0) (show (N6++da:List Str).Nodup from by decide +kernel) rfl aB),qC,(XE.toD LV)⟩)))))))
   (qc (qh (qJ rfl (blk Qc fV [0,1,2] rfl ⋯ ⋯ rfl ⟨⟨rfl,(by first|exact Or.inl rfl|exact Or.inr rfl),rfl⟩,⟨⟨rfl,(by first|exact Or.inl rfl|exact Or.inr rfl),rfl⟩,⟨⟨rfl,(by first|exact Or.inl rfl|exact Or.inr rfl),rfl⟩,trivial⟩⟩⟩) UN jJ (λ_ _ _ _=>⟨(qj (i:=0) (show ((Qc:List Str)++(fV:List Str):List Str).Nodup from by decide +kernel) rfl aB),qC,(Xp (Y1 cB (Y1 (XE.toD (xc c40 hr Mu)) Y5)))⟩))))))
 exact h
noncomputable def q2G:FS:=(XR (sAug (λi j=>i+j) 2 (vOf (XB zBZ (vOf (XB zA8 cG bE)) (vOf (XB zA8 Bt bG)))))
  (Xl 3 (eOf iy)))
noncomputable def q5r:FS:=(XR (Xl 2 (eOf aK))
  (XR (Xl 3 (eOf aK))
  (XR (zAO Dz abc q2G)
  (Xk (Y3 2)))))
noncomputable def q2n:List D->Option O:=mir 6 q5r
noncomputable abbrev q4O:vp:=top 30
theorem q0Y:FnScope ["levels", "rest", "total", "ahead", "bound", "parts"] aao (Y7 q4O):=ah
include z14 in
theorem qcU(F:Fun K "weighed" "weighed" q4O f fd):FnOk P w K mg base CX0 1 f fd aao (spD K 2 q2n):=by
 have h:=fnD (P:=P) (w:=w) (mg:=mg) (base:=base) (k:=0) (body:=q5r) F q0Y (λcdv A outer s H E hr=>
   (qb (qm (i:=2) q0Y.nd rfl (Or.inl rfl) Rq)
   (qb (qm (i:=3) q0Y.nd rfl (Or.inl rfl) Rq)
   (qb (qX PassesOwn.never rfl (qu cB) (q2N rfl (qN (qj (i:=4) q0Y.nd rfl aB) (qN (qj (i:=5) q0Y.nd rfl aB) q1V))) (qb (qjm (i:=2) qjE q0Y.nd rfl (Or.inl rfl) (XE.toV (q5d (XE.toV (q0E nU iR)) (XE.toV (q0E kq ju)))))
   (qc (qm (i:=3) q0Y.nd rfl (Or.inl rfl) (XD.toE B6)))))
   aae))))
 exact h
noncomputable abbrev q0e:vp:=top 32
theorem q2l:FnScope Hq Dv (Y7 q0e):=ah
theorem q4J(F:Fun K "numbers_by_start" "numbers_by_start" q0e f fd)(z34:mg "enumerate" = none):FnOk P w K mg base CX0 1 f fd Dv (spT K):=by
 refine F.ok q2l GV m6
 ·obtain⟨G,as,_,rp,_⟩:=h
  rw[<- rp.len];rfl
 ·exact qil (X:=(zCD CX0 P w K mg base Hq "numbers_by_start" (Y7 q0e) f cdv A outer s H E).nox) PassesOwn.never rfl q2l.nd rfl rfl rfl (by first|exact Or.inl rfl|exact Or.inr rfl) (by first|exact Or.inl rfl|exact Or.inr rfl) (by first|exact Or.inl rfl|exact Or.inr rfl) (by first|exact .inl rfl|exact .inr rfl) (by first|exact .inl rfl|exact .inr rfl) (by first|exact .inl rfl|exact .inr rfl) rfl z34 Tu M3 Ce M3 mU (λω e h=>qjr h) rfl lL rfl rfl rfl rfl rfl rfl rfl rfl (λt h=>qe0 rfl h) (by intro _;rfl) h
noncomputable def q07:FD:=eT
noncomputable def q08:FD:=eU
noncomputable def q0j:FS:=(Xk (XB b9 (vOf (zBJ (vOf (Xo 1 [] Dz fG Xm q07)))) (vOf (zBJ (vOf (Xo 1 [] Dz fG Xm q08))))))
noncomputable def qL:List D->Option O:=mir 1 q0j
noncomputable abbrev q0l:vp:=top 33
theorem q3N:FnScope Dv Dv (Y7 q0l):=ah
include z23 in
theorem q3s(F:Fun K "as_many_begin_as_end" "as_many_begin_as_end" q0l f fd):FnOk P w K mg base CX0 1 f fd Dv (spD K 1 qL):=by
 have h:=fnD (P:=P) (w:=w) (mg:=mg) (base:=base) (k:=0) (body:=q0j) F q3N (λcdv A outer s H E hr=>
   (qc (qh (Wm hr.units (XE.toV (q9G rfl z23 (XE.toV (qJ rfl (blk ["arc"] [] [] rfl ⋯ ⋯ rfl trivial) Jd jJ (λ_ _ _ _=>⟨(qj (i:=0) (show (TU++da:List Str).Nodup from by decide +kernel) rfl aB),qC,bj⟩))))) (XE.toV (q9G rfl z23 (XE.toV (qJ rfl (blk ["arc"] [] [] rfl ⋯ ⋯ rfl trivial) Jd jJ (λ_ _ _ _=>⟨(qj (i:=0) (show (TU++da:List Str).Nodup from by decide +kernel) rfl aB),qC,bj⟩)))))))))
 exact h
noncomputable abbrev q0O:vp:=top 34
theorem qR:FnScope fM BU (Y7 q0O):=ah
noncomputable def q1G:List D->Option O:=mRF
theorem q8D{f_n:vH}{d_n:vS}(F:Fun K "round_from" "round_from" q0O f fd)(G_n:FnOk P w K mg base CX0 1 f_n d_n Dv (spT K))(a_n:mg "numbers_by_start" = some (.ref f_n))(k_n:xp K (.ref f_n)=true)(b_n:Binds K d_n Dv [])(z18:mg "list" = none)(z_reversed:mg "reversed" = none):FnOk P w K mg base CX0 2 f fd BU (spD K 2 q1G):=by
 refine F.ok qR GV m6
 ·obtain⟨G,ds,r,_,h2,_,h4,_⟩:=h
  rw[<- h4.len];exact h2
 ·have hu:=hu1 (X:=(zCD CX0 P w K mg base fM "round_from" (Y7 q0O) f cdv A outer s H E).nox) hr.units
  exact qjp (X:=(zCD CX0 P w K mg base fM "round_from" (Y7 q0O) f cdv A outer s H E).nox) (f1:=(dOf acB)) (f0:=(dOf acA)) FU FU (λ_ _ _=>qje) (λ_ _ _=>qkq) rfl h (λp1 p0=>(qI (q0d (i:=2) qR.nd rfl (by first|exact Or.inl rfl|exact Or.inr rfl) (qcG G_n (hr.mono (by decide)) rfl a_n k_n b_n .nil pass0 (qA M3 qx rfl)) rfl (by first|exact .inl rfl|exact .inr rfl)) (qI (q0d (i:=3) qR.nd rfl (by first|exact Or.inl rfl|exact Or.inr rfl) Je rfl (by first|exact .inl rfl|exact .inr rfl)) (qI (q0d (i:=4) qR.nd rfl (by first|exact Or.inl rfl|exact Or.inr rfl) Je rfl (by first|exact .inl rfl|exact .inr rfl)) (qI (q0d (i:=5) qR.nd rfl (by first|exact Or.inl rfl|exact Or.inr rfl) Tu rfl (by first|exact .inl rfl|exact .inr rfl)) (qI (qai PassesOwn.never (qhw (q4o nV (by intro _;rfl)) (qdM (q4o NB (by intro _;rfl)))).pt (q0K (qhg (q4o NB (by intro _;rfl)) (qI (q0d (i:=6) qR.nd rfl (by first|exact Or.inl rfl|exact Or.inr rfl) (qaA PySem.F.plainAttrs_list PySem.F.slot_list_pop PySem.F.type_list_pop qah (q5F hu Ce Tt (by intro _ _;rfl)) rfl rfl) rfl (by first|exact .inl rfl|exact .inr rfl)) (qI (q17 (q2f PySem.F.plainAttrs_list PySem.F.slot_list_append PySem.F.type_list_append q0T nV Tp rfl rfl rfl rfl rfl) rfl) (q0K (q0d (i:=5) qR.nd rfl (by first|exact Or.inl rfl|exact Or.inr rfl) p1 rfl (by first|exact .inl rfl|exact .inr rfl))))) (qI (q0d (i:=6) qR.nd rfl (by first|exact Or.inl rfl|exact Or.inr rfl) (qaA PySem.F.plainAttrs_list PySem.F.slot_list_pop PySem.F.type_list_pop qah nV rfl rfl) rfl (by first|exact .inl rfl|exact .inr rfl)) (qI (q17 (q2f PySem.F.plainAttrs_list PySem.F.slot_list_append PySem.F.type_list_append q0T P2 Tp rfl rfl rfl rfl rfl) rfl) (q0K (q0d (i:=5) qR.nd rfl (by first|exact Or.inl rfl|exact Or.inr rfl) p0 rfl (by first|exact .inl rfl|exact .inr rfl)))))))) (q0K (q5l (qcW rfl z18 rfl z_reversed (qA P2 qx rfl) rfl rfl rfl rfl rfl)))))))))
noncomputable def q66:FS:=(XR (sIf (Xy (Wl (vOf (XC qL ig)))) sNo WI)
  (XR (Xl 2 (eOf (dOf (XC q1G hZ))))
  (XR (sIf (tOf (XB km ee (vOf (Xx Wj (Y2 bG XF))))) sNo WI)
  (Xk (Y3 2)))))
noncomputable def q3h:List D->Option O:=mir 3 q66
noncomputable abbrev q6y:vp:=top 35
theorem q9V:FnScope ["start", "arcs", "row"] BU (Y7 q6y):=ah
variable{fc41:vH}{dc41:vS}(c41:Cal P w K mg base 1 fc41 dc41 "as_many_begin_as_end" ["arcs"] 1 qL)
variable{fc42:vH}{dc42:vS}(c42:Cal P w K mg base 2 fc42 dc42 "round_from" ["start", "arcs"] 2 q1G)
include z14 c41 c42 in
theorem qdH(F:Fun K "row_of" "row_of" q6y f fd):FnOk P w K mg base CX0 3 f fd BU (spD K 2 q3h):=by
 have h:=fnD (P:=P) (w:=w) (mg:=mg) (base:=base) (k:=2) (body:=q66) F q9V (λcdv A outer s H E hr=>
   (qb (qw (qO (qE (XE.toV (xc c41 hr dD)))) QZ qr)
   (qb (qm (i:=2) q9V.nd rfl (Or.inl rfl) (XD.toE (XE.toD (xc c42 hr pN))))
   (qb (qw (zAa hr.units nZ (XE.toV (qt qq qG rfl z14 qF (ql ju qp)))) QZ qr)
   aae))))
 exact h
noncomputable def q2p:FS:=(XR (Xl 3 (eOf (dOf (XC q3h (Y2 bh (Y2 (dOf (XB X3 aN (vOf (Ww (Y2 (zAA (Y2 bn fZ)) XF))))) XF))))))
  (XR (Xl 4 (eOf (dOf (fIdx bE (dOf eV)))))
  (Xk (XB X3 (vOf (fSl bE (pAt (vOf (XB X3 cG aG))) pNo)) (vOf (fSl bE pNo (pAt cG)))))))
noncomputable def q09:List D->Option O:=mir 5 q2p
noncomputable abbrev q2v:vp:=top 36
theorem q2r:FnScope ["home", "last", "arcs", "row", "cut"] Pg (Y7 q2v):=ah
variable{fc43:vH}{dc43:vS}(c43:Cal P w K mg base 3 fc43 dc43 "row_of" ["start", "arcs"] 2 q3h)
include z14 c43 in
theorem q7U(F:Fun K "row_between" "row_between" q2v f fd):FnOk P w K mg base CX0 4 f fd Pg (spD K 3 q09):=by
 have h:=fnD (P:=P) (w:=w) (mg:=mg) (base:=base) (k:=3) (body:=q2p) F q2r (λcdv A outer s H E hr=>
   (qb (qm (i:=3) q2r.nd rfl (Or.inl rfl) (XD.toE (XE.toD (xc c43 hr (Y1 cB (Y1 (XE.toD (qD iu (XE.toV (Xn (Y1 (Xp (Y1 mM ga)) Y5))))) Y5))))))
   (qb (qm (i:=4) q2r.nd rfl (Or.inl rfl) (XD.toE (XE.toD (qfK iR (XE.toD bq)))))
   (qc (qh (qD (XE.toV (WH iR (WE (XE.toV (qD nU aj))) zAV)) (XE.toV (WH iR zAV (WE nU)))))))))
 exact h
noncomputable def q1K:FS:=(XR (Xl 6 (eOf (dOf (fIte (tOf (XB oGt dS aK)) (Y3 4) (eOf (zAA (Y2 (dOf MB) (Y2 (dOf MA) XF))))))))
  (zC7 3 (dOf (XB zBh (vOf (Ww (Y2 oK XF))) (vOf (Xx zCI (Y2 dS XF)))))))
noncomputable def q1X:FS:=(XR (Xl 3 Ab)
  (XR (zAO aah abc q1K)
  (zAx 3)))
noncomputable def q0s:List D->Option O:=mir 7 q1X
noncomputable abbrev q20:vp:=top 38
theorem q0t:FnScope ["home", "last", "boxes", "arcs", "gap", "lack", "arc"] au (Y7 q20):=ah
variable(z44:mg "abs" = none)
include z26 c27 c33 z44 in
theorem q6O(F:Fun K "lacking_arcs" "lacking_arcs" q20 f fd):FnOk P w K mg base CX0 8 f fd au (spD K 3 q0s):=by
 have h:=fnD (P:=P) (w:=w) (mg:=mg) (base:=base) (k:=7) (body:=q1X) F q0t (λcdv A outer s H E hr=>
   (qb (qm (i:=3) q0t.nd rfl (Or.inl rfl) r8)
   (qb (qX PassesOwn.never rfl (q7g rfl z26 (Y1 kC oW)) (q2N rfl (qN (qj (i:=4) q0t.nd rfl aB) (qN (qj (i:=5) q0t.nd rfl aB) q1V))) (qb (qm (i:=6) q0t.nd rfl (Or.inl rfl) (XD.toE (XE.toD (qel (qkC E6 aj) (vE 4) (XD.toE (Xp (Y1 iT (Y1 iT Y5))))))))
   (qc (qa0 nV (XE.toD (qk6 (XE.toV (Xn (Y1 MZ Y5))) (XE.toV (qt q4z q6L rfl z44 q6U (ql E6 qp)))))))))
   (qc (q5O nV)))))
 exact h
noncomputable def q22:FS:=(XR (zCZ 3 (zAA (Y2 EJ (Y2 EK XF))))
  (zCZ 3 (zAA (Y2 EK (Y2 EJ XF)))))
noncomputable def q2u:FS:=(XR (Xl 3 Ab)
  (XR abm
  (XR (zAO (X7 (dOf (XC q04 (Y2 iy AW)))) TR q22)
  (zAx 3))))
noncomputable def q0F:List D->Option O:=mir 6 q2u
noncomputable abbrev q2x:vp:=top 39
theorem q1i:FnScope ["home", "last", "boxes", "arcs", "places", "edge"] au (Y7 q2x):=ah
variable{fc45:vH}{dc45:vS}(c45:Cal P w K mg base 7 fc45 dc45 "gap_edges" ["home", "last", "boxes"] 3 q0i)
variable{fc46:vH}{dc46:vS}(c46:Cal P w K mg base 8 fc46 dc46 "knots" ["home", "last", "boxes"] 3 q29)
include c25 c39 c45 c46 in
theorem q7R(F:Fun K "forest_arcs" "forest_arcs" q2x f fd):FnOk P w K mg base CX0 9 f fd au (spD K 3 q0F):=by
 have h:=fnD (P:=P) (w:=w) (mg:=mg) (base:=base) (k:=8) (body:=q2u) F q1i (λcdv A outer s H E hr=>
   (qb (qm (i:=3) q1i.nd rfl (Or.inl rfl) r8)
   (qb (qm (i:=4) q1i.nd rfl (Or.inl rfl) Rp)
   (qb (qX PassesOwn.never rfl (qu (XE.toD (xc c39 hr (Y1 B6 oV)))) (qj (i:=5) q1i.nd rfl aB) (qb Iw
   (qc Iw)))
   (qc (q5O nV))))))
 exact h
noncomputable def q34:FS:=(XR (sIf (tOf (XB oLt aw ee)) (Xk (eOf (zAA (Y2 U0 (Y2 bh rA))))) WI)
  (Xk (eOf (zAA (Y2 (fC gZ) rA)))))
noncomputable def q1H:List D->Option O:=mir 3 q34
noncomputable abbrev q33:vp:=top 40
theorem qau:FnScope AU AU (Y7 q33):=ah
include z14 in
theorem q8K(F:Fun K "move_along" "move_along" q33 f fd):FnOk P w K mg base CX0 1 f fd AU (spD K 3 q1H):=by
 have h:=fnD (P:=P) (w:=w) (mg:=mg) (base:=base) (k:=0) (body:=q34) F qau (λcdv A outer s H E hr=>
   (qb (qw (q3y cZ nZ) (qc (qh (XD.toE (Xp (Y1 Wy (Y1 cB TW)))))) qr)
   (qc (qh (XD.toE (Xp (Y1 Wy TW)))))))
 exact h
noncomputable def q7N:FD:=(dOf (XC q1H (Y2 bh (Y2 (dOf (XB oIx aN aw)) ig))))
noncomputable def qaI:FS:=(XR (Xl 3 (eOf (dOf (XB X3 (vOf (XC q0s ai)) (vOf (XC q0F ai))))))
  (XR (Xl 4 (eOf (dOf (XB X3 aN bE))))
  (Xk (Xo 1 [2,4] (X7 (dOf (XC q09 (Y2 bh (Y2 bn (Y2 iy XF)))))) fG Xm q7N))))
noncomputable def q5b:List D->Option O:=mir 5 qaI
noncomputable abbrev q9C:vp:=top 41
theorem q92:FnScope ["home", "last", "boxes", "empty", "arcs"] au (Y7 q9C):=ah
variable{fc47:vH}{dc47:vS}(c47:Cal P w K mg base 8 fc47 dc47 "lacking_arcs" ["home", "last", "boxes"] 3 q0s)
variable{fc48:vH}{dc48:vS}(c48:Cal P w K mg base 9 fc48 dc48 "forest_arcs" ["home", "last", "boxes"] 3 q0F)
variable{fc49:vH}{dc49:vS}(c49:Cal P w K mg base 4 fc49 dc49 "row_between" ["home", "last", "arcs"] 3 q09)
variable{fc50:vH}{dc50:vS}(c50:Cal P w K mg base 1 fc50 dc50 "move_along" ["number", "arc", "boxes"] 3 q1H)
include c47 c48 c49 c50 in
theorem qic(F:Fun K "tour" "tour" q9C f fd):FnOk P w K mg base CX0 10 f fd au (spD K 3 q5b):=by
 have h:=fnD (P:=P) (w:=w) (mg:=mg) (base:=base) (k:=9) (body:=qaI) F q92 (λcdv A outer s H E hr=>
   (qb (qm (i:=3) q92.nd rfl (Or.inl rfl) (XD.toE (XE.toD (qD (XE.toV (xc c47 hr ar)) (XE.toV (xc c48 hr ar))))))
   (qb (qm (i:=4) q92.nd rfl (Or.inr rfl) (XD.toE (XE.toD (qD iu iR))))
   (qc (qh (qJ rfl (blk ["number"] abi [2,4] rfl ⋯ ⋯ rfl ⟨⟨rfl,(by first|exact Or.inl rfl|exact Or.inr rfl),rfl⟩,⟨⟨rfl,(by first|exact Or.inl rfl|exact Or.inr rfl),rfl⟩,trivial⟩⟩) (qu (XE.toD (xc c49 hr (Y1 cB (Y1 mM (Y1 B6 Y5)))))) jJ (λ_ _ _ _=>⟨(qj (i:=0) (show ((["number"]:List Str)++(abi:List Str):List Str).Nodup from by decide +kernel) rfl aB),qC,(XE.toD (xc c50 hr (Y1 cB (Y1 (XE.toD (Y6 iu cZ)) dD))))⟩)))))))
 exact h
noncomputable def q38:FD:=(dOf (XC qW fZ))
noncomputable def q2g:FS:=(Xk (Xx zAr (Y2 (vOf (Xo 1 [] Dz fG Xm q38)) XF)))
noncomputable def q01:List D->Option O:=mir 1 q2g
noncomputable abbrev q3Q:vp:=top 43
theorem qaJ:FnScope K0 K0 (Y7 q3Q):=ah
include c13 z19 in
theorem qas(F:Fun K "all_whole" "all_whole" q3Q f fd):FnOk P w K mg base CX0 2 f fd K0 (spD K 1 q01):=by
 have h:=fnD (P:=P) (w:=w) (mg:=mg) (base:=base) (k:=1) (body:=q2g) F qaJ (λcdv A outer s H E hr=>
   (qc (qh (qt Cw q2Z rfl z19 q37 (ql (XE.toV (qJ rfl (blk ["part"] [] [] rfl ⋯ ⋯ rfl trivial) Jd jJ (λ_ _ _ _=>⟨(qj (i:=0) (show (Sm++da:List Str).Nodup from by decide +kernel) rfl aB),qC,(XE.toD abZ)⟩))) qp)))))
 exact h
noncomputable def q39:FD:=(dOf (XB X3 aw (vOf (XC q0N (Y2 bn fZ)))))
noncomputable def q3E:FS:=(Xk (Xo 1 [2] (X7 om) fG Xm q39))
noncomputable def q0L:List D->Option O:=mir 3 q3E
noncomputable abbrev q3A:vp:=top 44
theorem qaK:FnScope au au (Y7 q3A):=ah
include c27 c29 in
theorem qae(F:Fun K "counts_of" "counts_of" q3A f fd):FnOk P w K mg base CX0 7 f fd au (spD K 3 q0L):=by
 have h:=fnD (P:=P) (w:=w) (mg:=mg) (base:=base) (k:=6) (body:=q3E) F qaK (λcdv A outer s H E hr=>
   (qc (qh (qJ rfl (blk NQ ["boxes"] [2] rfl ⋯ ⋯ rfl ⟨⟨rfl,(by first|exact Or.inl rfl|exact Or.inr rfl),rfl⟩,trivial⟩) (qu kC) jJ (λ_ _ _ _=>⟨(qj (i:=0) (show (nj++(["boxes"]:List Str):List Str).Nodup from by decide +kernel) rfl aB),qC,(XE.toD (qD cZ (XE.toV (xc c29 hr (Y1 mM ga)))))⟩)))))
 exact h
noncomputable def q2y:FD:=U4
noncomputable def q2Y:FS:=(Xk (eOf (zAm (dOf (XB b9 aw bG)) (dOf (Xx zAr (Y2 (vOf (Xo 1 [] Dz fG Xm q2y)) XF))))))
noncomputable def q0W:List D->Option O:=mir 2 q2Y
noncomputable abbrev q3f:vp:=top 45
theorem qa9:FnScope Hl Hl (Y7 q3f):=ah
variable{fc51:vH}{dc51:vS}(c51:Cal P w K mg base 2 fc51 dc51 "all_whole" ["parts"] 1 q01)
include z19 c51 in
theorem q8P(F:Fun K "are_counts" "are_counts" q3f f fd):FnOk P w K mg base CX0 3 f fd Hl (spD K 2 q0W):=by
 have h:=fnD (P:=P) (w:=w) (mg:=mg) (base:=base) (k:=2) (body:=q2Y) F qa9 (λcdv A outer s H E hr=>
   (qc (qh (XD.toE (q06 (XE.toD (Wm hr.units cZ ju)) (q0P (XE.toD (qt Cw q2Z rfl z19 q37 (ql (XE.toV (qJ rfl (blk ["count"] [] [] rfl ⋯ ⋯ rfl trivial) Jd jJ (λ_ _ _ _=>⟨(qj (i:=0) (show ((["count"]:List Str)++da:List Str).Nodup from by decide +kernel) rfl aB),qC,OA⟩))) qp)))))))))
 exact h
noncomputable def q4g:FS:=(Xk (eOf (zAm (dOf (zAp .lst aw)) (zAm (dOf (XB oGt jX aK)) U4))))
noncomputable def q1M:List D->Option O:=mir 1 q4g
noncomputable abbrev q4l:vp:=top 46
theorem qcQ:FnScope mX mX (Y7 q4l):=ah
include z0 z14 z18 z20 c51 in
theorem qbb(F:Fun K "is_group" "is_group" q4l f fd):FnOk P w K mg base CX0 3 f fd mX (spD K 1 q1M):=by
 have h:=fnD (P:=P) (w:=w) (mg:=mg) (base:=base) (k:=2) (body:=q4g) F qcQ (λcdv A outer s H E hr=>
   (qc (qh (XD.toE (q06 (XE.toD Jf) (q06 (XE.toD (qkW dZ aj)) (q0P OA)))))))
 exact h
noncomputable def q2A:FD:=(dOf (XC q1M fZ))
noncomputable def q2z:FS:=(zC7 2 cP)
noncomputable def q2L:FS:=(XR (sIf (zAy (Xy (Wl (vOf (zAp .lst aw)))) (Xy (Wl (vOf (Xx zAr (Y2 (vOf (Xo 1 [] Dz fG Xm q2A)) XF)))))) bf WI)
  (XR (Xl 2 Ab)
  (XR (zAO Dz (gN 3) q2z)
  (Xk (XB b9 (vOf (zA9 aN)) bG)))))
noncomputable def q0U:List D->Option O:=mir 4 q2L
noncomputable abbrev q3i:vp:=top 47
theorem q2S:FnScope ["thing", "places", "grouped", "part"] Va (Y7 q3i):=ah
variable{fc52:vH}{dc52:vS}(c52:Cal P w K mg base 3 fc52 dc52 "is_group" ["thing"] 1 q1M)
include z0 z18 z19 z20 z23 c52 in
theorem q8F(F:Fun K "are_groups" "are_groups" q3i f fd):FnOk P w K mg base CX0 4 f fd Va (spD K 2 q0U):=by
 have h:=fnD (P:=P) (w:=w) (mg:=mg) (base:=base) (k:=3) (body:=q2L) F q2S (λcdv A outer s H E hr=>
   (qb (qw (XW.toT (q1g (qO (qE (XE.toV Jf))) (q2V (qO (qE (XE.toV (qt Cw q2Z rfl z19 q37 (ql (XE.toV (qJ rfl (blk ["part"] [] [] rfl ⋯ ⋯ rfl trivial) Jd jJ (λ_ _ _ _=>⟨(qj (i:=0) (show (Sm++da:List Str).Nodup from by decide +kernel) rfl aB),qC,(XE.toD (xc c52 hr ga))⟩))) qp)))))))) bO qr)
   (qb (qm (i:=2) q2S.nd rfl (Or.inl rfl) r8)
   (qb (qX PassesOwn.never rfl (qu cB) (qj (i:=3) q2S.nd rfl aB) (qc (qa0 Ce mK)))
   (qc (qh (Wm hr.units (XE.toV (qbS rfl z23 iu)) ju)))))))
 exact h
noncomputable def q1e:FD:=(dOf (XB b9 (vOf (zAW 1 eT)) (vOf (zAW 1 eU))))
noncomputable def q1o:FS:=(XR (Xl 2 (eOf (dOf (XC qS fZ))))
  (Xk (Xx zAr (Y2 (vOf (Xo 1 [2] (X7 bn) fG Xm q1e)) XF))))
noncomputable def q05:List D->Option O:=mir 3 q1o
noncomputable abbrev q1k:vp:=top 48
theorem q2R:FnScope ["parts", "ties", "numbers"] abh (Y7 q1k):=ah
include z19 c35 in
theorem q5S(F:Fun K "holds_together" "holds_together" q1k f fd):FnOk P w K mg base CX0 2 f fd abh (spD K 2 q05):=by
 have h:=fnD (P:=P) (w:=w) (mg:=mg) (base:=base) (k:=1) (body:=q1o) F q2R (λcdv A outer s H E hr=>
   (qb (qm (i:=2) q2R.nd rfl (Or.inr rfl) (XD.toE (XE.toD (xc c35 hr ga))))
   (qc (qh (qt Cw q2Z rfl z19 q37 (ql (XE.toV (qJ rfl (blk ["tie"] ["numbers"] [2] rfl ⋯ ⋯ rfl ⟨⟨rfl,(by first|exact Or.inl rfl|exact Or.inr rfl),rfl⟩,trivial⟩) (qu mM) jJ (λ_ _ _ _=>⟨(qj (i:=0) (show ((["tie"]:List Str)++(["numbers"]:List Str):List Str).Nodup from by decide +kernel) rfl aB),qC,(XE.toD (Wm hr.units HP HP))⟩))) qp))))))
 exact h
noncomputable def q3H:FT:=(tOf (XB oLt (vOf Rr) (vOf acE)))
noncomputable def q3B:FD:=bh
noncomputable def q4e:FS:=(XR (sIf (zAy (Xy (Wl (vOf (zAp .tup aw)))) (zAy (tOf (XB km jX cI)) (Xy (Wl (vOf TY))))) bf WI)
  (XR (sIf (Xy (Wl (vOf (XC q0U (Y2 eU ig))))) bf WI)
  (XR (Xl 4 (Xo 1 [0] Jm fG q3H q3B))
  (X1 4 (Xk (XC q05 (Y2 eU (Y2 (dOf (XB X3 aN cG)) XF))))))))
noncomputable def q1N:List D->Option O:=mir 5 q4e
noncomputable abbrev q4s:vp:=top 49
theorem q7i:FnScope ["thing", "places", "ties", "edges", "shorter"] Hm (Y7 q4s):=ah
variable{fc53:vH}{dc53:vS}(c53:Cal P w K mg base 4 fc53 dc53 "are_groups" ["thing", "places"] 2 q0U)
variable{fc54:vH}{dc54:vS}(c54:Cal P w K mg base 2 fc54 dc54 "holds_together" ["parts", "ties"] 2 q05)
include z0 c13 z14 z15 z16 c37 c53 c54 in
theorem qb3(F:Fun K "is_level" "is_level" q4s f fd):FnOk P w K mg base CX0 5 f fd Hm (spD K 4 q1N):=by
 have h:=fnD (P:=P) (w:=w) (mg:=mg) (base:=base) (k:=4) (body:=q4e) F q7i (λcdv A outer s H E hr=>
   (qb (qw (XW.toT (q1g (qO (qE (XE.toV Jg))) (q1g (zAa hr.units dZ aj) (q2V (qO (qE (XE.toV CH))))))) bO qr)
   (qb (qw (qO (qE (XE.toV (xc c53 hr (Y1 bj dD))))) bO qr)
   (qb (q1Y (i:=4) rfl q7i.nd rfl rfl (blk Bg mX [0] rfl ⋯ ⋯ rfl ⟨⟨rfl,(by first|exact Or.inl rfl|exact Or.inr rfl),rfl⟩,trivial⟩) UN jJ (λ_ _ _ _=>⟨(qj (i:=0) (show (N6++(mX:List Str):List Str).Nodup from by decide +kernel) rfl aB),(q3W (q3y (XE.toV LV) (XE.toV (Y6 ju aj)))),cB⟩))
   (qT 4 (qc (qh (xc c54 hr (Y1 bj (Y1 (XE.toD (qD iu nU)) Y5))))))))))
 exact h
noncomputable def q1q:FD:=(dOf (XB oLt aw bG))
noncomputable def q1B:FS:=(Xk (Xx zAr (Y2 (vOf (Xo 2 [] (iZp (Y2 (dOf (XB X3 (vOf (Ww (Y2 aK XF))) aw)) fZ)) Ov Xm q1q)) XF)))
noncomputable def q0a:List D->Option O:=mir 1 q1B
noncomputable abbrev q1D:vp:=top 50
theorem q77:FnScope abj abj (Y7 q1D):=ah
include z19 z26 in
theorem q6v(F:Fun K "rise_from_one" "rise_from_one" q1D f fd):FnOk P w K mg base CX0 1 f fd abj (spD K 1 q0a):=by
 have h:=fnD (P:=P) (w:=w) (mg:=mg) (base:=base) (k:=0) (body:=q1B) F q77 (λcdv A outer s H E hr=>
   (qc (qh (qt Cw q2Z rfl z19 q37 (ql (XE.toV (qJ rfl (blk IM [] [] rfl ⋯ ⋯ rfl trivial) (q7g rfl z26 (Y1 (XE.toD (qD (XE.toV (Xn Hr)) cZ)) ga)) oU (λ_ _ _ _=>⟨(q2N rfl (qN (qj (i:=0) (show ((IM:List Str)++da:List Str).Nodup from by decide +kernel) rfl aB) (qN (qj (i:=1) (show ((IM:List Str)++da:List Str).Nodup from by decide +kernel) rfl aB) q1V))),qC,(XE.toD (qkB cZ ju))⟩))) qp)))))
 exact h
noncomputable def q2B:FD:=(dOf (XC q1N Ms))
noncomputable def q2t:FD:=eT
noncomputable def q32:FS:=(XR Dp
  (XR abm
  (XR (Xl 5 (eOf U1))
  (XR (Xl 6 (eOf U2))
  (XR (sIf (Xy (Wl (vOf (Xx zAr (Y2 (vOf (Xo 1 [4,5,6] Jm fG Xm q2B)) XF))))) bf WI)
  (Xk (XC q0a (Y2 (dOf (Xo 1 [] Jm fG Xm q2t)) XF))))))))
noncomputable def q16:List D->Option O:=mir 7 q32
noncomputable abbrev q3m:vp:=top 51
theorem q1y:FnScope ["home", "last", "boxes", "thing", "places", "ties", "edges"] cM (Y7 q3m):=ah
variable{fc55:vH}{dc55:vS}(c55:Cal P w K mg base 5 fc55 dc55 "is_level" ["thing", "places", "ties", "edges"] 4 q1N)
variable{fc56:vH}{dc56:vS}(c56:Cal P w K mg base 1 fc56 dc56 "rise_from_one" ["bounds"] 1 q0a)
include z0 z18 z19 z20 c25 c45 c46 c55 c56 in
theorem q8S(F:Fun K "are_levels" "are_levels" q3m f fd):FnOk P w K mg base CX0 9 f fd cM (spD K 4 q16):=by
 have h:=fnD (P:=P) (w:=w) (mg:=mg) (base:=base) (k:=8) (body:=q32) F q1y (λcdv A outer s H E hr=>
   (qb oJ
   (qb (qm (i:=4) q1y.nd rfl (Or.inr rfl) Rp)
   (qb (qm (i:=5) q1y.nd rfl (Or.inr rfl) (XD.toE OB))
   (qb (qm (i:=6) q1y.nd rfl (Or.inr rfl) (XD.toE OC))
   (qb (qw (qO (qE (XE.toV (qt Cw q2Z rfl z19 q37 (ql (XE.toV (qJ rfl (blk Qb M6 [4,5,6] rfl ⋯ ⋯ rfl ⟨⟨rfl,(by first|exact Or.inl rfl|exact Or.inr rfl),rfl⟩,⟨⟨rfl,(by first|exact Or.inl rfl|exact Or.inr rfl),rfl⟩,⟨⟨rfl,(by first|exact Or.inl rfl|exact Or.inr rfl),rfl⟩,trivial⟩⟩⟩) UN jJ (λ_ _ _ _=>⟨(qj (i:=0) (show ((Qb:List Str)++(M6:List Str):List Str).Nodup from by decide +kernel) rfl aB),qC,(XE.toD (xc c55 hr Mw))⟩))) qp))))) bO qr)
   (qc (qh (xc c56 hr (Y1 (XE.toD (qJ rfl (blk Qb [] [] rfl ⋯ ⋯ rfl trivial) UN jJ (λ_ _ _ _=>⟨(qj (i:=0) (show ((Qb:List Str)++da:List Str).Nodup from by decide +kernel) rfl aB),qC,bj⟩))) Y5))))))))))
 exact h
noncomputable def q3R:FS:=(XR UC
  (XR (sIf (zAy (Xy (Wl (vOf (zAp .tup bE)))) (tOf (XB km (vOf (Xx Wj Mt)) cI))) bf WI)
  (Xk (eOf (zAm (dOf (XC q0W (Y2 (dOf MC) (Y2 U3 XF)))) (dOf (XC q16 (Y2 bh (Y2 bn (Y2 cQ (Y2 Ra XF)))))))))))
noncomputable def q1f:List D->Option O:=mir 4 q3R
noncomputable abbrev q3G:vp:=top 52
theorem qaS:FnScope cM cM (Y7 q3G):=ah
variable{fc57:vH}{dc57:vS}(c57:Cal P w K mg base 9 fc57 dc57 "are_levels" ["home", "last", "boxes", "thing"] 4 q16)
variable{fc58:vH}{dc58:vS}(c58:Cal P w K mg base 3 fc58 dc58 "are_counts" ["thing", "wanted"] 2 q0W)
variable{fc59:vH}{dc59:vS}(c59:Cal P w K mg base 7 fc59 dc59 "counts_of" ["home", "last", "boxes"] 3 q0L)
include z0 z14 z15 z16 c22 c57 c58 c59 in
theorem q9I(F:Fun K "is_reason" "is_reason" q3G f fd):FnOk P w K mg base CX0 10 f fd cM (spD K 4 q1f):=by
 have h:=fnD (P:=P) (w:=w) (mg:=mg) (base:=base) (k:=9) (body:=q3R) F qaS (λcdv A outer s H E hr=>
   (qb Q0
   (qb (qw (XW.toT (q1g (qO (qE (XE.toV (q0f iR z16 rfl z0 rfl z15 q4E)))) (q2V (zAa hr.units (XE.toV Ir) aj)))) bO qr)
   (qc (qh (XD.toE (q06 (XE.toD (xc c58 hr (Y1 mU (Y1 Oz Y5)))) (q0P (XE.toD (xc c57 hr (Y1 cB (Y1 mM (Y1 mL (Y1 mU Y5))))))))))))))
 exact h
noncomputable def q2T:FS:=(Xk (XB zBZ (vOf Aq) (vOf (XB X3 (vOf (XB X3 (vOf acF) (vOf (XB oIx aw fL)))) (vOf (Xx zCI (Y2 bG XF)))))))
noncomputable def q0Q:List D->Option O:=mir 2 q2T
noncomputable abbrev q3e:vp:=top 53
theorem qaG:FnScope md md (Y7 q3e):=ah
include z44 in
theorem q8Q(F:Fun K "gap_weight" "gap_weight" q3e f fd):FnOk P w K mg base CX0 1 f fd md (spD K 2 q0Q):=by
 have h:=fnD (P:=P) (w:=w) (mg:=mg) (base:=base) (k:=0) (body:=q2T) F qaG (λcdv A outer s H E hr=>
   (qc (qh (q5d (XE.toV (q0E kz kz)) (XE.toV (qD (XE.toV (qD kz kz)) (XE.toV (qt q4z q6L rfl z44 q6U (ql ju qp)))))))))
 exact h
noncomputable def q4M:FD:=(dOf (XC q0Q hZ))
noncomputable def q6t:FS:=(XR (sIf (Xy (Wl (vOf (XC q1f Ms)))) sNo WI)
  (XR (Xl 4 (Xo 2 [] (iZp (Y2 (dOf MC) AV)) Ov Xm q4M))
  (X1 4 (Xk (XB X3 (vOf (Xx zDB (Y2 cG XF))) (vOf (XB zBZ cI (vOf (XC q2n (Y2 Ra (Y2 aG XF)))))))))))
noncomputable def q3r:List D->Option O:=mir 5 q6t
noncomputable abbrev q6i:vp:=top 54
theorem q9X:FnScope ["home", "last", "boxes", "thing", "crossings"] cM (Y7 q6i):=ah
variable{fc60:vH}{dc60:vS}(c60:Cal P w K mg base 10 fc60 dc60 "is_reason" ["home", "last", "boxes", "thing"] 4 q1f)
variable{fc61:vH}{dc61:vS}(c61:Cal P w K mg base 1 fc61 dc61 "gap_weight" ["count", "lack"] 2 q0Q)
variable{fc62:vH}{dc62:vS}(c62:Cal P w K mg base 1 fc62 dc62 "weighed" ["levels", "rest"] 2 q2n)
variable(z63:mg "sum" = none)
include z26 c33 c60 c61 c62 z63 in
theorem qeo(F:Fun K "weight" "weight" q6i f fd):FnOk P w K mg base CX0 11 f fd cM (spD K 4 q3r):=by
 have h:=fnD (P:=P) (w:=w) (mg:=mg) (base:=base) (k:=10) (body:=q6t) F q9X (λcdv A outer s H E hr=>
   (qb (qw (qO (qE (XE.toV (xc c60 hr Mw)))) QZ qr)
   (qb (q1Y (i:=4) rfl q9X.nd rfl rfl (blk md [] [] rfl ⋯ ⋯ rfl trivial) (q7g rfl z26 (Y1 mU oW)) oU (λ_ _ _ _=>⟨(q2N rfl (qN (qj (i:=0) (show ((md:List Str)++da:List Str).Nodup from by decide +kernel) rfl aB) (qN (qj (i:=1) (show ((md:List Str)++da:List Str).Nodup from by decide +kernel) rfl aB) q1V))),qC,(XE.toD (xc c61 hr pN))⟩))
   (qT 4 (qc (qh (qD (XE.toV (qt aaX q9W rfl z63 q9a (ql nU qp))) (XE.toV (q5d aj (XE.toV (xc c62 hr (Y1 mU Hr))))))))))))
 exact h
noncomputable def q65:FS:=(XR (Xl 3 (eOf (dOf (XC q1P (Y2 Bf AW)))))
  (Xk (eOf (zAA (Y2 U3 Dw)))))
noncomputable def q2W:List D->Option O:=mir 4 q65
noncomputable abbrev q6c:vp:=top 55
theorem q9h:FnScope ["home", "last", "boxes", "bounds"] au (Y7 q6c):=ah
variable{fc64:vH}{dc64:vS}(c64:Cal P w K mg base 5 fc64 dc64 "levels" ["things", "knots", "edges"] 3 q1P)
include c25 c45 c46 c59 c64 in
theorem qeD(F:Fun K "reason" "reason" q6c f fd):FnOk P w K mg base CX0 9 f fd au (spD K 3 q2W):=by
 have h:=fnD (P:=P) (w:=w) (mg:=mg) (base:=base) (k:=8) (body:=q65) F q9h (λcdv A outer s H E hr=>
   (qb (qm (i:=3) q9h.nd rfl (Or.inl rfl) (XD.toE (XE.toD (xc c64 hr (Y1 nG oV)))))
   (qc (qh (XD.toE (Xp (Y1 Oz Dx)))))))
 exact h
noncomputable def q7y:FS:=(Xk (XC q3r (Y2 bh (Y2 bn (Y2 cQ (Y2 (dOf (XC q2W ai)) XF))))))
noncomputable def q3T:List D->Option O:=mir 3 q7y
noncomputable abbrev q7B:vp:=top 56
theorem qhW:FnScope au au (Y7 q7B):=ah
variable{fc65:vH}{dc65:vS}(c65:Cal P w K mg base 11 fc65 dc65 "weight" ["home", "last", "boxes", "thing"] 4 q3r)
variable{fc66:vH}{dc66:vS}(c66:Cal P w K mg base 9 fc66 dc66 "reason" ["home", "last", "boxes"] 3 q2W)
include c65 c66 in
theorem qfW(F:Fun K "least" "least" q7B f fd):FnOk P w K mg base CX0 12 f fd au (spD K 3 q3T):=by
 have h:=fnD (P:=P) (w:=w) (mg:=mg) (base:=base) (k:=11) (body:=q7y) F qhW (λcdv A outer s H E hr=>
   (qc (qh (xc c65 hr (Y1 cB (Y1 mM (Y1 mL (Y1 (XE.toD (xc c66 hr ar)) Y5))))))))
 exact h
noncomputable def q24:FS:=(XR (sIf (tOf (XB oLt bG jX)) (Xk (XB oIx aw bG)) WI)
  (Xk (eOf aK)))
noncomputable def q02:List D->Option O:=mir 2 q24
noncomputable abbrev q1T:vp:=top 58
theorem q7I:FnScope Mp Mp (Y7 q1T):=ah
include z14 in
theorem q71(F:Fun K "_law_cell_at" "_law_cell_at" q1T f fd):FnOk P w K mg base CX0 1 f fd Mp (spD K 2 q02):=by
 have h:=fnD (P:=P) (w:=w) (mg:=mg) (base:=base) (k:=0) (body:=q24) F q7I (λcdv A outer s H E hr=>
   (qb (qw (q3y ju dZ) (qc (qh (Y6 cZ ju))) qr)
   (qc (qh Rq))))
 exact h
noncomputable def q4L:FS:=oo
noncomputable def q1L:List D->Option O:=mir 1 q4L
noncomputable abbrev q3j:vp:=top 59
theorem q9R:FnScope ["found"] ["found"] (Y7 q3j):=ah
include z0 z9 z10 z11 z12 in
theorem q8H(F:Fun K "_law_whole" "_law_whole" q3j f fd):FnOk P w K mg base CX0 1 f fd ["found"] (spD K 1 q1L):=by
 have h:=fnD (P:=P) (w:=w) (mg:=mg) (base:=base) (k:=0) (body:=q4L) F q9R (λcdv A outer s H E hr=>
   gU)
 exact h
noncomputable def q3n:FS:=(XR (sIf (tOf (XB b9 PN aK)) (Xk (XB zA8 (vOf (XB oMod DM (fC (.int 19)))) NK)) WI)
  (XR (sIf (tOf (XB b9 PN aG)) (Xk (XB zA8 (vOf (XB oMod DM (fC (.int 2001)))) (fC (.int 1000)))) WI)
  (Xk (XB zA8 (vOf (XB oMod DM (vOf (XB X3 (vOf (XB zBZ cI BP)) aG)))) BP))))
noncomputable def q0v:List D->Option O:=mir 1 q3n
noncomputable abbrev q3d:vp:=top 60
theorem q9o:FnScope ["cell"] ["cell"] (Y7 q3d):=ah
theorem q8R(F:Fun K "_law_place" "_law_place" q3d f fd):FnOk P w K mg base CX0 1 f fd ["cell"] (spD K 1 q0v):=by
 have h:=fnD (P:=P) (w:=w) (mg:=mg) (base:=base) (k:=0) (body:=q3n) F q9o (λcdv A outer s H E hr=>
   (qb jj
   (qb jj
   (qc (qh (q0E (XE.toV (qH Sv (XE.toV (qD (XE.toV (q5d aj Rn)) aj)))) Rn))))))
 exact h
noncomputable def q48:FD:=(dOf (XC q0v (Y2 (dOf (XC q02 (Y2 bn (Y2 (dOf (XB X3 aG aw)) XF)))) XF)))
noncomputable def q25:FS:=(XR (Xl 7 (eOf (dOf (XB oIx cG (vOf (XB oMod fP bE))))))
  (XR (Xl 8 (eOf (dOf (XB oIx cG (vOf (XB oMod (vOf (XB oDiv fP bE)) bE))))))
  (XR (sIf QV (zCZ 5 (zAA (Y2 IJ (Y2 II XF)))) WI)
  (sIf (zA1 QV (zAy (tOf (XB b9 rj aG)) (zA1 (tOf (XB b9 rj cI)) (tOf (XB b9 (vOf (XB oMod (vOf (XB oDiv fP act)) cI)) aG))))) (zCZ 5 (zAA (Y2 II (Y2 IJ XF)))) WI))))
noncomputable def q2o:FS:=(XR (Xl 2 (eOf (dOf (XB oMod (vOf (XB zBZ (vOf (XC q02 (Y2 bh (Y2 aK XF)))) (fC (.int 48271)))) (fC (.int 65537))))))
  (XR (Xl 3 (eOf (dOf (XB zA8 Bz (vOf (XB oMod aN Bz))))))
  (XR (Xl 4 (Xo 1 [0] (iRg1 Mt) fG Xm q48))
  (X1 4 (XR (Xl 5 Ab)
  (XR (zAO (X7 (dOf (fSl aw (pAt NK) (pAt (vOf (XB X3 NK (vOf (XB oIx (vOf (Ww (Y2 bn (Y2 fL (Y2 aG (Y2 (fC (.int 5)) (Y2 aK (Y2 cI (Y2 bn (Y2 p6 XF)))))))))) (vOf (XB oMod (vOf (XB oDiv aN (fC (.int 512)))) Bz)))))))))) (gN 6) q25)
  (XR (Xl 9 (eOf (dOf (XB oIx cG (vOf (XB oMod (vOf (XB oDiv aN Bz)) bE))))))
  (XR (sIf (tOf (XB b9 (vOf (XB oMod (vOf (XB oDiv aN (fC (.int 12288)))) cI)) aK)) (X1 5 (Xk (eOf (zAA (Y2 IH (Y2 IH (Y2 fR XF))))))) WI)
  (X1 5 (Xk (eOf (zAA (Y2 IH (Y2 (dOf (XB oIx cG (vOf (XB oMod (vOf (XB oDiv aN act)) bE)))) (Y2 fR XF)))))))))))))))
noncomputable def q0D:List D->Option O:=mir 10 q2o
noncomputable abbrev q2s:vp:=top 61
theorem qM:FnScope ["script", "most", "head", "many", "spots", "boxes", "cell", "one", "other", "home"] aan (Y7 q2s):=ah
variable{fc67:vH}{dc67:vS}(c67:Cal P w K mg base 1 fc67 dc67 "_law_cell_at" ["script", "k"] 2 q02)
variable{fc68:vH}{dc68:vS}(c68:Cal P w K mg base 1 fc68 dc68 "_law_place" ["cell"] 1 q0v)
variable(z69:mg "range" = none)
include z14 c67 c68 z69 in
theorem q7O(F:Fun K "_law_errand" "_law_errand" q2s f fd):FnOk P w K mg base CX0 2 f fd aan (spD K 2 q0D):=by
 have h:=fnD (P:=P) (w:=w) (mg:=mg) (base:=base) (k:=1) (body:=q2o) F qM (λcdv A outer s H E hr=>
   (qb (qm (i:=2) qM.nd rfl (Or.inl rfl) (XD.toE (XE.toD (qH (XE.toV (q5d (XE.toV (xc c67 hr (Y1 cB Hr))) aj)) aj))))
   (qb (qm (i:=3) qM.nd rfl (Or.inl rfl) (XD.toE (XE.toD (q0E aj (XE.toV (qH iu aj))))))
   (qb (q1Y (i:=4) rfl qM.nd rfl rfl (blk ["k"] Er [0] rfl ⋯ ⋯ rfl ⟨⟨rfl,(by first|exact Or.inl rfl|exact Or.inr rfl),rfl⟩,trivial⟩) (qeJ rfl z69 To) jJ (λ_ _ _ _=>⟨(qj (i:=0) (show ((["k"]:List Str)++(Er:List Str):List Str).Nodup from by decide +kernel) rfl aB),qC,(XE.toD (xc c68 hr (Y1 (XE.toD (xc c67 hr (Y1 mM (Y1 (XE.toD (qD aj cZ)) Y5)))) Y5)))⟩))
   (qT 4 (qb (qm (i:=5) qM.nd rfl (Or.inl rfl) r8)
   (qb (qX PassesOwn.never rfl (qu (XE.toD (WH cZ Pi (WE (XE.toV (qD aj (XE.toV (Y6 (XE.toV (Xn (Y1 mM (Y1 Y4 (Y1 Y4 (Y1 Y4 (Y1 Y4 (Y1 Y4 (Y1 mM Hr))))))))) gY)))))))) (qj (i:=6) qM.nd rfl aB) (qb (qm (i:=7) qM.nd rfl (Or.inl rfl) (XD.toE (XE.toD (Y6 nU (XE.toV (qH B5 iR))))))
   (qb (qm (i:=8) qM.nd rfl (Or.inl rfl) (XD.toE (XE.toD (Y6 nU (XE.toV (qH (XE.toV (qV B5 iR)) iR))))))
   (qb (qw (q3y kq ju) (qc (q3l Tt (Xp (Y1 (vD 7) acy)))) qr)
   (qc (qw (XW.toT (q6P (q3y kq ju) (q5z (XW.toT (q1g FZ (q2V (XW.toT (q6P FZ (q5z (Wi hr.units (XE.toV (qH (XE.toV (qV B5 aj)) aj)) aj)))))))))) (qc (q3l Tt (Xp (Y1 (vD 8) acz)))) qr))))))
   (qb (qm (i:=9) qM.nd rfl (Or.inl rfl) (XD.toE rG))
   (qb (qw FZ (qT 5 (qc (qh (XD.toE (Xp (Y1 (vD 9) (Y1 (vD 9) (Y1 AM Y5)))))))) qr)
   (qT 5 (qc (qh (XD.toE (Xp (Y1 (vD 9) (Y1 rG (Y1 AM Y5)))))))))))))))))
 exact h
noncomputable def q3J:FS:=(XR (sIf (tOf (XB b9 aw bG)) (Xk Ab) WI)
  (Xk (Ww (Y2 (zAA (Y2 (fC gZ) hZ)) XF))))
noncomputable def q0m:List D->Option O:=mir 2 q3J
noncomputable abbrev q3I:vp:=top 62
theorem qb5:FnScope JU JU (Y7 q3I):=ah
theorem qat(F:Fun K "_law_gone" "_law_gone" q3I f fd):FnOk P w K mg base CX0 1 f fd JU (spD K 2 q0m):=by
 have h:=fnD (P:=P) (w:=w) (mg:=mg) (base:=base) (k:=0) (body:=q3J) F qb5 (λcdv A outer s H E hr=>
   (qb (qw (Wi hr.units cZ ju) (qc (qh r8)) qr)
   (qc (qh (Xn (Y1 (Xp (Y1 Wy pN)) Y5))))))
 exact h
noncomputable def q3k:FS:=(Xk (XB X3 (vOf (XC q0m (Y2 bn (Y2 Rb XF)))) (vOf (Ww (Y2 (zAA (Y2 U0 (Y2 cQ (Y2 Rb (Y2 (dOf (XB oIx Ex aG)) XF))))) XF)))))
noncomputable def q0n:List D->Option O:=mir 3 q3k
noncomputable abbrev q31:vp:=top 63
theorem qaf:FnScope DT DT (Y7 q31):=ah
variable{fc70:vH}{dc70:vS}(c70:Cal P w K mg base 1 fc70 dc70 "_law_gone" ["here", "there"] 2 q0m)
include c70 in
theorem q8E(F:Fun K "_law_taken" "_law_taken" q31 f fd):FnOk P w K mg base CX0 2 f fd DT (spD K 3 q0n):=by
 have h:=fnD (P:=P) (w:=w) (mg:=mg) (base:=base) (k:=1) (body:=q3k) F qaf (λcdv A outer s H E hr=>
   (qc (qh (qD (XE.toV (xc c70 hr (Y1 mM (Y1 mV Y5)))) (XE.toV (Xn (Y1 (Xp (Y1 Wy (Y1 mL (Y1 mV (Y1 mV Y5))))) Y5)))))))
 exact h
noncomputable def q2q:FS:=(XR abl
  (XR (sIf (zA1 (tOf (XB b9 (vOf (XB oMod mJ cI)) aK)) (tOf (XB km fP (vOf Ab)))) (XR (zAs 9 (mPop 6 (dOf (XB oMod (vOf (XB oDiv mJ cI)) (vOf (Xx Wj (Y2 fP XF)))))))
  (XR k7
  (XR oN
  abl))) (sIf (zA1 (tOf (XB b9 PM aG)) (tOf (XB km aN (vOf Ab)))) (Xl 8 (eOf (dOf (XB oIx (vOf (XB oIx aN (vOf (XB oMod (vOf (XB oDiv mJ Bz)) ee)))) (vOf (XB oMod (vOf abn) cI)))))) (sIf (tOf (XB b9 PM fL)) (Xl 8 (eOf (dOf (XC q0v (Y2 (dOf abn) XF))))) WI)))
  (XR (Xl 4 (eOf (dOf (XB X3 cG (vOf (XC q0m (Y2 fR (Y2 II XF))))))))
  (Xl 5 (eOf II)))))
noncomputable def q2w:FS:=(XR k7
  oN)
noncomputable def q3o:FS:=(XR (Xl 4 (eOf (dOf Ab)))
  (XR (Xl 5 (eOf bh))
  (XR (Xl 6 Sq)
  (XR (zAO Jm (gN 7) q2q)
  (X1 6 (XR (zAO (X7 oK) (gN 9) q2w)
  (Xk (XB X3 cG (vOf (XC q0m (Y2 fR ig)))))))))))
noncomputable def q0Z:List D->Option O:=mir 10 q3o
noncomputable abbrev q3a:vp:=top 64
theorem qv:FnScope ["home", "last", "boxes", "cells", "moves", "here", "left", "cell", "there", "k"] IL (Y7 q3a):=ah
variable{fc71:vH}{dc71:vS}(c71:Cal P w K mg base 2 fc71 dc71 "_law_taken" ["boxes", "here", "k"] 3 q0n)
include z14 z18 c68 z69 c70 c71 in
theorem q8G(F:Fun K "_law_drawn" "_law_drawn" q3a f fd):FnOk P w K mg base CX0 3 f fd IL (spD K 4 q0Z):=by
 have h:=fnD (P:=P) (w:=w) (mg:=mg) (base:=base) (k:=2) (body:=q3o) F qv (λcdv A outer s H E hr=>
   (qb (qm (i:=4) qv.nd rfl (Or.inl rfl) (XD.toE (XE.toD r8)))
   (qb (qm (i:=5) qv.nd rfl (Or.inl rfl) (XD.toE cB))
   (qb (qm (i:=6) qv.nd rfl (Or.inl rfl) Iu)
   (qb (qX PassesOwn.never rfl (qu mK) (qj (i:=7) qv.nd rfl aB) (qb Am
   (qb (qw (XW.toT (q6P lH (q5z (zAa hr.units B5 Rm)))) (qb (qc4 (i:=9) qv.nd rfl (Or.inl rfl) (qk1 (pv 6) (XE.toD (qH Ci (XE.toV (qt qq qG rfl z14 qF (ql B5 qp)))))))
   (qb gB
   (qb kI
   (qc Am)))) (qc (qw (XW.toT (q6P lH (q5z (zAa hr.units iu Rm)))) (qc (qm (i:=8) qv.nd rfl (Or.inl rfl) (XD.toE (XE.toD (Y6 (XE.toV (Y6 iu (XE.toV (qH Ci nZ)))) (XE.toV (qH Ci aj))))))) (qc (qw lH (qc (qm (i:=8) qv.nd rfl (Or.inl rfl) (XD.toE (XE.toD (xc c68 hr (Y1 (XE.toD ace) Y5)))))) qr)))))
   (qb (qm (i:=4) qv.nd rfl (Or.inl rfl) (XD.toE (XE.toD (qD nU (XE.toV (xc c70 hr (Y1 AM acy)))))))
   (qc (qm (i:=5) qv.nd rfl (Or.inl rfl) (XD.toE (vD 8))))))))
   (qT 6 (qb (qX PassesOwn.never rfl (qu MZ) (qj (i:=9) qv.nd rfl aB) (qb gB
   (qc kI)))
   (qc (qh (qD nU (XE.toV (xc c70 hr (Y1 AM dD)))))))))))))
 exact h
noncomputable def q0M:FS:=(sIf (Xy (Wl (vOf (XC q1L Dw)))) bf WI)
noncomputable def q1R:FS:=(XR (sIf (zAy (Xy (Wl (vOf (zAp .tup aN)))) (zAy (tOf (XB oLt ee fL)) (Xy (Wl (vOf (zAp .str pV)))))) bf WI)
  (XR (zAO (X7 (dOf (fSl aN (pAt aG) pNo))) (gN 3) q0M)
  (XR (sIf (tOf (XB b9 pV (fC gZ))) (Xk (eOf (zAm (dOf (XB b9 ee fL)) (zAm (dOf (XB b9 l7 bG)) (dOf (XB km (vOf MD) bG)))))) WI)
  (XR (sIf (zAy (tOf (XB km pV U0)) (zAy (tOf (XB km ee p6)) (zAy (tOf (XB oLt l7 aK)) (tOf (XB oGe l7 jX))))) bf WI)
  (Xk (eOf (zAm (dOf (XB b9 (vOf MD) bG)) (dOf (XB b9 (vOf (XB oIx aw l7)) (zAA (Y2 (dOf MD) (Y2 (dOf (XB oIx aN fL)) XF))))))))))))
noncomputable def q0x:List D->Option O:=mir 4 q1R
noncomputable abbrev q2d:vp:=top 65
theorem q3Y:FnScope ["boxes", "here", "move", "part"] Oy (Y7 q2d):=ah
variable{fc72:vH}{dc72:vS}(c72:Cal P w K mg base 1 fc72 dc72 "_law_whole" ["found"] 1 q1L)
variable(z73:mg "str" = none)
variable(z74:IsT K .str)
include z0 z14 z15 z16 c72 z73 z74 in
theorem q79(F:Fun K "_law_is_move" "_law_is_move" q2d f fd):FnOk P w K mg base CX0 2 f fd Oy (spD K 3 q0x):=by
 have h:=fnD (P:=P) (w:=w) (mg:=mg) (base:=base) (k:=1) (body:=q1R) F q3Y (λcdv A outer s H E hr=>
   (qb (qw (XW.toT (q1g (qO (qE (XE.toV (q0f iu z16 rfl z0 rfl z15 q4E)))) (q1g (q3y nZ aj) (q2V (qO (qE (XE.toV (q0f cr z74 rfl z0 rfl z73 qkj)))))))) bO qr)
   (qb (qX PassesOwn.never rfl (qu (XE.toD (WH iu Pi zAV))) (qj (i:=3) q3Y.nd rfl aB) (qc (qw (qO (qE (XE.toV (xc c72 hr Dx)))) bO qr)))
   (qb (qw (Wi hr.units cr Ro) (qc (qh (XD.toE (q06 (XE.toD (Wm hr.units nZ aj)) (q06 K2 (q0P (XE.toD (xe_ne hr.units cr ju)))))))) qr)
   (qb (qw (XW.toT (q1g (zAa hr.units cr Ro) (q1g (zAa hr.units nZ aj) (q1g (q3y cr aj) (q2V (qkF cr dZ)))))) bO qr)
   (qc (qh (XD.toE (q06 K2 (q0P (XE.toD (Wm hr.units (XE.toV (Y6 cZ cr)) (XD.toV (Xp (Y1 SB (Y1 SB Y5))))))))))))))))
 exact h
noncomputable def qY:FS:=(XR (sIf (Xy (Wl (vOf (XC q0x (Y2 cQ (Y2 iy (Y2 oK XF))))))) bf WI)
  (XR (sIf (tOf (XB b9 (vOf (XB oIx fP aK)) U0)) (XR (sIf (tOf (XB (oIn true) (vOf acC) dS)) bf WI)
  (sRem 5 (dOf acC))) WI)
  (Xl 4 (eOf (dOf (XB oIx fP ab3))))))
noncomputable def q2c:FS:=(XR Dp
  (XR (Xl 4 (eOf bh))
  (XR (Xl 5 Sq)
  (XR (zAO Jm (gN 6) qY)
  (Xk (eOf (zAm (dOf (XB b9 dS (vOf Ab))) (dOf (XB b9 cG bG)))))))))
noncomputable def q0r:List D->Option O:=mir 7 q2c
noncomputable abbrev q1W:vp:=top 66
theorem q0y:FnScope ["home", "last", "boxes", "found", "here", "left", "move"] IK (Y7 q1W):=ah
variable{fc75:vH}{dc75:vS}(c75:Cal P w K mg base 2 fc75 dc75 "_law_is_move" ["boxes", "here", "move"] 3 q0x)
include z0 z14 z18 z20 z69 c75 in
theorem q6Y(F:Fun K "_law_is_tour" "_law_is_tour" q1W f fd):FnOk P w K mg base CX0 3 f fd IK (spD K 4 q0r):=by
 have h:=fnD (P:=P) (w:=w) (mg:=mg) (base:=base) (k:=2) (body:=q2c) F q0y (λcdv A outer s H E hr=>
   (qb oJ
   (qb (qm (i:=4) q0y.nd rfl (Or.inl rfl) (XD.toE cB))
   (qb (qm (i:=5) q0y.nd rfl (Or.inl rfl) Iu)
   (qb (qX PassesOwn.never rfl (qu mK) (qj (i:=6) q0y.nd rfl aB) (qb (qw (qO (qE (XE.toV (xc c75 hr (Y1 mL (Y1 B6 (Y1 MZ Y5))))))) bO qr)
   (qb (qw (Wi hr.units SA Ro) (qb (qw (zCR SA E6) bO qr)
   (qc (qjH Tt (XE.toD (Y6 B5 aj))))) qr)
   (qc (qm (i:=4) q0y.nd rfl (Or.inl rfl) (XD.toE (XE.toD (Y6 B5 Vc))))))))
   (qc (qh (XD.toE (q06 (XE.toD (Wm hr.units E6 Rm)) (q0P (XE.toD (Wm hr.units nU ju))))))))))))
 exact h
noncomputable def qad:FD:=jg
noncomputable def q9y:FD:=jg
noncomputable def qdf:FS:=(XR (sAsg (dOf (XC q0D (Y2 bh (Y2 (fC (.int 14)) XF)))) (gT 3 (Xb (gN 1) Ap)))
  (XR (Xl 4 (eOf (dOf (XC q5b AC))))
  (XR (sIf (Xy (Wl (vOf (XC q0r (Y2 bn (Y2 cQ (Y2 cP (Y2 iy XF)))))))) bf WI)
  (XR (Xl 5 (eOf (dOf (Xx zDB (Y2 (vOf (Xo 1 [] (X7 iy) fG Xm qad)) XF)))))
  (XR (Xl 6 (eOf (dOf (XC q0Z (Y2 bn (Y2 cQ (Y2 cP (Y2 (dOf (fSl aw (pAt (fC (.int 23))) (pAt (fC (.int 63))))) XF))))))))
  (Xk (eOf (zAm (dOf (XB oLe dS (vOf (Xx zDB (Y2 (vOf (Xo 1 [] (X7 oK) fG Xm q9y)) XF))))) (dOf (XB b9 (vOf (XC q3T AC)) dS))))))))))
noncomputable def q5E:List D->Option O:=mir 7 qdf
noncomputable abbrev q5Q:vp:=top 67
theorem q4B:FnScope ["script", "home", "last", "boxes", "found", "long", "moves"] Er (Y7 q5Q):=ah
variable{fc76:vH}{dc76:vS}(c76:Cal P w K mg base 2 fc76 dc76 "_law_errand" ["script", "most"] 2 q0D)
variable{fc77:vH}{dc77:vS}(c77:Cal P w K mg base 10 fc77 dc77 "tour" ["home", "last", "boxes"] 3 q5b)
variable{fc78:vH}{dc78:vS}(c78:Cal P w K mg base 3 fc78 dc78 "_law_is_tour" ["home", "last", "boxes", "found"] 4 q0r)
variable{fc79:vH}{dc79:vS}(c79:Cal P w K mg base 3 fc79 dc79 "_law_drawn" ["home", "last", "boxes", "cells"] 4 q0Z)
variable{fc80:vH}{dc80:vS}(c80:Cal P w K mg base 12 fc80 dc80 "least" ["home", "last", "boxes"] 3 q3T)
include z18 z44 z63 c76 c77 c78 c79 c80 in
theorem qkg(F:Fun K "law" "law" q5Q f fd):FnOk P w K mg base CX0 13 f fd Er (spD K 1 q5E):=by
 have h:=fnD (P:=P) (w:=w) (mg:=mg) (base:=base) (k:=12) (body:=qdf) F q4B (λcdv A outer s H E hr=>
   (qb (qjO (XE.toD (xc c76 hr (Y1 cB Hr))) (q2N rfl (qN (qj (i:=1) q4B.nd rfl aB) (qN (qj (i:=2) q4B.nd rfl aB) (qN (qj (i:=3) q4B.nd rfl aB) q1V)))))
   (qb (qm (i:=4) q4B.nd rfl (Or.inl rfl) (XD.toE (XE.toD (xc c77 hr lK))))
   (qb (qw (qO (qE (XE.toV (xc c78 hr (Y1 mM (Y1 mL (Y1 mK (Y1 B6 Y5)))))))) bO qr)
   (qb (qm (i:=5) q4B.nd rfl (Or.inl rfl) (XD.toE (XE.toD (qt aaX q9W rfl z63 q9a (ql (XE.toV (qJ rfl (blk ["move"] [] [] rfl ⋯ ⋯ rfl trivial) (qu B6) jJ (λ_ _ _ _=>⟨(qj (i:=0) (show (Sn++da:List Str).Nodup from by decide +kernel) rfl aB),qC,gr⟩))) qp)))))
   (qb (qm (i:=6) q4B.nd rfl (Or.inl rfl) (XD.toE (XE.toD (xc c79 hr (Y1 mM (Y1 mL (Y1 mK (Y1 (XE.toD (WH cZ Pi Pi)) Y5))))))))
   (qc (qh (XD.toE (q06 (XE.toD (qcY E6 (XE.toV (qt aaX q9W rfl z63 q9a (ql (XE.toV (qJ rfl (blk ["move"] [] [] rfl ⋯ ⋯ rfl trivial) (qu MZ) jJ (λ_ _ _ _=>⟨(qj (i:=0) (show (Sn++da:List Str).Nodup from by decide +kernel) rfl aB),qC,gr⟩))) qp))))) (q0P (XE.toD (Wm hr.units (XE.toV (xc c80 hr lK)) E6)))))))))))))
 exact h
end
set_option compiler.extract_closed false
set_option hygiene false
local macro_rules|`(tactic| simp_arith $c:optConfig [$xs,*])=>`(tactic| simp $c only[qaB,q8V,qcb,qdK,qey,qc7,e_wd,qdG,e_wz,qfj,qej,qbW,qe8,qcr,qhf,qf4,qe9,qhA,qhi,qha,qex,qgZ,qct,qcu,qhq,qhj,qeA,qh4,qhE,qhb,qcy,qbk,q00,qbQ,qbC,qhB,qh7,qcF,qcx,e_if,qdw,qfb,qhk,qc1,qbJ,qfi,qbU,qh1,zCC,qgW,q9Q,q4N,qcs,qcI,qgX,e_fs,qh6,e_ag,e_gn,e_gt,e_gc,e_g0,qhd,qcp,qcl,e_c,e_e,e_ed,e_d,qbT,qca,e_v,qbZ,qc3,qbN,e_op,e_o2,qdR,e_cl,qcw,qbs,e_ac,e_ca,e_an,qhu,qh5,qhv,e_bl,qhx,e_sl,e_po,e_pa,e_ap,qhy,qdL,qdN,qhl,q8u,q8n,q8k,e_t,e_tr,qe4,e_ta,qho,qhh,e_to,qh8,qdJ,e_tn,qeO,qbV,q9j,qfm,e_va,qh3,qfr,qdv,qeK,qhz,qdD,Wk,qh0,e_ng,qcg,qcv,qby,qam,qci,qf8,qdT,qbt,qfp,qeX,qeL,qe6,qcJ,qgY,qhc,qhm,at0,at1,at2,q4a,q7Y,zCH,entry,yR,xB,zJ,xg,zA,zI,yb,ZU,yT,yV,wG,YC,YD,xN,xq,Nat.reduceSub,Nat.reduceAdd,Nat.reduceLT,Int.reduceLT,Int.reduceLE,Int.reduceSub,Int.reduceAdd,Int.reduceMul,Int.reduceMod,Int.reduceDiv,Int.reduceNeg,Int.reducePow,Int.reduceBEq,Yh,↓reduceIte,Z1,Yx,wq,ZO,wv,YQ,Z0,Bool.or_true,wZ,Ys,xU,beq_self_eq_true,yI,$xs,*])
set_option compiler.extract_closed true
set_option hygiene true
noncomputable def XJ(p:bi):D:=.tup Hj
theorem qbw{ns:af}{k:Int}(h:Vj):q02 [Bj,kD]=↥(.int (ns.getD k.toNat 0)):=by
 unfold q02 q24
 by_cases hk:k<ns.length
 ·simp_arith[hk,decide_true,q0V h hk]
  simp[zT,zD (show k.toNat<ns.length by omega)]
 ·simp_arith[hk,decide_false]
  simp[zT,z8 (show ns.length<=k.toNat by omega)]
noncomputable def place(c:Int):Int:=if c%3=0 then c/3%19-9 else if c%3=1 then c/3%2001-1000 else c/3%(2*10^39+1)-10^39
theorem q9e{c:Int}:q0v [.int c]=↥(.int (place c)):=by
 unfold q0v q3n;have h8:oPow (.int 10) (.int 39)=↥(.int (10^39)):=rfl;have h9:∀x,zBZ Um Kw=↥(.int (2*x)):=λx=>q9T (by decide) (by decide);unfold place
 by_cases a:c%3=0
 ·simp_arith[h8,h9,a]
 ·by_cases b:c%3=1
  ·simp_arith[h8,h9,b]
   rfl
  ·have a':(c%3==0)=false:=by simpa using a
   have b':(c%3==1)=false:=by simpa using b
   simp_arith[h8,h9,a',b',a,b]
theorem qiC{xs:af}{i:Int}(h0:0<=i)(h1:i<xs.length):∃y,atI iF i=some (.int y):=by
 rw[q0V h0 (by rw[zA];exact h1)];exact⟨_,by rw[xG]⟩
theorem q7d{xs:af}{c m:Int}(hm:0<m)(h1:aaT=m):∃y,atI iF (c%m)=some (.int y) :=
 qiC (Zn _ ∅) (by rw[h1];exact ZD _ hm)
theorem qkp{ds:aW}{i:Int}(P:D->Prop)(h0:0<=i)(h1:i<ds.length)(h:∀d∈ds,P d):∃d,atI ds i=some d/\P d :=
 ⟨_,q0V h0 h1,h _ (yQ _)⟩
theorem errand{ns:af}{most:Int}(h0:0<=most)(h1:most<=1000):∃(home last:Int) (bs:ae),q0D [Bj,OK]=↥(.tup [Na,Db,av])/\fm<=most:=by
 obtain⟨head,hh⟩:∃h,ns.getD 0 0*48271%65537=h:=bw;obtain⟨many,hm⟩:∃h,8-head%8=h:=bw;have hm0:0<many:=∅
 have hm8:many<=8:=∅
 have hmul:∀x:Int,zBZ Kw (.int 48271)=↥(.int (x*48271)):=λx=>q6q (by decide) (by decide);have hdm:∀x:Int,oDiv Kw LH=↥(.int (x/many)):=λx=>q7Y hm0 ∅;have hmm:∀x:Int,oMod Kw LH=↥(.int (x%many)):=λx=>q4a hm0;have hr:rg1I (some [LH])=some (upTo 0 many.toNat):=qkX ri;have hl:(upTo 0 many.toNat).length<=1000000:=by rw[qgD];omega
 unfold q0D q2o;have hc0:=qbw (ns:=ns) (k:=0) (by decide);simp_arith[hc0,hmul,hh,hm,hdm,hmm,hr,Kr,inW,Ws];rw[q3u (onI λk=>place Ot)]
 case h=>
  intro d hd;obtain⟨i,hi,rfl⟩:=qfw hd;unfold q48;simp_arith[qbw (ns:=ns) (k:=1+(0+rg)) ∅,q9e,onI]
 rw[qfN (λk=>place Ot)];generalize hsp:(YT (λi:Nat=>place (ns.getD (1+(0+rg)).toNat 0)) (za many.toNat))=spots;have hsl:(spots.length:Int)=many:=by rw[<- hsp,zA,zo];omega
 simp_arith[q00];have h8:0<=head/512%8/\head/512%8<8:=∅
 obtain⟨top,ht,_⟩:=qkp (ds:=[OK,.int 3,BY,.int 5,Pr,Um,OK,.int 4]) (i:=head/512%8) (λd=>∃k,d=D.int k) h8.1 h8.2 (by
  intro d hd;simp only[zH,zk,or_false]at hd;rcases hd with rfl|rfl|rfl|rfl|rfl|rfl|rfl|rfl <;> exact bw)
 obtain⟨k,rfl⟩:=‹∃k,top=D.int k›;simp_arith[ht,oSl];generalize cutD ns (some 9) (some (9+k))=cells;obtain⟨ω',e,bs,x6,x7,x8,rfl,hb⟩:=qgO (g:=gN 6) (b:=q25) lO
  (λpre ω=>∃(bs:ae) (x6 x7 x8:cb),ω=[↥Bj,↥OK,↥(.int head),↥LH,↥(.lst (spots.map D.int)),some (.ow mm),x6,x7,x8,none]/\fm<=most)
  (λpre d post ω hd ⟨bs,x6,x7,x8,hω,hb⟩=>by
   obtain⟨c,hc,rfl⟩:∃c,c∈cells/\D.int c=d:=by
    have:d∈cells.map D.int:=by rw[hd];simp
    obtain⟨c,h1,h2⟩:=zu.mp this;exact⟨c,h1,h2⟩
   subst hω;refine cn;obtain⟨one,h1⟩:=q7d (c:=c) hm0 hsl;obtain⟨other,h2⟩:=q7d (c:=c/many) hm0 hsl;unfold q25;have hlen:(bs.map XJ).length<1000000:=by rw[zA];omega
   simp_arith[hdm,hmm,h1,h2,zA,zCC hlen]
   by_cases hc1:fm<most
   ·simp_arith[hc1,decide_true,zCC hlen,zB,zA]
    have hlen2:(bs.map XJ++Ko).length<1000000:=by rw[zB,zA,zR];omega
    have e1:bs.map XJ++Ko=(bs++Pf).map XJ:=by rw[zX];rfl
    generalize hq:(decide (((bs.length+1:Nat):Int)<most)&&_)=q;cases q with
    | true=>
     have:=(wd.mp hq).1;have:=of_decide_eq_true this;simp_arith[zCC hlen2];refine⟨bs++Pf++[(other,one)],_,_,_,by rw[zX,<- e1];rfl,?_⟩;rw[zB,zB,zR,zR];omega
    | false=>
     simp_arith[q00];refine⟨bs++Pf,_,_,_,by rw[<- e1],?_⟩;rw[zB,zR];omega
   ·simp_arith[hc1,decide_false,wq]
    exact⟨bs,_,_,_,rfl,hb⟩)
  ⟨[],none,none,none,rfl,by simpa using h0⟩
 obtain⟨home,g1⟩:=q7d (c:=head/8) hm0 hsl;obtain⟨last,g2⟩:=q7d (c:=head/64) hm0 hsl;simp only[yb]at e;simp_arith[e,hdm,hmm,g1,g2]
 by_cases hq:head/12288%2=0
 ·simp_arith[hq]
  exact⟨home,home,bs,rfl,hb⟩
 ·have hq':(head/12288%2==0)=false:=by simpa using hq
  simp_arith[hq',hmm,hdm,g2];exact⟨home,last,bs,rfl,hb⟩
inductive Rch (es:List (Int×Int)) (a:Int):Int->Prop where
 | refl:Rch es a a
 | step {b c:Int}:Rch es a b->((b,c)∈es\/(c,b)∈es)->Rch es a c
theorem Rch.trans{es:ae}{a b c:Int}(h:Rch es a b)(h':Rch es b c):Rch es a c:=by
 induction h' with
 | refl=>exact h
 | step _ e ih=>exact ih.step e
theorem Rch.symm{es:ae}{a b:Int}(h:Rch es a b):Rch es b a:=by
 induction h with
 | refl=>exact .refl
 | step _ e ih=>exact(Rch.refl.step e.symm).trans ih
theorem Rch.inv{es:ae}{a:Int}(P:Int->Prop)(h0:P a)(hs:∀b c,P b->((b,c)∈es\/(c,b)∈es)->P c){c:Int}(h:abv):P c:=by
 induction h with
 | refl=>exact h0
 | step _ e ih=>exact hs _ _ ih e
theorem q6B{α β:Type}(f:R4):∀(ks:af)(xs:bB)(k:Int),Xe ks (xs.map f) k=(Xe ks xs k).map f
 | [],_,_=>rfl
 | _::_,[],_=>rfl
 | k'::ks,x::xs,k=>by
  show (if k'=k then some (f x)else Xe ks (xs.map f) k)=(if k'=k then some x else Xe ks xs k).map f
  by_cases z:k'=k
  ·rw[fQ,fQ];rfl
  ·rw[fI,fI,q6B f ks xs k]
theorem q3w{α:Type}:∀{ks:af}{xs:bB}{k:Int},ks.length=xs.length->(Xe ks xs k).isSome=decide (k∈ks)
 | [],[],_,_=>rfl
 | [],_::_,_,h=>by simp at h
 | _::_,[],_,h=>by simp at h
 | k'::ks,x::xs,k,h=>by
  show (if k'=k then some x else Xe ks xs k).isSome=_
  by_cases z:k'=k
  ·rw[fQ];simp[z]
  ·have z':¬k=k':=λy=>z y.symm
   rw[fI,q3w ⇑h];simp[z']
theorem q6K:∀(ks:af)(xss:ce)(a' b a:Int),Xe ks aaq a=(Xe ks xss a).map λxs=>if a=a' then xs++[b]else xs
 | [],_,_,_,_=>rfl
 | _::_,[],_,_,_=>rfl
 | k::ks,x::xss,a',b,a=>by
  unfold Wz
  by_cases z:k=a'
  ·rw[fQ]
   show (if k=a then some QK else Xe ks xss a)=(if k=a then some x else Xe ks xss a).map _
   by_cases y:k=a
   ·rw[JD,JD,xB,vF (y▸z)]
   ·rw[KG,KG]
    have:¬a=a':=λe=>y (z.trans e.symm);cases Xe ks xss a with
    | none=>rfl
    | some v=>rw[xB,vG this]
  ·rw[fI]
   show (if k=a then some x else Xe ks aaq a)=(if k=a then some x else Xe ks xss a).map _
   by_cases y:k=a
   ·have:¬a=a':=λe=>z (y.trans e)
    rw[JD,JD,xB,vG this]
   ·rw[KG,KG];exact q6K ks xss a' b a
theorem qi3(ts:af)(a:Int)(ha:a∈ts):∀(es:ae),∃xs,Xe ts (nbT ts es) a=some xs/\∀c,c∈xs↔((a,c)∈es\/(c,a)∈es):=by
 intro es;have key:∀(post pre:ae)(T:ce)(xs:af),Xe ts T a=some xs->(∀c,c∈xs↔((a,c)∈pre\/(c,a)∈pre))->∃xs',Xe ts (post.foldl Vg T) a=some xs'/\∀c,c∈xs'↔((a,c)∈pre++post\/(c,a)∈pre++post):=by
  intro post
  induction post with
  | nil=>intro pre T xs h1 h2;exact⟨xs,h1,by rw[zi];exact h2⟩
  | cons e post ih=>
   intro pre T xs h1 h2;have h3:Xe ts (Wb ts T e) a=some (let ys:=if a=e.1 then xs++[e.2]else xs;if a=e.2 then ys++[e.1]else ys):=by
    unfold Wb;rw[q6K,q6K,h1];rfl
   obtain⟨xs',g1,g2⟩:=ih (pre++[e]) (Wb ts T e) _ h3 (λc=>by
    obtain⟨e1,e2⟩:=e;have m:∀x y:Int,(x,y)∈pre++[(e1,e2)]↔(x,y)∈pre\/(x=e1/\y=e2):=λx y=>by simp
    rw[m,m]
    by_cases y1:a=e1 <;> by_cases y2:a=e2 <;> simp[y1,y2,h2] <;> (try subst y1) <;> (try subst y2) <;> simp_all <;> grind)
   refine⟨xs',g1,λc=>?_⟩;rw[g2,zL];rfl
 have h0:Xe ts Lr a=some []:=by
  have:(Xe ts Lr a).isSome=true:=by rw[q3w (by rw[zA]),vQ ha]
  obtain⟨x,hx⟩:=yu.mp this;rw[q6B]at hx ⊢;obtain⟨y,hy,e⟩:=wO.mp hx;rw[hy];rfl
 obtain⟨xs',g1,g2⟩:=key es [] _ [] h0 (by simp);exact⟨xs',g1,by simpa using g2⟩
structure Ok (ts:List Int) (es:List (Int×Int)):Prop where
 nd:ts.Nodup
 inn:∀e∈es,e.1∈ts/\e.2∈ts
 l1:ts.length<64
 l2:es.length<=1000
noncomputable def nbD(ts:af)(es:ae):List D:=(nbT ts es).map λxs=>.lst iF
theorem q8N{ts:af}{es:ae}(h:Kt):q1O [aP,b0]=↥cA:=by
 have hl:=h.l1;have e:nbM L1 Kk=some cA:=by
  unfold nbM;rw[q0g,q3D];exact vF ⟨h.nd,h.inn,∅,h.l2⟩
 show outM ((nbM L1 Kk).map _)=_;rw[e];rfl
theorem Rch.mem{ts:af}{es:ae}(h:Kt){a c:Int}(ha:a∈ts)(r:abv):c∈ts :=
 r.inv (λx=>x∈ts) ha λb c _ e=>by
  rcases e with e|e
  ·exact(h.inn _ e).2
  ·exact(h.inn _ e).1
noncomputable def Wc(F:af):List D:=F.map λ_=>.bl true
theorem q8g(F:af):F.length=(Wc F).length:=by unfold Wc;rw[zA]
theorem qbG{F:af}{c:Int}(h:c∉F):Wg F c=F++[c]/\putA F (Wc F) c cp=Wc (F++[c]):=by
 unfold Wg putA Wc;rw[vG h,vG h,zX];exact bY
theorem q18:∀{F ts:af},F.Nodup->(∀c∈F,c∈ts)->F.length<=ts.length
 | [],_,_,_=>yE _
 | a::r,ts,hn,hs=>by
  obtain⟨h1,h2⟩:=yW.mp hn;have ha:=hs a zE;have:=q18 (F:=r) (ts:=ts.erase a) h2 λc hc=>(List.mem_erase_of_ne (show c≠a from λz=>h1 (by rw[<- z];exact hc))).mpr (hs c VG);rw[List.length_erase_of_mem ha]at this;have hp:0<ts.length:=List.length_pos_of_mem ha;rw[zJ];omega
structure GI (ts:List Int) (es:List (Int×Int)) (a:Int) (F Wt:List Int):Prop where
 nd:F.Nodup
 st:a∈F
 wl:Wt.length<=F.length
 w:∀c∈Wt,c∈F
 r:∀c∈F,Rch es a c
 cl:∀b∈F,b∉Wt->∀c,((b,c)∈es\/(c,b)∈es)->c∈F
theorem qb9{ts:af}{es:ae}(h:Kt){a:Int}(ha:a∈ts):
  ∃F:List Int,q1A [bP,cA]=some (.fr nC)/\F.Nodup/\∀c,c∈F↔Rch es a c:=by
 unfold q1A q4w;simp_arith[q00];have hl1:=h.l1;obtain⟨ω',e,F,x4,x5,rfl,gi⟩:=qjk (fc:=q2e) (fb:=q3O) (n:=1000000)
  (λω=>∃(F Wt:af) (x4 x5:cb),ω=[↥bP,↥cA,Hb,some (.ow (Wt.map D.int)),x4,x5]/\GI ts es a F Wt)
  (λω=>match ω with
   | [_,_,some (.od F _),some (.ow w),_,_]=>QT+w.length
   | _=>0)
  (λω=>∃(F:af) (x4 x5:cb),ω=[↥bP,↥cA,Hb,rn,x4,x5]/\GI ts es a F [])
  (λω ⟨F,Wt,x4,x5,hω,gi⟩ hf=>by
   subst hω;unfold q2e at hf;simp -implicitDefEqProofs only[qaB,q8V,qcb,qdK,qey,qc7,e_wd,qdG,e_wz,qfj,qej,qbW,qe8,qcr,qhf,qf4,qe9,qhA,qhi,qha,qex,qgZ,qct,qcu,qhq,qhj,qeA,qh4,qhE,qhb,qcy,qbk,q00,qbQ,qbC,qhB,qh7,qcF,qcx,e_if,qdw,qfb,qhk,qc1,qbJ,qfi,qbU,qh1,zCC,qgW,q9Q,q4N,qcs,qcI,qgX,e_fs,qh6,e_ag,e_gn,e_gt,e_gc,e_g0,qhd,qcp,qcl,e_c,e_e,e_ed,e_d,qbT,qca,e_v,qbZ,qc3,qbN,e_op,e_o2,qdR,e_cl,qcw,qbs,e_ac,e_ca,e_an,qhu,qh5,qhv,e_bl,qhx,e_sl,e_po,e_pa,e_ap,qhy,qdL,qdN,qhl,q8u,q8n,q8k,e_t,e_tr,qe4,e_ta,qho,qhh,e_to,qh8,qdJ,e_tn,qeO,qbV,q9j,qfm,e_va,qh3,qfr,qdv,qeK,qhz,qdD,Wk,qh0,e_ng,qcg,qcv,qby,qam,qci,qf8,qdT,qbt,qfp,qeX,qeL,qe6,qcJ,qgY,qhc,qhm,at0,at1,at2,q4a,q7Y,zCH,entry,yR,xB,zJ,xg,zA,zI,yb,ZU,yT,yV,wG,YC,YD,xN,xq,Nat.reduceSub,Nat.reduceAdd,Nat.reduceLT,Int.reduceLT,Int.reduceLE,Int.reduceSub,Int.reduceAdd,Int.reduceMul,Int.reduceMod,Int.reduceDiv,Int.reduceNeg,Int.reducePow,Int.reduceBEq,Yh,↓reduceIte,Z1,Yx,wq,ZO,wv,YQ,Z0,Bool.or_true,wZ,Ys,xU,beq_self_eq_true,yI]at hf;cases Wt with
   | nil=>exact⟨F,x4,x5,rfl,gi⟩
   | cons w r=>cases hf)
  (λω ⟨F,Wt,x4,x5,hω,gi⟩=>by
   subst hω;refine⟨!Wt.isEmpty,?_,λhk=>?_⟩
   ·unfold q2e
    simp_arith[q00];cases Wt <;> rfl
   ·obtain⟨Wr,here,rfl⟩:∃Wr here,Wt=Wr++[here]:=by
     cases Wt with
     | nil=>cases hk
     | cons w r=>exact⟨(w::r).dropLast,(w::r).getLast (by simp),(wk _).symm⟩
    have hF:here∈F:=gi.w here (by simp);have hts:here∈ts:=(gi.r here hF).mem h ha;obtain⟨xs,v1,v2⟩:=qi3 ts here hts es;have vd:Xe ts (nbD ts es) here=some (.lst iF):=by unfold nbD;rw[q6B,v1];rfl
    have ew:(Wr++[here]).map D.int=Wr.map D.int++[D.int here]:=by rw[zX];rfl
    have ffl:=q18 gi.nd λc hc=>(gi.r c hc).mem h ha;unfold q3O;rw[ew];simp_arith[qis,vd];obtain⟨ω',e,F',W',x5',rfl,i1,i2,i3,i4,i5,i6,i7,i8⟩:=qQ (g:=gN 5) (b:=q3C) D.int xs
     (λpre ω=>∃(F' W':af) (x5:cb),ω=[↥bP,↥cA,some (.od F' (Wc F')),some (.ow (W'.map D.int)),↥gu,x5]/\F'.Nodup/\(∀c∈F,c∈F')/\(∀c∈Wr,c∈W')/\(∀c∈W',c∈F')/\(∀c∈F',Rch es a c)/\(∀c∈F',c∈F\/c∈W')/\(∀c∈pre,c∈F')/\F'.length+Wr.length=F.length+W'.length)
     (λpre c post ω hd ⟨F',W',x5,hω,i1,i2,i3,i4,i5,i6,i7,i8⟩=>by
      subst hω;refine cn;have hcx:c∈xs:=by rw[hd];simp
      have hcr:Rch es a c:=(gi.r here hF).step ((v2 c).mp hcx);have fl:=q18 i1 λc hc=>(i5 c hc).mem h ha;have hs:(Xe F' (Wc F') c).isSome=decide (c∈F'):=q3w (q8g F');unfold q3C
      by_cases hc:c∈F'
      ·simp_arith[hs,hc,decide_true]
       exact⟨F',W',_,rfl,i1,i2,i3,i4,i5,i6,λx hx=>(by rcases zM.mp hx with y|y;exact i7 x y;cases zU.mp y;exact hc),i8⟩
      ·obtain⟨p1,p2⟩:=qbG hc
       have hwl:(W'.map D.int).length<1000000:=by
        rw[zA];have:=gi.wl;rw[zB,zR]at this;omega
       simp_arith[hs,hc,decide_false,q41 (show F'.length<1000000 by omega),p1,p2,zCC hwl];refine⟨F'++[c],W'++[c],_,by rw[zX];rfl,?_,λx hx=>zW _ (i2 x hx),λx hx=>zW _ (i3 x hx),λx hx=>?_,λx hx=>?_,λx hx=>?_,λx hx=>?_,by rw[zB,zB,zR];omega⟩
       ·rw[yc]
        exact⟨i1,by simp,λx hx y hy z=>by cases zU.mp hy;exact hc (z▸hx)⟩
       ·rcases zM.mp hx with y|y
        ·exact zW _ (i4 x y)
        ·exact zO _ y
       ·rcases zM.mp hx with y|y
        ·exact i5 x y
        ·cases zU.mp y;exact hcr
       ·rcases zM.mp hx with y|y
        ·exact(i6 x y).elim .inl λz=>.inr QH
        ·exact .inr (zO _ y)
       ·rcases zM.mp hx with y|y
        ·exact zW _ (i7 x y)
        ·exact zO _ y)
     (ω:=[↥bP,↥cA,Hb,some (.ow (Wr.map D.int)),↥gu,x5])
     ⟨F,Wr,x5,rfl,gi.nd,λc hc=>hc,λc hc=>hc,λc hc=>gi.w c (zW _ hc),gi.r,λc hc=>.inl hc,λc hc=>(by cases hc),rfl⟩
    have fl':=q18 i1 λc hc=>(i5 c hc).mem h ha;simp_arith[e];have wl0:=gi.wl;rw[zB,zR]at wl0;refine⟨⟨F',W',_,_,rfl,i1,i2 a gi.st,∅,i4,i5,λb hb hw c hc=>?_⟩,?_⟩
    ·rcases i6 b hb with y|y
     ·by_cases z:b=here
      ·subst z
       exact i7 c ((v2 c).mpr hc)
      ·exact i2 c (gi.cl b y (λm=>by rcases zM.mp m with m|m;exact hw (i3 b m);exact z (zU.mp m)) c hc)
     ·exact vO y hw
    ·show (ts.length-F'.length)+(W'.map D.int).length<QT+(Wr.map D.int++[D.int here]).length
     rw[zA,zB,zA,zR];omega)
  (ω:=[↥bP,↥cA,some (.od [a] [cp]),some (.ow [bP]),none,none])
  ⟨[a],[a],none,none,rfl,by simp,by simp,zK _,λc hc=>hc,λc hc=>by cases zU.mp hc;exact .refl,λb hb hw=>vO hb hw⟩
  (by show (ts.length-1)+1<1000000;omega)
 have fl:=q18 gi.nd λc hc=>(gi.r c hc).mem h ha;simp_arith[e,qfJ (show F.length<64 by omega)];exact⟨F,rfl,gi.nd,λc=>⟨gi.r c,λr=>r.inv (λx=>x∈F) gi.st λb c hb hc=>gi.cl b hb (by simp) c hc⟩⟩
noncomputable def gD(g:af):D:=.lst (g.map D.int)
structure Cls (ts:List Int) (es:List (Int×Int)) (g:List Int) (a:Int):Prop where
 inn:a∈ts
 up:g.Pairwise (· < ·)
 mem:∀c,c∈g↔Rch es a c
 hd:g.head?=some a
theorem qi9{F:af}(h:F.Nodup):(XZ F).Pairwise (· < ·):=by
 have h1:(XZ F).Nodup:=(qz (l:=F)).nodup_iff.mpr h;have h2:=q0C (l:=F);have:=List.Pairwise.and h2 h1;exact this.imp λ{a b} h=>(by have h1:=h.1;have h2:=h.2;omega)
theorem qk0{ts:af}{es:ae}{F:af}{a:Int}(ha:a∈ts)(hn:F.Nodup)(hm:∀c,c∈F↔Rch es a c)(least:∀c∈F,a<=c):Cls ts es (XZ F) a:=by
 have pm:=qz (l:=F);have up:=qi9 hn;refine⟨ha,up,λc=>by rw[pm.mem_iff,hm],?_⟩;have haF:a∈XZ F:=pm.mem_iff.mpr ((hm a).mpr .refl);cases q:XZ F with
 | nil=>rw[q]at haF;cases haF
 | cons b r=>
  rw[q]at haF up;have hb:a<=b:=least b (pm.mem_iff.mp (by rw[q];exact zE));rcases zH.mp haF with rfl|hr
  ·rfl
  ·have:=(zZ.mp up).1 a hr
   omega
structure GS (ts:List Int) (es:List (Int×Int)) (gs:List (List Int)) (hs:List Int):Prop where
 len:gs.length=hs.length
 cls:∀(j:Nat)g a,gs[j]?=some g->hs[j]?=some a->Cls ts es g a
 up:hs.Pairwise (· < ·)
theorem GS.snoc{ts:af}{es:ae}{gs:ce}{hs:af}(h:pC){g:af}{a:Int}(c:Po)(hu:∀b∈hs,b<a):GS ts es (gs++[g]) (hs++[a]):=by
 refine⟨by rw[zB,zB,h.len];rfl,λj g' a' e1 e2=>?_,?_⟩
 ·rcases yB j gs.length with z|z
  ·rw[zh z]at e1
   rw[zh (by rw[<- h.len];exact z)]at e2;exact h.cls j g' a' e1 e2
  ·rw[zd z]at e1
   rw[zd (by rw[<- h.len];exact z),<- h.len]at e2;cases hj:j-gs.length with
   | zero=>rw[hj]at e1 e2;cases e1;cases e2;exact c
   | succ n=>rw[hj]at e1;cases e1
 ·rw[zc]
  exact⟨h.up,by simp,λb hb c hc=>by cases zU.mp hc;exact hu b hb⟩
theorem GS.one{ts:af}{es:ae}{gs:ce}{hs:af}(h:pC){g:af}(hg:g∈gs):∃a∈hs,Cls ts es g a:=by
 obtain⟨j,hj,rfl⟩:=zf.mp hg;have hj2:j<hs.length:=by rw[<- h.len];exact hj
 exact⟨hs[j],yQ _,h.cls j _ _ KF (zD hj2)⟩
theorem q83{ts:af}{es:ae}(h:Kt):∃gs hs,q1l [aP,b0]=some (.fr nX)/\GS ts es gs hs/\(∀t∈ts,∃g∈gs,t∈g)/\gs.length<=ts.length:=by
 unfold q1l q6a;have hl1:=h.l1;have sp:=qz (l:=ts);have sl:=q0C (l:=ts);simp_arith[q8N h,qcc hl1];obtain⟨ω',e,gs,hs,Gd,x5,x6,x7,rfl,i1,i2,i3,i4,i5,i6⟩:=qQ (g:=gN 5) (b:=q55) D.int (XZ ts)
  (λpre ω=>∃(gs:ce) (hs Gd:af) (x5 x6 x7:cb),ω=[↥aP,bR,↥cA,R7,some (.ow nX),x5,x6,x7]/\GS ts es gs hs/\Gd.Nodup/\(∀c,c∈Gd↔∃g∈gs,c∈g)/\(∀t∈pre,t∈Gd)/\(∀a∈hs,a∈pre)/\gs.length<=pre.length)
  (λpre t post ω hd ⟨gs,hs,Gd,x5,x6,x7,hω,i1,i2,i3,i4,i5,i6⟩=>by
   subst hω;refine cn;have ht:t∈ts:=sp.mem_iff.mp (by rw[hd];simp);have hs1:(Xe Gd (Wc Gd) t).isSome=decide (t∈Gd):=q3w (q8g Gd);have gts:∀c∈Gd,c∈ts:=λc hc=>by
    obtain⟨g,hg,hcg⟩:=(i3 c).mp hc;obtain⟨a,_,cl⟩:=i1.one hg;exact((cl.mem c).mp hcg).mem h cl.inn
   have plen:pre.length<=ts.length:=by rw[<- sp.length_eq,hd,zB];omega
   unfold q55
   by_cases hc:t∈Gd
   ·simp_arith[hs1,hc,decide_true]
    exact⟨gs,hs,Gd,_,_,_,rfl,i1,i2,i3,λx hx=>(by rcases zM.mp hx with y|y;exact i4 x y;cases zU.mp y;exact hc),λa ha=>zW _ (i5 a ha),by rw[zB];omega⟩
   ·obtain⟨F,f1,f2,f3⟩:=qb9 h ht
    have least:∀c∈F,t<=c:=λc hcF=>by
     rcases Int.lt_or_le c t with z|z
     ·exfalso
      have rc:=(f3 c).mp hcF;have hcs:c∈XZ ts:=sp.mem_iff.mpr (rc.mem h ht);rw[hd]at hcs sl;have hcp:c∈pre:=by
       rcases zM.mp hcs with y|y
       ·exact y
       ·rcases zH.mp y with rfl|y
        ·omega
        ·have:=(zZ.mp (zc.mp sl).2.1).1 c y
         omega
      obtain⟨g,hg,hcg⟩:=(i3 c).mp (i4 c hcp);obtain⟨a,_,cl⟩:=i1.one hg;exact hc ((i3 t).mpr ⟨g,hg,(cl.mem t).mpr (((cl.mem c).mp hcg).trans rc.symm)⟩)
     ·exact z
    have cl:=qk0 ht f2 f3 least;have dis:∀c∈XZ F,c∉Gd:=λc hcg hcG=>by
     obtain⟨g,hg,hcg'⟩:=(i3 c).mp hcG;obtain⟨a,_,cl'⟩:=i1.one hg;exact hc ((i3 t).mpr ⟨g,hg,(cl'.mem t).mpr (((cl'.mem c).mp hcg').trans ((cl.mem c).mp hcg).symm)⟩)
    have hgl:(gs.map gD).length<1000000:=by rw[zA];omega
    simp_arith[hs1,hc,decide_false,f1,zCC hgl];obtain⟨ω',e,x7',rfl⟩:=qQ (g:=gN 7) (b:=q4R) D.int (XZ F)
     (λpre' ω=>∃(x7:cb),ω=[↥aP,bR,↥cA,some (.od (Gd++pre') (Wc (Gd++pre'))),L4,Fj,↥nc,x7])
     (λpre' c post' ω hd' ⟨x7,hω⟩=>by
      subst hω;refine cn;have ndF:(XZ F).Nodup:=(qz (l:=F)).nodup_iff.mpr f2;have hnew:c∉Gd++pre':=λm=>by
       rcases zM.mp m with y|y
       ·exact dis c (by rw[hd'];simp) y
       ·rw[hd',yc]at ndF
        exact ndF.2.2 c y c zE rfl
      obtain⟨p1,p2⟩:=qbG hnew;have hlen:(Gd++pre').length<1000000:=by
       have z1:=q18 i2 gts;have z2:pre'.length<=ts.length:=by
        have a1:(XZ F).length<=ts.length:=by
         rw[(qz (l:=F)).length_eq];exact q18 f2 λc hc=>((f3 c).mp hc).mem h ht
        rw[hd',zB]at a1;omega
       rw[zB];omega
      unfold q4R;simp_arith[q41 hlen,p1,p2,zL];exact bw)
     (ω:=[↥aP,bR,↥cA,R7,L4,Fj,↥nc,x7]) ⟨x7,by rw[zi]⟩
    simp_arith[e];refine⟨gs++[XZ F],hs++[t],Gd++XZ F,_,_,_,by rw[zX];rfl,i1.snoc cl λb hb=>?_,?_,λc=>?_,λx hx=>?_,λa ha=>?_,by rw[zB,zB,zR,zR];omega⟩
    ·have hbp:=i5 b hb
     rw[hd]at sl;have le:b<=t:=(zc.mp sl).2.2 b hbp t zE;have ne:b≠t:=λz=>hc (i4 t (z▸hbp));omega
    ·rw[yc]
     exact⟨i2,(qz (l:=F)).nodup_iff.mpr f2,λx hx y hy z=>dis y hy (z▸hx)⟩
    ·rw[zM,i3]
     constructor
     ·rintro(⟨g,hg,hcg⟩|hcF)
      ·exact⟨g,zW _ hg,hcg⟩
      ·exact⟨_,UB,hcF⟩
     ·rintro⟨g,hg,hcg⟩
      rcases zM.mp hg with y|y
      ·exact .inl ⟨g,y,hcg⟩
      ·cases zU.mp y;exact .inr hcg
    ·rcases zM.mp hx with y|y
     ·exact zW _ (i4 x y)
     ·cases zU.mp y
      exact zO _ ((cl.mem t).mpr .refl)
    ·rcases zM.mp ha with y|y
     ·exact zW _ (i5 a y)
     ·exact zO _ y)
  (ω:=[↥aP,bR,↥cA,oT,rn,none,none,none])
  ⟨[],[],[],none,none,none,rfl,⟨rfl,λj g a e=>(by simp at e),.nil⟩,xY,by simp,by simp,by simp,bZ⟩
 simp_arith[e];refine⟨gs,hs,rfl,i1,λt ht=>?_,by rw[<- sp.length_eq];exact i6⟩;exact(i3 t).mp (i4 t (sp.mem_iff.mpr ht))
noncomputable def W2:D->Bool
 | .int _=>true
 | _=>false
noncomputable def nsD:D->Bool
 | .scr _=>false
 | .exc _=>false
 | .dic _ _=>false
 | _=>true
noncomputable def noScr:D->Bool
 | .scr _=>false
 | .exc _=>false
 | .dic _ _=>false
 | .tup [a,b]=>nsD a&&nsD b
 | _=>true
noncomputable def isBoxL:List D->Bool
 | []=>false
 | [_]=>false
 | [a,b]=>W2 a&&W2 b
 | _::_::_::_=>false
noncomputable def zBw:D->Bool
 | .tup ds=>isBoxL ds
 | _=>false
theorem q30{d:D}(h:nsD d=true):qW [d]=↥(.bl (W2 d)):=by
 cases d <;> first|rfl|cases h
theorem qjZ{d:D}(h:noScr d=true):q2O [d]=↥(.bl (zBw d)):=by
 unfold q2O q6j
 match d,h with
 | .non,_=>rfl
 | .bl _,_=>rfl
 | .int _,_=>rfl
 | .str _,_=>rfl
 | .lst _,_=>rfl
 | .tup [],_=>rfl
 | .tup [_],_=>simp_arith[q00];rfl
 | .tup [a,b],h=>
  have h':=wd.mp (show (_&&_)=true from h);have ha:=q30 h'.1;have hb:=q30 h'.2;simp_arith[ha,hb];simp_arith[show (((0+1+1:Nat):Int)==2)=true from rfl,ha,hb];cases a <;> cases b <;> rfl
 | .tup (a::b::c::r),_=>
  have hn:(((a::b::c::r).length:Int)==2)=false:=by
   simp only[zJ,beq_eq_false_iff_ne,ne_eq];omega
  simp only[zJ]at hn;simp_arith[hn];rfl
theorem q9F:∀(q:D->Bool)(ds:aW),allB NL=some (ds.all q)
 | _,[]=>rfl
 | q,d::ds=>by
  show (allB NL).map _=_;rw[q9F q ds];rfl
theorem qeW{h l:D}{ds:aW}(hh:nsD h=true)(hl:nsD l=true)(hd:∀d∈ds,noScr d=true)(hlen:IG):
  q0G [h,l,eS]=↥(.bl (W2 h&&(W2 l&&ds.all zBw))):=by
 unfold q0G q3M;have e1:=q30 hh;have e2:=q30 hl;simp_arith[e1,e2,Wk hlen];cases W2 h <;> cases W2 l <;> simp_arith[e2,Wk hlen] <;> first|rfl|skip
 rw[q3u (λd=>D.bl (zBw d))]
 ·simp_arith[zAr,q9F]
 ·intro d hd'
  unfold q51;simp_arith[inW,qjZ (hd d hd')]
noncomputable def flat(bs:ae):List Int:=bs.flatMap λp=>[p.1,p.2]
noncomputable def plc(h l:Int)(bs:ae):List Int:=h::l::flat bs
theorem qfU(bs:ae)(p:bi):flat (bs++[p])=flat bs++[p.1,p.2]:=by simp[flat]
theorem q4n(bs:ae):(flat bs).length=2*bs.length:=by
 induction bs with
 | nil=>rfl
 | cons p r ih=>simp[flat]at ih ⊢;omega
theorem qik(h l:Int)(bs:ae)(p:bi):plc h l (bs++[p])=plc h l bs++[p.1,p.2]:=by unfold plc;rw[qfU];rfl
theorem zBU(x:Int):nsD Kw=true:=rfl
theorem qfd(p:bi):zBw (XJ p)=true:=rfl
theorem qiu(p:bi):(XJ p).py.canLay0=true/\(XJ p).py.depth<=2:=⟨rfl,by show 1<=2;decide⟩
theorem qei(bs:ae):(bs.map XJ).all zBw=true:=by
 rw[YK];exact xr.mpr λp _=>qfd p
theorem qev(bs:ae):shp av=true:=q5N 2 (by decide) λd hd=>by
  obtain⟨p,_,rfl⟩:=zu.mp hd;exact qiu p
theorem qf1{h l:Int}{bs:ae}(hb:Eo):q0G cN=↥cp:=by
 have:=qeW (h:=.int h) (l:=.int l) (ds:=bs.map XJ) (zBU h) (zBU l) (λd hd=>by
  obtain⟨p,_,rfl⟩:=zu.mp hd;rfl) (by rw[zA];omega)
 rw[qei]at this;exact this
theorem q9Z{h l:Int}{bs:ae}(hb:Eo):q03 cN=some MO:=by
 unfold q03 q23;simp_arith[qf1 hb]
theorem q4v{h l:Int}{bs:ae}(hb:bv):q1u cN=some (.fr gJ):=by
 unfold q1u q7D;simp_arith[q9Z (show bs.length<=1000 by omega)];obtain⟨ω',e,x4,rfl⟩:=qQ (g:=gN 4) (b:=q6r) XJ bs
  (λpre ω=>∃x4,ω=[↥gR,↥jh,↥av,G9,x4])
  (λpre p post ω hd ⟨x4,hω⟩=>by
   subst hω;refine cn;unfold q6r;have hl:(plc h l pre).length<=1000:=by
    have:=v7 xv hd;rw[zB,zJ]at this;show (flat pre).length+1+1<=1000;rw[q4n];omega
   have e1:=q9Q (i:=3) (ω:=[↥gR,↥jh,↥av,G9,↥(XJ p)]) (ds:=(plc h l pre).map D.int) (ds':=Hj) (by rw[zA,zJ,zR];omega);simp_arith[q00];show zBT (extS 3 _ (some (XJ p)) _) _;rw[show XJ p=D.tup Hj from rfl]at e1 ⊢;rw[e1,qik,zX];exact bw)
  (ω:=[↥gR,↥jh,↥av,some (.ow [gR,jh]),none]) Fg
 simp_arith[e];have hlen:(plc h l bs).length<64:=by
  show (flat bs).length+1+1<64;rw[q4n];omega
 have:WJ bE [↥gR,↥jh,↥av,some (.ow BL),x4]=some (.fr gJ):=by
  show zBB (.lst BL)=_;show (intsOf BL).bind _=_;rw[q0g];exact vF (qeq hlen)
 simp_arith[this]
noncomputable def Y8(P:af):List bi:=P.zip (P.drop 1)
theorem q0z(P:af):(Y8 P).length=P.length-1:=by
 unfold Y8;rw[xP,yP];omega
theorem qfI{P:af}{i:Nat}(h:Q7):(Y8 P)[i]?=some (P[i],P[i+1]):=by
 unfold Y8;rw[xD];refine⟨VH,?_⟩;show (P.drop 1)[i]?=some P[i+1];rw[xZ,Nat.add_comm 1 i];exact zD h
theorem q8b:∀(xs ys:af),ZZ pairD iF Ew=(xs.zip ys).map XJ
 | [],_=>rfl
 | _::_,[]=>rfl
 | x::xs,y::ys=>by
  show _::ZZ pairD iF Ew=_::(xs.zip ys).map XJ;rw[q8b xs ys];rfl
theorem qgP(ds:aW):cutD ds L3 none=ds.drop 1:=by
 unfold cutD;have e:HT.sIx ds.length 0 L3=min 1 ds.length:=HT.q40 ds.length 0 1;rw[e,HT.q64];cases ds with
 | nil=>rfl
 | cons d r=>
  have:min 1 (d::r).length=1:=by rw[zJ];omega
  rw[this];show List.take _ r=r;rw[zJ,YA,wV]
theorem q47{h l:Int}{bs:ae}(hb:bv):q1C cN=some Pt:=by
 unfold q1C q9t;have hz:Wn [N8,.lst (cutD gJ L3 none)]=some Pt:=by
  rw[qgP,<- ZM];show some (R.fr (ZZ pairD _ _))=_;rw[q8b];rfl
 simp_arith[q4v hb,qhs,hz]
structure Stp (P:List Int):Prop where
 ne:P≠[]
 rise:P.Pairwise (· < ·)
 len:P.length<=1000
theorem stp(h l:Int){bs:ae}(hb:bv):Stp BG:=by
 refine⟨λe=>?_,q0B,?_⟩
 ·have:h∈Xa bM:=q1t.mpr (by simp[plc])
  rw[e]at this;simp at this
 ·have:(Xa bM).length<=(plc h l bs).length:=q1w _
  have h2:(plc h l bs).length=2*bs.length+2:=by show (flat bs).length+1+1=_;rw[q4n]
  omega
theorem Stp.lt{P:af}(S:Stp P){i j:Nat}(hi:i<P.length)(hj:j<P.length)(h:i<j):P[i]<P[j]:=ya.mp S.rise i j hi hj h
theorem Stp.le{P:af}(S:Stp P){i j:Nat}(hi:i<P.length)(hj:j<P.length)(h:i<=j):P[i]<=P[j]:=by
 rcases yB i j with z|z
 ·exact yf (S.lt hi hj z)
 ·have:i=j:=∅
  subst this;exact zr _
theorem Stp.amid{P:af}(S:Stp P){i:Nat}(h:Q7){x:Int}(hx:x∈P):x<=P[i]\/P[i+1]<=x:=by
 obtain⟨j,hj,rfl⟩:=zf.mp hx;rcases yB i j with z|z
 ·right;exact S.le h hj z
 ·left;exact S.le hj ∅ z
theorem q3Z(a b:Int):XJ (a,b)=.tup [bP,dy]:=rfl
noncomputable def over(s g:Int)(q:bi):Bool:=decide (s<=q.1)&&decide (q.2<=g)
theorem qaw(s g a b:Int):q0u [oe,.int g,A3]=↥(.bl (over s g (a,b))):=by
 unfold q0u q3c over;simp_arith[q00]
noncomputable def rts(bs:ae)(q:bi):Int:=((bs.filter λp=>over p.1 p.2 q).length:Nat)
noncomputable def lfs(bs:ae)(q:bi):Int:=((bs.filter λp=>over p.2 p.1 q).length:Nat)
noncomputable def onP(f:AZ):D->Bool
 | .tup [.int a,.int b]=>f a b
 | _=>false
theorem q8w(f:AZ)(bs:ae):((bs.map XJ).filter (onP f)).map (λd=>d)=(bs.filter λp=>f p.1 p.2).map XJ:=by
 rw[List.map_id',Yi];rfl
theorem q4D{bs:ae}{q:bi}(hb:Eo):q0N [av,Ss]=↥DY:=by
 unfold q0N q5u;have hl:(bs.map XJ).length<=1000000:=by rw[zA];omega
 obtain⟨a,b⟩:=q;have c1:X5 fG q4c q4r mm [none,↥A3]=some ((bs.filter λp=>over p.1 p.2 (a,b)).map XJ):=by
  rw[<- q8w (λs g=>over s g (a,b))];refine q82 (onP λs g=>over s g (a,b)) (λd=>d) mm λd hd=>?_;obtain⟨⟨s,g⟩,_,rfl⟩:=zu.mp hd;unfold q4c q4r;simp_arith[q3Z,qaw];exact Qy
 have c2:X5 fG q4f q4C mm [none,↥A3]=some ((bs.filter λp=>over p.2 p.1 (a,b)).map XJ):=by
  rw[<- q8w (λs g=>over g s (a,b))];refine q82 (onP λs g=>over g s (a,b)) (λd=>d) mm λd hd=>?_;obtain⟨⟨s,g⟩,_,rfl⟩:=zu.mp hd;unfold q4f q4C;simp_arith[q3Z,qaw];exact Qy
 simp_arith[q3Z,Kr,inW,Ws,c1,c2];rfl
noncomputable def XQ(h l:Int)(bs:ae)(q:bi):Int:=rts mo q-lfs mo q-rts bs q+lfs bs q
theorem qj3{h l:Int}{bs:ae}{q:bi}(hb:Eo):q5i [gR,jh,av,Ss]=↥HW:=by
 unfold q5i q9f;have e1:=q4D (bs:=mo) (q:=q) (by show 1<=1000;decide);have e2:=q4D (bs:=bs) (q:=q) hb;rw[zI,yb,q3Z]at e1;simp_arith[e1,e2];rfl
theorem q6h{h l:Int}{bs:ae}(hb:bv):q2a cN=some (.fr (((Y8 BG).map gk).map D.int)):=by
 unfold q2a q7M;have S:=stp h l hb;have hl:((Y8 BG).map XJ).length<=1000000:=by rw[zA,q0z];have:=S.len;omega
 simp_arith[q47 hb,Kr,inW,Ws];rw[q3u (λd=>match d with|.tup [.int a,.int b]=>D.int (XQ h l bs (a,b))|d=>d)]
 case h=>
  intro d hd;obtain⟨⟨a,b⟩,_,rfl⟩:=zu.mp hd;unfold q9r;have e:=qj3 (h:=h) (l:=l) (bs:=bs) (q:=(a,b)) ∅;rw[q3Z]at e ⊢;simp_arith[e]
 rw[yK,yK];rfl
noncomputable def ov(s g:Int)(q:bi):Int:=if over s g q=true then 1 else if over g s q=true then -1 else 0
theorem q6d(f:di):∀L:List bi,zAd (L.map XJ) Eh=L.map λq=>D.tup [Ss,AH]
 | []=>rfl
 | q::r=>by
  show D.tup [Ss,AH]::zAd (r.map XJ) ((r.map f).map D.int)=_;rw[q6d f r];rfl
noncomputable def snd0:D->Bool
 | .tup [_,.int k]=>!(k==0)
 | _=>false
noncomputable def fst0:D->D
 | .tup [x,_]=>x
 | d=>d
theorem qdk(f:di)(L:ae):X5 Ov q4k q6J Lc Lz=some ((L.filter λq=>!(f q==0)).map XJ):=by
 have:=q3x (g:=gT 2 eW) (c:=q4k) (f:=q6J) (λw=>∃a b,w=BB) snd0 fst0 Lc (ω:=Lz) nD (λd hd w ⟨a,b,hw⟩=>by
  obtain⟨q,_,rfl⟩:=zu.mp hd;subst hw;refine⟨[↥Ss,↥AH],rfl,nD,?_,E2⟩;unfold q4k;simp_arith[q00];rfl)
 rw[this,Yi,yK];rfl
theorem q6l{h l:Int}{bs:ae}(hb:bv):q29 cN=some (.fr ((bs++mo++(Y8 BG).filter λq=>! dE).map XJ)):=by
 unfold q29 q7r;have S:=stp h l hb;have hg:=q47 (h:=h) (l:=l) hb;have hk:=q6h (h:=h) (l:=l) hb;have hL:(Y8 BG).length<=1000:=by rw[q0z];have:=S.len;omega
 generalize Y8 BG=L at hg hk hL ⊢;have hl:(L.map λq=>D.tup [Ss,HW]).length<=1000000:=by rw[zA];omega
 have hf:=yN (λq=>! dE) L;simp_arith[hg,hk,q6d,Kr,inW,qdk gk];have a1:X3 av (.lst FQ)=some (.fr abe):=q0H (by rw[zA,zR];omega);have a2:X3 (.lst abe) (.lst ((L.filter λq=>! dE).map XJ))=some (.fr (bs.map XJ++FQ++(L.filter λq=>! dE).map XJ)):=q0H (by rw[zB,zA,zA,zR];omega);simp_arith[a1,a2];rw[zX,zX];rfl
inductive Mv where
 | go (p q:Int)|box (k:Nat) (p q:Int)
noncomputable def mvD:Mv->D
 | .go p q=>.tup [gZ, .int p,.int q]
 | .box k p q=>.tup [df, Lj,.int p,.int q]
noncomputable def Mv.frm:Mv->Int
 | .go p _=>p
 | .box _ p _=>p
noncomputable def Mv.to:Mv->Int
 | .go _ q=>q
 | .box _ _ q=>q
noncomputable def Mv.num:Mv->List Nat
 | .go _ _=>[]
 | .box k _ _=>[k]
def Mv.good(bs:ae):Mv->Prop
 | .go p q=>p≠q
 | .box k p q=>bs[k]?=some (p,q)
noncomputable def ends(h:Int):List Mv->Option Int
 | []=>some h
 | m::r=>if m.frm=h then ends m.to r else none
noncomputable def nums(ms:iO):List Nat:=ms.flatMap Mv.num
theorem q9k:∀(a b:iO)(h:Int),ends h Du=(ends h a).bind λx=>ends x b
 | [],b,h=>rfl
 | m::a,b,h=>by
  show (if m.frm=h then ends m.to Du else none)=Zt (if m.frm=h then ends m.to a else none) _
  by_cases z:m.frm=h
  ·rw[fQ,fQ];exact q9k a b m.to
  ·rw[fI,fI];rfl
theorem q2Q(a b:iO):nums Du=nums a++nums b:=by unfold nums;rw[xo]
noncomputable def zBx(k:Nat):D:=.int jb
theorem q96(k:Nat):zBx k=.int jb:=rfl
theorem qan(ls:bT):shp (.lst IB)=true:=q5N 2 (by decide) λd hd=>by
 obtain⟨m,_,rfl⟩:=zu.mp hd;exact⟨rfl,by show 0<=2;decide⟩
theorem q7A{ds:aW}(h:shp eS=true):oEq true eS gQ=↥(.bl (!ds.isEmpty)):=by
 unfold oEq;rw[h];cases ds <;> rfl
noncomputable def WQ(a b:Int):List Mv:=if a=b then []else [.go a b]
theorem q1U(a b:Int):q0m [bP,dy]=some (.fr ((WQ a b).map mvD)):=by
 unfold q0m q3J WQ
 by_cases h:a=b
 ·subst h
  simp_arith[q00]
 ·have h':(a==b)=false:=by simpa using h
  simp_arith[h',h];rfl
theorem q0k(a b:Int):(WQ a b).length<=1:=by unfold WQ;split <;> simp
theorem qfa(a b:Int):ends a (WQ a b)=some b:=by
 unfold WQ
 by_cases h:a=b
 ·rw[vF h,h];rfl
 ·rw[vG h];show (if a=a then some b else none)=_;rw[jQ]
theorem qft(bs:ae)(a b:Int):∀m∈WQ a b,m.good bs:=by
 unfold WQ
 by_cases h:a=b
 ·rw[vF h];intro m hm;cases hm
 ·rw[vG h];intro m hm
  cases zU.mp hm;exact h
theorem q4S(a b:Int):nums (WQ a b)=[]:=by unfold WQ;split <;> rfl
noncomputable def bx(bs:ae)(k:Nat):Int×Int:=bs.getD k (0,0)
theorem qee{bs:ae}{k:Nat}(h:Lw):bs[k]?=some (bx bs k):=by
 unfold bx;rw[zT,zD h];rfl
theorem q6W{bs:ae}{k:Nat}(h:Lw):atI mm jb=some (.tup [acQ,acP]):=by
 rw[q0V ∅ (by rw[zA];omega)];have e:=qee h;rw[zD h]at e;simp only[yj,xG,zw e];rfl
noncomputable def Wa(bs:ae)(here:Int)(k:Nat):List Mv:=WQ here (bx bs k).1++[.box k (bx bs k).1 (bx bs k).2]
theorem qac{bs:ae}{here:Int}{k:Nat}(h:Lw):q0n [av,gu,Lj]=some (.fr ((Wa bs here k).map mvD)):=by
 unfold q0n q3k Wa;have a1:X3 (.lst ((WQ here (bx bs k).1).map mvD)) (.lst rV)=some (.fr ((WQ here (bx bs k).1).map mvD++rV)) :=
  q0H (by have:=q0k here (bx bs k).1;rw[zA,zR];omega)
 simp_arith[q6W h,q1U,a1];rw[zX];rfl
theorem q8e(bs:ae)(here:Int)(k:Nat):(Wa bs here k).length<=2:=by
 unfold Wa;have:=q0k here (bx bs k).1;rw[zB,zR];omega
structure Part (bs:List (Int×Int)) (a b:Int) (ms:List Mv):Prop where
 e:ends a ms=some b
 g:∀m∈ms,m.good bs
theorem Part.app{bs:ae}{a b c:Int}{ms ns:iO}(h:Part bs a b ms)(h':Part bs b c ns):Part bs a c (ms++ns) :=
 ⟨by rw[q9k,h.e];exact h'.e,λm hm=>(zM.mp hm).elim (h.g m) (h'.g m)⟩
theorem q5v(bs:ae)(a b:Int):Part bs a b (WQ a b):=⟨qfa a b,qft bs a b⟩
theorem q7m{bs:ae}{here:Int}{k:Nat}(h:Lw):Part bs here (bx bs k).2 acI:=by
 refine(q5v bs here (bx bs k).1).app ⟨?_,QE⟩
 ·show (if (bx bs k).1=(bx bs k).1 then some (bx bs k).2 else none)=_;rw[jQ]
 ·cases zU.mp hm;exact qee h
theorem q6T(bs:ae)(here:Int)(k:Nat):nums acI=[k]:=by
 unfold Wa;rw[q2Q,q4S];rfl
theorem qiw{ls:bT}{i:Nat}(h:i<ls.length):(ls[i]::ls.eraseIdx i).Perm ls:=by
 induction ls generalizing i with
 | nil=>exact vO h PH
 | cons a r ih=>
  cases i with
  | zero=>exact .refl _
  | succ i=>exact(Ym a (r[i]'(Za h)) _).trans ((ih (Za h)).cons a)
theorem qcC{xs ls:bT}{n:Nat}(h:(xs++ls).Perm (za n)){k:Nat}(hk:k∈ls):k<n:=yU.mp (h.mem_iff.mp (zO _ hk))
theorem qfD{home last:Int}{bs:ae}{cells:af}(hb:bs.length<=100)(hc:cells.length<=100):
  ∃ms,q0Z [Na,Db,av,kr]=some (.fr CN)/\Part bs home last ms/\(nums ms).Perm mH/\ms.length<=3*cells.length+2*bs.length+1:=by
 unfold q0Z q3o;have hr:zAu [.int fm]=some (.fr ((za bs.length).map zBx)):=by
  rw[qbx ri];unfold zAb;rw[yK,yj]
  congr 2
  apply yM;intro k _;show D.int (0+jb)=D.int k;rw[YU]
 simp_arith -implicitDefEqProofs [hr,zA];have app:∀(ms ns:iO),ms.length<=1000->ns.length<=2->X3 abK (.lst (ns.map mvD))=some (.fr ((ms++ns).map mvD)):=λms ns h1 h2=>by
  rw[zX];exact q0H (by rw[zA,zA];omega)
 obtain⟨ω',e,ms,here,ls,x7,x8,x9,rfl,h1,h2,h3⟩:=qQ (g:=gN 7) (b:=q2q) D.int cells
  (λpre ω=>∃(ms:iO) (here:Int) (ls:bT) (x7 x8 x9:cb),ω=[↥Na,↥Db,↥av,↥kr,↥abK,↥gu,some (.ow IB),x7,x8,x9]/\Part bs home here ms/\(nums ms++ls).Perm mH/\ms.length<=3*pre.length)
  (λpre c post ω hd ⟨ms,here,ls,x7,x8,x9,hω,i1,i2,i3⟩=>by
   subst hω;refine cn;have hp:pre.length<cells.length:=by rw[hd,zB,zJ];omega
   have hl3:ms.length<=1000:=∅
   have fin:∀(ms':iO)(h' t':Int)(ls':bT)(y7 y8 y9:cb),Part bs home h' ms'->(nums ms'++ls').Perm mH->ms'.length<=3*pre.length+2 ->
     ∃(ms:iO) (here:Int) (ls:bT) (x7 x8 x9:cb),[OY,↥Db,↥av,↥kr,↥(.lst ((ms'++WQ h' t').map mvD)),↥(.int t'),some (.ow (ls'.map zBx)),y7,y8,y9]=[OY,↥Db,↥av,↥kr,↥abK,↥gu,some (.ow IB),x7,x8,x9]/\Part bs home here ms/\(nums ms++ls).Perm mH/\ms.length<=3*(pre++[c]).length:=λms' h' t' ls' y7 y8 y9 a1 a2 a3=>by
    refine⟨_,_,_,_,_,_,rfl,a1.app (q5v bs h' t'),by rw[q2Q,q4S,zi];exact a2,?_⟩;have:=q0k h' t';rw[zB,zB,zR];omega
   unfold q2q
   by_cases q1:c%2=0/\ls≠[]
   ·obtain⟨q1,q2⟩:=q1
    have hpos:0<ls.length:=wH.mpr q2;have hmm:oMod (.int (c/2)) (.int KR)=↥(.int (c/2%(ls.length:Int))):=q4a ∅;have k0:=Zn (c/2) (show KR≠0 by omega);have k1:=ZD (c/2) (show 0<KR by omega);have hne:(ls.map zBx).isEmpty=false:=by cases ls;exact vO rfl q2;rfl
    generalize hk:c/2%(ls.length:Int)=k at hmm k0 k1;have hkl:k.toNat<ls.length:=∅
    have hlen:=i2.length_eq;rw[zB,zo]at hlen;have hp':=λω=>qjF (i:=9) (j:=6) (ω:=ω) (k:=k) (ds:=ls.map zBx) k0 (by rw[zA];exact k1) (by rw[zA];omega);simp only[xG,q5e,q96]at hp';have hin:ls[k.toNat]<bs.length:=qcC i2 (yQ hkl);have pm:=qiw hkl;generalize ls[k.toNat]=j at hp' hin pm;generalize ls.eraseIdx k.toNat=ls' at hp' pm;have tp:=q7m (here:=here) hin;have tl:=q8e bs here j;have tn:=q6T bs here j;simp_arith -implicitDefEqProofs [q1,q7A (qan ls),hne,hmm,zA,hp',qac hin,app ms _ hl3 tl,q6W hin,q1U,app _ _ (show (ms++Wa bs here j).length<=1000 by rw[zB];omega) (yD JK (by decide))];refine fin (ms++Wa bs here j) _ _ ls' _ _ _ (i1.app tp) ?_ (by rw[zB];omega);rw[q2Q,tn,zL];exact(pm.append_left (nums ms)).trans i2
   ·have qf:(c%2==0 && !(ls.map zBx).isEmpty)=false:=by
     by_cases z:c%2=0
     ·have:ls=[]:=Classical.byContradiction λy=>q1 ⟨z,y⟩
      rw[this];simp
     ·have:(c%2==0)=false:=by simpa using z
      rw[this];rfl
    simp_arith -implicitDefEqProofs [q7A (qan ls),q7A (qev bs),qf]
    by_cases q3:c%4=1/\bs≠[]
    ·obtain⟨q3,q4⟩:=q3
     have hpos:0<bs.length:=wH.mpr q4;have hne:(bs.map XJ).isEmpty=false:=by cases bs;exact vO rfl q4;rfl
     have hmm:oMod (.int (c/8)) (.int fm)=↥(.int (c/8%(bs.length:Int))):=q4a ∅;have k0:=Zn (c/8) (show fm≠0 by omega);have k1:=ZD (c/8) (show 0<fm by omega);generalize c/8%(bs.length:Int)=k at hmm k0 k1;have hkl:k.toNat<bs.length:=∅
     have ab:=q6W hkl;rw[show Gv=k by omega]at ab;have h2:c/4%2=0\/c/4%2=1:=∅
     rcases h2 with h2|h2
     ·simp_arith -implicitDefEqProofs [q3,hne,hmm,zA,ab,h2,q1U,app ms _ hl3 (yD JK (by decide))]
      exact fin ms _ _ ls _ _ _ i1 i2 ∅
     ·simp_arith -implicitDefEqProofs [q3,hne,hmm,zA,ab,h2,q1U,app ms _ hl3 (yD JK (by decide))]
      exact fin ms _ _ ls _ _ _ i1 i2 ∅
    ·have qg:(c%4==1 && !(bs.map XJ).isEmpty)=false:=by
      by_cases z:c%4=1
      ·have:bs=[]:=Classical.byContradiction λy=>q3 ⟨z,y⟩
       rw[this];simp
      ·have:(c%4==1)=false:=by simpa using z
       rw[this];rfl
     by_cases q5:c%4=3
     ·simp_arith -implicitDefEqProofs [qg,q5,q9e,q1U,app ms _ hl3 (yD JK (by decide))]
      exact fin ms _ _ ls _ _ _ i1 i2 ∅
     ·have q5':(c%4==3)=false:=by simpa using q5
      simp_arith -implicitDefEqProofs [qg,q5',q1U,app ms _ hl3 (yD JK (by decide))];exact fin ms _ _ ls _ _ _ i1 i2 ∅)
  ⟨[],home,mH,none,none,none,rfl,⟨rfl,λm hm=>nomatch hm⟩,.refl _,bZ⟩
 simp only[yb]at e;simp_arith -implicitDefEqProofs [e];have hlen:=h2.length_eq;rw[zB,zo]at hlen;obtain⟨ω',e,ms',here',x7,x8,x9,rfl,g1,g2,g3⟩:=qQ (g:=gN 9) (b:=q2w) zBx ls
  (λpre ω=>∃(ms':iO) (here':Int) (x7 x8 x9:cb),ω=[↥Na,↥Db,↥av,↥kr,↥(.lst (ms'.map mvD)),↥(.int here'),↥(.lst IB),x7,x8,x9]/\Part bs home here' ms'/\nums ms'=nums ms++pre/\ms'.length<=3*cells.length+2*pre.length)
  (λpre k post ω hd ⟨ms',here',x7,x8,x9,hω,i1,i2,i3⟩=>by
   subst hω;refine cn;have hp:pre.length<ls.length:=by rw[hd,zB,zJ];omega
   have hin:k<bs.length:=qcC h2 (by rw[hd];simp);have tl:=q8e bs here' k;unfold q2w;simp_arith -implicitDefEqProofs [q96,qac hin,app ms' _ (show ms'.length<=1000 by omega) tl,q6W hin];exact⟨_,_,_,_,_,rfl,i1.app (q7m hin),by rw[q2Q,q6T,i2,zL],by rw[zB,zB,zR];omega⟩)
  ⟨ms,here,x7,x8,x9,rfl,h1,by rw[zi],by rw[xg];omega⟩
 have gl:=q0k here' last;simp_arith -implicitDefEqProofs [e,q1U,app ms' _ (show ms'.length<=1000 by omega) (yD (q0k here' last) (by decide))];exact⟨_,rfl,g1.app (q5v bs here' last),by rw[q2Q,q4S,zi,g2];exact h2,by rw[zB];omega⟩
theorem qgn{α:Type}{xs:bB}{k:Int}(h:Vj):cutD xs none Lu=xs.take k.toNat:=by
 unfold cutD;have e:HT.sIx xs.length xs.length Lu=min k.toNat xs.length:=by
  have:=HT.q40 xs.length xs.length k.toNat;rw[show Gv=k by omega]at this;exact this
 rw[HT.q64,e,Nat.sub_zero,w9,List.take_eq_take_iff];omega
theorem qgi{α:Type}{xs:bB}{k:Int}(h:Vj):cutD xs Lu none=xs.drop k.toNat:=by
 unfold cutD;have e:HT.sIx xs.length 0 Lu=min k.toNat xs.length:=by
  have:=HT.q40 xs.length 0 k.toNat;rw[show Gv=k by omega]at this;exact this
 rw[HT.q64,e,yr (by rw[yP];omega)];rcases YN k.toNat xs.length with z|z
 ·rw[wj z]
 ·rw[Nat.min_eq_right z,ZR,List.drop_of_length_le z]
theorem q2D{α:Type}{g:FG}{c:FT}{f:FD}(P:ou)(q:Ta)(B F:α->D):∀(xs:bB){ω:WSt},P ω ->
  (∀x∈xs,∀ω,P ω->∃w,g (B x) ω=some w/\P w/\c w=some (q x)/\(q x=true->f w=some (F x)))->X5 g c f Tg ω=some Qs
 | [],_,_,_=>rfl
 | x::xs,ω,h,t=>by
  obtain⟨w,h1,h2,h3,h4⟩:=t x zE ω h;have ih:=q2D P q B F xs h2 Ol;rw[zI,X5,h1,yR,h3,yR];cases hq:q x with
  | true=>rw[jQ,h4 hq,yR,ih,yo hq];rfl
  | false=>rw[vG (by decide),ih,yp (by rw[hq];decide)]
theorem q4u{α:Type}{i:Nat}{c:FT}{f:FD}(q:Ta)(B F:α->D)(xs:bB){ω:WSt}(h:∀x∈xs,c Fk=some (q x)/\(q x=true->f Fk=some (F x))):X5 P8 c f Tg ω=some Qs :=
 q2D (g:=gN i) (c:=c) (f:=f) (λw=>∀x,w.set i x=ω.set i x) q B F xs (ω:=ω) SY λd hd w hw=>
  ⟨w.set i ↥(B d),rfl,λx=>by rw[YM,hw],by rw[hw];exact(h d hd).1,λz=>by rw[hw];exact(h d hd).2 z⟩
theorem qB{α:Type}{i:Nat}{f:FD}(B F:α->D)(xs:bB){ω:WSt}(h:∀x∈xs,f Fk=some (F x)):X5 P8 Xm f Tg ω=some (xs.map F):=by
 have:=q4u (c:=Xm) (i:=i) (f:=f) Bp B F xs (ω:=ω) λx hx=>⟨rfl,λ_=>h x hx⟩;rw[this,PF]
theorem qeh{α:Type}(f:lx):∀bs:List α,zDD M5=some (bs.map f).sum
 | []=>rfl
 | b::r=>by
  show (zDD (r.map λp=>D.int (f p))).map _=_;rw[qeh f r];rfl
theorem qak{α:Type}(f:lx)(bs:bB):zDB [.lst M5]=↥(.int (bs.map f).sum):=by
 show (zDD _).map _=_;rw[qeh];rfl
theorem q9v{α:Type}(q:Ta):∀bs:List α,allB (bs.map λp=>D.bl (q p))=some (bs.all q)
 | []=>rfl
 | b::r=>by
  show (allB (r.map λp=>D.bl (q p))).map _=_;rw[q9v q r];rfl
structure Lev (P:List Int) (kn:List (Int×Int)) (r:Int×List (List Int)):Prop where
 ne:∀g∈r.2,g≠[]
 pm:r.2.flatten.Perm P
 tie:∀e∈kn++(Y8 P).filter (λq=>decide (q.2-q.1<r.1)),∃g∈r.2,e.1∈g/\e.2∈g
noncomputable def wgh(a:Int):List cg->Int
 | []=>0
 | r::rs=>Fx*(kG-1)+wgh r.1 rs
def zCE(a:Int):List cg->Prop
 | []=>True
 | r::rs=>a<r.1/\zCE r.1 rs
structure Gap (h l:Int) (bs:List (Int×Int)) (g:Int×Int):Prop where
 lt:g.1<g.2
 h:h<=g.1\/g.2<=h
 l:l<=g.1\/g.2<=l
 b:∀b∈bs,(b.1<=g.1\/g.2<=b.1)/\(b.2<=g.1\/g.2<=b.2)
noncomputable def Wp(c:Int):Int:=if c<0 then -c else c
noncomputable def su(f:bU)(a:Int):Nat->Int
 | 0=>0
 | n+1=>su f a n+f Dt
theorem qe2{f f':bU}{a:Int}:∀{n:Nat},(∀x,a<x->x<=a+n->f x<=f' x)->su f a n<=su f' a n
 | 0,_=>zr _
 | n+1,h=>by
  show su f a n+f Dt<=su f' a n+f' Dt;exact Int.add_le_add (qe2 λx h1 h2=>h x h1 ∅) (h _ ∅ ∅)
theorem q4q{f:bU}{a c:Int}:∀{n:Nat},(∀x,a<x->x<=a+n->f x=c)->su f a n=c*n
 | 0,_=>by rw[su];simp
 | n+1,h=>by
  show su f a n+f Dt=c*DH;rw[q4q (f:=f) (n:=n) λx h1 h2=>h x h1 ∅,h _ ∅ ∅,Zo,wf];simp
theorem qeS(f:bU)(a:Int)(m:Nat):∀n:Nat,su f a (m+n)=su f a m+su f (a+m) n
 | 0=>by simp[su]
 | n+1=>by
  show su f a (m+n)+f (a+(m+n:Nat)+1)=su f a m+(su f (a+m) n+f (a+m+n+1));rw[qeS f a m n,show a+((m+n:Nat):Int)+1=a+m+n+1 by omega,Z3]
theorem qaC(f f':bU)(a:Int):∀n:Nat,su aaR a n=su f a n+su f' a n
 | 0=>rfl
 | n+1=>by
  show su aaR a n+(f Dt+f' Dt)=su f a n+f Dt+(su f' a n+f' Dt);rw[qaC f f' a n];omega
theorem qbY{α:Type}(f:α->Int->Int)(a:Int)(n:Nat):∀ms:List α,su Jv a n=(ms.map λm=>su (f m) a n).sum
 | []=>by
  have:=q4q (f:=λ_=>nN) (a:=a) (c:=0) (n:=n) λ_ _ _=>rfl;simp at this;exact this
 | m::ms=>by
  have e:=qaC (f m) Jv a n;rw[qbY f a n ms]at e;rw[zI,zV,<- e];rfl
noncomputable def xR(x p q:Int):Int:=if p<x/\x<=q then 1 else 0
noncomputable def xA(x p q:Int):Int:=xR x p q+xR x q p
noncomputable def chi(x y:Int):Int:=if x<=y then 1 else 0
theorem q5R(x p q:Int):0<=xR x p q:=by unfold xR;split <;> omega
theorem q73(x p q:Int):xR x p q-xR x q p=chi x q-chi x p:=by
 unfold xR chi
 by_cases h1:x<=p <;> by_cases h2:x<=q
 ·rw[fO,fO,QP,IZ];rfl
 ·rw[fO,jP,QN,IZ]
 ·rw[jP,fO,QP,QO]
 ·rw[fO,fO,QN,QO]
theorem qhp{p q:Int}(h:p<=q)(a:Int):∀n:Nat,su Di a n<=(if q<=a then 0 else if p>=a+n then 0 else (if q<=a+n then q else a+n)-(if p<=a then a else p))
 | 0=>by show nN<=_;split;omega;split;omega;split <;> split <;> omega
 | n+1=>by
  have ih:=qhp h a n;show su Di a n+xR Dt p q<=_;unfold xR at ih ⊢
  by_cases h1:p<a+n+1/\a+n+1<=q
  ·rw[IZ]
   rw[vG (∅:¬q<=a),vG (∅:¬p>=a+DH)];rw[vG (∅:¬q<=a)]at ih
   by_cases h2:p>=a+n
   ·rw[QP]at ih
    split <;> split <;> omega
   ·rw[QN]at ih
    rw[vG (∅:¬q<=a+n)]at ih
    split <;> split <;> split at ih <;> omega
  ·rw[QO]
   by_cases h3:q<=a
   ·rw[vF h3]at ih ⊢;omega
   ·rw[vG h3]at ih ⊢
    by_cases h4:p>=a+n
    ·rw[vF h4]at ih
     split
     ·omega
     ·split <;> split <;> omega
    ·rw[vG h4]at ih
     rw[vG (∅:¬p>=a+DH)]
     split at ih <;> split at ih <;> split <;> omega
theorem qeg{p q:Int}(h:p<=q)(a:Int)(n:Nat):su Di a n<=q-p:=by
 have:=qhp h a n
 split at this
 ·omega
 ·split at this
  ·omega
  ·split at this <;> split at this <;> omega
theorem qkS(p q a:Int)(n:Nat):su aaQ a n<=if q-p<0 then -(q-p)else q-p:=by
 have e:su aaQ a n=su Di a n+su aaP a n:=qaC _ _ a n;have z:∀{p q:Int},p<=q->su aaP a n=0:=λ{p q} h=>by
  rw[q4q (f:=λx=>xR x q p) (c:=0) λx _ _=>vG ∅];simp
 rcases Zb p q with h|h
 ·rw[fO,e,z h]
  have:=qeg h a n;omega
 ·rw[e,z h]
  have:=qeg h a n
  split <;> omega
noncomputable def goF(F:fT):Mv->Int
 | .go p q=>F p q
 | .box _ _ _=>0
noncomputable def bxF(F:fT):Mv->Int
 | .go _ _=>0
 | .box _ p q=>F p q
theorem q3v(F:fT):∀ms:List Mv,(ms.map λm=>F m.frm m.to).sum=(ms.map (goF F)).sum+(ms.map (bxF F)).sum
 | []=>rfl
 | m::ms=>by
  rw[zI,zI,zI,zV,zV,zV,q3v F ms];cases m <;> simp only[goF,bxF,Mv.frm,Mv.to] <;> omega
theorem q9w{l m:af}(h:l.Perm m):l.sum=m.sum:=by
 induction h with
 | nil=>rfl
 | cons x _ ih=>rw[zV,zV,ih]
 | swap x y l=>rw[zV,zV,zV,zV];omega
 | trans _ _ h1 h2=>rw[h1,h2]
theorem qfk{bs:ae}(F:fT):∀ms:List Mv,(∀m∈ms,m.good bs)->(ms.map (bxF F)).sum=((nums ms).map λk=>F (bs.getD k (0,0)).1 (bs.getD k (0,0)).2).sum
 | [],_=>rfl
 | m::ms,h=>by
  have ih:=qfk F ms λm hm=>h m VE;have hm:=h m zE;rw[zI,zV,ih];show _=((Mv.num m++nums ms).map _).sum;rw[zX,xO];cases m with
  | go p q=>rfl
  | box k p q=>
   have e:bs.getD k (0,0)=(p,q):=by rw[zT,show bs[k]?=some (p,q)from hm];rfl
   simp only[bxF,Mv.num,zI,yb,zV,Zc,e];omega
theorem q8r{α:Type}(d:α):∀bs:List α,(za bs.length).map SZ=bs:=λbs=>by
 apply Yd
 ·rw[zA,zo]
 ·intro i h1 h2
  rw[xG,YE,zT,zD h2];rfl
theorem qdu{bs:ae}(F:fT){ms:iO}(h:∀m∈ms,m.good bs)(hp:cR):(ms.map (bxF F)).sum=(bs.map λb=>F b.1 b.2).sum:=by
 rw[qfk F ms h,q9w (hp.map _)];have:=v7 (YT λb:Int×Int=>F b.1 b.2) (q8r (0,0) bs);rw[yK]at this;rw[<- this];rfl
theorem tele(x:Int):∀(ms:iO)(h l:Int),ends h ms=some l->(ms.map λm=>xR x m.frm m.to-xR x m.to m.frm).sum=chi x l-chi x h
 | [],h,l,e=>by cases e;show nN=_;omega
 | m::ms,h,l,e=>by
  have e':(if m.frm=h then ends m.to ms else none)=some l:=e
  by_cases z:m.frm=h
  ·rw[fQ]at e'
   rw[zI,zV,tele x ms _ _ e',q73,z];omega
  ·rw[fI]at e';cases e'
noncomputable def eR(x:Int)(ms:iO):Int:=(ms.map (goF λp q=>xR x p q)).sum
noncomputable def eL(x:Int)(ms:iO):Int:=(ms.map (goF λp q=>xR x q p)).sum
theorem q46{F:fT}(h:∀p q,0<=F p q):∀ms:List Mv,0<=(ms.map (goF F)).sum
 | []=>zr _
 | m::ms=>by
  rw[zI,zV];have:=q46 h ms;have:0<=goF F m:=by cases m with|go p q=>exact h p q|box=>exact zr _
  omega
theorem q6b{F:fT}(h:∀p q,0<=F p q):∀ms:List Mv,(ms.map (goF F)).sum=0->∀p q,Mv.go p q∈ms->F p q=0
 | [],_,p,q,hm=>by cases hm
 | m::ms,e,p,q,hm=>by
  rw[zI,zV]at e;have h1:=q46 h ms;have h2:0<=goF F m:=by cases m with|go p q=>exact h p q|box=>exact zr _
  rcases zH.mp hm with rfl|hm
  ·have:goF F (.go p q)=F p q:=rfl
   have:=h p q;omega
  ·exact q6b h ms ∅ p q hm
theorem q5x{g:bi}{x p q:Int}(hp:KQ)(hq:KP)(h1:g.1<x)(h2:x<=g.2):xR x p q=if over p q g=true then 1 else 0:=by
 unfold xR over
 by_cases z1:p<=g.1 <;> by_cases z2:g.2<=q
 ·rw[jP,vF (by rw[vQ z1,vQ z2];rfl)]
 ·rw[fO,vG (by rw[vX z2];simp)]
 ·rw[fO,vG (by rw[vX z1];simp)]
 ·rw[fO,vG (by rw[vX z1];simp)]
theorem q43(F:Int×Int->Bool):∀bs:List bi,(bs.map λb=>if F b=true then Ae else 0).sum=((bs.filter F).length:Nat)
 | []=>rfl
 | b::bs=>by
  rw[zI,zV,q43 F bs,zy]
  split <;> simp <;> omega
theorem q8W{h l:Int}{bs:ae}{g:bi}(G:RC){x:Int}(h1:g.1<x)(h2:x<=g.2):(bs.map λb=>xR x b.1 b.2).sum=rts bs g/\(bs.map λb=>xR x b.2 b.1).sum=lfs bs g:=by
 unfold rts lfs;rw[<- q43,<- q43];exact⟨v7 _ (yM λb hb=>q5x (G.b b hb).1 (G.b b hb).2 h1 h2),v7 _ (yM λb hb=>q5x (G.b b hb).2 (G.b b hb).1 h1 h2)⟩
theorem qdU{h l:Int}{bs:ae}{g:bi}{ms:iO}(G:RC)(hm:pA)(hp:cR){x:Int}(h1:g.1<x)(h2:x<=g.2):
  eR x ms-eL x ms=XQ h l bs g:=by
 have t:=tele x ms h l hm.e;have s1:=q3v (λp q=>xR x p q) ms;have s2:=q3v (λp q=>xR x q p) ms;rw[qdu _ hm.g hp]at s1 s2;obtain⟨r1,r2⟩:=q8W G h1 h2;have e:∀ms:List Mv,(ms.map λm=>xR x m.frm m.to-xR x m.to m.frm).sum=(ms.map λm=>xR x m.frm m.to).sum-(ms.map λm=>xR x m.to m.frm).sum:=λms=>by
  induction ms with
  | nil=>rfl
  | cons m ms ih=>rw[zI,zI,zI,zV,zV,zV,ih];omega
 have o:rts mo g-lfs mo g=chi x l-chi x h:=by
  rw[<- q73,q5x G.h G.l h1 h2,q5x G.l G.h h1 h2];unfold rts lfs;rw[<- q43,<- q43];simp
 unfold eR eL XQ;rw[e]at t;omega
theorem qj2{a b c:Int}(h:a-b=c)(ha:0<=a)(hb:0<=b):(if c<0 then -c else c)<=a+b:=by split <;> omega
def walked(h l:Int)(bs:ae)(ms:iO)(g:bi):Prop:=XQ h l bs g=0/\∀x,g.1<x->x<=g.2->eR x ms+eL x ms≠0
open Classical in
theorem qjY{h l:Int}{bs:ae}{g:bi}{ms:iO}(G:RC)(hm:pA)(hp:cR):
  i9*ja+(if walked h l bs ms g then 2*i9 else 0)<=su lw g.1 (g.2-g.1).toNat:=by
 have hn:((g.2-g.1).toNat:Int)=g.2-g.1:=by have:=G.lt;omega
 have key:∀c:Int,(∀x,g.1<x->x<=g.2->c<=(ms.map λm=>xA x m.frm m.to).sum)->i9*c<=su lw g.1 (g.2-g.1).toNat:=λc hc=>by
  have e:=q4q (f:=λ_=>c) (a:=g.1) (c:=c) (n:=(g.2-g.1).toNat) λ_ _ _=>rfl;rw[hn,Zd]at e;rw[<- e];exact qe2 λx h1 h2=>hc x h1 ∅
 have tot:∀x,g.1<x->x<=g.2->(ms.map λm=>xA x m.frm m.to).sum=eR x ms+eL x ms+rts bs g+lfs bs g:=λx h1 h2=>by
  have s1:=q3v (λp q=>xA x p q) ms;rw[qdu _ hm.g hp]at s1;obtain⟨r1,r2⟩:=q8W G h1 h2;have e:∀ms:List Mv,(ms.map (goF λp q=>xA x p q)).sum=eR x ms+eL x ms:=λms=>by
   unfold eR eL
   induction ms with
   | nil=>rfl
   | cons m ms ih=>
    rw[zI,zI,zI,zV,zV,zV,ih];cases m <;> simp only[goF,xA] <;> omega
  have e2:∀bs:List bi,(bs.map λb=>xA x b.1 b.2).sum=(bs.map λb=>xR x b.1 b.2).sum+(bs.map λb=>xR x b.2 b.1).sum:=λbs=>by
   induction bs with
   | nil=>rfl
   | cons b bs ih=>rw[zI,zI,zI,zV,zV,zV,ih];unfold xA;omega
  rw[e,e2,r1,r2]at s1;omega
 have nR:∀x,0<=eR x ms:=λx=>q46 kX ms;have nL:∀x,0<=eL x ms:=λx=>q46 kX ms
 by_cases w:walked h l bs ms g
 ·rw[vF w]
  have z:Wp (XQ h l bs g)=0:=by rw[w.1];rfl
  have k:=key (rts bs g+lfs bs g+2) λx h1 h2=>by
   rw[tot x h1 h2];have:=qdU G hm hp h1 h2;have:=w.1;have:=w.2 x h1 h2;have:=nR x;have:=nL x;omega
  rw[z,wp,Zd 2,<- wf];exact k
 ·rw[vG w,wp]
  refine key _ λx h1 h2=>?_;rw[tot x h1 h2];have:=qj2 (qdU G hm hp h1 h2) (nR x) (nL x);unfold Wp;omega
theorem qP(a b:Int)(r:af):Y8 (a::b::r)=(a,b)::Y8 (b::r):=rfl
theorem qcD(f:bU):∀(r:af)(k:Int),(k::r).Pairwise (· < ·)->∃N:Nat,su f k N=((Y8 nW).map λg=>su f g.1 (g.2-g.1).toNat).sum
 | [],k,_=>⟨0,rfl⟩
 | k1::r,k,hp=>by
  have hk:k<k1:=(zZ.mp hp).1 k1 zE;obtain⟨N,e⟩:=qcD f r k1 (zZ.mp hp).2;refine⟨(k1-k).toNat+N,?_⟩;rw[qeS,qP,zI,zV,<- e,show k+(((k1-k).toNat:Nat):Int)=k1 by omega]
theorem q4K{α:Type}{f f':lx}:∀{xs:bB},(∀x∈xs,f x<=f' x)->(xs.map f).sum<=(xs.map f').sum
 | [],_=>zr _
 | x::xs,h=>by
  rw[zI,zI,zV,zV];have:=q4K (xs:=xs) λy hy=>h y VD;have:=h x zE;omega
noncomputable def zDC(m:Mv):Int:=if m.to-m.frm<0 then -(m.to-m.frm)else m.to-m.frm
open Classical in
theorem qjN{h l:Int}{bs:ae}{P:af}{ms:iO}(hP:P.Pairwise (· < ·))(hne:P≠[])(G:∀g∈Y8 P,Gap h l bs g)(hm:pA)(hp:cR):
  ((Y8 P).map λg=>i9*ja).sum+((Y8 P).map λg=>if walked h l bs ms g then 2*i9 else 0).sum<=(ms.map zDC).sum:=by
 cases P with
 | nil=>exact vO rfl hne
 | cons k r=>
  obtain⟨N,e⟩:=qcD lw r k hP;have e2:=qbY (λ(m:Mv) x=>xA x m.frm m.to) k N ms;have h1:(ms.map λm=>su (λx=>xA x m.frm m.to) k N).sum<=(ms.map zDC).sum:=q4K λm _=>qkS _ _ _ _;have h2:=q4K (xs:=Y8 nW) λg hg=>qjY (ms:=ms) (G g hg) hm hp;have e3:∀(f f':di)(xs:ae),(xs.map λg=>f g+f' g).sum=(xs.map f).sum+(xs.map f').sum:=λf f' xs=>by
   induction xs with
   | nil=>rfl
   | cons x xs ih=>rw[zI,zI,zI,zV,zV,zV,ih];omega
  rw[e3]at h2;omega
noncomputable def lab(f:kT)(X:di):List Int->Int->Nat
 | [],_=>0
 | [k],_=>f k
 | k::k1::r,y=>if y<X AN then f k else lab f X O6 y
theorem qbM{f:kT}{X:di}:∀{r:af}{k y:Int},(∀g∈Y8 (k::r),g.1<X g/\X g<=g.2)->y<=k->lab f X nW y=f k
 | [],k,y,_,_=>rfl
 | k1::r,k,y,hX,h=>by
  have:=(hX AN (by rw[qP];exact zE)).1;show (if y<X AN then f k else _)=f k;rw[vF (show y<X AN by simp only at this;omega)]
theorem q4b{f:kT}{X:di}:∀{r:af}{k:Int},(k::r).Pairwise (· < ·)->(∀g∈Y8 (k::r),g.1<X g/\X g<=g.2)->∀p∈k::r,lab f X nW p=f p
 | r,k,hp,hX,p,hm=>by
  rcases zH.mp hm with rfl|hm
  ·exact qbM hX (zr _)
  ·cases r with
   | nil=>cases hm
   | cons k1 r=>
    have hx:=(hX AN (by rw[qP];exact zE)).2;have hk:k1<=p:=by
     rcases zH.mp hm with rfl|hm
     ·exact zr _
     ·exact yf ((zZ.mp (zZ.mp hp).2).1 p hm)
    show (if p<X AN then f k else lab f X O6 p)=f p;rw[vG (show ¬p<X AN by simp only at hx;omega)];exact q4b (zZ.mp hp).2 (λg hg=>hX g (by rw[qP];exact zF _ hg)) p hm
theorem q94{f:kT}{X:di}:∀{r:af}{k:Int},(∀g∈Y8 (k::r),g.1<X g/\X g<=g.2)->∀{p q:Int},p<=q->(∀g∈Y8 (k::r),p<X g->X g<=q->f g.1=f g.2)->lab f X nW p=lab f X nW q
 | [],k,_,p,q,_,_=>rfl
 | k1::r,k,hX,p,q,h,hf=>by
  have g0:AN∈Y8 (k::k1::r):=by rw[qP];exact zE
  have hx:=hX _ g0;have hX':∀g∈Y8 (k1::r),g.1<X g/\X g<=g.2:=λg hg=>hX g (by rw[qP];exact zF _ hg);have ih:=q94 hX' h (λg hg=>hf g (by rw[qP];exact zF _ hg));show (if p<X AN then f k else lab f X O6 p)=if q<X AN then f k else lab f X O6 q
  by_cases h1:p<X AN
  ·rw[IZ]
   by_cases h2:q<X AN
   ·rw[QP]
   ·rw[QN,<- ih,qbM hX' (by simp only at hx;omega)]
    exact hf _ g0 h1 ∅
  ·rw[QO,fO,ih]
theorem qa4{f:kT}{X:di}{r:af}{k:Int}{bs:ae}(hP:(k::r).Pairwise (· < ·))(hX:∀g∈Y8 (k::r),g.1<X g/\X g<=g.2)(hb:∀b∈bs,b.1∈k::r/\b.2∈k::r/\f b.1=f b.2):∀(ms:iO)(y l:Int),ends y ms=some l->(∀m∈ms,m.good bs) ->
  (∀p q,Mv.go p q∈ms->∀g∈Y8 (k::r),((p<X g/\X g<=q)\/(q<X g/\X g<=p))->f g.1=f g.2)->∀m∈ms,lab f X nW m.frm=lab f X nW y
 | [],_,_,_,_,_,m,hm=>by cases hm
 | m::ms,y,l,e,hg,hc,m',hm'=>by
  have e':(if m.frm=y then ends m.to ms else none)=some l:=e
  by_cases z:m.frm=y
  ·rw[fQ]at e'
   rcases zH.mp hm' with rfl|hm'
   ·rw[z]
   ·rw[qa4 hP hX hb ms m.to l e' (λm hm=>hg m VE) (λp q hpq=>hc p q (zF _ hpq)) m' hm',<- z]
    have gm:=hg m zE;have cm:=hc;cases m with
    | go p q=>
     show lab f X nW q=lab f X nW p;rcases Zb p q with h|h
     ·exact(q94 hX h λg hg h1 h2=>hc p q zE g hg (.inl Lm)).symm
     ·exact q94 hX h λg hg h1 h2=>hc p q zE g hg (.inr Lm)
    | box j p q=>
     have hm:(p,q)∈bs:=zz (show bs[j]?=some (p,q)from gm);obtain⟨b1,b2,b3⟩:=hb _ hm;show lab f X nW q=lab f X nW p;rw[q4b hP hX q b2,q4b hP hX p b1];exact b3.symm
  ·rw[fI]at e';cases e'
theorem carried{bs:ae}{ms:iO}(hg:∀m∈ms,m.good bs)(hp:cR){b:bi}(hb:b∈bs):∃m∈ms,m.frm=b.1:=by
 obtain⟨k,hk,rfl⟩:=zf.mp hb;have:k∈nums ms:=hp.mem_iff.mpr (yU.mpr hk);unfold nums at this;obtain⟨m,hm,hn⟩:=xH.mp this;refine⟨m,hm,?_⟩;have gm:=hg m hm;cases m with
 | go p q=>cases hn
 | box j p q=>
  cases zU.mp hn;rw[show bs[k]=(p,q)from zw (by rw[<- zD hk];exact gm)];rfl
theorem qhP{f:kT}{P:af}{h l:Int}{bs:ae}{ms:iO}(hP:P.Pairwise (· < ·))(hm:pA)(hp:cR)(mem:∀p,p∈P↔p=h\/p=l\/∃b∈bs,p=b.1\/p=b.2)(hb:∀b∈bs,f b.1=f b.2)(hl:f h=f l)(hg:∀g∈Y8 P,g.1<g.2/\(f g.1=f g.2\/∃x,g.1<x/\x<=g.2/\eR x ms+eL x ms=0)):∀p∈P,f p=f h:=by
 cases P with
 | nil=>intro p hp;cases hp
 | cons k r=>
  have ex:∀g:Int×Int,∃x,g∈Y8 nW->(g.1<x/\x<=g.2)/\(f g.1=f g.2\/eR x ms+eL x ms=0):=λg=>by
   by_cases z:g∈Y8 nW
   ·obtain⟨h1,h2|⟨x,h3,h4,h5⟩⟩:=hg g z
    ·exact⟨g.2,λ_=>⟨⟨h1,zr _⟩,.inl h2⟩⟩
    ·exact⟨x,λ_=>⟨⟨h3,h4⟩,.inr h5⟩⟩
   ·exact⟨0,λh=>vO h z⟩
  let X:=λg=>Classical.choose (ex g)
  have hX:∀g∈Y8 (k::r),(g.1<X g/\X g<=g.2)/\(f g.1=f g.2\/eR (X g) ms+eL (X g) ms=0):=λg hg=>Classical.choose_spec (ex g) hg;have hX':=λg hg=>(hX g hg).1;have w:=qa4 (f:=f) hP hX' (bs:=bs) (λb hbm=>⟨Ee,(mem _).mpr (.inr (.inr ⟨b,hbm,HX⟩)),hb b hbm⟩) ms h l hm.e hm.g (λp q hpq g hgm hc=>by
   rcases (hX g hgm).2 with z|z
   ·exact z
   ·exfalso
    have n1:0<=eR (X g) ms:=q46 kX ms;have n2:0<=eL (X g) ms:=q46 kX ms;have z1:=q6b (F:=λp q=>xR (X g) p q) kX ms (show eR (X g) ms=0 by omega) p q hpq;have z2:=q6b (F:=λp q=>xR (X g) q p) kX ms (show eL (X g) ms=0 by omega) p q hpq;rcases hc with hc|hc
    ·have:xR (X g) p q=1:=vF hc
     rw[z1]at this;cases this
    ·have:xR (X g) q p=1:=vF hc
     rw[z2]at this;cases this)
  have st:=λp hp=>q4b (f:=f) hP hX' p hp;have bx:∀b∈bs,f b.1=f h:=λb hbm=>by
   obtain⟨m,hm',e⟩:=carried hm.g hp hbm;have:=w m hm';rw[e,st _ Ee,st _ ((mem _).mpr bA)]at this;exact this
  intro p hpm;rcases (mem p).mp hpm with rfl|rfl|⟨b,hbm,rfl|rfl⟩
  ·rfl
  ·exact hl.symm
  ·exact bx b hbm
  ·rw[<- hb b hbm];exact bx b hbm
noncomputable def mrg(f:kT)(e:bi):Int->Nat:=λp=>if f p=f e.2 then f e.1 else f p
noncomputable def hitB(P:af)(f:kT)(k:Nat):Bool:=P.any λp=>f p==k
noncomputable def zCa(P:af)(m:Nat)(f:kT):Nat:=((za m).filter (hitB P f)).length
theorem q93{q q':Nat->Bool}{j:Nat}:∀l:List Nat,(∀x∈l,q x=true->q' x=true\/x=j)->(l.filter q).length<=(l.filter q').length+(l.filter λx=>decide (x=j)).length
 | [],_=>zK _
 | x::l,h=>by
  have ih:=q93 l λy hy=>h y VD;have hx:=h x zE;rw[zy,zy,zy]
  by_cases h1:q x=true
  ·rcases hx h1 with h2|h2
   ·rw[IZ,QP]
    split <;> simp only[zJ] <;> omega
   ·rw[IZ,vF (vQ h2)]
    split <;> simp only[zJ] <;> omega
  ·rw[QO]
   split <;> split <;> (try simp only[zJ]) <;> omega
theorem q67(j:Nat):∀l:List Nat,l.Nodup->(l.filter λx=>decide (x=j)).length<=1
 | [],_=>yE _
 | x::l,h=>by
  have hn:=yW.mp h;rw[zy]
  by_cases z:x=j
  ·rw[PQ]
   have:l.filter (λx=>decide (x=j))=[]:=xw.mpr λy hy e=>hn.1 (by rw[z,<- of_decide_eq_true e];exact hy);rw[this];exact zK _
  ·rw[vG ⇑z];exact q67 j l hn.2
theorem qi2(P:af)(m:Nat)(f:kT)(e:bi):zCa P m f<=zCa P m aa2+1:=by
 have h1:=q93 (q:=hitB P f) (q':=hitB P aa2) (j:=f e.2) (za m) λk _ hk=>by
  by_cases z:k=f e.2
  ·exact .inr z
  ·left
   obtain⟨p,hp,e1⟩:=wW.mp hk;have e1:f p=k:=by simpa using e1
   refine wW.mpr ⟨p,hp,?_⟩;have:mrg f e p=k:=by unfold mrg;rw[vG (by rw[e1];exact z)];exact e1
   rw[this];simp
 have h2:=q67 (f e.2) (za m) xt;unfold zCa;omega
theorem qar(P:af)(m:Nat):∀(ex:ae)(f:kT),zCa P m f<=zCa P m (ex.foldl mrg f)+ex.length
 | [],f=>zK _
 | e::ex,f=>by
  have h1:=qi2 P m f e;have h2:=qar P m ex aa2;rw[wL,zJ];omega
theorem qgI{f:kT}{e:bi}{u v:Int}(h:f u=f v):mrg f e u=mrg f e v:=by unfold mrg;rw[h]
theorem q4Q:∀(ex:ae){f:kT}{u v:Int},f u=f v->(ex.foldl mrg f) u=(ex.foldl mrg f) v
 | [],_,_,_,h=>h
 | e::ex,f,u,v,h=>by rw[wL];exact q4Q ex (qgI h)
theorem q9K:∀(ex:ae){f:kT}{e:bi},e∈ex->(ex.foldl mrg f) e.1=(ex.foldl mrg f) e.2
 | [],_,_,h=>by cases h
 | e'::ex,f,e,h=>by
  rw[wL];rcases zH.mp h with rfl|h
  ·refine q4Q ex ?_
   unfold mrg;rw[vF (rfl:f e.2=f e.2)]
   split <;> rfl
  ·exact q9K ex h
theorem qiG{P:af}{m c:Nat}{f:kT}(h:∀p∈P,f p=c):zCa P m f<=1:=by
 have h1:=q93 (q:=hitB P f) (q':=λ_=>false) (j:=c) (za m) λk _ hk=>by
  obtain⟨p,hp,e1⟩:=wW.mp hk;have e1:f p=k:=by simpa using e1
  exact .inr (by rw[<- e1];exact h p hp)
 have h2:=q67 c (za m) xt;have h3:((za m).filter λ_=>false).length=0:=by simp
 unfold zCa;omega
noncomputable def zCG:List af->Int->Nat
 | [],_=>0
 | g::gs,p=>if p∈g then 0 else zCG gs p+1
theorem q6M:∀{gs:ce},gs.flatten.Nodup->∀{k:Nat}{g:af}{p:Int},gs[k]?=some g->p∈g->zCG gs p=k
 | [],_,k,g,p,h,_=>by cases h
 | g'::gs,hn,k,g,p,h,hp=>by
  rw[yA,yc]at hn;cases k with
  | zero=>cases h;exact vF hp
  | succ k=>
   have hg:gs[k]?=some g:=h;have hf:p∈gs.flatten:=xu.mpr ⟨g,zz hg,hp⟩;show (if p∈g' then 0 else zCG gs p+1)=k+1;rw[vG (λz=>hn.2.2 p z p hf rfl),q6M hn.2.1 hg hp]
theorem qgC{gs:ce}(hn:gs.flatten.Nodup){g:af}(hg:g∈gs){p q:Int}(hp:p∈g)(hq:q∈g):zCG gs p=zCG gs q:=by
 obtain⟨k,hk,rfl⟩:=zf.mp hg;rw[q6M hn Nr hp,q6M hn Nr hq]
open Classical in
theorem qjc{P:af}{h l:Int}{bs:ae}{ms:iO}{r:cg}(hP:P.Pairwise (· < ·))(hm:pA)(hp:cR)(mem:∀p,p∈P↔p=h\/p=l\/∃b∈bs,p=b.1\/p=b.2)(lt:∀g∈Y8 P,g.1<g.2)(L:Lev P (bs++mo++(Y8 P).filter λq=>! dE) r):
  r.2.length<=(((Y8 P).filter λg=>decide pT).filter λg=>decide Al).length+1:=by
 have hPn:P.Nodup:=hP.imp λ{a b} h e=>∅
 have hn:r.2.flatten.Nodup:=L.pm.nodup_iff.mpr hPn;generalize hex:(((Y8 P).filter λg=>decide pT).filter λg=>decide Al)=ex;have full:zCa P r.2.length JA=r.2.length:=by
  unfold zCa;rw[yy.mpr λk hk=>?_,zo];have hk:=yU.mp hk;have hne:=L.ne _ (yQ hk);obtain⟨p,hp⟩:=ZE _ hne;refine wW.mpr ⟨p,L.pm.mem_iff.mp (xu.mpr ⟨_,yQ hk,hp⟩),?_⟩;rw[q6M hn Nr hp];simp
 have tie:∀e∈(bs++[(h,l)]++(Y8 P).filter λq=>! dE)++(Y8 P).filter (λq=>decide (q.2-q.1<r.1)),(ex.foldl mrg JA) e.1=(ex.foldl mrg JA) e.2:=λe he=>by
  obtain⟨g,hg,h1,h2⟩:=L.tie e he;exact q4Q ex (qgC hn hg h1 h2)
 have one:=qhP (f:=ex.foldl mrg JA) hP hm hp mem (λb hb=>tie b (by simp[hb])) (tie (h,l) (by simp)) λg hg=>by
  refine⟨lt g hg,?_⟩
  by_cases z1:XQ h l bs g=0
  ·by_cases z2:g.2-g.1<r.1
   ·exact .inl (tie g (zO _ (yG.mpr ⟨hg,vQ z2⟩)))
   ·by_cases z3:walked h l bs ms g
    ·exact .inl (q9K ex (by rw[<- hex];exact yG.mpr ⟨yG.mpr ⟨hg,vQ z3⟩,vQ ∅⟩))
    ·right
     have:¬∀x,g.1<x->x<=g.2->eR x ms+eL x ms≠0:=λz=>z3 ⟨z1,z⟩;obtain⟨x,hx⟩:=Classical.not_forall.mp this;obtain⟨a1,hx⟩:=Classical.not_imp.mp hx;obtain⟨a2,hx⟩:=Classical.not_imp.mp hx;exact⟨x,a1,a2,Classical.not_not.mp hx⟩
  ·exact .inl (tie g (zW _ (zO _ (yG.mpr ⟨hg,by simpa using z1⟩))))
 have h1:=qar P r.2.length ex JA;have h2:=qiG (m:=r.2.length) one;omega
theorem q7u{α:Type}(c:Int)(q:Ta):∀S:List α,c*((S.filter q).length:Int)=(S.map λg=>if q g=true then c else 0).sum
 | []=>by simp
 | g::S=>by
  rw[zy,zI,zV,<- q7u c q S]
  split
  ·rw[zJ,Zo,wf];simp;omega
  ·omega
theorem qeM(S:ae):∀(rows:pL)(a:Int),zCE a rows->(∀r∈rows,r.2.length<=(S.filter λg=>decide Al).length+1) ->
  wgh a rows<=(S.map λg=>if g.2-g.1<a then 0 else g.2-g.1-a).sum
 | [],a,_,_=>by
  show nN<=_;have:=q4K (f:=λ_=>nN) (f':=λg:Int×Int=>if g.2-g.1<a then 0 else g.2-g.1-a) (xs:=S) λg _=>by split <;> omega
  have z:(S.map λ_=>nN).sum=0:=by
   have:=q7u nN Bp S;simpa using this.symm
  omega
 | r::rs,a,⟨h1,h2⟩,h=>by
  have ih:=qeM S rs r.1 h2 λx hx=>h x jT;have hr:=h r zE;show Fx*(kG-1)+wgh r.1 rs<=_;have s1:Fx*(kG-1)<=Fx*((S.filter λg=>decide Al).length:Int):=Int.mul_le_mul_of_nonneg_left ∅ ∅;rw[q7u]at s1;have e3:∀(f f':di)(xs:ae),(xs.map λg=>f g+f' g).sum=(xs.map f).sum+(xs.map f').sum:=λf f' xs=>by
   induction xs with
   | nil=>rfl
   | cons x xs ih=>rw[zI,zI,zI,zV,zV,zV,ih];omega
  have s2:=q4K (xs:=S) (f:=λg=>(if decide Al=true then r.1-a else 0)+(if g.2-g.1<r.1 then 0 else g.2-g.1-r.1)) (f':=λg=>if g.2-g.1<a then 0 else g.2-g.1-a) λg _=>by
   by_cases z:r.1<=g.2-g.1
   ·rw[PQ,fO,fO];omega
   ·rw[vG ⇑z,jP];split <;> omega
  rw[e3]at s2;omega
open Classical in
theorem qe3{P:af}{h l:Int}{bs:ae}{ms:iO}{rows:pL}(hP:P.Pairwise (· < ·))(hne:P≠[])(hm:pA)(hp:cR)(mem:∀p,p∈P↔p=h\/p=l\/∃b∈bs,p=b.1\/p=b.2)(G:∀g∈Y8 P,Gap h l bs g)(ris:Il)(L:∀r∈rows,Lev P (bs++mo++(Y8 P).filter λq=>! dE) r):
  ((Y8 P).map λg=>i9*ja).sum+2*wgh 0 rows<=(ms.map zDC).sum:=by
 have w:=qjN hP hne G hm hp;have lv:=qeM ((Y8 P).filter λg=>decide pT) rows 0 ris λr hr=>qjc hP hm hp mem (λg hg=>(G g hg).lt) (L r hr);have s:∀xs:List bi,(∀g∈xs,g.1<g.2)->2*((xs.filter λg=>decide pT).map λg=>if g.2-g.1<0 then 0 else g.2-g.1-0).sum=(xs.map λg=>if walked h l bs ms g then 2*i9 else 0).sum:=λxs hx=>by
  induction xs with
  | nil=>rfl
  | cons g xs ih=>
   have ih:=ih λg hg=>hx g VF;have hg:=hx g zE;rw[zy,zI,zV,<- ih]
   by_cases z:walked h l bs ms g
   ·rw[PQ,fQ,zI,zV,fO];omega
   ·rw[vG ⇑z,fI];omega
 have s':=s (Y8 P) λg hg=>(G g hg).lt;omega
theorem Cls.low{ts:af}{es:ae}{g:af}{a:Int}(c:Po):∀x∈g,a<=x:=λx hx=>by
 have h:=c.hd;have u:=c.up;cases g with
 | nil=>cases hx
 | cons b r=>
  cases h;rcases zH.mp hx with rfl|hx
  ·exact zr _
  ·exact yf ((zZ.mp u).1 x hx)
theorem GS.apart{ts:af}{es:ae}{gs:ce}{hs:af}(h:pC){i j:Nat}{g g':af}{c:Int}(e1:gs[i]?=some g)(e2:gs[j]?=some g')(h1:c∈g)(h2:c∈g'):i=j:=by
 have li:=(zj.mp e1).1;have lj:=(zj.mp e2).1;rw[h.len]at li lj;have c1:=h.cls i g _ e1 (zD li);have c2:=h.cls j g' _ e2 (zD lj);have r1:=(c1.mem c).mp h1;have r2:=(c2.mem c).mp h2;have a1:=c1.low _ ((c1.mem _).mpr (r1.trans r2.symm));have a2:=c2.low _ ((c2.mem _).mpr (r2.trans r1.symm));rcases Nat.lt_trichotomy i j with z|z|z
 ·have:=ya.mp h.up i j li lj z;omega
 ·exact z
 ·have:=ya.mp h.up j i lj li z;omega
theorem qbj:∀{gs:ce},(∀g∈gs,g.Nodup)->(∀(i j:Nat)g g' c,gs[i]?=some g->gs[j]?=some g'->c∈g->c∈g'->i=j)->gs.flatten.Nodup
 | [],_,_=>xY
 | g::gs,h1,h2=>by
  rw[yA,yc];refine⟨h1 g zE,qbj (λg hg=>h1 g VF) (λi j a b c e1 e2 m1 m2=>?_),λx hx y hy e=>?_⟩
  ·have:=h2 (i+1) (j+1) a b c e1 e2 m1 m2;omega
  ·subst e
   obtain⟨g',hg',hx'⟩:=xu.mp hy;obtain⟨j,hj,rfl⟩:=zf.mp hg';have:=h2 0 (j+1) g _ x rfl (zD hj) hx hx';omega
theorem GS.flat{ts:af}{es:ae}{gs:ce}{hs:af}(ok:Kt)(h:pC)(all:∀t∈ts,∃g∈gs,t∈g):gs.flatten.Perm ts:=by
 have nd:gs.flatten.Nodup:=qbj (λg hg=>by
  obtain⟨a,_,c⟩:=h.one hg;exact c.up.imp λ{a b} h e=>∅) λi j g g' c e1 e2 m1 m2=>h.apart e1 e2 m1 m2
 refine(wx nd ok.nd).mpr λx=>⟨λhx=>?_,λhx=>?_⟩
 ·obtain⟨g,hg,hx⟩:=xu.mp hx
  obtain⟨a,_,c⟩:=h.one hg;exact((c.mem x).mp hx).mem ok c.inn
 ·obtain⟨g,hg,hx⟩:=all x hx
  exact xu.mpr ⟨g,hg,hx⟩
theorem qjy{P:af}{es kn:ae}{gs:ce}{hs:af}{t:Int}(ok:Ok P es)(h:GS P es gs hs)(all:∀t∈P,∃g∈gs,t∈g)(sub:∀e∈kn++(Y8 P).filter (λq=>decide Bx),e∈es):Lev P kn (t,gs) where
 ne:=λg hg e=>by
  obtain⟨a,_,c⟩:=h.one hg;have:=c.hd;rw[e]at this;cases this
 pm:=h.flat ok all
 tie:=λe he=>by
  have he:=sub e he;obtain⟨g,hg,h1⟩:=all _ (ok.inn e he).1;obtain⟨a,_,c⟩:=h.one hg;exact⟨g,hg,h1,(c.mem _).mpr (((c.mem _).mp h1).step (.inl he))⟩
noncomputable def nmP:Nat->List af->List j6
 | _,[]=>[]
 | k,g::gs=>(k,g)::nmP (k+1) gs
noncomputable def kkP(ps:Rv):List Int:=ps.flatMap (·.2)
noncomputable def vvP(ps:Rv):List D:=ps.flatMap λp=>p.2.map λ_=>D.int aaY
theorem q5D:∀(k:Nat)(gs:ce),kkP TB=gs.flatten
 | _,[]=>rfl
 | k,g::gs=>by show g++kkP Ma=_;rw[q5D];rfl
theorem qdB:∀ps:List j6,(kkP ps).length=(vvP ps).length
 | []=>rfl
 | p::ps=>by show (p.2++kkP ps).length=((p.2.map λ_=>D.int aaY)++vvP ps).length;rw[zB,zB,zA,qdB ps]
theorem qc8{α:Type}(v:α):∀(g:af){x:Int},x∈g->Xe g acs x=some v
 | [],_,h=>by cases h
 | y::g,x,h=>by
  show (if y=x then some v else Xe g acs x)=some v
  by_cases z:y=x
  ·rw[fQ]
  ·rw[fI]
   rcases zH.mp h with rfl|h
   ·exact vO rfl z
   ·exact qc8 v g h
theorem qax{α:Type}:∀{a:af}{c:bB}{b:af}{d:bB}{x:Int},a.length=c.length->x∈a->Xe Du (c++d) x=Xe a c x
 | [],_,_,_,_,_,h=>by cases h
 | _::_,[],_,_,_,h,_=>by simp at h
 | y::a,v::c,b,d,x,hl,h=>by
  show (if y=x then some v else Xe Du (c++d) x)=if y=x then some v else Xe a c x
  by_cases z:y=x
  ·rw[fQ,fQ]
  ·rw[fI,fI]
   rcases zH.mp h with rfl|h
   ·exact vO rfl z
   ·exact qax ⇑hl h
theorem q8z{α:Type}:∀{a:af}{c:bB}{b:af}{d:bB}{x:Int},a.length=c.length->x∉a->Xe Du (c++d) x=Xe b d x
 | [],[],_,_,_,_,_=>rfl
 | [],_::_,_,_,_,h,_=>by simp at h
 | _::_,[],_,_,_,h,_=>by simp at h
 | y::a,v::c,b,d,x,hl,h=>by
  show (if y=x then some v else Xe Du (c++d) x)=_;rw[vG (λz=>h (by rw[z];exact zE))];exact q8z ⇑hl λz=>h (zF _ z)
theorem q52:∀{gs:ce}{k:Nat},gs.flatten.Nodup->∀{j:Nat}{g:af}{x:Int},gs[j]?=some g->x∈g->Xe (kkP TB) (vvP TB) x=some (.int ((k+j:Nat):Int))
 | [],k,_,j,g,x,h,_=>by cases h
 | g'::gs,k,hn,j,g,x,h,hx=>by
  rw[yA,yc]at hn;show Xe (g'++kkP Ma) ((g'.map λ_=>D.int jb)++vvP Ma) x=_;cases j with
  | zero=>cases h;rw[qax (by rw[zA]) hx,qc8 _ _ hx];rfl
  | succ j=>
   have hg:gs[j]?=some g:=h;have hf:x∈gs.flatten:=xu.mpr ⟨g,zz hg,hx⟩;rw[q8z (by rw[zA]) (λz=>hn.2.2 x z x hf rfl),q52 hn.2.1 hg hx,show k+1+j=k+(j+1) by omega]
theorem qgS{gs:ce}(hn:gs.flatten.Nodup){g:af}(hg:g∈gs){p q:Int}(hp:p∈g)(hq:q∈g):∃i:Int,Xe E7 E5 p=some gc/\Xe E7 E5 q=some gc:=by
 obtain⟨k,hk,rfl⟩:=zf.mp hg;exact⟨_,q52 hn Nr hp,q52 hn Nr hq⟩
theorem qc6{α:Type}{ks:af}{xs:bB}{k:Int}(y:α)(h:k∉ks):Wg ks k=ks++[k]/\putA ks xs k y=xs++[y]:=by
 unfold Wg putA;rw[vG h,vG h];exact bY
noncomputable def zAq(r:cg):D:=.tup [.int r.1,.lst (r.2.map gD)]
noncomputable def zAB(bs:ae)(q:bi):D:=.tup [pE,GO,.int O1,.int O4]
noncomputable def edD(q:bi):D:=.tup [pE,GO,Eb]
noncomputable def Pz(h l:Int)(bs:ae):List Int:=Xa bM
noncomputable def Kn(h l:Int)(bs:ae):List bi:=bs++mo++(Y8 aF).filter λq=>! dE
theorem q4P{h l:Int}{bs:ae}(hb:bv):(Y8 aF).length<=1000:=by
 rw[q0z];have:=(stp h l hb).len;unfold Pz;omega
theorem q5J(h l:Int)(bs:ae):(Pz h l bs).Pairwise (· < ·):=q0B
theorem q58{h l:Int}{bs:ae}(hb:bv):(Pz h l bs).length<64:=by
 have h1:(Pz h l bs).length<=(plc h l bs).length:=q1w _;have h2:(plc h l bs).length=2*bs.length+2:=by show (flat bs).length+1+1=_;rw[q4n]
 omega
theorem q5p{h l:Int}{bs:ae}(hb:bv):q0L cN=some (.fr J7):=by
 unfold q0L q3E;have hl:((Y8 aF).map XJ).length<=1000000:=by rw[zA];have:=q4P (h:=h) (l:=l) hb;omega
 have cm:=qB (i:=0) (f:=q39) XJ AB BD (ω:=[none,↥av]) (λq hq=>by
  have c:=q4D (bs:=bs) (q:=q) ∅;have ha:X3 Ss DY=↥VL:=rfl;unfold q39;simp_arith[c,ha])
 have g:=q47 (h:=h) (l:=l) hb;rw[show Xa bM=Pz h l bs from rfl]at g;simp_arith[g,Kr,inW,Ws,cm]
theorem qck(n:Int):qW [Eu]=↥cp:=q30 (d:=.int n) rfl
theorem q7a(ns:af):X5 fG Xm q38 cY GK=some (ns.map λ_=>D.bl true):=qB D.int pG ns λn _=>by
 unfold q38;simp_arith[qck]
theorem q5G{α:Type}(xs:bB):allB (xs.map λ_=>D.bl true)=some true:=by
 rw[q9v Bp xs];simp
theorem qfE{ns:af}(h:ns.length<=1000):q01 [.tup cY]=↥cp:=by
 unfold q01 q2g;have hl:(ns.map D.int).length<=1000000:=by rw[zA];omega
 simp_arith[Kr,inW,Ws,q7a,zAr,q5G]
theorem qgQ{ns:af}(h:ns.length<=1000):q01 [Lh]=↥cp:=by
 unfold q01 q2g;have hl:(ns.map D.int).length<=1000000:=by rw[zA];omega
 simp_arith[Kr,inW,Ws,q7a,zAr,q5G]
theorem qir(bs:ae)(q:bi):(zAB bs q).py.canLay0=true/\(zAB bs q).py.depth<=2:=⟨rfl,by show 1<=2;decide⟩
theorem qfy(bs gs:ae):shp J3=true:=q5N 2 (by decide) λd hd=>by
 obtain⟨q,_,rfl⟩:=zu.mp hd;exact qir bs q
theorem q8J{bs gs:ae}(h:gs.length<=1000):q0W [J3,J3]=↥cp:=by
 unfold q0W q2Y;have hl:(gs.map AB).length<=1000000:=by rw[zA];omega
 have cm:=qB (i:=0) (f:=q2y) AB pG gs (ω:=GK) (λq hq=>by
  have w:=qfE (ns:=[q.1,q.2,O1,O4]) (by show 4<=1000;decide);rw[show D.tup ([q.1,q.2,O1,O4].map D.int)=zAB bs q from rfl]at w;unfold q2y;simp_arith[w])
 simp_arith[q26 (qfy bs gs),Kr,inW,Ws,cm,zAr,q5G]
theorem qaR{g:af}(hn:g≠[])(h:g.length<=1000):q1M [gD g]=↥cp:=by
 unfold q1M q4g gD;have w:=qgQ h;have hp:nN<(g.length:Nat):=by have:=wH.mpr hn;omega
 simp_arith[w,hp,decide_true]
theorem qeC{P:af}{gs:ce}(hP:P.Pairwise (· < ·))(h:abb):XZ gs.flatten=P:=by
 have hn:P.Nodup:=hP.imp λ{a b} z=>Int.ne_of_lt z;exact q1a q0C (hP.imp λ{a b} z=>yf z) ((qz (l:=gs.flatten)).trans h)
theorem q6k(ns:af):shp Lh=true:=q5N 2 (by decide) λd hd=>by
 obtain⟨q,_,rfl⟩:=zu.mp hd;exact⟨rfl,by show 0<=2;decide⟩
theorem q5Y:∀{gs:ce}{g:af},g∈gs->g.length<=gs.flatten.length
 | g'::gs,g,h=>by
  rw[yA,zB];rcases zH.mp h with rfl|h
  ·omega
  ·have:=q5Y h;omega
theorem q5g:∀{gs:ce},(∀g∈gs,g≠[])->gs.length<=gs.flatten.length
 | [],_=>zK _
 | g::gs,h=>by
  rw[yA,zB,zJ];have:=q5g (gs:=gs) λg hg=>h g VF;have:=wH.mpr (h g zE);omega
theorem q8M{P:af}{gs:ce}(hP:P.Pairwise (· < ·))(hl:P.length<64)(ne:∀g∈gs,g≠[])(pm:abb):q0U [bQ,kw]=↥cp:=by
 unfold q0U q2L;have fl:gs.flatten.length<64:=by rw[pm.length_eq];exact hl
 have gl:=q5g ne;have hl2:(gs.map gD).length<=1000000:=by rw[zA];omega
 have cm:=qB (i:=0) (f:=q2A) gD pG gs (ω:=GK) (λg hg=>by
  have w:=qaR (ne g hg) (by have:=q5Y hg;omega);unfold q2A;simp_arith[w])
 simp_arith[OD,inW,Ws,cm,zAr,q5G];obtain⟨ω',e,x3,rfl⟩:=qQ (g:=gN 3) (b:=q2z) gD gs
  (λpre ω=>∃x3,ω=[↥bQ,↥kw,Iq,x3])
  (λpre g post ω hd ⟨x3,hω⟩=>by
   subst hω;refine cn;have hle:(pre.flatten.map D.int).length+(g.map D.int).length<=1000000:=by
    have:=v7 (λz=>z.flatten.length) hd;simp only[wm,yA,zB]at this;rw[zA,zA];omega
   have e1:=q4N (i:=2) (ω:=ko) (ds:=pre.flatten.map D.int) (ds':=g.map D.int) hle;unfold q2z;show zBT (zC7 2 cP ko) _;simp_arith[e1];have ef:(pre++[g]).flatten=pre.flatten++g:=by rw[wm,yA,Yc,zi]
   rw[ef,zX];exact bw)
  (ω:=[↥bQ,↥kw,rn,none]) Fg
 simp_arith[e,qcc fl,qeC hP pm,q26 (q6k P)]
noncomputable def nmD(p:j6):D:=.tup [.int aaY,gD p.2]
theorem qbr:∀(k:Nat)(gs:ce),zAC k nX=(nmP k gs).map nmD
 | _,[]=>rfl
 | k,g::gs=>by show D.tup [Lj,gD g]::zAC (k+1) nX=_;rw[qbr];rfl
theorem qdq(a b:Rv):kkP Du=kkP a++kkP b:=by unfold kkP;rw[xo]
theorem qjS(a b:Rv):vvP Du=vvP a++vvP b:=by unfold vvP;rw[xo]
theorem q76{gs:ce}(nd:gs.flatten.Nodup)(fl:TN):qS [bQ]=↥(.dic E7 E5):=by
 unfold qS q1z;simp_arith[qbr];have nd':(kkP fj).Nodup:=by rw[q5D];exact nd
 have fl':(kkP fj).length<64:=by rw[q5D];exact fl
 generalize nmP 0 gs=ps at nd' fl';obtain⟨ω',e,x2,x3,x4,rfl⟩:=qQ (g:=gT 2 Ap) (b:=q1n) nmD ps
  (λpre ω=>∃x2 x3 x4,ω=[↥bQ,KM,x2,x3,x4])
  (λpre p post ω hd ⟨x2,x3,x4,hω⟩=>by
   subst hω;refine cn;unfold q1n;obtain⟨k,g⟩:=p;rw[hd,qdq]at nd' fl';show zBT (zAO _ _ _ lQ) _;simp_arith[q00];obtain⟨ω',e,y4,rfl⟩:=qQ (g:=gN 4) (b:=q1p) D.int g
    (λpre' ω=>∃y4,ω=[↥bQ,some (.od (kkP pre++pre') (vvP pre++pre'.map λ_=>D.int jb)),↥Lj,CG,y4])
    (λpre' c post' ω hd' ⟨y4,hω⟩=>by
     subst hω;refine cn;have nd2:(kkP pre++(pre'++c::post')).Nodup:=by
      have:(kkP pre++(g++kkP post)).Nodup:=nd';rw[hd',<- zL]at this;exact(yc.mp this).1
     have hnew:c∉kkP pre++pre':=λm=>by
      rw[<- zL]at nd2;exact(yc.mp nd2).2.2 c m c zE rfl
     have hlen:(kkP pre++pre').length<1000000:=by
      have:(kkP pre++(g++kkP post)).length<64:=fl';rw[hd']at this;simp only[zB,zJ]at this ⊢;omega
     obtain⟨p1,p2⟩:=qc6 (xs:=vvP pre++pre'.map λ_=>D.int jb) (D.int jb) hnew;unfold q1p;simp_arith[q41 hlen,p1,p2,zL];exact⟨_,by rw[zX];rfl⟩)
    (ω:=lQ) ⟨x4,by rw[zi,yb,zi]⟩
   simp_arith[e];have ek:kkP acg=kkP pre++g:=by
    rw[qdq];show kkP pre++(g++[])=_;rw[zi]
   have ev:vvP acg=vvP pre++g.map λ_=>D.int jb:=by
    rw[qjS];show vvP pre++((g.map λ_=>D.int jb)++[])=_;rw[zi]
   rw[ek,ev];exact rP)
  (ω:=[↥bQ,oT,none,none,none]) B0
 simp_arith[e]
theorem qg6{gs:ce}{ds:aW}(nd:gs.flatten.Nodup)(fl:TN)(hl:ds.length<=10000)(h:∀d∈ds,∃a b r,d=.tup (.int a::.int b::r)/\∃g∈gs,a∈g/\b∈g):
  q05 [bQ,eS]=↥cp:=by
 unfold q05 q1o;have hl2:ds.length<=1000000:=∅
 have cm:=q3u (i:=0) (f:=q1e) pG ds (ω:=[none,↥(.dic E7 E5)]) (λd hd=>by
  obtain⟨a,b,r,rfl,g,hg,h1,h2⟩:=h d hd;obtain⟨i,v1,v2⟩:=qgS nd hg h1 h2;unfold q1e;have q:oEq false gc gc=↥cp:=q26 rfl;simp_arith[v1,v2,q])
 simp_arith[q76 nd fl,OD,inW,Ws,cm,zAr,q5G]
theorem qhM(q:bi):q0p [edD q]=↥Eb:=by
 unfold q0p q9B edD;simp_arith[q00]
theorem qbg{P:af}{kn:ae}{r:cg}(hP:P.Pairwise (· < ·))(hl:P.length<64)(hk:kn.length<=1000)(L:Lev P kn r):
  q1N [zAq r,kw,aaC,.lst ((Y8 P).map edD)]=↥cp:=by
 obtain⟨t,gs⟩:=r;have hPn:P.Nodup:=hP.imp λ{a b} z=>Int.ne_of_lt z;have nd:gs.flatten.Nodup:=L.pm.nodup_iff.mpr hPn;have fl:gs.flatten.length<64:=by rw[L.pm.length_eq];exact hl
 have glen:(Y8 P).length<=64:=by rw[q0z];omega
 unfold q1N q4e zAq;have ag:=q8M hP hl L.ne L.pm;have hl2:((Y8 P).map edD).length<=1000000:=by rw[zA];omega
 have cm:=q4u (i:=0) (c:=q3H) (f:=q3B) (λq=>decide Bx) edD edD (Y8 P) (ω:=[none,↥(.tup [.int t,bQ])]) (λq hq=>by
  unfold q3H q3B;have c:=qhM q;simp_arith[c];exact⟨trivial,λ_=>trivial⟩)
 have fil_len:((Y8 P).filter λq=>decide Bx).length<=64:=yD (yN _ _) glen;have ad:X3 aaC (.lst (((Y8 P).filter λq=>decide Bx).map edD))=some (.fr (kn.map XJ++((Y8 P).filter λq=>decide Bx).map edD)):=q0H (by rw[zA,zA];omega);have ho:=qg6 (gs:=gs) (ds:=kn.map XJ++((Y8 P).filter λq=>decide Bx).map edD) nd fl (by rw[zB,zA,zA];omega) λd hd=>by
  rcases zM.mp hd with z|z
  ·obtain⟨q,hq,rfl⟩:=zu.mp z
   exact⟨q.1,q.2,[],rfl,L.tie q (zW _ hq)⟩
  ·obtain⟨q,hq,rfl⟩:=zu.mp z
   exact⟨q.1,q.2,[Eb],rfl,L.tie q (zO _ hq)⟩
 have l2:Uu=true:=rfl;simp_arith[l2,qck,ag,OD,inW,Ws,cm,ad,ho]
theorem qco:∀(xs ys:af),zAd iF Ew=(xs.zip ys).map XJ
 | x::xs,y::ys=>by show D.tup [Kw,.int y]::zAd iF Ew=_;rw[qco xs ys];rfl
 | [],ys=>by cases ys <;> rfl
 | x::xs,[]=>rfl
theorem qc5:∀{rows:pL}{a:Int},zCE a rows->((a::rows.map (·.1)).zip (rows.map (·.1))).all Oh=true
 | [],a,_=>rfl
 | r::rs,a,⟨h1,h2⟩=>by
  show (decide (a<r.1)&&((r.1::rs.map (·.1)).zip (rs.map (·.1))).all Oh)=true;rw[vQ h1,qc5 h2];rfl
theorem qit{rows:pL}(h:Il)(hl:BS):q0a [.lst M1]=↥cp:=by
 unfold q0a q1B;have e0:M1=(rows.map (·.1)).map D.int:=by rw[yK];rfl
 have ad:X3 (.lst [Pr]) (.lst ((rows.map (·.1)).map D.int))=some (.fr ((0::rows.map (·.1)).map D.int)):=q0H (by rw[zA,zA,zR];omega);have hl2:(((0::rows.map (·.1)).zip (rows.map (·.1))).map XJ).length<=1000000:=by rw[zA,xP,zA];omega
 have cm:=q2D (g:=gT 2 eW) (c:=Xm) (f:=q1q) (λw=>∃a b,w=BB) Bp XJ (λp=>D.bl (decide (p.1<p.2))) ((0::rows.map (·.1)).zip (rows.map (·.1))) (ω:=Lz) nD (λp _ w ⟨a,b,hw⟩=>by
  subst hw;refine⟨[↥(.int p.1),↥(.int p.2)],rfl,nD,rfl,eN⟩;unfold q1q;simp_arith[q00])
 rw[PF]at cm;rw[e0];have tz:zAd (.int 0::(rows.map (·.1)).map D.int) ((rows.map (·.1)).map D.int)=((nN::rows.map (·.1)).zip (rows.map (·.1))).map XJ:=qco (0::YT Prod.fst rows) (YT Prod.fst rows);simp_arith[ad,tz,OD,inW,Ws,cm,zAr,q9v,qc5 h]
theorem q6f{h l:Int}{bs:ae}(hb:bv):q0i cN=some (.fr Vs):=by
 unfold q0i q3L;have hl:((Y8 aF).map XJ).length<=1000000:=by rw[zA];have:=q4P (h:=h) (l:=l) hb;omega
 have cm:=qB (i:=0) (f:=q3b) XJ edD BD (ω:=GK) (λq hq=>by
  obtain⟨a,b⟩:=q;unfold q3b XJ edD;simp_arith[q00])
 have g:=q47 (h:=h) (l:=l) hb;rw[show Xa bM=Pz h l bs from rfl]at g;simp_arith[g,Kr,inW,Ws,cm]
theorem qjj{h l:Int}{bs:ae}(hb:bv):(Kn h l bs).length<=1000:=by
 unfold Kn;have h1:=yN (λq=>! dE) BD;have h2:(Y8 aF).length<=64:=by rw[q0z];have:=q58 (h:=h) (l:=l) hb;omega
 rw[zB,zB,zR];omega
theorem q8I{h l:Int}{bs:ae}{rows:pL}(hb:bv)(hr:BS)(ris:Il)(L:∀r∈rows,Lev aF ET r):
  q16 [gR,jh,av,Vn]=↥cp:=by
 unfold q16 q32;have s:=q4v (h:=h) (l:=l) hb;have k:=q6l (h:=h) (l:=l) hb;rw[show Xa bM=Pz h l bs from rfl]at s k;rw[show (bs++mo++(Y8 aF).filter λq=>! dE)=Kn h l bs from rfl]at k;have ed:=q6f (h:=h) (l:=l) hb;have hl:(rows.map zAq).length<=1000000:=by rw[zA];omega
 have c1:=qB (i:=0) (f:=q2B) zAq pG rows (ω:=[none,↥(.lst ((Pz h l bs).map D.int)),↥(.lst ((Kn h l bs).map XJ)),↥(.lst Vs)]) (λr hr=>by
  have il:=qbg (q5J h l bs) (q58 hb) (qjj hb) (L r hr);unfold q2B;simp_arith[il])
 have c2:=qB (i:=0) (f:=q2t) zAq (λr=>D.int r.1) rows (ω:=GK) (λr hr=>by
  unfold q2t zAq;simp_arith[q00])
 simp_arith[s,k,ed,Kr,inW,Ws,c1,c2,zAr,q5G,qit ris hr]
theorem q9s{h l:Int}{bs:ae}{rows:pL}(hb:bv)(hr:BS)(ris:Il)(L:∀r∈rows,Lev aF ET r):
  q1f [gR,jh,av,iW]=↥cp:=by
 unfold q1f q3R;have c:=q9Z (h:=h) (l:=l) (bs:=bs) ∅;have l2:Uu=true:=rfl;simp_arith[l2,c,q5p hb,q8J (q4P hb),q8I hb hr ris L]
theorem q7n{D0 D1:cb}:∀(rows:pL)(tot a:Int)(x4 x5:cb),(∀r∈rows,r.2.length<=1000)->∃a' y4 y5,zAe abc q2G mj [D0,↥BY,↥(.int tot),↥bP,x4,x5] =
  some (.nx,[D0,↥BY,↥(.int (tot+wgh a rows)),↥(.int a'),y4,y5])
 | [],tot,a,x4,x5,_=>⟨a,x4,x5,by show some _=_;rw[show tot+wgh a []=tot from wp _]⟩
 | r::rs,tot,a,x4,x5,h=>by
  obtain⟨t,gs⟩:=r;have hg:=h (t,gs) zE;obtain⟨a',y4,y5,ih⟩:=q7n (D0:=D0) (D1:=D1) rs ab9 t ↥(.int t) ↥(.lst nX) λr hr=>h r (zF _ hr);refine⟨a',y4,y5,?_⟩;have mu:zBZ (.int (t-a)) (.int mW)=↥(.int ((t-a)*mW)):=q6q (by simp only at hg;omega) (by simp only at hg;omega);rw[zI,zAe];show Zt (some rT) _=_;rw[yR];have st:q2G rT=some (.nx,[D0,↥BY,↥(.int ab9),Fj,Fj,↥bQ]):=by
   unfold q2G;simp_arith[mu]
  rw[st];show zAe _ _ _ _=_;rw[ih,show wgh a ((t,gs)::rs)=(t-a)*mW+wgh t rs from rfl,Z3]
theorem qcX{rows:pL}(h:∀r∈rows,r.2.length<=1000):q2n [Vn,BY]=↥SH:=by
 unfold q2n q5r;obtain⟨a',y4,y5,e⟩:=q7n (D0:=↥Vn) (D1:=none) rows 0 0 none none h;simp_arith[e,YU]
theorem q4Y{bs:ae}{q:bi}:0<=rts bs q/\rts bs q<=bs.length/\0<=lfs bs q/\lfs bs q<=bs.length:=by
 unfold rts lfs;have h1:=yN (λp:Int×Int=>over p.1 p.2 q) bs;have h2:=yN (λp:Int×Int=>over p.2 p.1 q) bs;omega
theorem qda{h l:Int}{bs:ae}{q:bi}(hb:bv):-100<=XQ h l bs q/\XQ h l bs q<=100:=by
 unfold XQ;have h1:=q4Y (bs:=bs) (q:=q);have h2:=q4Y (bs:=mo) (q:=q);simp only[zR]at h2;omega
noncomputable def gwt(h l:Int)(bs:ae)(g:bi):Int:=i9*ja
theorem q8B{h l:Int}{bs:ae}{q:bi}(hb:bv):q0Q AS=↥(.int acr):=by
 unfold q0Q q2T zAB gwt;have h1:=q4Y (bs:=bs) (q:=q);have h2:=qda (h:=h) (l:=l) (q:=q) hb;have ha:zCI [HW]=↥acR:=rfl;have h3:-100<=Wp dM/\Wp dM<=100:=by unfold Wp;split <;> omega
 have mu:zBZ Eb (.int M0)=↥(.int ((q.2-q.1)*M0)):=q6q ∅ ∅;have a3:∀a b c d:D,atI Qa 3=some d:=λ_ _ _ _=>rfl;simp_arith[ha,a3,mu]
theorem qdO(f:di)(B:Int×Int->D):∀L:List bi,zAd (L.map B) Eh=L.map λq=>D.tup [B q,AH]
 | []=>rfl
 | q::L=>by show D.tup [B q,AH]::zAd (L.map B) Eh=_;rw[qdO f B L];rfl
theorem qez{h l:Int}{bs:ae}{rows:pL}(hb:bv)(hr:BS)(ris:Il)(L:∀r∈rows,Lev aF ET r):
  q3r [gR,jh,av,iW]=↥(.int (((Y8 aF).map CS).sum+2*wgh 0 rows)):=by
 unfold q3r q6t;have lk:=q6h (h:=h) (l:=l) hb;rw[show Xa bM=Pz h l bs from rfl]at lk;have hz:zAd J7 (((Y8 aF).map gk).map D.int)=(Y8 aF).map λq=>D.tup AS:=qdO _ _ _;have hl:((Y8 aF).map λq=>D.tup AS).length<=1000000:=by rw[zA];have:=q4P (h:=h) (l:=l) hb;omega
 have cm:=q2D (g:=gT 2 eW) (c:=Xm) (f:=q4M) (λw=>∃a b,w=BB) Bp (λq=>D.tup AS) (λq=>D.int acr) BD (ω:=Lz) nD (λq _ w ⟨a,b,hw⟩=>by
  subst hw;refine⟨[↥VL,↥HW],rfl,nD,rfl,eN⟩;have g:=q8B (h:=h) (l:=l) (q:=q) hb;unfold q4M;simp_arith[g])
 rw[PF]at cm;have gl:∀r∈rows,r.2.length<=1000:=λr hr=>by
  have h1:=q5g (L r hr).ne;rw[(L r hr).pm.length_eq]at h1;have:=q58 (h:=h) (l:=l) hb;omega
 have wg:=qcX gl;have mu:zBZ Um SH=↥(.int (2*wgh 0 rows)):=q9T (by decide) (by decide);simp_arith[q9s hb hr ris L,lk,hz,Kr,inW,Ws,cm,qak,wg,mu]
theorem qU{h l:Int}{bs:ae}(p:Int):p∈Pz h l bs↔p=h\/p=l\/∃b∈bs,p=b.1\/p=b.2:=by
 unfold Pz;rw[q1t];unfold plc flat;simp only[zH,xH,zk,or_false]
theorem qdZ{P:af}{g:bi}(h:g∈Y8 P):∃(i:Nat) (hi:Q7),g=(P[i],P[i+1]):=by
 obtain⟨i,hi,rfl⟩:=zf.mp h;have hi':=hi;rw[q0z]at hi';have e:=qfI (P:=P) (i:=i) ∅;refine⟨i,∅,?_⟩;rw[zD hi]at e;exact zw e
theorem q1s{P:af}{g:bi}(h:g∈Y8 P):g.1∈P/\g.2∈P:=by
 obtain⟨i,hi,rfl⟩:=qdZ h;exact⟨yQ _,yQ _⟩
theorem q7c{h l:Int}{bs:ae}(hb:bv):∀g∈Y8 (Pz h l bs),Gap h l bs g:=λg hg=>by
 have S:=stp h l hb;obtain⟨i,hi,rfl⟩:=qdZ hg;have am:∀x∈Pz h l bs,x<=(Pz h l bs)[i]\/(Pz h l bs)[i+1]<=x:=λx hx=>Stp.amid (P:=Pz h l bs) S hi hx;exact⟨Stp.lt (P:=Pz h l bs) S ∅ hi ∅,am h ((qU h).mpr bA),am l ((qU l).mpr OL),λb hb=>⟨am _ EX,am _ kE⟩⟩
theorem qkJ{h l:Int}{bs:ae}{e:bi}(he:e∈Kn h l bs):e.1∈Pz h l bs/\e.2∈Pz h l bs:=by
 unfold Kn at he;rcases zM.mp he with he|he
 ·rcases zM.mp he with he|he
  ·exact⟨(qU _).mpr (.inr (.inr ⟨e,he,bA⟩)),(qU _).mpr (.inr (.inr ⟨e,he,HX⟩))⟩
  ·cases zU.mp he
   exact⟨(qU _).mpr bA,(qU _).mpr OL⟩
 ·exact q1s (yG.mp he).1
noncomputable def WG(p q:Int):Int:=if q-p<0 then -(q-p)else q-p
noncomputable def sts(as:ae):List Int:=as.map (·.1)
noncomputable def gls(as:ae):List Int:=as.map (·.2)
theorem qaj:∀(a b:af),PyData.eqvAll DX DW=decide (a=b)
 | [],[]=>rfl
 | [],_::_=>rfl
 | _::_,[]=>rfl
 | x::a,y::b=>by
  show (x==y&&PyData.eqvAll DX DW)=_;rw[qaj a b]
  by_cases z:x=y
  ·subst z
   simp
  ·have:(x==y)=false:=by simpa using z
   rw[this];simp[z]
theorem qg0(a b:af):oEq false (.lst (a.map D.int)) (.lst (b.map D.int))=↥(.bl (decide (a=b))):=by
 unfold oEq;rw[q6k,q6k];show some (R.sh (.bl (PyData.eqvAll DX DW)))=_;rw[qaj]
theorem qiD{as:ae}(hl:Ep):qL [aR]=↥Vo:=by
 unfold qL q0j;have hl2:(as.map Y9).length<=1000000:=by rw[zA];omega
 have c1:=qB (i:=0) (f:=q07) Y9 (λp=>D.int p.1) as (ω:=GK) (λp _=>by
  unfold q07 Y9;simp_arith[q00])
 have c2:=qB (i:=0) (f:=q08) Y9 (λp=>D.int p.2) as (ω:=GK) (λp _=>by
  unfold q08 Y9;simp_arith[q00])
 have e1:(as.map λp=>D.int p.1)=(sts as).map D.int:=by unfold sts;rw[yK];rfl
 have e2:(as.map λp=>D.int p.2)=(gls as).map D.int:=by unfold gls;rw[yK];rfl
 rw[e1]at c1;rw[e2]at c2;have s1:=q8V (ns:=sts as) (by unfold sts;rw[zA];omega);have s2:=q8V (ns:=gls as) (by unfold gls;rw[zA];omega);have q:oEq false (.lst ((XZ (sts as)).map D.int)) (.lst ((XZ (gls as)).map D.int))=↥Vo:=by
  rw[qg0,decide_eq_decide.mpr (qga (l:=sts as) (m:=gls as))]
 simp_arith[OD,inW,Ws,c1,c2,s1,s2,q]
noncomputable def Xj(as:ae)(n:Nat):Int:=(as.getD n (0,0)).1
noncomputable def Xr(as:ae)(n:Nat):Int:=(as.getD n (0,0)).2
inductive Wlk (as:List (Int×Int)):Int->List Nat->Int->Prop where
 | nil (a:Int):Wlk as a [] a
 | cons {a b:Int} {n:Nat} {r:List Nat} (h:Xj as n=a) (t:Wlk as (Xr as n) r b):Wlk as a (n::r) b
theorem Wlk.app{as:ae}{a b c:Int}{r q:bT}(h:Wlk as a r b)(h':Wlk as b q c):Wlk as a (r++q) c:=by
 induction h with
 | nil _=>exact h'
 | cons e _ ih=>exact .cons e (ih h')
theorem Wlk.snoc{as:ae}{a b:Int}{r:bT}{n:Nat}(h:Wlk as a r b)(e:Xj as n=b):Wlk as a (r++[n]) mN:=h.app (.cons e (.nil _))
theorem Wlk.last{as:ae}:∀{r:bT}{a b:Int}{n:Nat},Wlk as a (r++[n]) b->b=Xr as n/\Wlk as a r gW
 | [],a,b,n,h=>by
  cases h with
  | cons e t=>cases t;exact⟨rfl,by rw[<- e];exact .nil _⟩
 | m::r,a,b,n,h=>by
  cases h with
  | cons e t=>
   obtain⟨h1,h2⟩:=Wlk.last t;exact⟨h1,.cons e h2⟩
noncomputable def cS(as:ae)(U:bT)(v:Int):Nat:=U.countP λn=>decide (Xj as n=v)
noncomputable def cD(as:ae)(U:bT)(v:Int):Nat:=U.countP λn=>decide (Xr as n=v)
noncomputable def ind(v h:Int):Int:=if v=h then 1 else 0
def bal(as:ae)(U:bT)(h x:Int):Prop:=∀v,(cS as U v:Int)-cD as U v=ind v h-ind v x
structure HI (as:List (Int×Int)) (s:Int) (U T B:List Nat) (h:Int):Prop where
 all:(U++(T++B)).Perm (za as.length)
 inv:∃x T0 T1,T=T0++T1/\Wlk as s T0 x/\Wlk as x T1 h/\Wlk as x B.reverse s/\bal as U h x
 shut:∀n∈B,∀m∈U,Xj as m≠Xr as n
theorem qiH{as:ae}{U U':bT}{n:Nat}(h:NX)(v:Int):cS as U v=cS as U' v+if Xj as n=v then 1 else 0:=by
 unfold cS;rw[h.countP_eq,wX];simp
theorem qiY{as:ae}{U U':bT}{n:Nat}(h:NX)(v:Int):cD as U v=cD as U' v+if Xr as n=v then 1 else 0:=by
 unfold cD;rw[h.countP_eq,wX];simp
theorem HI.start{as:ae}{s:Int}{U:bT}(hU:U.Perm dX)(hb:∀v,cS as U v=cD as U v):HI as s U [] [] s :=
 ⟨by simpa using hU,⟨s,[],[],rfl,.nil _,.nil _,.nil _,λv=>by rw[hb v];omega⟩,λn hn=>by cases hn⟩
theorem HI.push{as:ae}{s h:Int}{U U' T B:bT}{n:Nat}(I:HI as s U T B h)(hn:NX)(hs:Xj as n=h):HI as s U' (T++[n]) B mN:=by
 obtain⟨x,T0,T1,rfl,w0,w1,w2,b⟩:=I.inv;refine⟨?_,⟨x,T0,T1++[n],by rw[zL],w0,w1.snoc hs,w2,λv=>?_⟩,λk hk m hm=>I.shut k hk m (hn.mem_iff.mpr VE)⟩
 ·refine y0 ?_ I.all
  have h1:(U++BM).Perm ((n::U')++BM):=hn.append_right _;refine y0 ?_ h1.symm;rw[zL (T0++T1) [n] B];have h2:(U'++((T0++T1)++([n]++B))).Perm (U'++([n]++BM)):=yS _ (by
   rw[<- zL,<- zL];exact yx _ yn)
  refine h2.trans ?_;show (U'++(n::BM)).Perm (n::(U'++BM));exact ZP
 ·have:=b v
  have e1:=qiH (as:=as) hn v;have e2:=qiY (as:=as) hn v;unfold ind at this ⊢;rw[hs]at e1
  by_cases z1:v=h <;> by_cases z2:v=Xr as n
  ·rw[vF z1.symm]at e1;rw[vF z2.symm]at e2;rw[vF z1]at this;rw[vF z2];omega
  ·rw[vF z1.symm]at e1;rw[vG Vx]at e2;rw[vF z1]at this;rw[vG z2];omega
  ·rw[vG Vy]at e1;rw[vF z2.symm]at e2;rw[vG z1]at this;rw[vF z2];omega
  ·rw[vG Vy]at e1;rw[vG Vx]at e2;rw[vG z1]at this;rw[vG z2];omega
theorem qbv{as:ae}{U:bT}{v:Int}(h:∀m∈U,Xj as m≠v):cS as U v=0:=by
 unfold cS;rw[Zy];intro m hm;simpa using h m hm
theorem stuck{as:ae}{U:bT}{h x:Int}(b:bal as U h x)(hs:∀m∈U,Xj as m≠h):h=x:=by
 have:=b h;rw[qbv hs]at this;unfold ind at this;rw[jQ]at this
 by_cases z:h=x
 ·exact z
 ·rw[fI]at this;omega
theorem HI.pop{as:ae}{s h:Int}{U T B:bT}{n:Nat}(I:HI as s U (T++[n]) B h)(hs:∀m∈U,Xj as m≠h):HI as s U T (B++[n]) gW:=by
 obtain⟨x,T0,T1,e,w0,w1,w2,b⟩:=I.inv;have hx:=stuck b hs;subst hx;have w:Wlk as s (T++[n]) h:=by rw[e];exact w0.app w1
 obtain⟨e1,e2⟩:=w.last;refine⟨?_,⟨Xj as n,T,[],by rw[zi],e2,.nil _,?_,λv=>by have:=b v;omega⟩,λk hk m hm=>?_⟩
 ·refine y0 (yS _ ?_) I.all
  rw[zL];exact yS _ yn
 ·rw[xT]
  exact .cons rfl (by rw[<- e1];exact w2)
 ·rcases zM.mp hk with y|y
  ·exact I.shut k y m hm
  ·cases zU.mp y
   rw[<- e1];exact hs m hm
structure Rnd (as:List (Int×Int)) (s:Int) (row U:List Nat):Prop where
 all:(U++row).Perm (za as.length)
 walk:Wlk as s row s
 s0:∀m∈U,Xj as m≠s
 shut:∀n∈row,∀m∈U,Xj as m≠Xr as n
 even:∀v,cS as U v=cD as U v
theorem HI.done{as:ae}{s h:Int}{U B:bT}(I:HI as s U [] B h)(hs:∀m∈U,Xj as m≠h):Rnd as s B.reverse U:=by
 obtain⟨x,T0,T1,e,w0,w1,w2,b⟩:=I.inv;obtain⟨rfl,rfl⟩:=List.append_eq_nil_iff.mp e.symm;cases w0;cases w1;refine⟨?_,w2,hs,λn hn=>I.shut n (ym.mp hn),λv=>by have:=b v;omega⟩;have:=I.all;rw[yT]at this;exact(yS _ (List.reverse_perm B)).trans this
theorem Wlk.mem{as:ae}{V:Int->Prop}:∀{r:bT}{a b:Int},Wlk as a r b->V a->(∀n∈r,V mN)->∀n∈r,V gW
 | [],_,_,_,_,_,n,hn=>by cases hn
 | m::r,a,b,h,ha,hv,n,hn=>by
  cases h with
  | cons e t=>
   rcases zH.mp hn with rfl|hn
   ·rw[e];exact ha
   ·exact t.mem (hv m zE) (λk hk=>hv k Fn) n hn
theorem Rnd.full{as:ae}{s:Int}{row U:bT}(R:Rnd as s row U)(hr:∀a∈as,Rch as s a.1):row.length=as.length:=by
 have hU:U=[]:=by
  cases U with
  | nil=>rfl
  | cons m U'=>
   exfalso
   let V:Int->Prop:=λv=>v=s\/∃n∈row,Xr as n=v
   have out:∀v,V v->∀k∈m::U',Xj as k≠v:=λv hv k hk=>by
    rcases hv with rfl|⟨n,hn,rfl⟩
    ·exact R.s0 k hk
    ·exact R.shut n hn k hk
   have inn:∀v,V v->∀k∈m::U',Xr as k≠v:=λv hv k hk e=>by
    have h1:=qbv (as:=as) (out v hv);have h2:=R.even v;rw[h1]at h2;have:cD as (m::U') v=0:=h2.symm;unfold cD at this;rw[Zy]at this;exact this k hk ⇑e
   have row_of:∀(n:Nat),n<as.length->(V gW\/V mN)->n∈row:=λn hn hv=>by
    have:n∈(m::U')++row:=R.all.mem_iff.mpr (yU.mpr hn);rcases zM.mp this with y|y
    ·rcases hv with hv|hv
     ·exact vO rfl (out _ hv n y)
     ·exact vO rfl (inn _ hv n y)
    ·exact y
   have sv:∀n∈row,V gW:=R.walk.mem (V:=V) bA λn hn=>.inr ⟨n,hn,rfl⟩;have cl:∀c,Rch as s c->V c:=λc h=>h.inv V bA λb c hb e=>by
    rcases e with e|e
    ·obtain⟨n,hn,he⟩:=zf.mp e
     have es:Xj as n=b/\Xr as n=c:=by
      unfold Xj Xr;rw[zT,zD hn,he];exact bY
     exact .inr ⟨n,row_of n hn (.inl (by rw[es.1];exact hb)),es.2⟩
    ·obtain⟨n,hn,he⟩:=zf.mp e
     have es:Xj as n=c/\Xr as n=b:=by
      unfold Xj Xr;rw[zT,zD hn,he];exact bY
     rw[<- es.1];exact sv n (row_of n hn (.inr (by rw[es.2];exact hb)))
   have hm:m<as.length:=yU.mp (R.all.mem_iff.mp (by simp));have hrm:=hr _ (yQ hm);have es:Xj as m=(as[m]).1:=by unfold Xj;rw[zT,zD hm];rfl
   exact out _ (cl _ (by rw[<- es]at hrm;exact hrm)) m zE rfl
 have:=R.all.length_eq;rw[hU,yT,zo]at this;exact this
noncomputable def cst(l:bT):List Int:=l.map λ(n:Nat)=>cj
structure WT (as:List (Int×Int)) (ks:List Int) (xss:List (List Int)) (U:List Nat):Prop where
 len:ks.length=xss.length
 nd:U.Nodup
 mem:∀(v k:Int),k∈WB ks xss v↔∃n:Nat,k=n/\n∈U/\Xj as n=v
 gn:∀v,(WB ks xss v).Nodup
theorem q5t:∀{ks:af}{xss:ce}(h v:Int),ks.length=xss.length->WB ks lI v=if v=h then (WB ks xss h).dropLast else WB ks xss v
 | [],[],h,v,_=>by
  show ([]:List Int)=if v=h then ([]:List Int).dropLast else []
  split <;> rfl
 | [],_::_,_,_,hl=>by simp at hl
 | _::_,[],_,_,hl=>by simp at hl
 | k::ks,x::xss,h,v,hl=>by
  have ih:=q5t (ks:=ks) (xss:=xss) h v ⇑hl;unfold WB at ih ⊢;show (Xe Jj (if k=h then x.dropLast::xss else x::WS ks xss h) v).getD []=if v=h then ((if k=h then some x else Xe ks xss h).getD []).dropLast else (if k=v then some x else Xe ks xss v).getD []
  by_cases z:k=h
  ·rw[fQ,fQ]
   show (if k=v then some x.dropLast else Xe ks xss v).getD []=_
   by_cases y:k=v
   ·rw[JD,vF (by rw[<- y,z])];rfl
   ·rw[KG,vG (λe=>y (by rw[z,e])),KG]
  ·rw[fI,fI]
   show (if k=v then some x else Xe ks lI v).getD []=_
   by_cases y:k=v
   ·rw[JD,vG (λe=>z (by rw[y,e])),JD]
   ·rw[KG,ih,KG]
theorem q8a:∀(ks:af)(xss:ce)(h:Int),(WS ks xss h).length=xss.length
 | [],_,_=>rfl
 | _::_,[],_=>rfl
 | k::ks,x::xss,h=>by
  show (if k=h then x.dropLast::xss else x::WS ks xss h).length=_
  split
  ·rfl
  ·rw[zJ,q8a,zJ]
theorem q9u{l:af}{k a:Int}(nd:l.Nodup)(e:l.getLast?=some k):a∈l.dropLast↔a∈l/\a≠k:=by
 have hl:l=l.dropLast++[k]:=by
  have hne:l≠[]:=λz=>by rw[z]at e;cases e
  have:=wk hne;rw[List.getLast?_eq_getLast hne]at e;rw[zw e]at this;exact this.symm
 rw[hl]at nd;have nd':=yc.mp nd
 constructor
 ·intro h
  exact⟨by rw[hl];exact zW _ h,λz=>nd'.2.2 a h k (by simp) z⟩
 ·rintro⟨h1,h2⟩
  rw[hl]at h1;rcases zM.mp h1 with y|y
  ·exact y
  ·exact vO (zU.mp y) h2
theorem WT.pop{as:ae}{ks:af}{xss:ce}{U:bT}(W:WT as ks xss U){h:Int}{m:Nat}(e:(WB ks xss h).getLast?=some iH):WT as ks lI (U.erase m):=by
 have hm:iH∈WB ks xss h:=Zu e;obtain⟨n,en,hn,hs⟩:=(W.mem h m).mp hm;have:n=m:=∅
 subst this;refine⟨by rw[q8a];exact W.len,W.nd.erase _,λv k=>?_,λv=>?_⟩
 ·rw[q5t h v W.len]
  by_cases z:v=h
  ·rw[fQ,q9u (W.gn h) e,W.mem h]
   constructor
   ·rintro⟨⟨n',rfl,h1,h2⟩,h3⟩
    exact⟨n',rfl,(W.nd.mem_erase_iff).mpr ⟨λq=>h3 (by rw[q]),h1⟩,by rw[z];exact h2⟩
   ·rintro⟨n',rfl,h1,h2⟩
    obtain⟨a,b⟩:=(W.nd.mem_erase_iff).mp h1;exact⟨⟨n',rfl,b,by rw[<- z];exact h2⟩,λq=>a ∅⟩
  ·rw[fI,W.mem v]
   constructor
   ·rintro⟨n',rfl,h1,h2⟩
    exact⟨n',rfl,(W.nd.mem_erase_iff).mpr ⟨λq=>z (by rw[<- h2,q,hs]),h1⟩,h2⟩
   ·rintro⟨n',rfl,h1,h2⟩
    exact⟨n',rfl,((W.nd.mem_erase_iff).mp h1).2,h2⟩
 ·rw[q5t h v W.len]
  split
  ·exact(W.gn h).sublist (List.dropLast_sublist _)
  ·exact W.gn v
theorem qbI{as:ae}{m:Nat}:(as.getD (iH).toNat (0,0)).1=Xj as m/\(as.getD (iH).toNat (0,0)).2=Xr as m:=by
 rw[yj];exact bY
theorem qa6{as:ae}{s:Int}(hl:Ep){ks:af}:∀(n:Nat)(xss:ce)(U T B:bT)(h:Int),HI as s U T B h->WT as ks xss U->2*U.length+T.length<n ->
  ∃row U',WL as ks n xss (cst T) (cst B) h=some (cst row)/\Rnd as s row U'
 | 0,_,_,_,_,_,_,_,hn=>vO hn PH
 | n+1,xss,U,T,B,h,I,W,hn=>by
  have tot:U.length+(T.length+B.length)=as.length:=by
   have:=I.all.length_eq;rw[zB,zB,zo]at this;exact this
  unfold WL;cases e:(WB ks xss h).getLast? with
  | some k=>
   obtain⟨m,rfl,hm,hs⟩:=(W.mem h k).mp (Zu e);have hlt:m<as.length:=yU.mp (I.all.mem_iff.mp (zW _ hm));have pm:=List.perm_cons_erase hm;have I':=I.push pm hs;have ul:U.length=(U.erase m).length+1:=by have:=pm.length_eq;rw[zJ]at this;exact this
   obtain⟨row,U',r1,r2⟩:=qa6 hl n lI (U.erase m) (T++[m]) B _ I' (W.pop e) (by rw[zB,zR];omega);refine Vu;show (if 0<=iH/\iH<as.length/\(cst T).length<1000000 then WL as ks n lI (cst T++[iH]) (cst B) (as.getD (iH).toNat (0,0)).2 else none)=_;rw[vF ⟨∅,∅,by unfold cst;rw[zA];omega⟩,qbI.2];rw[show cst T++[iH]=cst (T++[m]) by unfold cst;rw[zX];rfl];exact r1
  | none=>
   have hem:WB ks xss h=[]:=wE.mp e;have hs:∀m∈U,Xj as m≠h:=λm hm z=>by
    have:iH∈WB ks xss h:=(W.mem h m).mpr ⟨m,rfl,hm,z⟩;rw[hem]at this;cases this
   rcases List.eq_nil_or_concat T with rfl|⟨T0,m,rfl⟩
   ·refine⟨B.reverse,U,?_,I.done hs⟩
    show some (cst B).reverse=_;unfold cst;rw[Ya]
   ·rw[List.concat_eq_append]at I hn tot ⊢
    have hlt:m<as.length:=yU.mp (I.all.mem_iff.mp (zO _ (zW _ (by simp))));have I':=I.pop hs;rw[zB,zR]at hn tot;obtain⟨row,U',r1,r2⟩:=qa6 hl n xss U T0 (B++[m]) _ I' W ∅;refine Vu;have ec:cst (T0++[m])=cst T0++[iH]:=by unfold cst;rw[zX];rfl
    rw[ec];show (match (cst T0++[iH]).getLast? with
     | some k=>if 0<=k/\k<as.length/\(cst B).length<1000000 then WL as ks n xss (cst T0++[iH]).dropLast (cst B++[k]) (as.getD k.toNat (0,0)).1 else none
     | none=>some (cst B).reverse)=_
    rw[List.getLast?_concat];show (if 0<=iH/\iH<as.length/\(cst B).length<1000000 then WL as ks n xss (cst T0++[iH]).dropLast (cst B++[iH]) (as.getD (iH).toNat (0,0)).1 else none)=_;rw[vF ⟨∅,∅,by unfold cst;rw[zA];omega⟩,qbI.1,List.dropLast_concat];rw[show cst B++[iH]=cst (B++[m]) by unfold cst;rw[zX];rfl];exact r1
theorem q6s:∀{ks:af}{xss:ce}(a b v:Int),ks.length=xss.length->a∈ks->WB ks DA v=if v=a then WB ks xss v++[b]else WB ks xss v
 | [],_,_,_,_,_,h=>by cases h
 | _::_,[],_,_,_,hl,_=>by simp at hl
 | k::ks,x::xss,a,b,v,hl,ha=>by
  unfold WB;show (Xe Jj (if k=a then QK::xss else x::Wz ks xss a b) v).getD []=if v=a then ((if k=v then some x else Xe ks xss v).getD [])++[b]else (if k=v then some x else Xe ks xss v).getD []
  by_cases z:k=a
  ·rw[fQ]
   show (if k=v then some QK else Xe ks xss v).getD []=_
   by_cases y:k=v
   ·rw[JD,vF (by rw[<- y,z]),JD];rfl
   ·rw[KG,vG (λe=>y (by rw[z,e])),KG]
  ·rw[fI]
   have ha':a∈ks:=(zH.mp ha).resolve_left λe=>z e.symm;have ih:=q6s (ks:=ks) (xss:=xss) a b v ⇑hl ha';unfold WB at ih;show (if k=v then some x else Xe ks DA v).getD []=_
   by_cases y:k=v
   ·rw[JD,vG (λe=>z (by rw[y,e])),JD]
   ·rw[KG,ih,KG]
theorem q99:∀{ks:af}{xss:ce}(a v:Int),ks.length=xss.length->WB Ou QJ v=WB ks xss v
 | [],[],a,v,_=>by
  unfold WB;show (if a=v then some []else none).getD []=_
  split <;> rfl
 | [],_::_,_,_,hl=>by simp at hl
 | _::_,[],_,_,hl=>by simp at hl
 | k::ks,x::xss,a,v,hl=>by
  have ih:=q99 (ks:=ks) (xss:=xss) a v ⇑hl;unfold WB at ih ⊢;show (if k=v then some x else Xe Ou QJ v).getD []=(if k=v then some x else Xe ks xss v).getD []
  by_cases y:k=v
  ·rw[JD,JD]
  ·rw[KG,KG,ih]
theorem qh2(as:ae):∀n:Nat,n<=as.length->(byS as n).1.length=(byS as n).2.length/\∀v,WB (byS as n).1 (byS as n).2 v=cst lV
 | 0,_=>⟨rfl,λv=>rfl⟩
 | n+1,hn=>by
  obtain⟨h1,h2⟩:=qh2 as n ∅;have hlt:n<as.length:=∅
  have eb:byS as (n+1)=X4 Mn n gW:=by
   show (match as[n]? with|some a=>X4 Mn n a.1|none=>byS as n)=_;rw[GB];unfold Xj;rw[zT,GB];rfl
  have er:∀v,cst ((za (n+1)).filter λj=>decide Kq)=if v=Xj as n then cst lV++[cj]else cst lV:=λv=>by
   rw[Yj,wy]
   by_cases z:v=Xj as n
   ·rw[fQ]
    have:([n].filter λj=>decide Kq)=[n]:=by rw[zy,vF (vQ z.symm)];rfl
    rw[this];unfold cst;rw[zX];rfl
   ·rw[fI]
    have:([n].filter λj=>decide Kq)=[]:=by rw[zy,vG ⇑(λe=>z e.symm)];rfl
    rw[this,zi]
  rw[eb];unfold X4
  by_cases ha:Xj as n∈(byS as n).1
  ·rw[vF ha]
   exact⟨by show (byS as n).1.length=(Wz _ _ _ _).length;rw[q6C];exact h1,λv=>by
    show WB (byS as n).1 (Wz (byS as n).1 (byS as n).2 gW n) v=_;rw[q6s _ _ v h1 ha,er v,h2 v]⟩
  ·rw[vG ha]
   have hl':((byS as n).1++[gW]).length=((byS as n).2++[[]]).length:=by rw[zB,zB,h1];rfl
   exact⟨by show ((byS as n).1++[gW]).length=(Wz _ _ _ _).length;rw[q6C];exact hl',λv=>by
    show WB RP (Wz RP ((byS as n).2++[[]]) gW n) v=_;rw[q6s _ _ v hl' (by simp),q99 _ v h1,er v,h2 v]⟩
theorem qkn{l:bT}(h:l.Nodup):(cst l).Nodup:=by
 unfold cst Yt;rw[ZK];exact h.imp λ{a b} z e=>z ∅
theorem qfH(as:ae):WT as (byS as as.length).1 (byS as as.length).2 dX:=by
 obtain⟨h1,h2⟩:=qh2 as as.length bZ;refine⟨h1,xt,λv k=>?_,λv=>by rw[h2 v];exact qkn (xt.filter _)⟩;rw[h2 v];unfold cst;rw[zu]
 constructor
 ·rintro⟨n,hn,rfl⟩
  obtain⟨a,b⟩:=yG.mp hn;exact⟨n,rfl,a,of_decide_eq_true b⟩
 ·rintro⟨n,rfl,a,b⟩
  exact⟨n,yG.mpr ⟨a,vQ b⟩,rfl⟩
theorem qaM{α:Type}(d:α):∀bs:List α,(za bs.length).map SZ=bs:=λbs=>by
 apply Yd
 ·rw[zA,zo]
 ·intro i h1 h2
  rw[xG,YE,zT,zD h2];rfl
theorem q74(as:ae)(v:Int):cS as dX v=(sts as).count v/\cD as dX v=(gls as).count v:=by
 have h:∀f:Int×Int->Int,(za as.length).countP (λn=>decide (f U8=v))=(as.map f).count v:=λf=>by
  have e:=qaM (0,0) as;have:(as.map f)=(za as.length).map λn=>f U8:=by
   have:=v7 (YT f) e;rw[yK]at this;exact this.symm
  rw[this,List.count,Zp];rfl
 exact⟨h (·.1),h (·.2)⟩
theorem qgl{as:ae}{s:Int}(hl:Ep)(hp:Cr):∃row U,zAL s as=some (cst row)/\Rnd as s row U:=by
 have hb:∀v,cS as dX v=cD as dX v:=λv=>by
  rw[(q74 as v).1,(q74 as v).2,hp.count_eq]
 obtain⟨row,U,r1,r2⟩:=qa6 (s:=s) hl 100000 (byS as as.length).2 dX [] [] s (HI.start (.refl _) hb) (qfH as) (by rw[zo,xg];omega);exact⟨row,U,by unfold zAL;rw[vF hl];exact r1,r2⟩
theorem qcB(v y:Int):(if y=v then Ae else 0)=chi v y-chi (v+1) y:=by
 unfold chi
 by_cases a:v<=y <;> by_cases b:v+1<=y <;> by_cases c:y=v <;> simp[a,b,c] <;> omega
noncomputable def flw(x:Int)(as:ae):Int:=(as.map λa=>chi x a.2-chi x a.1).sum
theorem q2J(x:Int)(a b:ae):flw x Du=flw x a+flw x b:=by unfold flw;rw[zX,xO]
theorem q2U(x:Int)(a:bi)(b:ae):flw x (a::b)=(chi x a.2-chi x a.1)+flw x b:=by unfold flw;rw[zI,zV]
theorem qcd(v:Int):∀as:List bi,((as.countP λa=>decide (a.1=v):Nat):Int)-(as.countP λa=>decide (a.2=v):Nat)=flw (v+1) as-flw v as
 | []=>rfl
 | a::as=>by
  have ih:=qcd v as;have i1:=qcB v a.1;have i2:=qcB v a.2;rw[q2U,q2U,wX,wX]
  by_cases z1:a.1=v <;> by_cases z2:a.2=v <;> simp only[z1,z2,decide_true,decide_false,if_true,if_false,yI,Zo,Int.natCast_one,Ye,Nat.add_zero]at i1 i2 ⊢ <;> omega
theorem qd1(xs:ae):(za xs.length).map (λk=>xs.getD k (0,0))=xs:=by
 apply yw;intro i;rw[ze];rcases yB i xs.length with z|z
 ·rw[xQ z,xB,zT,zD z];rfl
 ·rw[z8 ⇑z,z8 z];rfl
theorem qf5(as:ae)(v:Int):cS as dX v=(as.countP λa=>decide (a.1=v))/\cD as dX v=(as.countP λa=>decide (a.2=v)):=by
 have e:=qd1 as
 constructor
 ·conv=>rhs;rw[<- e]
  rw[Zp];rfl
 ·conv=>rhs;rw[<- e]
  rw[Zp];rfl
theorem qaO{as:ae}(h:∀x,flw x as=0)(v:Int):cS as dX v=cD as dX v:=by
 rw[(qf5 as v).1,(qf5 as v).2];have:=qcd v as;rw[h,h]at this;omega
theorem qa3(x:Int):∀(r:af)(k:Int),(k::r).Pairwise (· < ·)->(∃g∈Y8 (k::r),g.1<x/\x<=g.2/\∀c:Int×Int->Int,((Y8 nW).map λg=>c g*eE).sum=c g)\/(∀p∈k::r,∀q∈k::r,chi x p=chi x q)
 | [],k,_=>.inr λp hp q hq=>by rw[zU.mp hp,zU.mp hq]
 | k1::r,k,h=>by
  obtain⟨h1,h2⟩:=zZ.mp h;have kk:=h1 k1 zE;have low:∀p∈k1::r,k1<=p:=λp hp=>by
   rcases zH.mp hp with rfl|hp
   ·exact zr _
   ·exact yf ((zZ.mp h2).1 p hp)
  by_cases a:x<=k
  ·refine .inr λp hp q hq=>?_
   have:∀p∈k::k1::r,chi x p=1:=λp hp=>by
    unfold chi;rcases zH.mp hp with rfl|hp
    ·rw[vF a]
    ·have:=low p hp;rw[jP]
   rw[this p hp,this q hq]
  ·by_cases b:x<=k1
   ·refine .inl ⟨AN,by rw[qP];exact zE,by simp only;omega,b,λc=>?_⟩
    have c0:chi x k1-chi x k=1:=by unfold chi;rw[vF b,vG a];rfl
    have z:((Y8 O6).map λg=>c g*eE).sum=0:=by
     have:∀g∈Y8 (k1::r),c g*eE=0:=λg hg=>by
      obtain⟨m1,m2⟩:=q1s hg;have:=low _ m1;have:=low _ m2;unfold chi;rw[jP,jP,Ze,wR]
     rw[yM this];clear this
     induction Y8 (k1::r)with
     | nil=>rfl
     | cons g gs ih=>rw[zI,zV,ih];rfl
    rw[qP,zI,zV,z];simp only[c0];omega
   ·have c0:chi x k1-chi x k=0:=by unfold chi;rw[vG b,vG a];rfl
    rcases qa3 x r k1 h2 with⟨g,hg,g1,g2,g3⟩|h3
    ·refine .inl ⟨g,by rw[qP];exact zF _ hg,g1,g2,λc=>?_⟩
     rw[qP,zI,zV,g3];simp only[c0];omega
    ·refine .inr λp hp q hq=>?_
     have e:∀p∈k::k1::r,chi x p=chi x k1:=λp hp=>by
      rcases zH.mp hp with rfl|hp
      ·omega
      ·exact h3 p hp k1 zE
     rw[e p hp,e q hq]
noncomputable def repA(c:Int)(g:bi):List bi:=zn c.toNat Ox++zn (-c).toNat Ow
theorem q3X(c:Int):∀n:Nat,(zn n c).sum=n*c
 | 0=>by simp
 | n+1=>by rw[yV,zV,q3X c n];rw[show DH=cj+1 by omega,Int.add_mul];omega
theorem qgs(x c:Int)(g:bi):flw x (repA c g)=c*eE:=by
 unfold repA;rw[q2J];unfold flw;rw[xb,xb,q3X,q3X];rcases Zb 0 c with z|z
 ·rw[show (-c).toNat=0 by omega,wI z];simp
 ·rw[show c.toNat=0 by omega,wI (show 0 <= -c by omega)]
  simp only[Ye,Int.zero_mul,YU];rw[show chi x g.1-chi x g.2=-eE by omega,Int.neg_mul_neg]
theorem qgF{c:Int}{g:bi}(h:g.1<g.2):((repA c g).map λa=>WG a.1 a.2).sum=i9*Wp c:=by
 unfold repA WG Wp;rw[zX,xO,xb,xb,q3X,q3X];simp only;rw[fO,jP]
 by_cases z:c<0
 ·rw[fQ,show c.toNat=0 by omega,wI (show 0 <= -c by omega)]
  simp;rw[show g.2-g.1=-(g.1-g.2) by omega,Zd]
 ·rw[fI,show (-c).toNat=0 by omega,wI (show 0<=c by omega),Zd];simp
noncomputable def W1(c:di)(G:ae):List bi:=G.flatMap λg=>repA (c g) g
theorem q9E(x:Int)(c:di):∀G:List bi,flw x (W1 c G)=(G.map λg=>c g*eE).sum
 | []=>rfl
 | g::G=>by
  show flw x (repA (c g) g++W1 c G)=_;rw[q2J,qgs,q9E x c G,zI,zV]
theorem qa8(c:di):∀G:List bi,(∀g∈G,g.1<g.2)->((W1 c G).map λa=>WG a.1 a.2).sum=(G.map λg=>i9*Wp (c g)).sum
 | [],_=>rfl
 | g::G,h=>by
  show ((repA (c g) g++W1 c G).map λa=>WG a.1 a.2).sum=_;rw[zX,xO,qgF (h g zE),qa8 c G λx hx=>h x jT,zI,zV]
theorem qfT{c:di}{G:ae}{g:bi}(hg:g∈G)(hc:c g≠0):Ox∈W1 c G\/Ow∈W1 c G:=by
 unfold W1 repA;rcases Int.lt_or_gt_of_ne hc with z|z
 ·refine .inr (xH.mpr ⟨g,hg,zO _ OV⟩)
 ·refine .inl (xH.mpr ⟨g,hg,zW _ OV⟩)
theorem qk5{c:di}{G:ae}{a:bi}(h:a∈W1 c G):∃g∈G,a=Ox\/a=Ow:=by
 obtain⟨g,hg,h⟩:=xH.mp h;rcases zM.mp h with h|h
 ·exact⟨g,hg,.inl (wN.mp h).2⟩
 ·exact⟨g,hg,.inr (wN.mp h).2⟩
noncomputable def twoA(F:ae):List bi:=F.flatMap λe=>Cg
theorem qav(x:Int):∀F:List bi,flw x (twoA F)=0
 | []=>rfl
 | e::F=>by
  show flw x (Cg++twoA F)=0;rw[q2J,qav x F,q2U,q2U];unfold flw;simp only[yb,Zc];omega
theorem q9H:∀F:List bi,(∀g∈F,g.1<g.2)->((twoA F).map λa=>WG a.1 a.2).sum=2*(F.map λg=>g.2-g.1).sum
 | [],_=>rfl
 | e::F,h=>by
  show ((Cg++twoA F).map λa=>WG a.1 a.2).sum=_;have:=h e zE;rw[zX,xO,q9H F λx hx=>h x jT,zI,zV];unfold WG;simp only[zI,yb,zV,Zc];rw[fO,jP];omega
noncomputable def bI(b:Bool):Int:=if b=true then 1 else 0
theorem q81(φ:bU):∀(r:af)(k:Int),((Y8 nW).map λg=>φ g.2-φ g.1).sum=φ ((k::r).getLast (wY _ _))-φ k
 | [],k=>by show nN=φ k-φ k;omega
 | k1::r,k=>by
  rw[qP,zI,zV,q81 φ r k1,YV (wY k1 r)];simp only;omega
noncomputable def clp(p q y:Int):Int:=if y<=p then p else if q<=y then q else y
theorem q85{k:Int}{r:af}(h:(k::r).Pairwise (· < ·)):∀p∈k::r,k<=p/\p<=(k::r).getLast (wY _ _):=by
 induction r generalizing k with
 | nil=>intro p hp;cases zU.mp hp;exact⟨zr _,zr _⟩
 | cons k1 r ih=>
  obtain⟨h1,h2⟩:=zZ.mp h;have:=h1 k1 zE;intro p hp;rw[YV (wY k1 r)];rcases zH.mp hp with rfl|hp
  ·exact⟨zr _,by have:=(ih h2 k1 zE).2;omega⟩
  ·exact⟨by have:=(ih h2 p hp).1;omega,(ih h2 p hp).2⟩
theorem qdy{P:af}{p q:Int}(hP:P.Pairwise (· < ·))(hp:p∈P)(hq:q∈P)(h:p<=q)(G:∀g∈Y8 P,g.1<g.2/\KQ/\KP):((Y8 P).map λg=>i9*nY).sum=q-p:=by
 have e:∀g∈Y8 P,i9*nY=clp p q g.2-clp p q g.1:=λg hg=>by
  obtain⟨g0,g1,g2⟩:=G g hg;have o2:bI O3=0:=by
   unfold bI over;rw[vG];rw[yC,decide_eq_true_eq,decide_eq_true_eq];omega
  rw[o2,wp]
  by_cases z:p<=g.1/\g.2<=q
  ·have o1:bI Ix=1:=by
    unfold bI over;rw[vF];rw[yC,decide_eq_true_eq,decide_eq_true_eq];exact z
   rw[o1,Int.mul_one];unfold clp
   split <;> split <;> (try split) <;> (try split) <;> omega
  ·have o1:bI Ix=0:=by
    unfold bI over;rw[vG];rw[yC,decide_eq_true_eq,decide_eq_true_eq];exact z
   rw[o1,wR];unfold clp
   split <;> split <;> (try split) <;> (try split) <;> omega
 rw[yM e];cases P with
 | nil=>cases hp
 | cons k r=>
  have e1:=q85 hP p hp;have e2:=q85 hP q hq;rw[q81 (clp p q) r k];unfold clp
  split <;> split <;> (try split) <;> (try split) <;> omega
theorem qia{P:af}{p q:Int}(hP:P.Pairwise (· < ·))(hp:p∈P)(hq:q∈P)(G:∀g∈Y8 P,g.1<g.2/\KQ/\KP):((Y8 P).map λg=>i9*nY).sum=WG p q:=by
 unfold WG;rcases Zb p q with z|z
 ·rw[qdy hP hp hq z G,fO]
 ·have:=qdy hP hq hp z λg hg=>⟨(G g hg).1,(G g hg).2.2,(G g hg).2.1⟩
  rw[yM (g:=λg=>i9*(bI O3+bI Ix)) λg _=>by rw[Int.add_comm (bI _)],this]
  split <;> omega
theorem q68{α:Type}(f f':lx):∀xs:List α,(xs.map λx=>f x+f' x).sum=(xs.map f).sum+(xs.map f').sum
 | []=>rfl
 | x::xs=>by rw[zI,zI,zI,zV,zV,zV,q68 f f' xs];omega
theorem q9S(b:bi)(bs:ae)(g:bi):rts (b::bs) g=bI (over b.1 b.2 g)+rts bs g/\lfs (b::bs) g=bI (over b.2 b.1 g)+lfs bs g:=by
 unfold rts lfs bI;rw[zy,zy]
 constructor
 ·split <;> simp <;> omega
 ·split <;> simp <;> omega
theorem q8v{P:af}{h l:Int}(hP:P.Pairwise (· < ·)):∀bs:List bi,(∀b∈bs,b.1∈P/\b.2∈P)->(∀g∈Y8 P,Gap h l bs g)->(bs.map λb=>WG b.1 b.2).sum=((Y8 P).map λg=>i9*(rts bs g+lfs bs g)).sum
 | [],_,_=>by
  have:∀g∈Y8 P,i9*(rts [] g+lfs [] g)=0:=λg _=>wR _;rw[yM this];show nN=_;clear this
  induction Y8 P with
  | nil=>rfl
  | cons g gs ih=>rw[zI,zV,<- ih];rfl
 | b::bs,m,G=>by
  have ih:=q8v hP bs (λx hx=>m x jT) λg hg=>⟨(G g hg).lt,(G g hg).h,(G g hg).l,λx hx=>(G g hg).b x jT⟩;have w:=qia hP (m b zE).1 (m b zE).2 λg hg=>⟨(G g hg).lt,(G g hg).b b zE⟩;rw[zI,zV,ih,<- w,<- q68]
  congr 1
  refine yM λg _=>?_;rw[(q9S b bs g).1,(q9S b bs g).2,<- wf]
  congr 1;omega
theorem Cls.least{ts:af}{es:ae}{g:af}{a:Int}(c:Po):∀x∈g,a<=x:=λx hx=>by
 have hh:=c.hd;have up:=c.up;cases g with
 | nil=>cases hx
 | cons b r=>
  cases hh;rcases zH.mp hx with rfl|y
  ·exact zr _
  ·exact yf ((zZ.mp up).1 x y)
theorem GS.heads{ts:af}{es:ae}{gs:ce}{hs:af}(h:pC)(all:∀t∈ts,∃g∈gs,t∈g)(a:Int):a∈hs↔(a∈ts/\∀c,Rch es a c->a<=c):=by
 constructor
 ·intro ha
  obtain⟨j,hj,rfl⟩:=zf.mp ha;have hj2:j<gs.length:=by rw[h.len];exact hj
  have cl:=h.cls j _ _ (zD hj2) KF;exact⟨cl.inn,λc r=>cl.least c ((cl.mem c).mpr r)⟩
 ·rintro⟨h1,h2⟩
  obtain⟨g,hg,hag⟩:=all a h1;obtain⟨b,hb,cl⟩:=h.one hg;have l1:=cl.least a hag;have r:=(cl.mem a).mp hag;have l2:=h2 b r.symm;have:a=b:=∅
  rw[this];exact hb
theorem Rch.mono{es fs:ae}{a c:Int}(h:∀e∈es,e∈fs)(r:abv):Rch fs a c:=by
 induction r with
 | refl=>exact .refl
 | step _ e ih=>exact ih.step (e.elim (λz=>.inl (h _ z)) λz=>.inr (h _ z))
noncomputable def X2(f:bU)(a b:Int):Int->Int:=λx=>if f x=b then a else f x
def Tells(ts:af)(es:ae)(f:bU):Prop:=∀x∈ts,∀y∈ts,f x=f y↔Rch es x y
theorem Tells.skip{ts:af}{es:ae}{f:bU}(h:HR){p q:Int}(hp:p∈ts)(hq:q∈ts)(e:f p=f q):Tells ts GH f:=by
 intro x hx y hy;rw[h x hx y hy];have pq:=(h p hp q hq).mp e;refine⟨λr=>r.mono λe he=>zW _ he,λr=>?_⟩;refine Rch.inv (λz=>Rch es x z) .refl S9 r;have key:∀{u v:Int},(u,v)∈es++[(p,q)]->Rch es u v:=λ{u v} m=>by
  rcases zM.mp m with m|m
  ·exact Rch.refl.step (.inl m)
  ·cases zU.mp m;exact pq
 rcases hbc with m|m
 ·exact hb.trans (key m)
 ·exact hb.trans (key m).symm
theorem Tells.join{ts:af}{es:ae}{f:bU}(h:HR)(inn:∀e∈es,e.1∈ts/\e.2∈ts){p q:Int}(hp:p∈ts)(hq:q∈ts):Tells ts GH TZ:=by
 intro x hx y hy;have up:∀{u v:Int},Rch es u v->Rch GH u v:=λr=>r.mono λe he=>zW _ he;have pq:Rch GH p q:=Rch.refl.step (.inl (by simp))
 constructor
 ·intro e
  unfold X2 at e
  by_cases h1:f x=f q
  ·rw[IZ]at e
   by_cases h2:f y=f q
   ·exact up ((h x hx y hy).mp (by rw[h1,h2]))
   ·rw[QN]at e
    exact((up ((h x hx q hq).mp h1)).trans pq.symm).trans (up ((h p hp y hy).mp e))
  ·rw[QO]at e
   by_cases h2:f y=f q
   ·rw[QP]at e
    exact((up ((h x hx p hp).mp e)).trans pq).trans (up ((h q hq y hy).mp h2.symm))
   ·rw[QN]at e
    exact up ((h x hx y hy).mp e)
 ·intro r
  have key:∀{u v:Int},(u,v)∈es++[(p,q)]->u∈ts/\v∈ts/\X2 f (f p) (f q) u=X2 f (f p) (f q) v:=λ{u v} m=>by
   rcases zM.mp m with m|m
   ·obtain⟨a,b⟩:=inn _ m
    have e:=(h u a v b).mpr (Rch.refl.step (.inl m));exact⟨a,b,by unfold X2;rw[e]⟩
   ·cases zU.mp m
    refine⟨hp,hq,?_⟩;unfold X2;rw[jQ]
    by_cases z:f p=f q
    ·rw[fQ]
    ·rw[fI]
  exact(Rch.inv (λz=>z∈ts/\X2 f (f p) (f q) x=X2 f (f p) (f q) z) ⟨hx,rfl⟩ (λb c hb hbc=>by
   rcases hbc with m|m
   ·obtain⟨a1,a2,a3⟩:=key m;exact⟨a2,hb.2.trans a3⟩
   ·obtain⟨a1,a2,a3⟩:=key m;exact⟨a1,hb.2.trans a3.symm⟩) r).2
noncomputable def zC8(f:bU)(ts:af)(a:Int):Bool:=ts.all λc=>f c != f a || decide (a<=c)
noncomputable def many(f:bU)(ts:af):Nat:=(ts.filter (zC8 f ts)).length
theorem q1Z{f:bU}{ts:af}{a:Int}:zC8 f ts a=true↔∀c∈ts,f c=f a->a<=c:=by
 unfold zC8;rw[xr]
 constructor
 ·intro h c hc e
  have:=h c hc;simp[e]at this;exact this
 ·intro h c hc
  by_cases e:f c=f a
  ·simp[h c hc e]
  ·simp[e]
theorem q44{l m:af}(h1:l.Nodup)(h2:m.Nodup)(h:∀c,c∈l↔c∈m):l.length=m.length :=
 Nat.le_antisymm (q18 h1 λc hc=>(h c).mp hc) (q18 h2 λc hc=>(h c).mpr hc)
theorem qaq{l:af}(h:l.Pairwise (· < ·)):l.Nodup:=h.imp λa b=>∅
theorem GS.many{ts:af}{es:ae}{gs:ce}{hs:af}(ok:Kt)(h:pC)(all:∀t∈ts,∃g∈gs,t∈g){f:bU}(t:HR):gs.length=Kx.many f ts:=by
 rw[h.len];refine q44 (qaq h.up) (ok.nd.filter _) λa=>?_;rw[h.heads all,yG,q1Z];refine and_congr_right λha=>?_
 constructor
 ·intro k c hc e
  exact k c ((t a ha c hc).mp e.symm)
 ·intro k c r
  have hc:=r.mem ok ha;exact k c hc ((t a ha c hc).mpr r).symm
theorem q91{ts:af}(P:Int->Prop)[DecidablePred P]{p:Int}(hp:p∈ts)(h:P p):∃a∈ts,P a/\∀c∈ts,P c->a<=c:=by
 induction ts with
 | nil=>cases hp
 | cons t r ih=>
  by_cases z:∃x∈r,P x
  ·obtain⟨x,hx,px⟩:=z
   have ih':∃a∈r,P a/\∀c∈r,P c->a<=c:=by
    clear ih hp
    induction r generalizing x with
    | nil=>cases hx
    | cons u r ih2=>
     by_cases y:∃w∈r,P w
     ·obtain⟨w,hw,pw⟩:=y
      obtain⟨a,a1,a2,a3⟩:=ih2 w hw pw
      by_cases pu:P u
      ·by_cases l:u<=a
       ·exact⟨u,zE,pu,λc hc pc=>(zH.mp hc).elim (λe=>by rw[e];exact zr _) λhc=>yd l (a3 c hc pc)⟩
       ·exact⟨a,zF _ a1,a2,λc hc pc=>(zH.mp hc).elim (λe=>by rw[e];omega) λhc=>a3 c hc pc⟩
      ·exact⟨a,zF _ a1,a2,λc hc pc=>(zH.mp hc).elim (λe=>vO (e▸pc) pu) λhc=>a3 c hc pc⟩
     ·have pu:P u:=(zH.mp hx).elim (λe=>e▸px) λhx=>vO ⟨x,hx,px⟩ y
      exact⟨u,zE,pu,λc hc pc=>(zH.mp hc).elim (λe=>by rw[e];exact zr _) λhc=>vO ⟨c,hc,pc⟩ y⟩
   obtain⟨a,a1,a2,a3⟩:=ih'
   by_cases pt:P t
   ·by_cases l:t<=a
    ·exact⟨t,zE,pt,λc hc pc=>(zH.mp hc).elim (λe=>by rw[e];exact zr _) λhc=>yd l (a3 c hc pc)⟩
    ·exact⟨a,zF _ a1,a2,λc hc pc=>(zH.mp hc).elim (λe=>by rw[e];omega) λhc=>a3 c hc pc⟩
   ·exact⟨a,zF _ a1,a2,λc hc pc=>(zH.mp hc).elim (λe=>vO (e▸pc) pt) λhc=>a3 c hc pc⟩
  ·have pt:P t:=(zH.mp hp).elim (λe=>e▸h) λhx=>vO ⟨p,hx,h⟩ z
   exact⟨t,zE,pt,λc hc pc=>(zH.mp hc).elim (λe=>by rw[e];exact zr _) λhc=>vO ⟨c,hc,pc⟩ z⟩
theorem qb8{l:af}(hn:l.Nodup){P Q:Int->Bool}{m:Int}(hm:m∈l)(pm:P m=true)(h:∀c∈l,Q c=(P c&&c != m)):(l.filter Q).length+1=(l.filter P).length:=by
 induction l with
 | nil=>cases hm
 | cons a r ih=>
  obtain⟨n1,n2⟩:=yW.mp hn;rw[zy,zy,h a zE]
  by_cases e:a=m
  ·subst e
   have:r.filter Q=r.filter P:=List.filter_congr λc hc=>by
    rw[h c VG];have:(c != a)=true:=by simp;intro z;exact n1 (z▸hc)
    rw[this,ZO]
   simp[pm,this]
  ·have hm':m∈r:=(zH.mp hm).elim SX id
   have ih':=ih n2 hm' λc hc=>h c VG;have e':(a != m)=true:=by simpa using e
   rw[e',ZO];cases P a with
   | true=>simp;omega
   | false=>simpa using ih'
theorem qer{ts:af}{f:bU}(hn:ts.Nodup){p q:Int}(hp:p∈ts)(hq:q∈ts)(ne:f p≠f q):many TZ ts+1=many f ts:=by
 obtain⟨a,a1,a2,a3⟩:=q91 (λc=>f c=f p) hp rfl;obtain⟨b,b1,b2,b3⟩:=q91 (λc=>f c=f q) hq rfl;have ab:a≠b:=λz=>ne (by rw[<- a2,<- b2,z]);have hmax:max a b=a\/max a b=b:=∅
 have la:zC8 f ts a=true:=q1Z.mpr λc hc e=>a3 c hc (by rw[e,a2]);have lb:zC8 f ts b=true:=q1Z.mpr λc hc e=>b3 c hc (by rw[e,b2]);refine qb8 hn (m:=max a b) (hmax.elim (λz=>by rw[z];exact a1) λz=>by rw[z];exact b1) (hmax.elim (λz=>by rw[z];exact la) λz=>by rw[z];exact lb) λc hc=>?_;rw[Bool.eq_iff_iff,yC,q1Z,q1Z,bne_iff_ne];have jf:∀x,X2 f (f p) (f q) x=if f x=f q then f p else f x:=λ_=>rfl
 constructor
 ·intro h
  refine⟨λd hd e=>h d hd (by rw[jf,jf,e]),KC⟩;rcases hmax with y|y
  ·have:=h b b1 (by rw[jf,jf,vF b2,z,y,a2,vG ne])
   omega
  ·have:=h a a1 (by rw[jf,jf,a2,vG ne,z,y,vF b2])
   omega
 ·rintro⟨h1,h2⟩ d hd e
  rw[jf,jf]at e
  by_cases y1:f d=f q
  ·rw[vF y1]at e
   by_cases y2:f c=f q
   ·exact h1 d hd (by rw[y1,y2])
   ·rw[vG y2]at e
    have c1:=h1 a a1 (by rw[a2,e]);have c2:=a3 c hc e.symm;have c3:=b3 d hd y1;omega
  ·rw[vG y1]at e
   by_cases y2:f c=f q
   ·rw[vF y2]at e
    have c1:=h1 b b1 (by rw[b2,y2]);have c2:=b3 c hc y2;have c3:=a3 d hd e;omega
   ·rw[vG y2]at e
    exact h1 d hd e
noncomputable abbrev Eg:=Int×Int×Int
noncomputable def Wd(e:Eg):Int×Int:=(e.1,e.2.1)
noncomputable def XY(e:Eg):Int:=e.2.2
noncomputable def zAt(s:bU×List Eg)(e:Eg):bU×List Eg:=if s.1 e.1=s.1 e.2.1 then s else (X2 s.1 (s.1 e.1) (s.1 e.2.1),s.2++[e])
noncomputable def Xq(f:bU)(es:eO):bU×List Eg:=es.foldl zAt (f,[])
theorem q2m(f:bU)(es:eO)(e:Eg):Xq f (es++[e])=zAt (Xq f es) e:=by unfold Xq;rw[ZJ];rfl
theorem q1h{α:Type}{P:List α->Prop}(h0:P [])(hs:∀l a,P l->P (l++[a]))(l:bB):P l:=by
 have:∀l:List α,P l.reverse:=λl=>by
  induction l with
  | nil=>exact h0
  | cons a r ih=>rw[ZH];exact hs _ _ ih
 have:=this l.reverse
 rwa [xJ]at this
theorem q72{ts:af}{kn:ae}{f:bU}(hn:ts.Nodup)(h:HQ)(inn:∀e∈kn,e.1∈ts/\e.2∈ts)(es:eO):(∀e∈es,e.1∈ts/\e.2.1∈ts)->Tells ts KS (Xq f es).1/\many (Xq f es).1 ts+(Xq f es).2.length=many f ts:=by
 refine q1h (P:=λes=>(∀e∈es,e.1∈ts/\e.2.1∈ts)->Tells ts KS (Xq f es).1/\many (Xq f es).1 ts+(Xq f es).2.length=many f ts) (λ_=>⟨by rw[yb,zi];exact h,rfl⟩) Uv es;obtain⟨h1,h2⟩:=ih λx hx=>he x (zW _ hx);obtain⟨p1,p2⟩:=he e (by simp);have inn':∀x∈kn++l.map Wd,x.1∈ts/\x.2∈ts:=λx hx=>by
  rcases zM.mp hx with m|m
  ·exact inn x m
  ·obtain⟨y,hy,rfl⟩:=zu.mp m
   exact he y (zW _ hy)
 rw[q2m,zX,<- zL];unfold zAt
 by_cases z:(Xq f l).1 e.1=(Xq f l).1 e.2.1
 ·rw[fQ]
  exact⟨h1.skip p1 p2 z,h2⟩
 ·rw[fI]
  refine⟨h1.join inn' p1 p2,?_⟩;have:=qer hn p1 p2 z;show many (X2 _ _ _) ts+((Xq f l).2++[e]).length=_;rw[zB,zR];omega
theorem qfz(f:bU)(as bs:eO):∃r,(Xq f (as++bs)).2=(Xq f as).2++r/\∀e∈r,e∈bs:=by
 refine q1h (P:=λbs=>∃r,(Xq f (as++bs)).2=(Xq f as).2++r/\∀e∈r,e∈bs) ⟨[],by simp⟩ (λl e ⟨r,h1,h2⟩=>?_) bs;rw[<- zL,q2m];unfold zAt
 by_cases z:(Xq f (as++l)).1 e.1=(Xq f (as++l)).1 e.2.1
 ·rw[fQ]
  exact⟨r,h1,λx hx=>zW _ (h2 x hx)⟩
 ·rw[fI]
  refine⟨r++[e],by show (Xq f (as++l)).2++[e]=_;rw[h1,zL],λx hx=>?_⟩;rcases zM.mp hx with m|m
  ·exact zW _ (h2 x m)
  ·exact zO _ m
theorem q2M(f:bU)(es:eO):(Xq f es).2.Sublist es:=by
 refine q1h (P:=λes=>(Xq f es).2.Sublist es) (YW _) (λl e ih=>?_) es;rw[q2m];unfold zAt
 split
 ·exact ih.trans (List.sublist_append_left _ _)
 ·exact ih.append (YW _)
noncomputable def egD(e:Eg):D:=.tup NP
theorem q4j(e:Eg):q0p [egD e]=↥(.int (XY e)):=rfl
theorem qeV(e:Eg):zB8 q0p (egD e)=XY e:=by unfold zB8;rw[q4j]
theorem qdm(e:Eg):keyOk q0p (egD e)=true:=by unfold keyOk;rw[q4j]
theorem qdt(es:eO):XX (zB8 q0p) (es.map egD)=(XX XY es).map egD:=by
 rw[q2j,q3P λx _=>qeV x]
noncomputable def zAc(f:bU)(ks:af):List D:=ks.map λk=>.int (f k)
theorem q4t{f:bU}:∀{ks:af}{x:Int},x∈ks->Xe ks LS x=some (.int (f x))
 | [],_,h=>by cases h
 | k::ks,x,h=>by
  by_cases e:k=x
  ·subst e
   show (if k=k then some (D.int (f k))else Xe ks LS k)=_;rw[jQ]
  ·show (if k=x then some (D.int (f k))else Xe ks LS x)=_
   rw[vG e];exact q4t ((zH.mp h).elim SX id)
theorem qjo{f:bU}{ks:af}{a b:Int}(hn:ks.Nodup)(hl:ks.length<1000):qZ [mF,bP,dy]=↥(.dic ks (zAc Hu ks)):=by
 unfold qZ q1b;obtain⟨ω',e,x4,rfl⟩:=qQ (g:=gN 4) (b:=q0X) D.int ks
  (λpre ω=>∃x4:Option W,ω=[↥mF,↥bP,↥dy,some (.od pre (zAc Hu pre)),x4])
  (λpre k post ω hd ⟨x4,hω⟩=>by
   subst hω;refine cn;have hk:k∈ks:=by rw[hd];simp
   have hnk:k∉pre:=λz=>by
    rw[hd]at hn;exact(yc.mp hn).2.2 k z k (by simp) rfl
   have hp:pre.length<ks.length:=by rw[hd,zB,zJ];omega
   have hv:=q4t (f:=f) hk;have hds:pre.length<1000000:=∅
   obtain⟨p1,p2⟩:=qc6 (xs:=zAc Hu pre) (D.int (X2 f a b k)) hnk;have ev:zAc Hu (pre++[k])=zAc Hu pre++[.int (X2 f a b k)]:=by unfold zAc;rw[zX];rfl
   unfold q0X
   by_cases z:f k=b
   ·have z':(f k==b)=true:=by simpa using z
    have jk:X2 f a b k=a:=vF z;rw[jk]at p2 ev;simp_arith[hv,z',q41 hds,p1,p2];exact⟨_,by rw[ev]⟩
   ·have z':(f k==b)=false:=by simpa using z
    have jk:X2 f a b k=f k:=vG z;rw[jk]at p2 ev;simp_arith[hv,z',q41 hds,p1,p2];exact⟨_,by rw[ev]⟩)
  (ω:=[↥mF,↥bP,↥dy,oT,none]) Fg
 simp_arith[e]
noncomputable def zBI(ks:af)(vs:aW)(x:Int):Int:=match Xe ks vs x with
 | some (.int i)=>i
 | _=>0
theorem qbm:∀{ks:af}{vs:aW},ks.Nodup->ks.length=vs.length->(∀v∈vs,∃i:Int,v=.int i)->vs=zAc (zBI ks vs) ks
 | [],[],_,_,_=>rfl
 | [],_::_,_,h,_=>by simp at h
 | _::_,[],_,h,_=>by simp at h
 | k::ks,v::vs,hn,hl,hv=>by
  obtain⟨n1,n2⟩:=yW.mp hn;obtain⟨i,rfl⟩:=hv v zE;have ih:=qbm n2 ⇑hl λu hu=>hv u (zF _ hu);have e1:zBI Jj IU k=i:=by
   unfold zBI;show (match (if k=k then some (D.int i)else Xe ks vs k)with|some (.int i)=>i|_=>0)=i;rw[jQ]
  have e2:∀x∈ks,zBI Jj IU x=zBI ks vs x:=λx hx=>by
   unfold zBI;have:Xe Jj (D.int i::vs) x=Xe ks vs x:=vG (λz:k=x=>by subst z;exact n1 hx);rw[this]
  show D.int i::vs=D.int (zBI Jj IU k)::ks.map _;rw[e1]
  congr 1
  have:ks.map (λk'=>D.int (zBI Jj IU k'))=zAc (zBI ks vs) ks:=by
   unfold zAc;exact yM λx hx=>by rw[e2 x hx]
  rw[this];exact ih
theorem qix:∀(ps:Rv),∀v∈vvP ps,∃i:Int,v=.int i:=λps v hv=>by
 unfold vvP at hv;obtain⟨p,_,h⟩:=xH.mp hv;obtain⟨_,_,rfl⟩:=zu.mp h;exact bw
theorem qg7{ts:af}{kn:ae}(ok:NZ):∃(gs:ce) (ks:af) (f:bU),q1l [aP,fH]=some (.fr nX)/\qS [bQ]=↥mF/\ks.Nodup/\(∀x,x∈ks↔x∈ts)/\ks.length<64/\Tells ts kn f:=by
 obtain⟨gs,hs,g1,g2,g3,g4⟩:=q83 ok;have pf:=g2.flat ok g3;have nd:gs.flatten.Nodup:=pf.nodup_iff.mpr ok.nd;have fl:gs.flatten.length<64:=by rw[pf.length_eq];exact ok.l1
 have nm:=q76 nd fl;have kk:=q5D 0 gs;have lv:=qbm (ks:=kkP fj) (vs:=vvP fj) (by rw[kk];exact nd) (qdB _) (qix _);refine⟨gs,kkP fj,zBI E7 E5,g1,by rw[<- lv];exact nm,by rw[kk];exact nd,λx=>by rw[kk];exact pf.mem_iff,by rw[kk];exact fl,λx hx y hy=>?_⟩;obtain⟨gx,mx,hxg⟩:=g3 x hx;obtain⟨gy,my,hyg⟩:=g3 y hy;obtain⟨i,hi⟩:=xE.mp mx;obtain⟨j,hj⟩:=xE.mp my;have vx:=q52 (k:=0) nd hi hxg;have vy:=q52 (k:=0) nd hj hyg;have fx:zBI E7 E5 x=abP:=by unfold zBI;rw[vx]
 have fy:zBI E7 E5 y=((0+j:Nat):Int):=by unfold zBI;rw[vy]
 rw[fx,fy];obtain⟨a,_,cx⟩:=g2.one mx;obtain⟨b,_,cy⟩:=g2.one my
 constructor
 ·intro e
  have:i=j:=∅
  subst this;rw[hi]at hj;cases hj;exact((cx.mem x).mp hxg).symm.trans ((cx.mem y).mp hyg)
 ·intro r
  have:y∈gx:=(cx.mem y).mpr (((cx.mem x).mp hxg).trans r);have:=g2.apart hi hj this hyg;rw[this]
theorem qeH{ts:af}{kn:ae}{es:eO}(ok:NZ)(he:∀e∈es,e.1∈ts/\e.2.1∈ts)(hl:DQ):∃f:Int->Int,Tells ts kn f/\q04 abg=some LI:=by
 obtain⟨gs,ks,f,g1,g2,nd,mem,lk,tl⟩:=qg7 ok;refine⟨f,tl,?_⟩;unfold q04 q60;have sk:=qkO (m:=q0p) (ds:=es.map egD) (by rw[zA];exact hl) (λd hd=>by obtain⟨e,_,rfl⟩:=zu.mp hd;exact qdm e);rw[qdt]at sk;have pm:=q0c (f:=XY) (l:=es);have hS:∀e∈XX XY es,e.1∈ts/\e.2.1∈ts:=λe h=>he e UR;have lS:(XX XY es).length=es.length:=pm.length_eq;generalize XX XY es=S at sk hS lS;simp_arith[g1,g2,sk];obtain⟨ω',e,x5,x6,x7,rfl⟩:=qQ (g:=gN 5) (b:=q50) egD S
  (λpre ω=>∃(x5 x6 x7:cb),ω=[↥aP,↥fH,↥ij,↥(.dic ks (zAc (Xq f pre).1 ks)),some (.ow ((Xq f pre).2.map egD)),x5,x6,x7])
  (λpre e post ω hd ⟨x5,x6,x7,hω⟩=>by
   subst hω;refine cn;obtain⟨m1,m2⟩:=hS e (by rw[hd];simp);have v1:=q4t (f:=(Xq f pre).1) ((mem e.1).mpr m1);have v2:=q4t (f:=(Xq f pre).1) ((mem e.2.1).mpr m2);have lp:((Xq f pre).2.map egD).length<1000000:=by
    have:=(q2M f pre).length_le;have:pre.length<=S.length:=by rw[hd,zB];omega
    rw[zA];omega
   have tw:=qjo (f:=(Xq f pre).1) (a:=(Xq f pre).1 e.1) (b:=(Xq f pre).1 e.2.1) nd ∅;have ed:egD e=.tup NP:=rfl;unfold q50;rw[q2m];unfold zAt
   by_cases z:(Xq f pre).1 e.1=(Xq f pre).1 e.2.1
   ·have z':EY=true:=by simpa using z
    rw[fQ];simp_arith[ed,v1,v2,z'];exact rP
   ·have z':EY=false:=by simpa using z
    rw[fI];simp_arith[ed,v1,v2,z',zCC lp,tw];exact⟨_,_,_,by rw[zX];rfl⟩)
  (ω:=[↥aP,↥fH,↥ij,↥mF,rn,none,none,none]) B0
 simp_arith[e]
theorem Tells.same{ts:af}{es es':ae}{f:bU}(h:HR)(s:∀e,e∈es↔e∈es'):Tells ts es' f:=λx hx y hy=>(h x hx y hy).trans ⟨λr=>r.mono λe he=>(s e).mp he,λr=>r.mono λe he=>(s e).mpr he⟩
noncomputable def blw(b:Int)(e:Eg):Bool:=decide (XY e<b)
theorem q6N{b:Int}:∀{S:eO},S.Pairwise R3->S.filter kJ++S.filter (λe=>!blw b e)=S
 | [],_=>rfl
 | e::S,h=>by
  obtain⟨h1,h2⟩:=zZ.mp h;cases hq:blw b e with
  | true=>rw[yo hq,yp (by rw[hq];decide),ZU,q6N h2]
  | false=>
   have:∀x∈S,blw b x=false:=λx hx=>by have:=h1 x hx;unfold blw at hq ⊢;simp at hq ⊢;omega
   rw[yp (by rw[hq];decide),yo (by rw[hq];rfl),xw.mpr λx hx=>by rw[this x hx];decide,yT,yy.mpr λx hx=>by rw[this x hx];rfl]
theorem qbd{f:bU}{S:eO}{b:Int}(h:S.Pairwise R3):(Xq f GM).2=((Xq f S).2).filter kJ:=by
 obtain⟨r,e,hr⟩:=qfz f GM (S.filter λe=>!blw b e);rw[q6N h]at e;have e1:(Xq f GM).2.filter kJ=(Xq f GM).2:=yy.mpr λx hx=>(yG.mp ((q2M f _).subset hx)).2;have e2:r.filter kJ=[]:=xw.mpr λx hx=>by have:=(yG.mp (hr x hx)).2;simpa using this
 rw[e,wy,e1,e2,zi]
theorem qbq{ts:af}{kn:ae}(ok:NZ)(hk:FH){es:eO}(he:∀e∈es,e.1∈ts/\e.2.1∈ts)(hl:DQ):Ok ts KS:=⟨ok.nd,λe h=>by
 rcases zM.mp h with m|m
 ·exact ok.inn e m
 ·obtain⟨y,hy,rfl⟩:=zu.mp m
  exact he y hy,ok.l1,by rw[zB,zA];omega⟩
theorem qgf{kn:ae}{es:eO}(hk:FH)(hl:DQ):X3 fH (.lst (es.map λe=>Y9 (Wd e)))=some (.fr ((kn++es.map Wd).map Y9)):=by
 rw[zX,yK];exact vF (by rw[zA,zA];omega)
theorem qgj{ts:af}{kn:ae}{es:eO}(ok:NZ)(hk:FH)(he:∀e∈es,e.1∈ts/\e.2.1∈ts)(hl:DQ){f:bU}(tl:HQ)(b:Int):∃gs:List af,q0w [aP,fH,ij,dy]=some (.fr nX)/\gs.length+((Xq f AD).2.filter kJ).length=many f ts/\gs.length<64/\(∃hs,GS ts Lv gs hs/\∀t∈ts,∃g∈gs,t∈g):=by
 unfold q0w q2b;have cm:=q4u (i:=0) (c:=q1F) (f:=q1I) kJ egD (λe=>Y9 (Wd e)) es (ω:=[none,↥dy]) (λe _=>⟨by
   have c:=q4j e;unfold q1F;simp_arith[c];rfl,λ_=>by
   unfold q1I egD;simp_arith[q00];rfl⟩)
 have hl2:(es.map egD).length<=1000000:=by rw[zA];omega
 have fl:(es.filter kJ).length<=es.length:=yN _ _;have ad:=qgf (kn:=kn) (es:=es.filter kJ) hk ∅;have he':∀e∈es.filter (blw b),e.1∈ts/\e.2.1∈ts:=λe h=>he e (yG.mp h).1;have ok':=qbq ok hk he' ∅;obtain⟨gs,hs,g1,g2,g3,g4⟩:=q83 ok';refine⟨gs,by simp_arith[OD,inW,Ws,cm,ad,g1],?_,by have:=ok.l1;omega,hs,g2,g3⟩;have pm:=q0c (f:=XY) (l:=es);have kt:=q72 ok.nd tl ok.inn PB (λe h=>he e (pm.mem_iff.mp (yG.mp h).1));have t2:Tells ts Lv (Xq f PB).1:=kt.1.same λe=>by
  rw[zM,zM,((pm.filter kJ).map Wd).mem_iff]
 rw[GS.many ok' g2 g3 t2,<- qbd q4y];exact kt.2
theorem qf0{ts:af}{kn:ae}{es:eO}(ok:NZ)(hk:FH)(he:∀e∈es,e.1∈ts/\e.2.1∈ts)(hl:DQ){f:bU}(tl:HQ)(hf:q04 abg=some LI):
  ∃rows:List cg,q1P abg=some (.fr mj)/\rows.map (·.1)=Xa ((Xq f AD).2.map XY)/\∀r∈rows,r.2.length+((Xq f AD).2.filter JS).length=many f ts/\r.2.length<64/\(∃hs,GS ts (kn++(es.filter JS).map Wd) r.2 hs/\∀t∈ts,∃g∈r.2,t∈g):=by
 obtain⟨G,hG⟩:=Classical.axiomOfChoice (qgj ok hk he hl tl);have lS:(XX XY es).length=es.length:=q5k _ _;have lF:=(q2M f AD).length_le;generalize (Xq f AD).2=F at *;refine⟨(Xa nK).map λb=>(b,G b),?_,by rw[yK];exact List.map_id _,λr hr=>?_⟩
 ·unfold q1P q61
  have cm:=qB (i:=0) (f:=q2h) egD (λe=>D.int (XY e)) F (ω:=GK) (λe _=>by
   have c:=q4j e;unfold q2h;simp_arith[c])
  have hl2:(F.map egD).length<=1000000:=by rw[zA];omega
  have ss:∀ω:WSt,(Xo 1 [] Ph fG Xm q2h) ω=some (.fr A2)->WJ AL ω=some (.fr ((Xa nK).map D.int)):=λω h=>by
   unfold WJ vOf;rw[h];show (intsOf A2).bind _=_;rw[show A2=(F.map XY).map D.int by rw[yK];rfl,q0g];exact vF (qeq (by rw[zA];omega))
  have c1:=ss [↥aP,↥fH,↥ij,none] (by simp_arith[hf,OD,inW,Ws,cm]);have cm2:=qB (i:=0) (f:=q4W) D.int (λb=>zAq (b,G b)) (Xa nK) (ω:=[none,↥aP,↥fH,↥ij]) (λb _=>by
   have c:=(hG b).1;unfold q4W;simp_arith[c];rfl)
  have hl3:((Xa nK).map D.int).length<=1000000:=by
   have:=q1w nK;rw[zA]at this ⊢;omega
  rw[yK];simp_arith[c1,Wk hl3,inW,Ws,cm2];rfl
 ·obtain⟨b,_,rfl⟩:=zu.mp hr
  exact(hG b).2
noncomputable def wghK(k a:Int):List cg->Int
 | []=>0
 | r::rs=>Fx*(kG-k)+wghK k r.1 rs
noncomputable def ws(c:bU)(a:Int):List Int->Int
 | []=>0
 | b::C=>(b-a)*c b+ws c b C
theorem qh9{k:Int}{c:bU}:∀{rows:pL}{a:Int},(∀r∈rows,kG-k=c r.1)->wghK k a rows=ws c a (rows.map (·.1))
 | [],_,_=>rfl
 | r::rs,a,h=>by
  show Fx*(kG-k)+wghK k r.1 rs=Fx*c r.1+ws c r.1 (rs.map (·.1));rw[h r zE,qh9 λx hx=>h x jT]
theorem qe7{c d:bU}:∀{C:af}{a:Int},ws abU a C=ws c a C-ws d a C
 | [],_=>rfl
 | b::C,a=>by
  show (b-a)*(c b-d b)+ws abU b C=RS-RQ;rw[qe7,Int.mul_sub];omega
theorem qfc{c d:bU}:∀{C:af}{a:Int},ws abV a C=ws c a C+ws d a C
 | [],_=>rfl
 | b::C,a=>by
  show (b-a)*(c b+d b)+ws abV b C=RS+RQ;rw[qfc,wf];omega
theorem q7P{c:bU}:∀{C:af}{a:Int},(∀b∈C,c b=0)->ws c a C=0
 | [],_,_=>rfl
 | b::C,a,h=>by
  show (b-a)*c b+ws c b C=0;rw[h b zE,q7P λx hx=>h x jT,wR];rfl
theorem qaa{d:Int}:∀{C:af}{a:Int},ws (λ_=>d) a C=((C.getLast?).getD a-a)*d
 | [],a=>by show nN=(a-a)*d;rw[Ze,Int.zero_mul]
 | b::C,a=>by
  show (b-a)*d+ws (λ_=>d) b C=_;rw[qaa,List.getLast?_cons,Option.getD_some,<- Int.add_mul]
  congr 1;omega
theorem qdI{c:Int}:∀{C:af}{a:Int},C.Pairwise (· < ·)->c∈C->ws (λb=>if b<=c then 1 else 0) a C=c-a
 | b::C,a,h,m=>by
  obtain⟨h1,h2⟩:=zZ.mp h;show (b-a)*(if b<=c then 1 else 0)+ws (λb=>if b<=c then 1 else 0) b C=_;rcases zH.mp m with rfl|m
  ·rw[vF (zr _),q7P λx hx=>vG (by have:=h1 x hx;omega)];omega
  ·have:=h1 c m
   rw[jP,qdI h2 m];omega
noncomputable def zC4(L:af)(b:Int):Int:=((L.filter λc=>decide (b<=c)).length:Int)
theorem qds{C:af}(h:C.Pairwise (· < ·)):∀{L:af},(∀c∈L,c∈C)->ws (zC4 L) 0 C=L.sum
 | [],_=>q7P λ_ _=>rfl
 | c::L,m=>by
  have e:zC4 (c::L)=λb=>(if b<=c then 1 else 0)+zC4 L b:=by
   funext b
   unfold zC4
   by_cases z:b<=c
   ·rw[fQ,yo ⇑z,zJ];omega
   ·rw[fI,yp ⇑z];omega
  rw[e,qfc,qdI h (m c zE),qds h λx hx=>m x jT,zV];omega
theorem qkh(F:eO)(b:Int):(F.length:Int)-((F.filter kJ).length:Int)=zC4 nK b:=by
 unfold zC4
 induction F with
 | nil=>rfl
 | cons e F ih=>
  rw[zI]
  by_cases z:XY e<b
  ·rw[yo (show blw b e=true by unfold blw;simpa using z),yp (by simp;omega),zJ,zJ,<- ih];omega
  ·rw[yp (show ¬blw b e=true by unfold blw;simpa using z),yo (by simp;omega),zJ,zJ]
   omega
theorem qf2{rows:pL}{F:eO}{N n:Nat}{d:Int}(h1:rows.map (·.1)=Xa nK)(h2:∀r∈rows,r.2.length+(F.filter JS).length=N)(h3:n+F.length=N):wghK (cj+d) 0 rows=(F.map XY).sum-((rows.map (·.1)).getLast?.getD 0)*d:=by
 rw[qh9 (c:=λb=>zC4 nK b-d) (λr hr=>by
  have:=h2 r hr;rw[<- qkh];omega),h1,qe7,qds q0B (λc hc=>q1t.mpr hc),qaa,YO]
theorem qdd{ts:af}{kn:ae}{f:bU}(h:HQ)(inn:∀e∈kn,e.1∈ts/\e.2∈ts)(es:eO):(∀e∈es,e.1∈ts/\e.2.1∈ts)->Tells ts NF (Xq f es).1:=by
 refine q1h (P:=λes=>(∀e∈es,e.1∈ts/\e.2.1∈ts)->Tells ts NF (Xq f es).1) (λ_=>by show Tells ts (kn++[]) f;rw[zi];exact h) Uv es;have h1:=ih λx hx=>he x (zW _ hx);obtain⟨p1,p2⟩:=he e (by simp);rw[q2m];unfold zAt
 by_cases z:(Xq f l).1 e.1=(Xq f l).1 e.2.1
 ·rw[fQ];exact h1
 ·rw[fI]
  show Tells ts (kn++((Xq f l).2++[e]).map Wd) _;rw[zX,<- zL];exact h1.join (λx hx=>by
   rcases zM.mp hx with m|m
   ·exact inn x m
   ·obtain⟨y,hy,rfl⟩:=zu.mp m
    exact he y (zW _ ((q2M f l).subset hy))) p1 p2
theorem q6I:∀(r:af)(k:Int),∀p∈k::r,Rch (Y8 nW) k p
 | [],k,p,hp=>by cases zU.mp hp;exact .refl
 | k1::r,k,p,hp=>by
  rcases zH.mp hp with rfl|hp
  ·exact .refl
  ·rw[qP]
   exact(Rch.refl.step (.inl zE)).trans ((q6I r k1 p hp).mono λe he=>zF _ he)
noncomputable def egO(q:bi):Eg:=(q.1,q.2,q.2-q.1)
theorem qin(G:ae):(G.map egO).map Wd=G:=by rw[yK];exact List.map_id _
theorem qgG{ts:af}{f:bU}(hn:ts.Nodup)(hne:ts≠[])(h:∀x∈ts,∀y∈ts,f x=f y):many f ts=1:=by
 obtain⟨t,ht⟩:=ZE _ hne;obtain⟨a,a1,_,a3⟩:=q91 (λ_=>True) ht trivial;show (ts.filter (zC8 f ts)).length=[a].length;refine q44 (hn.filter _) (by simp) λc=>?_;rw[yG,q1Z,zU]
 constructor
 ·rintro⟨h1,h2⟩
  have:=h2 a a1 (h a a1 c h1);have:=a3 c h1 trivial;omega
 ·rintro rfl
  exact⟨a1,λc hc _=>a3 c hc trivial⟩
theorem qeb:∀{rows:pL}{a:Int},(rows.map (·.1)).Pairwise (· < ·)->(∀c∈rows.map (·.1),a<c)->zCE a rows
 | [],_,_,_=>trivial
 | r::rows,a,h,h2=>by
  rw[zI]at h h2;exact⟨h2 _ zE,qeb (zZ.mp h).2 (zZ.mp h).1⟩
theorem qhD:∀(rows:pL)(a:Int),wgh a rows=wghK 1 a rows
 | [],_=>rfl
 | r::rs,a=>by show Fx*(kG-1)+wgh r.1 rs=_;rw[qhD];rfl
theorem q7b:∀{P:af},P.Pairwise (· < ·)->(Y8 P).Nodup
 | [],_=>xY
 | [_],_=>xY
 | a::b::r,h=>by
  show ((a,b)::Y8 (b::r)).Nodup;have hr:=zZ.mp h;refine yW.mpr ⟨λm=>?_,q7b hr.2⟩;have:=hr.1 a (q1s m).1;omega
structure FoA (h l:Int) (bs:List (Int×Int)) (F:List Eg):Prop where
 fo:q04 [.lst ((Pz h l bs).map D.int),.lst ((Kn h l bs).map Y9),.lst (((Y8 (Pz h l bs)).map egO).map egD)]=some (.fr (F.map egD))
 fs:∀e∈F,∃g∈Y8 (Pz h l bs),e=egO g
 nd:F.Nodup
 len:F.length<=62
 con:∀x∈Pz h l bs,∀y∈Pz h l bs,Rch (Kn h l bs++F.map Wd) x y
theorem qdo(h l:Int)(bs:ae):Pz h l bs≠[]:=λz=>by
 have:h∈Pz h l bs:=(qU h).mpr bA;rw[z]at this;cases this
theorem qgA{P:af}:∀p∈P,∀q∈P,Rch (Y8 P) p q:=by
 cases P with
 | nil=>intro p hp;cases hp
 | cons k r=>exact λp hp q hq=>(q6I r k p hp).symm.trans (q6I r k q hq)
theorem qkI{h l:Int}{bs:ae}(hb:bv):∃F,FoA h l bs F/\q3T cN=↥p8/\∀ms,Part bs h l ms->(nums ms).Perm mH->((Y8 aF).map CS).sum+2*(F.map XY).sum<=(ms.map zDC).sum:=by
 have hP:=q5J h l bs;have hl:=q58 (h:=h) (l:=l) hb;have hG:=q7c (h:=h) (l:=l) hb;have gl:=q0z aF;have fl:=yN (λq=>! dE) BD;have kl:(Kn h l bs).length<=900:=by unfold Kn;rw[zB,zB,zR];omega
 have ok:Ok aF ET:=⟨qaq hP,λe he=>qkJ he,hl,∅⟩;have he:∀e∈(Y8 (Pz h l bs)).map egO,e.1∈Pz h l bs/\e.2.1∈Pz h l bs:=λe he=>by
  obtain⟨g,hg,rfl⟩:=zu.mp he;exact q1s hg
 have el:((Y8 aF).map egO).length<64:=by rw[zA];omega
 obtain⟨f,tl,hf⟩:=qeH ok he el;obtain⟨rows,r1,r2,r3⟩:=qf0 ok kl he el tl hf;have pm:=q0c (f:=XY) (l:=(Y8 aF).map egO);have heS:∀e∈XX XY ((Y8 (Pz h l bs)).map egO),e.1∈Pz h l bs/\e.2.1∈Pz h l bs:=λe h=>he e UR;have kt:=q72 ok.nd tl ok.inn _ heS;have k2:=qdd tl ok.inn _ heS;have one:∀x∈Pz h l bs,∀y∈Pz h l bs,(Xq f Mx).1 x=(Xq f Mx).1 y:=λx hx y hy=>by
  refine(kt.1 x hx y hy).mpr ((qgA x hx y hy).mono λe he=>?_);refine zO _ ((pm.map Wd).mem_iff.mpr ?_);rw[qin];exact he
 have sub:=q2M f Mx;have lF:=sub.length_le;have lS:(XX XY lW).length=(Y8 aF).length:=by rw[q5k,zA]
 have n1:=kt.2;rw[qgG ok.nd (qdo h l bs) one]at n1;have con:=λx hx y hy=>(k2 x hx y hy).mp (one x hx y hy);generalize (Xq f Mx).2=F at sub lF con n1 hf r2 r3;have fs:∀e∈F,∃g∈Y8 (Pz h l bs),e=egO g:=λe he=>by
  obtain⟨g,hg,e1⟩:=zu.mp (pm.mem_iff.mp (sub.subset he));exact⟨g,hg,e1.symm⟩
 have ws:=qf2 (d:=0) r2 (λr hr=>(r3 r hr).1) n1;rw[wR,YO,show ((1:Nat):Int)+0=1 from rfl,<- qhD]at ws;have ris:zCE 0 rows:=qeb (by rw[r2];exact q0B) λc hc=>by
  rw[r2,q1t]at hc;obtain⟨e,he,rfl⟩:=zu.mp hc;obtain⟨g,hg,rfl⟩:=fs e he;have:=(hG g hg).lt;show 0<g.2-g.1;omega
 have L:∀r∈rows,Lev aF ET r:=λr hr=>by
  obtain⟨hs,g2,g3⟩:=(r3 r hr).2.2;have ok':=qbq ok kl (es:=((Y8 aF).map egO).filter JS) (λe h=>he e (yG.mp h).1) (by have:=yN JS lW;omega);refine qjy (t:=r.1) (gs:=r.2) ok' g2 g3 λe he=>?_;rcases zM.mp he with m|m
  ·exact zW _ m
  ·obtain⟨m1,m2⟩:=yG.mp m
   refine zO _ (zu.mpr ⟨egO e,yG.mpr ⟨zu.mpr ⟨e,m1,rfl⟩,m2⟩,rfl⟩)
 have rl:rows.length<=1000:=by
  have e1:(rows.map (·.1)).length=rows.length:=zA ..;have:=q1w nK;rw[<- r2,e1,zA]at this;omega
 have wt:=qez hb rl ris L;have fo:=hf;refine⟨F,⟨fo,fs,?_,∅,con⟩,?_,λms a b=>?_⟩
 ·refine List.Nodup.sublist sub (pm.nodup_iff.mpr ?_)
  unfold Yt;rw[ZK];exact(q7b hP).imp λ{a b} z e=>z (by
   have e1:a.1=b.1:=v7 (λx=>x.1) e;have e2:a.2=b.2:=v7 (λx=>x.2.1) e;exact Prod.ext e1 e2)
 ·rw[<- ws]
  have hK:=q6l (h:=h) (l:=l) hb;have hS:=q4v (h:=h) (l:=l) hb;have hE:=q6f (h:=h) (l:=l) hb;rw[show (Y8 aF).map edD=((Y8 aF).map egO).map egD by rw[yK];rfl]at hE;have hC:=q5p (h:=h) (l:=l) hb;have rs:q2W cN=↥iW:=by
   unfold q2W q65;have r1':q1P [N8,.lst ((bs++mo++(Y8 BG).filter λq=>! dE).map XJ),J4]=some (.fr mj):=r1;simp_arith[hS,hK,hE,r1',hC]
  unfold q3T q7y;simp_arith[rs,wt]
 ·rw[<- ws]
  exact qe3 hP (qdo h l bs) a b qU hG ris L
noncomputable def emA(h l:Int)(bs:ae)(F:eO):List bi:=W1 gk BD++twoA ML
noncomputable def arA(h l:Int)(bs:ae)(F:eO):List bi:=bs++emA h l bs F
theorem qht{h l:Int}{bs:ae}{F:eO}(A:jr){a:bi}(m:a∈emA h l bs F):∃g∈Y8 (Pz h l bs),a=Ox\/a=Ow:=by
 rcases zM.mp m with m|m
 ·exact qk5 m
 ·obtain⟨e0,he0,m⟩:=xH.mp m
  obtain⟨e,he2,rfl⟩:=zu.mp he0;obtain⟨g,hg,rfl⟩:=A.fs e he2;rcases zH.mp m with rfl|m
  ·exact⟨g,hg,bA⟩
  ·cases zU.mp m
   exact⟨g,hg,HX⟩
theorem qjK{h l:Int}{bs:ae}{F:eO}(hb:bv)(x:Int):flw x gj=0:=by
 have hP:=q5J h l bs;have hG:=q7c (h:=h) (l:=l) hb;unfold arA emA;rw[q2J,q2J,q2J,qav,q9E,q2U];have inP:∀b∈bs,b.1∈Pz h l bs/\b.2∈Pz h l bs:=λb hb=>ku;have ih:h∈Pz h l bs:=(qU h).mpr bA;have il:l∈Pz h l bs:=(qU l).mpr OL;have pk:(∃g∈Y8 (Pz h l bs),g.1<x/\x<=g.2/\∀c:Int×Int->Int,((Y8 aF).map λg=>c g*eE).sum=c g)\/(∀p∈Pz h l bs,∀q∈Pz h l bs,chi x p=chi x q):=by
  have hne:=qdo h l bs;revert hP hne;generalize Pz h l bs=P;intro hP hne;cases P with
  | nil=>exact vO rfl hne
  | cons k r=>exact qa3 x r k hP
 rcases pk with⟨g,hg,g1,g2,g3⟩|h3
 ·rw[g3 gk]
  obtain⟨t1,t2⟩:=q8W (hG g hg) g1 g2;have hG1:Gap h l mo g:=⟨(hG g hg).lt,(hG g hg).h,(hG g hg).l,λb hb=>by cases zU.mp hb;exact⟨(hG g hg).h,(hG g hg).l⟩⟩;obtain⟨u1,u2⟩:=q8W hG1 g1 g2;simp only[zI,yb,zV,Zc,wp]at u1 u2;have v:=q73 x h l;have fb:flw x bs=rts bs g-lfs bs g:=by
   rw[<- t1,<- t2];unfold flw;rw[yM λb _=>(q73 x b.1 b.2).symm];clear t1 t2 hb hP hG inP ih il hg g3 hG1 u1 u2
   induction bs with
   | nil=>rfl
   | cons b bs ih=>simp only[zI,zV,ih];omega
  rw[fb];have e0:flw x []=0:=rfl;rw[e0];unfold XQ;simp only;omega
 ·have e0:((Y8 aF).map λg=>XQ h l bs g*eE).sum=0:=by
   have:∀g∈Y8 (Pz h l bs),XQ h l bs g*eE=0:=λg hg=>by
    rw[h3 _ (q1s hg).2 _ (q1s hg).1,Ze,wR]
   rw[yM this];clear this
   induction Y8 (Pz h l bs)with
   | nil=>rfl
   | cons g gs ih=>rw[zI,zV,ih];rfl
  have fb:flw x bs=0:=by
   unfold flw;have:∀b∈bs,chi x b.2-chi x b.1=0:=λb hb=>by rw[h3 _ (inP b hb).2 _ (inP b hb).1,Ze]
   rw[yM this];clear this;generalize bs=bs'
   induction bs' with
   | nil=>rfl
   | cons g gs ih=>rw[zI,zV,ih];rfl
  have:=h3 _ ih _ il;have en:flw x []=0:=rfl;rw[e0,fb,en];simp only;omega
theorem qkv{h l:Int}{bs:ae}{F:eO}(A:jr):∀a∈arA h l bs F++[(l,h)],a.1∈Pz h l bs:=λa ha=>by
 rcases zM.mp ha with m|m
 ·rcases zM.mp m with m|m
  ·exact(qU _).mpr (.inr (.inr ⟨a,m,bA⟩))
  ·obtain⟨g,hg,rfl|rfl⟩:=qht A m
   ·exact(q1s hg).1
   ·exact(q1s hg).2
 ·cases zU.mp m
  exact(qU l).mpr OL
theorem qjT{h l:Int}{bs:ae}{F:eO}(A:jr):∀x∈Pz h l bs,∀y∈Pz h l bs,Rch gj x y:=λx hx y hy=>by
 refine Rch.inv (λz=>Rch gj x z) .refl S9 (A.con x hx y hy);have key:∀{u v:Int},(u,v)∈Kn h l bs++F.map Wd->Rch gj u v:=λ{u v} m=>by
  have s1:∀{u v:Int},(u,v)∈arA h l bs F->Rch gj u v:=λm=>Rch.refl.step (.inl (zW _ m));rcases zM.mp m with m|m
  ·unfold Kn at m
   rcases zM.mp m with m|m
   ·rcases zM.mp m with m|m
    ·exact s1 (zW _ m)
    ·cases zU.mp m
     exact Rch.refl.step (.inr UB)
   ·obtain⟨m1,m2⟩:=yG.mp m
    have hc:XQ h l bs (u,v)≠0:=by simpa using m2
    rcases qfT (c:=XQ h l bs) m1 hc with z|z
    ·exact s1 (zO _ QH)
    ·exact(s1 (zO _ QH)).symm
  ·exact s1 (zO _ (zO _ (xH.mpr ⟨_,m,zE⟩)))
 rcases hbc with m|m
 ·exact hb.trans (key m)
 ·exact hb.trans (key m).symm
theorem qiR{h l:Int}{bs:ae}{F:eO}(hb:bv):(sts gj).Perm (gls gj):=by
 rw[List.perm_iff_count];intro v;rw[<- (q74 _ v).1,<- (q74 _ v).2];exact qaO (λx=>qjK hb x) v
theorem q6m{h l:Int}{bs:ae}(q:bi):-fm-1<=XQ h l bs q/\XQ h l bs q<=bs.length+1:=by
 unfold XQ rts lfs;have a1:=yN (λp:Int×Int=>over p.1 p.2 q) bs;have a2:=yN (λp:Int×Int=>over p.2 p.1 q) bs;have b1:=yN (λp:Int×Int=>over p.1 p.2 q) mo;have b2:=yN (λp:Int×Int=>over p.2 p.1 q) mo;simp only[zR]at b1 b2;omega
theorem q7v{c:di}{n:Nat}:∀G:List bi,(∀g∈G,-cj<=c g/\c g<=n)->(W1 c G).length<=G.length*n
 | [],_=>yE _
 | g::G,h=>by
  have ih:=q7v G λx hx=>h x jT;have hg:=h g zE;show (repA (c g) g++W1 c G).length<=_;rw[zB,zJ,Nat.add_mul,Nat.one_mul];unfold repA;rw[zB,yY,yY];omega
theorem q7E:∀F:List bi,(twoA F).length=2*F.length
 | []=>rfl
 | e::F=>by
  show (Cg++twoA F).length=_;rw[zB,q7E F,zJ];simp only[zJ,xg];omega
theorem qeN{h l:Int}{bs:ae}{F:eO}(hb:bv)(A:jr):(arA h l bs F).length<=2500:=by
 have hl:=q58 (h:=h) (l:=l) hb;have gl:=q0z aF;have e1:=q7v (c:=XQ h l bs) (n:=31) BD λg _=>by have:=q6m (h:=h) (l:=l) (bs:=bs) g;omega
 have:=A.len;unfold arA emA;rw[zB,zB,q7E,zA];omega
structure Rg (as:List (Int×Int)):Prop where
 pm:(sts as).Perm (gls as)
 hg:∀p∈as,∀q∈as,Rch as p.1 q.1
theorem q8T{as:ae}{s:Int}{row:af}(h:zAL s as=some row):q1G [oe,aR]=some (.fr KN):=by
 show ((pairsOf EM).bind λas=>(zAL s as).map λrow=>O.fr KN)=_;rw[q3D,yR,h];rfl
theorem qk8{as:ae}{s:Int}(hl:Ep)(hg:Rg as)(hs:∃p∈as,p.1=s):∃row:List Nat,q3h [oe,aR]=↥(.lst Ef)/\row.Perm dX/\Wlk as s row s:=by
 have hm:=qiD (as:=as) hl;rw[vQ hg.pm]at hm;obtain⟨row,U,hr,R⟩:=qgl (s:=s) hl hg.pm;have hrf:=q8T hr;obtain⟨p,hp,rfl⟩:=hs;have ha:row.length=as.length:=R.full λq hq=>hg.hg p hp q hq;have e1:((((cst row).length:Nat):Int)==KZ)=true:=by
  have:(cst row).length=row.length:=by unfold cst;rw[zA]
  simp only[beq_iff_eq];omega
 have hU:U=[]:=by
  have:=R.all.length_eq;rw[zB,zo]at this;exact yt ∅
 refine⟨row,?_,by have:=R.all;rw[hU,yT]at this;exact this,R.walk⟩;unfold q3h q66;simp_arith[hm,hrf,e1]
theorem Wlk.split{as:ae}:∀{r q:bT}{a c:Int},Wlk as a (r++q) c->∃b,Wlk as a r b/\Wlk as b q c
 | [],_,a,_,h=>⟨a,.nil _,h⟩
 | n::r,q,a,c,h=>by
  cases h with
  | cons e t=>
   obtain⟨b,h1,h2⟩:=t.split;exact⟨b,.cons e h1,h2⟩
theorem q63{s:Int}:∀{P:af},s∈P->∃i,zBA s P=some i/\P[i]?=some s
 | a::r,h=>by
  unfold zBA
  by_cases z:a=s
  ·exact⟨0,vF z,by rw[z];rfl⟩
  ·obtain⟨i,h1,h2⟩:=q63 ((zH.mp h).resolve_left λe=>z e.symm)
   exact⟨i+1,by rw[fI,h1];rfl,h2⟩
theorem qkd{f g:FD}{ω:WSt}:fIdx f g ω=(f ω).bind λd=>(g ω).bind λc=>idxD d c:=rfl
theorem q7H{α:Type}(d:α):∀n:Nat,(zn n [d]).flatten=zn n d
 | 0=>rfl
 | n+1=>by rw[yV,yA,q7H d n,yV];rfl
theorem qgB(c:di)(G:ae)(q:bi):W1 c (G++[q])=W1 c G++repA (c q) q:=by
 unfold W1;rw[xo,Zf]
theorem qjG{h l:Int}{bs:ae}(hb:bv):q0s cN=some (.fr SO):=by
 unfold q0s q1X;have hg:=q47 (h:=h) (l:=l) hb;have hk:=q6h (h:=h) (l:=l) hb;have hL:=q4P (h:=h) (l:=l) hb;rw[show Xa bM=Pz h l bs from rfl]at hg hk;generalize Y8 aF=L at hg hk hL ⊢;simp_arith[hg,hk,q6d];obtain⟨ω',e,x4,x5,x6,rfl⟩:=qQ (g:=gT 2 me) (b:=q1K) (λq=>D.tup [Ss,HW]) L
  (λpre ω=>∃x4 x5 x6:Option W,ω=[↥gR,↥jh,↥av,some (.ow ((W1 gk pre).map XJ)),x4,x5,x6])
  (λpre q post ω hd ⟨x4,x5,x6,hω⟩=>by
   subst hω;refine cn;have la:=q6m (h:=h) (l:=l) (bs:=bs) q;have el:=q7v (c:=XQ h l bs) (n:=31) pre λg _=>by have:=q6m (h:=h) (l:=l) (bs:=bs) g;omega
   have pl:pre.length<=L.length:=by rw[hd,zB];omega
   have ba:zCI [HW]=↥acR:=rfl;unfold q1K;rw[show XJ q=D.tup [pE,GO]from rfl];simp only[qgB];generalize XQ h l bs q=c at *;have ab:0<=Wp c/\Wp c<=31:=by unfold Wp;split <;> omega
   by_cases hc:0<c
   ·have hr:=λd:D=>qec (ds:=[d]) ab.1 ∅ (show [d].length<=1000 by simp)
    have e1:(Wp c).toNat=c.toNat:=by unfold Wp;rw[fO]
    have hl2:((W1 gk pre).map XJ).length+(zn c.toNat abB).length<=1000000:=by
     rw[zA,yY];omega
    have ea:(W1 gk pre).map XJ++zn c.toNat abB=(W1 gk pre++repA c q).map XJ:=by
     unfold repA;rw[show (-c).toNat=0 by omega,wG,zi,zX,xb];rfl
    simp_arith[hc,decide_true,ba,hr,q7H,e1,q4N hl2,ea];exact rP
   ·have hr:=λd:D=>qec (ds:=[d]) ab.1 ∅ (show [d].length<=1000 by simp)
    have e1:(Wp c).toNat=(-c).toNat:=by unfold Wp;split <;> omega
    have hl2:((W1 gk pre).map XJ).length+(zn (-c).toNat abC).length<=1000000:=by
     rw[zA,yY];omega
    have ea:(W1 gk pre).map XJ++zn (-c).toNat abC=(W1 gk pre++repA c q).map XJ:=by
     unfold repA;rw[show c.toNat=0 by omega,wG,yT,zX,xb];rfl
    simp_arith[hc,decide_false,ba,hr,q7H,e1,q4N hl2,ea];exact rP)
  (ω:=[↥gR,↥jh,↥av,rn,none,none,none]) B0
 simp_arith[e]
theorem qfX(F:ae)(e:bi):twoA (F++[e])=twoA F++Cg:=by
 unfold twoA;rw[xo,Zf]
theorem qj9{h l:Int}{bs:ae}{F:eO}(hb:bv)(A:jr):q0F cN=some (.fr Us):=by
 unfold q0F q2u;have hK:=q6l (h:=h) (l:=l) hb;have hS:=q4v (h:=h) (l:=l) hb;have hE:=q6f (h:=h) (l:=l) hb;rw[show (Y8 aF).map edD=((Y8 aF).map egO).map egD by rw[yK];rfl]at hE;have fo:=A.fo;have fl:=A.len;have fo':q04 [N8,.lst ((bs++mo++(Y8 BG).filter λq=>! dE).map XJ),J4]=some (.fr (F.map egD)):=fo;simp_arith[hS,hK,hE,fo'];obtain⟨ω',e,x5,rfl⟩:=qQ (g:=gN 5) (b:=q22) egD F
  (λpre ω=>∃x5:Option W,ω=[↥gR,↥jh,↥av,some (.ow ((twoA CL).map XJ)),↥N8,x5])
  (λpre q post ω hd ⟨x5,hω⟩=>by
   subst hω;refine cn;have pl:pre.length<=F.length:=by rw[hd,zB];omega
   have tl:=q7E CL;rw[zA]at tl;have l1:((twoA CL).map XJ).length<1000000:=by rw[zA];omega
   have l2:((twoA CL).map XJ++[D.tup [pE,N9]]).length<1000000:=by rw[zB,zA,zR];omega
   have ea:(twoA CL).map XJ++[D.tup [pE,N9]]++[D.tup [N9,pE]]=(twoA ((pre++[q]).map Wd)).map XJ:=by
    rw[zX,zI,yb,qfX,zX,zL];rfl
   unfold q22;rw[show egD q=D.tup [pE,N9,.int q.2.2]from rfl];simp_arith[zCC l1,zCC l2,ea];exact bw)
  (ω:=[↥gR,↥jh,↥av,rn,↥N8,none]) Fg
 simp_arith[e]
theorem qbR{as x:ae}{n:Nat}(h:n<as.length):Xj (as++x) n=Xj as n/\Xr (as++x) n=Xr as n:=by
 unfold Xj Xr;rw[zT,zT,zh h];exact bY
theorem Wlk.low{as x:ae}:∀{r:bT}{a b:Int},Wlk (as++x) a r b->(∀n∈r,n<as.length)->Wlk as a r b
 | [],_,_,h,_=>by cases h;exact .nil _
 | n::r,a,b,h,hl=>by
  cases h with
  | cons e t=>
   have sa:=qbR (x:=x) (hl n zE);rw[sa.1]at e;rw[sa.2]at t;exact .cons e (t.low λk hk=>hl k Fn)
theorem qiT{row:bT}{j n:Nat}(h:(cst row)[j]?=some cj):row[j]?=some n:=by
 unfold cst at h;rw[ze]at h;cases e:row[j]? with
 | none=>rw[e]at h;cases h
 | some m=>
  rw[e]at h;have:iH=n:=zw h;rw[show m=n by omega]
theorem qkk{as:ae}{h l:Int}(hl:as.length<=2900)(hg:Rg GJ):∃q:List Nat,q09 [gR,jh,aR]=some Nb/\q.Perm dX/\Wlk as h q l:=by
 have hs:∃p∈as++[(l,h)],p.1=h:=by
  have m:h∈gls GJ:=zu.mpr ⟨(l,h),by simp,rfl⟩;obtain⟨p,hp,e⟩:=zu.mp (hg.pm.mem_iff.mpr m);exact⟨p,hp,e⟩
 have hn:(as++[(l,h)]).length=as.length+1:=by rw[zB,zR]
 obtain⟨row,hr,hp,hw⟩:=qk8 (s:=h) ∅ hg hs;rw[hn]at hp;have mn:KZ∈cst row:=zu.mpr ⟨as.length,hp.mem_iff.mpr (yU.mpr Te),rfl⟩;obtain⟨j,j1,j2⟩:=q63 mn;have j3:=qiT j2;obtain⟨jl,j4⟩:=zj.mp j3;have er:row=row.take j++as.length::row.drop (j+1):=by
  rw[<- j4,List.getElem_cons_drop,yH]
 have pm:(row.drop (j+1)++row.take j).Perm dX:=by
  have p1:(as.length::lE).Perm row:=by
   have:(row.take j++as.length::row.drop (j+1)).Perm (as.length::lE):=ZP.trans (List.Perm.cons _ yn);rw[<- er]at this;exact this.symm
  have p2:(za (as.length+1)).Perm (as.length::za as.length):=by
   rw[Yj];exact yn
  exact((p1.trans hp).trans p2).cons_inv
 have lt:∀n∈row.drop (j+1)++row.take j,n<as.length:=λn hn=>yU.mp (pm.mem_iff.mp hn);refine⟨lE,?_,pm,?_⟩
 ·unfold q09 q2p
  have ad:X3 aR (.lst [.tup [jh,gR]])=some (.fr ((as++[(l,h)]).map Y9)):=by
   rw[q0H (by rw[zA,zR];omega),zX];rfl
  have ix:idxD (.lst Ef) (.int KZ)=↥A6:=by
   show (intsOf Ef).bind _=_;rw[q0g,yR,j1];rfl
  have cl:(cst row).length=as.length+1:=by unfold cst;rw[zA,hp.length_eq,zo]
  have c1:=qgi (xs:=(cst row).map D.int) (k:=By+1) ∅;have c2:=qgn (xs:=(cst row).map D.int) (k:=By) ∅;have a2:X3 (.lst (((cst row).map D.int).drop (By+1).toNat)) (.lst (((cst row).map D.int).take (j:Int).toNat))=some (.fr ((cst lE).map D.int)):=by
   rw[q0H (by rw[yP,zg,zA];omega),show (By+1).toNat=j+1 by omega,show (j:Int).toNat=j by omega];unfold cst;rw[zX,zX,ZM,ZM,Zz,Zz]
  simp_arith[ad,hr,qkd,ix,qhs,c1,c2,a2]
 ·rw[er]at hw
  obtain⟨b,w1,w2⟩:=hw.split;cases w2 with
  | cons e t=>
   have s1:Xj GJ as.length=l/\Xr GJ as.length=h:=by
    unfold Xj Xr;rw[zT,zd bZ,wo];exact bY
   rw[s1.1]at e;rw[s1.2]at t;subst e;exact(t.app w1).low lt
noncomputable def mvN(B:Nat)(as:ae)(n:Nat):D:=if n<B then .tup Pc else .tup Sl
theorem qiK{h l:Int}{bs:ae}{F:eO}(hb:bv)(A:jr):∃q:List Nat,q5b cN=some (.fr Ts)/\q.Perm Ak/\Wlk aA h q l:=by
 have al:=qeN hb A;have st:=qkv A;obtain⟨q,q1,q2,q3⟩:=qkk (as:=arA h l bs F) (h:=h) (l:=l) ∅ ⟨qiR hb,λp hp r hr=>qjT A _ (st p hp) _ (st r hr)⟩;refine⟨q,?_,q2,q3⟩;unfold q5b qaI;have h1:=qjG (h:=h) (l:=l) hb;have h2:=qj9 hb A;have e1:X3 (.lst SO) (.lst Us)=some (.fr OO):=by
  rw[q0H,<- zX];rfl;unfold arA emA at al;rw[zB,zB]at al;rw[zA,zA];omega
 have e2:X3 av (.lst OO)=some (.fr nP):=by
  rw[q0H,<- zX];rfl;unfold arA at al;rw[zB]at al;rw[zA,zA];omega
 have q1':q09 [gR,jh,.lst nP]=some Nb:=q1;have hq:((cst q).map D.int).length<=1000000:=by
  unfold cst;rw[zA,zA,q2.length_eq,zo];omega
 have cm:=qB (i:=0) (f:=q7N) (λn:Nat=>D.int cj) kZ q (ω:=[none,↥av,↥(.lst nP)]) (λn hn=>by
  have hlt:n<(arA h l bs F).length:=yU.mp Tr;have hi:atI nP cj=some SE:=by
   rw[q0V ∅ (by rw[zA];omega)];have:(((arA h l bs F).map XJ)[(cj).toNat]'(by rw[zA];omega))=XJ (arA h l bs F)[n]:=by
    rw[xG];simp
   rw[this];unfold XJ Xj Xr;rw[zT,GB];rfl
  unfold q7N q1H q34 mvN
  by_cases z:n<bs.length
  ·have z':decide (cj<fm)=true:=by simpa using z
   simp_arith[hi,z',z]
  ·have z':decide (cj<fm)=false:=by simpa using z
   simp_arith[hi,z',z])
 have cq:(cst q).map D.int=q.map λn:Nat=>D.int cj:=by unfold cst;rw[yK];rfl
 rw[cq]at q1' hq;simp_arith[h1,h2,e1,e2,q1',Wk hq,inW,Ws,cm]
theorem qcP:shp gZ=true:=⋯
theorem q8Z:shp df=true:=⋯
theorem qkP:oEq false gZ gZ=some (.sh cp):=q26 qcP
theorem qkK:oEq false df df=some (.sh cp):=q26 q8Z
theorem qjC:oEq true df df=some (.sh ki):=qg1 q8Z
theorem qki:oEq false df gZ=some (.sh ki):=by
 unfold oEq;rw[qcP,q8Z,show eqD df gZ=false by decide +kernel];rfl
theorem qjP:oEq false gZ df=some (.sh ki):=by
 unfold oEq;rw[qcP,q8Z,show eqD gZ df=false by decide +kernel];rfl
theorem q8Y{B:Nat}{as:ae}{n:Nat}(h:¬n<B):mvN B as n=.tup Sl:=vG h
theorem q7l{B:Nat}{as:ae}{n:Nat}(h:n<B):mvN B as n=.tup Pc:=vF h
theorem qkE(i:Int):q1L [gc]=↥cp:=rfl
theorem qjW{h l:Int}{bs:ae}{F:eO}{n:Nat}(hn:n<bs.length):atI mm cj=some SE:=by
 have e:=qbR (as:=bs) (x:=emA h l bs F) hn;rw[show Xj aA n=Xj bs n from e.1,show Xr aA n=Xr bs n from e.2,q0V ∅ (by rw[zA];omega)];have:((bs.map XJ)[(cj).toNat]'(by rw[zA];omega))=XJ bs[n]:=by
  rw[xG];simp
 rw[this];unfold XJ Xj Xr;rw[zT,zD hn];rfl
theorem qkT{h l:Int}{bs:ae}{F:eO}(hb:bv)(A:jr){n:Nat}(h1:¬n<bs.length)(h2:P5):Xj aA n≠Xr aA n:=by
 have m:(arA h l bs F).getD n (0,0)∈emA h l bs F:=by
  unfold arA at h2 ⊢;rw[zB]at h2;rw[zT,zd ∅,VH];exact yQ _
 obtain⟨g,hg,z⟩:=qht A m;have:=(q7c hb g hg).lt;unfold Xj Xr;rcases z with z|z <;> rw[z] <;> dsimp only <;> omega
theorem qk7(a b:Int):oEq false A3 A3=↥cp:=q26 rfl
theorem qhL(B:Nat)(as:ae)(n:Nat):∃ds,mvN B as n=.tup ds/\atI ds (-2)=some (.int gW)/\atI ds (-1)=some (.int mN):=by
 by_cases z:n<B
 ·exact⟨_,q7l z,rfl,rfl⟩
 ·exact⟨_,q8Y z,rfl,rfl⟩
theorem qal{x0 x1 x2 x3:cb}(is:af):∃y3,zAe (gN 3) q0M (is.map D.int) [x0,x1,x2,x3]=some (.nx,[x0,x1,x2,y3]):=by
 obtain⟨ω',e,y3,rfl⟩:=qQ (g:=gN 3) (b:=q0M) D.int is (λ_ ω=>∃y3,ω=[x0,x1,x2,y3]) (λpre i post ω hd ⟨y3,hω⟩=>by
  subst hω;refine cn;unfold q0M;simp_arith[qkE];exact bw) (ω:=[x0,x1,x2,x3]) ⟨x3,rfl⟩
 exact⟨y3,e⟩
theorem qfR{h l:Int}{bs:ae}{F:eO}(hb:bv)(A:jr){n:Nat}{here:Int}(h2:P5)(hs:Xj aA n=here):q0x [av,gu,ro]=↥cp:=by
 unfold q0x q1R
 by_cases z:n<bs.length
 ·rw[q7l z]
  have hi:=qjW (h:=h) (l:=l) (F:=F) z;rw[hs]at hi ⊢;generalize Xr aA n=b at hi;have s1:oSl Qm L3 none=some (.sh (.tup [CC,gu,dy])):=rfl;obtain⟨y3,e⟩:=qal (x0:=some (.sh av)) (x1:=some (.sh gu)) (x2:=some (.sh Qm)) (x3:=none) [cj,here,b];have d1:decide (cj<0)=false:=by simp
  have d2:decide (fm<=cj)=false:=by simp;omega
  have at3:atI [D.str "box", CC,gu,dy] 3=some dy:=rfl;simp only[zI,yb]at e;simp_arith[show decide (Qx<3)=false from rfl,s1,e,qki,qjC,show (Qx==4)=true from rfl,d1,d2,hi,at3,qk7]
 ·rw[q8Y z]
  have ne:=qkT hb A z h2;rw[hs]at ne ⊢;generalize Xr aA n=b at ne;have s1:oSl Ul L3 none=some (.sh (.tup [gu,dy])):=rfl;obtain⟨y3,e⟩:=qal (x0:=some (.sh av)) (x1:=some (.sh gu)) (x2:=some (.sh Ul)) (x3:=none) [here,b];have n1:(b==here)=false:=by simpa using λy=>ne y.symm
  simp only[zI,yb]at e;simp_arith[show decide (SQ<3)=false from rfl,s1,e,qkP,show (SQ==3)=true from rfl,n1]
theorem qdx{x:Int}:∀{L:af}{j:Nat},L.Nodup->L[j]?=some x->∀y,y∈L.eraseIdx j↔(y∈L/\y≠x)
 | [],_,_,h,_=>by cases h
 | a::L,0,nd,h,y=>by
  have e:a=x:=zw h;subst e;have nd':=yW.mp nd;show y∈L↔_
  constructor
  ·intro m;exact⟨zF _ m,λz=>nd'.1 (z▸m)⟩
  ·rintro⟨m,z⟩;exact(zH.mp m).resolve_left z
 | a::L,j+1,nd,h,y=>by
  have nd':=yW.mp nd;have ih:=qdx nd'.2 (show L[j]?=some x from h) y;have hx:x∈L:=zz (show L[j]?=some x from h);show y∈a::L.eraseIdx j↔_;rw[zH,zH,ih]
  constructor
  ·rintro(rfl|⟨m,z⟩)
   ·exact⟨bA,λz=>nd'.1 (z▸hx)⟩
   ·exact⟨.inr m,z⟩
  ·rintro⟨rfl|m,z⟩
   ·exact .inl rfl
   ·exact .inr ⟨m,z⟩
theorem q7F{h l:Int}{bs:ae}{F:eO}(hb:bv)(A:jr){x0 x1 x3:cb}:∀(row:bT)(here fin:Int)(L:af)(x6:cb),Wlk aA here row fin->row.Nodup->(∀n∈row,n<(arA h l bs F).length)->L.Nodup->(∀n∈row,n<bs.length->cj∈L) ->
  ∃(L':af) (y6:cb),zAe (gN 6) qY (row.map kZ) [x0,x1,↥av,x3,↥gu,Cc,x6]=some (.nx,[x0,x1,↥av,x3,↥(.int fin),some (.ow (L'.map D.int)),y6])/\∀y∈L',y∈L/\∀n∈row,n<bs.length->y≠cj
 | [],here,fin,L,x6,w,_,_,_,_=>by cases w;exact⟨L,x6,rfl,λy hy=>⟨hy,λn hn=>by cases hn⟩⟩
 | n::row,here,fin,L,x6,w,nd,lt,ndL,inn=>by
  cases w with
  | cons e t=>
   have nd':=yW.mp nd;have lm:=qfR hb A (lt n zE) e;obtain⟨ds,e1,_,e3⟩:=qhL bs.length aA n
   by_cases z:n<bs.length
   ·obtain⟨j,j1,j2⟩:=q63 (inn n zE z)
    have em:=qdx ndL j2;have ndL':(L.eraseIdx j).Nodup:=ndL.sublist (List.eraseIdx_sublist L j);have kn:∀k∈row,jb≠cj:=λk hk y=>nd'.1 (by rw[<- show k=n by omega];exact hk);obtain⟨L',y6,ih,ih2⟩:=q7F hb A (x0:=x0) (x1:=x1) (x3:=x3) row jU fin (L.eraseIdx j) ↥(mvN bs.length aA n) t nd'.2 Uw ndL' (λk hk hkb=>(em k).mpr ⟨inn k Fn hkb,kn k hk⟩);refine aaN
    ·have rm:=λω=>qjQ (i:=5) (ω:=ω) j1
     have ni:oIn true CC (.lst (L.map D.int))=↥ki:=by
      rw[qib,vQ (inn n zE z)];rfl
     have eb:qY b8=some (.nx,[x0,x1,↥av,x3,↥Dc,some (.ow ((L.eraseIdx j).map D.int)),↥ro]):=by
      unfold qY;rw[q7l z]at lm ⊢;have a1:atI [D.str "box", CC,.int Ao,Dc] (-1)=some Dc:=rfl;simp_arith[lm,qkK,ni,rm,a1]
     show Zt (some b8) _=_;rw[yR,eb];exact ih
    ·obtain⟨a1,a2⟩:=ih2 y hy
     obtain⟨b1,b2⟩:=(em y).mp a1;refine⟨b1,λk hk hkb=>?_⟩;rcases zH.mp hk with rfl|hk
     ·exact b2
     ·exact a2 k hk hkb
   ·obtain⟨L',y6,ih,ih2⟩:=q7F hb A (x0:=x0) (x1:=x1) (x3:=x3) row jU fin L ↥(mvN bs.length aA n) t nd'.2 Uw ndL (λk hk=>inn k Fn)
    refine aaN
    ·have eb:qY b8=some (.nx,[x0,x1,↥av,x3,↥Dc,Cc,↥ro]):=by
      unfold qY;rw[q8Y z]at lm ⊢;have a1:atI [D.str "go", .int Ao,Dc] (-1)=some Dc:=rfl;simp_arith[lm,qjP,a1]
     show Zt (some b8) _=_;rw[yR,eb];exact ih
    ·obtain⟨a1,a2⟩:=ih2 y hy
     refine⟨a1,λk hk hkb=>?_⟩;rcases zH.mp hk with rfl|hk
     ·exact vO hkb z
     ·exact a2 k hk hkb
theorem qgw{h l:Int}{bs:ae}{F:eO}(hb:bv)(A:jr){q:bT}(q2:q.Perm Ak)(q3:Wlk aA h q l):
  q0r [gR,jh,av,.lst Ts]=↥cp:=by
 have hn:=hb;unfold q0r q2c;have hrng:zAu [.int fm]=some (.fr ((zAb 0 bs.length).map D.int)):=by
  rw[qbx ri,yj]
 have mr:∀y,y∈zAb 0 bs.length↔∃n:Nat,n<bs.length/\y=cj:=λy=>by
  unfold zAb;rw[zu]
  constructor
  ·rintro⟨n,hn,rfl⟩;exact⟨n,yU.mp hn,∅⟩
  ·rintro⟨n,hn,rfl⟩;exact⟨n,yU.mpr hn,∅⟩
 have nr:(zAb 0 bs.length).Nodup:=by
  unfold zAb Yt;rw[ZK];exact xt.imp λz e=>z ∅
 obtain⟨L',y6,e,he⟩:=q7F hb A (x0:=↥gR) (x1:=↥jh) (x3:=↥(.lst Ts)) q h l (zAb 0 bs.length) none q3 (q2.nodup_iff.mpr xt) (λn hn=>yU.mp Tr) nr λn _ hnb=>(mr _).mpr ⟨n,hnb,rfl⟩;have hL:L'=[]:=by
  cases L' with
  | nil=>rfl
  | cons y L'=>
   exfalso;obtain⟨a1,a2⟩:=he y zE;obtain⟨n,hnb,rfl⟩:=(mr y).mp a1;refine a2 n (q2.mem_iff.mpr (yU.mpr ?_)) hnb rfl;unfold arA;rw[zB];omega
 subst hL;have en:oEq false gQ gQ=↥cp:=rfl;simp_arith -implicitDefEqProofs [hrng,e,en]
theorem at3m{a b c:D}:atI [a,b,c] (-1)=some c/\atI [a,b,c] (-2)=some b:=bY
theorem at4m{a b c d:D}:atI Qa (-1)=some d/\atI Qa (-2)=some c:=bY
theorem qif(ms:iO):X5 fG Xm q9y CN GK=some (ms.map λm=>D.int (zDC m)):=qB mvD (λm=>D.int (zDC m)) ms λm _=>by
 unfold q9y;cases m <;> simp_arith[mvD,at3m,at4m,zCI] <;> rfl
theorem qiU{B:Nat}{as:ae}(q:bT):X5 fG Xm qad (q.map (mvN B as)) GK=some (q.map λn=>D.int (WG gW mN)):=qB (mvN B as) (λn=>D.int (WG gW mN)) q λn _=>by
 unfold qad
 by_cases z:n<B
 ·rw[q7l z]
  simp_arith[at4m,zCI];rfl
 ·rw[q8Y z]
  simp_arith[at3m,zCI];rfl
theorem qfF{h l:Int}{bs:ae}{F:eO}(hb:bv)(A:jr){q:bT}(q2:q.Perm Ak):(q.map λn=>WG Ao jU).sum=((Y8 aF).map CS).sum+2*(F.map XY).sum:=by
 have e0:=q9w (q2.map λn=>WG Ao jU);have e1:((za (arA h l bs F).length).map λn=>WG Ao jU)=(arA h l bs F).map λa=>WG a.1 a.2:=by
  conv=>rhs;rw[<- q8r (0,0) aA]
  rw[yK];rfl
 have hG:=q7c (h:=h) (l:=l) hb;have wb:=q8v (h:=h) (l:=l) (q5J h l bs) bs (λb hb=>ku) hG;have we:=qa8 gk BD λg hg=>(hG g hg).lt;have wt2:=q9H ML λg hg=>by
  obtain⟨e,he2,rfl⟩:=zu.mp hg;obtain⟨g2,hg2,rfl⟩:=A.fs e he2;exact(hG g2 hg2).lt
 have e6:((F.map Wd).map λg=>g.2-g.1)=F.map XY:=by
  rw[yK];exact yM λe he=>by obtain⟨g,_,rfl⟩:=A.fs e he;rfl
 rw[e0,e1];unfold arA emA;rw[zX,xO,zX,xO,we,wt2,wb,e6,<- Z3,<- q68];rw[show ((Y8 aF).map CS)=(Y8 aF).map λx=>(x.2-x.1)*(rts bs x+lfs bs x)+(x.2-x.1)*Wp (XQ h l bs x)from yM λg _=>by unfold gwt;rw[wf]]
theorem qfG(ns:af)(hl:ns.length<=63):q5E [Bj]=↥cp:=by
 obtain⟨h,l,bs,he,hb14⟩:=errand (ns:=ns) (most:=14) (by decide) (by decide);have hb:bs.length<=30:=∅
 obtain⟨F,A,a1,a2⟩:=qkI (h:=h) (l:=l) hb;obtain⟨q,q1,q2,q3⟩:=qiK hb A;have t1:=qgw hb A q2 q3;have ls:=qfF hb A q2;have hcl:(cutD ns V6 V1).length<=100:=by
  have e1:HT.sIx ns.length 0 V6=min 23 ns.length:=HT.q40 ns.length 0 23;have e2:HT.sIx ns.length ns.length V1=min 63 ns.length:=HT.q40 ns.length ns.length 63;unfold cutD;rw[e1,e2,zg];omega
 obtain⟨ms,d1,d2,d3,d4⟩:=qfD (home:=h) (last:=l) (bs:=bs) (cells:=cutD ns V6 V1) ∅ hcl;have hml:(ms.map mvD).length<=1000000:=by rw[zA];omega
 have al:=qeN hb A;have hql:(q.map kZ).length<=1000000:=by rw[zA,q2.length_eq,zo];omega
 have le:=a2 ms d2 d3;have bl:zBV [av]=some (.fr mm):=rfl;have s1:zDB [.lst (q.map λn=>D.int (WG Ao jU))]=↥p8:=by
  rw[<- ls];exact qak ..
 unfold q5E qdf;simp_arith -implicitDefEqProofs [he,bl,q1,t1,Wk hql,inW,Ws,qiU,s1,qkH,d1,Wk hml,qif,qak,le,a1,decide_true,beq_self_eq_true]
theorem qkm{l:Zi}{w:vZ}{K:zC}{h:vk}{mg:bH}{fa:vH}(X:K.In h)(G:h.Ns vY mg)(hfa:mg "law" = some J2){f0:vH}{f1:vH}{f2:vH}{f3:vH}{f4:vH}{f5:vH}{f6:vH}{f7:vH}{f8:vH}{f9:vH}{f10:vH}{f11:vH}{f12:vH}{f13:vH}{f14:vH}{f15:vH}{f16:vH}{f17:vH}{f18:vH}{f19:vH}{f20:vH}{f21:vH}{f22:vH}{f23:vH}{f24:vH}{f25:vH}{f26:vH}{f27:vH}{f28:vH}{f29:vH}{f30:vH}{f31:vH}{f32:vH}{f33:vH}{f34:vH}{f35:vH}{f36:vH}{f37:vH}{f38:vH}{f39:vH}{f40:vH}{f41:vH}{f42:vH}{f43:vH}{f44:vH}{f45:vH}{f46:vH}{f47:vH}{f48:vH}{f49:vH}{f50:vH}{f51:vH}{f52:vH}{f53:vH}{f54:vH}(D0:Fd K "is_whole" q4i f0)(D1:Fd K "is_box" q6e f1)(D2:Fd K "is_errand" q3S f2)(D3:Fd K "check_errand" q27 f3)(D4:Fd K "stops" q7t f4)(D5:Fd K "gaps" q9m f5)(D6:Fd K "gap_edges" q3z f6)(D7:Fd K "leads_over" q2X f7)(D8:Fd K "crossed" q5a f8)(D9:Fd K "lack" q9q f9)(D10:Fd K "lacks" q7J f10)(D11:Fd K "neighbours" q2P f11)(D12:Fd K "group_of" q4d f12)(D13:Fd K "groups" q6u f13)(D14:Fd K "knots" q7z f14)(D15:Fd K "cost" q9D f15)(D16:Fd K "group_numbers" q1E f16)(D17:Fd K "with_two_joined" q1d f17)(D18:Fd K "forest" q6E f18)(D19:Fd K "groups_below" q1S f19)(D20:Fd K "levels" q6A f20)(D21:Fd K "weighed" q4O f21)(D22:Fd K "numbers_by_start" q0e f22)(D23:Fd K "as_many_begin_as_end" q0l f23)(D24:Fd K "round_from" q0O f24)(D25:Fd K "row_of" q6y f25)(D26:Fd K "row_between" q2v f26)(D27:Fd K "lacking_arcs" q20 f27)(D28:Fd K "forest_arcs" q2x f28)(D29:Fd K "move_along" q33 f29)(D30:Fd K "tour" q9C f30)(D31:Fd K "all_whole" q3Q f31)(D32:Fd K "counts_of" q3A f32)(D33:Fd K "are_counts" q3f f33)(D34:Fd K "is_group" q4l f34)(D35:Fd K "are_groups" q3i f35)(D36:Fd K "holds_together" q1k f36)(D37:Fd K "is_level" q4s f37)(D38:Fd K "rise_from_one" q1D f38)(D39:Fd K "are_levels" q3m f39)(D40:Fd K "is_reason" q3G f40)(D41:Fd K "gap_weight" q3e f41)(D42:Fd K "weight" q6i f42)(D43:Fd K "reason" q6c f43)(D44:Fd K "least" q7B f44)(D45:Fd K "_law_cell_at" q1T f45)(D46:Fd K "_law_whole" q3j f46)(D47:Fd K "_law_place" q3d f47)(D48:Fd K "_law_errand" q2s f48)(D49:Fd K "_law_gone" q3I f49)(D50:Fd K "_law_taken" q31 f50)(D51:Fd K "_law_drawn" q3a f51)(D52:Fd K "_law_is_move" q2d f52)(D53:Fd K "_law_is_tour" q1W f53)(D54:Fd K "law" q5Q f54)(z0:yZ K vY "isinstance" = some none)(z9:yZ K vY "bool" = some none)(z10:yZ K vY "int" = some none)(z14:yZ K vY "len" = some none)(z15:yZ K vY "tuple" = some none)(z18:yZ K vY "list" = some none)(z19:yZ K vY "all" = some none)(z23:yZ K vY "sorted" = some none)(z24:yZ K vY "set" = some none)(z26:yZ K vY "zip" = some none)(z34:yZ K vY "enumerate" = some none)(z_reversed:yZ K vY "reversed" = some none)(z44:yZ K vY "abs" = some none)(z63:yZ K vY "sum" = some none)(z69:yZ K vY "range" = some none)(z73:yZ K vY "str" = some none)(z11:IsT K .int)(z12:IsT K .bl)(z16:IsT K .tup)(z20:IsT K .lst)(z74:IsT K .str): ∃fd:vS,(∀(s:vC)(v:vB),sM s fd ⟨[v],[]⟩ [("script", v)])/\∀base:vk,K.In base->base.Ns vY mg->FnOk l.prog w K mg base CX0 13 fa fd Er (spD K 1 q5E):=by
 have e:=hfa.symm.trans (ZL X G D54.1);cases e;obtain⟨d0,F0⟩:=D0.2;obtain⟨d1,F1⟩:=D1.2;obtain⟨d2,F2⟩:=D2.2;obtain⟨d3,F3⟩:=D3.2;obtain⟨d4,F4⟩:=D4.2;obtain⟨d5,F5⟩:=D5.2;obtain⟨d6,F6⟩:=D6.2;obtain⟨d7,F7⟩:=D7.2;obtain⟨d8,F8⟩:=D8.2;obtain⟨d9,F9⟩:=D9.2;obtain⟨d10,F10⟩:=D10.2;obtain⟨d11,F11⟩:=D11.2;obtain⟨d12,F12⟩:=D12.2;obtain⟨d13,F13⟩:=D13.2;obtain⟨d14,F14⟩:=D14.2;obtain⟨d15,F15⟩:=D15.2;obtain⟨d16,F16⟩:=D16.2;obtain⟨d17,F17⟩:=D17.2;obtain⟨d18,F18⟩:=D18.2;obtain⟨d19,F19⟩:=D19.2;obtain⟨d20,F20⟩:=D20.2;obtain⟨d21,F21⟩:=D21.2;obtain⟨d22,F22⟩:=D22.2;obtain⟨d23,F23⟩:=D23.2;obtain⟨d24,F24⟩:=D24.2;obtain⟨d25,F25⟩:=D25.2;obtain⟨d26,F26⟩:=D26.2;obtain⟨d27,F27⟩:=D27.2;obtain⟨d28,F28⟩:=D28.2;obtain⟨d29,F29⟩:=D29.2;obtain⟨d30,F30⟩:=D30.2;obtain⟨d31,F31⟩:=D31.2;obtain⟨d32,F32⟩:=D32.2;obtain⟨d33,F33⟩:=D33.2;obtain⟨d34,F34⟩:=D34.2;obtain⟨d35,F35⟩:=D35.2;obtain⟨d36,F36⟩:=D36.2;obtain⟨d37,F37⟩:=D37.2;obtain⟨d38,F38⟩:=D38.2;obtain⟨d39,F39⟩:=D39.2;obtain⟨d40,F40⟩:=D40.2;obtain⟨d41,F41⟩:=D41.2;obtain⟨d42,F42⟩:=D42.2;obtain⟨d43,F43⟩:=D43.2;obtain⟨d44,F44⟩:=D44.2;obtain⟨d45,F45⟩:=D45.2;obtain⟨d46,F46⟩:=D46.2;obtain⟨d47,F47⟩:=D47.2;obtain⟨d48,F48⟩:=D48.2;obtain⟨d49,F49⟩:=D49.2;obtain⟨d50,F50⟩:=D50.2;obtain⟨d51,F51⟩:=D51.2;obtain⟨d52,F52⟩:=D52.2;obtain⟨d53,F53⟩:=D53.2;obtain⟨_,F54⟩:=D54.2;obtain⟨_,_,kV,dc,pm,an,cd,ct,_,rfl,_,_⟩:=F54.ex;have y_isinstance:=yJ X G z0;have y_bool:=yJ X G z9;have y_int:=yJ X G z10;have y_len:=yJ X G z14;have y_tuple:=yJ X G z15;have y_list:=yJ X G z18;have y_all:=yJ X G z19;have y_sorted:=yJ X G z23;have y_set:=yJ X G z24;have y_zip:=yJ X G z26;have y_enumerate:=yJ X G z34;have y_reversed:=yJ X G z_reversed;have y_abs:=yJ X G z44;have y_sum:=yJ X G z63;have y_range:=yJ X G z69;have y_str:=yJ X G z73;refine⟨xi "law" "law" (WP q5Q) (X9 q5Q) (Y7 q5Q) .none kV dc pm an cd ct,λs v=>.of_eq rfl,λbase _ _=>?_⟩;have C0:=qo l.prog w base X G D0 F0 (qb0 y_isinstance y_bool y_int z11 z12 F0);have C1:=qo l.prog w base X G D1 F1 (qdS y_isinstance C0 y_len y_tuple z16 F1);have C2:=qo l.prog w base X G D2 F2 (q9g y_isinstance C0 C1 y_list y_all z20 F2);have C3:=qo l.prog w base X G D3 F3 (q70 C2 F3);have C4:=qo l.prog w base X G D4 F4 (qg2 C3 y_sorted y_set F4);have C5:=qo l.prog w base X G D5 F5 (qhZ y_list C4 y_zip F5)
 have C6:=qo l.prog w base X G D6 F6 (q9U C5 F6);have C7:=qo l.prog w base X G D7 F7 (q8O F7);have C8:=qo l.prog w base X G D8 F8 (qcL y_len C7 F8);have C9:=qo l.prog w base X G D9 F9 (qhV C8 F9);have C10:=qo l.prog w base X G D10 F10 (qgV C5 C9 F10);have C11:=qo l.prog w base X G D11 F11 (q8C F11);have C12:=qo l.prog w base X G D12 F12 (qaP y_sorted F12);have C13:=qo l.prog w base X G D13 F13 (qdE y_sorted C11 C12 F13);have C14:=qo l.prog w base X G D14 F14 (qfB y_list y_zip C5 C10 F14);have C15:=qo l.prog w base X G D15 F15 (qiZ F15);have C16:=qo l.prog w base X G D16 F16 (q6H y_enumerate F16);have C17:=qo l.prog w base X G D17 F17 (q4U F17);have C18:=qo l.prog w base X G D18 F18 (qen y_sorted C16 C13 C15 C17 F18);have C19:=qo l.prog w base X G D19 F19 (q78 C13 C15 F19);have C20:=qo l.prog w base X G D20 F20 (qf9 y_sorted y_set C15 C18 C19 F20);have C21:=qo l.prog w base X G D21 F21 (qcU y_len F21);have C22:=q4J (P:=l.prog) (w:=w) (mg:=mg) (base:=base) F22 y_enumerate;have C23:=qo l.prog w base X G D23 F23 (q3s y_sorted F23);have C24:=qo l.prog w base X G D24 F24 (q8D F24 C22 (ZL X G D22.1) F22.kp (F22.binds (ps:=Dv) λ_ _ _ _ _ _ us hl=>(by obtain⟨_,rfl⟩:=us_1 hl;rfl)) y_list y_reversed);have C25:=qo l.prog w base X G D25 F25 (qdH y_len C23 C24 F25);have C26:=qo l.prog w base X G D26 F26 (q7U y_len C25 F26);have C27:=qo l.prog w base X G D27 F27 (q6O y_zip C5 C10 y_abs F27);have C28:=qo l.prog w base X G D28 F28 (q7R C4 C18 C6 C14 F28);have C29:=qo l.prog w base X G D29 F29 (q8K y_len F29);have C30:=qo l.prog w base X G D30 F30 (qic C27 C28 C26 C29 F30);have C31:=qo l.prog w base X G D31 F31 (qas C0 y_all F31);have C32:=qo l.prog w base X G D32 F32 (qae C5 C8 F32);have C33:=qo l.prog w base X G D33 F33 (q8P y_all C31 F33);have C34:=qo l.prog w base X G D34 F34 (qbb y_isinstance y_len y_list z20 C31 F34);have C35:=qo l.prog w base X G D35 F35 (q8F y_isinstance y_list y_all z20 y_sorted C34 F35);have C36:=qo l.prog w base X G D36 F36 (q5S y_all C16 F36);have C37:=qo l.prog w base X G D37 F37 (qb3 y_isinstance C0 y_len y_tuple z16 C15 C35 C36 F37);have C38:=qo l.prog w base X G D38 F38 (q6v y_all y_zip F38);have C39:=qo l.prog w base X G D39 F39 (q8S y_isinstance y_list y_all z20 C4 C6 C14 C37 C38 F39);have C40:=qo l.prog w base X G D40 F40 (q9I y_isinstance y_len y_tuple z16 C3 C39 C33 C32 F40)
 have C41:=qo l.prog w base X G D41 F41 (q8Q y_abs F41);have C42:=qo l.prog w base X G D42 F42 (qeo y_zip C10 C40 C41 C21 y_sum F42);have C43:=qo l.prog w base X G D43 F43 (qeD C4 C6 C14 C32 C20 F43);have C44:=qo l.prog w base X G D44 F44 (qfW C42 C43 F44);have C45:=qo l.prog w base X G D45 F45 (q71 y_len F45);have C46:=qo l.prog w base X G D46 F46 (q8H y_isinstance y_bool y_int z11 z12 F46);have C47:=qo l.prog w base X G D47 F47 (q8R F47);have C48:=qo l.prog w base X G D48 F48 (q7O y_len C45 C47 y_range F48);have C49:=qo l.prog w base X G D49 F49 (qat F49);have C50:=qo l.prog w base X G D50 F50 (q8E C49 F50);have C51:=qo l.prog w base X G D51 F51 (q8G y_len y_list C47 y_range C49 C50 F51);have C52:=qo l.prog w base X G D52 F52 (q79 y_isinstance y_len y_tuple z16 C46 y_str z74 F52);have C53:=qo l.prog w base X G D53 F53 (q6Y y_isinstance y_len y_list z20 y_range C52 F53);exact qkg y_list y_abs y_sum C48 C30 C53 C51 C44 F54
theorem walk{l:Zi}{q:vU}{loose:dN}{XP:Rc}{YP:QL}{d:DefRec}{K:Params->zC}(hn:l.most=some 63)(hdf:FP)(hY:∀(w:vZ)(h:vk),YP w h->(K w.params).In h)(F:∀(w:vZ)(mg:bH)(fa:vH)(h:vk),(K w.params).In h->h.Ns vY mg->mg d.name=some J2 ->
   ∃fd:vS,(∀(s:vC)(u:vB),sM s fd QA [("script", u)])/\∀base:vk,(K w.params).In base->base.Ns vY mg->FnOk l.prog w CZ mg base CX0 13 fa fd Er (spD CZ 1 q5E)) :
  Yu q loose XP YP l.row.toRowW d [] AJ :=
 L2.qcH (n:=63) (k:=13) (x := "script") (CX:=λ_=>CX0) (sp:=λw=>spD CZ 1 q5E) hn (by decide) hdf ⟨rfl,by decide,by decide⟩ hY F
  (λ_ H a ns hl _ hS=>⟨H,[Bj],.sh cp,qfG ns hl,rfl,gC,⟨du,[],rfl,⟨a,rfl,hS⟩,rfl⟩,λ_ _ _ _ y=>y⟩) λ_ _ _ _ _ z=>z
end Kx
end
namespace PySem.W.Fast
def tw14000247883278601856:=0
def tw3607343206465839096:=0
def tw5292998094425201000:=0
def tw8757484655504410858:=0
def tw265129609610795623:=0
def tw10831115393843759247:=0
def tw9138175809187745762:=0
def tw782628468498477703:=0
def tw4439640195665974862:=0
def tw13035058128387486759:=0
def tw5220203963678051427:=0
def tw14072451531130508879:=0
def tw8026366354159009849:=0
def tw5423818064796914022:=0
def tw13637118709440313274:=0
def tw8846526963532881046:=0
def tw5251235809350122738:=0
def tw7888228240218204377:=0
def tw15766500797091609524:=0
def tw9170848985787826032:=0
def tw12263202756728253553:=0
def tw9973595918789103215:=0
def tw13983993636170632087:=0
def tw2338956687973173360:=0
def tw16708768891244345327:=0
def tw5501755826621270494:=0
def tw4907806102827325846:=0
def tw12014842886205840164:=0
def tw12261083075935100419:=0
def tw12723737554621961279:=0
def tw9403417167307902904:=0
def tw685571477956140804:=0
def tw17736152828700674892:=0
def tw6075700160008585312:=0
def tw6112643061146488845:=0
def tw8131451833068530774:=0
def tw5925389701290153692:=0
def tw8669112111992535568:=0
def tw17258521754690483362:=0
def tw5838522479736911828:=0
def tw12081708652894739114:=0
def tw17302866897075998463:=0
def tw13460721519912116809:=0
def tw6062786525685279670:=0
def tw16291530415886398261:=0
def tw14112969438578024535:=0
def tw12462506303547462022:=0
def tw11062567147371769562:=0
def tw3966603404497903352:=0
def tw3217277882580290186:=0
def tw13086786956550863493:=0
def tw7113336675739825792:=0
def tw7678762804276304521:=0
def tw14592936988798756831:=0
def tw17521654519100663140:=0
def tw257871969530671816:=0
def tw6413860990698351140:=0
def tw5133197155457221631:=0
def tw7104739031080258621:=0
def tw6790443339236433056:=0
def tw11789747949455648813:=0
def tw1953273770296750903:=0
def tw1128982113207617697:=0
def tw1166057721171763882:=0
def tw5795489830174595368:=0
def tw1725531819896034665:=0
def tw13098146200085412175:=0
def tw2959479742225534237:=0
def tw12081972145221851640:=0
def tw16086248543792541767:=0
def tw6859830864690625614:=0
def tw1170118921765415945:=0
def tw13141816538514730848:=0
def tw8336697987544280037:=0
def tw15685206962671880887:=0
def tw13330828194611461425:=0
def tw6676514287817693390:=0
def tw17610275214793813488:=0
def tw2403644218205767104:=0
def tw3237436502273094509:=0
def tw15499289076214540893:=0
def tw16018329160492037603:=0
def tw10551071836332184923:=0
def tw12101065283416462712:=0
def tw5765694587674800451:=0
def tw9218052105372565949:=0
def tw11383973901087716850:=0
def tw12273070129634493603:=0
def tw12200796100087165209:=0
def tw15030922253929856113:=0
def tw5612461019889453771:=0
def tw3800746123712529384:=0
def tw11454882362128581500:=0
def tw6106444369235375881:=0
def tw14097994347008010312:=0
def tw16482265728482613997:=0
def tw17681373769936661550:=0
def tw6331615215217461821:=0
def tw13468278786322068432:=0
def tw11279143291656029325:=0
def tw11869854331629650590:=0
def tw13964533037555357417:=0
def tw13755294647711739393:=0
def tw18304056702356243567:=0
def tw9244114189480451474:=0
def tw3531030056136252648:=0
def tw8254994986215278440:=0
def tw2686801547274996959:=0
def tw3468714661328689789:=0
def tw13291303893032979740:=0
def tw15108991099252290335:=0
def tw6980542988172878957:=0
def tw10251634807020042806:=0
def tw11730356997624121452:=0
def tw4401145171761923911:=0
def tw8349627777247398982:=0
def tw891017279551156017:=0
def tw12107684400652571265:=0
def tw12287060624527392862:=0
def tw14244115532516888910:=0
def tw1187454377780336786:=0
def tw9605266616250288009:=0
def tw18022996355773814518:=0
def tw13224367933475299383:=0
def tw4724719919111938348:=0
def tw3303455161034726810:=0
def tw5992637704860608515:=0
def tw1567119726285171793:=0
def tw16715981064336622495:=0
def tw5126635385212229470:=0
def tw11324971644656156148:=0
def tw16671319185959273270:=0
def tw660445290615568431:=0
def tw16039297760771721383:=0
def tw16131696341577455194:=0
def tw216891814578077827:=0
def tw1166355524933730814:=0
def tw1561766873361277118:=0
def tw12169328240195051089:=0
def tw2125960455842744323:=0
def tw2330983868280237299:=0
def tw6813514004644169817:=0
def tw11055973665029649370:=0
def tw14693882791011564249:=0
def tw1479648675428548761:=0
def tw8672168184647039788:=0
def tw1471790562685012582:=0
def tw5965312691903916440:=0
def tw9321342181624055039:=0
def tw4983385531303042583:=0
def tw15457066704799521454:=0
def tw13801482349969559290:=0
def tw839713411434354790:=0
def tw15645791676398633402:=0
def tw320809478683265523:=0
def tw14361797127637811012:=0
def tw12516184712436157487:=0
def tw14879669348329606621:=0
def tw9518469075123094479:=0
def tw11301100932511489748:=0
def tw3584887733141851657:=0
def tw15120691010367636693:=0
def tw5043972432560770724:=0
def tw9729849407489740058:=0
def tw9107416659595420726:=0
def tw7432701714029391034:=0
def tw11858659916232428493:=0
def tw15701624137130815130:=0
def tw3594573225254913026:=0
def tw29018259965696109:=0
def tw9380638516298035273:=0
def tw13661891287739319407:=0
def tw4375295762375877270:=0
def tw3565335093638293646:=0
def tw16680206473706539336:=0
def tw13334690467201907439:=0
def tw17277858645681363878:=0
def tw3038129855922803742:=0
def tw14003936647568277188:=0
def tw15738224108901768207:=0
def tw3681580292643293663:=0
def tw7544612659383965855:=0
def tw3579839880169774488:=0
def tw12030785066473105980:=0
def tw8121605693806032599:=0
def tw12993366057973192414:=0
def tw14331375883490511367:=0
def tw6471801432694047466:=0
def tw4757758767051021210:=0
def tw18284256355953641029:=0
def tw12635208858916661927:=0
def tw3528089903674623153:=0
def tw15556394306109865449:=0
def tw7938153342053833299:=0
def tw5037312056690840427:=0
def tw5085410564500940696:=0
def tw14313798800551873022:=0
def tw11924627061717006020:=0
def tw18387274129025692738:=0
def tw586343615879986830:=0
def tw3992855418464089857:=0
def tw1864172449213742356:=0
def tw5368653959434255154:=0
def tw13111574995379803477:=0
def tw8899285473122379314:=0
def tw112360895943545725:=0
def tw11313117767901964604:=0
def tw18433535886440640171:=0
def tw10875245513165662016:=0
def tw1301771771723574403:=0
def tw16902442149922141293:=0
def tw6061893227013837837:=0
def tw17036433496015705465:=0
def tw6807725438826448599:=0
def tw15684219400106007067:=0
def tw2404877915541688002:=0
def tw12482357389904495227:=0
def tw3810866570470994932:=0
def tw15756075977734427545:=0
def tw1925209116470024478:=0
def tw9656686574922859268:=0
def tw4889128492106249553:=0
def tw6264814799892894645:=0
def tw4055542801766425841:=0
def tw4654737375568989670:=0
def tw531444878079638731:=0
def tw10280532962037706720:=0
def tw18002008221810373588:=0
def tw11902401401177862117:=0
def tw10734924190162261656:=0
def tw3972759428414758946:=0
def tw1280336074050294591:=0
def tw111015955895004400:=0
def tw295609257930934614:=0
def tw9898930185443466643:=0
def tw9044070299959513320:=0
def tw5405153398470024669:=0
def tw11053019022323687655:=0
def tw679939245284310404:=0
def tw15023553197868839033:=0
def tw18173784142936926121:=0
def tw5567255658693361268:=0
def tw4230755337369870935:=0
def tw9232939202856799965:=0
def tw7274336853997346962:=0
def tw2381634581105282287:=0
def tw12541036205257322613:=0
def tw10671081223081247991:=0
def tw5262331199419422674:=0
def tw6074699493425603313:=0
def tw17077278044491030750:=0
def tw5719640517487379596:=0
def tw5768500378041592388:=0
def tw13000223540186160347:=0
def tw13716324837815845326:=0
def tw7063537439287846883:=0
def tw15280675670071425161:=0
def tw585907302010991336:=0
def tw16972890377563943558:=0
def tw16496802676836154586:=0
def tw2922079414166002694:=0
def tw4797166022521127873:=0
def tw9006258874510673010:=0
def tw10436590607175437466:=0
def tw1354078858148087449:=0
def tw5484417632855559486:=0
def tw16219687051043420920:=0
def tw3923917860298568899:=0
def tw8224978197448405103:=0
def tw13403364581032135324:=0
def tw15900341678015780551:=0
def tw4414519220332431020:=0
def tw10758985525909828321:=0
def tw9899982834049567433:=0
def tw8241423479108175844:=0
def tw3656062702594856052:=0
def tw12893323433786780782:=0
def tw1814578726426443123:=0
def tw626197961675386531:=0
def tw5319166267380667914:=0
def tw16597567647654348610:=0
def tw15206024769714538848:=0
def tw10402592726959450268:=0
def tw7269157254897627622:=0
def tw5270953207776319992:=0
def tw10974370676297189513:=0
def tw5033758053769429941:=0
def tw15151488078987065434:=0
def tw2814098107315597053:=0
def tw15475557705527872003:=0
def tw4925355417437388868:=0
def tw59328037895707770:=0
def tw6765492047254556798:=0
def tw10340348720152473085:=0
def tw16082027707388175372:=0
def tw16501256137497673655:=0
def tw11568432045550930249:=0
def tw18369475175597047080:=0
def tw8966924446094144334:=0
def tw4322790378550772249:=0
def tw2382382554613799565:=0
def tw3394000428372337706:=0
def tw11434595784078221567:=0
def tw5917616333241509468:=0
def tw17581121913863648261:=0
def tw4370603082912042214:=0
def tw3192814562356808200:=0
def tw8443958449030553831:=0
def tw5741777405308300246:=0
def tw12780191691358374875:=0
def tw13004238578827047349:=0
def tw952975275809926118:=0
def tw879106864576874447:=0
def tw5929484965486657408:=0
def tw11518245069841964206:=0
def tw710902917885126462:=0
def tw7358561390047727865:=0
def tw17131560012245673929:=0
def tw6209051521967383338:=0
def tw16790786156495957240:=0
def tw457680688829687493:=0
def tw8970202627325278084:=0
def tw2678795451358652580:=0
def tw8855467057142147195:=0
def tw5803873182013916462:=0
def tw5836168546484281879:=0
def tw17411146783144512610:=0
def tw181547366748936203:=0
def tw13754658156858988921:=0
def tw3730813099129083962:=0
def tw8446836017218506767:=0
def tw10270407393166942735:=0
def tw5199644861731881698:=0
def tw14647851648005570240:=0
def tw8116393913257436134:=0
def tw10352041128365732705:=0
def tw4769852181366822688:=0
def tw3493527908235974147:=0
def tw11876564283000138799:=0
def tw6804431446697779502:=0
def tw1718622976322640769:=0
def tw1076956178794585212:=0
def tw12946574596818433007:=0
def tw17285247939548334678:=0
def tw13587582023053195591:=0
def tw17968306230315824522:=0
def tw11102631917148970641:=0
def tw6121970670485057795:=0
def tw11853115544895461885:=0
def tw14217941021939737201:=0
def tw12123586868194010702:=0
def tw12214153168966883274:=0
def tw17041023990710265789:=0
def tw10993388533117209297:=0
def tw13674585705362148457:=0
def tw11839240871808940920:=0
def tw8479810123557815906:=0
def tw13419024732873845739:=0
def tw3017067616708147738:=0
def tw14090193078771783881:=0
def tw3309147036351325126:=0
def tw9349648871839432603:=0
def tw5392555250928349546:=0
def tw7368429109296400892:=0
def tw16763926594101327354:=0
def tw4489281762602605860:=0
def tw7757897058253866773:=0
def tw2694483749150312824:=0
def tw5205596612663203294:=0
def tw17273696771174068743:=0
def tw7549957794115668911:=0
def tw13614075963534676240:=0
def tw7644220207493585231:=0
end PySem.W.Fast
open PySem PySem.W PyProof.Rows
set_option maxRecDepth 100000 in
set_option maxHeartbeats 0 in
theorem PySem.Challenge.cw_hookrail_k44_whole_no_tour_is_shorter_holds : PySem.Challenge.rw_hookrail_k44_whole_no_tour_is_shorter.Holds := by
 w_on;o_law;k_head;(case hw=>w_witness2)
 k_fill
 refine Kx.walk (l:=PySem.Challenge.rw_hookrail_k44_whole_no_tour_is_shorter) rfl rfl (λw h Y=>Yl Y) ?F
 case F =>
  intro w mg fa h KX G hmg;refine' Kx.qkm KX G hmg ?D0 ?D1 ?D2 ?D3 ?D4 ?D5 ?D6 ?D7 ?D8 ?D9 ?D10 ?D11 ?D12 ?D13 ?D14 ?D15 ?D16 ?D17 ?D18 ?D19 ?D20 ?D21 ?D22 ?D23 ?D24 ?D25 ?D26 ?D27 ?D28 ?D29 ?D30 ?D31 ?D32 ?D33 ?D34 ?D35 ?D36 ?D37 ?D38 ?D39 ?D40 ?D41 ?D42 ?D43 ?D44 ?D45 ?D46 ?D47 ?D48 ?D49 ?D50 ?D51 ?D52 ?D53 ?D54 ?z0 ?z9 ?z10 ?z14 ?z15 ?z18 ?z19 ?z23 ?z24 ?z26 ?z34 ?z_reversed ?z44 ?z63 ?z69 ?z73 ?z11 ?z12 ?z16 ?z20 ?z74
  (case D0|D1|D2|D3|D4|D5|D6|D7|D8|D9|D10|D11|D12|D13|D14|D15|D16|D17|D18|D19|D20|D21|D22|D23|D24|D25|D26|D27|D28|D29|D30|D31|D32|D33|D34|D35|D36|D37|D38|D39|D40|D41|D42|D43|D44|D45|D46|D47|D48|D49|D50|D51|D52|D53|D54=>(refine' Hk.qkD ?a ?l ?c ?k;(case a=>k_is);(case l=>k_is);(case c=>k_is);(case k=>k_is)))
  (case z0|z9|z10|z14|z15|z18|z19|z23|z24|z26|z34|z_reversed|z44|z63|z69|z73=>k_is)
  (case z11=>intro t ht;cases t <;> first|(exact absurd rfl ht)|rfl|k_is)
  (case z12=>intro t ht;cases t <;> first|(exact absurd rfl ht)|rfl|k_is)
  (case z16=>intro t ht;cases t <;> first|(exact absurd rfl ht)|rfl|k_is)
  (case z20=>intro t ht;cases t <;> first|(exact absurd rfl ht)|rfl|k_is)
  (case z74=>intro t ht;cases t <;> first|(exact absurd rfl ht)|rfl|k_is)
#print axioms PySem.Challenge.cw_hookrail_k44_whole_no_tour_is_shorter_holds
