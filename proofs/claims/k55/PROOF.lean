import PyProof.Rows.All
import Wide.All
import OpenK.AllK
import Wide.FinOn
import Lean
import PyProof.EqAt
import PyProof.EqKinds
import PyProof.TupleCall
import PySem.SetOps
import KE.KDictSum
import KE.KDictList
import PyProof.ZipIter
import KE.KFind
import PyProof.MaxThree
import PyProof.Rows.IntMath
import PyProof.EnumMake
import PyProof.Rows.EnumRows
import KE.KDictLaws
import PyProof.DictWalks
import PyProof.Rows.SortRuns
import KE.KSortKey
import PyProof.Rows.SortRuns
import PyProof.Rows.SortShell
import PySem.Challenge.RW_hookrail_k55_yards_and_rails
open Array renaming length_toList→zK,getElem?_toList→zc,getElem?_eq_getElem→yD,toList_append→yO,getElem?_eq_none→yn,toList_extract→xq,toArray_toList→xt,toList_reverse→wB,perm_iff_toList_perm→wC,toList_eraseIdxIfInBounds→wW,getElem?_push→wu,getElem?_eq_some_iff→ZD,toList_setIfInBounds→ZE,toList_push→ZL,size_push→Zm,forIn_toList→YD,size_map→Yu,toList→Y0
open Array.Perm renaming refl→Zo
open Bool renaming false_eq_true→yI,and_eq_true→yN,false_ne_true→y0,and_eq_true_iff→wA,or_false→wf,and_true→wm,and_false→wx,false_and→Zt,false_or→Z6,not_true→Z7,true_or→YO,not_eq_true'→YR,not_false→Yw,true_and→Yz
open Int renaming le_refl→zi,le_trans→yg,le_of_lt→yh,toNat_natCast→yr,toNat_of_nonneg→xa,mul_zero→wF,mul_add→wP,reducePow→ZR,sub_self→Zg,mul_comm→Zh,natCast_add→Zp,add_assoc→Z9,natCast_nonneg→YG,add_zero→YT,natCast_zero→Yf,mul_one→Yg,le_antisymm→Yi,reduceToNat→Ym,natCast_one→Yp
open List renaming length_map→zA,length_append→zC,getElem?_eq_getElem→zD,mem_cons_self→zE,mem_cons→zF,mem_cons_of_mem→zH,length_cons→zI,mem_append→zJ,getElem?_set_ne→zL,append_assoc→zO,size_toArray→zP,pairwise_cons→zQ,mem_singleton→zR,mem_append_right→zT,map_cons→zU,getD_eq_getElem?_getD→zV,map_append→zW,mem_append_left→zX,length_singleton→zY,getElem?_map→zZ,pairwise_append→za,getElem?_append_right→zb,not_mem_nil→zd,length_take→ze,sum_cons→zf,getElem?_append_left→zg,mem_iff_getElem→zh,getElem?_eq_some_iff→zj,append_nil→zk,getElem?_eq_none→zn,range→zo,replicate→zt,length_range→zx,mem_map→zz,mem_filter→yB,flatten_cons→yC,take_append_drop→yG,length_filter_le→yH,map_congr_left→yJ,mem_of_getElem?→yK,map_map→yL,length_drop→yM,filter_cons→yQ,replicate_succ→yR,filter_cons_of_pos→yU,filter_cons_of_neg→yV,nil_append→yX,length_set→yZ,length_replicate→ya,pairwise_iff_getElem→yb,getElem?_set_self→ye,nodup_cons→yj,getElem_mem→yk,nodup_append→ym,all_eq_true→yo,mem_reverse→yp,perm_append_comm→yq,take_of_length_le→yv,eq_nil_of_length_eq_zero→yw,ext_getElem?→yx,map_nil→yz,getElem?_replicate→y9,mem_range→xA,length_zip→xE,drop_eq_getElem_cons→xF,getElem?_eq_none_iff→xG,getElem?_zip_eq_some→xH,mem_iff_getElem?→xJ,lookup_cons→xK,mem_flatMap→xL,reverse_reverse→xO,mem_of_mem_drop→xP,getElem_take→xS,getElem?_cons_succ→xT,sum_append→xU,length_nil→xV,getElem?_range→xW,filter_eq_self→xX,length_reverse→xY,reverse_append→xZ,length→xf,nodup_nil→xi,getElem?_drop→xk,getElem?_take→xl,map_replicate→xm,getElem_drop→xr,mem_of_mem_take→xu,filterMap_cons→xv,replicate_zero→xw,getElem?_cons_zero→xy,find?_cons→xz,take_length→wD,getElem_map→wE,getLast?_eq_none_iff→wG,extract_eq_take_drop→wH,length_pos_iff→wI,flatMap_append→wJ,getElem?_take_of_lt→wK,forIn_cons→wM,filter_append→wN,mem_replicate→wO,filter_eq_nil_iff→wT,take_take→wU,length_pos_of_mem→wV,getElem_inj→wY,mem_flatten→wZ,countP_cons→wc,cons_ne_nil→wd,map_drop→wj,dropLast_concat_getLast→wp,countP_eq_length_filter→wq,flatten_append→wv,length_eraseIdx_of_lt→wy,perm_ext_iff_of_nodup→wz,forIn_nil→w8,drop_take→ZA,drop_drop→ZB,drop_zero→ZC,getElem?_take_eq_none→ZF,set_cons_succ→ZG,set_cons_zero→ZH,take_sublist→ZJ,reverse_cons→ZK,take_add_one→ZM,foldl_append→ZN,filter_congr→ZO,take_append_getElem→ZQ,perm_middle→ZS,drop_length→ZU,pairwise_singleton→ZV,zipIdx_cons→ZW,length_eq_zero_iff→ZX,cons_append→ZY,nodup_range→ZZ,foldl→Zb,pairwise_lt_range→Zc,range_succ_eq_map→Zd,all_map→Ze,zipWith→Zf,flatMap_singleton→Zi,of_mem_zip→Zk,countP_map→Zq,dropLast_eq_take→Zr,countP_le_length→Zs,mem_erase_of_ne→Zw,mem_of_getLast?→Zy,perm_cons_erase→Zz,countP_eq_zero→Z2,map_take→Z3,all_cons→Z4,any_cons→Z5,mem_filterMap→YA,filterMap_map→YB,getElem_range→YF,drop_sublist→YJ,set_set→YM,countP_congr→YS,pairwise_map→YU,sum_nil→YV,getLast_cons→YW,map_reverse→Yb,map_fst_zip→Yc,flatten_nil→Yd,ext_getElem→Ye,foldl_cons→Yh,zipIdx_nil→Yj,take_left'→Yk,drop_left'→Yl,filter_map→Yn,range_succ→Yo,take_zero→Yt,take_left→Yv,map→Y2
open List.Pairwise renaming nil→xQ,sublist→wX
open List.Perm renaming append_left→yW,append_right→xB,trans→xC,refl→xh
open List.Sublist renaming refl→YX
open List.cons renaming inj→Z8
open Nat renaming le_refl→zN,ne_of_lt→zu,lt_or_ge→zw,lt_of_lt_of_le→yA,zero_le→yF,le_trans→yP,lt_succ_of_lt→yS,lt_succ_self→yd,le_of_lt→yi,lt_irrefl→xM,le_succ→xN,zero_add→xb,ne_of_gt→xo,not_lt_zero→wL,sub_self→wR,le_succ_of_le→wS,add_assoc→wk,min_eq_left→wo,add_sub_cancel→w9,add_sub_cancel_left→ZT,min_le_left→Zn,add_one_sub_one→Z1,lt_of_le_of_lt→YC,eq_or_lt_of_le→YE,lt_trans→YK,le_total→YN,min_le_right→YZ,not_lt→Ys
open Option renaming bind_some→yT,isSome_iff_exists→yy,map_some→xD,map_eq_some_iff→wQ,bind→Zx,isSome_map→YQ,getD_none→Ya,none→Y1
open Option.some renaming inj→zy
open PySem.Heap renaming get?_push_of_some→zG,lt_size→zM,get?_push_size→zS,get?_update_other→zr,size_push→yf,get?_update_self→xI,size_update→xg,get?_some_iff→xj,SameBut→xn
open PySem.Heap.IsSliceOf renaming new→Y3
open PySem.Heap.SameBut renaming update→Z0,refl→YL
open PySem.W renaming Frag→zB,mg_none_of→yE,nsIn→yY,kia_one→yu,fnOf→xp,keepIn→xx,codeIn→ww,methodObj→ZI,mg_of→ZP,cellsFrom_some→Za,instObj→Zj,OpenLaw→Zl,lookIn→Zu,kitOne→Zv,kitx_list→YH,kitx_dict→YI,plainGet→YY,findIn→Yq,kIn_of→Yr,WalkO→Yx,kf_at→Yy
open PyProof.Rows renaming wpS_bind→vL,arrOf→vN,wpS_pure→vO,Keyed→vS,SortSt→vc,pendingOf→ve,wpS_forRange→vi,seqObj→v3,wpS_mono→uF,oneType'→uG,IntsAre→uH,failedOf→uT,wpS_modify→ud,SortedTo→uk,listUpdate_at→uu,wpS_get→uv,wpS_lift→tF,SBase→tI,AllBare→tP,mirror_perm→tS,subscriptTail_builtinR→tj,plain_sorted→tm,entry_sorted→tq,envOfC→t7,kind_sorted→sC,args_list_sort→sD,numOf→sH,K_mirror_equal→sI,wpS_reverse→sJ,seqEpoch_at→sK,subscriptTail→sO,args_tuple_getitem→sT,args_sorted1→se,minRun'→si,listItems_at→sm,NonInc→rJ,K_bubble→rK
open PySem renaming wpAny_bind→vA,Value→vB,Shared→vC,wpAny_pure→vF,Addr→vG,starEach→vK,wpAny→vM,FuncData→vQ,Program→vU,Expr→vW,mainGlobals→vY,World→vZ,Around→vf,wpAny_ite_split→vg,wpAny_holding→vh,sizeLine_eq→vj,wpAny_call_entry→vk,Heap→vm,bootBuiltins→vn,wpAny_setField_rec→vo,Stmt→vp,wpAny_newObj_type→vq,backTo→vt,wpAny_mono→vz,wpAny_field→v5,builtinLookup_eq_fast→v6,wpAny_setState_of→v7,keywordEach→v8,wpAny_rule→v9,wpAny_seqItems→uA,IsPair→uB,foldedSetIterable→uC,swapsWith→uD,rawInt→uE,wpAny_Call_Name_kw→uI,wpAny_nextOf_list_item→uJ,pyNext→uK,wpAny_isInstance→uL,behindInMarks→uM,wpAny_attempt→uN,wpAny_truthy_bool→uO,sysModules→uP,codeAny_builtin→uQ,typeLookup_type→uR,wpAny_updateSeq→uS,attributeBase→uU,plainId_quiet→uV,compareOp→uW,backToKw→uX,wpAny_passesOwn→uY,Keyword→uZ,ZipApart→ua,assignEach→ub,binaryOp→uc,NameKind→ue,wpAny_specialOf→uf,wpAny_nextOf_list_end→ug,codeAny→uh,isSubtype_stop→ui,intItems→uj,codeAny_mono→um,wpAny_typeOf→uo,scanBound→uq,cLine→ur,wpAny_newList→ut,tupleKind_room_in1→uw,sliceBounds→ux,wpAny_pyIter_list→uy,isSubtype_type→uz,wpAny_newTuple→u4,Scope→u5,typeLookup→u6,call_meets→u7,pickOrder→u8,wpAny_pyIter_zip→u9,wpAny_letGo→tD,wpAny_updateSeq_pair→tE,wpAny_execs_nil→tG,letOwnedTupleGo→tH,intKind→tJ,getItem→tK,setNext→tL,updateSeq→tM,wpAny_fieldsOf→tN,firstArgMember→tO,wpAny_pyIter_slot→tQ,wpAny_standAt→tT,wpAny_comprehension_free→tU,wpAny_onRaise→tV,tupleKind→tW,PassesOwn→tX,wpAny_askSetting→tY,numAt→tZ,IsPart→tf,wpAny_isTrue_Compare1→tt,wpAny_pyNext_zip_item→tu,GenState→t4,wpAny_loadName_local→t6,codeAny_extend_loopS→t9,wpAny_pyNext_zip_end→sF,intItems_at→sG,callerA→sL,valueAt→sM,wpAny_loadName_cell→sN,pyIter→sP,wpAny_pyIter_tuple→sQ,Result→sS,checkCount→sU,Operator→sV,BindsTo→sW,slotArgs→sZ,call_meetsIn→sf,Paired→sq,Drawn→sr,CmpOp→sw,seqIndex_of→sx,wpAny_of_eq→sy,loadIfAlive→rA,atKey→rB,hashInt→rC,standAt→rD,isTrue→rE,argsOk→rF,raiseNew→rG,numAt_eq→rH
noncomputable def vH:=@if_pos
noncomputable def vJ:=@if_neg
noncomputable def vP:=@absurd
noncomputable def vT:=@decide_eq_true
noncomputable def vX:=@decide_eq_false
noncomputable def v4:=@congrArg
set_option Elab.async false
section
local macro_rules|`(∅)=>`(by omega)
local macro_rules|`(⋯)=>`(by decide +kernel)
local macro_rules|`(↥$x)=>`(some (.sh $x))
local macro_rules|`(⇑$x)=>`(by simpa using $x)
local macro_rules|`(tactic|omega)=>`(tactic|lia)
set_option compiler.extract_closed false
set_option hygiene false
def pW:List Char->List Char|' '::r=>pW r|r=>r
def pC(c:Char):Bool:=c.isAlphanum||"_'.!?₀₁₂₃".toList.contains c||(c.val>=913&&c.val<=969&&c.val != 955)
def pF(e:Lean.Term):List String->Lean.Term|[]=>e|s::r=>pF ⟨Lean.mkNode ``Lean.Parser.Term.proj #[e,Lean.mkAtom ".",if s.front.isDigit then Lean.mkNode `fieldIdx #[Lean.mkAtom s] else Lean.mkIdent (.mkSimple s)]⟩ r
def pN(l:List String):Lean.Term:=let a:=l.takeWhile (!·.front.isDigit);pF (Lean.mkIdent (a.foldl (λn s=>.str n s) .anonymous)) (l.drop a.length)
mutual
def pT:Nat->Nat->List Char->Lean.MacroM (Lean.Term×List Char)
 | 0,_,_=>Lean.Macro.throwUnsupported
 | n+1,p,s=>do
  let(a,s)<-match pW s with
   | '('::r=>do
    let(a,r)<-pT n 0 r
    let(a,r)<-match pW r with
     | ')'::r=>pure (a,r)
     | ':'::r=>do let(b,r)<-pT n 0 r;pure (<-`(($a : $b)),(pW r).tail)
     | ','::r=>do let(l,r)<-pL n #[] r;pure (<-`(($a,$l,*)),r)
     | _=>Lean.Macro.throwUnsupported
    pure (let w:=r.takeWhile pC;match r with
     | '.'::_=>(pF a ((String.ofList w.tail).splitOn "."),r.drop w.length)
     | _=>(a,r))
   | '⟨'::r=>do let(l,r)<-pL n #[] r;pure (<-`(⟨$l,*⟩),r)
   | '['::r=>do let(l,r)<-pL n #[] r;pure (<-`([$l,*]),r)
   | '"'::r=>let w:=r.takeWhile (·!='"');pure (Lean.Syntax.mkStrLit (String.ofList w),r.drop (w.length+1))
   | '¬'::r=>do let(b,r)<-pT n 40 r;pure (<-`(¬$b),r)
   | '-'::r=>do let(b,r)<-pT n 75 r;pure (<-`(-$b),r)
   | '@'::r=>let w:=r.takeWhile pC;pure (⟨Lean.mkNode ``Lean.Parser.Term.explicit #[Lean.mkAtom "@",pN ((String.ofList w).splitOn ".")]⟩,r.drop w.length)
   | '∅'::r=>do pure (<-`(∅),r)
   | '⋯'::r=>do pure (<-`(⋯),r)
   | '↥'::r=>do let(b,r)<-pT n 1024 r;pure (<-`(↥$b),r)
   | '⇑'::r=>do let(b,r)<-pT n 1024 r;pure (<-`(⇑$b),r)
   | 'λ'::r=>do
    let w:=r.takeWhile (λc=>pC c||c==' ')
    let xs:=(((String.ofList w).splitOn " ").filter (·!="")).toArray.map λx=>if x=="_" then (⟨Lean.mkNode ``Lean.Parser.Term.hole #[Lean.mkAtom "_"]⟩:Lean.Term) else pN [x]
    let(b,r)<-pT n 0 (r.drop (w.length+2))
    pure (<-`(fun $xs* =>$b),r)
   | s=>let w:=s.takeWhile pC;let r:=s.drop w.length;match w with
    | []=>Lean.Macro.throwUnsupported
    | ['_']=>do pure (<-`(_),r)
    | ['P','r','o','p']=>do pure (<-`(Prop),r)
    | ['?','_']=>do pure (<-`(?_),r)
    | '.'::w=>match (String.ofList w).splitOn "." with
     | x::l=>do pure (pF (<-`(.$(Lean.mkIdent (.mkSimple x)))) l,r)
     | _=>Lean.Macro.throwUnsupported
    | c::_=>pure (if c.isDigit then Lean.Syntax.mkNumLit (String.ofList w) else pN ((String.ofList w).splitOn "."),r)
  if p>1023 then pure (a,s) else do let(a,s)<-pA n a #[] s;pO n p a s
def pA:Nat->Lean.Term->Array Lean.Term->List Char->Lean.MacroM (Lean.Term×List Char)
 | 0,_,_,_=>Lean.Macro.throwUnsupported
 | n+1,f,l,s=>do
  let r:=pW s
  let e:=if l.isEmpty then f else Lean.Syntax.mkApp f l
  match r with
   | '('::q=>do
    let w:=q.takeWhile pC
    match q.drop w.length with
     | ':'::'='::q=>do
      let(a,q)<-pT n 0 q
      pA n f (l.push ⟨Lean.mkNode ``Lean.Parser.Term.namedArgument #[Lean.mkAtom "(",pN [String.ofList w],Lean.mkAtom ":=",a,Lean.mkAtom ")"]⟩) (pW q).tail
     | _=>do let(a,s)<-pT n 1024 r;pA n f (l.push a) s
   | c::_=>if "⟨[\"@∅⋯↥⇑".toList.contains c||pC c then do let(a,s)<-pT n 1024 r;pA n f (l.push a) s else if c=='λ' then do let(a,s)<-pT n 1024 r;pure (Lean.Syntax.mkApp f (l.push a),s) else pure (e,s)
   | []=>pure (e,[])
def pO:Nat->Nat->Lean.Term->List Char->Lean.MacroM (Lean.Term×List Char)
 | 0,_,_,_=>Lean.Macro.throwUnsupported
 | n+1,p,a,s=>do
  let g(k q:Nat)(r:List Char)(f:Lean.Term->Lean.MacroM Lean.Term):=if k<p then pure (a,s) else do let(b,r)<-pT n q r;pO n p (<-f b) r
  match pW s with
   | '-'::'>'::r=>g 25 25 r λb=>`($a->$b)
   | '\\'::'/'::r=>g 30 30 r λb=>`($a\/$b)
   | '/'::'\\'::r=>g 35 35 r λb=>`($a/\$b)
   | '×'::r=>g 35 35 r λb=>`($a×$b)
   | '&'::'&'::r=>g 35 36 r λb=>`($a&&$b)
   | '='::'='::r=>g 50 51 r λb=>`($a==$b)
   | '='::r=>g 50 51 r λb=>`($a=$b)
   | '≠'::r=>g 50 51 r λb=>`($a≠$b)
   | '<'::'='::r=>g 50 51 r λb=>`($a<=$b)
   | '<'::r=>g 50 51 r λb=>`($a<$b)
   | '∈'::r=>g 50 51 r λb=>`($a∈$b)
   | ':'::':'::r=>g 67 67 r λb=>`($a :: $b)
   | '+'::'+'::r=>g 65 66 r λb=>`($a++$b)
   | '+'::r=>g 65 66 r λb=>`($a+$b)
   | '-'::r=>g 65 66 r λb=>`($a-$b)
   | '*'::r=>g 70 71 r λb=>`($a*$b)
   | _=>pure (a,s)
def pL:Nat->Array Lean.Term->List Char->Lean.MacroM (Array Lean.Term×List Char)
 | 0,_,_=>Lean.Macro.throwUnsupported
 | n+1,l,s=>match pW s with
  | '⟩'::r=>pure (l,r)
  | ']'::r=>pure (l,r)
  | ')'::r=>pure (l,r)
  | ','::r=>pL n l r
  | s=>do let(a,r)<-pT n 0 s;pL n (l.push a) r
end
def tB(c:Char):String:=match c with
|'A'=>r#"Aa upd (zBa H ts us ws) S jw
Ab pv 2
Ac [Jt,.int y]
Ad I.base.keep b o e n hb hx
Ae λb o e n hb hx=>?_
Af λb hb=>(hf b hb).1
Ag ys.length<=sizeLine
Ah no.ow i ds
Ai dOf (Y6 5)
Aj [ab9,ab8]
Ak X.fn x3=true\/X.env.scope.names.lookup x3=some .local
Al X.fn x2=true\/X.env.scope.names.lookup x2=some .local
Am WA bj
An PySem.Fin->vC->Prop
Ao Option V
Ap (1:Int)
Aq .inr rfl
Ar ⟨⟨_,hS,rfl⟩,PySem.F.args_list_init_2 _ _,?_⟩
As ⟨_,qA h1 h3 hs,λG0 H0 G ω σ H ds Q o e k=>?_⟩
Au zo (arA h l bs F).length
Av qM (qE (XE.toV (q0I kG z20 rfl z0 rfl z18 q0a)))
Aw mvN bs.length bf
Ax Xv s.heap z TI TO (uE t) f1
Ay XH oIx ax cP
Az WP λst4 kp4=>?_
AA SetTable.below t.place slot
AB List Int×List D
AC Gl X x
AD .type T
AE .dT kvs
AF .builtin "list.extend.loop" ⟨[gu,bY,res],[]⟩
AG ⟨vs,h1,h2,h3,h4,h5,λk es hk=>?_,λk es hk=>?_⟩
AH λy hy=>?_
AI zAB bs
AJ Y5 cw XL
AK Xb XZ es
AL XR K H ds vs
AM Sum.inl k
AN Option vB
AO List cO
AR .int (f q)
AS (xs.toList.take j).drop l++xs.toList.drop (j+1)
AT ⟨o,e⟩
AU ↥(.int here)
AV λf vs=>PySem.call f vs
AW λe s'=>R (.error e) s'
AX vOf (Xo 1 [] PM dz Xl q2B)
AY fr H
AZ arr.toList=P++X++S
A2 [aao,Ik]
A3 ["things", "ties"]
A4 ["number", "arc", "boxes"]
A5 ["gate", "boxes", "thing"]
A6 Y5 (dOf (XJ q2l ai)) XL
A7 Y5 Vu (Y5 Vv XL)
A8 XD.toE (XE.toD (xc c79 hr (Y4 fB MI)))
A9 Option aZ"#
|'B'=>r#"Ba KV kvs vs
Bb Int->Int->Bool
Bc F.map λe=>D.int (XZ e)
Bd .int BC
Be .Call (.Attribute o "extend" apos) [e] [] cpos
Bf .Call (.Attribute o "append" apos) [e] [] cpos
Bg zBy (tBM K "list" Wb (X1 4) B4)
Bh zBy (tBM K "list" Wb (X1 3) B4)
Bi tI a₀ st
Bj some'.map D.int
Bk q1Z go gd gf ?_
Bl dOf (XJ q1L ai)
Bm ["edge"]
Bn RelV y u
Bo Kp.refl st
Bp (p,w)::P.zip vs
Bq ⟨rfl,_,_,rfl,∅,∅,∅,b4,λi hi' hin=>?_⟩
Br ⟨_,_,_,_,_,_,rfl,mD,∅,∅,∅,∅,∅,kp4⟩
Bs λe=>z (Sum.inl.inj e)
Bt λe=>vI e.2
Bu λ_=>true
Bv zC1 M frees wi g tc te
Bw vK [e1] X.env=(false,eval e1 X.env)::vK [] X.env
Bx vK [dO] X.env=(false,eval dO X.env)::vK [] X.env
By v3 "list" xs.toArray 0
Bz v3 "list" vs.toArray n
BA uK bY
BB q.2-q.1<t
BC (j:Int)
BD a==uP
BE [D0,↥pF,↥(.int tot),↥bJ,Fs,↥bQ]
BF [.Name x2 q5,.Name x3 q6]
BG Xo M frees fi fg fc fe
BH Xe bO
BI XF aG
BJ I.base.free b o e n hx
BK Around.under_plainId PySem.F.plain_extend_loop _
BL .Call (.Attribute bT "append" a2) [e1] [] c2
BM (x1.trans x2).trans x3
BN (plc h l bs).map D.int
BO (T0++T1)++B
BP ((0:Nat):Int)
BQ ⟨?_,?_,e8,e8⟩
BR vK [b] X.env=[fU]
BS vK [a] X.env=[bK]
BT s.heap.get? it=some (Wj (.int slot 0) i a n ep)
BU rows.length<=1000
BV [some (W.sh mS),↥aR,none,none,none,none,none]
BW ["start", "arcs"]
BX FnOk X.prog X.w X.K X.mg X.base CX k f fd ps sp
BY .ref I
BZ ⟨us,[]⟩
B0 ⟨.ref _,_,I2,rfl,q _ aaX⟩
B1 λi i1 i2=>?_
B2 zM e
B3 zB9 M frees σ
B4 zAD (X1 6) zAr
B5 yF _
B6 v7 go gd gf ?_
B8 uM op b=false
B9 tL a slot i ep"#
|'C'=>r#"Ca s.heap.IsTuple l (uj xs)
Cb qd (q0F q hn)
Cc lo+i
Cd [e,(e.2,e.1)]
Ce ["start", "goal", "gap"]
Cf TP X pins σ Q
Cg List vp
Ch I1.kept (t':=s1.toks) hk
Ci Gl X "sorted"
Cj Ext G H G' H'
Ck Cal X.prog X.w X.K X.mg X.base k f fd x ps 1 m
Cl .ok (.ret res)
Cm .int ds.length
Cn .Dict [] [] q1
Co (sts as).Perm (gls as)
Cp some d
Cq some cV
Cr some cF
Cs [a,b]
Ct .ref i2
Cu .ref i1
Cv .ref b
Cw (.nx,ω)
Cy .int e.1
Cz .fr ds
CA ⟨σ',H',I.unwish,q⟩
CB ↥(.lst (g.map D.int))
CC upd H p iw
CD uB s.heap TO a b
CF tS _ _ _ _
CG start N vs
CH spliced ((false,eval _ X.env)::vt q1 cG)
CI pre.map WO
CJ o2.free no (T2.gl l n1).1 (T2.gl l n1).2
CK inW M frees ω
CL hl pins s σ H _ I h
CM hi pins s σ H _ I h
CN dOf (Y6 6)
CO ZSt h0 S z TI TO i1 i2 l1 l2 xs ys ts s.heap
CP Xh G H
CQ X.mg "enumerate" = none
CS Within lo hi a b
CT Mh al bl out i j
CU Mg al bl out i j
CV K w.params
CW It->Hp->Prop
CY .dic ks ds
CZ .Slice lo hi none p2"#
|'D'=>r#"Da .Return (some e) pos
Db (zAg g bs).map D.int
Dc ⟨rfl,_,_,rfl,∅,b2,∅,λi hi'=>?_,b5⟩
De zA6 td (WU 5)
Df vV 5
Dg vD 4
Dh v9 (vA (v5 hz rfl (x:=.ref TO) rfl ?_))
Di uA hTI rfl ?_
Dj (some r,z)
Dk some (.ow es)
Dm sb2.extBut _ _ n2 Qi
Dn s.heap.get? it=some (Wj ab5 i a n ep)
Do qp fB
Dp gN 4
Dq cutD ds lo hi
Dr (bs.length:Int)
Ds ["arcs"]
Dt Y4 kH Y7
Du Xq 4 Q7
Dv Xa eb ?_
Dw XE.toV (qr qq qU rfl z14 qT (qj ga qo))
Dx Ww ks xss a b
Dy Wj (.int (slot 0:Nat) 0) 0 a es.size ep
Dz WM _
DA Mh a.toList b.toList out.toList (i+1) (j+1)
DB Array Nat
DC (0:Int)
DD .sh .non
DE .Call (.Name "enumerate" ep) [o0] [] ec
DF λh' c' kp e=>fin its r' hz h' c' kp e
DG λ_ _=>rfl
DH vOf (XH oDiv bg jc)
DI v3 "list" ks e
DJ typeOf jd=pure (.type "method_descriptor")
DK sIx items.size 0 lo
DL es.length<64
DM e=x\/H e=some (.own x)
DN [some mS,some v1,none,none,none,none,none]
DO XE.toD (XB (XE.toV (XB ga (vV 6))) ak)
DP Option vW
DQ D.pys (b.map D.int)
DR D.pys (a.map D.int)
DS Builtin.SmallTypes.ownedTupleIsFree bY
DT .tup [.int Pn,.int Ps]
DU (.nx,ω.set i (some (.ow (ds.set j d))))
DV .lst (xs.map V.int)
DW .int ys.length
DX .int (q.2-q.1)
DY .bl Eh
DZ .Call (.Name "enumerate" p) [a] [] pos"#
|'E'=>r#"Ea (cst row).map D.int
Eb (L.map f).map D.int
Ec ((0+1+1+1+1:Nat):Int)
Ed λi j h2 h3=>?_
Ee λb o e=>PyProof.Rows.sortedAll_old e
Ef zG _ e
Eh zCM (tyD d) c
Ei y1.mono x2.gg
Ej uD bq OK spos.line X.env=pure true
Ek uA o2 rfl (vA (tE o2 λg3 o3 b3=>?_))
El nrem<=a₀.size
Em bs.length<=1000
En as.length<=9000
Eo [none]
Ep ["script"]
Er Walks.tuple (A:=A.in1) hh _ l hlI (uj xs)
Es PyProof.Rows.sortedAll s.heap its out
Et OpR X (uW op) r
Eu Gl X "zip"
Ev ⟨.bl _,H,I,rfl,q⟩
Ew zBz xs lo hi
Ex upd H p o
Ey upd H a o
Ez upd G l (.frz ob (.dK (kvsOf ks0 vs)))
EA some true
EB sa+Vk
EC s1.heap.objs.size+3
ED s1.heap.objs.size+2
EE s.heap.get? t=some ot
EF s.heap.IsList l items
EG ps.zip us
EH now.ow i ds'
EI neC b o e hx
EJ k=true->stepW I μ (μ ω) J (fb ω)
EK dOf ER
EL dOf acW
EM dOf acX
EN as.map XC
EO (Qz:List Str)
EQ Xa eb (vL (Xa ea (vL (zBI hk' ?_))))
ER XH oIx eJ aM
ES XH oIx bp aM
ET XE.toV (qaR ak ak)
EU XE.toD (q0K (XE.toV (q1K kG ak)) ak)
EV XD.toE (XE.toD (q2g hr.units mH iJ))
EW SqT.of gG
EX Option Int->Hp->Prop
EY Option Bool->vc->Prop
EZ Kn h l bs
E1 Builtin.List.listLengthHint (.ref r)
E2 .type "list"
E4 .Subscript o i pos
E5 .Subscript a b pos
E6 .Assign [cE] e pos
E7 (qI _).mpr (.inr (.inr ⟨b,hb,bu⟩))
E8 (Xu f pre).1 e.1==(Xu f pre).1 e.2.1
E9 ⟨_,_,_,_,_,_,rfl,mD,∅,j1,∅,kp4⟩"#
|'F'=>r#"Fb λ_=>rfl
Fc x.above y c (PySem.mem_of_lookup h)
Fe vvP eW
Ff some 1
Fg q0p (XE.toD (xe_ne hr.units bF bF))
Fh kkP eW
Fi h n st1 b1 b2 VJ S
Fj (d,ω.set i (some (.ow ds.dropLast)))
Fk X1 2
Fl Wj (.int (slot i) 0) i a es.size ep
Fm (.nx,ω.set i (some (.ow (ds++ds'))))
Fn ⟨rfl,of,2*of+1,rfl,∅,hb,∅,∅⟩
Fo ⟨none,rfl⟩
Fp ⟨j,∅,h2⟩
Fq ⟨.int _,H,I.kept (t':=tk) hk,bz,q⟩
Fs ↥(.int t)
Ft ω.set i ↥(B x)
Fu λi ks ds' hi=>vP hi (now.od i ks ds')
Fv λc hc=>(hf' c hc).1
Fw λH i s hi=>?_
Fx w.params.followText "set-order" = true
Fy vh ?_
Fz upd H l ab7
FB some (W.sh aO)
FC some (.sh (XC e))
FF some (.od ks' es)
FH q5u I.hok eb
FJ pv i hN hv hd hcd
FK ks.zip vs.toArray
FL (ks,ds)
FN ks++[k]
FP kn.length<=900
FQ k<as.length
FR its.toArray.size+its2.toArray.size
FU items.size<=sizeLine
FV intKind_is _ _ _ _
FW hk _ _ D.TIz D.TITO D.TIi1 D.TIi2 s2
FY d.params.defaults=[]
FZ [.tup [gW,iV]]"#
|'G'=>r#"Ga (Uf:List Str)
Gc Y9 st
Ge XE.toV (XB ki ak)
Gf X.env.scope.names.lookup x=some .local
Gg X.A.units+1<ur
Gh Wn X pins H kS
Gi Unit->vc->Prop
Gj Str->Option ue
Gk Room (k+2) X.A
Gm OpV X.K r o
Gn Obj.putSet es' t'
Go List V->Hp->VK->Prop
Gp List (Key×vB)
Gq HOk X.prog X.w H' h'
Gr Fun K x qual st f fd
Gs ForInStep.yield r
Gu Bool->vc->Prop
Gv .ref sl
Gw (.nx,ω.set i (some (.ow (ds++es))))
Gx (.nx,ω')
Gy .lst ca
Gz .Name x q
GA .Call (.Name "range" p) [a] [] pos
GB .Call V6 [dO] [] q1
GC (Xe ns).map V.int
GD (Xd ks).map D.int
GE ⟨rfl,lo,of,rfl,b1,b2,b3,.inl ∅⟩
GF ⟨_,_,_,_,_,rfl,m2,∅,d2,∅,kp'⟩
GG ⟨_,_,_,_,_,rfl,m2,d1,∅,∅,kp'⟩
GH zD hlt
GJ tOp r ta tb
GK tN e rfl ?_
GL lo+k-(lo+l)
GM fC (.int 4)
GN es++[(p,q)]
GO as++[(l,h)]
GP ["things", "knots", "edges", "bound"]
GQ S.filter kE
GR .int q.2
GT .int n
GU ⟨rfl,lo,of,rfl,b1,b2,b3,.inr hb⟩
GV ⟨rfl,lo,hi,rfl,∅,b2,∅,b4,b5⟩
GW ⟨[],H,I,.nil,h⟩
GX λx y H Q=>r x y H Q\/r' x y H Q
GY λvs H Q E h=>?_
GZ λb ob q=>zG _ q
G7 zL ne
G8 x1.hh _ _ r2
G9 uJ a1 b1 hx λh₂ c1 sb2=>vF ?_"#
|'H'=>r#"Hb some (.ow ((plc h l pre).map D.int))
Hc some (.od F (Wf F))
Hd putK kvs p.1 p.2
He h h' tk d _ ys hk (zM hS') y1 y2
Hf ds.length=xs.length
Hg a2.trans qx.symm
Hh [s1.heap.objs.size]
Hi [o7,none,none,none]
Hj ["thing", "wanted"]
Hl ["thing", "places", "ties", "edges"]
Hm ["arcs", "numbers", "number", "arc"]
Ho Y5 eK XL
Hs Y4 pO Y7
Hu Y4 jP (Y4 eX Y7)
Hw XH o f g
Hz X8 f a b
HA (Sum.inl:Int->Key)
HB PE X b tb
HC Option vG
HD I1.hok.fresh hle
HE F.map WO
HF .tup ds
HG .int lo t
HH .int hi u
HJ .frz ob (.dK pT)
HK ⟨rfl,lo,of,rfl,b1,b2,b3,PY⟩
HL ⟨a,vs,h1,e _ _ h2,RI⟩
HM ⟨[iu],[]⟩
HN ⟨[dq],[]⟩
HP λz=>?_
HQ λj fs hj=>?_
HR λb z1 z2=>?_
HS xM _
HU x13.trans (Ext.hide x3.gh hn _)
HV uD e none pos.line X.env=pure false
HW pv 4
HX lo+t
HY lo+j
HZ a==b"#
|'I'=>r#"Ib a2.extBut sb2.extBut D.i12.symm
Ic XE.toV (q2g hr.units Ng bi)
Id Tells ts kn f
Ie Tells ts es f
Ig Mh a.toList b.toList out.toList i j
Ih List (TE×TE)
Ii .ref D
Ij .lst ((q.filter (mov bf)).map Aw)
Ik .int dH
Il .fr ((cutD ns lo hi).map D.int)
Im .List [] q4
Io (wY T.nd).mp (j2.trans i2.symm)
Ip ⟨e2,lo,hi,rfl,b1,b2,∅,b4,b5⟩
Iq λx1 x2=>x1++x2
Ir λi j hij hj=>?_
Is λh=>hc hV
Iu λb o e=>zG _ e
Iv λ_ _ q=>zG _ q
Iw zCP s₁.heap H
Ix (x,NameKind.free)
Iy vA (tV ?_)
Iz upd H2 p (.dK (kvsOf [k] [v]))
IA tL a (slot es.size) es.size ep
IB some (.ow (pre.flatten.map D.int))
IC some (.ow ((zAg g pre).map D.int))
ID qr qq qU rfl z14 qT (qj ki qo)
IE qbO hz ht λh' f1' hz1 sb1=>?_
IF q68 hl λs₂ e st hfp hlI=>?_
IG q5L hd h2 h4
IH q2y mH (Xw (Y4 iJ (Y4 iJ Y7)))
II q0v.mpr (.inr ⟨b,hb,n,bu⟩)
IJ q0v.mpr (.inr ⟨b,hb,n,Aq⟩)
IK over p q g
IL (none,lo,of)
IM (none,lo,hi)
IN (n,NameKind.cell)
IO hm b _ q λz=>z
IP h1.trans z
IQ h hi c2 (λi hi'=>c4 i ∅) c5
IR gwt h l bs
IS f rX (.int j u)
IT ["ahead", "bound"]
IU Z.keep b o hb e
IW X.mg "list" = none
IX Str.ofString "__length_hint__"
IY SqL.of h1
IZ SqL X.K H p ys\/SqT X.K H p ys"#
|'J'=>r#"Ja RA.take k++r.toList++RB.drop m
Jb Or.inr rfl
Jc .tup (k.map kV)
Jd .int i::vs
Je λb o z y=>hs'.extBut b o z y
Jf λG0 H0 G ω σ H r Q ow e kk=>?_
Jg zu hlt
Jh uy (items:=its.toArray) mW ?_
Ji s2.trans s5
Jj q3d qy
Jk q0I jA z20 rfl z0 rfl z18 q0a
Jl lo+x-1
Jm lo+n-1
Jn k::ks
Jo [o7,none,y2.map W.sh,y3.map W.sh]
Jp Xr Y7
Jq We hl
Jr PySem.F.args_dict_get_3 _ _ _
Js .vw ds
Jt .int x
Ju .int cB
Jv .dK jX
Jw .dK []
Jx .BoolOp .And (a::b::rest) pos
Jy ⟨NI,H2,I2,.cons r1 r2,q2⟩
Jz ⟨rfl,0,1,rfl,∅,hr,∅,∅⟩
JA ⟨G,gr,o⟩
JB ↥(.int jE)
JC λi ds h=>vP h Ah
JD λb o hb e=>?_
JE λG0 H0 G ω σ H r Q ow e k=>?_
JF zC9 zAr
JG zBY.flatten++S
JH vs.length<64
JI vH y
JJ uc .Add
JK ts.map λ_=>[]
JL some ds
JM s0.trans x2.gg
JN (out,ω')
JO (none,a₀.size)
JP lo+nrem
JQ ks.length<1000000
JR (items.size:Int)
JS hr pos pins s1 σ H1 _ I1 q1
JT h2 G0 H0 G ω σ H d Q o e k
JU blw r.1
JV ["home", "last", "boxes", "gap"]
JW Vw K G H d v
JX F.pin i
JY A.units+1<ur
JZ .type "list_reverseiterator"
J0 .ref fa
J1 .lst (gs.map AI)
J2 .lst (((XF aG).map egO).map egD)
J3 .int x.2.2
J4 .int (yl g bs)
J5 .builtin "min"
J6 .builtin "max"
J7 (wC.mp h.perm).mem_iff.mp hp
J8 (XF aG).map AI
J9 ⟨⟨o,e,ex.1⟩,λa e2=>?_⟩"#
|'K'=>r#"Ka ⟨p,ns,rfl,g1,hz,aae⟩
Kb ⟨G2,UJ,q2.mono s0⟩
Kc λs t h1 h2=>zBi sb ∅ ∅
Kd λs t h1 h2=>zBi sa ∅ ∅
Ke λi s hi go' A' Q' E' q=>?_
Kf λG0 H0 G ω σ H b Q o e k=>?_
Kg ys.size-1
Kh upd H p (.lst (xs.set j v))
Ki uU o name X.env mJ=eval o X.env
Kj sub x c e
Kk lo+n
Kl lo+k
Km es.map XC
Ko b2.extBut sb2.extBut D.l2i1
Kq a++b
Kr [some (.ref A0),none,none,none]
Ks ["gap"]
Kt ["box"]
Ku Xm as j=v
Kv XD.toE Y8
Kw X5 (Wo (vOf (zA7 .lst bN)))
Ky Option R
Kz Ok ts es
KA List di
KB Itz K a b
KC .str x
KD .lst accv
KF .int 1 v
KG .Compare a [.NotEq] [b] pos
KH (a₀.toList.take x).drop b
KI ⟨bw,r1,p,_,rfl,g,_,rfl,?_⟩
KJ ⟨[mt, a],[]⟩
KL λj ks fs hj=>?_
KM zD hj
KN vJ y
KO v5 hz rfl (x:=uE t) rfl ?_
KP upd H5 D (.lst (acc++[v]))
KQ upd (zBa H1 ts xs ys) S jw
KR some (.pw ds)
KS some (.od (kkP pre) (vvP pre))
KU row.map D.int
KW qd (na q)
KY q<=g.1\/g.2<=q
KZ p<=g.1\/g.2<=p
K0 kn++es.map WO
K1 k _ G1 H1 x1 rfl
K2 hl1.extBut b1.extBut Z.l1z
K3 h0.objs.size<=s.heap.objs.size
K4 (as.length:Int)
K5 ["parts"]
K6 Xb (zBg m) ds
K7 XD X k fk
K8 (Sum.inr a:Key)
K9 SqL.of gG"#
|'L'=>r#"La SqL K H p ys\/SqT K H p ys
Lb PE X o td
Lc Moved.eq_with hm
Ld List D->Option R
Lf L2.start N vs
Lg L.map λq=>D.tup [SM,AR]
Lh I.freeC x c e
Li Gl X "enumerate"
Lj Env0 P w K mg base A outer s H
Lk .lst (xs++zs)
Ll .int jm
Lm .int ge
Ln .int (zBZ ns)
Lo .int (zBX ns)
Lp .BoolOp .And (b::rest) pos
Lq ((n+1:Nat):Int)
Lr ⟨t,rfl⟩
Ls ⟨k7,⟨_,Ef,rfl,n,rfl⟩⟩
Lu ⟨H,I,q⟩
Lv λj k es fs m hj hk sj sk=>?_
Lw λi d h=>?_
Lx zL ne'
Ly ts.map λ_=>([]:List Int)
Lz some k
LA kn++(es.filter kE).map WO
LB h1.extBut b1.extBut Z.i1z
LC e.hh _ _ h2
LD ds.length+ds'.length<=1000000
LE [none,none]
LF SeqAt.canLay_of_shaped h4
LG SeqAt.canLay_of_shaped h3
LH PySem.F.typeCall_list_1 _
LI PySem.F.args_zip_next_1 _
LJ P.length=s0
LK Option Bool
LL KT H kvs xs
LM Int->Int->V
LN H a=some ce
LO .fr ((Xu f AK).2.map egD)
LP .bl b
LQ .Constant (.bool b) j pos
LR (xs.toList.take j).drop l
LS ⟨z.1,ht _ _ z.2.1,z.2.2⟩
LT ⟨v,H,I,r,h⟩
LU ⟨dd.typeIs,λb q=>?_,hd⟩
LV ⟨_,ho2,rfl⟩
LW ⟨L',y3,?_,l1,λk hk=>?_⟩
LX λ_ q=>q
LY zAa f ks
LZ xs++ys
L0 xc c45 hr bL
L1 xc c13 hr bL
L3 x2.hh _ _ r2
L4 wpS_ltK b1 h0 ∅ ∅ ?_
L5 vR ((atI EN k).map R.sh)
L6 vK [e] X.env=dM::vK [] X.env
L7 vK Cs X.env=bK::vK [b] X.env
L8 ts.map V.ref
L9 ts.map D.int"#
|'M'=>r#"Ma some (.ow (gs.map gD++[m9]))
Mb some (.bl p)
Mc s _ _ h3
Md qd hm
Me qc q7q
Mf q4t ry
Mi q0G I hg hm hv ?_ hn hdb
Mj putK kvs k v
Mk nmP (k+1) gs
Ml lo+hi
Mm ks.map D.int
Mn ho pins s1 σ H1 _ I1 q1
Mo hi pins s1 σ H1 _ I1 q1
Mp hf pins s2 σ H2 _ I2 q2
Mq he pins s1 σ H1 _ I1 q1
Mr hb pins s1 σ H1 _ I1 q1
Ms h pos pins s σ H _ I hq
Mt fe ω
Mu fa ω
Mv fC (.int 10)
Mw eval e X.env
Mx byS as n
My a.size-1
Mz ["script", "k"]
MA (["gap", "lack"]:List Str)
MB Y5 cw (Y5 b0 (Y5 eK aY))
MC Y5 bp XL
MD Y5 bj (Y5 cw (Y5 b0 Ho))
ME Y5 b0 XL
MF Y4 kH (Y4 jP (Y4 pO bL))
MG Y4 jP Y7
MH Y4 fB (Y4 kH (Y4 jP Hs))
MI Y4 Y8 Y7
MJ Xb XZ lU
MK Xa eA ?_
ML XU (gN 2) (XU Nj X9)
MM XI X tg iter fi
MN XH oIx dP aM
MO XH oIx dP aL
MP XH oIx bg aM
MQ W9 kvs k
MR (Value.int (K b jB) t2,q2)
MS (Value.int (K b j2) t2,q2)
MT V->Hp->VK->Prop
MU PI X tg iter wi
MV Obj.mapSeq f
MW Int×Int×Int
MX IV a₀ st lo S
MY F.args_list_extend_2 _ _
MZ Array DictEntry
M0 .own a
M1 .fr ((Xd p.1).map D.int)
M3 .Name y tpos
M4 .For tg iter body [] pos
M5 .Compare a [.Lt] [b] pos
M6 .Compare a [.Gt] [b] pos
M7 .Compare a [.Eq] [b] pos
M8 λi j ds' es l hi=>vP hi EH
M9 xN _"#
|'N'=>r#"Na vOf (X4 zAF (Y5 kR XL))
Nb vOf (X4 zAF (Y5 bg XL))
Nc v3 "tuple" xs.toArray 0
Nd rts bs q+lfs bs q+W8 dH
Nf rows.map λr=>D.int r.1
Ng pv 1
Nh ha q2 pins s σ H _ I h
Ni h n st hB n1 n2 n3 same
Nj gN 3
Nk bs.map λp=>D.int (f p)
Nl b1.extBut _ _ Z.TOz hTO
Nm ["places", "ties", "edges"]
Nn ["numbers", "one", "other"]
No XB r9 (XE.toV (qdP ak))
Np X1 i
Nq SqL.of hq
Nr .fr ((cst q).map D.int)
Nt (((hi-lo).toNat:Nat):Int)
Nu ⟨rfl,l,l,rfl,c2,c4,c5⟩
Nv ⟨q,hq⟩
Nw ⟨e,?_⟩
Nx ⟨_,rfl,r1⟩
Ny ⟨_,rfl,eP⟩
Nz ⟨_,ho,rfl⟩
NA ⟨_,fF,rfl⟩
NB σ.set 6 du
NC λc v hc q=>k c v ?_ q
ND λ_ _ _ q=>q
NE zT _ (zT _ (q2Z z eo))
NF zT _ (zT _ (q2Z hb e))
NG zCi 0 rows
NH y2.after x1
NI x::xs
NJ vJ hb
NK t<X.length
NL some (8+jE)
NM (sa,na+nb,pw)
NO r.append r2
NP qc (q34 mH)
NQ qc (q34 HW)
NR qax hu Ab (pv 5) Jj lI
NS q2g hr.units TN Dg
NT (none,o2,i2,j2,g2,ac,bc)
NU (none,i2,j2,o2,g2,ac,bc)
NV kn++(Xu f es).2.map WO
NW h.objs.size<=a
NX g1.trans g2
NY fs.lookup f
NZ frs X.stack
N0 fC (.int 7)
N1 ds.map λd=>D.bl (q d)
N2 dOf (XJ qB (Y5 cX XL))
N5 bl.take j++out.reverse
N6 b=p\/b∈ls
N7 [bw]
N8 [Cy,.int e.2.1,.int e.2.2]
N9 ["left", "right", "times"]"#
|'O'=>r#"Oa Xj xs vs
Ob Xj xs us
Oc Xh H H'
Od XR X.K G ds xs
Oe XD X e f
Of U.Perm (n::U')
Og Option (vB×Nat)->vC->Prop
Oh Ok ts kn
Oi List Key
Oj L.map D.int
Ol IntKeys eC
Om Int->Int->Prop
On (Bm:List Str)
Oo .type "zip"
Op .tup [bJ,dI]
Oq .sh bn
Os .lst gH
Ot .int q.2.1
Ou .int 0
Ov .int (kf d)
Ow .AugAssign cE op e pos
Ox .Attribute o name apos
Oy (a2.endLine==c2.line)=true
Oz ⟨rfl,l,rfl,∅,b4,b5⟩
OA ⟨G2,_,_,_,_,_,S2,run⟩
OB λp=>decide (p.1<p.2)
OC λhx=>m.leb x hx y me
OD λhx=>m.lea x hx y me
OE λe he=>t e aal
OF za.mpr ⟨sA,sB,e8⟩
OG zH _ hk
OH vs++dvs
OI vH h1
OJ some eY
OK some cE
OL some aC
OM some Cz
ON ks++[a]
OO gT 2 gB
OP (g.2,g.1)
OQ (g.1,g.2)
OR ["home", "last", "moves"]
OS Xt bf n
OT Xm bf n
OU XE.toD (xc c59 hr ar)
OV XE.toD (xc c54 hr ar)
OW XE.toD (xc c53 hr ar)
OX XE.toD (xc c49 hr bL)
OY We hl2
OZ WV ω
O0 Str×vB
O1 Srt al
O2 .type "StopIteration"
O3 .tup vs
O4 .inr bu
O5 .builtin "isinstance"
O6 (hs.2 b (zu nY)).trans e1
O7 (emA h l bs F).map XQ
O8 ⟨m',hm,σ3,H3,I3,w3⟩
O9 ⟨_,rfl,r⟩"#
|'P'=>r#"Pa ⟨G0,H0,G,ω,d,o,e,k⟩
Pb ω.set i cV
Pc zo es.size
Pd zn ∅
Pe zAA (Y5 (zAb aD) XL)
Pf z.sameBut hs (cne y c e)
Pg xc c13 hr (Y4 bi Y7)
Ph wO.mpr ⟨∅,rfl⟩
Pi vOf (Y6 7)
Pj upd H l nU
Pk uH ks.toList (ds.map kf)
Pl some (.ow (ds++[d]))
Pm share i ω
Pn rts bs q
Po r.1-a
Pp pu bs
Pq ow.keep x1
Pr over q p g
Ps lfs bs q
Pt l.most=some n
Pu (its.toArray.size:Int)
Pv hf _ k rfl rfl k0 k1
Pw hc pins s σ H _ I h
Px h pins s σ H _ I hw
Py fk ω
PB entry n ds
PD ([]:List vG)
PF ([]:List re)
PH ["home", "last", "arcs"]
PJ WA eK
PL WA b0
PM WA (dOf (XJ q04 ai))
PN SetTable.below t.place j
PP RA.drop k++RB.take m
PQ List Key×V
PR J.stop i H'/\Q Ii H'
PU Cls ts es g a
PV 2*x.2.2*p9
PX .ref s3.heap.objs.size
PY .inl z
PZ .fr ((XF BH).map XQ)
P0 .bool false
P2 .While c body [] pos
P3 .BinOp a .Mult b pos
P4 .Assign [cE] bq spos
P5 ((sIx n n hi:Nat):Int)
P6 (Xb XZ es).filter kE
P7 ⟨.int nC,H,iL,bz,q⟩
P8 ↥(.int (ns.getD 1 0))
P9 xX.mpr DG"#
|'Q'=>r#"Qa x-pC
Qb vt pos mf=dM::vt pos cG
Qc vOf (XH oDiv bg cP)
Qd vOf (XH oDiv bN GM)
Qe vF (wpAny_throw ?_)
Qf vD 5
Qg tupleItemsOf_ ht ?_
Qh storeName X.env x u
Qi sb1.extBut _ _ n1 e
Qj s0.heap.objs.size+4
Qk s0.heap.objs.size+3
Ql s0.heap.objs.size+2
Qm s0.heap.objs.size+1
Qn qM (qE (XE.toV oN))
Qo q9O h2 qas qa0 q9Q ht
Qp (p.1,p.2,mx3 1 oz oC)
Qq (none,o',i',j',ac,bc)
Qr (none,i',j',o',ac,bc)
Qs k-lo
Qt intBits_le_64 h1 h2
Qu gN i
Qv gN 5
Qw es.size=n
Qx [v,ov,iv]
Qy ["level"]
Qz ["boxes"]
QA ["bound"]
QB XD X a fa
QC Wl i3 k3 ∅ ∅ ?_
QD Wl h0 hk ∅ ∅ ?_
QE WF w
QF PA X jF t
QG Option eI
QH List Bool
QI List (V×V)->Hp->Prop
QJ .lst cY
QK .inr ⟨t,rfl,ht⟩
QL .Dict [Lz] [e] dpos
QM .Call ny [e] bv pos
QN .BoolOp .Or [a] pos
QO (zBV jv bs).map tri
QP (xs.filter q).map F
QQ ((p.2-p.1).toNat:Nat)
QR (ls++[q]).map V.ref
QS (ls++[l]).map V.ref
QT (ds.filter q).map F
QU (S2.keep x1).setH _
QV ⟨rfl,λ_=>trivial⟩
QW ⟨rfl,vs,SqL.of r2⟩
QX ⟨rfl,?_⟩
QY ⟨q2Y t _,rfl,xh _⟩
QZ ⟨[u],[]⟩
Q0 ⟨[a],[]⟩
Q2 ⟨Zo _,rfl,rfl,rfl⟩
Q3 λi=>bs.getD i false
Q4 λb u z=>?_
Q6 zX _ z
Q7 zAA XL
Q8 xss++[[]]
Q9 x++[b]"#
|'R'=>r#"Ra vZ->vm->Prop
Rb vT hc
Rc vOf (XH oIx ax jc)
Re v7 go gd T.fits eP
Rf v7 go gd T.fits ?_
Rh upd H x o
Ri ts.length-F.length
Rj trT K zCs
Rk tL a (slot i) i ep
Rl some m
Rm s.heap.get? tp=some ot
Rn qd (nt c hc)
Ro q61 (xc c34 hr aX)
Rp q61 (xc c22 hr ar)
Rq q0K l9 ak
Rr (p.1,p.2.1)
Rs ns.length<64
Rt model P w
Ru kv.1=k
Rv ks.map kV
Rw i+1<P.length
Rx h5.mono e.gg
Ry eOf aM
Rz bs.map XC
RC bG->vm->Prop
RD b1.extBut _ _ n1 v
RE a₀.toList.take x
RF a₀.toList.take n
RG [kY,cp]
RH Xr (Y4 (Xw aX) Y7)
RI XR.mono e h3
RJ XR K G es us
RK XJ q0q aY
RM XE.toV (q0K ga ak)
RN XD.toE nE
RO X6 (hs _ _ hi' hin) hc
RP SqL.of pQ
RQ RA++RB
RS Pz g g bs
RT PIE X pins σ tg R
RU List jT
RV List io
RW List dh
RX Key×V
RY ForInStep.yield ok
RZ FoA g g bs F
R0 B++[k]
R1 .sh iP
R3 .ref s1.heap.objs.size
R4 .ok .next
R5 .lst _
R6 .int 2
R7 .int (ns.getD 0 0)
R8 .ext (setP w S ns)
R9 .dK (putK kvs k z)"#
|'S'=>r#"Sb .Constant gU j pos
Sc .Constant KC j pos
Sd .BoolOp op [a] pos
Se .Assign [gj] e pos
Sf (ub es X.env).length=n
Sg (byS as n).1++[ge]
Sh (b-a)*d b+ws d b C
Si (b-a)*c b+ws c b C
Sj ⟨u,r1,r2.mono s1⟩
Sk ⟨this.1,this.2.1⟩
Sl ⟨_,es',ep',hL,r'⟩
Sm ⟨G5,ω3,o5,Ji,f2⟩
Sn ⟨G4,ω3,o4,gg,e1⟩
Sq λv _=>v=.bl true
Ss λj y v' e1 e2 e3=>?_
Su λhab=>vP ⋯ hab
Sv λa b=>XZ a<=XZ b
Sw x2.gg.trans x2.gh
Sz wpAny_load hS' ?_
SA some (.od Gd (Wf Gd))
SB q0h.mem_iff.mp ht
SC q0g hN hi hx h1 hs hf
SD ns.map PyData.int
SE k _ _ (Ne.symm s1) e2
SF k _ G H da (hg _ i j)
SG fin h' ys sb S' p
SH entry N.length ds
SJ e _ _ h
SK bubble_perm _ _ _
SL bubble lw j (j-l)
SM XQ q
SN XQ p
SO XE.toV (XB r9 ak)
SQ XE.toV (XB kG ak)
SR XE.toV (XB Df ak)
SS Wk hr.units ci ak
ST Srt bl
SU SqL.of (x1.gh _ _ f1)
SW .tup (p.1.map kV)
SX .ref g5.objs.size
SY .int (wgh 0 rows)
SZ .Subscript o2 o3 q5
S4 .Subscript o i pos'
S7 .Call ny [a] [] q
S8 .BinOp a op b pos
S9 ((k.toNat:Nat):Int)"#
|'T'=>r#"Ta (Wv fY BI).map XQ
Tc ((0+1+1+1:Nat):Int)
Td ⟨rfl,rfl,∅,Ed⟩
Te ⟨r,_,rfl,dn,kp3⟩
Tf ⟨r,_,rfl,dn,kp'⟩
Tg ⟨k,rfl⟩
Th ⟨i,j,rfl,rfl,mI⟩
Ti ⟨d,rfl⟩
Tj ⟨?_,z2⟩
Tk ⟨?_,?_⟩
Tl λz=>vP z.symm e
Tm λx=>rfl
Tn λk=>bs.getD k d
To λi x v e1 e2 e3=>?_
Tp λi ds' hi=>vP hi EH
Tq λb c hb hbc=>?_
Tr zAe H a y o
Ts yd _
Tt yP (q67 xs lo hi) hz
Tu xs.map F
Tv xs.map B
Tw (x.fst,x.2.fst,pw)
Tx wpAny_handled ?_
Tz wL _
TB vH (h1.symm.trans e)
TC vD 6
TD ua z TI TO i1 i2 a b
TF truthy v
TH stat fr5
TJ some i
TK s+Pre.flatten.length
TL qaO s.heap I.big
TM qA (pv 6) qy rfl
TN pv 0
TQ ow.ext.hh.free hpn
TR ob.data=.dict es0 ep
TU ns.map WData.int
TV (none,l,r)
TW nmP k gs
TX lo+x
TY ks.toList.zip vs
TZ kV k
T7 k::r
T8 its.toArray.size-1
T9 hout b y"#
|'U'=>r#"Ua h'.pend.trans h.pend
Ub h'.kind.trans h.kind
Uc h'.fail.trans h.fail
Ud gs.flatten.length<64
Ue getElem?_pos xs j hs
Uf ["part"]
Ug (["arc"]:List Str)
Uh Y5 ja XL
Ui Y5 cw aY
Uj Y5 aL XL
Uk Y4 mQ (Y4 mQ Y7)
Ul Y4 kH bL
Um Y4 Dg Y7
Uo XU Nj (XU Dp X9)
Up XJ qB aY
Uq XJ qB (Y5 dN XL)
Ur XB jA ak
Us X8 f (f p) (f q)
Ut X1 1
Uu X.wish E
Uv WK.no no.pw
Uw W6 X.K r op
Ux Room k0 X.A
Uy RelV x u
Uz RelV v u
UA Nat->Int
UB L2.Inv X pins σ H s
UC IsTup s.heap t items
UD IntKeys arr
UE Int->Int->D
UF H p=some dQ
UG Gl X "list"
UH G p=none
UI G a=some gS
UJ Ext.refl s1
UK Array AN
UL .int gate
UM .frz o u
UN .Tuple es x1 pos
UO .IfExp c a b pos
UP .Dict [] [] dpos
UQ (twoA HE).map XQ
UR (hs.2 b lW).trans e1
US ((2:Nat):Int)==2
UT λv h' tk hP hk=>?_
UU λl e ih he=>?_
UV λb z=>vP z (noA b)
UW λb u e=>zG _ e
UX zT _ (zR.mpr rfl)
UY zM e1
UZ zCN a
U0 zBT (XJ q03 aD)
U1 zBT (XJ q02 ai)
U2 zAH 3
U3 vJ hz
U4 vH hz
U5 vH hb
U6 vF h
U7 vA Fy
U8 v9 ?_
U9 uK iu"#
|'V'=>r#"Va uE g5.objs.size
Vb tD (vF (vA Iy))
Vc setItem ov iv v
Vd s.heap.objs.size<=a
Ve qp pO
Vf q::qs
Vg q4q hN i3 l3 f3
Vh putSet_of es' t' gd
Vi pm.mem_iff.mp h
Vj op==CmpOp.NotIn
Vk na-1
Vl mirror bP _ _ _
Vm I1.laid (t':=s1.toks) UW bM ?_
Vn kvs.length<sizeLine
Vo ks.length=vs.length
Vp hi-lo
Vq fv ω
Vr ft ω
Vs fr H3
Vt fC bn
Vu dOf (XJ q2d ai)
Vv dOf (XJ q0k ai)
Vx dOf (XJ q0M ai)
Vy dOf (XJ q00 aY)
Vz dOf (X4 zAj MC)
VA call jd (v::us)
VB bubble lw Kl GL
VC assign cE X.env
VD as.getD n (0,0)
VE a+n+1
VF [x,y]
VG ["thing", "places"]
VH ["thing", "beside"]
VI X.mg "range" = none
VJ Within.refl _ _ _
VL Wd ts
VM Wc ak
VN WE st
VO WA cw
VP I.ok.noex b o e
VQ Ext.hide s hp _
VR 0<=k
VS .ok f
VT (.nx,ω.set i oM)
VU (.nx,w)
VW .lst xs.reverse
VX .lst mh
VY .bl (decide Co)
VZ .Tuple es k pos
V1 .Tuple BF kx tp
V6 .Name "list" p1
V7 (r.drop nG).take dZ
V8 (XF aG).map edD
V9 ⟨v,u,h1,h2,h4⟩"#
|'a'=>r#"ae List bh
af List Int
ah ⟨rfl,rfl,rfl,⋯,rfl,⋯,⋯⟩
ai Y5 bj ap
aj model prog w
ak XD.toV Y8
ao model X.prog X.w
ap Y5 cw ME
aq Inv X pins σ H s
ar Y4 fB aw
au ["home", "last", "boxes"]
aw Y4 kH MG
ax vOf (Y6 0)
az .lst nP
aA List re
aB Or.inl rfl
aC .ref s.heap.objs.size
aD Y5 bj AJ
aF RfS K G0 H0 G s as p t b ks ls xss T B h y σ H
aG Pz h l bs
aH vB->vC->Prop
aI (x==("__debug__" : Str))=false
aK X.fn x=true\/X.env.scope.names.lookup x=some .local
aL fC pF
aM fC Ou
aN WS X N scope C s H fp
aO .lst L9
aP vK jF X.env=dM::vK es X.env
aR .lst EN
aS uN (wpAny_callSpecial?_slot (name:=Str.ofString "__next__") hT F.slotSetNext (vk F.slotSetNext hT F.entSetNext ?_ (F.argsSetNext _)))
aX Y4 fB Dt
aY Y5 bj XL
aZ List D
a9 Xp (eOf (fC iP))
aaa ⟨row,U',?_,r2⟩
aab ⟨ob,h1,h2.2.1⟩
aac ⟨_,s1⟩
aad λq=>z2 q.symm
aae λl hl=>?_
aaf λi v=>v=val i
aag λc hc=>?_
aah λ_ _ _=>False
aai λ_ _ _ _ n=>n
aak zH _ hy
aal zH _ he
aam zH _ hc
aan zBH CX X E
aao zAB bs q
aap xs.length<=1000000
aar λq=>z1 q.symm
aas x1.gg.trans g2
aat x1.gg.trans Ji
aau ww K cdv qual=true
aav upTo 0 j.toNat
aaw typeIs_str s z t
aax ts.map Value.ref
aay some (.sh p.1)
aaz some (.rt r,w)
aaA some (.ref JX)
aaB s2.trans o2.gh
aaC ret Value.none
aaD repA ks vs k v
aaE qc (qf (vE 2))
aaF ot.data=.seq ps nt
aaG o.ext.hh.free e2
aaH iZp (Y5 nZ A6)
aaI hnext _ _ _ ?_
aaJ ds.length<=1000000
aaK base+(hint-of)
aaL base+(hint-lo)
aaM base+(hint+of)
aaN base+(hint+lo)
aaO [s.heap.objs.size]
aaP ["script", "some"]
aaQ ["levels", "rest"]
aaR ["boxes", "moves"]
aaS ZI iG (.ref y)
aaT Ww ks xss a' b
aaU T.lst j l xs e2 e5
aaV Loc X.env.scope x3
aaW Loc X.env.scope x2
aaX I.hok.fresh M9
aaY FnScope N ps scope
aaZ Ext.refl ow.gh
aa0 Binds X.K fd ps ds
aa1 Array vS->vc->Prop
aa2 Array vB->Array vB
aa3 Array di->vC->Prop
aa4 AP X pins σ Q
aa5 .lst (kn.map XQ)
aa6 .int ns.length
aa7 .int nC s.toks
aa8 .cons ru2 .nil
aa9 .builtin "sum"
aba .builtin "len"
abb .builtin "all"
abc .builtin "abs"
abd (ds++[d]).length-1
abe ⟨z,H,I,rw',q⟩
abf ⟨rfl,rfl,rfl⟩
abg ⟨f3,f1,f4,f5⟩
abh λz=>vP rfl z
abi λj ks' es hj=>?_
abj x-(0+1)
abk vK [e1] X.env
abl trk h H
abm tCB r t
abn some jp
abo some FL
abp shp d=true
abq (p.1:Int)
abr ow.gh.free hp
abt o.ext.gg.trans s1
abu no.od i ks ds
abv m-(0+1)
abw l.map g
abx keyOk m
aby i+j-1-k
abz h r st1 dn kp
abA gs.flatten.Perm P
abB gT 2 l8
abC eval iq X.env
abD bs.map XQ++FZ
abE [aO,fE,ie]
abF ["parts", "ties"]
abG ["boxes", "arcs"]
abH ["bounds"]
abI Xq 4 (eOf Bl)
abJ X4 op g
abK X.length+Y.length
abL Value.int a t
abM Sum.inl n
abN Sum.inl k'
abO (Sum.inl h:Key)
abP Room k X.A
abQ Rch es a c
abR Itt K a
abS Itl K a
abT ItemsOf.nil _
abU Ite K a
abV I.list_inj q2 hq2
abW I.list_inj q1 hq1
abX Hp->Prop
abY H a=some o
abZ D.tup [pi,GR]
ab0 D.tup [GR,pi]
ab1 (0,.none)
ab2 .tup ys
ab3 .tup [gU,w1']
ab4 .str x t
ab5 .ref tp
ab6 .ref kS
ab7 .lst gJ
ab8 .int p.2
ab9 .int p.1
aca .int e.2
acb .cons ru .nil
acd .If c a b pos
ace (ve st4).size-2
acf ((0+i:Nat):Int)
acg ⟨zH _ h1,p7⟩
ach ⟨os,hos,hcs⟩
aci ⟨o,e,ex.2.1⟩
acj ⟨[],rfl,rfl⟩
ack λk z hk=>?_
acl λb=>c b-d b
acm λb=>c b+d b
acn λa=>f (g a)
aco λ_ _ _ e=>e
acp (y.length:Int)
acq x3.gh _ _ h1
acr x1.gh _ _ e2
acs vK [b] X.env
act v8 kws X.env
acu uS hS rfl ?_
acv uA hS rfl eP
acw uA gt gtd ?_
acx tot+(t-a)*mT
acy (sizeLine:Nat)
acz qc3 x1.hh r2
acA q9X hz hf ?_
acB putK kvs k y
acC pre++[(k,g)]
acD ow0.ow i ds'
acE ow.gh.free hpn
acF op==CmpOp.In
acG o1.gh _ _ r1
acH no2.ow i ds'
acI m.leb x hx y
acJ m.lea x hx y
acK lo+Kk-1-k-lo
acL kz=Sum.inl k
acM (kV kv.1,kv.2)
acN gwt h l bs q
acO g.map λ_=>v
acP eval b X.env
acQ eval a X.env
acR call fA [dq]
acS [x0,x1,x2,AU,lG]
acT XH zBC lZ pN
acU XH oIx kq aM
acV XH oIx kq aL
acW XH oIx eJ aL
acX XH oIx bp aL
acY XH oIx ax aM
acZ XH oIx ax aL
ac0 StateT vc Sem α
ac1 RB.drop m++S
ac3 Itk a ob kvs
ac4 (0,Value.none)
ac5 .tup [x1,y1]
ac6 .tup [gU,x1]
ac7 .int 9
ac8 .int (W8 dH)
ac9 .ins C dx fs
ada .inr (yh lt)
adb .List es pos
adc (h y).mpr zE"#
|'b'=>r#"be Array vS
bf arA h l bs F
bg vOf (Y6 1)
bh Int×Int
bi XE.toD Ur
bj dOf (Y6 0)
bn .bl true
bo arA g g bs F
bp vOf (Y6 3)
bq .ListComp elt [⟨tg,iter,ifs,0⟩] scope pos
bt List V
bu .inl rfl
bv [⟨some kJ,.Name x p2,p3⟩]
bw .ref p
bx List vB
bz ⟨_,rfl⟩
bB bs.length<=30
bE List α
bF XE.toV Ur
bG Str->Option vB
bH qc (qf (XD.toE WG))
bJ .int a
bK (false,eval a X.env)
bL Y4 fB Y7
bM zN _
bN vOf (Y6 2)
bO plc h l bs
bP vN st'
bQ .lst nO
bR ↥bV
bS Own K G0 H0 G ω σ H
bT .Call (.Attribute o1 "setdefault" a1) [e0,Im] [] c1
bU A.handled=none
bV .lst Km
bW List Nat
bX Int->Int
bY .ref z
bZ λG0 H0 G ω σ H r Q o e k=>?_
b0 dOf (Y6 2)"#
|'c'=>r#"ca ns.map V.int
cc List D->Option O
ce .dK kvs
cg ([]:List Str)
ci XE.toV (qr qq qU rfl z14 qT (qj jA qo))
cj Option W
ck ⟨_,rfl,?_⟩
cn List af
cp .lst Rz
cr upd H s.heap.objs.size oG
cu ⟨rfl,I.turned (t':=s.toks) (λb o hb e=>eb b o hb e) f0 f1 f3 f4 f5⟩
cv λG0 H0 G ω σ H out ω' E o e k=>?_
cw dOf (Y6 1)
cA .dic ts (nbD ts es)
cB (n:Int)
cC WS X N scope P1.objs.size s2 H2 fp
cE .Name x pos'
cF .ref l
cG vK [] X.env
cH EP X pins σ Q
cI X.calm=true
cJ sIx items.size items.size hi-sIx items.size 0 lo
cK Array vB
cL .Call (.Name x p) jF [] pos
cM ["home", "last", "boxes", "thing"]
cN [gW,iV,az]
cO Int×List af
cP fC R6
cQ o.data=.set es ep t
cR Option vB->vC->Prop
cT ⟨rfl,rfl⟩
cU [x0,x1,some (.ow Oj),lG]
cV some (.ow ds)
cW ha pins s σ H _ I h
cX dOf acZ
cY ns.map D.int
cZ ua z TI TO i1 i2 l1 l2
c9 Tab G H0 H p ks ls xss"#
|'d'=>r#"da Ext.refl s
db ["gate", "boxes"]
de XV X a f
df List vG
dg λG0 H0 G ω σ H d Q o e k=>?_
dh List vS
di Int×vB
dj uN (wpAny_callSpecial?_slot (name:=Str.ofString "__next__") tz PySem.F.slot_zip_next (vk PySem.F.slot_zip_next tz PySem.F.entry_zip_next ?_ LI))
dk uN (wpAny_callSpecial?_slot (name:=Str.ofString "__next__") hT PySem.F.slot_zip_next (vk PySem.F.slot_zip_next hT PySem.F.entry_zip_next ?_ LI))
dl λr s'=>r=.ok (.ret lV)/\OldK s₁.heap s'.heap/\s'.os=s₁.os/\tP s'.gens
dq .ref a
du some kP
dw vq (vF ⟨_,rfl, "set_iterator", _,NA,F.slotSetNext.lookup,?_⟩)
dy ls.map V.ref
dz gN 0
dC List D->WSt->Option WSt
dH XY h l bs q
dI .int b
dJ List Str
dM (false,eval e X.env)
dN dOf acY
dO .Call (.Name "zip" p2) Cs [] q2
dP vOf (Y6 4)
dQ .lst xs
dU zo as.length
dW v3 "list" vs.toArray 0
dX Option Int
dY List Eg
dZ HT.sIx xs.length xs.length hi-HT.sIx xs.length 0 lo"#
|'e'=>r#"ee x1.trans x2
eu chi x g.2-chi x g.1
eC vN st
eE t.fits es.size=true
eF List RX
eG λ_=>?_
eI Out×WSt
eJ vOf (Y6 5)
eK dOf (Y6 3)
eM uB s.heap TI Cu Ct
eN some bw
eO Loc X.env.scope x
eP vF ?_
eQ Option D
eR ha pos pins s σ H _ I h
eS ⟨Ext.refl sg,rfl,Lw,λi ds h=>vP h (no0.ow i ds),λi j ds es l h=>vP h (no0.ow i ds),λi ks ds h=>vP h (no0.od i ks ds),WK.no no0.pw⟩
eT k==NameKind.free&&env.scope.kind == .function&&env.kindOf n==some .cell
eU Inv X fq σ H s
eV s.heap.get? a=some o
eW nmP 0 gs
eX XE.toD (q74 q1b q4j rfl z18 q0a (qj ki qo))
eY .lst ds
eZ qC (XW.toT (q2t Qn (q2t SS (q4d (Wk hr.units bF (XD.toV zAl)))))) bH qu
e8 λx hx y hy=>?_"#
|'f'=>r#"ff tF (v9 QX)
fj uV PySem.F.plain_extend_loop _
fq apart pins a kS e1 ks e
fu .str "box"
fw ⟨ok.mod,ok.kind,ok.glob,ok.blt,ok.above,ok.inj,ok.has,ok.cab,ok.hd,ok.frames,ok.stk,ok.exf,ok.bs,ok.bsz,ok.noex,ok.exfs,ok.funs,ok.frf⟩
fz .fresh 0 0 QE
fA .builtin "sorted"
fB vD 0
fE .lst (kn.map XC)
fF zS _ rfl
fG w.params.setOrder a ep
fH ⟨_,_,_,_,_,rfl,m2,∅,∅,∅,∅,∅,kp'⟩
fI ["start", "arcs", "waiting", "trail", "backwards", "here", "number"]
fJ Mg a.toList b.toList out.toList i j
fL ⟨_,e,rfl⟩
fM I.ok.hd hc
fN ["things", "knots", "edges"]
fO XV X b g
fP X.A.units+64<ur
fQ oEq true
fR [FB,bR,none,none,none]
fT (x==("__classdict__" : Str))=false
fU (false,eval b X.env)
fV arA h l bs F++[(l,h)]
fW XY h l bs q==0
fX XE.toD (XB ki ak)
fY XY h l bs
fZ λb o hb q=>(zr _ _ jN).trans q"#
|'g'=>r#"ga vV 1
gc vJ z
ge Xm as n
gj .Subscript o k pos'
gm upd H s.heap.objs.size (.tup [gU,x])
gr Xh.refl _
gu .ref S
gz vH z
gB XU dz (XU (gN 1) X9)
gC ((HT.sIx items.size 0 lo:Nat):Int)==0&&Ap==1&&(HT.sIx items.size items.size hi-HT.sIx items.size 0 lo)==items.size
gE λG0 H0 G ω σ H ds R o e k=>?_
gF xp x qual (Wa st) VN Gc .none kV doc pm an cdv ct
gG s _ _ h1
gH (Xe bO).map D.int
gJ (Xd ns).map V.int
gK ⟨_,_,rfl⟩
gL s.heap.IsListIter i2 l2 k2
gM s.heap.IsListIter i1 l1 k1
gO gT 3 (XU dz (XU (gN 1) (XU (gN 2) X9)))
gP Int×Int->Int
gQ revObj l (JR-1)
gR List (κ×V)
gS .lst vs
gU .int i
gW .int h
gX λG2 H i x H' d s0 s1 hd hy=>?_
gY vOf (X4 zAF (Y5 ax XL))
gZ apos.endLine==cpos.line
g9 [↥jn,x1,↥UL,some (.ow [UL]),none]"#
|'h'=>r#"hV of_decide_eq_true h
hW FnOk X.prog X.w X.K X.mg X.base CX0 k f fd ps (spD X.K 1 m)
hZ mvN bs.length bo"#
|'i'=>r#"ib (m:Int)
ie .lst (es.map egD)
ig λi=>ns.getD i 0
ii λG0 H0 G ω σ H out ω' E ow e kk=>?_
ij vK es X.env
ik vJ ∅
im V->Option Int->Option Int->Hp->VK->Prop
io List Key×vG×vB
ip .ref s2.heap.objs.size
iq .Name x pos
ir qt 0
iu .ref it
iw .frz ob ce
iy xs.map D.int
iz s.heap.objs.size+1
iC rts bs p=0/\lfs bs p=0
iD zB8 CX P w K mg base N qual scope f cdv A outer s H E
iE oEq false
iF List vW
iG .ref f
iH ⟨Ae,Ae,I.base.free,λb o e hx=>?_,I.base.tups,I.base.frzs,I.base.tbls⟩
iI o.keep x1
iJ XE.toD (XB Df ak)
iK XE.toD (XB r9 ak)
iL I.tok _
iM HOk P w H h
iN .tup [.lst J8,VX]
iO (.nx,ω.set i (some (.od (Wm ks k) (putA ks ds k d))))
iP .bl false
iQ qr qq qU rfl z14 qT (qj kG qo)
iR b∈X.ex\/X.s₀.heap.objs.size<=b
iS Xv s.heap z TI TO f0 f1
iT BlkOk X N M frees scope
iU .Call (.Name "zip" p) Cs [] pos
iV .int l
iW v5 hz rfl (x:=.bool false) rfl ?_
iZ ho pins s σ H _ I h
i9 he pins s σ H _ I h"#
|'j'=>r#"ja dOf (Y6 4)
jb ⟨rfl,I.turnedL (t':=s.toks) JD hf⟩
jc fC (.int 3)
jd .builtin id
je .ListComp elt [⟨target,iter,ifs,0⟩] scope pos
jg Srt b.toList
jh Srt a.toList
ji Bool->Hp->Prop
jj zH _ hx
jm Xt as n
jn .scr ns
jo .lst []
jp some (.od ks ds)
jq q1u λ_ _ _=>rfl
jr [mm,ED,EC,s1.heap.objs.size,kc]
jt ⟨a1,a2,ws1,ws2,rfl,SU,SqL.of (x1.gh _ _ f3),k _ G1 H1 x1 (qaC f1 f2 f3 f4)⟩
ju vN st1
jv knw g bs
jw .lst L8
jx .Tuple elts kx tpos
jy List PQ
jz .ref t
jA vV 0
jE (k:Int)
jF e::es
jG SetTable.grown es1.size
jH .Compare a [op] [b] pos
jI XD.toE (XE.toD (XB (vV 6) (XE.toV (q0J (XE.toV (qr qq qU rfl z14 qT (qj (vV 6) qo))) ak))))
jJ .int (as.getD k.toNat (0,0)).2
jK .int (as.getD k.toNat (0,0)).1
jL λx=>x.1.isSome
jM λb hb=>?_
jN Ne.symm hb
jO ω.set i ↥d
jP vD 2
jR [↥(.int x.1),↥(.int x.2.1),↥J3]
jS Wz (k:=k) h0 ∅ hk ?_
jT Nat×List Int
jU x ≠ "__name__" 
jV v5 hz rfl (x:=.ref TI) rfl ?_
jW tX ao X.A X.env X.xe
jX kvsOf ks vs
jY kvs.any λkv=>decide Ru
jZ ["thing"]
j6 XE.toD Pg
j7 X.mg "sorted" = none
j8 WK K H0 G ω σ H
j9 vOf (XH oPow Mv (fC (.int 39)))"#
|'k'=>r#"kb vH ∅
kc s1.heap.objs.size+1
kg [↥bQ,↥mR,IB,CB]
kh ⟨E7,kw⟩
ki vV 3
kj bs.length<=20
km PE X o Np
ko vz CM (λv s1 h1=>vz h1 (λitv s2 h2=>?_) λ_ _ q=>q) λ_ _ q=>q
kq vOf (XH oIx bg kR)
kr XE.toD (xc c27 hr ar)
ku .BoolOp .Or (a::b::rest) pos
kw (qI _).mpr (.inr (.inr ⟨b,hb,Aq⟩))
ky ⟨cF,r1,.inl QW,h2 G0 H0 G ω σ H d _ ow q λv G1 H1 x1 y1=>?_⟩
kz (Sum.inl k':Key)
kC s.heap.IsList l2 ys
kD s.heap.IsList l1 xs
kE blw b
kF base+i
kG vV 2
kH vD 1
kI uJ LB K2 hx λg2 it1 b2=>vF ?_
kJ Str.ofString "key"
kK List (Str×vG)
kL D->D->Option R
kM α->Int
kN ds.zip xs
kO binT ha hb I h λv u s2 x y H2 I2 rx ry q=>ho pins s2 σ H2 x y v u Q I2 rx ry q
kP .int k
kQ λj k fs gs m hj hk sj sk=>?_
kR vOf (Y6 6)
kT vH rfl
kU upd H p Jw
kW (Ks:List Str)
kX (Kt:List Str)
kY .int g
kZ Y5 b0 (Y5 Vz XL)
k7 ⟨_,fF,rfl,rfl⟩
k8 some (.pw es)
k9 kindOf st=uG"#
|'l'=>r#"lc k<xs.toList.length
lf k _ _ bu e
lg ["thing", "boxes"]
lh (Sum.inl k:Key)
lm IntKeys a₀
ln Ext.refl o.gh
lu vk PyProof.Rows.slot_tuple_getitem ht.typeIs entry_tuple_getitem ?_ (sT _ _)
lw vN st2
lx vK [a] X.env=bK::vK [] X.env
lC row.drop (j+1)++row.take j
lD [FB,bR,none,none,x4.map W.sh]
lE WZ ks xss h
lG ↥(mvN B as n)
lH .BoolOp .Or (b::rest) pos
lI ⟨rfl,rfl,rfl,rfl⟩
lJ λa b=>f a<=f b
lK uD e OK pos.line X.env=pure false
lL some (.ow [])
lM [↥bQ,KS,JB,CB,x4]
lN Array di
lO .str "go"
lQ (.rt Cz,ω)
lT (zo n).filter λj=>decide Ku
lU (XF aG).map egO
lV .bool true
lW zu (yA B2 (I.ok.cab x c hfn hc))
lZ vOf acZ
l0 si a₀.size a₀.size 0
l5 p.2==NameKind.free
l6 k0==NameKind.free&&env.scope.kind == .function&&env.kindOf n==some .cell
l7 ["count", "lack"]
l8 XU Dp (XU Qv X9)
l9 XE.toV (q1K ga ak)"#
|'m'=>r#"ma X.mg "zip" = none
md .done (.ret .none)
me yp.mp hy
mf vK [e] X.env
mh rows.map zAq
mi λG0 H0 G ω σ H out ω' E ow e k=>?_
mj t7 qual scope s.heap.objs.size f cd
mm s1.heap.objs.size+4
mo (N9:List Str)
mq Option Nat->vc->Prop
ms List nv
mt .type "set"
mv (.nx,ω.set i Pl)
mw .dic ks LY
mE .Call (.Name "reversed" p2) [a] [] q2
mF λ_=>D.bl true
mG v3 "tuple" vs.toArray 0
mH pv 3
mI k _ G H da rfl
mJ eval o X.env
mK List V->Hp->Prop
mL I.hok.fresh bM
mM Bool->vC->Prop
mN (.rt (.sh d),ω)
mO .fr ((Xd ns).map D.int)
mP σ.set i nh
mQ XE.toD (XB ga ak)
mR .lst (P.map D.int)
mS .int s
mT (gs.length:Int)-1
mU PE X a ta
mV FoA h l bs F
mW ⟨_,e,rfl,n,rfl⟩
mX λcdv A outer s H vs Q E hr h=>?_
mY .tup [fu, Ju,bJ,dI]
mZ (.nx,ω.set i (some (.od [k] [d])))
m6 .Call (.Attribute (.Subscript o4b e1b q8) "append" a2) [e0b] [] c2
m7 ⟨(hb C s H fp).1.can,(hb C s H fp).2.1.can,(hb C s H fp).2.2.can⟩
m8 v8 [] X.env
m9 .lst nA"#
|'n'=>r#"nc ⟨none,none,none,rfl⟩
ng ⟨"tuple", _,PyProof.Rows.slot_tuple_getitem.lookup,ht.typeIs,?_⟩
nh some v
nj Xf X.prog X.w
nr (Sum.inl n:Key)
nu (Sum.inl a:Key)
nv Nat×Nat×Nat
nw HT.sIx xs.length 0 lo=0/\HT.sIx xs.length xs.length hi=xs.length
ny .Name "sorted" p
nA (Xd F).map D.int
nB λl hl=>k _ G _ (Ext.hide s hl _) ⟨l,us,rfl,hl,s.free hl,qe,h2⟩
nC g i j
nD fd ω
nE XE.toD (xc c25 hr ar)
nF List (κ×vB)
nG HT.sIx xs.length 0 lo
nH F.map XZ
nJ D.pys ds
nK .Call (.Attribute (.Subscript o4 e0 q7) "append" a1) [e1] [] c1
nL (arA h l bs F).map XQ
nM λb o hb e=>(sb.2 b hb).trans e
nN q01 rfl
nO gs.map gD
nP bs.map XQ
nQ bI IK+bI Pr
nR Binds X.K fd ps []
nT .tup xs
nU .lst ys
nV oV==0&&Ap==1&&cJ==items.size
nW V->List V->Hp->VK->Prop
nX λi ks ds h=>vP h abu
nY yA B2 I.ok.above
nZ dOf (XJ q24 ai)
n9 WSt->Prop"#
|'o'=>r#"oa PE X e te
og Option cj
oh I1.hok.fresh bM
oi (.nx,ω.set i ↥(.int (g a b)))
oj .Call (.Name "set" p2) [a] [] q2
om ((sIx n 0 lo:Nat):Int)
oo (knw g bs).map D.int
oq (gate::ps).map D.int
ou λ_ _=>False
ox ys.map D.int
oy vN st3
oz ovR p.2 bs
oC ovL p.2 bs
oD a₀.size-lo
oE Xf P w
oG .tup VF
oH (pe.setIfInBounds i NM).eraseIdxIfInBounds (i+1)
oI zAt s.heap a QE xs
oJ vK Cs X.env=[bK,fU]
oK uv ?_
oM some (.od [] [])
oN q0I jA z16 rfl z0 rfl z15 q3g
oP Y4 OW (Y4 OV Y7)
oQ Y4 (XE.toD (xc c41 hr ar)) Y7
oR Wu scope.names X.env.cells []
oT Vis X.env.scope x
oU .call J0 HN
oV ((sIx items.size 0 lo:Nat):Int)
oW ⟨_,hz,rfl⟩
oX λj e hj=>?_
oY vF ⟨_,rfl,U6⟩
oZ vB->vB->Sem vB
o7 some (W.sh aR)
o8 XR K G ds vs"#
|'p'=>r#"pb Unit->vC->Prop
pd List (Str×ue)
ph GS ts es gs hs
pi .int q.1
pj .UnaryOp .Not a pos
pr xp x x (Wa st) VN Gc .none kV doc pm an cdv ct
pz s.heap.IsSliceOf sl vl vu .none
pA (r.2.length:Int)
pB q4e (qE (XE.toV (xc c28 hr (Y4 bi (Y4 bi Dt)))))
pC neq+1
pD PySem.F.args_tuple_add_2 _ _
pE .lst (D.int g::ps.map D.int)
pF .int 1
pG p.2-p.1
pH g.2-g.1
pI [z,TI,TO,i1,i2,l1,l2]
pJ Around.under_plainId PyProof.Rows.F.plain_set_update_loop _
pK ⟨o.ext.gg,Xi o.ext.gh h2 _,Xi o.ext.hh h3 _,o.ext.new⟩
pL λ_ _=>true
pM zAZ (lo:=lo) (hi:=lo+nrem) ∅ ∅ ∅ λst4 W4 KK=>?_
pN vOf acY
pO vD 3
pP v8 bv X.env
pQ s1 _ _ (s0 _ _ h1)
pR row.map (mvN B as)
pS q7u (qZ ir (qZ (qt 1) q3J))
pT kvsOf ks dy
pU b3.extBut _ _ Z.TOz.symm (b2.extBut _ _ Z.i1z.symm z1)
pV ["boxes", "gap"]
pW X5 (Wo (vOf (zA7 .tup ax)))
pZ λp hp=>?_
p7 λa ha=>?_
p8 xp name qual params body scope dV kV doc pm an cdv ct
p9 x.2.1-x.1"#
|'r'=>r#"re vG×Obj
rf mov bo
rh (i:Int)
rj ⟨_,fF,rfl,_,rfl⟩
rm min xs.size ys.size<=sizeLine
rn Y5 (dOf MP) (Y5 (dOf (XH oIx bg aL)) XL)
rq X.env.kindOf x=some .cell\/X.env.kindOf x=some .free
rL Wn X pins H a
rM Int->Int->Int
rN ⟨rfl,_,_,rfl,∅,∅,∅,λi hi=>?_,λi hi hin=>?_⟩
rO ⟨l,b,vs,us,rfl,rfl,G8,x1.gh _ _ r6,f1,f2⟩
rP x1.gg.trans x2.gg
rQ [(h,l)]
rR X4 zAF (Y5 bN XL)
rS X.mg x=none
rT St->Hp->Prop
rV SetTable.below xs j
rW List Env
rX .int i t
rY ⟨l,_,rfl,x1.hh.free hl,x1.gh.free hl,qe,XR.ints _⟩
rZ ⟨_,_,_,rfl⟩
r8 λe=>(tJ prog w).is x e.2
r9 vV 4"#
|_=>""
local macro_rules|`($x:ident)=>do
 let s:=x.getId.toString
 if s.length>3 then Lean.Macro.throwUnsupported
 match ((tB s.front).splitOn "\n").find? (·.startsWith (s++" ")) with
 |some l=>return (<-pT 999 0 (l.toList.drop (s.length+1))).1
 |none=>Lean.Macro.throwUnsupported
set_option linter.all false
set_option maxRecDepth 100000
namespace L2
open PySem PySem.Spec PyProof.Rows
noncomputable abbrev Key:=Sum Int Str
noncomputable def zBR:Key->vB->Bool
 | .inl k,v=>Value.isInt k v
 | .inr x,v=>Value.isStrOf x v
noncomputable def keyH(w:vZ):Key->Int
 | .inl k=>rC k
 | .inr x=>hashStr w x
theorem qJ:∀{k:Key}{v:vB},zBR k v=true->(∃i t,k=Sum.inl i/\v=Value.int i t)\/(∃x t,k=Sum.inr x/\v=Value.str x t)
 | .inl i,v,h=>by
  obtain⟨t,e⟩:=Value.isInt_shape (k:=i) (v:=v) h;exact .inl ⟨i,t,rfl,e⟩
 | .inr x,v,h=>by
  obtain⟨t,e⟩:=Value.isStrOf_shape (x:=x) (v:=v) h;exact .inr ⟨x,t,rfl,e⟩
theorem qeI(i:Int)(t:Tok):zBR (.inl i) rX=true:=by simp[zBR,Value.isInt]
theorem qff(x:Str)(t:Tok):zBR (.inr x) ab4=true:=by simp[zBR,Value.isStrOf]
theorem qjt(a b:Int):decide (nu=Sum.inl b)=HZ:=by
 by_cases e:a=b
 ·subst e;simp
 ·have h:¬nu=Sum.inl b:=λq=>e (Sum.inl.inj q)
  rw[vX h];exact(beq_eq_false_iff_ne.mpr e).symm
theorem qjN(a b:Str):decide (K8=Sum.inr b)=decide (a=b):=by
 by_cases e:a=b
 ·subst e;simp
 ·have h:¬K8=Sum.inr b:=λq=>e (Sum.inr.inj q)
  rw[vX h,vX e]
theorem qkg(a:Int)(b:Str):decide (nu=Sum.inr b)=false:=vX (λq=>nomatch q)
theorem qjr(a:Str)(b:Int):decide (K8=Sum.inl b)=false:=vX (λq=>nomatch q)
noncomputable def Xf(prog:vU)(w:vZ):PySem.KeyKind prog w Key where
 is:=zBR
 hash:=keyH w
 inj:=λv a b ha hb=>by
  rcases qJ ha with⟨i,t,rfl,rfl⟩|⟨x,t,rfl,rfl⟩
  ·rcases qJ hb with⟨j,u,rfl,e⟩|⟨y,u,rfl,e⟩
   ·injection e with e1 _;rw[e1]
   ·exact nomatch e
  ·rcases qJ hb with⟨j,u,rfl,e⟩|⟨y,u,rfl,e⟩
   ·exact nomatch e
   ·injection e with e1 _;rw[e1]
 byValue:=λk v h=>by
  rcases qJ h with⟨i,t,rfl,rfl⟩|⟨x,t,rfl,rfl⟩ <;> rfl
 pyHash:=λhv h=>by
  rcases qJ hv with⟨i,t,rfl,rfl⟩|⟨x,t,rfl,rfl⟩
  ·exact wpAny_pyHash_int h
  ·exact wpAny_pyHash_str h
 eqBool:=λhu hv h=>by
  rcases qJ hu with⟨i,t,rfl,rfl⟩|⟨x,t,rfl,rfl⟩
  ·rcases qJ hv with⟨j,u,rfl,rfl⟩|⟨y,u,rfl,rfl⟩
   ·rw[qjt]at h;exact wpAny_eqBool_int h
   ·rw[qkg]at h;exact SeqAt.EqAt.int_str i t y u _ _ _ _ h
  ·rcases qJ hv with⟨j,u,rfl,rfl⟩|⟨y,u,rfl,rfl⟩
   ·rw[qjr]at h;exact SeqAt.EqAt.str_int x t j u _ _ _ _ h
   ·rw[qjN]at h;exact wpAny_eqBool_str h
 «strs»:=λk x t v h=>by
  rcases qJ h with⟨i,u,rfl,e⟩|⟨y,u,rfl,e⟩
  ·exact nomatch e
  ·injection e with e1 _
   subst e1;cases v <;> rfl
theorem qbe(prog:vU)(w:vZ)(i:Int)(t:Tok):(Xf prog w).is (.inl i) rX=true:=qeI i t
theorem qaY(prog:vU)(w:vZ)(x:Str)(t:Tok):(Xf prog w).is (.inr x) ab4=true:=qff x t
inductive V where
 | non|bl (b:Bool)|int (i:Int)|str (x:Str)|byt (b:Array UInt8)|flt (b:UInt64)|ref (a:vG)|ty (n:String)
 deriving DecidableEq
def RelV:V->vB->Prop
 | .non,u=>u=Value.none
 | .bl b,u=>u=Value.bool b
 | .int i,u=>∃t,u=Value.int i t
 | .str x,u=>∃t,u=Value.str x t
 | .byt b,u=>∃t,u=Value.bytes b t
 | .flt b,u=>∃t,u=Value.float b t
 | .ref a,u=>u=Value.ref a
 | .ty n,u=>u=Value.type n
abbrev Xj:List V->List vB->Prop:=sq RelV
theorem Xj.length{xs:bt}{us:bx}(r:Ob):xs.length=us.length:=Paired.length r
theorem Xj.get:∀{xs:bt}{us:bx}{i:Nat}{x:V},Xj xs us->xs[i]?=some x->∃u,us[i]?=some u/\RelV x u
 | _,_,_,_,.nil,e=>by simp at e
 | _,_,0,_,.cons r _,e=>by simp at e;subst e;exact O9
 | _,_,i+1,x,.cons _ t,e=>by
  obtain⟨u,h1,h2⟩:=Xj.get (i:=i) (x:=x) t ⇑e;exact⟨u,by simpa using h1,h2⟩
theorem Xj.set{x:V}{u:vB}(r:Uy):∀{xs:bt}{us:bx}(i:Nat),Xj xs us->Xj (xs.set i x) (us.set i u)
 | _,_,_,.nil=>.nil
 | _,_,0,.cons _ t=>.cons r t
 | _,_,i+1,.cons q t=>.cons q (Xj.set r i t)
theorem Xj.append:∀{xs ys:bt}{us ws:bx},Xj xs us->Xj ys ws->Xj LZ (us++ws)
 | _,_,_,_,.nil,s=>s
 | _,_,_,_,.cons r t,s=>.cons r (Xj.append t s)
theorem Xj.take:∀{xs:bt}{us:bx}(n:Nat),Xj xs us->Xj (xs.take n) (us.take n)
 | _,_,0,_=>.nil
 | _,_,_+1,.nil=>.nil
 | _,_,n+1,.cons r t=>.cons r (Xj.take n t)
theorem Xj.drop:∀{xs:bt}{us:bx}(n:Nat),Xj xs us->Xj (xs.drop n) (us.drop n)
 | _,_,0,r=>r
 | _,_,_+1,.nil=>.nil
 | _,_,n+1,.cons _ t=>Xj.drop n t
def zBP:Option V->Option vB->Prop
 | some v,some u=>RelV v u
 | none,none=>True
 | _,_=>False
def KV{κ:Type}:List (κ×V)->List (κ×vB)->Prop:=sq λ(p:κ×V) (q:κ×vB)=>p.1=q.1/\RelV p.2 q.2
noncomputable def kV:Key->V
 | .inl i=>.int i
 | .inr x=>.str x
inductive HO where
 
 | lst (xs:List V)
 
 | tup (xs:List V)
 
 | dK (kvs:List (Key×V))|dT (kvs:List (List Key×V))
 
 | set (S:Int->Bool) (n:Nat)
 
 | ins (C dx:vG) (fs:List (Str×V))
 
 | own (x:vG)
 
 | xd (fs:List (Str×V))
 
 | met (f x:vG)
 
 | rng (lo hi:Int)
 
 | frz (o:Obj) (u:HO)
 
 | tbl (ps:Array vB)
 
 | ext (φ:vm->Prop)
noncomputable abbrev Hp:=vG->Option HO
noncomputable def upd(H:Hp)(a:vG)(o:HO):Hp:=λb=>if b=a then some o else H b
theorem qe{H:Hp}{a:vG}{o:HO}:upd H a o a=some o:=by unfold upd;rw[kT]
theorem qd{H:Hp}{a b:vG}{o:HO}(h:b≠a):upd H a o b=H b:=by unfold upd;rw[vJ h]
theorem qkH{H:Hp}{a b:vG}{o u:HO}(h:abY)(h':H b=some u)(d:o≠u):a≠b:=by
 intro e;subst e;rw[h]at h';exact d (zy h')
theorem q0F{H:Hp}{a b:vG}{o:HO}(h:abY)(h':H b=none):a≠b:=by
 intro e;subst e;rw[h]at h';cases h'
section
variable(P:vU)(w:vZ)
def Xk(H:Hp)(h:vm)(a:vG):HO->Prop
 | .lst xs=>xs.length<=sizeLine/\∃(its:bx) (n:Nat),Xj xs its/\h.get? a=some { cls:=.type "list", data:=.seq its.toArray n }
 | .tup xs=>xs.length<=sizeLine/\∃its:List vB,Xj xs its/\IsTup h a its.toArray
 | .dK kvs=>kvs.length<=sizeLine/\BD=false/\∃vs,KV kvs vs/\h.DictOf oE a vs
 | .dT kvs=>kvs.length<=sizeLine/\BD=false/\∃xs:List io,
   sq (λ(p:PQ) (q:io)=>p.1=q.1/\H q.2.1=some SW/\RelV p.2 q.2.2) kvs xs /\
   ∃o es ep,h.get? a=some o/\o.ExactDict/\o.data=.dict es ep/\es.toList=xs.map (entryOfKey (tW oE))/\(xs.map (·.1)).Nodup
 | .set S n=>h.SetOf (tJ P w) a S n
 | .ins C dx fs=>H dx=some M0/\fs.length<=1000/\dx≠a/\h.get? a=some (Zj C dx) /\
   ∃mA,h.Ns1 dx mA/\(∀f,zBP NY (mA f))/\PySem.Within mA (fs.map (·.1))
 | .own _=>∃o,h.get? a=some o
 | .xd fs=>∃mA,h.Ns1 a mA/\∀f,zBP NY (mA f)
 | .rng lo hi=>∃t u v,h.get? a=some { cls:=.type "range", data:=.fields #[HG,HH,KF] }
 | .frz o u=>h.get? a=some o/\Xk H h a u
 | .tbl ps=>h.get? a=some { cls:=.none,data:=.fields ps }
 | .met f x=>h.get? a=some (ZI iG (.ref x))
 | .ext φ=>φ h/\(∃o,h.get? a=some o)/\∀h1 h2:vm,φ h1->(∀o,h1.get? a=some o->h2.get? a=some o)->φ h2
def HOk(H:Hp)(h:vm):Prop:=∀a o,H a=some o->Xk P w H h a o
end
section
variable{P:vU}{w:vZ}{H H':Hp}{h h':vm}{a:vG}{o:HO}
theorem Xk.lt(x:Xk P w H h a o):a<h.objs.size:=by
 cases o with
 | lst xs=>obtain⟨_,_,_,_,e⟩:=x;exact zM e
 | tup xs=>obtain⟨_,_,_,p⟩:=x;exact p.lt
 | dK kvs=>obtain⟨_,_,_,_,o,_,_,e,_⟩:=x;exact zM e
 | dT kvs=>obtain⟨_,_,_,_,o,_,_,e,_⟩:=x;exact zM e
 | set S n=>obtain⟨o,_,_,_,e,_⟩:=x;exact zM e
 | ins C dx fs=>obtain⟨_,_,_,e,_⟩:=x;exact zM e
 | own y=>obtain⟨_,e⟩:=x;exact zM e
 | xd fs=>obtain⟨_,⟨_,_,_,e,_⟩,_⟩:=x;exact zM e
 | rng lo hi=>obtain⟨_,_,_,e⟩:=x;exact zM e
 | frz ob u=>obtain⟨e,_⟩:=x;exact zM e
 | tbl ps=>exact zM (show h.get? a=some _ from x)
 | met f y=>exact zM (show h.get? a=some _ from x)
 | ext φ=>obtain⟨_,⟨_,e⟩,_⟩:=x;exact zM e
theorem Paired.mapP{α β:Type}{F G:α->β->Prop}:∀{l₁:bE}{l₂:List β},sq F l₁ l₂->(∀a b,F a b->G a b)->sq G l₁ l₂
 | _,_,.nil,_=>.nil
 | _,_,.cons r t,f=>.cons (f _ _ r) (Paired.mapP t f)
theorem Xk.stay(x:Xk P w H h a o)(k:∀b u,(b=a\/H b=some M0)->h.get? b=some u->h'.get? b=some u)(ho:∀b,H b=some M0->H' b=some M0)(ht:∀b xs,H b=some nT->H' b=some nT):Xk P w H' h' a o:=by
 induction o with
 | lst xs=>obtain⟨z,its,n,r,e⟩:=x;exact⟨z,its,n,r,lf⟩
 | tup xs=>obtain⟨z,its,r,ob,e,c⟩:=x;exact⟨z,its,r,ob,lf,c⟩
 | dK kvs=>obtain⟨z,y,vs,r,ob,es,ep,e,c⟩:=x;exact⟨z,y,vs,r,ob,es,ep,lf,c⟩
 | dT kvs=>
  obtain⟨z,y,xs,r,ob,es,ep,e,c⟩:=x;exact⟨z,y,xs,Paired.mapP r λp q z=>LS,ob,es,ep,lf,c⟩
 | set S n=>obtain⟨ob,es,ep,t,e,c⟩:=x;exact⟨ob,es,ep,t,lf,c⟩
 | ins C dx fs=>
  obtain⟨d,z,ne,e,mA,⟨od,es,ep,e2,c⟩,r⟩:=x;exact⟨ho _ d,z,ne,lf,mA,⟨od,es,ep,k _ _ (.inr d) e2,c⟩,r⟩
 | own y=>obtain⟨ob,e⟩:=x;exact⟨ob,lf⟩
 | xd fs=>obtain⟨mA,⟨od,es,ep,e,c⟩,r⟩:=x;exact⟨mA,⟨od,es,ep,lf,c⟩,r⟩
 | rng lo hi=>obtain⟨t,u,v,e⟩:=x;exact⟨t,u,v,lf⟩
 | frz ob u ih=>obtain⟨e,q⟩:=x;exact⟨lf,ih q⟩
 | tbl ps=>
  have e:h.get? a=some { cls:=.none,data:=.fields ps }:=x;show h'.get? a=some { cls:=.none,data:=.fields ps };exact k a _ bu e
 | met f y=>
  have e:h.get? a=some aaS:=x;show h'.get? a=some aaS;exact k a _ bu e
 | ext φ=>obtain⟨p,⟨o,e⟩,st⟩:=x;exact⟨st _ _ p λo q=>k _ _ bu q,⟨o,lf⟩,st⟩
theorem HOk.lt(x:iM)(e:abY):a<h.objs.size:=(x a o e).lt
theorem HOk.fresh(x:iM)(e:NW):H a=none:=by
 cases q:H a with
 | none=>rfl
 | some u=>exact vP (yA (x.lt q) e) HS
theorem HOk.kept(x:iM)(k:∀b u,h.get? b=some u->h'.get? b=some u):HOk P w H h':=λa o e=>
 (x a o e).stay (λb u _ q=>k b u q) LX λ_ _ q=>q
theorem HOk.laid(x:iM)(k:∀b u,h.get? b=some u->h'.get? b=some u)(hp:NW)(new:Xk P w Ey h' a o):HOk P w Ey h':=λb u e=>by
 have hn:=x.fresh hp
 by_cases hb:b=a
 ·subst hb;rw[qe]at e;cases e;exact new
 ·rw[qd hb]at e
  exact(x b u e).stay (λc v _ q=>k c v q) (λc q=>by rw[Cb];exact q) λc xs q=>by rw[Cb];exact q
end
def Rd(H:Hp)(a:vG)(u:HO):Prop:=H a=some u\/∃o,H a=some UM
theorem Rd.ok{P:vU}{w:vZ}{H:Hp}{h:vm}{a:vG}{u:HO}(r:Rd H a u)(x:iM):Xk P w H h a u:=by
 rcases r with r|⟨o,r⟩
 ·exact x a u r
 ·obtain⟨_,q⟩:=x a _ r
  exact q
def Mut:Option HO->Prop
 | some (.lst _)=>True
 | some (.dK _)=>True
 | some (.dT _)=>True
 | some (.set _ _)=>True
 | some (.ins _ _ _)=>True
 | some (.ext _)=>True
 | _=>False
section
variable{P:vU}{w:vZ}{H:Hp}{h h':vm}{x e:vG}{o':HO}
theorem HOk.write(ok:iM)(mu:Mut (H x))(he:DM)(k:∀b u,b≠e->h.get? b=some u->h'.get? b=some u)(heo:∃u,h'.get? e=some u)(new:Xk P w (upd H x o') h' x o'):HOk P w (upd H x o') h':=λb u q=>by
 have nown:∀c y,H c=some (.own y)->c≠x:=λc y r z=>by subst z;rw[r]at mu;exact mu
 have ntup:∀c xs,H c=some nT->c≠x:=λc xs r z=>by subst z;rw[r]at mu;exact mu
 by_cases hb:b=x
 ·subst hb;rw[qe]at q;cases q;exact new
 ·rw[qd hb]at q
  by_cases hbe:b=e
  ·have q':H b=some (.own x):=by
    rcases he with z|z
    ·exact vP (hbe.trans z) hb
    ·rw[hbe];exact z
   rw[q]at q';cases q';obtain⟨v,hv⟩:=heo;exact⟨v,by rw[hbe];exact hv⟩
  ·refine(ok b u q).stay (λc v hc r=>k c v ?_ r) (λc r=>by rw[qd (nown c b r)];exact r) λc xs r=>by rw[qd (ntup c xs r)];exact r
   rcases hc with rfl|hc
   ·exact hbe
   ·rintro rfl
    rcases he with z|z
    ·exact nown c b hc z
    ·rw[hc]at z;cases z;exact hb rfl
end
structure Un (fs ex:List vG) (H H':Hp) (h h':vm):Prop where
 keep:∀b o,h.get? b=some o->H b=none->b∉fs->b∉ex->h'.get? b=some o
 slot:∀b o,h.get? b=some o->H b=none->b∈fs->b∉ex->∃sl,h'.get? b=some { o with slots:=sl }
 free:∀b o,h.get? b=some o->H b=none->b∉ex->H' b=none
 there:∀b o,h.get? b=some o->b∉ex->∃o',h'.get? b=some o'
 tups:∀b xs,H b=some (.tup xs)->H' b=some (.tup xs)
 frzs:∀b o u,H b=some (.frz o u)->H' b=some (.frz o u)
 tbls:∀b ps,H b=some (.tbl ps)->∃more,H' b=some (.tbl (ps++more))
section
variable{fs fs' ex ex':List vG}{H H1 H2:Hp}{h h1 h2 h':vm}{a x e:vG}{o:HO}
theorem Un.any(u:Un fs ex H H1 h h1){b:vG}{ob:Obj}(q:h.get? b=some ob)(n:H b=none)(hx:b∉ex):∃sl,h1.get? b=some { ob with slots:=sl }:=by
 by_cases hb:b∈fs
 ·exact u.slot b ob q n hb hx
 ·exact⟨ob.slots,u.keep b ob q n hb hx⟩
theorem Un.kept(k:∀b u,h.get? b=some u->h'.get? b=some u):Un fs ex H H h h' :=
 ⟨λb ob q _ _ _=>k b ob q,λb ob q _ _ _=>⟨ob.slots,k b ob q⟩,λ_ _ _ n _=>n,λb ob q _=>⟨ob,k b ob q⟩,λ_ _ q=>q,ND,λ_ ps q=>⟨#[],by rw[q];simp⟩⟩
theorem Un.refl:Un fs ex H H h h:=Un.kept λ_ _ q=>q
theorem Un.laid(k:∀b u,h.get? b=some u->h'.get? b=some u)(hp:NW)(hn:H a=none):Un fs ex H Ey h h' where
 keep:=λb u q _ _ _=>k b u q
 slot:=λb u q _ _ _=>⟨u.slots,k b u q⟩
 free:=λb u q n _=>by rw[qd (zu (yA (zM q) hp))];exact n
 there:=λb u q _=>⟨u,k b u q⟩
 tups:=λb xs q=>by rw[Cb];exact q
 frzs:=λb u xs q=>by rw[Cb];exact q
 tbls:=λb ps q=>⟨#[],by rw[Cb,q];simp⟩
theorem Un.write(mu:Mut (H x))(he:DM)(k:∀b u,b≠e->h.get? b=some u->h'.get? b=some u)(heo:∃u,h'.get? e=some u):Un fs ex H Rh h h':=by
 have hx:∀b,H b=none->b≠x:=λb n z=>by subst z;rw[n]at mu;exact mu
 have hb:∀b,H b=none->b≠e:=λb n z=>by
  subst z;rcases he with r|r
  ·exact hx b n r
  ·rw[n]at r;cases r
 have hm:∀b u,H b=some u->¬Mut (some u)->b≠x:=λb u q nm z=>by subst z;rw[q]at mu;exact nm mu
 refine⟨λb u q n _ _=>k b u (hb b n) q,λb u q n _ _=>⟨u.slots,k b u (hb b n) q⟩,λb u q n _=>by rw[qd (hx b n)];exact n,λb u q _=>?_,
  λb xs q=>by rw[qd IO];exact q,λb u xs q=>by rw[qd IO];exact q,λb ps q=>⟨#[],by rw[qd IO,q];simp⟩⟩
 by_cases hbe:b=e
 ·subst hbe;exact heo
 ·exact⟨u,k b u hbe q⟩
end
noncomputable def trk(h:vm)(H:Hp):List vG:=(zo h.objs.size).filter λa=>(H a).isSome
noncomputable def zCP(h:vm)(H:Hp):vm:=PySem.W.hideAll h abl
theorem qf1(h:vm)(H:Hp):(zCP h H).objs.size=h.objs.size:=PySem.W.hideAll_size _ _
theorem qgG{h:vm}{H:Hp}{b:vG}{o:Obj}(e:h.get? b=some o)(n:H b=none):(zCP h H).get? b=some o :=
 PySem.W.hideAll_get _ e λhm=>by
  have q:(H b).isSome=true:=(yB.mp hm).2;rw[n]at q;simp at q
theorem qj8{h:vm}{H:Hp}{b:vG}{o:Obj}(e:(zCP h H).get? b=some o):h.get? b=some o/\H b=none:=by
 have e':h.get? b=some o:=PySem.W.of_hideAll abl e;refine⟨e',?_⟩;cases q:H b with
 | none=>rfl
 | some x=>
  have hm:b∈trk h H:=yB.mpr ⟨xA.mpr (zM e'),by simp[q]⟩;have z:(zCP h H).get? b=none:=PySem.W.hideAll_none abl hm;rw[z]at e;cases e
noncomputable def zC3(g h:vm)(L:vG):List re:=(zo h.objs.size).filterMap λa=>if a=L\/(g.get? a).isSome=true then none else (h.get? a).map λo=>(a,o)
noncomputable def rest(g h:vm)(L d:vG):List re:=(zC3 g h L).filter λp=>decide (p.1≠d)
structure Mod (K:zB) (mg:Str->Option vB) (base:vm):Prop where
 kin:K.In base
 glob:base.Ns vY mg
 blt:∃mb,base.Ns builtinsNs mb/\∀x:Str,x ≠ "__name__" -> mb x=vn x
 nolimit:base.NoLimit
structure Cx where
 prog:vU
 w:vZ
 K:zB
 mg:Str->Option vB
 base:vm
 A:vf
 N:List Str
 s₀:vC
 H₀:Hp
 env:Env
 outer:List Env
 stack:List Env
 ex:List vG
 fn:Str->Bool
 calm:Bool
 pn:List (vG×Obj)
 xe:vB->vC->Prop
noncomputable def frs(l:rW):List vG:=l.filterMap (·.frame)
noncomputable abbrev Cx.fs(X:Cx):List vG:=frs X.outer
def Vis(sc:u5)(x:Str):Prop:=sc.names.lookup x=some .local\/sc.names.lookup x=some .cell\/sc.names.lookup x=some .free
def Loc(sc:u5)(x:Str):Prop:=sc.names.lookup x=some .local\/sc.names.lookup x=some .cell
def Look(env:Env)(h:vm)(m:bG)(x:Str)(u:vB):Prop :=
 (env.kindOf x=some .local/\m x=some u)\/((env.kindOf x=some .cell\/env.kindOf x=some .free)/\∃c,env.cells.lookup x=some c/\h.IsCell c (some u))
structure Cx.Ok (X:Cx):Prop where
 mod:Mod X.K X.mg X.base
 kind:X.env.scope.kind=.function
 glob:X.env.globals=vY
 blt:X.env.builtins=builtinsNs
 above:X.s₀.heap.objs.size<=X.env.locals
 inj:∀x y c,X.env.cells.lookup x=some c->X.env.cells.lookup y=some c->x=y
 has:∀x,(X.env.kindOf x=some .cell\/X.env.kindOf x=some .free)->∃c,X.env.cells.lookup x=some c
 cab:∀x c,X.fn x=true->X.env.cells.lookup x=some c->X.s₀.heap.objs.size<=c
 hd:X.calm=true->X.A.handled=none
 frames:X.A.frames=some X.stack
 stk:X.stack=X.outer\/(X.stack=X.env::X.outer/\X.env.frame=some X.env.locals)
 exf:∀b∈X.ex,b≠X.env.locals/\∀x c,X.env.cells.lookup x=some c->c≠b
 bs:∀b o,X.base.get? b=some o->X.s₀.heap.get? b=some o/\X.H₀ b=none
 bsz:X.base.objs.size<=X.s₀.heap.objs.size
 noex:∀b o,X.base.get? b=some o->b∉X.ex
 exfs:∀b∈X.ex,b∉X.fs
 funs:X.s₀.heap.FunFrames X.base X.outer
 frf:∀b∈X.fs,X.H₀ b=none
structure Inv (X:Cx) (pins:List (vG×Obj)) (σ:List (Option V)) (H:Hp) (s:vC):Prop where
 ok:X.Ok
 os:s.os=X.s₀.os
 bare:tP s.gens
 base:Un X.fs X.ex X.H₀ H X.s₀.heap s.heap
 loc:∃m,s.heap.Ns X.env.locals m/\∀(i:Nat)(x:Str)(v:V),X.N[i]?=some x->σ[i]?=some (some v)->Vis X.env.scope x->∃u,RelV v u/\Look X.env s.heap m x u
 cell:∀x c,X.env.cells.lookup x=some c->∃v,s.heap.IsCell c v
 free:H X.env.locals=none
 freeC:∀x c,X.env.cells.lookup x=some c->H c=none
 pin:∀p∈X.pn++pins,s.heap.get? p.1=some p.2/\H p.1=none/\p.1≠X.env.locals/\p.1∉X.fs/\∀v,p.2.data≠.cell v
 hok:HOk X.prog X.w H s.heap
 len:σ.length=X.N.length
section
variable{X:Cx}{pins:List (vG×Obj)}{σ:List (Option V)}{H H':Hp}{s:vC}{h':vm}
theorem Cx.Ok.nofr(ok:X.Ok){b:vG}{o:Obj}(e:X.base.get? b=some o):b∉X.fs:=λhb=>by
 have:=(ok.funs.mem hb).1;rw[e]at this;cases this
theorem Inv.bs(I:aq):∀b o,X.base.get? b=some o->s.heap.get? b=some o/\H b=none:=λb o e=>
 ⟨I.base.keep b o (I.ok.bs b o e).1 (I.ok.bs b o e).2 (I.ok.nofr e) VP,I.base.free b o (I.ok.bs b o e).1 (I.ok.bs b o e).2 VP⟩
theorem Inv.bk(I:aq):∀b o,X.base.get? b=some o->s.heap.get? b=some o:=λb o e=>(I.bs b o e).1
theorem Inv.mod(I:aq):Mod X.K X.mg X.base:=I.ok.mod
theorem Inv.kIn(I:aq):X.K.In s.heap:=I.ok.mod.kin.keeps I.bk
theorem Inv.lt(I:aq):X.env.locals<s.heap.objs.size:=let ⟨_,hn,_⟩:=I.loc;hn.lt
theorem Inv.sz(I:aq):X.s₀.heap.objs.size<=s.heap.objs.size:=yP I.ok.above (yi I.lt)
theorem Inv.nofs(I:aq){a:vG}(h:Vd):a∉X.fs:=λhb=>by
 obtain⟨_,o,ho,_⟩:=I.ok.funs.mem hb;exact vP (yA (zM ho) (yP I.sz h)) HS
theorem Inv.cne(I:aq):∀x c,X.env.cells.lookup x=some c->c≠X.env.locals:=λx c e z=>by
 obtain⟨v,o,ho,hd⟩:=I.cell x c e;obtain⟨m,⟨o',es,ep,ho',hd',_⟩,_⟩:=I.loc;rw[z,ho']at ho;cases ho;rw[hd']at hd;cases hd
theorem Inv.funs(I:aq):s.heap.FunFrames X.base X.outer:=by
 have all:∀(l:rW),(∀b∈frs l,b∈X.fs)->X.s₀.heap.FunFrames X.base l->s.heap.FunFrames X.base l:=by
  intro l
  induction l with
  | nil=>intro _ _;trivial
  | cons env r ih=>
   intro hs hl;obtain⟨hk,⟨L,o,hf,hn,ho,hd⟩,hr⟩:=hl;have hL:L∈X.fs:=hs L (by unfold frs;rw[xv,hf];exact zE);obtain⟨sl,e⟩:=I.base.slot L o ho (I.ok.frf L hL) hL λz=>I.ok.exfs L z hL;exact⟨hk,⟨L,_,hf,hn,e,hd⟩,ih (λb hb=>hs b (by unfold frs;rw[xv,hf];exact zH _ hb)) hr⟩
 exact all X.outer (λ_ hb=>hb) I.ok.funs
theorem Inv.stack(I:aq):s.heap.FunFrames X.base X.stack:=by
 rcases I.ok.stk with e|⟨e,hf⟩
 ·rw[e];exact I.funs
 ·rw[e]
  obtain⟨m,hn,_⟩:=I.loc;refine .cons (by rw[I.ok.kind];decide) hf hn ?_ I.funs;exact Heap.get?_none_of_le (yP I.ok.bsz I.ok.above)
theorem Inv.stkSub(I:aq):∀b∈frs X.stack,b∈X.env.locals::X.fs:=λb hb=>by
 rcases I.ok.stk with e|⟨e,hf⟩
 ·rw[e]at hb;exact zH _ hb
 ·rw[e]at hb
  unfold frs at hb;rw[xv,hf]at hb;exact hb
theorem Inv.stkFree(I:aq):∀b∈frs X.stack,H b=none:=λb hb=>by
 rcases zF.mp (I.stkSub b hb)with e|hb
 ·rw[e];exact I.free
 ·obtain⟨_,o,ho,_⟩:=I.ok.funs.mem hb
  exact I.base.free b o ho (I.ok.frf b hb) λz=>I.ok.exfs b z hb
theorem Inv.step{g':Array t4}{t':Nat}{d':sr}{ch:df}(I:aq)(hch:∀b∈ch,iR/\b≠X.env.locals/\(∀x c,X.env.cells.lookup x=some c->c≠b)/\∀p∈X.pn++pins,p.1≠b)(keep:∀b o,b≠X.env.locals->b∉X.fs->b∉ch->s.heap.get? b=some o->H b=none->h'.get? b=some o)(slot:∀b o,b≠X.env.locals->b∈X.fs->b∉ch->s.heap.get? b=some o->H b=none->∃sl,h'.get? b=some { o with slots:=sl })(free:∀b o,b∉ch->s.heap.get? b=some o->H b=none->H' b=none)(there:∀b o,b∉ch->s.heap.get? b=some o->∃o',h'.get? b=some o')(tups:∀b xs,H b=some nT->H' b=some nT)(frzs:∀b o u,H b=some UM->H' b=some UM)(tbls:∀b ps,H b=some (.tbl ps)->∃more,H' b=some (.tbl (ps++more)))(ns:∀m,s.heap.Ns X.env.locals m->h'.Ns X.env.locals m)(hok:Gq)(hg:tP g'):
  Inv X pins σ H' { s with heap:=h',gens:=g',drawn:=d',toks:=t' }:=by
 have neL:∀b o,X.s₀.heap.get? b=some o->b≠X.env.locals:=λb o e=>zu nY;have neC:∀b o,X.s₀.heap.get? b=some o->b∉X.ex->b∉ch:=λb o e hx hb=>by
  rcases (hch b hb).1 with z|z
  ·exact hx z
  ·exact vP (yA B2 z) HS
 have cellK:∀x c,X.env.cells.lookup x=some c->∀v,s.heap.IsCell c v->h'.IsCell c v:=λx c e v ⟨o,ho,hd⟩=>by
  have nch:c∉ch:=λz=>(hch c z).2.2.1 x c e rfl
  by_cases hc:c∈X.fs
  ·obtain⟨sl,q⟩:=slot c o (I.cne x c e) hc nch ho Lh
   exact⟨_,q,hd⟩
  ·exact⟨o,keep c o (I.cne x c e) hc nch ho Lh,hd⟩
 refine⟨I.ok,I.os,hg,⟨Ae,Ae,λb o e n hx=>?_,λb o e hx=>?_,λb xs e=>tups b xs (I.base.tups b xs e),λb o xs e=>frzs b o xs (I.base.frzs b o xs e),λb ps e=>?_⟩,?_,λx c e=>?_,?_,λx c e=>?_,pZ,hok,I.len⟩
 ·exact keep b o (neL b o e) hb EI Ad BJ
 ·obtain⟨sl,e1⟩:=I.base.slot b o e n hb hx
  obtain⟨sl',e2⟩:=slot b _ (neL b o e) hb EI e1 BJ;exact⟨sl',e2⟩
 ·obtain⟨o',e1⟩:=I.base.there b o e hx
  exact free b o' EI e1 BJ
 ·obtain⟨o',e1⟩:=I.base.there b o e hx
  exact there b o' EI e1
 ·obtain⟨m1,e1⟩:=I.base.tbls b ps e
  obtain⟨m2,e2⟩:=tbls b _ e1;exact⟨m1++m2,by rw[e2,Array.append_assoc]⟩
 ·obtain⟨m,hn,hl⟩:=I.loc
  refine⟨m,ns m hn,To⟩;obtain⟨u,r,l⟩:=hl i x v e1 e2 e3;refine⟨u,r,?_⟩;rcases l with l|⟨k,c,e,z⟩
  ·exact .inl l
  ·exact .inr ⟨k,c,e,cellK x c e _ z⟩
 ·obtain⟨v,z⟩:=I.cell x c e
  exact⟨v,cellK x c e v z⟩
 ·obtain⟨m,⟨o,_,_,ho,_⟩,_⟩:=I.loc
  exact free _ o (λz=>(hch _ z).2.1 rfl) ho I.free
 ·obtain⟨v,o,ho,hd⟩:=I.cell x c e
  exact free c o (λz=>(hch c z).2.2.1 x c e rfl) ho Lh
 ·obtain⟨e,n,ne,nf,d⟩:=I.pin p hp
  have nch:p.1∉ch:=λz=>(hch p.1 z).2.2.2 p hp rfl;exact⟨keep p.1 p.2 ne nf nch e n,free p.1 p.2 nch e n,ne,nf,d⟩
theorem Inv.un{t':Nat}(I:aq)(u:Un X.fs [] H H' s.heap h')(hok:Gq):Inv X pins σ H' { s with heap:=h',toks:=t' }:=by
 obtain⟨m,⟨o,es,ep,ho,r⟩,_⟩:=id I.loc;obtain⟨sl,hL⟩:=u.any ho I.free (by simp);exact I.step (g':=s.gens) (d':=s.drawn) (ch:=[]) (λ_ z=>nomatch z) (λb o _ hb _ e n=>u.keep b o e n hb (by simp)) (λb o _ hb _ e n=>u.slot b o e n hb (by simp)) (λb o _ e n=>u.free b o e n (by simp)) (λb o _ e=>u.there b o e (by simp)) u.tups u.frzs u.tbls (λm' hm=>by
  obtain⟨o',es',ep',ho',r'⟩:=hm;rw[ho]at ho';cases ho';exact Sl) hok I.bare
theorem Inv.call{g':Array t4}{t':Nat}{d':sr}{ch:df}(I:aq)(u:Un NZ ch H H' s.heap h')(hok:Gq)(hg:tP g')(hch:∀b∈ch,iR/\b≠X.env.locals/\(∀x c,X.env.cells.lookup x=some c->c≠b)/\∀p∈X.pn++pins,p.1≠b):
  Inv X pins σ H' { s with heap:=h',gens:=g',drawn:=d',toks:=t' }:=by
 obtain⟨m,⟨o,es,ep,ho,r⟩,_⟩:=id I.loc;obtain⟨sl,hL⟩:=u.any ho I.free λz=>(hch _ z).2.1 rfl;exact I.step (ch:=ch) hch (λb o hL hb hc e n=>u.keep b o e n (λz=>(zF.mp (I.stkSub b z)).elim hL hb) hc) (λb o _ _ hc e n=>u.any e n hc) (λb o hc e n=>u.free b o e n hc) (λb o hc e=>u.there b o e hc) u.tups u.frzs u.tbls (λm' hm=>by
  obtain⟨o',es',ep',ho',r'⟩:=hm;rw[ho]at ho';cases ho';exact Sl) hok hg
theorem Inv.turned{t':Nat}{it:vG}(I:aq)(k:∀b o,b≠it->s.heap.get? b=some o->h'.get? b=some o)(hn:H it=none)(hL:it≠X.env.locals)(h1:it∈X.ex\/X.s₀.heap.objs.size<=it)(h2:∀x c,X.env.cells.lookup x=some c->c≠it)(h3:∀p∈X.pn++pins,p.1≠it):Inv X pins σ H { s with heap:=h',toks:=t' }:=by
 have nit:∀b u,H b=some u->b≠it:=λb u e z=>by rw[z,hn]at e;cases e
 refine I.step (g':=s.gens) (d':=s.drawn) (ch:=[it]) jM (λb o _ _ hc e _=>k b o (λz=>hc (by simp[z])) e) (λb o _ _ hc e _=>⟨o.slots,k b o (λz=>hc (by simp[z])) e⟩) aai
  (λb o hc e=>⟨o,k b o (λz=>hc (by simp[z])) e⟩) (λ_ _ e=>e) aco (λb ps e=>⟨#[],by rw[e];simp⟩) (λm hm=>?_) (λb u e=>?_) I.bare
 ·have e:b=it:=by simpa using hb
  subst e;exact⟨h1,hL,h2,h3⟩
 ·obtain⟨o,es,ep,ho,r⟩:=hm
  exact⟨o,es,ep,k _ o (Ne.symm hL) ho,r⟩
 ·refine(I.hok b u e).stay NC LX λ_ _ q=>q
  rcases hc with z|z
  ·rw[z];exact nit b u e
  ·exact nit c _ z
theorem Inv.tok(I:aq)(t:Nat):Inv X pins σ H { s with toks:=t }:=I.un (h':=s.heap) (t':=t) Un.refl I.hok
theorem Inv.kept{t':Nat}(I:aq)(k:∀b u,s.heap.get? b=some u->h'.get? b=some u):Inv X pins σ H { s with heap:=h',toks:=t' }:=I.un (Un.kept k) (I.hok.kept k)
theorem Inv.laid{a:vG}{o:HO}{t':Nat}(I:aq)(k:∀b u,s.heap.get? b=some u->h'.get? b=some u)(hp:Vd)(new:Xk X.prog X.w Ey h' a o):
  Inv X pins σ Ey { s with heap:=h',toks:=t' }:=I.un (Un.laid k hp (I.hok.fresh hp)) (I.hok.laid k hp new)
theorem Inv.write{x e:vG}{o:HO}{t':Nat}(I:aq)(mu:Mut (H x))(he:DM)(k:∀b u,b≠e->s.heap.get? b=some u->h'.get? b=some u)(heo:∃u,h'.get? e=some u)(new:Xk X.prog X.w Rh h' x o):Inv X pins σ Rh { s with heap:=h',toks:=t' }:=I.un (Un.write mu he k heo) (I.hok.write mu he k heo new)
theorem Inv.pins_of{pins':aA}(I:aq)(h:∀p∈pins',s.heap.get? p.1=some p.2/\H p.1=none/\p.1≠X.env.locals/\p.1∉X.fs/\∀v,p.2.data≠.cell v):Inv X pins' σ H s :=
 ⟨I.ok,I.os,I.bare,I.base,I.loc,I.cell,I.free,I.freeC,λp hp=>(zJ.mp hp).elim (λz=>I.pin p Q6) (h p),I.hok,I.len⟩
theorem qat{N:dJ}(hN:N.Nodup){i j:Nat}{x:Str}(a:N[i]?=some x)(b:N[j]?=some x):i=j:=by
 obtain⟨h1,e1⟩:=zj.mp a;obtain⟨h2,e2⟩:=zj.mp b;exact(wY hN).mp (e1.trans e2.symm)
theorem q8F{M:Model}{A:vf}{E:aH}{i:Nat}{x:Str}{v:V}{u:vB}{Q:pb}(I:aq)(hN:X.N.Nodup)(hi:X.N[i]?=some x)(hx:eO)(r:Uz)(h:∀s',Inv X pins mP H s'->(∃a,xn a s.heap s'.heap/\(a=X.env.locals\/X.env.cells.lookup x=some a))->Q () s')(hf:aK:=by first|exact .inl rfl|exact .inr rfl|assumption):vM M A Qh Q E s:=by
 obtain⟨m,hn,hl⟩:=id I.loc;have hcls:(X.env.scope.kind == .class || (X.env.scope.kind == .module&&X.env.locals != X.env.globals))=false:=by rw[I.ok.kind];rfl
 have hiσ:i<σ.length:=by rw[I.len];exact(zj.mp hi).1
 have cne:=I.cne;have tracked:∀{a:vG}{h':vm},(∃o,s.heap.get? a=some o/\H a=none)->xn a s.heap h'->HOk X.prog X.w H h':=λ{a h'} ha hs b ob e=>by
  obtain⟨_,_,hfree⟩:=ha;refine(I.hok b ob e).stay (λc w' hc q=>(hs.2 c ?_).trans q) LX λ_ _ q=>q;rintro rfl;rcases hc with rfl|hc
  ·rw[hfree]at e;cases e
  ·rw[hfree]at hc;cases hc
 rcases hx with hk|hk
 ·refine wpAny_storeName_local hk hn (λh' hn' hs=>?_) hcls
  obtain⟨oL,_,_,hoL,_⟩:=id hn;refine h _ ⟨I.ok,I.os,I.bare,iH,⟨_,hn',Ss⟩,λy c e=>?_,I.free,I.freeC,pZ,tracked ⟨oL,hoL,I.free⟩ hs,by simpa using I.len⟩ ⟨_,hs,bu⟩
  ·exact(hs.2 b (zu nY)).trans Ad
  ·obtain⟨sl,e1⟩:=I.base.slot b o e n hb hx
   exact⟨sl,O6⟩
  ·obtain⟨o',e1⟩:=I.base.there b o e hx
   exact⟨o',O6⟩
  ·by_cases hj:j=i
   ·subst hj
    rw[hi]at e1;cases e1;rw[ye hiσ]at e2;cases e2;exact⟨u,r,.inl ⟨hk,by simp⟩⟩
   ·rw[zL (Ne.symm hj)]at e2
    obtain⟨u',r',q⟩:=hl j y v' e1 e2 e3;refine⟨u',r',?_⟩;rcases q with⟨k,e⟩|⟨k,c,e,z⟩
    ·refine .inl ⟨k,?_⟩
     have:y≠x:=λe=>hj (qat hN e1 (e▸hi));simp[this,e]
    ·exact .inr ⟨k,c,e,Pf⟩
  ·obtain⟨w',z⟩:=I.cell y c e
   exact⟨w',Pf⟩
  ·obtain⟨e,n,ne,nf,d⟩:=I.pin p hp
   exact⟨(hs.2 p.1 ne).trans e,n,ne,nf,d⟩
 ·have hfn:X.fn x=true:=by
   rcases hf with z|z
   ·exact z
   ·rw[z]at hk;cases hk
  obtain⟨c,hc⟩:=I.ok.has x (.inl hk);obtain⟨w',z⟩:=I.cell x c hc;refine wpAny_storeName_cell I.ok.kind hk hc z (λh' hc' hs=>?_);obtain⟨oc,hoc,hocd⟩:=id z;refine h { s with heap:=h' } ⟨I.ok,I.os,I.bare,iH,⟨m,hn.sameBut hs (Ne.symm (cne x c hc)),Ss⟩,λy c' e=>?_,I.free,I.freeC,pZ,tracked ⟨oc,hoc,I.freeC x c hc⟩ hs,by simpa using I.len⟩ ⟨c,hs,.inr hc⟩
  ·exact(hs.2 b lW).trans Ad
  ·obtain⟨sl,e1⟩:=I.base.slot b o e n hb hx
   exact⟨sl,UR⟩
  ·obtain⟨o',e1⟩:=I.base.there b o e hx
   exact⟨o',UR⟩
  ·by_cases hj:j=i
   ·subst hj
    rw[hi]at e1;cases e1;rw[ye hiσ]at e2;cases e2;exact⟨u,r,.inr ⟨.inl hk,c,hc,hc'⟩⟩
   ·rw[zL (Ne.symm hj)]at e2
    obtain⟨u',r',q⟩:=hl j y v' e1 e2 e3;refine⟨u',r',?_⟩;rcases q with q|⟨k,c',e,z'⟩
    ·exact .inl q
    ·refine .inr ⟨k,c',e,z'.sameBut hs ?_⟩
     rintro rfl;exact hj (qat hN e1 (I.ok.inj _ _ _ e hc▸hi))
  ·by_cases hcc:c'=c
   ·subst hcc;exact⟨_,hc'⟩
   ·obtain⟨w2,z2⟩:=I.cell y c' e
    exact⟨w2,z2.sameBut hs hcc⟩
  ·obtain⟨e,n,ne,nf,d⟩:=I.pin p hp
   refine⟨(hs.2 p.1 ?_).trans e,n,ne,nf,d⟩;intro q;rw[q,hoc]at e;have q':oc=p.2:=zy e;exact d w' (by rw[<- q'];exact hocd)
theorem q6Q{M:Model}{A:vf}{E:aH}{i:Nat}{x:Str}{v:V}{u:vB}{Q:pb}(I:aq)(hN:X.N.Nodup)(hi:X.N[i]?=some x)(hx:eO)(r:Uz)(h:∀s',Inv X pins mP H s'->Q () s')(hf:aK:=by first|exact .inl rfl|exact .inr rfl|assumption):vM M A Qh Q E s :=
 q8F I hN hi hx r (λs' I' _=>h s' I') hf
theorem Inv.call'{s':vC}{ch:df}(I:aq)(ho:s'.os=s.os)(u:Un NZ ch H H' s.heap s'.heap)(hok:HOk X.prog X.w H' s'.heap)(hg:tP s'.gens)(hch:∀b∈ch,iR/\b≠X.env.locals/\(∀x c,X.env.cells.lookup x=some c->c≠b)/\∀p∈X.pn++pins,p.1≠b):Inv X pins σ H' s':=by
 obtain⟨h',g',d',t',o'⟩:=s';have e:o'=s.os:=ho;subst e;exact I.call (g':=g') (t':=t') (d':=d') u hok hg hch
end
abbrev XK:=vB->Option vG->Hp->Prop
noncomputable abbrev St:=List Ao
abbrev VK:=V->Hp->Prop
abbrev TE:=St->Hp->VK->Prop
abbrev TT:=St->Hp->ji->Prop
abbrev TA:=St->Hp->mK->Prop
structure Ends where
 nx:St->Hp->Prop
 rt:VK
 bk:St->Hp->Prop:=λ_ _=>False
 ct:St->Hp->Prop:=λ_ _=>False
abbrev TS:=Ends->St->Hp->Prop
def EP(X:Cx)(pins:aA)(σ:St)(Q:VK)(u:vB)(s':vC):Prop:=∃v H',Inv X pins σ H' s'/\RelV v u/\Q v H'
def TP(X:Cx)(pins:aA)(σ:St)(Q:ji)(b:Bool)(s':vC):Prop:=∃H',Inv X pins σ H' s'/\Q b H'
def AP(X:Cx)(pins:aA)(σ:St)(Q:mK)(us:bx)(s':vC):Prop:=∃vs H',Inv X pins σ H' s'/\Xj vs us/\Q vs H'
def SP(X:Cx)(pins:aA)(D:Ends)(f:Flow)(s':vC):Prop :=
 match f with
 | .next=>∃σ' H',Inv X pins σ' H' s'/\D.nx σ' H'
 | .brk=>∃σ' H',Inv X pins σ' H' s'/\D.bk σ' H'
 | .cont=>∃σ' H',Inv X pins σ' H' s'/\D.ct σ' H'
 | .ret u=>∃v σ' H',Inv X pins σ' H' s'/\RelV v u/\D.rt v H'
def PE(X:Cx)(e:vW)(t:TE):Prop :=
 ∀(pins:aA)(s:vC)(σ:St)(H:Hp)(Q:VK),Inv X pins σ H s->t σ H Q->vM ao X.A Mw cH X.xe s
def PT(X:Cx)(e:vW)(t:TT):Prop :=
 ∀(pins:aA)(s:vC)(σ:St)(H:Hp)(Q:ji),Inv X pins σ H s->t σ H Q->vM ao X.A (rE e X.env Mw) Cf X.xe s
def PW(X:Cx)(e:vW)(t:TT):Prop :=
 ∀(whole:Sem vB)(pins:aA)(s:vC)(σ:St)(H:Hp)(Q:ji),Inv X pins σ H s->t σ H Q->vM ao X.A (rE e X.env whole) Cf X.xe s
theorem PW.pt{X:Cx}{e:vW}{t:TT}(h:PW X e t):PT X e t:=h _
def PA(X:Cx)(es:iF)(t:TA):Prop :=
 ∀(pos:Pos)(pins:aA)(s:vC)(σ:St)(H:Hp)(Q:mK),Inv X pins σ H s->t σ H Q->vM ao X.A (spliced (vt pos ij)) aa4 X.xe s
def PS(X:Cx)(st:vp)(t:TS):Prop :=
 ∀(pins:aA)(s:vC)(σ:St)(H:Hp)(D:Ends),Inv X pins σ H s->t D σ H->vM ao X.A (exec st X.env) (SP X pins D) X.xe s
def PSs(X:Cx)(st:Cg)(t:TS):Prop :=
 ∀(pins:aA)(s:vC)(σ:St)(H:Hp)(D:Ends),Inv X pins σ H s->t D σ H->vM ao X.A (execs st X.env) (SP X pins D) X.xe s
theorem thn{α:Type}{t:Sem α}{Q Q':α->vC->Prop}{M:Model}{A:vf}{E:aH}{s:vC}(h:vM M A t Q E s)(hQ:∀a s,Q a s->Q' a s):vM M A t Q' E s:=vz h hQ λ_ _ x=>x
section
variable{X:Cx}
noncomputable def X1(i:Nat):TE:=λσ H Q=>∃v,σ[i]?=some nh/\Q v H
noncomputable def tC(v:V):TE:=λ_ H Q=>Q v H
theorem qjB{i:Nat}{x:Str}{pos:Pos}(hN:X.N[i]?=some x)(hv:oT)(hd:aI:=by decide)(hcd:fT:=by decide):PE X iq Np:=by
 intro pins s σ H Q I h;obtain⟨v,e,h⟩:=h;obtain⟨m,hn,hl⟩:=I.loc;obtain⟨u,r,l⟩:=hl i x v hN e hv;have fin:EP X pins σ Q u s:=LT;rcases l with⟨hk,hm⟩|⟨hk,c,hc,hcell⟩
 ·exact wpAny_Name (t6 I.ok.kind hk hn hm fin) hd
 ·rcases hk with hk|hk
  ·exact wpAny_Name (sN I.ok.kind hk hc hcell fin) hd
  ·exact wpAny_Name (wpAny_loadName_free I.ok.kind hk hc hcell fin hcd) hd
theorem qkk{i j pos}:PE X Sb (tC gU):=λ_ _ _ H _ I h=>wpAny_Constant_int ⟨gU,H,iL,bz,h⟩
theorem qkD{b j pos}:PE X LQ (tC LP):=λ_ _ _ H _ I h=>Constant_bool ⟨LP,H,I,rfl,h⟩
theorem qjV{x j pos}:PE X Sc (tC KC):=λ_ _ _ H _ I h=>Calls.Constant_str ⟨KC,H,iL,bz,h⟩
def Gl(X:Cx)(x:Str):Prop:=X.env.kindOf x=some .globalImplicit
theorem qcA{E:aH}{pins:aA}{s:vC}{σ:St}{H:Hp}{x:Str}{u:vB}{pos:Pos}{Q:aH}(I:aq)(hg:AC)(hm:X.mg x=some u)(h:Q u s)(hd:aI:=by decide):vM ao X.A abC Q E s :=
 Calls.Name_function_global I.ok.kind hg (Calls.loadGlobal_global (by rw[I.ok.glob];exact I.mod.glob.keeps I.bk) hm h) hd
theorem q0G{E:aH}{pins:aA}{s:vC}{σ:St}{H:Hp}{x:Str}{u:vB}{pos:Pos}{Q:aH}(I:aq)(hg:AC)(hm:rS)(hv:vn x=some u)(h:Q u s)(hn:jU:= by decide)(hd:aI:=by decide):vM ao X.A abC Q E s:=by
 obtain⟨mb,h1,h2⟩:=I.mod.blt;exact Calls.Name_function_global I.ok.kind hg (Calls.loadGlobal_builtin (by rw[I.ok.glob];exact I.mod.glob.keeps I.bk) hm (by rw[I.ok.blt];exact h1.keeps I.bk) ((h2 x hn).trans hv) h) hd
theorem qiC{x:Str}{v:V}{u:vB}{pos:Pos}(hg:AC)(hm:X.mg x=some u)(r:Uz)(hd:aI:=by decide):PE X iq (tC v) :=
 λ_ _ _ H _ I h=>qcA I hg hm LT hd
theorem qj2{x:Str}{v:V}{u:vB}{pos:Pos}(hg:AC)(hm:rS)(hv:vn x=some u)(r:Uz)(hn:jU:= by decide)(hd:aI:=by decide):PE X iq (tC v) :=
 λ_ _ _ H _ I h=>q0G I hg hm hv LT hn hd
variable{a b:vW}{ta tb:TE}{pos:Pos}
def PC(X:Cx)(op:sw)(a b:vW)(t:TE):Prop :=
 ∀(pins:aA)(s:vC)(σ:St)(H:Hp)(Q:VK),Inv X pins σ H s->t σ H Q ->
  vM ao X.A acQ (λv s₁=>vM ao X.A acP (λu s₂=>vM ao X.A (uW op v u) cH X.xe s₂) X.xe s₁) X.xe s
theorem zCV(b:vW){op:sw}(h:op≠.In)(h2:op≠.NotIn):uM op b=false:=by
 have e1:acF=false:=by cases op <;> first|rfl|exact vP rfl h
 have e2:Vj=false:=by cases op <;> first|rfl|exact vP rfl h2
 cases b <;> simp[uM,e1,e2]
noncomputable def tB(t:TE):TT:=λσ H Q=>t σ H λx H1=>∃c,x=.bl c/\Q c H1
theorem qkx{op:sw}{t:TE}(h:PC X op a b t)(h1:B8:=by first|exact zCV _ (by decide) (by decide)|rfl):PT X jH (tB t):=by
 intro pins s σ H Q I hw;refine tt (thn Px λv s1 h1=>thn h1 λu s2 h2=>thn h2 λc s3 ⟨x,H1,I1,r1,q1⟩=>?_) h1;obtain⟨d,rfl,q⟩:=q1;cases r1;exact uO ⟨H1,I1,q⟩
variable{tA tB':TT}{rest:List vW}
noncomputable def tOr(t u:TT):TT:=λσ H Q=>t σ H λc H1=>if c=true then Q true H1 else u σ H1 Q
noncomputable def tNot(t:TT):TT:=λσ H Q=>t σ H λc H1=>Q (!c) H1
theorem qdE(ha:PT X a tA):PW X QN tA:=by
 intro wh pins s σ H Q I h;refine isTrue_or (thn (ha pins s σ H Q I h) λc s1 e=>?_);cases c with
 | false=>exact isTrue_or_nil e
 | true=>exact e
theorem qh9(ha:PT X a tA)(hb:PW X lH tB'):PW X ku (tOr tA tB'):=by
 intro wh pins s σ H Q I h;refine isTrue_or (thn cW λc s1 ⟨H1,I1,q1⟩=>?_);cases c with
 | true=>exact⟨H1,I1,q1⟩
 | false=>exact hb wh pins s1 σ H1 Q I1 q1
theorem qkB(ha:PT X a tA):PT X pj (tNot tA):=by
 intro pins s σ H Q I h;exact isTrue_not (ha pins s σ H (λc H1=>Q (!c) H1) I h)
noncomputable def tAndV(ta tb:TE):TE:=λσ H Q=>ta σ H λx H1=>∃c,x=.bl c/\if c=true then tb σ H1 Q else Q iP H1
noncomputable def tOrV(ta tb:TE):TE:=λσ H Q=>ta σ H λx H1=>∃c,x=.bl c/\if c=true then Q bn H1 else tb σ H1 Q
noncomputable def tNotV(ta:TE):TE:=λσ H Q=>ta σ H λx H1=>∃c,x=.bl c/\Q (.bl (!c)) H1
theorem qk9{op}{t:TE}(h:PE X a t):PE X Sd t:=λpins s σ H Q I hw=>BoolOp_one (h pins s σ H Q I hw)
theorem qjD(ha:mU)(hb:PE X Lp tb):PE X Jx (tAndV ta tb):=by
 intro pins s σ H Q I h;refine BoolOp_and (thn cW λv s1 ⟨x,H1,I1,r1,q1⟩=>?_);obtain⟨c,rfl,q1⟩:=q1;cases r1;refine uO ?_;cases c with
 | true=>exact hb pins s1 σ H1 Q I1 q1
 | false=>exact⟨iP,H1,I1,rfl,q1⟩
theorem qkN(ha:mU)(hb:PE X lH tb):PE X ku (tOrV ta tb):=by
 intro pins s σ H Q I h;refine BoolOp_or (thn cW λv s1 ⟨x,H1,I1,r1,q1⟩=>?_);obtain⟨c,rfl,q1⟩:=q1;cases r1;refine uO ?_;cases c with
 | false=>exact hb pins s1 σ H1 Q I1 q1
 | true=>exact⟨bn,H1,I1,rfl,q1⟩
theorem qkn(ha:mU):PE X pj (tNotV ta):=by
 intro pins s σ H Q I h;refine UnaryOp_ (thn cW λv s1 ⟨x,H1,I1,r1,q1⟩=>?_);obtain⟨c,rfl,q1⟩:=q1;cases r1;exact not_of (uO ⟨.bl (!c),H1,I1,rfl,q1⟩)
noncomputable def tIf(t:TT)(ta tb:TE):TE:=λσ H Q=>t σ H λc H1=>if c=true then ta σ H1 Q else tb σ H1 Q
theorem qga{c:vW}(hc:PT X c tA)(ha:mU)(hb:HB):PE X UO (tIf tA ta tb):=by
 intro pins s σ H Q I h;refine wpAny_IfExp (thn Pw λd s1 ⟨H1,I1,q1⟩=>?_);cases d with
 | true=>exact ha pins s1 σ H1 Q I1 q1
 | false=>exact hb pins s1 σ H1 Q I1 q1
end
def SqL(K:zB)(H:Hp)(a:vG)(xs:bt):Prop :=
 Rd H a dQ \/
  ∃(o:Obj) (its:cK) (n:Nat),K.lookup a=some o/\o.cls=.type "list" /\ o.dict=none/\o.data=.seq its n/\its.size<=sizeLine/\Xj xs its.toList
def SqT(K:zB)(H:Hp)(a:vG)(xs:bt):Prop :=
 Rd H a nT \/
  ∃(o:Obj) (its:cK) (n:Nat),K.lookup a=some o/\o.cls=.type "tuple" /\ o.data=.seq its n/\its.size<=sizeLine/\Xj xs its.toList
noncomputable def absV:vB->Option V
 | .none=>some .non
 | .bool b=>some LP
 | .int i _=>some gU
 | .str x _=>some KC
 | .bytes b _=>some (.byt b)
 | .float b _=>some (.flt b)
 | .ref a=>some dq
 | .type n=>some (.ty n)
 | _=>none
theorem RelV.abs{x:V}{u:vB}(r:Uy):absV u=some x:=by
 cases x with
 | non=>cases r;rfl
 | bl _=>cases r;rfl
 | int _=>obtain⟨t,rfl⟩:=r;rfl
 | str _=>obtain⟨t,rfl⟩:=r;rfl
 | byt _=>obtain⟨t,rfl⟩:=r;rfl
 | flt _=>obtain⟨t,rfl⟩:=r;rfl
 | ref _=>cases r;rfl
 | ty _=>cases r;rfl
theorem RelV.inj{x y:V}{u:vB}(r:Uy)(q:Bn):x=y:=zy (r.abs.symm.trans q.abs)
theorem Xj.inj:∀{xs ys:bt}{us:bx},Xj xs us->Xj ys us->xs=ys
 | _,_,_,.nil,.nil=>rfl
 | _,_,_,.cons r t,.cons r' t'=>by rw[r.inj r',Xj.inj t t']
section
variable{X:Cx}{pins:List (vG×Obj)}{σ:St}{H:Hp}{s:vC}{a:vG}{xs ys:List V}
theorem SqL.of{K:zB}(h:H a=some dQ):SqL K H a xs:=.inl (.inl h)
theorem SqT.of{K:zB}(h:H a=some nT):SqT K H a xs:=.inl (.inl h)
theorem Inv.list(I:aq)(h:SqL X.K H a xs):∃its:List vB,Xj xs its/\PlainL s.heap a its.toArray/\xs.length<=sizeLine:=by
 rcases h with h|⟨o,its,n,hk,hc,hd,hs,hz,r⟩
 ·obtain⟨z,its,n,r,e⟩:=h.ok I.hok
  exact⟨its,r,⟨_,n,e,rfl,rfl,rfl⟩,z⟩
 ·refine⟨its.toList,r,⟨o,n,I.kIn a o hk,hc,hd,by simpa using hs⟩,?_⟩
  have e:=r.length;simp only[zK]at e;omega
theorem Inv.tuple(I:aq)(h:SqT X.K H a xs):∃its:List vB,Xj xs its/\IsTup s.heap a its.toArray/\xs.length<=sizeLine:=by
 rcases h with h|⟨o,its,n,hk,hc,hs,hz,r⟩
 ·obtain⟨z,its,r,p⟩:=h.ok I.hok
  exact⟨its,r,p,z⟩
 ·refine⟨its.toList,r,⟨o,I.kIn a o hk,hc,n,by simpa using hs⟩,?_⟩
  have e:=r.length;simp only[zK]at e;omega
theorem Inv.list_inj(I:aq)(h:SqL X.K H a xs)(h':SqL X.K H a ys):xs=ys:=by
 obtain⟨its,r,⟨o,n,e,_,_,d⟩,_⟩:=I.list h;obtain⟨its',r',⟨o',n',e',_,_,d'⟩,_⟩:=I.list h';rw[e]at e';cases e';rw[d]at d';injection d' with d1 _;have:its=its':=by simpa using v4 Y0 d1
 subst this;exact r.inj r'
theorem Inv.tuple_inj(I:aq)(h:SqT X.K H a xs)(h':SqT X.K H a ys):xs=ys:=by
 obtain⟨its,r,⟨o,e,_,n,d⟩,_⟩:=I.tuple h;obtain⟨its',r',⟨o',e',_,n',d'⟩,_⟩:=I.tuple h';rw[e]at e';cases e';rw[d]at d';injection d' with d1 _;have:its=its':=by simpa using v4 Y0 d1
 subst this;exact r.inj r'
end
noncomputable abbrev Cx.wish(X:Cx)(E:aH):Cx:={ X with xe:=E }
noncomputable abbrev Cx.nox(X:Cx):Cx:=X.wish λ_ _=>False
theorem Cx.Ok.wish{X:Cx}(ok:X.Ok)(E:aH):(X.wish E).Ok :=
 fw
theorem Cx.Ok.unwish{X:Cx}{E:aH}(ok:(X.wish E).Ok):X.Ok :=
 fw
section
variable{X:Cx}{pins:List (vG×Obj)}{σ:St}{H:Hp}{s:vC}{E:vB->vC->Prop}
theorem Inv.wish(I:aq)(E:aH):Inv Uu pins σ H s:=⟨I.ok.wish E,I.os,I.bare,I.base,I.loc,I.cell,I.free,I.freeC,I.pin,I.hok,I.len⟩
theorem Inv.unwish(I:Inv Uu pins σ H s):Inv X pins σ H s:=⟨I.ok.unwish,I.os,I.bare,I.base,I.loc,I.cell,I.free,I.freeC,I.pin,I.hok,I.len⟩
theorem SP.unwish{D:Ends}{f:Flow}{s':vC}(h:SP Uu pins D f s'):SP X pins D f s':=by
 cases f with
 | next=>obtain⟨σ',H',I,q⟩:=h;exact CA
 | brk=>obtain⟨σ',H',I,q⟩:=h;exact CA
 | cont=>obtain⟨σ',H',I,q⟩:=h;exact CA
 | ret u=>obtain⟨v,σ',H',I,r,q⟩:=h;exact⟨v,σ',H',I.unwish,r,q⟩
theorem PSs.nox{st:Cg}{t:TS}(h:PSs X.nox st t):PSs X st t:=λpins s σ H D I hw=>
 vz (h pins s σ H D (I.wish _) hw) (λ_ _ q=>q.unwish) λ_ _ z=>False.elim z
end
section
variable{X:Cx}{st:vp}{rest:List vp}{t u:TS}{e:vW}{te:TE}{pos:Pos}
noncomputable def tNext:TS:=λD σ H=>D.nx σ H
noncomputable def zBW(t u:TS):TS:=λD σ H=>t { D with nx:=u D } σ H
theorem qib:PSs X [] tNext:=λ_ _ σ H _ I h=>tG ⟨σ,H,I,h⟩
theorem qG(h1:PS X st t)(h2:PSs X rest u):PSs X (st::rest) (zBW t u):=by
 intro pins s σ H D I h;refine wpAny_execs_cons (thn (h1 pins s σ H { D with nx:=u D } I h) λf s1 q=>?_);cases f with
 | next=>
  obtain⟨σ',H',I',q⟩:=q;exact h2 pins s1 σ' H' D I' q
 | ret v=>exact q
 | brk=>exact q
 | cont=>exact q
theorem q0P(h1:PS X st t):PSs X [st] t:=by
 intro pins s σ H D I h;refine wpAny_execs_cons (thn (h1 pins s σ H D I h) λf s1 q=>?_);cases f with
 | next=>exact tG q
 | ret v=>exact q
 | brk=>exact q
 | cont=>exact q
theorem Inv.quiet{pins:aA}{σ:St}{H:Hp}{s:vC}(I:aq):interactive X.env=false:=by simp[interactive,I.ok.kind]
noncomputable def zBy(te:TE):TS:=λD σ H=>te σ H λ_ H1=>D.nx σ H1
theorem q1G(he:oa)(hs:HV:=by rfl):PS X (.Expr e pos) (zBy te):=by
 intro pins s σ H D I h;exact wpAny_Expr_any (thn i9 λv s1 ⟨x,H1,I1,r1,q1⟩=>⟨σ,H1,I1,q1⟩) I.quiet hs
noncomputable def tRet(te:TE):TS:=λD σ H=>te σ H D.rt
theorem q5G(he:oa):PS X Da (tRet te):=by
 intro pins s σ H D I h;exact wpAny_Return_some (thn i9 λv s1 ⟨x,H1,I1,r1,q1⟩=>⟨x,σ,H1,I1,r1,q1⟩)
noncomputable def tIfS(c:TT)(t u:TS):TS:=λD σ H=>c σ H λb H1=>if b=true then t D σ H1 else u D σ H1
theorem qhq{c:vW}{a b:Cg}{tc:TT}(hc:PT X c tc)(ha:PSs X a t)(hb:PSs X b u):PS X acd (tIfS tc t u):=by
 intro pins s σ H D I h;refine wpAny_If (thn Pw λd s1 ⟨H1,I1,q1⟩=>?_);cases d with
 | true=>exact ha pins s1 σ H1 D I1 q1
 | false=>exact hb pins s1 σ H1 D I1 q1
noncomputable def tNever:TS:=λ_ _ _=>False
theorem qgM:PS X st tNever:=λ_ _ _ _ _ _ h=>h.elim
end
abbrev TG:=V->St->Hp->rT->Prop
abbrev TGs:=List V->St->Hp->rT->Prop
def PG(X:Cx)(target:vW)(t:TG):Prop :=
 ∀(pins:aA)(s:vC)(σ:St)(H:Hp)(v:V)(u:vB)(Q:rT),Inv X pins σ H s->RelV v u->t v σ H Q ->
  vM ao X.A (assign target X.env u) (λ_ s'=>∃σ' H',Inv X pins σ' H' s'/\Q σ' H') X.xe s
def PGs(X:Cx)(ts:iF)(t:TGs):Prop :=
 ∀(pins:aA)(s:vC)(σ:St)(H:Hp)(vs:bt)(us:bx)(Q:rT),Inv X pins σ H s->Xj vs us->t vs σ H Q ->
  vM ao X.A (assignInOrder ((ub ts X.env).map (·.2)) us) (λ_ s'=>∃σ' H',Inv X pins σ' H' s'/\Q σ' H') X.xe s
abbrev TSet:=V->V->V->Hp->abX->Prop
def PSet(X:Cx)(t:TSet):Prop :=
 ∀(pins:aA)(s:vC)(σ:St)(H:Hp)(o i v:V)(ov iv u:vB)(Q:abX),Inv X pins σ H s->RelV o ov->RelV i iv->RelV v u->t o i v H Q ->
  vM ao X.A (setItem ov iv u) (λ_ s'=>∃H',Inv X pins σ H' s'/\Q H') X.xe s
abbrev TIp:=V->V->Hp->VK->Prop
def PIp(X:Cx)(op:sV)(t:TIp):Prop :=
 ∀(pins:aA)(s:vC)(σ:St)(H:Hp)(x y:V)(v u:vB)(Q:VK),Inv X pins σ H s->RelV x v->RelV y u->t x y H Q ->
  vM ao X.A (inplaceOp op v u) cH X.xe s
section
variable{X:Cx}{pos:Pos}
noncomputable def WU(i:Nat):TG:=λv σ H Q=>Q mP H
theorem q4q{i:Nat}{x:Str}(hN:X.N.Nodup)(hi:X.N[i]?=some x)(hx:eO)(hf:aK:=by first|exact .inl rfl|exact .inr rfl|assumption):PG X iq (WU i):=by
 intro pins s σ H v u Q I r h;exact wpAny_assign_Name (q6Q I hN hi hx r (λs' I'=>⟨_,H,I',h⟩) hf)
noncomputable def gNil:TGs:=λvs σ H Q=>vs=[]/\Q σ H
noncomputable def gCons(t:TG)(u:TGs):TGs:=λvs σ H Q=>∃v r,vs=v::r/\t v σ H λσ' H'=>u r σ' H' Q
theorem qbB:PGs X [] gNil:=by
 intro pins s σ H vs us Q I r h;obtain⟨e,h⟩:=h;subst e;cases r;exact assignInOrder_nil ⟨σ,H,I,h⟩
theorem q6e{e:vW}{es:iF}{t:TG}{u:TGs}(h1:PG X e t)(h2:PGs X es u)(hs:(ub jF X.env).map (·.2)=assign e X.env::(ub es X.env).map (·.2):=by rfl):PGs X jF (gCons t u):=by
 intro pins s σ H vs us Q I r h;obtain⟨v,vr,e1,h⟩:=h;subst e1;cases r with
 | cons r rr=>
  rw[hs];refine assignInOrder_cons (thn (h1 pins s σ H _ _ _ I r h) λ_ s1 ⟨σ1,H1,I1,q1⟩=>?_);exact h2 pins s1 σ1 H1 _ _ Q I1 rr q1
noncomputable def gTup(K:zB)(n:Nat)(t:TGs):TG:=λv σ H Q=>∃a xs,v=.ref a/\SqT K H a xs/\xs.length=n/\t xs σ H Q
theorem qeZ{es:iF}{k:Nat}{t:TGs}{n:Nat}(hc:cI)(h:PGs X es t)(hn:Sf:=by rfl)(hst:(ub es X.env).findIdx? (·.1)=none:=by rfl):PG X VZ (gTup X.K n t):=by
 intro pins s σ H v u Q I r hw;obtain⟨a,xs,e1,hq,hl,hw⟩:=hw;subst e1;cases r;obtain⟨its,rv,ht,hz⟩:=I.tuple hq;refine assign_Tuple_tuple fM ht (by simp[hn,<- hl,rv.length]) hst λh' hx=>?_;have I1:Inv X pins σ H { s with heap:=h' }:=I.kept (t':=s.toks) λb o e=>hx b o (zu B2) e;exact h pins _ σ H xs _ Q I1 ⇑rv hw
noncomputable def gSub(to ti:TE)(t:TSet):TG:=λv σ H Q=>to σ H λo H1=>ti σ H1 λi H2=>t o i v H2 λH3=>Q σ H3
theorem qkC{o i:vW}{to ti:TE}{t:TSet}(ho:PE X o to)(hi:PE X i ti)(hs:PSet X t)(ha:∀v,assign E4 X.env v=(do
   let ov <- holding [v] (eval o X.env)
   let iv <- holding [v,ov] (eval i X.env)
   rD pos
   holding Qx Vc
   release Qx []):=by intro _;rfl):PG X E4 (gSub to ti t):=by
 intro pins s σ H v u Q I r h;rw[ha];refine vA (vh (thn iZ λov s1 ⟨x,H1,I1,r1,q1⟩=>?_));refine vA (vh (thn Mo λiv s2 ⟨y,H2,I2,r2,q2⟩=>?_));refine vA (tT (vA (vh (thn (hs pins s2 σ H2 x y v ov iv u _ I2 r1 r2 r q2) λ_ s3 ⟨H3,I3,q3⟩=>?_))));exact wpAny_release ⟨σ,H3,I3,q3⟩
noncomputable def zA6(te:TE)(g:TG):TS:=λD σ H=>te σ H λx H1=>g x σ H1 D.nx
theorem qjx{tg e:vW}{te:TE}{g:TG}(he:oa)(hg:PG X tg g)(hs:swapsWithSole [tg] e pos.line X.env=pure false:=by rfl)(hw:swappedStores [tg] e X.env=pure none:=by rfl)(h1:(ub [tg] X.env).map (·.2)=[assign tg X.env]:=by rfl):PS X (.Assign [tg] e pos) (zA6 te g):=by
 intro pins s σ H D I h;refine wpAny_Assign_stores (thn i9 λv s1 ⟨x,H1,I1,r1,q1⟩=>?_) hs hw;rw[h1];exact thn (hg pins s1 σ H1 x v _ I1 r1 q1) λ_ s2 q=>q
theorem q0g{i:Nat}{x:Str}{e:vW}{te:TE}{pos':Pos}(hN:X.N.Nodup)(hi:X.N[i]?=some x)(hx:eO)(he:oa)(hs:lK:=by rfl)(hf:aK:=by first|exact .inl rfl|exact .inr rfl|assumption):
  PS X E6 (zA6 te (WU i)):=by
 intro pins s σ H D I h;refine wpAny_Assign_Name (thn i9 λv s1 ⟨y,H1,I1,r1,q1⟩=>?_) hs;exact q6Q I1 hN hi hx r1 (λs2 I2=>⟨_,H1,I2,q1⟩) hf
noncomputable def tAug(i:Nat)(te:TE)(ti:TIp):TS:=λD σ H=>∃x,σ[i]?=some (some x)/\te σ H λy H1=>ti x y H1 λz H2=>D.nx (σ.set i (some z)) H2
theorem qjL{i:Nat}{x:Str}{e:vW}{te:TE}{op:sV}{ti:TIp}{pos':Pos}(hN:X.N.Nodup)(hi:X.N[i]?=some x)(hx:eO)(he:oa)(ho:PIp X op ti)(hf:aK:=by first|exact .inl rfl|exact .inr rfl|assumption):
  PS X Ow (tAug i te ti):=by
 intro pins s σ H D I h;obtain⟨v,e1,h⟩:=h;obtain⟨m,hn,hl⟩:=I.loc;have vis:Vis X.env.scope x:=by rcases hx with k|k;exact .inl k;exact .inr (.inl k)
 obtain⟨u,r,l⟩:=hl i x v hi e1 vis;refine wpAny_AugAssign_Name ?_;have go:vM ao X.A Mw (λw s₂=>vM ao X.A (inplaceOp op u w) (λr s₃=>vM ao X.A (storeName X.env x r) (λ_=>SP X pins D .next) X.xe s₃) X.xe s₂) X.xe s:=by
  refine thn i9 λw s1 ⟨y,H1,I1,r1,q1⟩=>?_;refine thn (ho pins s1 σ H1 v y u w _ I1 r r1 q1) λz s2 ⟨zv,H2,I2,r2,q2⟩=>?_;exact q6Q I2 hN hi hx r2 (λs3 I3=>⟨_,H2,I3,q2⟩) hf
 rcases l with⟨hk,hm⟩|⟨hk,c,hc,hcell⟩
 ·exact t6 I.ok.kind hk hn hm go
 ·rcases hk with hk|hk
  ·exact sN I.ok.kind hk hc hcell go
  ·rcases hx with k|k
   ·have:X.env.scope.names.lookup x=some .free:=hk
    rw[k]at this;cases this
   ·have:X.env.scope.names.lookup x=some .free:=hk
    rw[k]at this;cases this
noncomputable def ipI(f:rM):TIp:=λx y H Q=>∃i j,x=.int i/\y=.int j/\Q (.int (f i j)) H
theorem qjs:PIp X .Add (ipI λi j=>i+j):=by
 intro pins s σ H x y v u Q I r1 r2 h;obtain⟨i,j,e1,e2,q⟩:=h;subst e1;subst e2;obtain⟨t,rfl⟩:=r1;obtain⟨t',rfl⟩:=r2;exact iadd_int ⟨.int _,H,iL,bz,q⟩
end
section
variable{X:Cx}{pos:Pos}
noncomputable def zB5(c:TT)(tb:TS):TS:=λD σ H=>∃W:Nat->St->Hp->Prop,(∃m,W m σ H)/\∀m σ H,W m σ H ->
 c σ H λb H1=>if b=true then ∃N:St->Hp->Prop,(∀σ' H',N σ' H'->∃m',m'<m/\W m' σ' H')/\tb { D with nx:=N,ct:=N,bk:=D.nx } σ H1 else D.nx σ H1
theorem q9w{c:vW}{body:Cg}{tc:TT}{tb:TS}(hp:jW)(hc:PT X c tc)(hb:PSs X body tb):PS X P2 (zB5 tc tb):=by
 intro pins s σ H D I h;obtain⟨W,⟨m0,w0⟩,turn⟩:=h;refine wpAny_While (codeAny_whileLoop (λn s'=>∃σ' H',Inv X pins σ' H' s'/\W n σ' H') ?_ m0 ⟨σ,H,I,w0⟩);rintro n s1 ⟨σ1,H1,I1,w1⟩;refine uY hp (thn (hc pins s1 σ1 H1 _ I1 (turn n σ1 H1 w1)) λb s2 ⟨H2,I2,q2⟩=>?_);cases b with
 | true=>
  obtain⟨N,hN,q2⟩:=q2;rw[kT];refine uY hp (thn (hb pins s2 σ1 H2 _ I2 q2) λf s3 q3=>?_);cases f with
  | next=>
   obtain⟨σ3,H3,I3,n3⟩:=q3;obtain⟨m',hm,w3⟩:=hN σ3 H3 n3;exact O8
  | cont=>
   obtain⟨σ3,H3,I3,n3⟩:=q3;obtain⟨m',hm,w3⟩:=hN σ3 H3 n3;exact O8
  | brk=>exact q3
  | ret v=>exact q3
 | false=>
  rw[vJ y0];exact tG ⟨σ1,H2,I2,q2⟩
end
structure It where
 go:Nat->Hp->Prop
 yld:Nat->Hp->V->Hp->Prop
 stop:Nat->Hp->Prop
def Wn(X:Cx)(pins:aA)(H:Hp)(b:vG):Prop :=
 H b=none/\b≠X.env.locals/\b∉X.fs/\iR/\(∀x c,X.env.cells.lookup x=some c->c≠b)/\∀p∈X.pn++pins,p.1≠b
theorem Inv.fpOk{X:Cx}{pins:aA}{σ:St}{H H':Hp}{s:vC}{b:vG}(I:aq)(hb:s.heap.objs.size<=b)(hn:H' b=none):Wn X pins H' b:=by
 refine⟨hn,xo (yA I.lt hb),I.nofs hb,.inr (yP I.sz hb),λx c e z=>?_,λp hp z=>?_⟩
 ·obtain⟨v,q⟩:=I.cell x c e
  exact vP (yA q.lt (by rw[z];exact hb)) HS
 ·exact vP (yA (zM (I.pin p hp).1) (by rw[z];exact hb)) HS
structure Turn (P:vU) (w:vZ) (K:zB) (tg:vW) (J:It) (fp:List vG) (it:vG) (tn:Nat->vm->Prop):Prop where
 mem:it∈fp
 obj:∀i h,tn i h->∀b∈fp,∃o,h.get? b=some o/\∀v,o.data≠.cell v
 keep:∀i h h',tn i h->(∀b∈fp,∀o,h.get? b=some o->h'.get? b=some o)->tn i h'
 item:∀(X:Cx),X.prog=P->X.w=w->X.K=K->X.calm=true->∀(i:Nat)(pins:List (vG×Obj))(s:vC)(σ:St)(H:Hp)(E:vB->vC->Prop),Inv X pins σ H s->(∀b∈fp,Wn X pins H b)->tn i s.heap->J.go i H ->
  vM (model P w) X.A (uK (.ref it)) (λr s1=>∃u,r=some u /\
   vM (model P w) X.A (tH tg (.ref it) u) (λ_ s2=>∃x H',Inv X pins σ H' s2/\RelV x u/\J.yld i H x H'/\tn (i+1) s2.heap/\∀b∈fp,H' b=none) E s1) E s
 done:∀(X:Cx),X.prog=P->X.w=w->X.K=K->X.calm=true->∀(i:Nat)(pins:List (vG×Obj))(s:vC)(σ:St)(H:Hp)(E:vB->vC->Prop),Inv X pins σ H s->(∀b∈fp,Wn X pins H b)->tn i s.heap->J.stop i H ->
  vM (model P w) X.A (uK (.ref it)) (λr s1=>r=none/\Inv X pins σ H s1) E s
 self:∀(A:vf)(i:Nat)(s:vC)(Q:vB->vC->Prop)(E:vB->vC->Prop),tn i s.heap->Q (.ref it) s->vM (model P w) A (sP (.ref it)) Q E s
abbrev TI:=St->Hp->CW->Prop
def PIE(X:Cx)(pins:aA)(σ:St)(tg:vW)(R:CW)(itv:vB)(s2:vC):Prop :=
 ∃(it:vG) (fp:df) (tn:Nat->vm->Prop) (J:It) (H':Hp),itv=.ref it/\Inv X pins σ H' s2/\Turn X.prog X.w X.K tg J fp it tn/\tn 0 s2.heap/\(∀b∈fp,Wn X pins H' b)/\R J H'
def PI(X:Cx)(tg iter:vW)(wi:TI):Prop :=
 ∀(pins:aA)(s:vC)(σ:St)(H:Hp)(R:CW),Inv X pins σ H s->wi σ H R ->
  vM ao X.A (eval iter X.env) (λv s1=>vM ao X.A (sP v) RT X.xe s1) X.xe s
theorem q9b{M:Model}{A:vf}{E:aH}{s:vC}{tg:vW}{it:vG}{u:vB}{o:Obj}{n:String}{vs:cK}{Q:pb}(ho:s.heap.get? it=some o)(hc:o.cls=.type n)(hd:o.data=.fields vs)(hn:["enumerate", "zip", "dict_itemiterator", "dict_reverseitemiterator", "odict_iterator", "itertools.zip_longest", "itertools.pairwise"].contains n=false)(hQ:Q () s):vM M A (tH tg iu u) Q E s:=by
 unfold tH;cases tg <;> first
  | exact vF hQ
  | (cases u <;> first
    | exact vF hQ
    | (refine vA (wpAny_load ho ?_)
       rw[hc,hd];show vM M A (if (["enumerate", "zip", "dict_itemiterator", "dict_reverseitemiterator", "odict_iterator", "itertools.zip_longest", "itertools.pairwise"].contains n&&vs[0]?==some (uE _))=true then _ else _) Q E s;rw[vJ (by intro h;rw[hn,Zt]at h;cases h)];exact vF hQ))
noncomputable def Itl(K:zB)(a:vG):It :=
 ⟨λi H=>∃xs x,SqL K H a xs/\xs[i]?=some x,λi H x H'=>H'=H/\∀xs,SqL K H a xs->xs[i]?=some x,λi H=>∃xs,SqL K H a xs/\xs.length<=i⟩
noncomputable def Itt(K:zB)(a:vG):It :=
 ⟨λi H=>∃xs x,SqT K H a xs/\xs[i]?=some x,λi H x H'=>H'=H/\∀xs,SqT K H a xs->xs[i]?=some x,λi H=>∃xs,SqT K H a xs/\xs.length<=i⟩
noncomputable def Itr(lo:Int)(n:Nat):It:=⟨λi _=>i<n,λi H x H'=>H'=H/\x=.int Cc,λi _=>n<=i⟩
theorem qeq{P:vU}{w:vZ}{K:zB}{tg:vW}(a it:vG):Turn P w K tg abS [it] it (λi h=>h.IsListIter it a i) where
 mem:=by simp
 obj:=λi h st b hb=>by
  have e:b=it:=by simpa using hb
  subst e;obtain⟨o,e,c,d⟩:=st;exact⟨o,e,λv z=>by rw[d]at z;cases z⟩
 keep:=λi h h' st k=>st.at λo e=>k it (by simp) o e
 item:=by
  intro X hP hw hK hc i pins s σ H E I hf st hg;subst hP hw hK;obtain⟨xs,x,hq,hx⟩:=hg;obtain⟨its,rv,p,hz⟩:=I.list hq;obtain⟨u,hu,ru⟩:=rv.get hx;obtain⟨f0,f1,f2,f3,f4,f5⟩:=hf it (by simp);refine wpAny_pyNext_list_item st p.isList (x:=u) ⇑hu λh' st' sb=>?_;have I1:Inv X pins σ H { s with heap:=h' }:=I.turned (t':=s.toks) nM f0 f1 f3 f4 f5;obtain⟨o,e,c,d⟩:=id st';exact⟨u,rfl,q9b (s:={ s with heap:=h' }) e c d (by decide) ⟨x,H,I1,ru,⟨rfl,λys hy=>by rw[I.list_inj hy hq];exact hx⟩,st',Af⟩⟩
 done:=by
  intro X hP hw hK hc i pins s σ H E I hf st hg;subst hP hw hK;obtain⟨xs,hq,hx⟩:=hg;obtain⟨its,rv,p,hz⟩:=I.list hq;obtain⟨f0,f1,f2,f3,f4,f5⟩:=hf it (by simp);have hl:=rv.length;exact wpAny_pyNext_list_end fM st p.isList (by simp;omega) λh' eb=>cu
 self:=λ_ _ _ _ _ st h=>wpAny_pyIter_listiter st h
theorem qdx{P:vU}{w:vZ}{K:zB}{tg:vW}(a it:vG):Turn P w K tg abR [it] it (λi h=>h.IsTupleIter it a i) where
 mem:=by simp
 obj:=λi h st b hb=>by
  have e:b=it:=by simpa using hb
  subst e;obtain⟨o,e,c,d⟩:=st;exact⟨o,e,λv z=>by rw[d]at z;cases z⟩
 keep:=λi h h' st k=>st.at λo e=>k it (by simp) o e
 item:=by
  intro X hP hw hK hc i pins s σ H E I hf st hg;subst hP hw hK;obtain⟨xs,x,hq,hx⟩:=hg;obtain⟨its,rv,p,hz⟩:=I.tuple hq;obtain⟨u,hu,ru⟩:=rv.get hx;obtain⟨f0,f1,f2,f3,f4,f5⟩:=hf it (by simp);refine wpAny_pyNext_tuple_item st (show s.heap.IsTuple a its.toArray from p) (x:=u) ⇑hu λh' st' sb=>?_;have I1:Inv X pins σ H { s with heap:=h' }:=I.turned (t':=s.toks) nM f0 f1 f3 f4 f5;obtain⟨o,e,c,d⟩:=id st';exact⟨u,rfl,q9b (s:={ s with heap:=h' }) e c d (by decide) ⟨x,H,I1,ru,⟨rfl,λys hy=>by rw[I.tuple_inj hy hq];exact hx⟩,st',Af⟩⟩
 done:=by
  intro X hP hw hK hc i pins s σ H E I hf st hg;subst hP hw hK;obtain⟨xs,hq,hx⟩:=hg;obtain⟨its,rv,p,hz⟩:=I.tuple hq;obtain⟨f0,f1,f2,f3,f4,f5⟩:=hf it (by simp);have hl:=rv.length;exact wpAny_pyNext_tuple_end fM st (show s.heap.IsTuple a its.toArray from p) (by simp;omega) λh' eb=>cu
 self:=λ_ _ _ _ _ st h=>wpAny_pyIter_tupleiter st h
theorem qdB{P:vU}{w:vZ}{K:zB}{tg:vW}(it:vG)(lo:Int)(n:Nat):Turn P w K tg (Itr lo n) [it] it (λi h=>IsRangeIter h it (lo+(i:Nat)*1) (cB-(i:Nat)) 1) where
 mem:=by simp
 obj:=λi h st b hb=>by
  have e:b=it:=by simpa using hb
  subst e;exact⟨_,st,λv z=>by
   have z':Data.fields _=Data.cell v:=z;cases z'⟩
 keep:=λi h h' st k=>k it (by simp) _ st
 item:=by
  intro X hP hw hK hc i pins s σ H E I hf st hg;subst hP hw hK;obtain⟨f0,f1,f2,f3,f4,f5⟩:=hf it (by simp);have W:=Walks.range (prog:=X.prog) (w:=X.w) fM it lo 1 n;refine W.item i s _ _ hg st λv h' tk hv st' kk=>?_;obtain⟨t,rfl⟩:=hv;have I1:Inv X pins σ H { s with heap:=h',toks:=tk }:=I.turned (λb o hb e=>kk b o (by simpa using hb) e) f0 f1 f3 f4 f5;refine⟨_,rfl,q9b (s:={ s with heap:=h',toks:=tk }) (n := "range_iterator") st' rfl rfl (by decide) ⟨.int Cc,H,I1,⟨t,?_⟩,cT,st',Af⟩⟩;rw[Yg]
 done:=by
  intro X hP hw hK hc i pins s σ H E I hf st hg;subst hP hw hK;obtain⟨f0,f1,f2,f3,f4,f5⟩:=hf it (by simp);exact wpAny_pyNext_range_end fM st (by have:n<=i:=hg;omega) λh' eb=>cu
 self:=λ_ _ _ _ _ st h=>wpAny_pyIter_rangeiter st h
section
variable{X:Cx}{tg:vW}
noncomputable def iList(K:zB)(tl:TE):TI:=λσ H R=>tl σ H λx H1=>∃a,x=.ref a/\(∃xs,SqL K H1 a xs)/\R abS H1
noncomputable def iTup(K:zB)(tl:TE):TI:=λσ H R=>tl σ H λx H1=>∃a,x=.ref a/\(∃xs,SqT K H1 a xs)/\R abR H1
theorem q7J{l:vW}{tl:TE}(hl:PE X l tl):PI X tg l (iList X.K tl):=by
 intro pins s σ H R I h;refine thn CL λv s1 ⟨x,H1,I1,r1,q1⟩=>?_;obtain⟨a,e,⟨xs,hq⟩,q⟩:=q1;subst e;cases r1;obtain⟨its,rv,p,hz⟩:=I1.list hq;refine uy p.isList ?_;refine⟨s1.heap.objs.size,Hh,_,_,H1,rfl,I1.kept (t':=s1.toks) λb o e=>zG _ e,qeq a _,k7,jM,q⟩;have e:b=s1.heap.objs.size:=by simpa using hb
 subst e;exact I1.fpOk bM oh
theorem qki{l:vW}{tl:TE}(hl:PE X l tl):PI X tg l (iTup X.K tl):=by
 intro pins s σ H R I h;refine thn CL λv s1 ⟨x,H1,I1,r1,q1⟩=>?_;obtain⟨a,e,⟨xs,hq⟩,q⟩:=q1;subst e;cases r1;obtain⟨its,rv,p,hz⟩:=I1.tuple hq;refine sQ (show s1.heap.IsTuple a its.toArray from p) ?_;refine⟨s1.heap.objs.size,Hh,_,_,H1,rfl,I1.kept (t':=s1.toks) λb o e=>zG _ e,qdx a _,k7,jM,q⟩;have e:b=s1.heap.objs.size:=by simpa using hb
 subst e;exact I1.fpOk bM oh
theorem qfR{pins:aA}{σ:St}{H:Hp}{s:vC}{R:CW}{E:aH}{lo hi:Int}{t u v:Tok}{tk:Nat}(I:aq)(h1:-(2^62)<=lo)(h2:lo<2^62)(h3:-(2^62)<=hi)(h4:hi<2^62)(q:R (Itr lo (hi-lo).toNat) H):vM ao X.A (sP aC) RT E { s with heap:=s.heap.push { cls:=.type "range", data:=.fields #[HG,HH,KF] },toks:=tk }:=by
 refine wpAny_pyIter_range (IsRange.new ..) (small_one h1 h2 h3 h4) ?_;have I1:Inv X pins σ H { s with heap:=s.heap.push { cls:=.type "range", data:=.fields #[HG,HH,KF] },toks:=tk }:=I.kept λb o e=>zG _ e;refine⟨(s.heap.push { cls:=.type "range", data:=.fields #[HG,HH,KF] }).objs.size,[(s.heap.push { cls:=.type "range", data:=.fields #[HG,HH,KF] }).objs.size],_,_,H,rfl,
  I1.kept (t':=tk) λb o e=>zG _ e,qdB _ lo (hi-lo).toNat,?_,λb hb=>?_,q⟩
 ·have e1:lo+BP*1=lo:=by simp
  have e2:Nt-BP=Builtin.Range.rangeSize lo hi 1:=by rw[rangeSize_one];split <;> omega
  show IsRangeIter _ _ (lo+BP*1) (Nt-BP) 1;rw[e1,e2];exact zS _ rfl
 ·have e:b=(s.heap.push { cls:=.type "range", data:=.fields #[HG,HH,KF] }).objs.size:=by simpa using hb
  subst e;exact I1.fpOk bM oh
noncomputable def iRng1(ta:TA):TI:=λσ H R=>ta σ H λvs H1=>∃j:Int,vs=[.int j]/\-(2^62)<=j/\j<2^62/\R (Itr 0 j.toNat) H1
theorem qdN{a:vW}{ta:TA}{p pos:Pos}(hg:Gl X "range")(hm:VI)(ha:PA X [a] ta)(hs:BS:=by rfl):PI X tg GA (iRng1 ta):=by
 intro pins s σ H R I h;refine Call_ (q0G I hg hm boot_range (PyProof.Rows.callWith_type1 (thn eR λus s1 ⟨vs,H1,I1,r1,q1⟩=>?_) hs rfl));obtain⟨j,e,q1,q2,q⟩:=q1;subst e;cases r1 with
 | cons r rr=>
  cases rr;obtain⟨t,rfl⟩:=r;exact call_range_1 (qfR I1 ∅ ∅ q1 q2 ⇑q)
noncomputable def tFor(wi:TI)(g:TG)(tb:TS):TS:=λD σ H=>wi σ H λJ H1=>∃W:Nat->Nat->St->Hp->Prop,(∃m,W 0 m σ H1)/\∀i m σ H,W i m σ H ->
 (J.stop i H/\D.nx σ H)\/(J.go i H/\∃N:St->Hp->Prop,(∀σ' H',N σ' H'->∃m',m'<m/\W (i+1) m' σ' H')/\∀x H',J.yld i H x H'->g x σ H' λσ2 H2=>tb { D with nx:=N,ct:=N,bk:=D.nx } σ2 H2)
noncomputable def zAp(fp:df)(h:vm):List re:=fp.filterMap λb=>(h.get? b).map λo=>(b,o)
theorem q2Z{fp:df}{h:vm}{b:vG}{o:Obj}(hb:b∈fp)(e:h.get? b=some o):(b,o)∈zAp fp h:=YA.mpr ⟨b,hb,by rw[e];rfl⟩
theorem qee{fp:df}{h:vm}{p:re}(hp:p∈zAp fp h):p.1∈fp/\h.get? p.1=some p.2:=by
 obtain⟨b,hb,e⟩:=YA.mp hp;cases q:h.get? b with
 | none=>rw[q]at e;cases e
 | some o=>
  rw[q]at e;have e':(b,o)=p:=zy e;subst e';exact⟨hb,q⟩
theorem Inv.pinned{pins:aA}{σ:St}{H:Hp}{s:vC}{fp:df}(I:aq)(hf:∀b∈fp,Wn X pins H b)(ho:∀b∈fp,∃o,s.heap.get? b=some o/\∀v,o.data≠.cell v):Inv X (pins++zAp fp s.heap) σ H s :=
 I.pins_of λp hp=>(zJ.mp hp).elim (λz=>I.pin p (zT _ z)) λz=>by
  obtain⟨hb,e⟩:=qee z;obtain⟨f0,f1,f2,_⟩:=hf p.1 hb;obtain⟨o,e',d⟩:=ho p.1 hb;rw[e]at e';cases e';exact⟨e,f0,f1,f2,d⟩
theorem Inv.unpinned{pins pl:aA}{σ:St}{H:Hp}{s:vC}(I:Inv X (pins++pl) σ H s):Inv X pins σ H s:=I.pins_of λp hp=>I.pin p (zT _ (zX _ hp))
theorem q7j{iter:vW}{body:Cg}{wi:TI}{g:TG}{tb:TS}{pos:Pos}(hp:jW)(hc:cI)(hi:MU)(hg:PG X tg g)(hb:PSs X body tb)(hs:∀x,uC iter X.env x=pure x:=by intro _;rfl):PS X M4 (tFor wi g tb):=by
 intro pins s σ H D I h;refine wpAny_For (thn CM λv s1 h1=>thn h1 λitv s2 h2=>?_) hs;obtain⟨it,fp,tn,J,H2,e,I2,T,st2,f2,W,⟨m0,w0⟩,turn⟩:=h2;subst e;have stat:∀{H':Hp},(∀b∈fp,H' b=none)->∀b∈fp,Wn X pins H' b:=λhn b hb=>⟨hn b hb,(f2 b hb).2⟩;refine codeAny_forLoop_any (λn s'=>∃i σ' H',Inv X pins σ' H' s'/\tn i s'.heap/\(∀b∈fp,H' b=none)/\W i n σ' H') ?_ m0 ⟨0,σ,H2,I2,st2,λb hb=>(f2 b hb).1,w0⟩;rintro n s3 ⟨i,σ3,H3,I3,st3,fr3,w3⟩;rcases turn i n σ3 H3 w3 with⟨stop,qn⟩|⟨go,N,hN,step⟩
 ·refine uY hp (thn (T.done X rfl rfl rfl hc i pins s3 σ3 H3 X.xe I3 (stat fr3) st3 stop) λr s4 ⟨hr,I4⟩=>?_)
  subst hr;exact tG ⟨σ3,H3,I4,qn⟩
 ·refine uY hp (thn (T.item X rfl rfl rfl hc i pins s3 σ3 H3 X.xe I3 (stat fr3) st3 go) λr s4 ⟨u,hr,h4⟩=>?_)
  subst hr;refine uY hp (thn h4 λ_ s5 ⟨x,H5,I5,r5,y5,st5,fr5⟩=>?_);have I5':=I5.pinned TH (T.obj _ _ st5);refine uY hp (thn (hg _ s5 σ3 H5 x u _ I5' r5 (step x H5 y5)) λ_ s6 ⟨σ6,H6,I6,q6⟩=>?_);refine uY hp (thn (hb _ s6 σ6 H6 _ I6 q6) λf s7 q7=>?_);have again:∀{σ7:St}{H7:Hp},Inv X (pins++zAp fp s5.heap) σ7 H7 s7->N σ7 H7->∃m,m<n/\∃i σ' H',Inv X pins σ' H' s7/\tn i s7.heap/\(∀b∈fp,H' b=none)/\W i m σ' H':=λ{σ7 H7} I7 n7=>by
   obtain⟨m',hm,w7⟩:=hN σ7 H7 n7;refine⟨m',hm,i+1,σ7,H7,I7.unpinned,T.keep _ _ _ st5 λb hb o e=>(I7.pin (b,o) NF).1,jM,w7⟩;obtain⟨o,e,d⟩:=T.obj _ _ st5 b hb;exact(I7.pin (b,o) NF).2.1
  cases f with
  | next=>obtain⟨σ7,H7,I7,n7⟩:=q7;exact again I7 n7
  | cont=>obtain⟨σ7,H7,I7,n7⟩:=q7;exact again I7 n7
  | brk=>obtain⟨σ7,H7,I7,q7⟩:=q7;exact⟨σ7,H7,I7.unpinned,q7⟩
  | ret v=>obtain⟨x7,σ7,H7,I7,r7,q7⟩:=q7;exact⟨x7,σ7,H7,I7.unpinned,r7,q7⟩
end
abbrev R2:=V->V->Hp->VK->Prop
def OpR(X:Cx)(f:oZ)(r:R2):Prop :=
 ∀(pins:aA)(s:vC)(σ:St)(H:Hp)(x y:V)(v u:vB)(Q:VK),Inv X pins σ H s->RelV x v->RelV y u->r x y H Q ->
  vM ao X.A (f v u) cH X.xe s
def UnR(X:Cx)(f:vB->Sem vB)(r:MT):Prop :=
 ∀(pins:aA)(s:vC)(σ:St)(H:Hp)(x:V)(v:vB)(Q:VK),Inv X pins σ H s->RelV x v->r x H Q ->
  vM ao X.A (f v) cH X.xe s
def WN(X:Cx)(f:vB)(r:Go):Prop :=
 ∀(pins:aA)(s:vC)(σ:St)(H:Hp)(xs:bt)(us:bx)(Q:VK),Inv X pins σ H s->Xj xs us->r xs H Q ->
  vM ao X.A (call f us) cH X.xe s
def TruR(X:Cx)(r:V->Hp->ji->Prop):Prop :=
 ∀(pins:aA)(s:vC)(σ:St)(H:Hp)(x:V)(v:vB)(Q:ji),Inv X pins σ H s->RelV x v->r x H Q ->
  vM ao X.A TF Cf X.xe s
noncomputable def tOp(r:R2)(ta tb:TE):TE:=λσ H Q=>ta σ H λx H1=>tb σ H1 λy H2=>r x y H2 Q
noncomputable def tUn(r:MT)(ta:TE):TE:=λσ H Q=>ta σ H λx H1=>r x H1 Q
noncomputable def rI(C:Om)(g:LM):R2:=λx y H Q=>∃i j,x=.int i/\y=.int j/\C i j/\Q nC H
noncomputable def rI0(g:LM):R2:=λx y H Q=>∃i j,x=.int i/\y=.int j/\Q nC H
def rU(g:Int->V):V->Hp->VK->Prop:=λx H Q=>∃i,x=.int i/\Q (g i) H
section
variable{X:Cx}{a b c:vW}{ta tb tc:TE}{pos:Pos}
theorem binT(ha:mU)(hb:HB){pins:aA}{s:vC}{σ:St}{H:Hp}{R:V->V->Hp->Prop}(I:aq)(h:ta σ H λx H1=>tb σ H1 λy H2=>R x y H2){Q:aH}{f:oZ}(hf:∀v u s2 x y H2,Inv X pins σ H2 s2->RelV x v->RelV y u->R x y H2->vM ao X.A (f v u) Q X.xe s2):
  vM ao X.A acQ (λv s₁=>vM ao X.A acP (λu s₂=>vM ao X.A (f v u) Q X.xe s₂) X.xe s₁) X.xe s:=by
 refine thn cW λv s1 ⟨x,H1,I1,r1,q1⟩=>?_;refine thn Mr λu s2 ⟨y,H2,I2,r2,q2⟩=>?_;exact hf v u s2 x y H2 I2 r1 r2 q2
theorem ql0{op:sV}{r:R2}(ho:OpR X (uc op) r)(ha:mU)(hb:HB):PE X S8 GJ:=by
 intro pins s σ H Q I h;exact wpAny_BinOp kO
theorem qkG{op:UnaryOp}{r:MT}(ho:UnR X (unaryOp op) r)(ha:mU):PE X (.UnaryOp op a pos) (tUn r ta):=by
 intro pins s σ H Q I h;exact UnaryOp_ (thn cW λv s1 ⟨x,H1,I1,r1,q1⟩=>ho pins s1 σ H1 x v Q I1 r1 q1)
theorem opI{f:oZ}{C:Om}{g:rM}(rule:∀(i j:Int)(t u:Tok)(s:vC)(Q:aH)(E:aH),C i j->Q aa7 { s with toks:=s.toks+1 }->vM ao X.A IS Q E s):
  OpR X f (rI C λi j=>.int nC):=by
 intro pins s σ H x y v u Q I rx ry h;obtain⟨i,j,rfl,rfl,hc,q⟩:=h;obtain⟨t,rfl⟩:=rx;obtain⟨t',rfl⟩:=ry;exact rule i j t t' s _ _ hc P7
theorem opI0{f:oZ}{g:rM}(rule:∀(i j:Int)(t u:Tok)(s:vC)(Q:aH)(E:aH),Q aa7 { s with toks:=s.toks+1 }->vM ao X.A IS Q E s):
  OpR X f (rI0 λi j=>.int nC):=by
 intro pins s σ H x y v u Q I rx ry h;obtain⟨i,j,rfl,rfl,q⟩:=h;obtain⟨t,rfl⟩:=rx;obtain⟨t',rfl⟩:=ry;exact rule i j t t' s _ _ P7
theorem opB0{f:oZ}{g:Bb}(rule:∀(i j:Int)(t u:Tok)(s:vC)(Q:aH)(E:aH),Q (.bool nC) s->vM ao X.A IS Q E s):
  OpR X f (rI0 λi j=>.bl nC):=by
 intro pins s σ H x y v u Q I rx ry h;obtain⟨i,j,rfl,rfl,q⟩:=h;obtain⟨t,rfl⟩:=rx;obtain⟨t',rfl⟩:=ry;exact rule i j t t' s _ _ ⟨.bl nC,H,I,rfl,q⟩
def CDiv(i j:Int):Prop:=0<j/\j<1073741824
def CPow(i j:Int):Prop:=0<=j/\j<=1000000/\i.natAbs<2^64
def CMul(i j:Int):Prop:=(-(2^64)<i/\i<2^64)\/(-(2^64)<j/\j<2^64)
theorem CMul.ok{i j:Int}(h:CMul i j):IntMulOk i j:=by
 rcases h with⟨h1,h2⟩|⟨h1,h2⟩
 ·exact .of_left Qt
 ·exact .of_right Qt
theorem qk0:OpR X JJ (rI0 λi j=>.int (i+j)):=opI0 λ_ _ _ _ _ _ _ q=>add_int q
theorem qkc:OpR X (uc .Sub) (rI0 λi j=>.int (i-j)):=opI0 λ_ _ _ _ _ _ _ q=>sub_int q
theorem qjn:OpR X (uc .Mult) (rI CMul λi j=>.int (i*j)):=opI λ_ _ _ _ _ _ _ hc q=>mul_int q hc.ok
theorem qiF:OpR X (uc .FloorDiv) (rI CDiv λi j=>.int (i/j)):=opI λi j _ _ _ _ _ hc q=>by
 have h1:DC<j:=hc.1;have h2:j<1073741824:=hc.2;exact floordiv_int ∅ (by rw[Int.fdiv_eq_ediv_of_nonneg i ∅];exact q) (.inl (PyProof.noPylong_small ∅))
theorem qkf:OpR X (uc .Mod) (rI (λ_ j=>0<j) λi j=>.int (i%j)):=opI λi j _ _ _ _ _ hc q=>by
 have h1:DC<j:=hc;exact mod_int' ∅ (by rw[Int.fmod_eq_emod_of_nonneg i ∅];exact q)
theorem qkv:OpR X (uc .Pow) (rI CPow λi j=>.int (i^j.toNat)):=opI λ_ _ _ _ _ _ _ hc q=>pow_int_small hc.1 hc.2.1 hc.2.2 q
theorem unI{f:vB->Sem vB}{g:bX}(rule:∀(i:Int)(t:Tok)(s:vC)(Q:aH)(E:aH),Q (.int (g i) s.toks) { s with toks:=s.toks+1 }->vM ao X.A (f rX) Q E s):
  UnR X f (rU λi=>.int (g i)):=by
 intro pins s σ H x v Q I rx h;obtain⟨i,rfl,q⟩:=h;obtain⟨t,rfl⟩:=rx;exact rule i t s _ _ ⟨.int (g i),H,iL,bz,q⟩
theorem qkb:UnR X (unaryOp .USub) (rU λi=>.int (-i)):=unI λ_ _ _ _ _ q=>neg_int q
end
section
variable{X:Cx}{a b c:vW}{ta tb tc:TE}{pos:Pos}
theorem qjz{pins:aA}{σ:St}{H:Hp}{s:vC}{Q:VK}{k k':Bool}(I:aq)(q:Q (.bl k) H)(e:k=k'):EP X pins σ Q (.bool k') s:=by
 subst e;exact⟨.bl k,H,I,rfl,q⟩
theorem qhv:OpR X (uW .Lt) (rI0 λi j=>.bl (decide (i<j))):=opB0 λ_ _ _ _ _ _ _ q=>lt_int q
theorem qkL:OpR X (uW .LtE) (rI0 λi j=>.bl (decide (i<=j))):=opB0 λ_ _ _ _ _ _ _ q=>le_int q
theorem qhK:OpR X (uW .Gt) (rI0 λi j=>.bl (decide (j<i))):=opB0 λ_ _ _ _ _ _ _ q=>gt_int q
theorem qkO:OpR X (uW .GtE) (rI0 λi j=>.bl (decide (j<=i))):=opB0 λ_ _ _ _ _ _ _ q=>ge_int q
theorem qhT:OpR X (uW .IsNot) (λx y H Q=>y=.non/\Q (.bl (!decide (x=.non))) H):=by
 intro pins s σ H x y v u Q I rx ry h;obtain⟨rfl,q⟩:=h;cases ry;refine isnot_none_gen (qjz I q ?_);cases x <;> first
  | (cases rx;rfl)
  | (obtain⟨t,rfl⟩:=rx;rfl)
theorem OpR.or{f:oZ}{r r':R2}(h:OpR X f r)(h':OpR X f r'):OpR X f GX:=by
 intro pins s σ H x y v u Q I rx ry q;rcases q with q|q
 ·exact h pins s σ H x y v u Q I rx ry q
 ·exact h' pins s σ H x y v u Q I rx ry q
theorem WM(b:vW){op:sw}(h:op≠.In:=by decide)(h2:op≠.NotIn:=by decide):uM op b=false:=by
 have e1:acF=false:=by cases op <;> first|rfl|exact vP rfl h
 have e2:Vj=false:=by cases op <;> first|rfl|exact vP rfl h2
 cases b <;> simp[uM,e1,e2]
theorem qi2{op:sw}{r:R2}(ho:Et)(ha:mU)(hb:HB)(hm:B8):PE X jH GJ:=by
 intro pins s σ H Q I h;exact wpAny_Compare1 kO hm
noncomputable def tTest(t:TE):TT:=λσ H Q=>t σ H λx H'=>∃k,x=.bl k/\Q k H'
theorem qiY{op:sw}{r:R2}(ho:Et)(ha:mU)(hb:HB)(hm:B8):PT X jH (tTest GJ):=by
 intro pins s σ H Q I h;refine tt (thn cW λv s1 ⟨x,H1,I1,r1,q1⟩=>thn Mr λu s2 ⟨y,H2,I2,r2,q2⟩=>
  thn (ho pins s2 σ H2 x y v u _ I2 r1 r2 q2) λc s3 ⟨z,H3,I3,r3,k,e,q3⟩=>?_) hm
 subst e;cases r3;exact uO ⟨H3,I3,q3⟩
def TruV(K:zB)(x:V)(H:Hp)(k:Bool):Prop :=
 match x with
 | .non=>k=false
 | .bl b=>k=b
 | .int i=>k=(i != 0)
 | .str y=>y.length<=sizeLine/\k=(acp != 0)
 | .byt y=>y.size<=sizeLine/\k=((y.size:Int) != 0)
 | .ref p=>(∃xs,SqL K H p xs/\k=!xs.isEmpty)\/(∃xs,SqT K H p xs/\k=!xs.isEmpty)\/∃kvs,H p=some ce/\k=!kvs.isEmpty
 | _=>False
theorem qd8{κ:Type}{kvs:gR}{vs:nF}(r:Ba):(!vs.isEmpty)=!kvs.isEmpty:=by
 cases r <;> rfl
theorem q73{xs:bt}{its:bx}(r:Xj xs its):(!its.toArray.isEmpty)=!xs.isEmpty:=by
 cases r <;> simp
theorem W0:acy<2^63:=by rw[vj];decide
theorem qke:TruR X (λx H Q=>∃k,TruV X.K x H k/\Q k H):=by
 intro pins s σ H x v Q I rx h;obtain⟨k,e,q⟩:=h;have hl:=W0;have hs:sizeLine=16777216:=vj;cases x with
 | non=>
  cases rx;have e':k=false:=e;subst e';exact truthy_none Lu
 | bl b=>
  cases rx;have e':k=b:=e;subst e';exact uO Lu
 | int i=>
  obtain⟨t,rfl⟩:=rx;have e':k=(i != 0):=e;subst e';exact PySem.P.truthy_int Lu
 | str y=>
  obtain⟨t,rfl⟩:=rx;obtain⟨hy,e'⟩:y.length<=sizeLine/\k=(acp != 0):=e;subst e';exact PySem.P.truthy_str ∅ ⟨H,iL,q⟩
 | byt y=>
  obtain⟨t,rfl⟩:=rx;obtain⟨hy,e'⟩:y.size<=sizeLine/\k=((y.size:Int) != 0):=e;subst e';exact PySem.W.truthy_bytes ∅ ⟨H,iL,q⟩
 | ref p=>
  cases rx;have e':(∃xs,SqL X.K H p xs/\k=!xs.isEmpty)\/(∃xs,SqT X.K H p xs/\k=!xs.isEmpty)\/∃kvs,H p=some ce/\k=!kvs.isEmpty:=e;rcases e' with⟨xs,hx,e'⟩|⟨xs,hx,e'⟩|⟨kvs,hx,e'⟩
  ·subst e'
   obtain⟨its,r,pl,hz⟩:=I.list hx;have hlen:=r.length;exact wpAny_truthy_list pl.isList (by simp only[zP];omega) ⟨H,I.tok _,by rw[q73 r];exact q⟩
  ·subst e'
   obtain⟨its,r,pl,hz⟩:=I.tuple hx;have hlen:=r.length;exact truthy_tuple pl (by simp only[zP];omega) ⟨H,I.tok _,by rw[q73 r];exact q⟩
  ·subst e'
   obtain⟨hz,hS,vs,r,m⟩:kvs.length<=sizeLine/\(p==uP)=false/\∃vs,KV kvs vs/\s.heap.DictOf nj p vs:=I.hok p _ hx;have hlen:kvs.length=vs.length:=Paired.length r;exact wpAny_truthy_dict hS m ∅ ⟨H,I.tok _,by rw[qd8 r];exact q⟩
 | _=>exact(show False from e).elim
theorem q4I(ha:mU)(he:∀whole,rE a X.env whole=(do let v <- whole;rD a.pos;holding [v] TF)):
  PT X a (λσ H Q=>ta σ H λx H'=>∃k,TruV X.K x H' k/\Q k H'):=by
 intro pins s σ H Q I h;exact isTrue_plain (thn cW λv s1 ⟨x,H1,I1,r1,q1⟩=>qke pins s1 σ H1 x v Q I1 r1 q1) (he _)
theorem vals1{x:V}{us:bx}(r:Xj [x] us):∃u,us=[u]/\RelV x u:=by
 cases r with
 | cons r1 r2=>cases r2;exact Nx
theorem vals2{x y:V}{us:bx}(r:Xj VF us):∃u w',us=[u,w']/\RelV x u/\RelV y w':=by
 cases r with
 | cons r1 r2=>
  cases r2 with
  | cons r3 r4=>cases r4;exact⟨_,_,rfl,r1,r3⟩
theorem q6K:WN X abc (λxs H Q=>∃i,xs=[gU]/\Q (.int (if i<0 then -i else i)) H):=by
 intro pins s σ H xs us Q I r h;obtain⟨i,rfl,q⟩:=h;obtain⟨u,rfl,t,rfl⟩:=vals1 r;exact call_abs_int λu tk=>⟨.int (if i<0 then -i else i),H,iL,bz,q⟩
end
structure ObjM (h:vm) (x dx C:vG) (mA:Str->Option vB):Prop where
 obj:h.get? x=some (Zj C dx)
 ns:h.Ns1 dx mA
 ne:dx≠x
theorem qeK{h:vm}{dx:vG}{mA:bG}(n:h.Ns1 dx mA):∃od,h.get? dx=some od/\∀name,Zu name od=some (mA name):=by
 obtain⟨o,es,ep,ho,hd,hk,_,hm⟩:=n;refine⟨o,ho,λname=>?_⟩;have e:=hm name;unfold nsFind findBy at e;rw[<- Array.find?_toList]at e;unfold Zu;rw[hd]
 dsimp only
 split
 ·rename_i y q
  rw[q]at e;exact v4 some e
 ·rename_i q
  rw[q]at e;have a:es.toList.any (·.refKey)=false:=by
   rw[List.any_eq_false];intro y hy;obtain⟨z,t,hkey⟩:=hk y (Array.mem_toList_iff.mp hy);simp[DictEntry.refKey,hkey]
  have a':¬es.toList.any (·.refKey)=true:=by rw[a];exact y0
  rw[vJ a'];exact v4 some e
theorem ObjM.look{h:vm}{x dx C:vG}{mA:bG}(I:ObjM h x dx C mA):∃od,PySem.W.InstAt h x (Zj C dx) C (some od)/\∀name,Zu name od=some (mA name) :=
 let ⟨od,ho,hl⟩:=qeK I.ns
 ⟨od,⟨I.obj,rfl,rfl,ho⟩,hl⟩
section
variable{prog:vU}{w:vZ}{A:vf}{E:vB->vC->Prop}{s:vC}{K:zB}{x dx C f:vG}{mA:Str->Option vB}{name:Str}{v:vB}
end
theorem zBP.some_of{v:V}{o:AN}(r:zBP nh o):∃u,o=some u/\RelV v u:=by
 cases o with
 | none=>exact(show False from r).elim
 | some u=>exact⟨u,rfl,r⟩
section
variable{P:vU}{w:vZ}{H H':Hp}{h h':vm}{a C dx:vG}{fs fs':List (Str×V)}
theorem qiz(hok:iM)(e:H a=some ac9):∃mA,ObjM h a dx C mA/\(∀f,zBP NY (mA f))/\PySem.Within mA (fs.map (·.1))/\fs.length<=1000/\H dx=some M0:=by
 obtain⟨d,z,ne,ob,mA,n,r,q⟩:=(show Xk P w H h a ac9 from hok a _ e);exact⟨mA,⟨ob,n,ne⟩,r,q,z,d⟩
end
structure Cls (K:zB) (C:vG):Prop where
 pg:YY K C Str.empty=true
 hd:PySem.W.hasDictIn K C=true
 po:PySem.W.plainOver K C=true
 sa:Yq K (.ref C) "__setattr__" = some (some (.builtin "object.__setattr__"))
theorem Cls.get{K:zB}{C:vG}(c:Cls K C)(f:Str):YY K C f=true:=c.pg
section
variable{X:Cx}{pins:List (vG×Obj)}{σ:St}{H:Hp}{s:vC}{a C dx:vG}{fs:List (Str×V)}{f:Str}{v:V}{A:vf}{E:vB->vC->Prop}
end
section
variable{X:Cx}{o e value:vW}{f:Str}{pos pos' tpos:Pos}{ta tv:TE}
end
section
variable{X:Cx}{pins:List (vG×Obj)}{σ:St}{H:Hp}{s:vC}{A:vf}{E:vB->vC->Prop}{Q:vB->vC->Prop}{c:vB}{b:Bool}
inductive TyOf (K:zB) (H:Hp):V->vB->Prop where
 | non:TyOf K H .non (.type "NoneType")
 | bl (x:Bool):TyOf K H (.bl x) (.type "bool")
 | int (i:Int):TyOf K H (.int i) (.type "int")
 | str (x:Str):TyOf K H (.str x) (.type "str")
 | flt (x:UInt64):TyOf K H (.flt x) (.type "float")
 | lst {a:vG} {xs:List V} (e:H a=some (.lst xs)):TyOf K H (.ref a) (.type "list")
 | frz {a:vG} {o:Obj} {xs:List V} (e:H a=some (.frz o (.lst xs))):TyOf K H (.ref a) (.type "list")
 | tup {a:vG} {xs:List V} (e:H a=some (.tup xs)):TyOf K H (.ref a) (.type "tuple")
 | dK {a:vG} {kvs:List (Key×V)} (e:H a=some (.dK kvs)):TyOf K H (.ref a) (.type "dict")
 | dT {a:vG} {kvs:List (List Key×V)} (e:H a=some (.dT kvs)):TyOf K H (.ref a) (.type "dict")
 | ins {a C dx:vG} {fs:List (Str×V)} (e:H a=some (.ins C dx fs)) (cl:Cls K C) (ha:Yq K (.ref C) "__class__" = some (some (.builtin "object.__class__")))
   (hn:PySem.W.specialIn K (.builtin "object.__class__") "__get__" = some (some (.builtin "getset_descriptor.__get__"))) (htk:PySem.W.takesIn K (.builtin "object.__class__")=some true)
   (hm:PySem.W.mroIn K C (.type "object")=some true):TyOf K H (.ref a) (.ref C)
theorem qew{x:V}{u t:vB}(I:aq)(rx:Uy)(ty:TyOf X.K H x t)(e:Zv X.K t c=some b)(h:∀tk,Q (.bool b) { s with toks:=tk }):
  vM ao A (call O5 [u,c]) Q E s:=by
 cases ty with
 | non=>cases (show u=Value.none from rx);exact yu PySem.W.kitx_none I.kIn True.intro e (λz=>nomatch z) h
 | bl y=>cases (show u=Value.bool y from rx);exact yu PySem.W.kitx_bool I.kIn True.intro e (λz=>nomatch z) h
 | int i=>obtain⟨t,q⟩:=(show ∃t,u=Value.int i t from rx);cases q;exact yu PySem.W.kitx_int I.kIn True.intro e (λz=>nomatch z) h
 | str y=>obtain⟨t,q⟩:=(show ∃t,u=Value.str y t from rx);cases q;exact yu PySem.W.kitx_str I.kIn True.intro e (λz=>nomatch z) h
 | flt y=>obtain⟨t,q⟩:=(show ∃t,u=Value.float y t from rx);cases q;exact yu PySem.W.kitx_float I.kIn True.intro e (λz=>nomatch z) h
 | @lst a xs ea=>
  cases (show u=Value.ref a from rx);obtain⟨_,_,n,_,h1⟩:=(show Xk X.prog X.w H s.heap a dQ from I.hok a _ ea);exact yu YH I.kIn ⟨_,h1,rfl⟩ e (λz=>nomatch z) h
 | @frz a ob xs ea=>
  cases (show u=Value.ref a from rx);obtain⟨_,_,_,n,_,h1⟩:=(show Xk X.prog X.w H s.heap a (.frz ob dQ)from I.hok a _ ea);exact yu YH I.kIn ⟨_,h1,rfl⟩ e (λz=>nomatch z) h
 | @tup a xs ea=>
  cases (show u=Value.ref a from rx);obtain⟨_,_,_,p⟩:=(show Xk X.prog X.w H s.heap a nT from I.hok a _ ea);obtain⟨o,h1,h2,_⟩:=p;exact yu PySem.W.kitx_tuple I.kIn ⟨o,h1,h2⟩ e (λz=>nomatch z) h
 | @dK a kvs ea=>
  cases (show u=Value.ref a from rx);obtain⟨_,_,vs,_,p⟩:=(show Xk X.prog X.w H s.heap a ce from I.hok a _ ea);obtain⟨o,es,ep,h1,h2,_⟩:=p;exact yu YI I.kIn ⟨o,h1,h2.1⟩ e (λz=>nomatch z) h
 | @dT a kvs ea=>
  cases (show u=Value.ref a from rx);obtain⟨_,_,xs,_,o,es,ep,h1,h2,_⟩:=(show Xk X.prog X.w H s.heap a AE from I.hok a _ ea);exact yu YI I.kIn ⟨o,h1,h2.1⟩ e (λz=>nomatch z) h
 | @ins a C dx fs ea cl ha hn htk hm=>
  cases (show u=Value.ref a from rx);obtain⟨mA,O,_⟩:=qiz I.hok ea;obtain⟨od,J,_⟩:=O.look;exact yu (PySem.W.kitx_own (cl.get _) cl.hd ha hn htk hm) I.kIn J e (λz=>nomatch z) h
end
structure Room (k:Nat) (A:vf):Prop where
 hd:A.handled=none
 dp:A.depth+3*k+5<recursionLimit
 un:A.units+16*k+200<ur
theorem Room.mono{j k:Nat}{A:vf}(r:Room k A)(h:j<=k):Room j A:=⟨r.hd,by have:=r.dp;omega,by have:=r.un;omega⟩
theorem Room.deeper{k:Nat}{A:vf}(r:Room (k+1) A)(env:Env):Room k (A.deeper env) :=
 ⟨r.hd,by have:=r.dp;show A.depth+1+3*k+5<_;omega,by have:=r.un;show A.units+3+16*k+200<_;omega⟩
theorem Room.in1{k:Nat}{A:vf}(r:Room (k+1) A):Room k A.in1 :=
 ⟨r.hd,by have:=r.dp;show A.depth+3*k+5<_;omega,by have:=r.un;show A.units+1+16*k+200<_;omega⟩
theorem Room.depth{k:Nat}{A:vf}(r:Room k A):A.depth<recursionLimit:=by have:=r.dp;omega
theorem Room.units{k:Nat}{A:vf}(r:Room k A):A.units+64<ur:=by have:=r.un;omega
noncomputable def zAr:TA:=λ_ H Q=>Q [] H
noncomputable def zAD(ta:TE)(tr:TA):TA:=λσ H Q=>ta σ H λx H1=>tr σ H1 λxs H2=>Q NI H2
section
variable{X:Cx}{e:vW}{es:List vW}{te:TE}{t:TA}{pos:Pos}
theorem qy:PA X [] zAr:=λ_ _ _ _ H Q I h=>Calls.spliced_nil GW
theorem qA(ha:oa)(hr:PA X es t)(hs:aP:=by rfl):PA X jF (zAD te t):=by
 intro pos pins s σ H Q I h;rw[hs];show vM _ _ (spliced (dM::vt pos ij)) _ _ s;refine Calls.spliced_cons (thn cW λu s1 ⟨x,H1,I1,r1,q1⟩=>?_);exact thn JS λus s2 ⟨xs,H2,I2,r2,q2⟩=>Jy
noncomputable def tTup(t:TA):TE:=λσ H Q=>t σ H λxs H1=>xs.length<=sizeLine/\∀p,H1 p=none->Q bw (upd H1 p nT)
noncomputable def zC9(t:TA):TE:=λσ H Q=>t σ H λxs H1=>xs.length<=sizeLine/\∀p,H1 p=none->Q bw (upd H1 p dQ)
theorem qjA{x1}(h:PA X es t):PE X UN (tTup t):=by
 intro pins s σ H Q I hq;refine wpAny_Tuple_spliced (thn Ms λus s1 ⟨xs,H1,I1,r,z,q⟩=>⟨by rw[<- r.length];exact z,?_⟩);have hf:H1 s1.heap.objs.size=none:=I1.hok.fresh bM;refine⟨R3,upd H1 s1.heap.objs.size nT,Vm,rfl,q _ hf⟩;exact⟨z,us,r,rj⟩
theorem q3d(h:PA X es t):PE X adb (zC9 t):=by
 intro pins s σ H Q I hq;refine wpAny_List_spliced (thn Ms λus s1 ⟨xs,H1,I1,r,z,q⟩=>⟨by rw[<- r.length];exact z,?_⟩);have hf:H1 s1.heap.objs.size=none:=I1.hok.fresh bM;refine⟨R3,upd H1 s1.heap.objs.size dQ,Vm,rfl,q _ hf⟩;exact⟨z,us,0,r,fF⟩
end
abbrev Sp:=List V->Hp->VK->XK->Prop
abbrev CXT:=List Env->Hp->vC->XK->vB->vC->Prop
structure Env0 (P:vU) (w:vZ) (K:zB) (mg:Str->Option vB) (base:vm) (A:vf) (outer:List Env) (s:vC) (H:Hp):Prop where
 frames:A.frames=some outer
 mod:Mod K mg base
 bs:∀b o,base.get? b=some o->s.heap.get? b=some o/\H b=none
 bsz:base.objs.size<=s.heap.objs.size
 funs:s.heap.FunFrames base outer
 frf:∀b∈frs outer,H b=none
 hok:HOk P w H s.heap
 bare:tP s.gens
def CE(outer:rW)(P:vU)(w:vZ)(H:Hp)(s:vC)(Q:VK)(u:vB)(s':vC):Prop :=
 ∃v H',s'.os=s.os/\tP s'.gens/\Un (frs outer) [] H H' s.heap s'.heap/\HOk P w H' s'.heap/\RelV v u/\Q v H'
def CR(CX:CXT)(outer:rW)(P:vU)(w:vZ)(H:Hp)(s:vC)(Q:VK)(E:XK)(r:sS)(s':vC):Prop :=
 match r with
 | .ok (.ret u)=>CE outer P w H s Q u s'
 | .ok _=>False
 | .error e=>CX outer H s E e s'
structure FnOk (P:vU) (w:vZ) (K:zB) (mg:Str->Option vB) (base:vm) (CX:CXT) (k:Nat) (f:vG) (fd:vQ) (ps:List Str) (sp:Sp):Prop where
 len:∀vs H Q E,sp vs H Q E->vs.length=ps.length
 run:∀(A:vf)(outer:List Env)(s:vC)(H:Hp)(args:Args)(us:List vB)(vs:List V)(Q:VK)(E:XK),Room k A->Env0 P w K mg base A outer s H->sW s fd args (ps.zip us)->Xj vs us->sp vs H Q E ->
  uh (model P w) A (.call (.ref f) args) (CR CX outer P w H s Q E) s
theorem Env0.in1{P:vU}{w:vZ}{K:zB}{mg:bG}{base:vm}{A:vf}{outer:rW}{s:vC}{H:Hp}(e:Lj):
  Env0 P w K mg base A.in1 outer s H:=⟨e.frames,e.mod,e.bs,e.bsz,e.funs,e.frf,e.hok,e.bare⟩
section
variable{X:Cx}{pins:List (vG×Obj)}{σ:St}{H:Hp}{s s':vC}
theorem Inv.env0(I:aq):Env0 X.prog X.w X.K X.mg X.base X.A X.stack s H :=
 ⟨I.ok.frames,I.ok.mod,I.bs,yP I.ok.bsz I.sz,I.stack,I.stkFree,I.hok,I.bare⟩
theorem Inv.after{Q:VK}{u:vB}(I:aq)(h:CE X.stack X.prog X.w H s Q u s'):EP X pins σ Q u s':=by
 obtain⟨v,H',os,bare,un,hok,r,q⟩:=h;obtain⟨hh,g,d,t,os'⟩:=s';obtain rfl:os'=s.os:=os;exact⟨v,H',I.call (h':=hh) (g':=g) (d':=d) (t':=t) (ch:=[]) un hok bare (λb z=>vP z (by simp)),r,q⟩
end
noncomputable def tCall(sp:Sp)(dvs:bt)(E:XK)(t:TA):TE:=λσ H Q=>t σ H λvs H1=>sp OH H1 Q E
def Binds(K:zB)(fd:vQ)(ps:dJ)(ds:bx):Prop :=
 ∀(s:vC)(us:bx),K.In s.heap->(us++ds).length=ps.length->sW s fd BZ (ps.zip (us++ds))
theorem Binds.all{K:zB}{fd:vQ}{ps:dJ}(h:∀us:List vB,us.length=ps.length->bindArgs fd BZ=pure EG):Binds K fd ps []:=λs us _ hl=>by
 rw[zk]at hl ⊢;exact .of_eq (h us hl)
def zBH(CX:CXT)(X:Cx)(E:XK):Prop:=∀(pins:aA)(σ:St)(H:Hp)(s:vC)(e:vB)(s':vC),Inv X pins σ H s->CX X.stack H s E e s'->X.xe e s'
section
variable{X:Cx}{CX:CXT}{k:Nat}{f C:vG}{fd:vQ}{ps:List Str}{sp:Sp}{dvs:List V}{ds:List vB}{E:XK}{x m:Str}{p pos apos:Pos}{e o:vW}{es:List vW}{ta:TE}{t:TA}
theorem qkm{pins:aA}{σ:St}{H:Hp}{s:vC}{Q:VK}{us:bx}{vs:bt}(F:BX)(hr:abP)(hb:aa0)(hd:Xj dvs ds)(hx:aan)(I:aq)(r:Xj vs us)(h:sp OH H Q E):vM ao X.A (call iG us) cH X.xe s:=by
 have r2:Xj OH (us++ds):=r.append hd;have hl:(us++ds).length=ps.length:=by rw[<- r2.length];exact F.len _ _ _ _ h
 refine wpAny_call (um (F.run X.A X.stack s H BZ (us++ds) OH Q E hr I.env0 (hb s us I.kIn hl) r2 h) λr s' hq=>?_);cases r with
 | error e=>exact hx pins σ H s e s' I hq
 | ok fl=>
  cases fl with
  | ret u=>exact I.after hq
  | next=>exact False.elim hq
  | brk=>exact False.elim hq
  | cont=>exact False.elim hq
theorem qcg(F:BX)(hr:abP)(hg:AC)(hm:X.mg x=some iG)(hk:xx X.K iG=true)(hb:aa0)(hd:Xj dvs ds)(hx:aan)(ha:QF)(hdb:aI:=by decide)(he:aP:=by rfl)(hpl:(vt pos ij).any (·.1)=false:=by rfl):
  PE X cL (tCall sp dvs E t):=by
 intro pins s σ H Q I h;refine uI (qcA I hg hm ?_ hdb);refine PySem.W.callWith_K (h₀:=X.base) I.ok.mod.kin hk (thn eR λus s1 ⟨vs,H1,I1,r,q⟩=>⟨I1.kIn,?_⟩) he hpl;exact qkm F hr hb hd hx I1 r q
end
def PK(X:Cx)(kws:List uZ)(t:TA):Prop :=
 ∀(pos:Pos)(pins:aA)(s:vC)(σ:St)(H:Hp)(Q:mK),Inv X pins σ H s->t σ H Q->vM ao X.A (evalAll ((uX pos act).map (·.2))) aa4 X.xe s
section
variable{X:Cx}{CX:CXT}{k:Nat}{f C:vG}{fd:vQ}{ps ks:List Str}{sp:Sp}{E:XK}{x m:Str}{p pos apos kpos:Pos}{e o:vW}{es:List vW}{kws:List uZ}{te ta:TE}{t tk:TA}{nm:Option Str}
theorem qkr:PK X [] zAr:=λ_ _ _ _ H Q I h=>wpAny_evalAll_nil GW
theorem qi9(ha:oa)(hr:PK X kws t):PK X (⟨nm,e,kpos⟩::kws) (zAD te t):=by
 intro pos pins s σ H Q I h;show vM _ _ (evalAll ((do let v <- eval e X.env;rD pos;pure v)::(uX pos act).map (·.2))) _ _ s;refine wpAny_evalAll_cons (vA (thn cW λu s1 ⟨x,H1,I1,r1,q1⟩=>vA (tT eP)));exact thn JS λus s2 ⟨xs,H2,I2,r2,q2⟩=>Jy
variable{g:List vB->List vB->List vB}{gV:List V->List V->List V}
end
structure FnScope (N P:List Str) (sc:u5):Prop where
 kind:sc.kind=.function
 co:sc.isCoroutine=false
 gen:sc.isGenerator=false
 nd:N.Nodup
 pre:N.take P.length=P
 par:∀x∈P,sc.names.lookup x=some .local\/sc.names.lookup x=some .cell
 nofree:∀y∈sc.names,y.2≠.free
theorem q8b{kindOf:Gj}{x:Str}:∀{binds:List O0}{m:bG},(∀v,(x,v)∉binds)->bindL kindOf binds m x=m x
 | [],_,_=>rfl
 | (n,v)::r,m,h=>by
  unfold bindL;rw[q8b λw hw=>h w (zH _ hw)]
  split
  ·have:x≠n:=by rintro rfl;exact h v zE
   simp[this]
  ·rfl
theorem q8u{kindOf:Gj}{x:Str}:∀{binds:List O0}{m:bG},(∀v,(x,v)∉binds)->bindC kindOf binds m x=m x
 | [],_,_=>rfl
 | (n,v)::r,m,h=>by
  unfold bindC;rw[q8u λw hw=>h w (zH _ hw)]
  split
  ·rfl
  ·have:x≠n:=by rintro rfl;exact h v zE
   simp[this]
theorem q8N{kindOf:Gj}{x:Str}{v:vB}:∀{P:dJ}{vs:bx}{i:Nat}{m:bG},P.Nodup->P[i]?=some x->vs[i]?=some v->kindOf x=some .local ->
  bindL kindOf (P.zip vs) m x=some v
 | [],_,_,_,_,h,_,_=>by simp at h
 | _::_,[],_,_,_,_,h,_=>by simp at h
 | p::P,w::vs,0,m,nd,h1,h2,hk=>by
  simp at h1 h2;subst h1;subst h2;show bindL kindOf Bp m p=_;unfold bindL;rw[q8b λv hv=>(yj.mp nd).1 (Zk hv).1,vH hk];simp
 | p::P,w::vs,i+1,m,nd,h1,h2,hk=>by
  show bindL kindOf Bp m x=_;unfold bindL;exact q8N (i:=i) (yj.mp nd).2 ⇑h1 ⇑h2 hk
theorem q8l{kindOf:Gj}{x:Str}{v:vB}:∀{P:dJ}{vs:bx}{i:Nat}{m:bG},P.Nodup->P[i]?=some x->vs[i]?=some v->kindOf x≠some .local ->
  bindC kindOf (P.zip vs) m x=some v
 | [],_,_,_,_,h,_,_=>by simp at h
 | _::_,[],_,_,_,_,h,_=>by simp at h
 | p::P,w::vs,0,m,nd,h1,h2,hk=>by
  simp at h1 h2;subst h1;subst h2;show bindC kindOf Bp m p=_;unfold bindC;rw[q8u λv hv=>(yj.mp nd).1 (Zk hv).1,vJ hk];simp
 | p::P,w::vs,i+1,m,nd,h1,h2,hk=>by
  show bindC kindOf Bp m x=_;unfold bindC;exact q8l (i:=i) (yj.mp nd).2 ⇑h1 ⇑h2 hk
noncomputable def start(N:dJ)(vs:bt):St:=vs.map some++zt (N.length-vs.length) none
noncomputable def zB8(CX:CXT)(P:vU)(w:vZ)(K:zB)(mg:bG)(base:vm)(N:dJ)(qual:Str)(scope:u5)(f:vG)(cd:vB)(A:vf)(outer:rW)(s:vC)(H:Hp)(E:XK):Cx where
 prog:=P
 w:=w
 K:=K
 mg:=mg
 base:=base
 A:=A.deeper mj
 N:=N
 s₀:=s
 H₀:=H
 env:=t7 qual scope s.heap.objs.size f cd
 outer:=outer
 stack:=t7 qual scope s.heap.objs.size f cd::outer
 ex:=[]
 calm:=true
 fn:=λ_=>true
 pn:=[]
 xe:=λe s'=>vM Rt (A.deeper mj) (leaving mj e) (λ_ s''=>CX outer H s E e s'') (λe' s''=>CX outer H s E e' s'') s'
theorem qad{sc:u5}{n:Nat}{x:Str}(h:sc.names.lookup x=some .cell):∃c,(cellsFrom n sc.names []).lookup x=some c:=by
 have q:=Za sc.names n [] (.inl h);exact yy.mp q
theorem qf8{CX:CXT}{P:vU}{w:vZ}{K:zB}{mg:bG}{base:vm}{N ps:dJ}{qual:Str}{scope:u5}{f:vG}{cd:vB}{A:vf}{outer:rW}{s s1:vC}{H:Hp}{E:XK}{us:bx}{vs:bt}(S:aaY)(hd:bU)(e0:Lj)(hl:vs.length=ps.length)(r:Xj vs us)(x:InCallC s s.heap.objs.size (bindL (t7 qual scope s.heap.objs.size f cd).kindOf EG λ_=>none) (cellsFrom iz scope.names []) (bindC (t7 qual scope s.heap.objs.size f cd).kindOf EG λ_=>none) s1):
  Inv (zB8 CX P w K mg base N qual scope f cd A outer s H E) [] CG H s1:=by
 have hpl:ps.length<=N.length:=by have:=v4 xf S.pre;rw[ze]at this;omega
 obtain⟨h1,tk,rfl,hk⟩:=x.done;have noA:∀b:vG,b∉(zB8 CX P w K mg base N qual scope f cd A outer s H E).ex:=λb z=>vP (show b∈PD from z) (by simp);refine⟨⟨e0.mod,S.kind,rfl,rfl,bM,λy z c h1 h2=>?_,AH,λy c _ h=>?_,λ_=>hd,Around.frames_deeper e0.frames,.inr cT,UV,e0.bs,e0.bsz,λb _ _=>noA b,UV,e0.funs,e0.frf⟩,
  rfl,e0.bare,Un.kept hk,⟨_,x.toInCall.ns,λi y v h1 h2 h3=>?_⟩,λy c h=>⟨_,x.cell y c h⟩,e0.hok.fresh bM,λy c h=>?_,λp hp=>vP (show p∈PF from hp) (by simp),e0.hok.kept hk,?_⟩
 ·exact name_of_addr x.apart (PySem.mem_of_lookup h1) (PySem.mem_of_lookup h2)
 ·have hy:scope.names.lookup y=some .cell\/scope.names.lookup y=some .free:=hy
  rcases hy with hy|hy
  ·exact qad hy
  ·exact vP rfl (S.nofree _ (PySem.mem_of_lookup hy))
 ·exact yi Fc
 ·have hi:i<vs.length:=by
   unfold start at h2
   by_cases hi:i<vs.length
   ·exact hi
   ·rw[zb ⇑hi]at h2
    rw[y9]at h2
    split at h2 <;> cases h2
  have ha:vs[i]?=some v:=by
   unfold start at h2;rw[zg ⇑hi,zZ]at h2;cases e:vs[i]? with
   | none=>rw[e]at h2;cases h2
   | some a=>rw[e]at h2;cases h2;rfl
  obtain⟨u,hu,rv⟩:=r.get ha;have hp:ps[i]?=some y:=by
   rw[<- S.pre,wK ∅];exact h1
  have ndP:ps.Nodup:=by rw[<- S.pre];exact S.nd.sublist (ZJ _ _)
  refine⟨u,rv,?_⟩;rcases S.par y (yK hp)with k|k
  ·exact .inl ⟨k,q8N ndP hp hu k⟩
  ·obtain⟨c,e⟩:=qad (n:=s.heap.objs.size+1) k
   refine .inr ⟨.inl k,c,e,?_⟩;have q:=x.cell y c e;rw[q8l ndP hp hu (by show scope.names.lookup y≠_;rw[k];decide)]at q;exact q
 ·exact e0.hok.fresh (yi Fc)
 ·unfold start
  show _=N.length;rw[zC,zA,ya];omega
theorem qkY{CX:CXT}{P:vU}{w:vZ}{K:zB}{mg:bG}{base:vm}{k:Nat}{f:vG}{name qual:Str}{params:Arguments}{body:Cg}{scope:u5}{dV kV doc pm cdv ct oc:vB}{an od:HC}{osl:UK}{N ps:dJ}{sp:Sp}(lk:K.lookup f=some ⟨oc,od,.func p8,osl⟩)(hcd:aau)(S:aaY)(len:∀vs H Q E,sp vs H Q E->vs.length=ps.length)(hbody:∀(A:vf)(outer:rW)(s:vC)(H:Hp)(vs:bt)(Q:VK)(E:XK),Room k (A.deeper (t7 qual scope s.heap.objs.size f cdv))->sp vs H Q E ->
   ∃t,PSs iD body t/\t { nx:=λ_ H'=>Q .non H',rt:=Q } CG H) :
  FnOk P w K mg base CX (k+1) f p8 ps sp:=by
 refine⟨len,λA outer s H args us vs Q E hr e0 hb r hsp=>?_⟩;have hl:=len _ _ _ _ hsp;have KX:K.In s.heap:=e0.mod.kin.keeps λb o e=>(e0.bs b o e).1;have lim:s.heap.NoLimit:=e0.mod.nolimit.keeps λb o e=>(e0.bs b o e).1;have hkind:∀y∈ps.zip us,scope.names.lookup y.1=some .local\/(scope.names.lookup y.1=some .cell/\((cellsFrom iz scope.names []).lookup y.1).isSome=true):=λ⟨n,v⟩ hy=>by
  rcases S.par n (Zk hy).1 with q|q
  ·exact .inl q
  ·exact .inr ⟨q,Za _ _ _ (.inl q)⟩
 refine codeAny_call_function hr.depth (KX _ _ lk) rfl S.co S.gen rfl (PySem.W.codeRec_of KX hcd) (hb _ _ _ _ ?_);refine wpAny_newFunctionEnv_cells S.kind hkind λenv he s1 x=>?_;subst he;refine⟨lim.keeps x.toInCall.keep,codeAny_func ?_⟩;obtain⟨t,ht,hq⟩:=hbody A outer s H vs Q E (hr.deeper _) hsp;have I:Inv iD [] CG H s1:=qf8 S hr.hd e0 hl r x;refine vz (ht [] s1 CG H _ I hq) (λfl s' hs=>?_) λe s' hs=>hs;have fin:∀{σ':St}{H':Hp}{v:V}{u:vB},Inv iD [] σ' H' s'->RelV v u->Q v H'->CE outer P w H s Q u s' :=
  λ{σ' H' v u} J rv q=>⟨v,H',J.os,J.bare,J.base,J.hok,rv,q⟩
 cases fl with
 | ret u=>
  obtain⟨v,σ',H',J,rv,q⟩:=hs;exact fin J rv q
 | next=>
  obtain⟨σ',H',J,q⟩:=hs;exact fin (v:=V.non) (u:=Value.none) J rfl q
 | brk=>
  obtain⟨_,_,_,q⟩:=hs;exact False.elim q
 | cont=>
  obtain⟨_,_,_,q⟩:=hs;exact False.elim q
section
variable{X:Cx}{x:Str}{p pos:Pos}{e:vW}{es:List vW}{t:TA}{id T:String}{r:List V->Hp->VK->Prop}
noncomputable def tCB(r:Go)(t:TA):TE:=λσ H Q=>t σ H λvs H1=>r vs H1 Q
theorem q2q(hc:WN X jd r)(hg:AC)(hm:rS)(hv:vn x=some jd)(ha:QF)(hn:jU:= by decide)(hdb:aI:=by decide)(he:aP:=by rfl)(hpl:(vt pos ij).any (·.1)=false:=by rfl):PE X cL abm:=by
 intro pins s σ H Q I h;refine uI Mi;exact PyProof.Rows.callWith_builtin1 (thn eR λus s1 ⟨vs,H1,I1,r1,q1⟩=>hc pins s1 σ H1 vs us Q I1 r1 q1) he hpl
theorem q8M(hc:WN X AD r)(hg:AC)(hm:rS)(hv:vn x=some AD)(ha:QF)(hn:jU:= by decide)(hdb:aI:=by decide)(he:aP:=by rfl)(hpl:(vt pos ij).any (·.1)=false:=by rfl):PE X cL abm:=by
 intro pins s σ H Q I h;refine uI Mi;exact PyProof.Rows.callWith_type1 (thn eR λus s1 ⟨vs,H1,I1,r1,q1⟩=>hc pins s1 σ H1 vs us Q I1 r1 q1) he hpl
end
end L2
namespace HT
open PySem PyProof.Rows
section
open PySem.SeqAt
open PySem.AutoSeq1 (wpAny_loadPart')
open PySem.MeetsSeq PySem.MeetsSeq2 PySem.MeetsSeq3
end
section
variable{prog:vU}{w:vZ}{A:vf}{E:vB->vC->Prop}{s:vC}
theorem qj6{t b:vG}{vs ws:bx}{Q:aH}(ht:IsTup s.heap t vs.toArray)(hb:IsTup s.heap b ws.toArray)(hv:vs≠[])(h1:ws=[]->Q jz s)(h2:ws≠[]->Q aC { s with heap:=s.heap.push { cls:=.type "tuple", data:=.seq (vs++ws).toArray } })(hsz:vs.length+ws.length<=sizeLine):vM aj A (uc .Add jz Cv) Q E s:=by
 obtain⟨⟨cls,dd,data,sl⟩,ho,hc,n,hd⟩:=id ht;obtain⟨⟨cls2,dd2,data2,sl2⟩,ho2,hc2,n2,hd2⟩:=id hb;simp only at hc hd hc2 hd2;subst hc hd hc2 hd2;have e:vs.toArray++ws.toArray=(vs++ws).toArray:=by simp
 by_cases hw:ws=[]
 ·exact concat_meets Nz LV noFill_tuple_add seq_tuple_add PySem.F.slot_tuple_add PySem.F.entry_tuple_add pD
   (tuple_addW1 t b vs.toArray ws.toArray n n2 dd dd2 sl sl2 ⇑hv (by simp[hw])) ⟨ho,ho2,h1 hw⟩
 ·refine concat_meets Nz LV noFill_tuple_add seq_tuple_add PySem.F.slot_tuple_add PySem.F.entry_tuple_add pD
   (tuple_addW2 t b vs.toArray ws.toArray n n2 dd dd2 sl sl2 ⇑hv ⇑hw (by rw[zP,zP];exact hsz)) ⟨ho,ho2,?_⟩
  rw[e];exact h2 hw
noncomputable def sIx(n d:Nat):Option Int->Nat
 | none=>d
 | some v=>if v<0 then (v+cB).toNat else min v.toNat n
theorem q4H(n d:Nat):sIx n d none=d:=rfl
theorem q32(n d k:Nat):sIx n d (some jE)=min k n:=by
 show (if jE<0 then (jE+cB).toNat else min (k:Int).toNat n)=min k n;rw[ik,yr]
theorem qjC(n d:Nat)(hd:d<=n)(o:dX):sIx n d o<=n:=by
 cases o with
 | none=>exact hd
 | some v=>
  show (if v<0 then (v+cB).toNat else min v.toNat n)<=n
  by_cases hv:v<0
  ·rw[vH hv];omega
  ·rw[vJ hv];exact YZ _ _
theorem qcb(v:Int)(n d:Nat):(if v<0 then max (v+cB) 0 else min v cB)=((sIx n d nh:Nat):Int):=by
 show (if v<0 then max (v+cB) 0 else min v cB)=(((if v<0 then (v+cB).toNat else min v.toNat n):Nat):Int)
 by_cases hv:v<0
 ·simp only[vH hv];omega
 ·simp only[vJ hv];omega
theorem qdv(lo hi:dX)(n:Nat):Builtin.Slice.sliceAdjust lo hi 1 cB=(om,P5):=by
 have h1:¬(Ap<0):=∅
 unfold Builtin.Slice.sliceAdjust;simp only[h1,if_false];refine Prod.ext ?_ ?_
 ·cases lo with
  | none=>rfl
  | some v=>exact qcb v n 0
 ·cases hi with
  | none=>rfl
  | some v=>exact qcb v n n
theorem qcU(i j:Nat):Builtin.Slice.slicePlaces rh BC 1=j-i:=by
 unfold Builtin.Slice.slicePlaces;have h1:Ap>0:=∅
 simp only[h1,if_true,Int.ediv_one]
 split <;> omega
theorem q7d{v:vB}{o:dX}{Q:Option Int->vC->Prop}(p:tf v o)(h:Q o s):vM aj A (Builtin.Slice.slicePartIndex v) Q E s:=by
 cases p with
 | none=>exact slicePart_none h
 | int i t=>exact slicePart_int h
theorem q37{sl:vG}{vl vu:vB}{lo hi:dX}{n:Nat}{Q:Int×Int×Nat->vC->Prop}(hs:pz)(pl:tf vl lo)(pu:tf vu hi)(h:Q (om,1,sIx n n hi-sIx n 0 lo) s):vM aj A (Builtin.Slice.sliceApplied Gv (pure cB)) Q E s:=by
 obtain⟨os,hos,hcs,hds⟩:=id hs;unfold Builtin.Slice.sliceApplied Builtin.Slice.sliceFields;refine vA (vA (v5 hos hds (x:=vl) rfl (vA (v5 hos hds (x:=vu) rfl (vA (v5 hos hds (x:=.none) rfl eP))))));refine vA (slicePart_none ?_);show vM _ _ (if (Ap==0)=true then _ else _) _ _ s;rw[vJ (by decide)];refine vA (q7d pl (vA (q7d pu (vA eP))));show vM _ _ (match Builtin.Slice.sliceAdjust lo hi 1 cB with|(lo,hi)=>pure (lo,Ap,Builtin.Slice.slicePlaces lo hi 1)) _ _ s;rw[qdv lo hi n];show vM _ _ (pure (om,Ap,Builtin.Slice.slicePlaces om P5 1)) _ _ s;rw[qcU];exact vF h
theorem qgt(xs:cK)(i k:Nat):((zo k).filterMap λ(m:Nat)=>xs[(rh+ib*1).toNat]?).toArray=((xs.toList.drop i).take k).toArray:=by
 have e:(λ(m:Nat)=>xs[(rh+ib*1).toNat]?)=λm=>xs[i+m]?:=by
  funext m
  have:(rh+ib*1).toNat=i+m:=∅
  rw[this]
 rw[e];have:=pick_run xs i k;rw[YB]at this;have e2:((λx=>xs[x]?) ∘ λx=>i+x)=λm=>xs[i+m]?:=rfl;rw[e2]at this;rw[this]
theorem q64{t sl:vG}{items:cK}{vl vu:vB}{lo hi:dX}{Q:aH}(ht:UC)(hs:pz)(pl:tf vl lo)(pu:tf vu hi)(hw:¬(sIx items.size 0 lo=0/\sIx items.size items.size hi=items.size))(h:Q aC { s with heap:=s.heap.push { cls:=.type "tuple", data:=.seq ((items.toList.drop DK).take cJ).toArray } })(hsz:FU):vM aj A (tK jz Gv) Q E s:=by
 have htake:sizeOk (.seq ((items.toList.drop DK).take cJ).toArray):=by
  show ((items.toList.drop DK).take cJ).toArray.size<=sizeLine;rw[zP,ze,yM,zK];omega
 have hj:sIx items.size items.size hi<=items.size:=qjC _ _ bM hi;obtain⟨os,hos,hcs,hds⟩:=id hs;have hTs:s.TypeIs Gv "slice" := ach;unfold tK
 try with_reducible refine vh ?_
 first|refine vA eP|skip
 refine vA (wpAny_sequenceKey ht.typeIs (by decide) ?_);refine vA (wpAny_callSpecial?_slot (name:=Str.ofString "__getitem__") ht.typeIs PyProof.Rows.slot_tuple_getitem
  lu)
 show vM _ _ (Builtin.Tuple.tupleItemsOf jz >>= _) _ _ s;refine vA Qg;refine vA (uo hTs ?_);rw[vH (by decide)];refine vA (q37 hs pl pu ?_);have hno:¬(nV=true):=by
  intro q;rw[yN,yN]at q;have q1:oV=0:=eq_of_beq q.1.1;have q2:sIx items.size items.size hi-sIx items.size 0 lo=items.size:=eq_of_beq q.2;exact hw ⟨∅,∅⟩
 show vM _ _ (if nV=true then _ else _) _ _ s;rw[vJ hno,qgt]
 first
  | exact vA (m:=Builtin.Tuple.tupleExact _) (vq oY htake)
  | exact vA (m:=Builtin.Tuple.tupleExact _) (vq (vA (vF oY)) htake)
  | exact vA (vA (m:=Builtin.Tuple.tupleExact _) (vq (vF oY) htake))
  | exact vA (vA (m:=Builtin.Tuple.tupleExact _) (vq oY htake))
end
end HT
namespace L2
open PySem PySem.Spec PyProof.Rows
abbrev TO:=St->Hp->EX->Prop
def PO(X:Cx)(e:DP)(t:TO):Prop :=
 ∀(pins:aA)(s:vC)(σ:St)(H:Hp)(Q:EX),Inv X pins σ H s->t σ H Q ->
  vM ao X.A (evalPart e X.env) (λu s'=>∃o H',Inv X pins σ H' s'/\tf u o/\Q o H') X.xe s
noncomputable def zCl:TO:=λ_ H Q=>Q none H
noncomputable def tPart(t:TE):TO:=λσ H Q=>t σ H λx H1=>∃i,x=.int i/\Q TJ H1
theorem q1c{ns:af}:∀{us:bx},Xj ca us->uH us ns:=by
 induction ns with
 | nil=>intro us r;rw[yz]at r;cases r;exact .nil
 | cons n ns ih=>
  intro us r;rw[zU]at r;cases r with
  | cons r1 r2=>
   obtain⟨t,e⟩:=r1;subst e;exact .cons n t (ih r2)
section
variable{X:Cx}{e:vW}{te:TE}{lo hi:Option vW}{tl th:TO}{pos p2:Pos}
theorem qj3:PO X none zCl:=by
 intro pins s σ H Q I h;rw[evalPart_none];exact vF ⟨none,H,I,.none,h⟩
theorem qhQ(h:oa):PO X (some e) (tPart te):=by
 intro pins s σ H Q I hw;rw[evalPart_some];refine thn Px λu s1 ⟨x,H1,I1,r1,q1⟩=>?_;obtain⟨i,rfl,q⟩:=q1;obtain⟨t,rfl⟩:=r1;exact⟨TJ,H1,I1,rX,q⟩
def SlR(X:Cx)(r:im):Prop :=
 ∀(pins:aA)(s:vC)(σ:St)(H:Hp)(x:V)(v vl vu:vB)(lo hi:dX)(sl:vG)(Q:VK),Inv X pins σ H s->RelV x v->s.heap.IsSliceOf sl vl vu .none->tf vl lo->tf vu hi->r x lo hi H Q ->
  ∃T id,u6 AD "__getitem__" = pure (some jd)/\s.TypeIs v T/\vM ao X.A (tK v Gv) cH X.xe s
theorem SlR.or{r r':im}(h:SlR X r)(h':SlR X r'):SlR X (λx lo hi H Q=>r x lo hi H Q\/r' x lo hi H Q):=by
 intro pins s σ H x v vl vu lo hi sl Q I rx hs pl pu q;rcases q with q|q
 ·exact h pins s σ H x v vl vu lo hi sl Q I rx hs pl pu q
 ·exact h' pins s σ H x v vl vu lo hi sl Q I rx hs pl pu q
noncomputable def tSl(r:im)(te:TE)(tl th:TO):TE:=λσ H Q=>te σ H λx H1=>tl σ H1 λl H2=>th σ H2 λu H3=>r x l u H3 Q
theorem qfH{r:im}(hr:SlR X r)(he:oa)(hl:PO X lo tl)(hu:PO X hi th):PE X (.Subscript e CZ pos) (tSl r te tl th):=by
 intro pins s σ H Q I h;refine Subscript_ (thn i9 λv s1 ⟨x,H1,I1,r1,q1⟩=>?_);refine wpAny_Slice (thn (hl pins s1 σ H1 _ I1 q1) λvl s2 ⟨l,H2,I2,pl,q2⟩=>thn (hu pins s2 σ H2 _ I2 q2) λvu s3 ⟨u,H3,I3,pu,q3⟩=>?_);rw[evalPart_none];refine vF ?_;have I4:Inv X pins σ H3 { s3 with heap:=s3.heap.push { cls:=.type "slice", data:=.fields #[vl,vu,.none] } }:=I3.kept (t':=s3.toks) λb ob q=>zG _ q;obtain⟨T,id,hT,ht,hg⟩:=hr pins { s3 with heap:=s3.heap.push { cls:=.type "slice", data:=.fields #[vl,vu,.none] } } σ H3 x v vl vu l u s3.heap.objs.size Q I4 r1 (Y3 ..) pl pu q3;show vM ao X.A (sO e CZ v PX) cH X.xe { s3 with heap:=s3.heap.push { cls:=.type "slice", data:=.fields #[vl,vu,.none] } };exact tail_any (ops:=[PX,v]) ht hT hg (by with_unfolding_all rfl)
noncomputable def zBz(xs:bt)(lo hi:dX):List V:=(xs.drop nG).take dZ
theorem q67(xs:bt)(lo hi:dX):(zBz xs lo hi).length<=xs.length:=by
 unfold zBz;rw[ze,yM];omega
def rSlT(K:zB):V->Option Int->Option Int->Hp->VK->Prop:=λx lo hi H Q=>∃a xs,x=.ref a/\SqT K H a xs /\
 ¬nw/\∀p,H p=none->Q bw (upd H p (.tup Ew))
theorem qjW:SlR X (rSlT X.K):=by
 intro pins s σ H x v vl vu lo hi sl Q I rx hs pl pu h;obtain⟨a,xs,rfl,hx,hw,q⟩:=h;cases rx;obtain⟨its,r,ht,hz⟩:=I.tuple hx;have hlen:its.toArray.size=xs.length:=by rw[zP];exact r.length.symm
 refine ng;refine HT.q64 ht hs pl pu (by rw[hlen];exact hw) ?_ (by rw[hlen];exact hz);rw[hlen];refine⟨aC,_,I.laid (t':=s.toks) (o:=.tup Ew) GZ bM ?_,rfl,q _ mL⟩;exact⟨Tt,_,V7,IsTup.new _ _⟩
noncomputable def rCatT(K:zB):R2:=λx y H Q=>∃a b xs ys,x=.ref a/\y=.ref b/\SqT K H a xs/\SqT K H b ys/\xs≠[]/\xs.length+ys.length<=sizeLine /\
 (ys=[]->Q dq H)/\(ys≠[]->∀p,H p=none->Q bw (upd H p (.tup LZ)))
theorem Xj.nil_iff{xs:bt}{us:bx}(r:Ob):us=[]↔xs=[]:=by
 cases r with
 | nil=>simp
 | cons _ _=>simp
theorem qil:OpR X JJ (rCatT X.K):=by
 intro pins s σ H x y v u Q I rx ry h;obtain⟨a,b,xs,ys,rfl,rfl,ha,hb,hx,hz,q1,q2⟩:=h;cases rx;cases ry;obtain⟨its,r1,p1,_⟩:=I.tuple ha;obtain⟨its2,r2,p2,_⟩:=I.tuple hb;refine HT.qj6 p1 p2 (λz=>hx (r1.nil_iff.mp z)) (λz=>⟨dq,H,I,rfl,q1 (r2.nil_iff.mp z)⟩) HP (by rw[<- r1.length,<- r2.length];exact hz);refine⟨aC,_,I.laid (t':=s.toks) (o:=.tup LZ) GZ bM ?_,rfl,q2 (λw=>z (r2.nil_iff.mpr w)) _ mL⟩;exact⟨by rw[zC];exact hz,_,r1.append r2,IsTup.new _ _⟩
end
noncomputable def ixN(n:Nat)(i:Int):Option Nat:=if 0<=i then (if i<n then some i.toNat else none)else if -cB<=i then some (i+n).toNat else none
noncomputable def atI{α:Type}(xs:bE)(i:Int):Option α:=(ixN xs.length i).bind λj=>xs[j]?
theorem qbx{n:Nat}{i:Int}{j:Nat}(h:ixN n i=some j):seqIndex? i n=some j/\j<n/\-cB<=i/\i<n:=by
 unfold ixN at h
 by_cases h0:0<=i
 ·rw[vH h0]at h
  by_cases h1:i<n
  ·rw[OI]at h
   have e:i.toNat=j:=zy h;exact⟨by rw[sx h0 h1,e],∅,∅,h1⟩
  ·rw[vJ h1]at h;cases h
 ·rw[vJ h0]at h
  by_cases h1:-cB<=i
  ·rw[OI]at h
   have e:(i+n).toNat=j:=zy h;exact⟨by rw[seqIndex_neg ∅ h1,e],∅,h1,∅⟩
  ·rw[vJ h1]at h;cases h
theorem q85{α:Type}{xs:bE}{i:Int}{v:α}(h:atI xs i=some v):∃j,seqIndex? i xs.length=some j/\xs[j]?=some v/\j<xs.length/\-(xs.length:Int)<=i/\i<xs.length:=by
 unfold atI at h;cases e:ixN xs.length i with
 | none=>rw[e]at h;cases h
 | some j=>
  rw[e]at h;obtain⟨h1,h2,h3,h4⟩:=qbx e;exact⟨j,h1,h,h2,h3,h4⟩
def zAu(b:vW):Prop:=∀o i,subscripted b false o i=operate [o,i] (tK o i)
def IxR(X:Cx)(r:R2):Prop :=
 ∀(value slice:vW)(pins:aA)(s:vC)(σ:St)(H:Hp)(x y:V)(v u:vB)(Q:VK),Inv X pins σ H s->RelV x v->RelV y u->r x y H Q ->
  subscripted slice false v u=operate [v,u] (tK v u)->vM ao X.A (sO value slice v u) cH X.xe s
def MtR(X:Cx)(id:String)(r:nW):Prop :=
 ∀(pins:aA)(s:vC)(σ:St)(H:Hp)(x:V)(xs:bt)(v:vB)(us:bx)(Q:VK),Inv X pins σ H s->RelV x v->Xj xs us->r x xs H Q ->
  vM ao X.A VA cH X.xe s
section
variable{X:Cx}{a b:vW}{ta tb:TE}{pos:Pos}
theorem IxR.or{r r':R2}(h:IxR X r)(h':IxR X r'):IxR X GX:=by
 intro value slice pins s σ H x y v u Q I rx ry q hs;rcases q with q|q
 ·exact h value slice pins s σ H x y v u Q I rx ry q hs
 ·exact h' value slice pins s σ H x y v u Q I rx ry q hs
theorem qkV{r:R2}(hr:IxR X r)(ha:mU)(hb:HB)(hs:zAu b):PE X E5 GJ:=by
 intro pins s σ H Q I h;exact Subscript_ (binT ha hb I h λv u s2 x y H2 I2 rx ry q=>hr a b pins s2 σ H2 x y v u Q I2 rx ry q (hs _ _))
noncomputable def rIxL(K:zB):R2:=λx y H Q=>∃p xs i v,x=.ref p/\y=.int i/\SqL K H p xs/\atI xs i=some v/\Q v H
noncomputable def rIxT(K:zB):R2:=λx y H Q=>∃p xs i v,x=.ref p/\y=.int i/\SqT K H p xs/\atI xs i=some v/\Q v H
noncomputable def rIxS:R2:=λx y H Q=>∃z i c,x=.str z/\y=.int i/\z.length<=sizeLine/\atI z.cps.toList i=some c/\Q (.str ⟨#[c]⟩) H
theorem qip:IxR X (rIxL X.K):=by
 intro value slice pins s σ H x y v u Q I rx ry h hs;obtain⟨p,xs,i,z,rfl,rfl,hq,he,q⟩:=h;cases rx;obtain⟨t,rfl⟩:=ry;obtain⟨its,r,pl,hz⟩:=I.list hq;obtain⟨j,h1,h2,h3,h4,h5⟩:=q85 he;obtain⟨w,ew,rw'⟩:=r.get h2;have hl:=r.length;have hn:=W0;have fin:EP X pins σ Q w s:=abe
 by_cases h0:0<=i
 ·have hj:i.toNat=j:=by
   rw[sx h0 h5]at h1;exact zy h1
  exact item_listR pl.isList h0 ∅ (by rw[hj];simpa using ew) fin hs
 ·have hj:(i+Pu).toNat=j:=by
   rw[seqIndex_neg ∅ h4]at h1;rw[zP,<- hl];exact zy h1
  exact tj (x:=w) pl.isList.typeIs slot_list_getitem.lookup
   (wpAny_getItem_list_neg (Q:=λr s'=>r=w/\EP X pins σ Q r s') pl.isList ∅ (by rw[zP] <;> omega) ∅ (by rw[hj];simpa using ew) ⟨rfl,fin⟩) hs
theorem qjU:IxR X (rIxT X.K):=by
 intro value slice pins s σ H x y v u Q I rx ry h hs;obtain⟨p,xs,i,z,rfl,rfl,hq,he,q⟩:=h;cases rx;obtain⟨t,rfl⟩:=ry;obtain⟨its,r,pl,hz⟩:=I.tuple hq;obtain⟨j,h1,h2,h3,h4,h5⟩:=q85 he;obtain⟨w,ew,rw'⟩:=r.get h2;have hl:=r.length;have hn:=W0;have fin:EP X pins σ Q w s:=abe;exact tj (x:=w) pl.typeIs slot_tuple_getitem.lookup
  (getItem_tuple (j:=j) (Q:=λr s'=>r=w/\EP X pins σ Q r s') pl ∅ ∅ (by rw[zP,<- hl];exact h1) ⇑ew ⟨rfl,fin⟩) hs
theorem qkj:IxR X rIxS:=by
 intro value slice pins s σ H x y v u Q I rx ry h hs;obtain⟨z,i,c,rfl,rfl,hz,he,q⟩:=h;obtain⟨t,rfl⟩:=rx;obtain⟨t',rfl⟩:=ry;obtain⟨j,h1,h2,h3,h4,h5⟩:=q85 he;have hl:z.cps.toList.length=z.length:=by simp[Str.length]
 rw[hl]at h1 h4 h5;have hn:=W0;exact tail_any aaw slot_str_getitem.lookup (getItem_str (c:=c) (by
  have e1:decide (i < -(2^63:Int))=false:=vX ∅;have e2:decide (i>=2^63)=false:=vX ∅;rw[e1,e2,wf]) (by rw[h1];simpa using h2) ⟨.str ⟨#[c]⟩,H,iL,bz,q⟩) hs
noncomputable def rIx(K:zB):R2:=λx y H Q=>rIxL K x y H Q\/rIxT K x y H Q\/rIxS x y H Q
theorem qjp:IxR X (rIx X.K):=qip.or (qjU.or qkj)
theorem qdn(its:bx)(n j:Nat)(u:vB):Obj.mapSeq (·.setIfInBounds j u) { cls:=.type "list", data:=.seq its.toArray n }={ cls:=.type "list", data:=.seq (its.set j u).toArray n }:=by
 simp[Obj.mapSeq]
theorem Inv.lst{pins:aA}{σ:St}{H:Hp}{s:vC}{p:vG}{xs:bt}(I:aq)(h:UF):
  ∃(its:bx) (n:Nat),Xj xs its/\s.heap.get? p=some { cls:=.type "list", data:=.seq its.toArray n }/\xs.length<=sizeLine:=by
 obtain⟨z,its,n,r,e⟩:=I.hok p _ h;exact⟨its,n,r,e,z⟩
theorem Inv.lstUpd{pins:aA}{σ:St}{H:Hp}{s:vC}{p:vG}{xs ys:bt}{its its':bx}{n n':Nat}{f:Obj->Obj}(I:aq)(h:UF)(ho:s.heap.get? p=some { cls:=.type "list", data:=.seq its.toArray n })(hf:f { cls:=.type "list", data:=.seq its.toArray n }={ cls:=.type "list", data:=.seq its'.toArray n' })(r:Xj ys its')(hz:Ag)(t:Nat):
  Inv X pins σ (upd H p nU) { s with heap:=s.heap.update p f,toks:=t }:=by
 have e:(s.heap.update p f).get? p=some { cls:=.type "list", data:=.seq its'.toArray n' }:=by
  rw[xI f ho (by rw[hf] <;> rfl),hf]
 refine I.write (x:=p) (e:=p) (by rw[h];trivial) bu (λb u hb q=>(zr _ _ jN).trans q) ⟨_,e⟩ ?_;exact⟨hz,its',n',r,e⟩
def rSetL:V->V->V->Hp->abX->Prop:=λo i v H Q=>∃p xs k j,o=.ref p/\i=.int k/\H p=some dQ/\ixN xs.length k=some j/\Q Kh
theorem qgA:PSet X rSetL:=by
 intro pins s σ H o i v ov iv u Q I ro ri rv h;obtain⟨p,xs,k,j,rfl,rfl,hp,hj,q⟩:=h;cases ro;obtain⟨t,rfl⟩:=ri;obtain⟨its,n,r,ho,hz⟩:=I.lst hp;obtain⟨h1,h2,h3,h4⟩:=qbx hj;have hl:=r.length;have hn:=W0;have I':Inv X pins σ Kh { s with heap:=s.heap.update p (Obj.mapSeq (·.setIfInBounds j u)) } :=
  I.lstUpd hp ho (qdn its n j u) (r.set rv j) (by rw[yZ];exact hz) s.toks
 by_cases h0:0<=k
 ·have hk:k.toNat=j:=by
   rw[sx h0 h4]at h1;exact zy h1
  exact PySem.W.ki_setAt ho h0 ∅ (by rw[zP,<- hl];exact h4) (by rw[hk];exact⟨_,I',q⟩)
 ·have hk:(k+Pu).toNat=j:=by
   rw[seqIndex_neg ∅ h3]at h1;rw[zP,<- hl];exact zy h1
  exact PySem.W.ki_setBack ho ∅ (by rw[zP,<- hl];exact h3) ∅ (by rw[hk];exact⟨_,I',q⟩)
theorem q9T(lo hi:dX)(n:Nat):(ux lo hi none n).1=((HT.sIx n 0 lo:Nat):Int)/\(ux lo hi none n).2.1=((HT.sIx n n hi:Nat):Int)/\(ux lo hi none n).2.2=1:=by
 refine⟨?_,?_,rfl⟩
 ·cases lo with
  | none=>simp[ux,HT.sIx]
  | some i=>
   simp only[ux,HT.sIx,Ya,show Ap>0 by decide,if_true]
   by_cases h:i<0
   ·simp only[h,if_true] <;> omega
   ·simp only[h,if_false] <;> omega
 ·cases hi with
  | none=>simp[ux,HT.sIx]
  | some i=>
   simp only[ux,HT.sIx,Ya,show Ap>0 by decide,if_true]
   by_cases h:i<0
   ·simp only[h,if_true] <;> omega
   ·simp only[h,if_false] <;> omega
theorem q8Z(its:bx)(lo hi:dX):slicePick its.toArray lo hi none=((its.drop (HT.sIx its.length 0 lo)).take (HT.sIx its.length its.length hi-HT.sIx its.length 0 lo)).toArray:=by
 obtain⟨h1,h2,h3⟩:=q9T lo hi its.toArray.size;unfold slicePick;rw[h1,h2,h3];simp only[sliceRange_one,pick_run,zP] <;> rfl
def rSlL(K:zB):V->Option Int->Option Int->Hp->VK->Prop:=λx lo hi H Q=>∃a xs,x=.ref a/\SqL K H a xs/\∀p,H p=none->Q bw (upd H p (.lst Ew))
theorem qj5:SlR X (rSlL X.K):=by
 intro pins s σ H x v vl vu lo hi sl Q I rx hs pl pu h;obtain⟨a,xs,rfl,hx,q⟩:=h;cases rx;obtain⟨its,r,ht,hz⟩:=I.list hx;have hlen:=r.length;refine⟨"list", _,slot_list_getitem.lookup,ht.isList.typeIs,?_⟩;refine wpAny_getItem_list_slice ht.isList hs pl pu .none (by simp) ?_ (by rw[zP] <;> omega);rw[q8Z,<- hlen];refine⟨aC,_,I.laid (t':=s.toks) (o:=.lst Ew) GZ bM ?_,rfl,q _ mL⟩;exact⟨Tt,_,0,V7,fF⟩
theorem qq:WN X aba (λxs H Q=>∃p ys,xs=N7/\IZ/\Q DW H):=by
 intro pins s σ H xs us Q I r h;obtain⟨p,ys,rfl,hq,q⟩:=h;obtain⟨u,rfl,rx⟩:=vals1 r;cases rx;have hn:=W0;rcases hq with hq|hq
 ·obtain⟨its,r',pl,hz⟩:=I.list hq
  have hlen:=r'.length;exact Calls.call_len_list pl.isList (by simp only[zP] <;> omega) ⟨DW,H,iL,⟨s.toks+1,by rw[zP,hlen]⟩,q⟩
 ·obtain⟨its,r',pl,hz⟩:=I.tuple hq
  have hlen:=r'.length;exact len_tuple pl (by simp only[zP] <;> omega) ⟨DW,H,iL,⟨s.toks+1,by rw[zP,hlen]⟩,q⟩
theorem q1b:WN X E2 (λxs H Q=>∃p ys,xs=N7/\IZ/\∀l,H l=none->Q cF Pj):=by
 intro pins s σ H xs us Q I r h;obtain⟨p,ys,rfl,hq,q⟩:=h;obtain⟨u,rfl,rx⟩:=vals1 r;cases rx;have fin:∀(its:bx),Xj ys its->ys.length<=sizeLine->∀(h':vm)(c':Nat),(∀b o',s.heap.get? b=some o'->h'.get? b=some o') ->
   h'.get? s.heap.objs.size=some { cls:=.type "list", dict:=none,data:=.seq its.toArray c',slots:=#[] }->EP X pins σ Q aC { s with heap:=h' }:=λits r' hz h' c' kp e=>
  ⟨aC,_,I.laid (t':=s.toks) kp bM (show Xk X.prog X.w _ h' _ nU from ⟨hz,its,c',r',e⟩),rfl,q _ mL⟩
 rcases hq with hq|hq
 ·obtain⟨its,r',pl,hz⟩:=I.list hq
  have hlen:=r'.length;obtain⟨o,ho,hc,n,hd⟩:=pl.isList;exact call_list_seq p bu ho hc hd DF (by simp only[zP] <;> omega)
 ·obtain⟨its,r',pl,hz⟩:=I.tuple hq
  have hlen:=r'.length;obtain⟨o,ho,hc,n,hd⟩:=pl;exact call_list_seq p Aq ho hc hd DF (by simp only[zP] <;> omega)
def tyV(K:zB)(T:String)(x:V)(H:Hp):Prop:=match x with
 | .str _=>T = "str"
 | .int _=>T = "int"
 | .ref p=>(T = "list" /\ ∃xs,SqL K H p xs)\/(T = "tuple" /\ ∃o,K.lookup p=some o/\o.cls=.type "tuple" /\ o.dict=none) \/
   (T = "dict" /\ ((∃kvs,H p=some ce)\/∃kvs,H p=some AE))\/(T = "set" /\ ∃S n,H p=some (.set S n))
 | _=>False
theorem qe0{pins:aA}{σ:St}{H:Hp}{s:vC}{T:String}{x:V}{v:vB}(I:aq)(r:RelV x v)(ty:tyV X.K T x H):
  s.TypeIs v T/\∀a,v=.ref a->∃ob,s.heap.get? a=some ob/\ob.dict=none:=by
 cases x with
 | str z=>
  obtain⟨t,rfl⟩:=r;cases (show T = "str" from ty);exact⟨aaw,λ_ e=>nomatch e⟩
 | int i=>
  obtain⟨t,rfl⟩:=r;cases (show T = "int" from ty);exact⟨typeIs_int s i t,λ_ e=>nomatch e⟩
 | ref p=>
  cases r;rcases ty with⟨rfl,xs,hq⟩|⟨rfl,o,hk,hc,hd⟩|⟨rfl,hk⟩|⟨rfl,S,n,hk⟩
  ·obtain⟨its,_,pl,_⟩:=I.list hq
   refine⟨pl.isList.typeIs,λa e=>?_⟩;cases e;obtain⟨o,n,e,c,hd,_⟩:=pl;exact⟨o,e,hd⟩
  ·refine⟨⟨o,I.kIn p o hk,hc⟩,λa e=>?_⟩
   cases e;exact⟨o,I.kIn _ o hk,hd⟩
  ·have z:∃o,s.heap.get? p=some o/\o.ExactDict:=by
    rcases hk with⟨kvs,hk⟩|⟨kvs,hk⟩
    ·obtain⟨_,_,_,_,o,_,_,e,ex,_⟩:=I.hok p _ hk
     exact⟨o,e,ex⟩
    ·obtain⟨_,_,_,_,o,_,_,e,ex,_⟩:=I.hok p _ hk
     exact⟨o,e,ex⟩
   obtain⟨o,e,ex⟩:=z;refine J9;cases e2;exact aci
  ·obtain⟨o,_,_,_,e,ex,_⟩:=I.hok p _ hk
   refine J9;cases e2;exact aci
 | _=>exact False.elim ty
noncomputable def tBM0(K:zB)(T:String)(r:nW)(to:TE):TE:=λσ H Q=>to σ H λx H1=>tyV K T x H1/\r x [] H1 Q
noncomputable def tBM(K:zB)(T:String)(r:nW)(to:TE)(t:TA):TE:=λσ H Q=>to σ H λx H1=>tyV K T x H1/\t σ H1 λxs H2=>r x xs H2 Q
variable{o e:vW}{es:List vW}{to:TE}{t:TA}{name:Str}{apos cpos:Pos}{T id:String}{r:V->List V->Hp->VK->Prop}
theorem q9m(pa:PlainAttrs T)(slot:Slot T name id)(hty:DJ)(hm:MtR X id r)(ho:PE X o to)(hbase:Ki:=by rfl)(hline:gZ=true:=by rfl):PE X (.Call Ox [] [] cpos) (tBM0 X.K T r to):=by
 intro pins s σ H Q I h;refine wpAny_Call_method0_late hbase hline (thn iZ λv s1 ⟨x,H1,I1,r1,ty,q1⟩=>?_);obtain⟨h1,h2⟩:=qe0 I1 r1 ty;exact⟨T,id,pa,slot,hty,h1,h2,Calls.callWith_builtin rfl (PySem.evalArgs_none (hm pins s1 σ H1 x [] v [] Q I1 r1 .nil q1))⟩
theorem q3O(pa:PlainAttrs T)(slot:Slot T name id)(hty:DJ)(hm:MtR X id r)(ho:PE X o to)(ha:QF)(hbase:Ki:=by rfl)(hfew:((vt cpos (vK jF X.env)).all (λx=>!x.1)&&(uX cpos m8).all jL
   && decide ((e::es).length+([]:List uZ).length+(if ([]:List uZ).isEmpty then 0 else 1)<30))=true:=by rfl)
  (hline:gZ=true:=by rfl) (hs:vK jF X.env=dM::vK es X.env:=by rfl) (hplain:(vt cpos ij).any (·.1)=false:=by rfl) :
  PE X (.Call Ox jF [] cpos) (tBM X.K T r to t):=by
 intro pins s σ H Q I h;refine wpAny_Call_method_late hbase hfew hline rfl (thn iZ λv s1 ⟨x,H1,I1,r1,ty,q1⟩=>?_);obtain⟨h1,h2⟩:=qe0 I1 r1 ty;refine⟨T,id,pa,slot,hty,h1,h2,?_⟩;have hA:=ha cpos pins s1 σ H1 _ I1 q1;rw[hs]at hA ⊢;refine Calls.callWith_builtin (by show (false || (vt cpos ij).any (·.1))=false;rw[hplain] <;> rfl) (Calls.evalArgs_plain ?_);exact thn hA λus s2 ⟨vs,H2,I2,r2,q2⟩=>hm pins s2 σ H2 x vs v us Q I2 r1 r2 q2
end
def MtM(X:Cx)(id:String)(r:nW):Prop :=
 ∀(pins:aA)(s:vC)(σ:St)(H:Hp)(x:V)(xs:bt)(v:vB)(us:bx)(Q:VK),Inv X pins σ H s->RelV x v->Xj xs us->r x xs H Q ->
  vM ao X.A VA cH X.xe s
theorem Xj.one:∀{x:V}{us:bx},Xj [x] us->∃u,us=[u]/\RelV x u
 | _,_,.cons r .nil=>O9
theorem Xj.zero:∀{us:bx},Xj [] us->us=[]
 | _,.nil=>rfl
theorem Xj.dropLast{xs:bt}{us:bx}(h:Ob):Xj xs.dropLast us.dropLast:=by
 induction h with
 | nil=>exact .nil
 | cons r t ih=>
  cases t with
  | nil=>exact .nil
  | cons q t'=>exact .cons r ih
theorem Xj.reverse{xs:bt}{us:bx}(h:Ob):Xj xs.reverse us.reverse:=by
 induction h with
 | nil=>exact .nil
 | cons r t ih=>rw[ZK,ZK];exact Xj.append ih (.cons r .nil)
theorem Xj.rep{xs:bt}{us:bx}(h:Ob):∀k:Nat,Xj (zt k xs).flatten (zt k us).flatten
 | 0=>.nil
 | k+1=>by
  rw[yR,yR,yC,yC];exact Xj.append h (Xj.rep h k)
theorem qcT{α:Type}(l:bE):l.eraseIdx (l.length-1)=l.dropLast:=by
 induction l with
 | nil=>rfl
 | cons a r ih=>
  cases r with
  | nil=>rfl
  | cons b r=>
   have e:(a::b::r).length-1=((b::r).length-1)+1:=by
    have h1:(a::b::r).length=r.length+2:=rfl;have h2:(b::r).length=r.length+1:=rfl;omega
   rw[e,List.eraseIdx_cons_succ,ih]
   all_goals rfl
theorem q8s(its:bx):∀(k:Nat)(acc:bx),
  Zb Iq acc.toArray (zt k its.toArray)=(acc++(zt k its).flatten).toArray
 | 0,acc=>by simp
 | k+1,acc=>by
  have e:acc.toArray++its.toArray=(acc++its).toArray:=by simp
  have e2:(acc++its)++(zt k its).flatten=acc++(zt (k+1) its).flatten:=by
   rw[yR,yC,zO]
  rw[<- e2,<- q8s its k (acc++its),<- e,yR,Yh]
section
variable{X:Cx}{pins:List (vG×Obj)}{σ:St}{H:Hp}{s:vC}{l b:vG}{xs ys zs:List V}
theorem Inv.lset{its its':bx}{n:Nat}{f:aa2}{t':Nat}(I:aq)(hH:H l=some dQ)(e:s.heap.get? l=some { cls:=.type "list", data:=.seq its.toArray n })(hf:f its.toArray=its'.toArray)(hv:Xj ys its')(hz:Ag):
  Inv X pins σ Pj { s with heap:=s.heap.update l MV,toks:=t' }:=by
 have q:=PySem.IsL.update e f;rw[hf]at q;refine I.write (x:=l) (e:=l) (by rw[hH];exact trivial) bu (λb' u hb hu=>(zr s.heap MV jN).trans hu) ⟨_,q⟩ ?_;exact⟨hz,its',_,hv,q⟩
theorem Inv.lnew{its:bx}{t':Nat}(I:aq)(hv:Xj ys its)(hz:Ag):
  Inv X pins σ (upd H s.heap.objs.size nU) { s with heap:=s.heap.push { cls:=.type "list", data:=.seq its.toArray },toks:=t' } :=
 I.laid Iv bM ⟨hz,its,0,hv,fF⟩
theorem Inv.fresh(I:aq):H s.heap.objs.size=none:=I.hok.fresh bM
theorem Inv.lstM(I:aq)(hH:H l=some dQ):xs.length<=sizeLine/\∃(its:bx) (n:Nat),Xj xs its/\xs.length=its.length/\s.heap.get? l=some { cls:=.type "list", data:=.seq its.toArray n }:=by
 obtain⟨z,its,n,r,e⟩:=I.hok l _ hH;exact⟨z,its,n,r,r.length,e⟩
theorem zAR{n:Nat}(h:n<=sizeLine):Builtin.List.listTooLong n=false:=by
 unfold Builtin.List.listTooLong;exact vX ∅
end
section
variable{X:Cx}
def Wb:V->List V->Hp->VK->Prop:=λx vs H Q=>∃l xs y,x=.ref l/\vs=[y]/\H l=some dQ/\xs.length<sizeLine/\Q .non (upd H l (.lst (xs++[y])))
theorem q0W:MtM X "list.append" Wb:=by
 intro pins s σ H x vs v us Q I rx rv h;obtain⟨l,xs,y,rfl,rfl,hH,hz,q⟩:=h;cases rx;obtain⟨u,rfl,ru⟩:=rv.one;obtain⟨z,its,n,r,hl,e⟩:=I.lstM hH;refine u7 F.slot_list_append fL F.entry_list_append (F.args_list_append_2 _ _) (PySem.list_append l its.toArray n u (by rw[zP];omega)) Nw;refine⟨.non,_,I.lset (its':=its++[u]) hH e (by simp) (r.append acb) ?_,rfl,q⟩;rw[zC,zY];omega
def zBt:V->List V->Hp->VK->Prop:=λx vs H Q=>∃l b xs zs,x=.ref l/\vs=[Cv]/\H l=some dQ/\H b=some (.lst zs)/\xs.length+zs.length<=sizeLine/\Q .non (upd H l Lk)
theorem qe4:MtM X "list.extend" zBt:=by
 intro pins s σ H x vs v us Q I rx rv h;obtain⟨l,b,xs,zs,rfl,rfl,hH,hB,hz,q⟩:=h;cases rx;obtain⟨u,rfl,ru⟩:=rv.one;cases ru;obtain⟨z,its,n,r,hl,e⟩:=I.lstM hH;obtain⟨z2,its2,n2,r2,hl2,e2⟩:=I.lstM hB;have hsz:its.toArray.size+its2.toArray.size<=sizeLine:=by rw[zP,zP];omega
 have hlong:¬(!its.toArray.isEmpty&&Builtin.List.listTooLong FR)=true:=by
  rw[zAR hsz,wx];exact y0
 refine u7 F.slot_list_extend fL F.entry_list_extend MY
  (AutoSeq1.list_extend_list_list_0 l its.toArray n b its2.toArray n2 hlong (by rw[zP];omega) ∅) ⟨e,e2,?_⟩
 refine⟨.non,_,I.lset (its':=its++its2) hH e (by simp) NO ?_,rfl,q⟩;rw[zC];omega
def rPop:V->List V->Hp->VK->Prop:=λx vs H Q=>∃l xs y,x=.ref l/\vs=[]/\H l=some dQ/\xs[xs.length-1]?=some y/\Q y (upd H l (.lst xs.dropLast))
theorem q9K:MtM X "list.pop" rPop:=by
 intro pins s σ H x vs v us Q I rx rv h;obtain⟨l,xs,y,rfl,rfl,hH,hy,q⟩:=h;cases rx;have hus:=rv.zero;subst hus;obtain⟨z,its,n,r,hl,e⟩:=I.lstM hH;obtain⟨u,hu,ru⟩:=r.get hy;have hy':its.toArray[T8]?=some u:=by
  show its.toArray[its.length-1]?=some u;rw[<- zc,<- hl];exact hu
 refine u7 F.slot_list_pop fL F.entry_list_pop (F.args_list_pop_1 _) (MeetsSeq.list_pop_last l its.toArray n u hy' (by rw[zP];omega)) Nw;refine⟨y,_,I.lset (its':=its.dropLast) hH e ?_ r.dropLast ?_,ru,q⟩
 ·show its.toArray.eraseIdxIfInBounds T8=its.dropLast.toArray
  rw[zP,List.eraseIdxIfInBounds_toArray,qcT]
 ·rw[List.length_dropLast]
  omega
noncomputable def rCat:R2:=λx y H Q=>∃l b xs zs,x=.ref l/\y=.ref b/\H l=some dQ/\H b=some (.lst zs)/\xs.length+zs.length<=sizeLine/\∀p,H p=none->Q bw (upd H p Lk)
theorem qjZ:OpR X JJ rCat:=by
 intro pins s σ H x y v u Q I rx ry h;obtain⟨l,b,xs,zs,rfl,rfl,hH,hB,hz,q⟩:=h;cases rx;cases ry;obtain⟨z,its,n,r,hl,e⟩:=I.lstM hH;obtain⟨z2,its2,n2,r2,hl2,e2⟩:=I.lstM hB;refine PySem.P.add_list e e2 ?_ (by rw[zP,zP];omega);have ea:its.toArray++its2.toArray=(its++its2).toArray:=by simp
 rw[ea];exact⟨.ref _,_,I.lnew (t':=s.toks) NO (by rw[zC];omega),rfl,q _ I.fresh⟩
noncomputable def rRep:R2:=λx y H Q=>∃l k xs,x=.ref l/\y=.int k/\H l=some dQ/\-(2^63)<=k/\k<2^63/\xs.length*k.toNat<=sizeLine /\
 ∀p,H p=none->Q bw (upd H p (.lst (zt k.toNat xs).flatten))
theorem qiw{α:Type}(xs:bE)(k:Nat):(zt k xs).flatten.length=k*xs.length:=by
 induction k with
 | zero=>simp
 | succ k ih=>rw[yR,yC,zC,ih,Nat.succ_mul,Nat.add_comm]
theorem qk5:OpR X (uc .Mult) rRep:=by
 intro pins s σ H x y v u Q I rx ry h;obtain⟨l,k,xs,rfl,rfl,hH,h1,h2,hz,q⟩:=h;cases rx;obtain⟨t,rfl⟩:=ry;obtain⟨z,its,n,r,hl,e⟩:=I.lstM hH;have hlen:its.toArray.size*k.toNat<=sizeLine:=by rw[zP,<- hl];exact hz
 have hcap:¬its.toArray.size*k.toNat>(2^63-1)/8:=by
  have:acy<=(2^63-1)/8:=by decide
  omega
 have hfit:¬(!Builtin.List.listFitsIndex k)=true:=by
  rw[fitsIndex_both h1 h2];exact y0
 have hlong:¬Builtin.List.listTooLong (its.toArray.size*k.toNat)=true:=by
  rw[zAR hlen];exact y0
 have hnew:Zb Iq #[] (zt (if its.toArray.isEmpty=true then 0 else k.toNat) its.toArray)=(zt k.toNat its).flatten.toArray:=by
  have f0:∀m:Nat,Zb Iq #[] (zt m its.toArray)=(zt m its).flatten.toArray:=λm=>by
   have:=q8s its m [];rw[yX]at this;exact this
  rw[f0];cases its with
  | nil=>simp
  | cons a r'=>rw[vJ (by simp)]
 refine wpAny_binaryOp_repeat_ref (T := "list") (U := "int") (by decide) fL (λs'=>typeIs_int s' k t) noFill_list_mul F.fills_int_mul F.slot_int_rmul repeat_list F.slot_int_index.lookup
  (u7 F.slot_int_rmul (typeIs_int s k t) F.entry_int_rmul (F.args_int_rmul_2 _ _) (int___rmul___int_list k t l its.toArray n)
   ⟨e,rfl,fL,u7 F.slot_list_mul fL F.entry_list_mul (F.args_list_mul_2 _ _) (AutoListH.list___mul___list_int_3 l its.toArray n k t hfit hcap hlong) Nw⟩)
 rw[hnew];exact⟨.ref _,_,I.lnew (t':=s.toks) (r.rep k.toNat) (by rw[qiw,Nat.mul_comm];exact hz),rfl,q _ I.fresh⟩
end
section
variable{prog:vU}{w:vZ}{A:vf}{E:vB->vC->Prop}{s:vC}
end
section
variable{X:Cx}
end
end L2
namespace Att
open PySem PySem.W PySem.Calls PyProof.Rows
theorem Wx{P:Params}{h:vm}:∀(ns:af)(vs:bx),WellAll P h vs TU->uH vs ns:=by
 intro ns
 induction ns with
 | nil=>
  intro vs w;rw[yz]at w;cases w;exact .nil
 | cons n ns ih=>
  intro vs w;rw[zU]at w;cases w with
  | cons a b=>
   cases a;exact .cons _ _ (ih _ b)
theorem zBc{l:OpenLaw}{n:Nat}(hn:Pt){P:Params}{h:vm}{args:List WData}{vals:bx}(hpre:l.row.toRowW.claim.pre args=true)(hwl:WellAll P h vals args):
  ∃a vs ns,vals=[Value.ref a]/\args=[WData.list TU]/\h.get? a=some { cls:=.type "list", data:=.seq vs.toArray }/\uH vs ns/\ns.length<=n:=by
 have hsh:WShape.hasAll [] args [.list .int]=true:=(pre_splitW hpre).1;have hc:l.pre.holds [] { args:=args }=true:=(pre_splitW hpre).2;obtain⟨d,r,rfl,h1,h2⟩:=hasAllW_cons hsh;obtain rfl:=hasAllW_nil h2;obtain⟨xs,rfl,h3⟩:=hasW_list h1;obtain⟨ns,rfl⟩:=items_int h3;have hlen:ns.length<=n:=by
  unfold OpenLaw.pre at hc;have h4:(WTm.not (.lt (.lit Ju) (.len (.arg 0)))).holds [] { args:=[.list (ns.map .int)] }=true:=by
   have h4:=(holds_andW hc).1;rw[hn]at h4;exact h4
  have h5:=condW_of h4 (w_not (w_lt w_lit (w_len_list (w_arg rfl))));rw[zA]at h5;refine Nat.le_of_not_lt λq=>?_;have q':cB<((ns.length:Nat):Int):=∅
  first
   | (rw[vT q']at h5;exact vP h5 (by decide))
   | (simp at h5;omega)
 cases hwl with
 | cons w1 w2=>
  cases w2;cases w1 with
  | list ho hall=>exact⟨_,_,ns,rfl,rfl,ho,Wx ns _ hall,hlen⟩
theorem zBd(l:OpenLaw)(args:List WData):l.row.toRowW.claim.post args lV args=true :=
 postW_of (r:=l.row.toRowW) (X:=(true==true))
  (show WShape.has [] lV .bool=true by first|rfl|decide|simp[WShape.has,WShape.arms,WShape.armsAll])
  (show (WTm.eq .res (.lit lV)).value [] { args:=args,res:=some lV,after:=args }=some (.bool (true==true))from w_eq_bool (w_res rfl) w_lit) rfl
theorem attach_call{l:OpenLaw}{n:Nat}{q:vU}{loose:dJ}{XP:RC}{YP:Ra}{d:DefRec}(hn:Pt)(hdf:FY)(call:∀(w:vZ)(s₀ s₁:vC)(mg mb:bG)(fa:vG)(o:Obj)(pm cd doc:vB)(a:vG)(vs:bx)(ns:af),
   Ground q loose [] XP w s₀ mg mb s₁.heap->YP w s₁.heap ->
   s₁.heap.get? fa=some o->o.data=.func (docDef d.name d.params d.body d.scope pm cd doc)->s₁.heap.CodeRec cd d.name->mg d.name=some J0 ->
   s₁.heap.get? a=some { cls:=.type "list", data:=.seq vs.toArray }->uH vs ns->ns.length<=n->s₁.gens=#[] ->
   uh (model l.prog w) sL oU dl s₁) :
  WalkO q loose XP YP l.row.toRowW d [] AV:=by
 intro w s₀ s₁ mg mb G Y fa o pm cd doc dV kV ho hd hcd hD hmg hg args vals as hpre hlay hrd hwl hlo;obtain rfl:dV=.none:=Dflts.none hD hdf;obtain rfl:kV=.none:=Dflts.noKw hD;obtain⟨a,vs,ns,rfl,rfl,hobj,zBQ,hlen⟩:=zBc hn hpre hwl;refine enter_call (um (call w s₀ s₁ mg mb fa o pm cd doc a vs ns G Y ho (fd_plain hd) hcd hmg hobj zBQ hlen hg) λr s' hq=>?_);obtain⟨rfl,h2,h3,h4⟩:=hq;exact⟨.inl ⟨lV,lV,[],rfl,Fb,lV,zBd l _,λ_=>⟨xQ,λ_ hm=>(nomatch hm)⟩⟩,h2,h3,h4⟩
section
variable{prog:vU}{w:vZ}{A:vf}{E:vB->vC->Prop}{s:vC}{K:Frag}
end
end Att
namespace L2
open PySem PySem.Spec PyProof.Rows
theorem q1H:∀{vs:bx}{ns:af},uH vs ns->Xj ca vs
 | _,_,.nil=>.nil
 | _,_,.cons n t h=>.cons Lr (q1H h)
def Only(H:Hp):Prop:=∀b,H b=none\/∃o xs,H b=some (.frz o dQ)
theorem qfQ{P:vU}{w:vZ}{K:zB}{mg mb:bG}{CX:CXT}{k:Nat}{fa a:vG}{fd:vQ}{x:Str}{sp:Sp}{s₁:vC}{vs:bx}{ns:af}(KX:K.In s₁.heap)(hns:s₁.heap.Ns vY mg)(hb:s₁.heap.Ns builtinsNs mb)(hbb:∀x:Str,x ≠ "__name__" -> mb x=vn x)(hlim:s₁.heap.NoLimit)(hg:s₁.gens=#[])(ha:s₁.heap.get? a=some { cls:=.type "list", data:=.seq vs.toArray })(hi:uH vs ns)(hl:ns.length<=sizeLine)(hr:Room k sL)(F:∀base:vm,K.In base->base.Ns vY mg->FnOk P w K mg base CX k fa fd [x] sp)(hbind:∀(s:vC)(u:vB),sW s fd QZ [(x,u)])(hsp:∀H:Hp,Only H->SqL K H a ca->sp [dq] H Sq λ_ _ _=>False)(hCX:∀H e s',CX [] H s₁ aah e s'->False):
  uh Rt sL oU dl s₁:=by
 have rv:=q1H hi;have lenV:=hi.length;have core:∀H:Hp,Only H->SqL K H a ca->HOk P w H s₁.heap->(∀b,H b≠none->b=a)->(H a≠none->K.lookup a=none) ->
   uh Rt sL oU dl s₁:=by
  intro H hO hS hok hA hK;have base_of:∀{b:vG}{o:Obj},s₁.heap.get? b=some o->H b=none->(zCP s₁.heap H).get? b=some o:=λe n=>qgG e n;have noA:∀{b:vG}{o:Obj}{es:MZ}{ep:Nat},s₁.heap.get? b=some o->o.data=.dict es ep->H b=none:=λ{b o es ep} e d=>by
   cases q:H b with
   | none=>rfl
   | some u=>
    have e':b=a:=hA b (by rw[q];simp);subst e';rw[ha]at e;cases e;have d':Data.seq vs.toArray _=Data.dict es ep:=d;cases d'
  have nsK:∀{b:vG}{m:bG},s₁.heap.Ns b m->(zCP s₁.heap H).Ns b m:=λ{b m} ⟨o,es,ep,e,d,r⟩=>⟨o,es,ep,base_of e (noA e d),d,r⟩;have hKb:K.In Iw:=λb o e=>base_of (KX b o e) (by
   cases q:H b with
   | none=>rfl
   | some u=>
    have e':b=a:=hA b (by rw[q];simp);subst e';rw[hK (by rw[q];simp)]at e;cases e)
  have hM:Mod K mg Iw:=⟨hKb,nsK hns,⟨mb,nsK hb,hbb⟩,let ⟨mc,h1,h2⟩:=hlim;⟨mc,nsK h1,h2⟩⟩;have e0:Env0 P w K mg Iw sL [] s₁ H:=⟨rfl,hM,λb o e=>qj8 e,Nat.le_of_eq (qf1 _ _),trivial,λb hb=>vP (show b∈PD from hb) (by simp),hok,.of_eq hg⟩;refine um ((F _ hKb (nsK hns)).run sL [] s₁ H HN [dq] [dq] _ _ hr e0 (hbind s₁ dq) (.cons rfl .nil) (hsp H hO hS)) λr s' h=>?_;cases r with
  | error e=>exact(hCX H e s' h).elim
  | ok fl=>
   cases fl with
   | next=>exact False.elim h
   | brk=>exact False.elim h
   | cont=>exact False.elim h
   | ret u=>
    obtain⟨v,H',os,bare,un,hok',r',q⟩:=h;have q':v=.bl true:=q;subst q';obtain rfl:u=Value.bool true:=r';refine⟨rfl,OldK.of_keep λb o e=>?_,os,bare⟩;cases q:H b with
    | none=>exact un.keep b o e q (by intro z;exact vP (show b∈PD from z) (by simp)) (by simp)
    | some u=>
     rcases hO b with z|⟨ob,xs,z⟩
     ·rw[q]at z;cases z
     ·have z2:=un.frzs b ob _ z
      obtain⟨e1,_⟩:=hok b _ z;obtain⟨e2,_⟩:=hok' b _ z2;rw[e]at e1;cases e1;exact e2
 cases hk:K.lookup a with
 | some o=>
  have e:=KX a o hk;rw[ha]at e;cases e;refine core (λ_=>none) (λ_=>.inl rfl) (.inr ⟨_,vs.toArray,_,hk,rfl,rfl,rfl,by rw[zP,lenV];exact hl,by simpa using rv⟩) (λb u z=>by have z':(none:Option HO)=some u:=z;cases z') (λb z=>vP rfl z) λz=>vP rfl z
 | none=>
  refine core (λb=>if b=a then some (.frz { cls:=.type "list", data:=.seq vs.toArray } Gy)else none) (λb=>?_) (.inl (.inr ⟨{ cls:=.type "list", data:=.seq vs.toArray },kT⟩)) Q4 (λb z=>?_) λ_=>hk
  ·by_cases hb:b=a
   ·exact .inr ⟨_,_,U5⟩
   ·exact .inl NJ
  ·by_cases hb:b=a
   ·have z':=(vH hb).symm.trans z
    cases z';subst hb;exact⟨ha,by rw[zA];exact hl,vs,_,rv,ha⟩
   ·have z':=(vJ hb).symm.trans z
    cases z'
  ·by_cases hb:b=a
   ·exact hb
   ·exact vP NJ z
noncomputable abbrev KOf{K:zB}{h:vm}(_:K.In h):zB:=K
theorem qc8{l:Zl}{n k:Nat}{q:vU}{loose:dJ}{XP:RC}{YP:Ra}{d:DefRec}{K:Params->zB}{CX:vZ->CXT}{sp:vZ->Sp}{x:Str}(hn:Pt)(hn2:n<=sizeLine)(hdf:FY)(hr:Room k sL)(hY:∀(w:vZ)(h:vm),YP w h->(K w.params).In h)(F:∀(w:vZ)(mg:bG)(fa:vG)(h:vm),(K w.params).In h->h.Ns vY mg->mg d.name=some J0 ->
   ∃fd:vQ,(∀(s:vC)(u:vB),sW s fd QZ [(x,u)]) /\
    ∀base:vm,(K w.params).In base->base.Ns vY mg->FnOk l.prog w CV mg base (CX w) k fa fd [x] (sp w))
  (hsp:∀(w:vZ)(H:Hp)(a:vG)(ns:af),ns.length<=n->Only H->SqL CV H a ca->sp w [dq] H Sq λ_ _ _=>False)
  (hCX:∀(w:vZ)(H:Hp)(s:vC)(e:vB)(s':vC),CX w [] H s aah e s'->False) :
  Yx q loose XP YP l.row.toRowW d [] AV:=by
 refine Att.attach_call hn hdf λw s₀ s₁ mg mb fa o pm cd doc a vs ns G Y ho hd hcd hmg hobj zBQ hlen hg=>?_;have KX:=hY w _ Y;obtain⟨fd,hb,hF⟩:=F w mg fa _ KX G.T.g hmg;exact qfQ KX G.T.g G.T.b G.T.builtins G.T.nolimit hg hobj zBQ (yP hlen hn2) hr hF hb (λH hO hS=>hsp w H a ns hlen hO hS) λH e s'=>hCX w H s₁ e s'
end L2
namespace L2
open PySem PySem.Spec PyProof.Rows
noncomputable def Wa(s:vp):Arguments:=match s with
 | .FunctionDef _ a _ _ _ _ _ _ _ _=>a
 | _=>{ posonlyargs:=[],args:=[],vararg:=none,kwonlyargs:=[],kw_defaults:=[],kwarg:=none,defaults:=[] }
noncomputable def WE(s:vp):List vp:=match s with
 | .FunctionDef _ _ b _ _ _ _ _ _ _=>b
 | _=>[]
noncomputable def Y9(s:vp):u5:=match s with
 | .FunctionDef _ _ _ _ _ _ sc _ _ _=>sc
 | _=>{ kind:=.function,names:=[],isGenerator:=false,isCoroutine:=false }
noncomputable abbrev CX0:CXT:=λ_ _ _ _ _ _=>False
noncomputable abbrev E0:XK:=λ_ _ _=>False
theorem pass0{X:Cx}:zBH CX0 X E0:=λ_ _ _ _ _ _ _ h=>h.elim
structure Fun (K:zB) (x qual:Str) (st:vp) (f:vG) (fd:vQ):Prop where
 ex:∃(oc:vB) (od:Option vG) (kV doc pm:vB) (an:Option vG) (cdv ct:vB) (osl:Array (Option vB)),
  fd=xp x qual (Wa st) (WE st) (Y9 st) .none kV doc pm an cdv ct/\K.lookup f=some ⟨oc,od,.func fd,osl⟩/\ww K cdv qual=true
 kp:xx K (.ref f)=true
section
variable{P:vU}{w:vZ}{K:zB}{mg:Str->Option vB}{base:vm}
theorem Fun.ok{x qual:Str}{st:vp}{f:vG}{fd:vQ}{N ps:dJ}{k:Nat}{sp:Sp}(F:Gr)(S:FnScope N ps Gc)(len:∀vs H Q E,sp vs H Q E->vs.length=ps.length)(hbody:∀(cdv:vB)(A:vf)(outer:rW)(s:vC)(H:Hp)(vs:bt)(Q:VK)(E:XK),Room k (A.deeper (t7 qual Gc s.heap.objs.size f cdv))->sp vs H Q E ->
   ∃t,PSs (zB8 CX0 P w K mg base N qual Gc f cdv A outer s H E).nox VN t/\t { nx:=λ_ H'=>Q .non H',rt:=Q } CG H):FnOk P w K mg base CX0 (k+1) f fd ps sp:=by
 obtain⟨oc,od,kV,doc,pm,an,cdv,ct,osl,rfl,lk,hcd⟩:=F.ex;refine qkY lk hcd S len λA outer s H vs Q E hr hsp=>?_;obtain⟨t,h,q⟩:=hbody cdv A outer s H vs Q E hr hsp;exact⟨t,h.nox,q⟩
theorem Fun.binds{x qual:Str}{st:vp}{f:vG}{fd:vQ}{ps:dJ}(F:Gr)(h:∀(kV doc pm:vB)(an:HC)(cdv ct:vB)(us:bx),us.length=ps.length->bindArgs gF BZ=pure EG):Binds K fd ps []:=by
 obtain⟨oc,od,kV,doc,pm,an,cdv,ct,osl,rfl,lk,hcd⟩:=F.ex;exact .all (h kV doc pm an cdv ct)
theorem qjH{x qual:Str}{st:vp}{f:vG}{oc:vB}{od an:HC}{osl:UK}{kV doc pm cdv ct:vB}(l:K.lookup f=some ⟨oc,od,.func gF,osl⟩)(c:aau)(k:xx K iG=true):Fun K x qual st f gF:=⟨⟨oc,od,kV,doc,pm,an,cdv,ct,osl,rfl,l,c⟩,k⟩
end
theorem zBx{n:Nat}(h:n<=1000):n<sizeLine:=YC h (by decide)
section
variable{X:Cx}
theorem pv(i:Nat){x:Str}{pos:Pos}(hN:X.N[i]?=some x:=by rfl)(hv:oT:=by first|exact Or.inl rfl|exact Or.inr aB|exact Or.inr Jb)(hd:aI:=by decide)(hcd:fT:=by decide):PE X iq Np:=qjB hN hv hd hcd
end
def Xh(H H':Hp):Prop:=∀b o,H b=some o->H' b=some o
theorem Xh.refl(H:Hp):Xh H H:=λ_ _ h=>h
theorem Xh.trans{H H1 H2:Hp}(a:Xh H H1)(b:Xh H1 H2):Xh H H2:=λc o h=>b c o (a c o h)
theorem Xh.free{H H':Hp}(e:Oc){l:vG}(h:H' l=Y1):H l=Y1:=by
 cases q:H l with
 | none=>rfl
 | some o=>
  rw[e l o q]at h;cases h
theorem Xh.seq{K:zB}{H H':Hp}{a:vG}{xs:bt}(e:Oc)(h:SqL K H a xs):SqL K H' a xs:=by
 rcases h with (h|⟨o,h⟩)|h
 ·exact .inl (.inl SJ)
 ·exact .inl (.inr ⟨o,SJ⟩)
 ·exact .inr h
end L2
namespace Hk
open PySem
def zBb(xs:DB):Prop:=xs.toList.Pairwise (· < ·)
theorem q5X{l:bW}(h:l.Pairwise (· < ·)){i j:Nat}(hi:i<l.length)(hj:j<l.length)(hij:i<j):l[i]<l[j]:=yb.mp h i j hi hj hij
theorem qg0{xs:DB}{j:Nat}(h:zBb xs):∀(fuel lo hi:Nat),lo<=hi->hi<=xs.size->hi-lo<=fuel->(∀k(z:lc),k<lo->xs.toList[k]<j)->(∀k(z:lc),hi<=k->j<=xs.toList[k]) ->
  SetTable.below.go xs j fuel lo hi<=xs.size/\(∀k(z:lc),k<SetTable.below.go xs j fuel lo hi->xs.toList[k]<j)/\(∀k(z:lc),SetTable.below.go xs j fuel lo hi<=k->j<=xs.toList[k]):=by
 intro fuel
 induction fuel with
 | zero=>
  intro lo hi h1 h2 h3 h4 h5;have e:lo=hi:=∅
  subst e;exact⟨h2,h4,h5⟩
 | succ n ih=>
  intro lo hi h1 h2 h3 h4 h5;unfold SetTable.below.go
  by_cases hl:lo<hi
  ·rw[vH hl]
   have hm:Ml/2<xs.toList.length:=by rw[zK];omega
   have hg:xs.getD (Ml/2) j=xs.toList[Ml/2]:=by
    rw[Array.getD_eq_getD_getElem?,<- zc,zD hm];rfl
   by_cases hc:xs.getD (Ml/2) j<j
   ·simp only[hc,if_true]
    refine ih _ _ ∅ h2 ∅ ack h5
    by_cases e:k=Ml/2
    ·subst e;rw[hg]at hc;exact hc
    ·have:=q5X h z hm ∅
     rw[hg]at hc;omega
   ·simp only[hc,if_false]
    refine ih _ _ ∅ ∅ ∅ h4 ack
    by_cases e:k=Ml/2
    ·subst e;rw[hg]at hc;omega
    ·have:=q5X h hm z ∅
     rw[hg]at hc;omega
  ·rw[vJ hl]
   have e:lo=hi:=∅
   subst e;exact⟨h2,h4,h5⟩
theorem qaE{xs:DB}(h:zBb xs)(j:Nat):SetTable.below xs j<=xs.size/\(∀k(z:lc),k<SetTable.below xs j->xs.toList[k]<j)/\(∀k(z:lc),SetTable.below xs j<=k->j<=xs.toList[k]) :=
 qg0 h xs.size 0 xs.size B5 bM ∅ (λk z hk=>vP hk Tz) (λk z hk=>by rw[zK]at z;omega)
theorem q53{α:Type}(xs:Array α)(p:Nat)(x:α):(SetTable.insertAt xs p x).toList=xs.toList.take p++x::xs.toList.drop p:=by
 unfold SetTable.insertAt;simp[xq,yv]
theorem qb2{xs:DB}(h:zBb xs){j:Nat}(hn:xs[rV]?≠some j):zBb (SetTable.insertAt xs rV j):=by
 obtain⟨h1,h2,h3⟩:=qaE h j;unfold zBb;rw[q53,za];have lt:∀y∈xs.toList.drop (SetTable.below xs j),j<y:=by
  intro y hy;obtain⟨k,hk,e⟩:=zh.mp hy;rw[yM]at hk;rw[xr]at e;have hb:SetTable.below xs j<xs.toList.length:=∅
  have hh:=h3 _ hb bM;have ne:xs.toList[rV]≠j:=λz=>hn (by rw[<- zc,zD hb,z]);have hle:xs.toList[rV]<=y:=by
   by_cases e0:k=0
   ·subst e0;rw[<- e];simp
   ·rw[<- e];exact yi (q5X h hb ∅ ∅)
  omega
 refine⟨wX (ZJ _ _) h,zQ.mpr ⟨lt,wX (YJ _ _) h⟩,λa ha b hb=>?_⟩;have haj:a<j:=by
  obtain⟨k,hk,e⟩:=zh.mp ha;rw[ze]at hk;rw[xS]at e;rw[<- e];exact h2 k ∅ ∅
 rcases zF.mp hb with rfl|hb
 ·exact haj
 ·exact YK haj (lt b hb)
structure Tb (t:SetTable) (n:Nat):Prop where
 fits:t.fits n=true
 rise:zBb t.place
 dum:t.dummies=#[]
theorem q9F{t:SetTable}(hd:t.dummies=#[])(j:Nat):t.slot j≠.dummy:=by
 unfold SetTable.slot;rw[hd]
 dsimp only
 split
 ·exact λz=>nomatch z
 ·have:SetTable.has #[] j=false:=by simp[SetTable.has]
  rw[this];exact λz=>nomatch z
theorem qbq{t:SetTable}(hd:t.dummies=#[]){h:Int}:∀(fuel:Nat)(p:SetTable.Probe)(m:SetTable.Met),p.dummy=none->SetTable.probe.go t (λ_=>h+1) h fuel p=some m->∃j,m=.empty j none/\t.slot j=.empty:=by
 intro fuel
 induction fuel with
 | zero=>intro p m _ e;cases e
 | succ n ih=>
  intro p m hp e;unfold SetTable.probe.go at e;cases hs:t.slot p.j with
  | empty=>
   rw[hs]at e;cases e;exact⟨p.j,by rw[hp],hs⟩
  | dummy=>exact vP hs (q9F hd _)
  | live i=>
   rw[hs]at e;have hne:(h+1==h)=false:=by simp only[beq_eq_false_iff_ne,ne_eq];omega
   dsimp only at e
   rw[hne]at e;refine ih _ m ?_ e;unfold SetTable.advance
   split
   ·exact hp
   ·exact hp
theorem qb8{t:SetTable}(hd:t.dummies=#[]){h:Int}{slot:Nat}{b:Bool}(e:t.freeSlot h=some (slot,b)):b=false/\t.place[AA]?≠some slot:=by
 unfold SetTable.freeSlot at e;cases q:t.probe (λ_=>h+1) h (t.probeStart h)with
 | none=>rw[q]at e;cases e
 | some m=>
  rw[q]at e;obtain⟨j,rfl,hs⟩:=qbq hd _ _ m (by rfl) q;cases e;refine⟨rfl,HP⟩;unfold SetTable.slot at hs
  dsimp only at hs
  have:(t.place[PN]?==some j)=true:=by
   rw[show t.place[PN]?=some j from z];simp
  rw[vH this]at hs;cases hs
theorem qcY(n:Nat):zBb (Array.range n):=by
 unfold zBb;rw[Array.toList_range];exact Zc
theorem q2Y(t:SetTable)(n:Nat):Tb (t.standIn n) n:=by
 refine⟨?_,qcY n,rfl⟩;unfold SetTable.fits SetTable.standIn SetTable.fill;simp;omega
theorem qkJ{t:SetTable}{n:Nat}(h:zBb t.place)(hd:t.dummies=#[]):Tb (t.orStandIn n) n:=by
 unfold SetTable.orStandIn
 by_cases z:t.fits n=true
 ·rw[gz];exact⟨z,h,hd⟩
 ·rw[gc];exact q2Y t n
theorem qks(t:SetTable)(n:Nat):(t.orStandIn n).led=t.led:=by
 unfold SetTable.orStandIn
 split <;> rfl
theorem qdL{t:SetTable}{es:lN}{h:Int}{x:vB}(T:Tb t es.size):
  (layNew t es h x).2.2.1=false/\Tb (layNew t es h x).2.1 (layNew t es h x).1.size/\(layNew t es h x).2.1.led=t.led/\(layNew t es h x).1.toList.Perm ((h,x)::es.toList):=by
 unfold layNew;cases q:t.freeSlot h with
 | none=>
  refine⟨rfl,?_,rfl,?_⟩
  ·rw[Zm];exact q2Y t _
  ·rw[ZL]
   exact List.perm_append_singleton _ _
 | some p=>
  obtain⟨slot,b⟩:=p;obtain⟨rfl,hn⟩:=qb8 T.dum q;have hd:(t.put slot).1.dummies=#[]:=by
   unfold SetTable.put
   dsimp only
   rw[T.dum];simp[SetTable.has]
  refine⟨rfl,qkJ (qb2 T.rise hn) hd,(qks _ _).trans rfl,?_⟩;rw[q53];refine xC ZS ?_;rw[yG]
theorem q6r{α:Type}{f:α->Option α}(h:∀x y,f x=some y->y=x):∀l:List α,(l.filterMap f).Sublist l
 | []=>by simp
 | a::r=>by
  rw[xv];cases q:f a with
  | none=>exact(q6r h r).cons a
  | some b=>rw[h a b q];exact(q6r h r).cons_cons a
theorem q7o{α:Type}:∀l:List α,(zo l.length).filterMap (λi=>l[i]?)=l
 | []=>rfl
 | a::r=>by
  rw[zI,Zd,xv];simp only[xy];rw[YB];have e:((λi=>(a::r)[i]?) ∘ Nat.succ)=λi=>r[i]?:=by funext i;simp
  rw[e,q7o r]
theorem qiE{mask finger moves:Nat}{led plain:Bool}{hs:Array Int}{t:SetTable}{o:DB}(e:SetTable.laid mask finger moves led plain hs=some (t,o)):zBb t.place/\t.dummies=#[]/\t.led=led:=by
 unfold SetTable.laid at e;cases q:SetTable.layClean mask hs with
 | none=>rw[q]at e;cases e
 | some owner=>
  rw[q]at e;cases e;refine⟨?_,rfl,rfl⟩;unfold zBb
  dsimp only
  rw[List.map_filterMap];refine wX (q6r (λx y z=>?_) _) Zc;cases q2:owner.getD x none with
  | none=>rw[q2]at z;cases z
  | some c=>rw[q2]at z;exact(zy z).symm
theorem qgf{t:SetTable}{es:lN}(w:Nat):Tb (relayAll t es w).2.1 (relayAll t es w).1.size/\(relayAll t es w).2.1.led=t.led/\(relayAll t es w).1.toList.Perm es.toList:=by
 unfold relayAll;cases q:t.relaid (es.map (·.1)) w with
 | none=>exact QY
 | some p=>
  obtain⟨t',order⟩:=p
  dsimp only
  obtain⟨h1,h2,h3⟩:=qiE q
  by_cases z:(coversAll order es.size&&t'.fits (order.filterMap (es[·]?)).size)=true
  ·rw[gz]
   rw[yN]at z;refine⟨⟨z.2,h1,h2⟩,h3,?_⟩;have hp:order.toList.Perm Pc:=List.isPerm_iff.mp z.1;rw[Array.toList_filterMap];have e:(λ(i:Nat)=>es[i]?)=λ(i:Nat)=>es.toList[i]?:=by funext i;simp
   rw[e];have q2:=hp.filterMap λi=>es.toList[i]?;rw[<- zK,q7o]at q2;exact q2
  ·rw[gc]
   exact QY
end Hk
namespace Hk
open PySem PySem.Spec PyProof.Rows
noncomputable def vI:vB->Int
 | .int i _=>i
 | _=>0
def zAU(e:di):Prop:=∃x t,e=(rC x,Value.int x t)
theorem qcV{prog:vU}{w:vZ}{l:KA}(h:∀e∈l,zAU e):ElemsOf (tJ prog w) l:=λe he=>by
 obtain⟨x,t,rfl⟩:=h e he;exact⟨⟨x,FV,rfl⟩,rfl⟩
def zAt(h:vm)(a:vG)(led:Bool)(xs:af):Prop:=∃o es ep t,h.get? a=some o/\o.ExactSet/\o.data=.set es ep t/\Tb t es.size/\t.led=led/\es.size<uq /\
 (∀e∈es.toList,zAU e)/\es.toList.map Bt=xs/\xs.Nodup
theorem zAt.len{h:vm}{a:vG}{led:Bool}{xs:af}(S:zAt h a led xs):xs.length<uq:=by
 obtain⟨o,es,ep,t,_,_,_,_,_,z,_,e,_⟩:=S;rw[<- e,zA,zK];exact z
theorem zAt.at{h h':vm}{a:vG}{led:Bool}{xs:af}(S:zAt h a led xs)(k:∀o,h.get? a=some o->h'.get? a=some o):zAt h' a led xs:=by
 obtain⟨o,es,ep,t,e,r⟩:=S;exact⟨o,es,ep,t,k o e,r⟩
theorem qbI{prog:vU}{w:vZ}{e:di}(h:zAU e)(x:Int):(tJ prog w).is x e.2=decide (vI e.2=x):=by
 obtain⟨y,t,rfl⟩:=h;show Value.isInt x (.int y t)=decide (y=x)
 by_cases z:y=x
 ·subst z;simp[Value.isInt]
 ·simp[Value.isInt,z]
theorem qdQ{prog:vU}{w:vZ}{l:KA}(h:∀e∈l,zAU e){x:Int}(q:l.findIdx? r8=none):x∉l.map Bt:=λz=>by
 obtain⟨e,he,ex⟩:=zz.mp z;have:=List.findIdx?_eq_none_iff.mp q e he;rw[qbI (h e he),ex]at this;simp at this
theorem qfA{prog:vU}{w:vZ}{l:KA}(h:∀e∈l,zAU e){x:Int}{j:Nat}(q:l.findIdx? r8=some j):x∈l.map Bt:=by
 obtain⟨hj,hp,_⟩:=List.findIdx?_eq_some_iff_getElem.mp q;rw[qbI (h _ (yk hj))]at hp;exact zz.mpr ⟨_,yk hj,of_decide_eq_true hp⟩
section
variable{prog:vU}{w:vZ}{A:vf}{E:vB->vC->Prop}{s:vC}
theorem qcd{h:vm}{a:vG}{o:Obj}{es es':lN}{ep:Nat}{t t':SetTable}{led:Bool}{xs:af}(go:h.get? a=some o)(gx:o.ExactSet)(gd:cQ)(T:Tb t' es'.size)(gl:t'.led=led)(gb:es'.size<uq)(gg:∀e∈es'.toList,zAU e)(gv:es'.toList.map Bt=xs)(gn:xs.Nodup):
  (h.update a Gn).get? a=some { o with data:=.set es' (ep+1) t' }/\zAt (h.update a Gn) a led xs:=by
 have q:=xI Gn go (by rw[Vh];rfl);rw[Vh]at q;exact⟨q,_,es',ep+1,t',q,gx,rfl,T,gl,gb,gg,gv,gn⟩
theorem qfd{g:Bool->Sem Unit}(gw:∀(b:Bool)(s1:vC)(Q':pb),Q' () s1->vM aj A (g b) Q' E s1){a:vG}{o:Obj}{es es1:lN}{ep:Nat}{t t2:SetTable}{led:Bool}{xs:af}(go:eV)(gx:o.ExactSet)(gd:cQ)(T:Tb t2 es1.size)(gl:t2.led=led)(gb:es1.size<uq)(gg:∀e∈es1.toList,zAU e)(gv:es1.toList.map Bt=xs)(gn:xs.Nodup){dm:Bool}{R:Option Bool->vC->Prop}(k:∀h' ys,xn a s.heap h'->zAt h' a led ys->ys.Perm xs->R EA { s with heap:=h' }):
  vM aj A (do
    storeSet a es1 t2
    if (!dm&&t2.tooFull)=true then do
      g (relayAll t2 es1 jG).2.2
      storeSet a (relayAll t2 es1 jG).1 (relayAll t2 es1 jG).2.1
      pure EA
     else pure EA) R E s:=by
 refine vA (wpAny_storeSet_of go gd ?_ (fits_of_scanBound gb));obtain⟨g1,S1⟩:=qcd go gx gd T gl gb gg gv gn;have sb:=Z0 s.heap a (Obj.putSet es1 t2)
 split
 ·obtain⟨T2,l2,p2⟩:=qgf (t:=t2) (es:=es1) jG
  generalize relayAll t2 es1 jG=rl at T2 l2 p2 ⊢;obtain⟨es2,t3,gv2⟩:=rl
  dsimp only at T2 l2 p2 ⊢
  have hz:es2.size=es1.size:=by rw[<- zK,p2.length_eq,zK]
  have gb2:es2.size<uq:=by rw[hz];exact gb
  have pv:(es2.toList.map λe=>vI e.2).Perm xs:=by rw[<- gv];exact p2.map _
  refine vA (gw _ _ _ ?_);refine vA (wpAny_storeSet_of g1 rfl ?_ (fits_of_scanBound gb2));obtain⟨_,S2⟩:=qcd g1 gx rfl T2 (l2.trans gl) gb2 (λe he=>gg e (p2.mem_iff.mp he)) rfl (pv.nodup_iff.mpr gn);exact vF (k _ _ (sb.trans (Z0 _ a _)) S2 pv)
 ·exact vF (k _ _ sb S1 (xh _))
theorem qkF{a:vG}{led:Bool}{xs:af}{x:Int}{tk:Tok}{Q:mM}(S:zAt s.heap a led xs)(room:xs.length+1<uq)(k:∀b h' ys,xn a s.heap h'->zAt h' a led ys->(x∈xs->ys=xs)->(x∉xs->ys.Perm NI)->Q b { s with heap:=h' }):
  vM aj A (setAddHashed a (.int x tk) (rC x)) Q E s:=by
 obtain⟨o,es,ep,t,go,gx,gd,T,gl,gb,gg,gv,gn⟩:=id S;have hl:es.size=xs.length:=by rw[<- gv,zA,zK]
 have el:ElemsOf (tJ prog w) es.toList:=qcV gg;unfold setAddHashed setAddHashedIn;refine vh (vA Rf)
 dsimp only
 rw[byScan_of (knd:=tJ prog w) (x:=.int x tk) rfl gb el];simp only[↓reduceIte];unfold setAddByScan;refine vA (vA (v9 (vA (wpAny_setScan_of (knd:=tJ prog w) (k:=x) FV go gd T.fits el ?_))));cases q:List.findIdx? r8 es.toList with
 | some j=>
  dsimp only
  have hx:x∈xs:=by rw[<- gv];exact qfA gg q
  refine vF eP;exact k false s.heap xs (YL a s.heap) S Fb λz=>vP hx z
 | none=>
  dsimp only
  have hx:x∉xs:=by rw[<- gv];exact qdQ gg q
  obtain⟨d0,T1,l1,p1⟩:=qdL (t:=t) (es:=es) (h:=rC x) (x:=.int x tk) T;generalize layNew t es (rC x) (.int x tk)=ly at d0 T1 l1 p1 ⊢;obtain⟨es1,t1,dm,gave⟩:=ly
  dsimp only at d0 T1 l1 p1 ⊢
  have gg1:∀e∈es1.toList,zAU e:=λe he=>by
   rcases zF.mp (p1.mem_iff.mp he)with rfl|he
   ·exact⟨x,tk,rfl⟩
   ·exact gg e he
  have pv:(es1.toList.map λe=>vI e.2).Perm NI:=by rw[<- gv];exact p1.map _
  have gn1:(es1.toList.map λe=>vI e.2).Nodup:=pv.nodup_iff.mpr (yj.mpr ⟨hx,gn⟩);have gb1:es1.size<uq:=by
   have:=pv.length_eq;rw[zA,zK,zI]at this;omega
  have gw:∀(b:Bool)(s1:vC)(Q':pb),Q' () s1->vM aj A (match b with|true=>rule "set.scan.the-table-gave-way" | false=>pure ()) Q' E s1 :=
   λb s1 Q' z=>by cases b <;> first|exact vF z|exact v9 z
  refine vA (gw _ _ _ ?_);have fin:∀h' ys,xn a s.heap h'->zAt h' a led ys->ys.Perm (es1.toList.map λe=>vI e.2)->Q true { s with heap:=h' }:=λh' ys sb S' p=>k true h' ys sb S' (λz=>vP z hx) λ_=>p.trans pv
  split
  ·refine vA ?_
   rw[hashByValue_scannable 8 (x:=Value.int x tk) rfl];refine vF ?_;refine qfd (λb s1 Q' z=>by cases b <;> first|exact vF z|exact v9 z) go gx gd T1 (l1.trans gl) gb1 gg1 rfl gn1 λh' ys sb S' p=>?_;exact vF SG
  ·refine vA eP
   simp only[↓reduceIte];refine qfd (λb s1 Q' z=>by cases b <;> first|exact vF z|exact v9 z) go gx gd T1 (l1.trans gl) gb1 gg1 rfl gn1 λh' ys sb S' p=>?_;exact vF SG
end
def zCO(h:vm)(S:vG)(led:Bool)(val:UA)(m:Nat):Prop:=∃xs,zAt h S led xs/\xs.length<=m/\∀x,x∈xs↔∃i,i<m/\val i=x
theorem zCO.at{h h':vm}{a:vG}{led:Bool}{val:UA}{m:Nat}(S:zCO h a led val m)(k:∀o,h.get? a=some o->h'.get? a=some o):zCO h' a led val m:=by
 obtain⟨xs,q,r⟩:=S;exact⟨xs,q.at k,r⟩
section
variable{prog:vU}{w:vZ}{A:vf}{R:sS->vC->Prop}{I:vG}{fp wr:List vG}{G:Array t4->Array t4->Prop}{n:Nat}{P:Nat->vB->Prop}{St:Nat->vC->Prop}
theorem zCy(W:WalksS prog w A.in1 I fp wr G n P St)(S:vG)(hS:S∉fp){led:Bool}(val:UA)(hv:∀i v,P i v->∃t,v=.int (val i) t)(hb:n+1<uq):
  ∀(k i:Nat)(s:vC),n-i=k->i<=n->St i s->zCO s.heap S led val i->(∀s',Moved (S::wr) G s s'->zCO s'.heap S led val n->R (.ok (.ret .none)) s') ->
   uh aj A (.builtin "set.update.loop" ⟨[gu,BY],[]⟩) R s:=by
 have hw:S∉wr:=λz=>hS (W.sub _ z);have hsub:∀b∈wr,b∈S::wr:=λb z=>zH _ z;intro k
 induction k with
 | zero=>
  intro i s hk hi st SV hR;have hin:i=n:=∅
  subst hin;refine uQ PyProof.Rows.F.entry_set_update_loop ?_;rw[pJ];show vM _ A.in1 (uK BY >>= _) _ _ s;refine vA (W.done s _ _ st λs' hm=>?_);show vM _ A.in1 aaC _ _ s';exact vF (hR s' (hm.mono hsub) (SV.at λo e=>hm.heap S o hw e))
 | succ k ih=>
  intro i s hk hi st SV hR;have hlt:i<n:=∅
  refine uQ PyProof.Rows.F.entry_set_update_loop ?_;rw[pJ];show vM _ A.in1 (uK BY >>= _) _ _ s;refine vA (W.item i s _ _ hlt st λv s1 hP st1 hm=>?_);obtain⟨t,rfl⟩:=hv i v hP;obtain⟨xs,S1,hl,hx⟩:=SV.at (h':=s1.heap) λo e=>hm.heap S o hw e;show vM _ A.in1 (holding [Value.int (val i) t] (setAdd S (.int (val i) t)) >>= _) _ _ s1;refine vA Fy;unfold setAdd;refine vh ?_;refine vA ((tJ prog w).pyHash (k:=val i) FV ?_);refine qkF (s:={ s1 with toks:=s1.toks+1 }) (x:=val i) S1 ∅ λb h' ys sb S2 y1 y2=>?_;have SV2:zCO h' S led val (i+1):=by
   refine⟨ys,S2,?_,λx=>?_⟩
   ·by_cases z:val i∈xs
    ·rw[y1 z];omega
    ·rw[(y2 z).length_eq,zI];omega
   ·by_cases z:val i∈xs
    ·rw[y1 z,hx]
     refine⟨λ⟨j,h1,h2⟩=>Fp,λ⟨j,h1,h2⟩=>?_⟩
     by_cases e:j=i
     ·subst e;exact(hx x).mp (by rw[<- h2];exact z)
     ·exact Fp
    ·rw[(y2 z).mem_iff,zF,hx]
     refine⟨λh=>?_,λ⟨j,h1,h2⟩=>?_⟩
     ·rcases h with h|⟨j,h1,h2⟩
      ·exact⟨i,∅,h.symm⟩
      ·exact Fp
     ·by_cases e:j=i
      ·subst e;exact .inl h2.symm
      ·exact .inr Fp
  refine vF ⟨uV PyProof.Rows.F.plain_set_update_loop _,ih (i+1) _ ∅ hlt (W.frame _ s1 _ _ st1 M9 λb z o e=>?_) SV2 λs2 hm2 S3=>?_⟩
  ·rw[sb.2 b (λy:b=S=>hS (by rw[<- y];exact z))];exact e
  ·refine hR s2 (Moved.trans W.gtrans ((hm.mono hsub).then_heap M9 λb o z e=>?_) hm2) S3
   rw[sb.2 b (λy:b=S=>z (by rw[y];exact zE))];exact e
end
noncomputable abbrev WF(w:vZ):Bool:=!w.params.followText "set-order"
section
variable{prog:vU}{w:vZ}{A:vf}{E:vB->vC->Prop}{s:vC}
theorem qit(a:vB){Q1:aH}(h:Q1 aC { s with heap:=s.heap.push { cls:=.type "set", data:=.set #[] 0 fz } }):
  uh aj A (.call (.builtin "set.__new__") KJ) (wants Q1 E) s:=by
 refine codeAny_of_tree ?_;show vM _ A.in1 (checkBuiltinCall "set.__new__" KJ >>= λ_=>again (.builtin "set.__new__" KJ)) _ _ s;refine vA (sy (PySem.F.newCall_set_1 a) (vF ⟨uV PySem.F.plain_set_new _,uQ PySem.F.entry_set_new ?_⟩));rw[Around.under_plainId PySem.F.plain_set_new _];unfold Builtin.«set.__new__» Builtin.Frozenset.newClass;have p1:=sub_set_self;obtain⟨hp,g,d,tk,os⟩:=s
 dsimp only
 wp_walk
 refine tY eP
 dsimp only
 simp only[newObj];refine vA (wpAny_alloc eP);exact vF h
set_option maxHeartbeats 3200000 in
theorem qb6{l:vG}{items:cK}{ns:af}{Q:aH}(hh:bU)(il:EF)(ia:uH items.toList ns)(hb:items.size+1<uq)(k:∀(h':vm)(tk:Nat),zCO h' s.heap.objs.size QE ig items.size->(∀b o,b<s.heap.objs.size->s.heap.get? b=some o->h'.get? b=some o)->Q aC { s with heap:=h',toks:=tk }):
  vM aj A (call mt [cF]) Q E s:=by
 obtain⟨c,tl,c1⟩:=PySem.F.called_set.mro;have c2:=PySem.F.called_set.made;have c3:=PySem.F.called_set.sub;refine wpAny_call (codeAny_of_tree ?_);show vM _ _ (callAny mt _) _ _ _;refine vF ⟨Code.quiet_builtin _ ⋯,uQ PySem.F.entry_type_call ?_⟩;rw[Around.under_plain (weight_type_call_type "set" [cF] []) rfl];have c4:=PySem.F.called_set.notType;have c5:=PySem.F.called_set.canCreate;have c6:=PySem.F.typeCall_set_1 cF
 repeat (any_goals (first|assumption|wp_step))
 refine um (qit cF (E:=E) (Q1:=λobj s1=>obj=.ref s.heap.objs.size/\s1={ s with heap:=s.heap.push { cls:=.type "set", data:=.set #[] 0 fz } }) cT) λr s1 hr=>?_;cases r with
 | error e=>exact hr
 | ok fl=>
  cases fl with
  | ret obj=>
   obtain⟨rfl,rfl⟩:=hr;have hS:(s.heap.push { cls:=.type "set", data:=.set #[] 0 fz }).get? s.heap.objs.size=some { cls:=.type "set", data:=.set #[] 0 fz }:=zS _ rfl;have hT:Shared.TypeIs { s with heap:=s.heap.push { cls:=.type "set", data:=.set #[] 0 fz } } aC "set" := ⟨_,hS,rfl⟩;have c7:=PySem.F.called_set.init.lookup;have c8:=PySem.F.called_set.init.bind aC
   repeat (any_goals (first|assumption|wp_step))
   refine um (codeAny_call_builtin (R:=wants (λr s2=>r=.none/\∃h' tk,s2={ s with heap:=h',toks:=tk }/\zCO h' s.heap.objs.size QE ig items.size /\
     (∀b o,b<s.heap.objs.size->s.heap.get? b=some o->h'.get? b=some o)) E) PySem.F.called_set.init.plain PySem.F.entry_set_init (check_set_init_1 hT ?_)) λr2 s2 hr2=>?_
   ·obtain⟨ol,e1,e2,nl,e3⟩:=il
    obtain⟨ocls,odict,odata,oslots⟩:=ol;simp only at e2 e3;subst e2;subst e3;have e1':(s.heap.push { cls:=.type "set", data:=.set #[] 0 fz }).get? l=some { cls:=.type "list", dict:=odict,data:=.seq items nl,slots:=oslots }:=zG _ e1;have d1:=PySem.F.sub_list_set;have d2:=PySem.F.sub_list_frozenset;have d3:(Value.type "list" == Value.type "dict")=false:=by decide
    have il1:(s.heap.push { cls:=.type "set", data:=.set #[] 0 fz }).IsList l items:=⟨_,e1',rfl,nl,rfl⟩;unfold Builtin.«set.__init__» noKeywords Builtin.Frozenset.updateFrom;generalize hPI:sP=PI
    wp_walk
    subst hPI;refine uy il1 ?_;refine vA (wpAny_runValue ?_);have lS:l<s.heap.objs.size:=zM e1;have h3:A.in1.in1.in1.handled=none:=by simp[hh]
    have nI:l≠(s.heap.push { cls:=.type "set", data:=.set #[] 0 fz }).objs.size:=by rw[yf];exact zu (yS lS)
    have nS:s.heap.objs.size∉[(s.heap.push { cls:=.type "set", data:=.set #[] 0 fz }).objs.size,l]:=by
     rw[yf];simp only[zF,zR,zd,or_false,not_or];exact⟨zu Ts,xo lS⟩
    have hv:∀(i:Nat)(v:vB),items[i]?=some v->∃t,v=.int ((λi=>ns.getD i 0) i) t:=λi v z=>IntsAre.int_at ia i v (by rw[zc];exact z);refine zCy ((Walks.list h3 _ l nI items).toS) s.heap.objs.size nS (led:=WF w) ig hv hb (items.size-0) 0 _ ∅ B5 ⟨k7,(il1.push _)⟩ ?S0 ?RR
    case S0=>
     refine⟨[],⟨_,#[],0,.fresh 0 0 QE,zG _ hS,abf,rfl,⟨rfl,xQ,rfl⟩,rfl,by show 0<uq;decide,λe z=>by simp at z,rfl,xi⟩,bM,λx=>⟨λz=>(by cases z),λ⟨i,z,_⟩=>vP z Tz⟩⟩
    case RR=>
     intro s' hm S';obtain⟨h',g',d',tk',os'⟩:=s';have eg:g'=s.gens:=hm.gens;have ed:d'=s.drawn:=hm.drawn;have eos:os'=s.os:=hm.os;subst eg;subst ed;subst eos;show vM _ _ _ _ _ _;refine vF ?_;show vM _ _ aaC _ _ _;refine vF ⟨rfl,h',tk',rfl,S',λb o z y=>?_⟩;refine hm.heap b o ?_ (zG _ (zG _ y));simp only[zF,zR,zd,or_false,not_or];exact⟨zu z,by rw[yf];exact zu (yS z)⟩
   ·cases r2 with
    | error e=>exact hr2
    | ok fl2=>
     cases fl2 with
     | ret r=>
      obtain⟨rfl,h',tk,rfl,S',kp⟩:=hr2
      repeat (any_goals (first|assumption|wp_step))
      exact k _ _ S' kp
     | next=>exact hr2.elim
     | brk=>exact hr2.elim
     | cont=>exact hr2.elim
  | next=>exact hr.elim
  | brk=>exact hr.elim
  | cont=>exact hr.elim
end
end Hk
namespace PySem.F
theorem slotSetNext:Slot "set_iterator" "__next__" "set_iterator.__next__" := .of (owner := "set_iterator") (n := "__next__") (by rw[uR,v6];kernel_rfl) ⋯ ⋯ ⋯ (by first|exact .inl ⋯|exact .inr ⋯) (by rw[uz];kernel_rfl)
theorem slotSetIt:Slot "set_iterator" "__iter__" "set_iterator.__iter__" := .of (owner := "set_iterator") (n := "__iter__") (by rw[uR,v6];kernel_rfl) ⋯ ⋯ ⋯ (by first|exact .inl ⋯|exact .inr ⋯) (by rw[uz];kernel_rfl)
theorem zBG:Manifest.owners.lookup (String.ofList ['r','o','t','a','r','e','t','i','_','t','e','s'].reverse)=some Manifest.sig_set_iterator:=by kernel_rfl
theorem argsSetNext(a:vB):rF "set_iterator.__next__" Q0:=by
 unfold rF;rw[signature?_of (id := "set_iterator.__next__") (n:=['_','_','t','x','e','n','_','_']) (o:=['r','o','t','a','r','e','t','i','_','t','e','s']) (by kernel_rfl) zBG]
 kernel_rfl
theorem argsSetIt(a:vB):rF "set_iterator.__iter__" Q0:=by
 unfold rF;rw[signature?_of (id := "set_iterator.__iter__") (n:=['_','_','r','e','t','i','_','_']) (o:=['r','o','t','a','r','e','t','i','_','t','e','s']) (by kernel_rfl) zBG]
 kernel_rfl
theorem entSetNext:entryFor table "set_iterator.__next__" = some Builtin.«set_iterator.__next__»:=entryFor_of_tree (by kernel_rfl)
theorem entSetIter:entryFor table "set.__iter__" = some Builtin.«frozenset.__iter__»:=entryFor_alias (id' := "frozenset.__iter__") (by kernel_rfl) rfl ⋯ (by kernel_rfl)
theorem entSetIt:entryFor table "set_iterator.__iter__" = some Builtin.«dict_keyiterator.__iter__»:=entryFor_alias (id' := "dict_keyiterator.__iter__") (by kernel_rfl) rfl ⋯ (by kernel_rfl)
end PySem.F
namespace Hk
open PySem PySem.Spec PyProof.Rows
section
variable{prog:vU}{w:vZ}{A:vf}{E:vB->vC->Prop}{s:vC}
theorem q4Q{α:Type}:∀(l:bE)(k:Nat)(h:k<l.length),(l[k]::l.eraseIdx k).Perm l
 | a::r,0,_=>xh _
 | a::r,k+1,h=>by
  have h':k<r.length:=by simpa using h
  show (r[k]::a::r.eraseIdx k).Perm (a::r);exact(List.Perm.swap a r[k] _).trans ((q4Q r k h').cons a)
theorem qbP{α:Type}(next:Nat->Nat):∀(fuel k:Nat)(left:bE)(out:Array α),left.length=fuel->(pickOrder.go next fuel k left out).toList.Perm (out.toList++left)
 | 0,k,left,out,h=>by
  have e:left=[]:=yw h;subst e;unfold pickOrder.go;rw[zk]
 | fuel+1,k,left,out,h=>by
  unfold pickOrder.go;have hlt:next k%left.length<left.length:=Nat.mod_lt _ ∅
  rw[GH]
  dsimp only
  refine(qbP next fuel (k+1) _ _ (by rw[wy hlt,h];rfl)).trans ?_;rw[ZL,zO];exact yW _ (q4Q left _ hlt)
theorem qez{α:Type}(next:Nat->Nat)(xs:Array α):(u8 next xs).toList.Perm xs.toList:=by
 have:=qbP next xs.size 0 xs.toList #[] (by simp)
 simpa [u8]using this
theorem qfk{M:Model}{src:Source}{n:Nat}{Q:Nat->vC->Prop}(hn:n≠0)(h:Q (M.w.draws src (s.drawn.get src)%n) { s with drawn:=s.drawn.bump src }):vM M A (choose src n) Q E s:=λ_ _ _=>⟨hn,h⟩
theorem q5c{M:Model}{α:Type}:∀(n:Nat)(xs:bE)(s:vC)(Q:List α->vC->Prop),xs.length=n->(∀ys d,ys.Perm xs->Q ys { s with drawn:=d })->vM M A (drawOrder n xs) Q E s
 | 0,xs,s,Q,hl,h=>by
  have e:xs=[]:=yw hl;subst e;exact vF (h [] s.drawn (xh _))
 | n+1,[],s,Q,hl,h=>by cases hl
 | n+1,x::r,s,Q,hl,h=>by
  unfold drawOrder;refine vA (qfk (by simp) ?_);generalize hk:M.w.draws Source.order (s.drawn.get Source.order)%(x::r).length=k;have hlt:k<(x::r).length:=by rw[<- hk];exact Nat.mod_lt _ (by simp)
  rw[GH]
  dsimp only
  have hl2:((x::r).eraseIdx k).length=n:=by rw[wy hlt,hl];rfl
  refine vA (q5c n _ _ _ hl2 λys d p=>vF (h _ d ?_));refine xC (p.cons _) ?_;exact q4Q _ k hlt
end
noncomputable abbrev Wj(f:vB)(i:Nat)(a:vG)(n ep:Nat):Obj:={ cls:=.type "set_iterator", data:=.fields #[f,.int i 0,dq,.int n 0,.int ep 0] }
section
variable{prog:vU}{w:vZ}{A:vf}{E:vB->vC->Prop}{s:vC}
theorem q1Z{a:vG}{o:Obj}{es:lN}{ep:Nat}{t:SetTable}{Q:aa3}(go:eV)(gd:cQ)(gf:eE)(h:Q es s):vM aj A (setEntries a) Q E s:=by
 unfold setEntries;exact vA (v7 go gd gf U6)
theorem qeJ{it a:vG}{slot i n ep:Nat}{o:Obj}{es:lN}{t:SetTable}{x:vB}{nxt:Nat}{Q:cR}(e:BT)(go:eV)(gd:cQ)(gf:eE)(hn:Qw)(hnext:∀A' Q' E',Q' (some (x,nxt)) s->vM aj A' B9 Q' E' s)(k:∀h',h'.get? it=some (Wj (.int nxt 0) (i+1) a n ep)->xn it s.heap h'->Q (some x) { s with heap:=h' }):
  vM aj A U9 Q E s:=by
 have hT:s.TypeIs iu "set_iterator" := fL;unfold uK;refine vA aS;unfold Builtin.«set_iterator.__next__»;refine vA (m:=sZ "__next__" 0 HM) eP;refine vA GK
 dsimp only
 refine vA Bk;rw[vJ (by rw[hn];simp)];simp only[yr];refine vA aaI
 dsimp only
 refine vA (vo e (by simp) λh1 e1 sb1=>?_);refine vA (vo (s:={ s with heap:=h1 }) e1 (by simp) λh2 e2 sb2=>?_);refine vF ⟨_,rfl,vF (k h2 ?_ (sb1.trans sb2))⟩;rw[e2];simp[uE]
theorem qdM{it a:vG}{slot i n ep:Nat}{o:Obj}{es:lN}{t:SetTable}{Q:cR}(hh:bU)(e:BT)(go:eV)(gd:cQ)(gf:eE)(hn:Qw)(hnext:∀A' Q' E',Q' none s->vM aj A' B9 Q' E' s)(k:∀h',Heap.ExtBut it s.heap h'->Q none { s with heap:=h' }):
  vM aj A U9 Q E s:=by
 have hT:s.TypeIs iu "set_iterator" := fL;unfold uK;refine vA aS;unfold Builtin.«set_iterator.__next__»;refine vA (m:=sZ "__next__" 0 HM) eP;refine vA GK
 dsimp only
 refine vA Bk;rw[vJ (by rw[hn];simp)];simp only[yr];refine vA aaI
 dsimp only
 refine vA (vo e (by simp) λh1 e1 sb1=>?_);show vM _ _ (newExc O2 [] >>= λx=>rG x) _ _ _;refine vA ?_;simp only[newExc,newTuple];refine vA (vq ?_ (by size_fits));refine vA (m:=tO _ _) (sy (a:=Value.none) (by first|rfl|(simp only[tO];rfl)) ?_);refine vq ?_ (by size_fits);simp only[rG];refine vA Tx;rw[show A.in1.handled=none from hh];refine vA Qe;refine vA (uL (T := "StopIteration") (b:=true) NA ui ?_);exact vF (k _ ((sb1.extBut.push _).push _))
end
section
variable{prog:vU}{w:vZ}{A:vf}{E:vB->vC->Prop}{s:vC}
theorem q3N{Q:mM}(h:Q (w.params.followText "set-order") s):vM aj A setsByText Q E s:=by
 unfold setsByText;exact vA (tY U6)
theorem q7f{a:vG}{o:Obj}{es:lN}{ep:Nat}{t:SetTable}{slot i:Nat}{r:Option (vB×Nat)}{Q:Og}(go:eV)(gd:cQ)(gf:eE)(hB:w.params.followText "set-order" = false)(hl:t.led=true)(hd:(!t.plain&&decide (es.size>1))=false)(hr:(match es[AA]?,t.place[AA]? with|some (_,x),some j=>some (x,j+1)|_,_=>none)=r)(h:Q r s):vM aj A B9 Q E s:=by
 unfold tL;refine vA B6
 dsimp only
 refine vA (q3N ?_);rw[hB];refine vg (λz=>vP z (by decide)) eG;refine vg (λz=>vP ((show (!t.plain&&decide (es.size>1))=true from z).symm.trans hd) (by decide)) eG;refine vA ?_;refine vg HP eG
 ·have z':(!t.led && !es.isEmpty)=true:=z
  rw[hl]at z';exact vP z' (by simp)
 ·refine vF ?_
  refine vF ?_;rw[<- hr]at h;exact h
theorem qfv{a:vG}{o:Obj}{es:lN}{ep:Nat}{t:SetTable}{Q:aa3}(go:eV)(gd:cQ)(gf:eE)(hB:Fx)(h:Q (u8 fG es) s):vM aj A (setWalk a) Q E s:=by
 unfold setWalk;refine vA B6
 dsimp only
 refine vA (q3N ?_);rw[hB];refine vg eG abh;exact vA (tY U6)
theorem q8c{a:vG}{o:Obj}{es:lN}{ep:Nat}{t:SetTable}{slot i:Nat}{Q:Og}(go:eV)(gd:cQ)(gf:eE)(hB:Fx)(h:Q (((u8 fG es)[i]?).map λe=>(e.2,slot)) s):vM aj A B9 Q E s:=by
 unfold tL;refine vA B6
 dsimp only
 refine vA (q3N ?_);rw[hB];refine vg eG abh;refine vg (λz=>vP z (by simp)) eG;exact vA (qfv go gd gf hB U6)
theorem qbJ{it:vG}{f:vB}{i:Nat}{a:vG}{n ep:Nat}{Q:aH}(e:s.heap.get? it=some (Wj f i a n ep))(h:Q iu s):vM aj A (sP iu) Q E s:=by
 have hT:s.TypeIs iu "set_iterator" := fL;refine tQ hT F.slotSetIt (vk F.slotSetIt hT F.entSetIt ?_ (F.argsSetIt _));show vM _ _ (ret iu) _ _ s;exact vF ⟨_,rfl, "set_iterator", _,hT,F.slotSetNext.lookup,h⟩
theorem qdj(hh:bU){I a:vG}(hne:a≠I){o:Obj}{es:lN}{ep:Nat}{t:SetTable}(gd:cQ)(gf:eE)(slot:Nat->Nat)(val:Nat->vB)(hn:∀(i:Nat)(s:vC),i<es.size->s.heap.get? a=some o->∀A' Q' E',Q' (some (val i,slot (i+1))) s->vM aj A' Rk Q' E' s)(hz:∀(s:vC),s.heap.get? a=some o->∀A' Q' E',Q' none s->vM aj A' IA Q' E' s):
  Walks prog w A I [I,a] [I] es.size aaf (λi h=>h.get? I=some Fl/\h.get? a=some o) where
 sub:=λb hb=>by simp at hb;simp[hb]
 frame:=λ_ _ _ st hk=>⟨hk I (by simp) _ st.1,hk a (by simp) _ st.2⟩
 item:=λi s Q E hi st hQ=>by
  refine qeJ st.1 st.2 gd gf rfl (hn i s hi st.2) λh' e' sb=>?_;exact hQ _ h' s.toks rfl ⟨e',sb.extBut a o hne st.2⟩ λb u hb e=>sb.extBut b u (λz=>hb (by simp[z])) e
 done:=λs Q E st hQ=>qdM hh st.1 st.2 gd gf rfl (hz s st.2) λh' eb=>hQ h' s.toks λb u hb e=>eb b u (λz=>hb (by simp[z])) e
 self:=λ_ _ _ _ st hQ=>qbJ st.1 hQ
theorem qd9{it a tp:vG}{i n ep p:Nat}{o:Obj}{es:lN}{t:SetTable}{x:di}{ps:cK}{ot:Obj}{nt:Nat}{Q:cR}(e:Dn)(go:eV)(gd:cQ)(gf:eE)(hn:Qw)(gt:Rm)(gtd:aaF)(hp:ps[i]?=some (.int p 0))(hx:es[p]?=some x)(k:∀h',h'.get? it=some (Wj ab5 (i+1) a n ep)->xn it s.heap h'->Q (some x.2) { s with heap:=h' }):
  vM aj A U9 Q E s:=by
 have hT:s.TypeIs iu "set_iterator" := fL;unfold uK;refine vA aS;unfold Builtin.«set_iterator.__next__»;refine vA (m:=sZ "__next__" 0 HM) eP;refine vA GK
 dsimp only
 refine vA Bk;rw[vJ (by rw[hn];simp)];refine vA acw
 dsimp only
 simp only[yr];rw[hp]
 dsimp only
 unfold setNextDrawn;refine vA (vA B6)
 dsimp only
 refine vg (λz=>vP z (by simp)) eG;simp only[yr];rw[hx];refine vF ?_;refine vA (vo e (by simp) λh1 e1 sb1=>?_);refine vF ⟨_,rfl,vF (k h1 ?_ sb1)⟩;rw[e1];simp[uE]
theorem qdd{it a tp:vG}{i n ep:Nat}{o:Obj}{es:lN}{t:SetTable}{ps:cK}{ot:Obj}{nt:Nat}{Q:cR}(hh:bU)(e:Dn)(go:eV)(gd:cQ)(gf:eE)(hn:Qw)(gt:Rm)(gtd:aaF)(hp:ps[i]?=none)(k:∀h',Heap.ExtBut it s.heap h'->Q none { s with heap:=h' }):
  vM aj A U9 Q E s:=by
 have hT:s.TypeIs iu "set_iterator" := fL;unfold uK;refine vA aS;unfold Builtin.«set_iterator.__next__»;refine vA (m:=sZ "__next__" 0 HM) eP;refine vA GK
 dsimp only
 refine vA Bk;rw[vJ (by rw[hn];simp)];refine vA acw
 dsimp only
 simp only[yr];rw[hp]
 dsimp only
 refine vA (vo e (by simp) λh1 e1 sb1=>?_);refine vA (vo (s:={ s with heap:=h1 }) e1 (by simp) λh2 e2 sb2=>?_);show vM _ _ (newExc O2 [] >>= λx=>rG x) _ _ _;refine vA ?_;simp only[newExc,newTuple];refine vA (vq ?_ (by size_fits));refine vA (m:=tO _ _) (sy (a:=Value.none) (by first|rfl|(simp only[tO];rfl)) ?_);refine vq ?_ (by size_fits);simp only[rG];refine vA Tx;rw[show A.in1.handled=none from hh];refine vA Qe;refine vA (uL (T := "StopIteration") (b:=true) NA ui ?_);exact vF (k _ (((sb1.trans sb2).extBut.push _).push _))
theorem qaT(hh:bU){I a tp:vG}(hne:a≠I)(htp:tp≠I){o:Obj}{es:lN}{ep:Nat}{t:SetTable}(gd:cQ)(gf:eE){ot:Obj}{nt:Nat}(ord:bW)(hp:ord.Perm Pc)(gtd:ot.data=.seq (ord.map λ(i:Nat)=>uE i).toArray nt):
  Walks prog w A I [I,a,tp] [I] es.size (λi v=>∃p x,ord[i]?=some p/\es[p]?=some x/\v=x.2) (λi h=>h.get? I=some (Wj ab5 i a es.size ep)/\h.get? a=some o/\h.get? tp=some ot) where
 sub:=λb hb=>by simp at hb;simp[hb]
 frame:=λ_ _ _ st hk=>⟨hk I (by simp) _ st.1,hk a (by simp) _ st.2.1,hk tp (by simp) _ st.2.2⟩
 item:=λi s Q E hi st hQ=>by
  have hl:ord.length=es.size:=by rw[hp.length_eq,zx]
  have ho:ord[i]?=some (ord[i]'∅):=zD _;have hlt:ord[i]'∅<es.size:=xA.mp (hp.mem_iff.mp (yk _));refine qd9 (p:=ord[i]'∅) (x:=es[ord[i]'∅]) st.1 st.2.1 gd gf rfl st.2.2 gtd (by simp[uE,ho]) (by simp[hlt]) λh' e' sb=>?_;exact hQ _ h' s.toks ⟨_,_,ho,by simp[hlt],rfl⟩ ⟨e',sb.extBut a o hne st.2.1,sb.extBut tp ot htp st.2.2⟩ λb u hb e=>sb.extBut b u (λz=>hb (by simp[z])) e
 done:=λs Q E st hQ=>qdd hh st.1 st.2.1 gd gf rfl st.2.2 gtd (by simp[hp.length_eq]) λh' eb=>hQ h' s.toks λb u hb e=>eb b u (λz=>hb (by simp[z])) e
 self:=λ_ _ _ _ st hQ=>qbJ st.1 hQ
end
end Hk
namespace PySem.F
theorem slotSetLen:u6 mt "__len__" = pure (some (.builtin "set.__len__")):=by rw[uR,v6];kernel_rfl
theorem slotSetIter:Slot "set" "__iter__" "set.__iter__" := .of (owner := "set") (n := "__iter__") (by rw[uR,v6];kernel_rfl) ⋯ ⋯ ⋯ (by first|exact .inl ⋯|exact .inr ⋯) (by rw[uz];kernel_rfl)
theorem argsSetIter(a:vB):rF "set.__iter__" Q0:=by
 unfold rF;kernel_rfl
end PySem.F
namespace Hk
open PySem PySem.Spec PyProof.Rows
noncomputable def slotAt(xs:DB):Nat->Nat
 | 0=>0
 | i+1=>xs.toList.getD i 0+1
theorem q7c{xs:DB}(h:zBb xs):∀i,i<=xs.size->SetTable.below xs (slotAt xs i)=i:=by
 intro i hi;obtain⟨h1,h2,h3⟩:=qaE h (slotAt xs i);have hz:xs.toList.length=xs.size:=zK;cases i with
 | zero=>
  rcases Nat.eq_zero_or_pos (SetTable.below xs (slotAt xs 0))with z|z
  ·exact z
  ·exact vP (h2 0 ∅ z) Tz
 | succ i=>
  have hlt:i<xs.toList.length:=∅
  have e:slotAt xs (i+1)=xs.toList[i]+1:=by
   show xs.toList.getD i 0+1=_;rw[zV,GH];rfl
  rw[e]at h2 h3 h1 ⊢;generalize SetTable.below xs (xs.toList[i]+1)=b at h1 h2 h3 ⊢;have a1:i<b:=by
   rcases zw i b with z|z
   ·exact z
   ·have:=h3 i hlt z;omega
  have a2:b<=i+1:=by
   rcases zw (i+1) b with z|z
   ·have y:=h2 (i+1) ∅ z
    have y':=q5X h hlt (show i+1<xs.toList.length by omega) (yd i);omega
   ·exact z
  omega
theorem qeV{val:Nat->vB}{n:Nat}{acc:cK}(h:ItemsOf aaf acc n):acc.toList=(zo n).map val:=by
 apply yx;intro i;rw[zc,zZ];rcases zw i n with z|z
 ·rw[xW z]
  have hz:i<acc.size:=by rw[h.1];exact z
  have:acc[i]?=some acc[i]:=yD hz;rw[this,h.2 i _ this];rfl
 ·rw[zn (by rw[zx];exact z),yn (by rw[h.1];exact z)];rfl
theorem q8H:∀{l:KA},(∀e∈l,zAU e)->uH (l.map (·.2)) (l.map λe=>vI e.2)
 | [],_=>.nil
 | e::r,h=>by
  obtain⟨x,t,rfl⟩:=h e zE;exact .cons _ _ (q8H λe he=>h e aal)
section
variable{prog:vU}{w:vZ}{A:vf}{E:vB->vC->Prop}{s:vC}
theorem qfU{r:vG}{Q:mM}(hT:s.TypeIs (.ref r) "set")(h:Q false s):vM aj A E1 Q E s:=by
 unfold Builtin.List.listLengthHint;refine vA (uf hT F.slotSetLen ?_);generalize hid:("set.__len__" : String)=id0
 wp_delta
 rw[show splitId id0=some ("set", "__len__")from by subst hid;decide +kernel];subst hid;refine vA (uL (T := "set") (b:=true) hT (by rw[uz];kernel_rfl) ?_);refine vg (λhab=>vP hab (by decide)) eG;refine vg eG Su;refine vA (uo hT ?_);exact vF h
theorem qfG{a:vG}{xs:af}{Q:aH}(S:oI)(k:∀(h':vm)(d:sr)(I:vG)(fp:df)(P:Nat->vB->Prop)(St:Nat->vm->Prop),(∀b o,s.heap.get? b=some o->h'.get? b=some o)->s.heap.objs.size<=I->(∀b∈fp,b=a\/s.heap.objs.size<=b) ->
   (∀A:vf,A.handled=none->Walks prog w A I fp [I] xs.length P St)->St 0 h'->(∀acc:Array vB,ItemsOf P acc xs.length->∃ys,uH acc.toList ys/\ys.Perm xs)->(∀b∈fp,b<h'.objs.size)->Q BY { s with heap:=h',drawn:=d }) :
  vM aj A (sP dq) Q E s:=by
 obtain⟨o,es,ep,t,go,gx,gd,T,gl,gb,gg,gv,gn⟩:=id S;have hl:es.size=xs.length:=by rw[<- gv,zA,zK]
 have hlt:a<s.heap.objs.size:=zM go;have hps:t.place.size=es.size:=by
  have:=T.fits;unfold SetTable.fits at this;simp only[yN,beq_iff_eq]at this;exact this.1
 have hT:s.TypeIs dq "set" := ⟨o,go,gx.1⟩;refine tQ hT F.slotSetIter (vk F.slotSetIter hT F.entSetIter ?_ (F.argsSetIter _));unfold Builtin.«frozenset.__iter__» Builtin.Frozenset.slot0 Builtin.Frozenset.sizeOf;refine vA ?_;refine vA (m:=sZ "__iter__" 0 HN) eP;show vM _ _ (pure a) _ _ s;refine vF ?_;refine vA (vA (q1Z go gd T.fits eP));refine vA ?_;unfold setDrawn;refine vA Rf
 dsimp only
 refine vA (q3N eP);have perm_ok:∀(l:KA),l.Perm es.toList->∃ys,uH (l.map (·.2)) ys/\ys.Perm xs:=λl p=>
  ⟨_,q8H λe he=>gg e (p.mem_iff.mp he),by rw[<- gv];exact p.map _⟩
 have slots:∀(slot:Nat->Nat)(l:KA),slot 0=0->l.Perm es.toList ->
   (∀(i:Nat)(s:vC),i<es.size->s.heap.get? a=some o->∀A' Q' E',Q' (some ((l.map (·.2)).getD i .none,slot (i+1))) s->vM aj A' Rk Q' E' s) ->
   (∀(s:vC),s.heap.get? a=some o->∀A' Q' E',Q' none s->vM aj A' IA Q' E' s) ->
   Q aC { s with heap:=s.heap.push Dy }:=λslot l h0 p hn hz=>by
  have:=k (s.heap.push Dy) s.drawn s.heap.objs.size [s.heap.objs.size,a] (λi v=>v=(l.map (·.2)).getD i .none) (λi h=>h.get? s.heap.objs.size=some Fl/\h.get? a=some o)
   (λb u e=>zG _ e) bM (λb hb=>by
    simp only[zF,zd,or_false]at hb;rcases hb with rfl|rfl
    ·exact .inr bM
    ·exact .inl rfl) (λA hh=>by rw[<- hl];exact qdj hh Jg gd T.fits slot _ hn hz) ⟨fF,zG _ go⟩ (λacc hacc=>by
    rw[qeV hacc];obtain⟨ys,y1,y2⟩:=perm_ok l p;have e:(zo xs.length).map (λi=>(l.map (·.2)).getD i .none)=l.map (·.2):=by
     apply yx;intro i;have hll:l.length=xs.length:=by rw[p.length_eq,zK,hl]
     rw[zZ];rcases zw i xs.length with z|z
     ·rw[xW z]
      show some ((l.map (·.2)).getD i .none)=_;rw[zV,zD (by rw[zA,hll];exact z)];rfl
     ·rw[zn (by rw[zx];exact z),zn (by rw[zA,hll];exact z)];rfl
    rw[e];exact⟨ys,y1,y2⟩) (λb hb=>by
    rw[yf];simp only[zF,zd,or_false]at hb;rcases hb with rfl|rfl
    ·exact yd _
    ·exact yS hlt)
  exact this
 have getD_at:∀(l:KA)(i:Nat)(e:di),l[i]?=some e->(l.map (·.2)).getD i .none=e.2:=λl i e h=>by
  rw[zV,zZ,h];rfl
 cases hB:w.params.followText "set-order" with
 | true=>
  refine vA eP;refine vA ?_;unfold setEpoch;refine vA Re;refine vA dw;have pp:=qez fG es;have hpl:(u8 fG es).size=es.size:=by rw[<- zK,pp.length_eq,zK]
  refine slots (λ_=>0) _ rfl pp Ke λs go' A' Q' E' q=>?_
  ·refine q8c go' gd T.fits hB ?_
   have hz:i<(u8 fG es).size:=by rw[hpl];exact hi
   rw[yD hz];have:=getD_at (u8 fG es).toList i (u8 fG es)[i] (by rw[zc,yD hz]);rw[this]at q;exact q
  ·refine q8c go' gd T.fits hB ?_
   rw[yn (by rw[hpl];exact zN _)];exact q
 | false=>
  have led:t.led=true:=by rw[gl];unfold WF;rw[hB];rfl
  cases hD:(!t.plain&&decide (es.size>1))with
  | false=>
   refine vg (λz=>vP ((show (!false&&(!t.plain&&decide (es.size>1)))=true from z)) (by rw[hD];decide)) eG;refine vA eP;refine vA ?_;unfold setEpoch;refine vA Re;refine vA dw;refine slots (slotAt t.place) es.toList rfl (xh _) Ke λs go' A' Q' E' q=>?_
   ·refine q7f go' gd T.fits hB led hD rfl ?_
    rw[q7c T.rise i ∅,yD hi,yD (show i<t.place.size by omega)];have:=getD_at es.toList i es[i] (by rw[zc,yD hi]);rw[this]at q;have e2:slotAt t.place (i+1)=t.place[i]'∅+1:=by
     show t.place.toList.getD i 0+1=_;rw[zV,zc,yD (show i<t.place.size by omega)];rfl
    rw[e2]at q;exact q
   ·refine q7f go' gd T.fits hB led hD rfl ?_
    rw[q7c T.rise es.size ∅,yn bM];exact q
  | true=>
   refine vg eG (λz=>vP (show (!false&&(!t.plain&&decide (es.size>1)))=true by rw[hD];rfl) z);refine vA (q5c es.size Pc _ _ zx λord d po=>?_);have hol:ord.length=es.size:=by rw[po.length_eq,zx]
   refine vA (u4 ?_ (by rw[zA,hol];exact yP (yi gb) (by decide)));refine vA ?_;unfold setEpoch;have go2:(s.heap.push { cls:=.type "tuple", data:=.seq (ord.map λ(i:Nat)=>uE i).toArray }).get? a=some o:=zG _ go;refine vA (v7 go2 gd T.fits eP);refine vA dw;have hs1:(s.heap.push { cls:=.type "tuple", data:=.seq (ord.map λ(i:Nat)=>uE i).toArray }).objs.size=s.heap.objs.size+1:=yf _ _;have ht1:(s.heap.push { cls:=.type "tuple", data:=.seq (ord.map λ(i:Nat)=>uE i).toArray }).get? s.heap.objs.size=some { cls:=.type "tuple", data:=.seq (ord.map λ(i:Nat)=>uE i).toArray }:=zS _ rfl;refine k _ d _ [(s.heap.push { cls:=.type "tuple", data:=.seq (ord.map λ(i:Nat)=>uE i).toArray }).objs.size,a,s.heap.objs.size] (λi v=>∃p x,ord[i]?=some p/\es[p]?=some x/\v=x.2)
    (λi h=>h.get? (s.heap.push { cls:=.type "tuple", data:=.seq (ord.map λ(i:Nat)=>uE i).toArray }).objs.size=some (Wj aC i a es.size ep)/\h.get? a=some o/\h.get? s.heap.objs.size=some { cls:=.type "tuple", data:=.seq (ord.map λ(i:Nat)=>uE i).toArray }) (λb u e=>zG _ Ef) (by rw[hs1];exact xN _) jM (λA hh=>by
    rw[<- hl];exact qaT (tp:=s.heap.objs.size) hh (by rw[hs1];exact zu (yS hlt)) (by rw[hs1];exact zu Ts) gd T.fits ord po rfl)
    ⟨fF,zG _ go2,zG _ ht1⟩ (λacc hacc=>?_) jM
   ·simp only[zF,zd,or_false]at hb
    rcases hb with rfl|rfl|rfl
    ·exact .inr (by rw[hs1];exact xN _)
    ·exact .inl rfl
    ·exact .inr bM
   ·have e:acc.toList=(ord.map λp=>es.toList.getD p ab1).map (·.2):=by
     apply yx;intro i;rw[zc,zZ,zZ];rcases zw i acc.size with z|z
     ·obtain⟨p,x,h1,h2,h3⟩:=hacc.2 i acc[i] (yD z)
      rw[yD z,h1,h3];show _=some (es.toList.getD p ab1).2;rw[zV,zc,h2];rfl
     ·rw[yn z,zn (by rw[hol,hl,<- hacc.1];exact z)];rfl
    have p2:(ord.map λp=>es.toList.getD p ab1).Perm es.toList:=by
     refine(po.map _).trans ?_;have:(zo es.size).map (λp=>es.toList.getD p ac4)=es.toList:=by
      apply yx;intro i;rw[zZ];rcases zw i es.size with z|z
      ·rw[xW z]
       show some (es.toList.getD i ac4)=_;rw[zV,zD (by rw[zK];exact z)];rfl
      ·rw[zn (by rw[zx];exact z),zn (by rw[zK];exact z)];rfl
     rw[this]
    rw[e];exact perm_ok _ p2
   ·rw[yf,hs1]
    simp only[zF,zd,or_false]at hb;rcases hb with rfl|rfl|rfl
    ·rw[hs1];exact yd _
    ·exact yS (yS hlt)
    ·exact yS Ts
end
section
variable{prog:vU}{w:vZ}{A:vf}{E:vB->vC->Prop}{s:vC}
theorem qdb{R:sS->vC->Prop}{a:vG}{xs:af}(hh:bU)(SI:oI)(S:vG)(hSa:S≠a)(res:vB)(c₀:Nat)(hS:s.heap.get? S=some { cls:=.type "list", data:=.seq #[] c₀ })(hR:∀h' tk d acc' c',(∀b o,b≠S->s.heap.get? b=some o->h'.get? b=some o)->h'.get? S=some { cls:=.type "list", dict:=none,data:=.seq acc' c',slots:=#[] }->(∃ys,uH acc'.toList ys/\ys.Perm xs)->R Cl { s with heap:=h',toks:=tk,drawn:=d }):
  vM aj A.in1 (Builtin.List.listExtendWith gu dq res)
   (λfin s'=>match fin with|.done f=>R VS s'|.again c'=>c'.quiet=true/\uh aj A c' R s') AW s:=by
 have hn:xs.length<=sizeLine:=yP (yi SI.len) (by decide);obtain⟨o,es,ep,t,go,gx,gd,T,gl,gb,gg,gv,gn⟩:=id SI;have hTy:∀h:vm,h.get? a=some o->Shared.TypeIs { s with heap:=h } dq "set" := λh e=>⟨o,e,gx.1⟩;unfold Builtin.List.listExtendWith;refine vA (uo (T := "set") ⟨o,go,gx.1⟩ ?_);have h1:Builtin.List.listSameRef gu dq=false:=by simp[Builtin.List.listSameRef,hSa]
 have h2:(Value.type "set" == Value.type "list")=false:=by decide
 have h3:(Value.type "set" == Value.type "tuple")=false:=by decide
 simp only[h1,h2,h3,wf,yI,if_false];refine vA (qfG SI λh1 d I fp P St keep hI hfp W st items hlt=>?_);have hS1:h1.get? S=some { cls:=.type "list", data:=.seq #[] c₀ }:=keep _ _ hS;have hSlt:S<s.heap.objs.size:=zM hS;have hSf:S∉fp:=λhm=>by
  rcases hfp S hm with z|z
  ·exact hSa z
  ·exact vP hSlt (Ys.mpr z)
 have key:∀(h:vm)(c₁ tk:Nat),St 0 h->(∀b o,b≠S->s.heap.get? b=some o->h.get? b=some o) ->
   h.get? S=some { cls:=.type "list", data:=.seq #[] c₁ }->uh aj A (.builtin "list.extend.loop" ⟨[gu,BY,res],[]⟩) R { s with heap:=h,toks:=tk,drawn:=d }:=by
  intro h c₁ tk hst hk hS₁;refine t9 (W A.in1 hh).toS hn S hSf res xs.length 0 _ #[] c₁ rfl (yF _) hst hS₁ abT λs' acc' c' hm hS' hacc=>?_;rw[Lc];refine hR s'.heap s'.toks d acc' c' (λb o hb e=>hm.heap b o (λhmem=>?_) (hk b o hb e)) hS' (items acc' hacc);rcases zF.mp hmem with e'|hmem
  ·exact hb e'
  ·exact vP B2 (by rw[zR.mp hmem];exact Ys.mpr hI)
 refine vA (vh (qfU ⟨o,keep _ _ go,gx.1⟩ ?_));refine vg eG (λ_=>vF ⟨fj,key _ c₀ _ st (λb o _ e=>keep b o e) hS1⟩);refine vA U8;refine vA ?_;show vM _ _ (tM S (·.push .none) >>= λ_=>tM S (·.pop)) _ _ _;refine vA (uS hS1 rfl ?_);have hS₂:=xI (Obj.mapSeq (·.push Value.none)) hS1 rfl;refine uS (hz:=by seq_fits) hS₂ rfl ?_;have hS₃:=xI (Obj.mapSeq (·.pop)) hS₂ rfl;refine vF ⟨fj,key _ _ _ ?_ JD hS₃⟩
 ·refine(W A.in1 hh).frame 0 _ _ st λb hb o e=>?_
  have hbS:b≠S:=λh=>hSf (h▸hb);exact(zr _ _ (Ne.symm hbS)).trans ((zr _ _ (Ne.symm hbS)).trans e)
 ·exact(zr _ _ jN).trans ((zr _ _ jN).trans (keep b o e))
theorem qbi{R:List vB->vC->Prop}{a:vG}{xs:af}(hh:bU)(SI:oI)(h:∀(h':vm)(tk:Nat)(d:sr)(vs:bx)(ys:af),(∀b o,s.heap.get? b=some o->h'.get? b=some o)->s.heap.objs.size<h'.objs.size->uH vs ys->ys.Perm xs->R vs { s with heap:=h',toks:=tk,drawn:=d }):
  vM aj A (collect dq) R E s:=by
 obtain⟨o,es,ep,t,go,gx,gd,T,gl,gb,gg,gv,gn⟩:=id SI;have hlt:a<s.heap.objs.size:=zM go;unfold collect;refine vA (wpAny_runValue (uQ entry_proto_collect' ?_));rw[Around.under_plainId PySem.F.plain_proto_collect _];show vM _ A.in1 (newList [] >>= λl=>again (.builtin "list.__iadd__" ⟨[l,dq],[]⟩)) _ _ s;refine vA (vq ?_);refine vF ⟨uV PySem.F.plain_list_iadd _,uQ entry_list_iadd' ?_⟩;rw[Around.under_plainId PySem.F.plain_list_iadd _];have hS₁:(s.heap.push { cls:=.type "list", data:=.seq ([]:List vB).toArray }).get? s.heap.objs.size=some { cls:=.type "list", data:=.seq #[] }:=zS _ rfl;show vM _ A.in1 (Builtin.List.listExtendWith aC dq aC) _ _ _;have key:=qdb (prog:=prog) (A:=A) (s:={ s with heap:=s.heap.push { cls:=.type "list", data:=.seq ([]:List vB).toArray } })
  (R:=λ(q:sS) (s':vC)=>∃(h':vm) (tk:Nat) (d:sr) (acc':cK) (c':Nat),q=.ok (.ret aC)/\s'={ s with heap:=h',toks:=tk,drawn:=d } /\
   (∀b o,s.heap.get? b=some o->h'.get? b=some o)/\h'.get? s.heap.objs.size=some { cls:=.type "list", dict:=none,data:=.seq acc' c',slots:=#[] }/\∃ys,uH acc'.toList ys/\ys.Perm xs)
  hh (SI.at λo e=>zG _ e) s.heap.objs.size (xo hlt) aC 0 hS₁
  (λh' tk d acc' c' hk hS' hacc=>⟨h',tk,d,acc',c',rfl,rfl,λb o e=>hk b o (zu B2) Ef,hS',hacc⟩)
 refine vz key (λfin s' x=>?_) λe s' x=>?_
 ·cases fin with
  | done f=>
   obtain⟨h',tk,d,acc',c',e,rfl,hk,hS',ys,y1,y2⟩:=x;cases e;show vM _ A (load s.heap.objs.size >>= _) _ _ _;refine vA Sz;exact vF He
  | again c₁=>
   refine⟨x.1,um x.2 λq s₂ y=>?_⟩;obtain⟨h',tk,d,acc',c',rfl,rfl,hk,hS',ys,y1,y2⟩:=y;show vM _ A (load s.heap.objs.size >>= _) _ _ _;refine vA Sz;exact vF He
 ·obtain⟨_,_,_,_,_,e',_⟩:=x
  cases e'
theorem qde{a:vG}{xs:af}{Q:aH}(hh:bU)(SI:oI)(h64:xs.length<64)(h:∀(D:vG)(h':vm)(tk:Nat)(d:sr)(vs:bx)(ys:af)(n:Nat),(∀b o,s.heap.get? b=some o->h'.get? b=some o)->s.heap.objs.size<=D->h'.get? D=some Bz->uH vs ys->ys.Perm xs->ys.Pairwise (· <= ·)->Q Ii { s with heap:=h',toks:=tk,drawn:=d }):
  vM aj A acR Q E s:=by
 refine Calls.call_function_entry sC tm tq (se _) ?_;unfold Builtin.«sorted»;refine vA (m:=sU "sorted" 1 1 _) eP;refine vA (qbi (A:=A.in1) hh SI λh1 tk d vs ys hk hz y1 y2=>?_);have hlen:vs.length=xs.length:=by rw[IntsAre.length y1,y2.length_eq]
 refine vA (ut ?_ (yP (by rw[hlen];exact yi h64) (by decide)));have hoL:(h1.push dW).get? h1.objs.size=some dW:=zS _ rfl;refine vA (vh (vk slot_list_sort ⟨_,hoL,rfl⟩ entry_list_sort (list_sort_tree hoL y1 (by rw[hlen];exact h64) λout ns' a1 a2 a3=>ck) (sD _)));obtain⟨n,hn⟩:=sortedHeap_at (vs:=vs) (out:=out) hoL;refine vF ⟨_,rfl,h h1.objs.size _ tk d out.toList ns' n (λb o e=>?_) ?_ ?_ a1 (a2.trans y2) a3⟩
 ·have e1:=hk b o e
  rw[sortedHeap_old (zu UY) (by rw[yf];exact yS UY)];exact zG _ e1
 ·exact yi hz
 ·rw[xt];exact hn
end
end Hk
namespace L2
open PySem PySem.Spec PyProof.Rows
noncomputable def Wu(names:pd)(cells:kK)(cs:kK):List (Str×vG) :=
 match names with
 | []=>cs
 | p::r=>Wu r cells (if p.2 == .free then (p.1,(cells.lookup p.1).getD 0)::cs else cs)
theorem q51{scope:u5}{env:Env}(h:∀p∈scope.names,p.2=NameKind.free->(env.cells.lookup p.1).isSome=true):
  closureFor scope env=pure (Wu scope.names env.cells []):=by
 simp only[closureFor];generalize scope.names=l at h ⊢;have key:∀(l:pd)(cs:kK),(∀p∈l,p.2=NameKind.free->(env.cells.lookup p.1).isSome=true) ->
   (forIn l cs (λ(p:Str×ue) (r:kK)=>if l5=true then (do let a <- cellOf env p.1;pure (ForInStep.yield ((p.1,a)::r)))else pure Gs):Sem _)=pure (Wu l env.cells cs):=by
  intro l
  induction l with
  | nil=>intro cs _;rfl
  | cons p r ih=>
   intro cs hp;rw[wM];have hr:=λq hq=>hp q (zH _ hq)
   by_cases hf:p.2=NameKind.free
   ·have hs:=hp p zE hf
    obtain⟨a,ha⟩:=yy.mp hs;have e:cellOf env p.1=pure a:=by unfold cellOf;rw[ha]
    have hb:l5=true:=by rw[hf];rfl
    rw[U5,e,pure_bind,pure_bind];show forIn r _ _=_;rw[ih _ hr];show _=pure (Wu r env.cells (if p.2 == .free then _ else _));rw[U5,ha];rfl
   ·have hb:¬l5=true:=by intro z;exact hf (by cases hk:p.2 <;> simp_all)
    rw[NJ,pure_bind];show forIn r _ _=_;rw[ih _ hr];show _=pure (Wu r env.cells (if p.2 == .free then _ else _));rw[NJ]
 rw[key l [] h];rfl
theorem qbE{k:ue}(h:(k==NameKind.free)=true):k=NameKind.free:=by cases k <;> first|rfl|cases h
theorem q57{cells:kK}:∀(l:pd)(cs:kK),(∀p∈l,p.2=NameKind.free->(cells.lookup p.1).isSome=true) ->
  (∀x c,cs.lookup x=some c->cells.lookup x=some c)->∀x c,(Wu l cells cs).lookup x=some c->cells.lookup x=some c
 | [],cs,_,h,x,c,e=>h x c e
 | p::r,cs,hp,h,x,c,e=>by
  refine q57 r _ (λq hq=>hp q (zH _ hq)) (λy d hy=>?_) x c e
  by_cases hb:l5=true
  ·rw[U5,xK]at hy
   cases hyp:y==p.1 with
   | true=>
    rw[hyp]at hy;have hy':(cells.lookup p.1).getD 0=d:=zy hy;obtain⟨a,ha⟩:=yy.mp (hp p zE (qbE hb));rw[ha]at hy';rw[eq_of_beq hyp,ha,<- hy'];rfl
   | false=>rw[hyp]at hy;exact h y d hy
  ·rw[NJ]at hy;exact h y d hy
theorem q5y{cells:kK}:∀(l:pd)(cs:kK)(x:Str),(Ix∈l\/(cs.lookup x).isSome=true)->((Wu l cells cs).lookup x).isSome=true
 | [],cs,x,h=>by
  rcases h with h|h
  ·cases h
  ·exact h
 | p::r,cs,x,h=>by
  refine q5y r _ x ?_;rcases h with h|h
  ·rcases zF.mp h with rfl|h
   ·right
    show (List.lookup x (if (NameKind.free==NameKind.free)=true then _ else _)).isSome=true;rw[vH (by rfl),xK,beq_self_eq_true];rfl
   ·exact .inl h
  ·right
   by_cases hb:l5=true
   ·rw[U5,xK]
    cases hx:x==p.1 with
    | true=>rfl
    | false=>exact h
   ·rw[NJ];exact h
noncomputable def WS(X:Cx)(N:dJ)(scope:u5)(C:vG)(s:vC)(H:Hp)(fp:df):Cx :=
 { X with N:=N,s₀:=s,H₀:=H,env:=compEnvC scope oR C X.env,outer:=X.stack,stack:=X.stack,ex:=fp,fn:=λ_=>false,pn:=[],xe:=λ_ _=>False }
noncomputable def zB9(M:Nat)(frees:bW)(σ:St):St:=zt M none++frees.map λj=>(σ[j]?).getD none
structure BlkOk (X:Cx) (N:List Str) (M:Nat) (frees:List Nat) (scope:u5):Prop where
 kind:scope.kind=.function
 nocell:∀y∈scope.names,y.2≠.cell
 own:∀y∈scope.names,y.2=.local->scope.names.lookup y.1=some .local
 cells:∀p∈scope.names,p.2=NameKind.free->(X.env.cells.lookup p.1).isSome=true
 fr:∀(k:Nat)(x:Str),N[M+k]?=some x->∃j,frees[k]?=some j/\X.N[j]?=some x/\(X.env.kindOf x=some .cell\/X.env.kindOf x=some .free)/\scope.names.lookup x=some .free
 len:N.length=M+frees.length
theorem q38{env:Env}{x:Str}:∀{names:pd}{k:ue},(∀y∈names,y.2≠.cell)->(k=.cell\/k=.free) ->
  (names.map λ(n,k)=>if eT then IN else (n,k)).lookup x=some k->Ix∈names
 | [],_,_,_,h=>by cases h
 | (n,k0)::r,k,hc,hk,h=>by
  have ih:=@q38 env x r k (λy hy=>hc y aak) hk;rw[zU]at h
  by_cases hb:l6=true
  ·have hf:k0=NameKind.free:=qbE (by rw[yN,yN]at hb;exact hb.1.1)
   dsimp only at h
   rw[U5,xK]at h;cases hx:x==n with
   | true=>rw[eq_of_beq hx,hf];exact zE
   | false=>rw[hx]at h;exact zH _ (ih h)
  ·dsimp only at h
   rw[NJ,xK]at h;cases hx:x==n with
   | true=>
    rw[hx]at h;have e:k0=k:=zy h;have z:=hc (n,k0) zE;rw[eq_of_beq hx];rcases hk with rfl|rfl
    ·exact vP e z
    ·rw[e];exact zE
   | false=>rw[hx]at h;exact zH _ (ih h)
theorem q59{env:Env}{x:Str}:∀{names:pd},names.lookup x=some .free ->
  (names.map λ(n,k)=>if eT then IN else (n,k)).lookup x=some .cell \/
  (names.map λ(n,k)=>if eT then IN else (n,k)).lookup x=some .free
 | [],h=>by cases h
 | (n,k0)::r,h=>by
  have ih:=@q59 env x r;rw[zU]
  dsimp only
  rw[xK]at h
  by_cases hb:l6=true
  ·rw[U5,xK]
   cases hx:x==n with
   | true=>exact .inl rfl
   | false=>rw[hx]at h;exact ih h
  ·rw[NJ,xK]
   cases hx:x==n with
   | true=>rw[hx]at h;exact .inr h
   | false=>rw[hx]at h;exact ih h
section
variable{X:Cx}{pins:List (vG×Obj)}{σ:St}{H:Hp}{s:vC}{N:List Str}{M:Nat}{frees:List Nat}{scope:u5}{fp:List vG}
theorem Inv.enter{h1:vm}{C D tk:Nat}{m1:bG}(I:aq)(B:iT)(f:∀b∈fp,Wn X pins H b)(lt:∀b∈fp,b<s.heap.objs.size)(hC:s.heap.objs.size<C)(hD:s.heap.objs.size<=D)(hDC:C≠D)(k:∀b u,s.heap.get? b=some u->h1.get? b=some u)(hns:h1.Ns C m1)(hl:h1.get? D=some { cls:=.type "list", data:=.seq ([]:List vB).toArray }):
  Inv aN [] B3 (upd H D jo) { s with heap:=h1,toks:=tk }:=by
 have sub:=q57 (cells:=X.env.cells) scope.names [] B.cells (λx c e=>by cases e);have hfr:H D=none:=I.hok.fresh hD;have hfc:H C=none:=I.hok.fresh (yi hC);have clt:∀x c,(Wu scope.names X.env.cells []).lookup x=some c->c<s.heap.objs.size:=λx c e=>by
  obtain⟨v,q⟩:=I.cell x c Kj;exact q.lt
 refine⟨⟨I.ok.mod,B.kind,I.ok.glob,I.ok.blt,yi hC,λx y c e1 e2=>I.ok.inj x y c (sub x c e1) (sub y c e2),λx hx=>?_,λx c e=>vP e (by intro z;cases z),I.ok.hd,I.ok.frames,.inl rfl,λb hb=>?_,I.bs,yP I.ok.bsz I.sz,λb o e hb=>?_,
  λb hb hf=>?_,I.stack,I.stkFree⟩,rfl,I.bare,Un.laid k hD hfr,⟨m1,hns,To⟩,λx c e=>?_,?_,λx c e=>?_,λp hp=>vP (show p∈PF from hp) (by simp),I.hok.laid k hD ⟨B5,[],0,.nil,hl⟩,?_⟩
 ·have hm:Ix∈scope.names:=by
   rcases hx with hx|hx
   ·exact q38 B.nocell bu hx
   ·exact q38 B.nocell Aq hx
  exact yy.mp (q5y scope.names [] x (.inl hm))
 ·exact⟨zu (YK (lt b hb) hC),λx c e=>(f b hb).2.2.2.2.1 x c Kj⟩
 ·rcases (f b hb).2.2.2.1 with z|z
  ·exact I.ok.noex b o e z
  ·exact vP (yA B2 (yP I.ok.bsz z)) HS
 ·rcases zF.mp (I.stkSub b hf)with z|z
  ·exact(f b hb).2.1 z
  ·exact(f b hb).2.2.1 z
 ·have hi:M<=i:=by
   rcases zw i M with z|z
   ·unfold zB9 at e2
    rw[zg ⇑z,y9,gz]at e2;cases e2
   ·exact z
  obtain⟨q,rfl⟩:∃q,i=M+q:=⟨i-M,∅⟩;obtain⟨j,h1',h2',h3',h4'⟩:=B.fr q x e1;have ev:σ[j]?=some nh:=by
   unfold zB9 at e2;rw[zb (by simp),ya,ZT,zZ,h1']at e2;cases e:σ[j]? with
   | none=>rw[xD,e]at e2;cases e2
   | some o=>rw[xD,e]at e2;exact e2
  obtain⟨m,hn,hl'⟩:=I.loc;have vis:Vis X.env.scope x:=by
   rcases h3' with z|z
   ·exact .inr PY
   ·exact .inr (.inr z)
  obtain⟨u,ru,lk⟩:=hl' j x v h2' ev vis;refine⟨u,ru,.inr ?_⟩;rcases lk with⟨z,_⟩|⟨_,c,ec,ic⟩
  ·rcases h3' with y|y <;> (rw[z]at y;cases y)
  ·obtain⟨c',ec'⟩:=yy.mp (q5y (cells:=X.env.cells) scope.names [] x (.inl (PySem.mem_of_lookup h4')))
   have:c'=c:=zy ((sub x c' ec').symm.trans ec);subst this;exact⟨q59 h4',c',ec',ic.keeps k⟩
 ·obtain⟨v,q⟩:=I.cell x c Kj
  exact⟨v,q.keeps k⟩
 ·show upd H D jo C=none
  rw[qd hDC];exact hfc
 ·show upd H D jo c=none
  rw[qd (zu (yA (clt x c e) hD))];exact I.freeC x c Kj
 ·show (zB9 M frees σ).length=N.length
  unfold zB9;rw[zC,ya,zA,B.len]
end
section
variable{prog:vU}{w:vZ}{A:vf}{R:sS->vC->Prop}{s:vC}
theorem qaX{elt target iter:vW}{ifs:iF}{scope:u5}{pos:Pos}{it acc:vB}{env:Env}(J:Nat->vC->Prop)(turn:∀n s,J n s->vM aj A (uK it) (λr s1=>match r with
   | none=>R R4 s1
   | some v=>vM aj A (tH target it v) (λ_ s2=>vM aj A (assign target env v) (λ_ s3=>
     vM aj A (forIn ifs true λc r=>if r=true then do let ok <- rE c env (eval c env);pure RY else pure Gs) (λok s4=>
      if ok=true then vM aj A (eval elt env) (λx s5=>vM aj A (call (.builtin "list.append") [acc,x]) (λ_ s6=>∃m,m<n/\J m s6) ou s5) ou s4
      else ∃m,m<n/\J m s4) ou s3) ou s2) ou s1) ou s)
  (n:Nat) (h:J n s):uh aj A (.compLoop je 0 it acc env) R s:=by
 refine codeAny_loop rfl J (λn s hJ=>?_) n h;show vM _ A ((compTurn je 0 it acc env).onRaise (λx=>do noteFrame x env;theTreesLotGoes x)) _ _ s;refine wpAny_noted (vz (Q:=λfin s'=>match fin with|.done f=>R VS s'|.again c'=>c'=.compLoop je 0 it acc env/\∃m,m<n/\J m s') ?_ (λ_ _ q=>q) λ_ _ (z:False)=>z.elim);rw[compTurn_list];refine vA (tT (vA (vz (turn n s hJ) (λr s1 h1=>?_) λ_ _ q=>q)));cases r with
 | none=>exact vF h1
 | some v=>
  refine vA (vz h1 (λ_ s2 h2=>vA (vz h2 (λ_ s3 h3=>vA (vz h3 (λok s4 h4=>?_) λ_ _ q=>q)) λ_ _ q=>q)) λ_ _ q=>q);cases ok with
  | false=>exact vF ⟨rfl,h4⟩
  | true=>exact vA (vA (vz h4 (λx s5 h5=>vA (vz h5 (λ_ s6 h6=>vF (vF ⟨rfl,h6⟩)) λ_ _ q=>q)) λ_ _ q=>q))
end
def PTs(X:Cx)(ifs:iF)(t:TT):Prop :=
 ∀(pins:aA)(s:vC)(σ:St)(H:Hp)(Q:ji),Inv X pins σ H s->t σ H Q ->
  vM ao X.A (forIn ifs true λc r=>if r=true then do let ok <- rE c X.env (eval c X.env);pure RY else pure Gs) Cf X.xe s
theorem qii{X:Cx}:PTs X [] (λ_ H Q=>Q true H):=λ_ _ _ H _ I q=>wpAny_tests_nil Lu
theorem qiq{X:Cx}{c:vW}{t:TT}(h:PT X c t):PTs X [c] t:=λpins s σ H Q I q=>wpAny_tests_one (h pins s σ H Q I q)
noncomputable def zC1(M:Nat)(frees:bW)(wi:TI)(g:TG)(tc:TT)(te:TE):TE:=λσ H Q=>wi σ H λJ H1=>∀D,H1 D=none ->
 ∃W:Nat->Nat->St->Hp->Prop,(∃m,W 0 m B3 (upd H1 D jo))/\∀i m σ' H',W i m σ' H' ->
  PR\/(J.go i H'/\∀x H2,J.yld i H' x H2->g x σ' H2 λσ2 H3=>tc σ2 H3 λb H4=>
   if b=true then te σ2 H4 λv H5=>∃acc,H5 D=some (.lst acc)/\acc.length<sizeLine/\∃m',m'<m/\W (i+1) m' σ2 KP
   else ∃m',m'<m/\W (i+1) m' σ2 H4)
section
variable{X:Cx}{N:List Str}{M:Nat}{frees:List Nat}{scope:u5}{tg iter elt:vW}{ifs:List vW}{pos:Pos}{wi:TI}{g:TG}{tc:TT}{te:TE}
theorem q9u(hc:cI)(B:iT)(hb:∀C s H fp,PG aN tg g/\PTs aN ifs tc/\PE aN elt te){pins:aA}{σ:St}{Q:VK}{s2:vC}{itv:vB}{E:aH}{RR:vB->vG->sS->vC->Prop}(h2:PIE X pins σ tg (λJ H1=>∀D,H1 D=none ->
   ∃W:Nat->Nat->St->Hp->Prop,(∃m,W 0 m B3 (upd H1 D jo))/\∀i m σ' H',W i m σ' H' ->
    PR\/(J.go i H'/\∀x H2,J.yld i H' x H2->g x σ' H2 λσ2 H3=>tc σ2 H3 λb H4=>
     if b=true then te σ2 H4 λv H5=>∃acc,H5 D=some (.lst acc)/\acc.length<sizeLine/\∃m',m'<m/\W (i+1) m' σ2 KP
     else ∃m',m'<m/\W (i+1) m' σ2 H4)) itv s2)
  (hR:∀D C s' H' m,Inv X pins σ H' s'->Q Ii H'->s'.heap.Ns C m->H' C=none->C≠X.env.locals->X.s₀.heap.objs.size<=C->(∀x c,X.env.cells.lookup x=some c->c≠C)->(∀p∈X.pn++pins,p.1≠C)->RR Ii C R4 s') :
  vM ao X.A (newList []) (λacc s3=>vM ao X.A (newFunctionEnv scope X.env.globals oR [] X.env.qual none .none (some X.env)) (λcenv s4=>
   uh ao X.A (.compStart bq 0 itv acc { cenv with scope:=relabel scope X.env }) (RR acc cenv.locals) s4) E s3) E s2:=by
 obtain⟨it,fp,tn,J,H2,e,I2,T,st2,f2,q⟩:=h2;subst e;refine vq (wpAny_newFunctionEnv B.nocell (by intro y hy;simp at hy) (λh1 hns hsb=>?_) B.kind)
 dsimp only at hns hsb ⊢
 generalize hP:s2.heap.push { cls:=.type "list", dict:=none,data:=.seq ([]:List vB).toArray }=P1 at hns hsb ⊢;have hsz:P1.objs.size=s2.heap.objs.size+1:=by rw[<- hP,yf]
 have below:∀b,b<s2.heap.objs.size->b≠P1.objs.size:=λb z=>by rw[hsz];exact zu (yS z)
 have keep:∀b u,s2.heap.get? b=some u->h1.get? b=some u:=λb u z=>hsb.extBut b u (below b (zM z)) (zG _ (hP▸zG _ z));have hne:s2.heap.objs.size≠P1.objs.size:=by rw[hsz];exact zu Ts
 have hl:h1.get? s2.heap.objs.size=some { cls:=.type "list", data:=.seq ([]:List vB).toArray }:=hsb.extBut _ _ hne (zG _ (hP▸zS _ rfl));have lt2:∀b∈fp,b<s2.heap.objs.size:=λb z=>by
  obtain⟨o,eo,_⟩:=T.obj _ _ st2 b z;exact zM eo
 have hD0:H2 s2.heap.objs.size=none:=I2.hok.fresh bM;obtain⟨W,⟨m0,w0⟩,turn⟩:=q s2.heap.objs.size hD0;have I4:=I2.enter (N:=N) (M:=M) (frees:=frees) (scope:=scope) (fp:=fp) (h1:=h1) (C:=P1.objs.size) (D:=s2.heap.objs.size) (tk:=s2.toks+([]:List O0).length) B f2 lt2 (by rw[hsz];exact yd _) bM (Ne.symm hne) keep hns hl;have hcx:∀(C:vG),(WS X N scope C s2 H2 fp).calm=true:=λ_=>hc;have stat:∀{H':Hp},(∀b∈fp,H' b=none)->∀b∈fp,Wn cC [] H' b:=λ{H'} hn b z=>by
  refine⟨hn b z,below b (lt2 b z),λy=>?_,PY,λx c y=>?_,λp y=>vP (show p∈PF from y) (by simp)⟩
  ·rcases zF.mp (I2.stkSub b y)with u|u
   ·exact(f2 b z).2.1 u
   ·exact(f2 b z).2.2.1 u
  ·exact(f2 b z).2.2.2.2.1 x c (q57 (cells:=X.env.cells) scope.names [] B.cells (λx c e=>by cases e) x c y)
 have fr4:∀b∈fp,(upd H2 s2.heap.objs.size (HO.lst [])) b=none:=λb z=>by
  rw[qd (zu (lt2 b z))];exact(f2 b z).1
 have st4:tn 0 h1:=T.keep _ _ _ st2 λb _ o z=>keep b o z;have fin:∀(s':vC)(σ':St)(H':Hp),Inv cC [] σ' H' s'->Q ip H'->RR ip P1.objs.size R4 s':=λs' σ' H' I' q'=>by
  obtain⟨m,hm,_⟩:=I'.loc;have u':Un NZ fp H2 H' s2.heap s'.heap:=I'.base;have I0:Inv X pins σ H' s':=I2.call' (ch:=fp) I'.os u' I'.hok I'.bare λb z=>⟨(f2 b z).2.2.2.1,(f2 b z).2.1,(f2 b z).2.2.2.2.1,(f2 b z).2.2.2.2.2⟩;refine hR _ _ s' H' m I0 q' hm I'.free (xo (yA I2.lt (by rw[hsz];exact xN _))) (yP I2.sz (by rw[hsz];exact xN _)) (λx c z=>?_) λp z=>?_
  ·obtain⟨v,y⟩:=I2.cell x c z
   exact below c y.lt
  ·exact below p.1 (zM (I2.pin p z).1)
 have loop:∀s4:vC,s4={ s2 with heap:=h1,toks:=s2.toks+([]:List O0).length } ->
   uh ao X.A (.compLoop bq 0 iu ip (compEnvC scope oR P1.objs.size X.env)) (RR ip P1.objs.size) s4:=by
  rintro s4 rfl;refine qaX (λn s'=>∃i σ' H',Inv cC [] σ' H' s'/\tn i s'.heap/\(∀b∈fp,H' b=none)/\W i n σ' H') ?_ m0 ⟨0,_,_,I4,st4,fr4,w0⟩;rintro n s5 ⟨i,σ5,H5,I5,st5,fr5,w5⟩;rcases turn i n σ5 H5 w5 with⟨stop,qn⟩|⟨go,step⟩
  ·refine thn (T.done cC rfl rfl rfl hc i [] s5 σ5 H5 _ I5 TH st5 stop) λr s6 ⟨hr,I6⟩=>?_
   subst hr;exact fin s6 σ5 H5 I6 qn
  ·refine thn (T.item cC rfl rfl rfl hc i [] s5 σ5 H5 _ I5 TH st5 go) λr s6 ⟨u,hr,h6⟩=>?_
   subst hr;refine thn h6 λ_ s7 ⟨x,H7,I7,r7,y7,st7,fr7⟩=>?_;have I7':=I7.pinned (stat fr7) (T.obj _ _ st7);have B7:=hb P1.objs.size s2 H2 fp;refine thn (B7.1 _ s7 σ5 H7 x u _ I7' r7 (step x H7 y7)) λ_ s8 ⟨σ8,H8,I8,q8⟩=>?_;refine thn (B7.2.1 _ s8 σ8 H8 _ I8 q8) λok s9 ⟨H9,I9,q9⟩=>?_;have again:∀{σa:St}{Ha:Hp}{sa:vC},Inv cC ([]++zAp fp s7.heap) σa Ha sa->(∃m',m'<n/\W (i+1) m' σa Ha) ->
     ∃m,m<n/\∃i σ' H',Inv cC [] σ' H' sa/\tn i sa.heap/\(∀b∈fp,H' b=none)/\W i m σ' H':=λ{σa Ha sa} Ia ⟨m',hm,wa⟩=>by
    refine⟨m',hm,i+1,σa,Ha,Ia.unpinned,T.keep _ _ _ st7 λb z o eo=>(Ia.pin (b,o) NE).1,λb z=>?_,wa⟩;obtain⟨o,eo,d⟩:=T.obj _ _ st7 b z;exact(Ia.pin (b,o) NE).2.1
   cases ok with
   | false=>exact again I9 q9
   | true=>
    rw[kT];refine thn (B7.2.2 _ s9 σ8 H9 _ I9 q9) λy s10 ⟨v,H10,I10,r10,acc,ha,hz,m',hm,wn⟩=>?_;refine thn (q0W (X:=WS X N scope P1.objs.size s2 H2 fp) _ s10 σ8 H10 ip [v] ip [y] (λ_ Hn=>∃m',m'<n/\W (i+1) m' σ8 Hn) I10 rfl (.cons r10 .nil) ⟨_,acc,v,rfl,rfl,ha,hz,m',hm,wn⟩) λ_ s11 ⟨_,H11,I11,_,q11⟩=>?_;exact again I11 q11
 exact codeAny_compStart_list (loop _ rfl) (T.self _ 0 _ _ _ st4 (loop _ rfl))
theorem qj1(hc:cI)(B:iT)(hi:MU)(hb:∀C s H fp,PG aN tg g/\PTs aN ifs tc/\PE aN elt te)(hs:∀x,uC iter X.env x=pure x:=by intro _;rfl):PE X bq Bv:=by
 intro pins s σ H Q I h;rw[eval_ListComp];refine tU (use:=none) rfl hs (q51 B.cells) B.kind B.own ko;refine q9u (RR:=λacc C=>compPost ao X.A X.xe none cH acc C) hc B hb h2 λD C s' H' m I' q' hm hC h1 h3 h4 h5=>?_;exact⟨m,hm,λh' hs'=>⟨Ii,H',I'.turned (t':=s'.toks) Je hC h1 (.inr h3) h4 h5,rfl,q'⟩⟩
theorem qio{i:Nat}{x:Str}{pos' spos:Pos}(hc:cI)(hN:X.N.Nodup)(hi':X.N[i]?=some x)(hx:Gf)(B:iT)(hi:MU)(hb:∀C s H fp,PG aN tg g/\PTs aN ifs tc/\PE aN elt te)(hsw:Ej:=by rfl)(hs:∀x,uC iter X.env x=pure x:=by intro _;rfl):PS X P4 (zA6 Bv (WU i)):=by
 intro pins s σ H D I h;rw[exec_Assign_Name_used _ _ _ _ hsw];refine vA (tT (vA ?_));show vM _ X.A (do let _ <- comprehension (.ListComp elt [⟨tg,iter,ifs,0⟩] scope pos) scope X.env _ (newList []) false (eval iter X.env) (some (assign (.Name x pos') X.env))) _ _ s;refine vA (vz (tU (use:=some VC) (Q:=λ_ s'=>SP X pins D .next s') rfl hs (q51 B.cells) B.kind B.own
  ko) (λ_ s' hq=>vF (vF hq)) λ_ _ q=>q)
 refine q9u (Q:=λy H1=>WU i y σ H1 D.nx) (RR:=λacc C=>compPost ao X.A X.xe (some VC) (λ_ s'=>SP X pins D .next s') acc C) hc B hb h2 λDd C s' H' m I' q' hm hC h1 h3 h4 h5=>?_;show vM _ X.A (assign cE X.env (.ref Dd)) _ _ _;refine wpAny_assign_Name (q8F I' hN hi' (.inl hx) (v:=.ref Dd) (u:=.ref Dd) rfl (λs'' I'' ⟨a,hsb,ha⟩=>?_) (.inr hx));have hCa:C≠a:=by
  rcases ha with rfl|ha
  ·exact h1
  ·exact Ne.symm (h4 x a ha)
 refine⟨m,hm.sameBut hsb hCa,λh' hs'=>⟨_,H',I''.turned (t':=s''.toks) Je hC h1 (.inr h3) h4 h5,q'⟩⟩
end
end L2
namespace Hk
open PySem L2
inductive D where
 | non|bl (b:Bool)|int (i:Int)|str (x:Str)|lst (xs:List D)|tup (xs:List D)|scr (ns:List Int)|exc (c:Str)|dic (ks:List Int) (xs:List D)
noncomputable def kvsOf:List Int->List V->List RX
 | k::ks,v::vs=>(.inl k,v)::kvsOf ks vs
 | _,_=>[]
def excP(a C:vG)(h:vm):Prop:=∃o,h.get? a=some o/\o.cls=.ref C
mutual
def Rep(K:zB)(H:Hp):D->V->Prop
 | .non,v=>v=.non
 | .bl b,v=>v=.bl b
 | .int i,v=>v=.int i
 | .str x,v=>v=.str x
 | .lst ds,v=>∃a vs,v=.ref a/\H a=some gS/\XR K H ds vs
 | .tup ds,v=>∃a vs,v=.ref a/\H a=some O3/\XR K H ds vs
 | .scr ns,v=>∃a,v=.ref a/\SqL K H a ca
 | .exc c,v=>∃a C,v=.ref a/\yY K vY c=some (some (.ref C))/\H a=some (.ext (excP a C))
 | .dic ks ds,v=>∃a vs,v=.ref a/\(∃o,H a=some (.frz o Jv))/\ks.length=ds.length/\XR K H ds vs
def XR(K:zB)(H:Hp):List D->List V->Prop
 | [],vs=>vs=[]
 | d::ds,vs=>∃v r,vs=v::r/\Rep K H d v/\XR K H ds r
end
mutual
theorem Rep.mono{K:zB}{H H':Hp}(e:Oc):∀{d:D}{v:V},Rep K H d v->Rep K H' d v
 | .non,_,h=>h
 | .bl _,_,h=>h
 | .int _,_,h=>h
 | .str _,_,h=>h
 | .lst _,_,⟨a,vs,h1,h2,h3⟩=>HL
 | .tup _,_,⟨a,vs,h1,h2,h3⟩=>HL
 | .scr _,_,⟨a,h1,h2⟩=>⟨a,h1,e.seq h2⟩
 | .exc _,_,⟨a,C,h1,h2,h3⟩=>⟨a,C,h1,h2,e _ _ h3⟩
 | .dic _ _,_,⟨a,vs,h1,⟨o,h2⟩,h4,h3⟩=>⟨a,vs,h1,⟨o,e _ _ h2⟩,h4,RI⟩
theorem XR.mono{K:zB}{H H':Hp}(e:Oc):∀{ds:aZ}{vs:bt},XR K H ds vs->XR K H' ds vs
 | [],_,h=>h
 | _::_,_,⟨v,r,h1,h2,h3⟩=>⟨v,r,h1,Rep.mono e h2,RI⟩
end
section
variable{K:zB}{H:Hp}
theorem XR.nil:XR K H [] []:=rfl
theorem XR.cons{d:D}{ds:aZ}{v:V}{vs:bt}(h:Rep K H d v)(t:AL):XR K H (d::ds) (v::vs):=⟨v,vs,rfl,h,t⟩
theorem XR.len:∀{ds:aZ}{vs:bt},XR K H ds vs->ds.length=vs.length
 | [],_,h=>by cases (show _=_ from h);rfl
 | _::_,_,⟨v,r,h1,_,h3⟩=>by rw[h1,zI,zI,XR.len h3]
theorem XR.app:∀{ds es:aZ}{vs us:bt},XR K H ds vs->XR K H es us->XR K H (ds++es) (vs++us)
 | [],_,_,_,h,t=>by cases (show _=_ from h);exact t
 | _::_,_,_,_,⟨v,r,h1,h2,h3⟩,t=>by rw[h1];exact⟨v,_,rfl,h2,XR.app h3 t⟩
theorem XR.get:∀{ds:aZ}{vs:bt}{i:Nat}{d:D},XR K H ds vs->ds[i]?=some d->∃v,vs[i]?=some v/\Rep K H d v
 | [],_,_,_,_,e=>by simp at e
 | _::_,_,0,_,⟨v,r,h1,h2,h3⟩,e=>by simp at e;subst e;rw[h1];exact⟨v,rfl,h2⟩
 | _::_,_,i+1,d,⟨v,r,h1,h2,h3⟩,e=>by
  obtain⟨u,e1,e2⟩:=XR.get (i:=i) (d:=d) h3 ⇑e;exact⟨u,by rw[h1];simpa using e1,e2⟩
theorem XR.take:∀{ds:aZ}{vs:bt}(n:Nat),XR K H ds vs->XR K H (ds.take n) (vs.take n)
 | _,_,0,_=>rfl
 | [],_,_+1,h=>by cases (show _=_ from h);rfl
 | _::_,_,n+1,⟨v,r,h1,h2,h3⟩=>by rw[h1];exact⟨v,_,rfl,h2,XR.take n h3⟩
theorem XR.drop:∀{ds:aZ}{vs:bt}(n:Nat),XR K H ds vs->XR K H (ds.drop n) (vs.drop n)
 | _,_,0,h=>h
 | [],_,_+1,h=>by cases (show _=_ from h);rfl
 | _::_,_,n+1,⟨v,r,h1,h2,h3⟩=>by rw[h1];exact XR.drop n h3
theorem XR.ints:∀(ns:af),XR K H cY ca
 | []=>rfl
 | n::r=>⟨GT,_,rfl,rfl,XR.ints r⟩
theorem XR.of_ints:∀{ns:af}{vs:bt},XR K H cY vs->vs=ns.map V.int
 | [],_,h=>h
 | n::r,_,⟨v,vs,h1,h2,h3⟩=>by
  have:=XR.of_ints h3;have e:v=.int n:=h2;rw[h1,this,e];rfl
theorem XR.one{d:D}{vs:bt}(h:XR K H [d] vs):∃v,vs=[v]/\Rep K H d v:=by
 obtain⟨v,r,h1,h2,h3⟩:=h;cases (show r=[]from h3);exact⟨v,h1,h2⟩
theorem XR.two{d e:D}{vs:bt}(h:XR K H [d,e] vs):∃v u,vs=[v,u]/\Rep K H d v/\Rep K H e u:=by
 obtain⟨v,r,h1,h2,h3⟩:=h;obtain⟨u,rfl,h4⟩:=XR.one h3;exact V9
end
structure Ext (G H G' H':Hp):Prop where
 gg:Xh G G'
 gh:Xh G' H'
 hh:Xh H H'
 new:∀b,G b=none->H b≠none->G' b=none
theorem Ext.refl{G H:Hp}(h:CP):Ext G H G H:=⟨gr,h,gr,λ_ e _=>e⟩
theorem Ext.trans{G H G1 H1 G2 H2:Hp}(a:Ext G H G1 H1)(b:Ext G1 H1 G2 H2):Ext G H G2 H2:=by
 refine⟨a.gg.trans b.gg,b.gh,a.hh.trans b.hh,λc h1 h2=>?_⟩;have e1:=a.new c h1 h2;refine b.new c e1 λz=>h2 ?_;exact a.hh.free z
theorem WD{H:Hp}{p:vG}(h:H p=none)(o:HO):Xh H Ex:=λb u q=>by rw[qd (q0F q h)];exact q
theorem zAn{G H:Hp}{p:vG}(e:CP)(o:HO):Xh (upd G p o) Ex:=λb u q=>by
 by_cases z:b=p
 ·subst z;rw[qe]at q ⊢;exact q
 ·rw[qd z]at q ⊢;exact e b u q
theorem Xi{G H:Hp}{p:vG}(e:CP)(h:UH)(o:HO):Xh G Ex:=λb u q=>by rw[qd (q0F q h)];exact e b u q
theorem Ext.lay{G H:Hp}{p:vG}(e:CP)(h:H p=none)(o:HO):Ext G H (upd G p o) Ex:=by
 have g:G p=none:=e.free h;refine⟨WD g o,zAn e o,WD h o,λb h1 h2=>?_⟩
 by_cases z:b=p
 ·subst z;exact vP h h2
 ·rw[qd z];exact h1
theorem Ext.hide{G H:Hp}{p:vG}(e:CP)(h:H p=none)(o:HO):Ext G H G Ex :=
 ⟨gr,Xi e (e.free h) o,WD h o,λ_ z _=>z⟩
inductive W where
 | sh (d:D)|ow (ds:List D)|od (ks:List Int) (ds:List D)|pw (ds:List D)
noncomputable abbrev WSt:=List cj
structure Fr where
 hp:Hp
 pin:Nat->vG
noncomputable instance:CoeFun Fr λ_=>Hp:=⟨Fr.hp⟩
noncomputable instance:Coe Fr Hp:=⟨Fr.hp⟩
noncomputable def fr(H:Hp):Fr:=⟨H,λ_=>0⟩
def WK(K:zB)(F:Fr)(G:Hp)(ω:WSt)(σ:St)(H:Hp):Prop:=∀(i:Nat)ds,ω[i]?=some KR->∃vs,σ[i]?=some aaA/\H JX=some gS/\G JX=none/\F.hp JX=none/\XR K G ds vs /\
 (∀(j:Nat)es,ω[j]?=some k8->F.pin j=F.pin i->j=i)/\∀(j:Nat)es,ω[j]?=some Dk->σ[j]?≠some aaA
theorem WK.keep{K:zB}{F:Fr}{G G':Hp}{ω:WSt}{σ:St}{H H':Hp}(o:WK K F G ω σ H)(e:Cj):WK K F G' ω σ H':=λi ds h=>by
 obtain⟨vs,h1,h2,h3,h4,h5,h6⟩:=o i ds h;exact⟨vs,h1,LC,e.new _ h3 (by rw[h2];exact λz=>by cases z),h4,Rx,h6⟩
theorem WK.no{K:zB}{F:Fr}{G:Hp}{ω:WSt}{σ:St}{H:Hp}(h:∀(i:Nat)ds,ω[i]?≠some KR):WK K F G ω σ H:=λi ds e=>vP e (h i ds)
structure Own (K:zB) (G0:Hp) (H0:Fr) (G:Hp) (ω:WSt) (σ:St) (H:Hp):Prop where
 ext:Ext G0 H0.hp G H
 len:ω.length=σ.length
 sh:∀(i:Nat)d,ω[i]?=some ↥d->∃v,σ[i]?=some (some v)/\Rep K G d v
 ow:∀(i:Nat)ds,ω[i]?=some (some (.ow ds))->∃l vs,σ[i]?=some (some (.ref l))/\H l=some (.lst vs)/\G l=none/\H0 l=none/\XR K G ds vs
 nd:∀(i j:Nat)ds es l,ω[i]?=some (some (.ow ds))->ω[j]?=some (some (.ow es))->σ[i]?=some (some (.ref l))->σ[j]?=some (some (.ref l))->i=j
 od:∀(i:Nat)ks ds,ω[i]?=some (some (.od ks ds))->∃p vs,σ[i]?=some (some (.ref p))/\H p=some (.dK (kvsOf ks vs))/\G p=none/\H0 p=none/\ks.length=ds.length/\XR K G ds vs /\
  ∀(j:Nat)ks' es,ω[j]?=some (some (.od ks' es))->σ[j]?=some (some (.ref p))->i=j
 pw:WK K H0 G ω σ H
inductive R where
 | sh (d:D)|fr (ds:List D)|vw (ds:List D)
noncomputable def R.d:R->D
 | .sh d=>d
 | .fr ds=>.lst ds
 | .vw ds=>.lst ds
def zCc(K:zB)(H G' H':Hp):R->V->Prop
 | .sh d,v=>Rep K G' d v
 | .fr ds,v=>∃l vs,v=.ref l/\H l=none/\G' l=none/\H' l=some gS/\XR K G' ds vs
 | .vw ds,v=>∃l vs,v=.ref l/\H' l=some gS/\XR K G' ds vs
def Vw(K:zB)(G H:Hp)(d:D)(v:V):Prop:=Rep K G d v\/∃ds l vs,d=.lst ds/\v=.ref l/\H l=some gS/\XR K G ds vs
theorem Own.keep{K:zB}{G0:Hp}{H0:Fr}{G G':Hp}{ω:WSt}{σ:St}{H H':Hp}(o:bS)(e:Cj):Own K G0 H0 G' ω σ H':=by
 refine⟨o.ext.trans e,o.len,Lw,λi ds h=>?_,o.nd,λi ks ds h=>?_,o.pw.keep e⟩
 ·obtain⟨v,h1,h2⟩:=o.sh i d h
  exact⟨v,h1,h2.mono e.gg⟩
 ·obtain⟨l,vs,h1,h2,h3,h4,h5⟩:=o.ow i ds h
  exact⟨l,vs,h1,LC,e.new l h3 (by rw[h2];exact λz=>by cases z),h4,Rx⟩
 ·obtain⟨l,vs,h1,h2,h3,h4,h6,h5,h7⟩:=o.od i ks ds h
  exact⟨l,vs,h1,LC,e.new l h3 (by rw[h2];exact λz=>by cases z),h4,h6,Rx,h7⟩
theorem Own.gh{K:zB}{G0:Hp}{H0:Fr}{G:Hp}{ω:WSt}{σ:St}{H:Hp}(o:bS):Xh G H:=o.ext.gh
noncomputable abbrev FE:=WSt->Option R
noncomputable abbrev FD:=WSt->Option D
noncomputable abbrev FT:=WSt->Option Bool
noncomputable abbrev FA:=WSt->Option aZ
def zC8(K:zB)(t:TE)(f:FE):Prop:=∀G0 H0 G ω σ H r(Q:VK),Own K G0 H0 G ω σ H->f ω=some r ->
 (∀v G' H',Ext G H G' H'->zCc K H G' H' r v->Q v H')->t σ H Q
def zB1(K:zB)(t:TE)(f:FD):Prop:=∀G0 H0 G ω σ H d(Q:VK),Own K G0 H0 G ω σ H->f ω=some d ->
 (∀v G' H',Ext G H G' H'->Rep K G' d v->Q v H')->t σ H Q
def SimV(K:zB)(t:TE)(f:FD):Prop:=∀G0 H0 G ω σ H d(Q:VK),Own K G0 H0 G ω σ H->f ω=some d ->
 (∀v G' H',Ext G H G' H'->Vw K G' H' d v->Q v H')->t σ H Q
def zBe(K:zB)(t:TT)(f:FT):Prop:=∀G0 H0 G ω σ H b(Q:ji),Own K G0 H0 G ω σ H->f ω=some b ->
 (∀G' H',Ext G H G' H'->Q b H')->t σ H Q
def SimA(K:zB)(t:TA)(f:FA):Prop:=∀G0 H0 G ω σ H ds(Q:mK),Own K G0 H0 G ω σ H->f ω=some ds ->
 (∀vs G' H',Ext G H G' H'->XR K G' ds vs->Q vs H')->t σ H Q
def XE(X:Cx)(e:vW)(f:FE):Prop:=∃t,PE X e t/\zC8 X.K t f
def XD(X:Cx)(e:vW)(f:FD):Prop:=∃t,PE X e t/\zB1 X.K t f
def XV(X:Cx)(e:vW)(f:FD):Prop:=∃t,PE X e t/\SimV X.K t f
def XT(X:Cx)(e:vW)(f:FT):Prop:=∃t,PT X e t/\zBe X.K t f
def XW(X:Cx)(e:vW)(f:FT):Prop:=∃t,PW X e t/\zBe X.K t f
def XA(X:Cx)(es:iF)(f:FA):Prop:=(∃t,PA X es t/\SimA X.K t f)/\∀ω ds,f ω=some ds->ds.length=es.length
noncomputable def eOf(f:FD):FE:=λω=>(f ω).map R.sh
noncomputable def dOf(f:FE):FD:=λω=>match f ω with
 | ↥d=>some d
 | some (.fr ds)=>some eY
 | _=>none
noncomputable def vOf(f:FE):FD:=λω=>(f ω).map R.d
section
variable{X:Cx}{e:vW}
theorem XD.toE{f:FD}(h:Oe):XE X e (eOf f):=by
 obtain⟨t,h1,h2⟩:=h;refine⟨t,h1,bZ⟩;unfold eOf at e;cases q:f ω with
 | none=>rw[q]at e;cases e
 | some d=>rw[q]at e;cases e;exact h2 G0 H0 G ω σ H d Q o q k
theorem XE.toD{f:FE}(h:XE X e f):XD X e (dOf f):=by
 obtain⟨t,h1,h2⟩:=h;refine⟨t,h1,dg⟩;unfold dOf at e;cases q:f ω with
 | none=>rw[q]at e;cases e
 | some r=>
  rw[q]at e;cases r with
  | sh d'=>cases e;exact h2 G0 H0 G ω σ H _ Q o q k
  | fr ds=>
   cases e;refine h2 G0 H0 G ω σ H _ Q o q λv G' H' x ⟨l,vs,e1,e2,e3,e4,e5⟩=>?_;have s1:Xh G' (upd G' l gS):=WD e3 _;refine k v (upd G' l gS) H' ⟨x.gg.trans s1,Q4,x.hh,HR⟩ ⟨l,vs,e1,qe,e5.mono s1⟩
   ·by_cases hb:b=l
    ·subst hb;rw[qe]at z;rw[e4];exact z
    ·rw[qd hb]at z;exact x.gh b u z
   ·rw[qd (λhb=>z2 (by rw[hb];exact e2))];exact x.new b z1 z2
  | vw ds=>cases e
theorem XE.toV{f:FE}(h:XE X e f):XV X e (vOf f):=by
 obtain⟨t,h1,h2⟩:=h;refine⟨t,h1,dg⟩;unfold vOf at e;cases q:f ω with
 | none=>rw[q]at e;cases e
 | some r=>
  rw[q]at e;have e':r.d=d:=zy e;subst e';refine h2 G0 H0 G ω σ H r Q o q λv G' H' x y=>k v G' H' x ?_;cases r with
  | sh d'=>exact .inl y
  | fr ds=>obtain⟨l,vs,e1,e2,e3,e4,e5⟩:=y;exact .inr ⟨ds,l,vs,rfl,e1,e4,e5⟩
  | vw ds=>obtain⟨l,vs,e1,e2,e3⟩:=y;exact .inr ⟨ds,l,vs,rfl,e1,e2,e3⟩
theorem XD.toV{f:FD}(h:Oe):XV X e f:=by
 obtain⟨t,h1,h2⟩:=h;exact⟨t,h1,λG0 H0 G ω σ H d Q o e k=>h2 G0 H0 G ω σ H d Q o e λv G' H' x y=>k v G' H' x (.inl y)⟩
end
noncomputable def Y6(i:Nat):FE:=λω=>match ω[i]? with
 | some ↥d=>↥d
 | some (some (.ow ds))=>some Js
 | some (some (.pw ds))=>some Js
 | _=>none
noncomputable def fC(d:D):FD:=λ_=>some d
section
variable{X:Cx}
theorem zBn{e:vW}(i:Nat)(h:PE X e Np):XE X e (Y6 i):=by
 refine⟨_,h,bZ⟩;unfold Y6 at e;cases q:ω[i]? with
 | none=>rw[q]at e;cases e
 | some w=>
  rw[q]at e;cases w with
  | none=>cases e
  | some w=>
   cases w with
   | sh d=>
    cases e;obtain⟨v,h1,h2⟩:=o.sh i d q;exact⟨v,h1,k v G H ln h2⟩
   | ow ds=>
    cases e;obtain⟨l,vs,h1,h2,h3,h4,h5⟩:=o.ow i ds q;exact⟨_,h1,k _ G H ln ⟨l,vs,rfl,h2,h5⟩⟩
   | od ks ds=>cases e
   | pw ds=>
    cases e;obtain⟨vs,h1,h2,h3,h4,h5,_⟩:=o.pw i ds q;exact⟨_,h1,k _ G H ln ⟨_,vs,rfl,h2,h5⟩⟩
theorem xd_c{e:vW}{v:V}{d:D}(h:PE X e (tC v))(hr:∀K H,Rep K H d v):XD X e (fC d):=by
 refine⟨_,h,bZ⟩;cases e;exact k v G H ln (hr _ _)
theorem Y8{i j pos}:XD X Sb (fC gU):=xd_c qkk λ_ _=>rfl
theorem WG{b j pos}:XD X LQ (fC LP):=xd_c qkD λ_ _=>rfl
theorem zAl{x j pos}:XD X Sc (fC KC):=xd_c qjV λ_ _=>rfl
end
theorem bnd{α β:Type}{o:Option α}{f:α->Option β}{r:β}(h:o.bind f=some r):∃a,o=some a/\f a=some r:=Option.bind_eq_some_iff.mp h
theorem mpd{α β:Type}{o:Option α}{f:α->β}{r:β}(h:o.map f=some r):∃a,o=some a/\f a=r:=wQ.mp h
noncomputable def XL:FA:=λ_=>some []
noncomputable def Y5(f:FD)(g:FA):FA:=λω=>(f ω).bind λd=>(g ω).map λds=>d::ds
section
variable{X:Cx}{e:vW}{es:List vW}
theorem Y7:XA X [] XL:=⟨⟨_,qy,λG0 H0 G ω σ H ds Q o e k=>by cases e;exact k [] G H ln rfl⟩,λω ds e=>by cases e;rfl⟩
theorem Y4{f:FD}{g:FA}(h:Oe)(hr:XA X es g)(hs:aP:=by rfl):XA X jF (Y5 f g):=by
 obtain⟨t,h1,h2⟩:=h;obtain⟨⟨u,h3,h4⟩,h5⟩:=hr;refine⟨As,λω ds e=>?_⟩
 ·obtain⟨d,q,e⟩:=bnd e
  obtain⟨r,q2,e⟩:=mpd e;subst e;refine h2 G0 H0 G ω σ H d _ o q λv G1 H1 x1 y1=>?_;refine h4 G0 H0 G1 ω σ H1 r _ iI q2 λvs G2 H2 x2 y2=>?_;exact k _ G2 H2 ee (XR.cons Ei y2)
 ·obtain⟨d,q,e⟩:=bnd e
  obtain⟨r,q2,e⟩:=mpd e;subst e;rw[zI,zI,h5 ω r q2]
noncomputable def zAb(g:FA):FD:=λω=>(g ω).map D.tup
noncomputable def zAA(g:FA):FE:=λω=>(g ω).map R.fr
theorem zB0{n:Nat}(h:n<=1000):n<=sizeLine:=yi (zBx h)
theorem Xw{x1 pos}{g:FA}(h:XA X es g)(hl:es.length<=1000:=by decide):XD X UN (zAb g):=by
 obtain⟨⟨t,h1,h2⟩,h5⟩:=h;refine⟨_,qjA h1,dg⟩;obtain⟨ds,q,e⟩:=mpd e;subst e;refine h2 G0 H0 G ω σ H ds _ o q λvs G1 H1 x1 y1=>⟨zB0 (by rw[<- y1.len,h5 ω ds q];exact hl),pZ⟩;have x2:=Ext.lay x1.gh hp O3;exact k _ _ _ ee ⟨p,vs,rfl,qe,Ei⟩
theorem Xr{pos}{g:FA}(h:XA X es g)(hl:es.length<=1000:=by decide):XE X adb (zAA g):=by
 obtain⟨⟨t,h1,h2⟩,h5⟩:=h;refine⟨_,q3d h1,dg⟩;obtain⟨ds,q,e⟩:=mpd e;subst e;refine h2 G0 H0 G ω σ H ds _ o q λvs G1 H1 x1 y1=>⟨zB0 (by rw[<- y1.len,h5 ω ds q];exact hl),pZ⟩;have x2:=Ext.hide x1.gh hp gS;exact k _ _ _ ee ⟨p,vs,rfl,x1.hh.free hp,x1.gh.free hp,qe,y1⟩
inductive O where
 | sh (d:D)|fr (ds:List D)
noncomputable def O.r:O->R
 | .sh d=>.sh d
 | .fr ds=>.fr ds
noncomputable def spD(K:zB)(n:Nat)(m:cc):Sp:=λvs H Q _=>∃G ds r,m ds=some r/\ds.length=n/\Xh G H/\XR K G ds vs/\∀v G' H',Ext G H G' H'->zCc K H G' H' r.r v->Q v H'
noncomputable def XJ(m:cc)(g:FA):FE:=λω=>(g ω).bind λds=>(m ds).map O.r
theorem zCt{CX:CXT}{k:Nat}{f:vG}{fd:vQ}{ps:dJ}{m:cc}{E:XK}{x:Str}{p pos:Pos}{g:FA}(F:FnOk X.prog X.w X.K X.mg X.base CX k f fd ps (spD X.K (e::es).length m))(hr:abP)(hg:AC)(hm:X.mg x=some iG)(hk:xx X.K iG=true)(hb:nR)(hx:aan)(ha:XA X jF g)(hdb:aI:=by decide)(he:aP:=by rfl)(hpl:(vt pos ij).any (·.1)=false:=by rfl):
  XE X cL (XJ m g):=by
 obtain⟨⟨t,h1,h2⟩,h5⟩:=ha;refine⟨_,qcg F hr hg hm hk hb .nil hx h1 hdb he hpl,bZ⟩;obtain⟨ds,q,e⟩:=bnd e;obtain⟨r',q2,e⟩:=mpd e;subst e;refine h2 G0 H0 G ω σ H ds _ o q λvs G1 H1 x1 y1=>?_;refine⟨G1,ds,r',q2,h5 ω ds q,x1.gh,by rw[zk];exact y1,λv G2 H2 x2 y2=>k v G2 H2 ee ?_⟩;cases r' with
 | sh d=>exact y2
 | fr ds=>obtain⟨l,vs,e1,e2,e3⟩:=y2;exact⟨l,vs,e1,x1.hh.free e2,e3⟩
end
open PySem.Spec PyProof.Rows PySem.SeqAt PySem.MeetsSeq PySem.MeetsSeq2 PySem.MeetsSeq3 in
theorem q8O{prog:vU}{w:vZ}{A:vf}{E:aH}{s:vC}{t sl:vG}{items:cK}{vl vu:vB}{lo hi:dX}{Q:aH}(ht:UC)(hs:pz)(pl:tf vl lo)(pu:tf vu hi)(hw:HT.sIx items.size 0 lo=0/\HT.sIx items.size items.size hi=items.size)(h:Q jz s):vM aj A (tK jz Gv) Q E s:=by
 obtain⟨os,hos,hcs,hds⟩:=id hs;have hTs:s.TypeIs Gv "slice" := ach;unfold tK
 try with_reducible refine vh ?_
 first|refine vA eP|skip
 refine vA (wpAny_sequenceKey ht.typeIs (by decide) ?_);refine vA (wpAny_callSpecial?_slot (name:=Str.ofString "__getitem__") ht.typeIs PyProof.Rows.slot_tuple_getitem
  lu)
 show vM _ _ (Builtin.Tuple.tupleItemsOf jz >>= _) _ _ s;refine vA Qg;refine vA (uo hTs ?_);rw[vH (by decide)];refine vA (HT.q37 hs pl pu ?_);have hy:gC=true:=by
  rw[hw.1,hw.2];simp
 show vM _ _ (if gC=true then _ else _) _ _ s;rw[vH hy];have hb:∀{R:mM},R true s->vM aj A.in1 (Builtin.Tuple.tupleIsExact jz) R E s:=λr=>by
  unfold Builtin.Tuple.tupleIsExact;refine vA (uo ht.typeIs ?_);exact vF r
 refine vA (hb ?_);rw[kT];refine vA U8;exact vF ⟨_,rfl,U6⟩
section
variable{X:Cx}
def rSlW(K:zB):V->Option Int->Option Int->Hp->VK->Prop:=λx lo hi H Q=>∃a xs,x=.ref a/\SqT K H a xs /\
 nw/\Q dq H
theorem qgn:SlR X (rSlW X.K):=by
 intro pins s σ H x v vl vu lo hi sl Q I rx hs pl pu h;obtain⟨a,xs,rfl,hx,hw,q⟩:=h;cases rx;obtain⟨its,r,ht,hz⟩:=I.tuple hx;have hlen:its.toArray.size=xs.length:=by rw[zP];exact r.length.symm
 refine ng;exact q8O ht hs pl pu (by rw[hlen];exact hw) ⟨dq,H,I,rfl,q⟩
end
theorem Vw.rep{K:zB}{G H:Hp}{d:D}{v:V}(h:JW)(e:CP):Rep K H d v:=by
 rcases h with h|⟨ds,l,vs,rfl,rfl,h1,h2⟩
 ·exact h.mono e
 ·exact⟨l,vs,rfl,h1,h2.mono e⟩
theorem Vw.keep{K:zB}{G H G' H':Hp}{d:D}{v:V}(h:JW)(e:Cj):Vw K G' H' d v:=by
 rcases h with h|⟨ds,l,vs,h0,h1,h2,h3⟩
 ·exact .inl (h.mono e.gg)
 ·exact .inr ⟨ds,l,vs,h0,h1,LC,h3.mono e.gg⟩
theorem Vw.lst{K:zB}{G H:Hp}{ds:aZ}{v:V}(h:Vw K G H eY v)(e:CP):∃a vs,v=.ref a/\H a=some gS/\XR K G ds vs:=by
 rcases h with⟨a,vs,h1,h2,h3⟩|⟨ds',l,vs,h0,h1,h2,h3⟩
 ·exact⟨a,vs,h1,e _ _ h2,h3⟩
 ·cases h0;exact⟨l,vs,h1,h2,h3⟩
theorem Vw.of_ne{K:zB}{G H:Hp}{d:D}{v:V}(h:JW)(n:∀ds,d≠.lst ds):Rep K G d v:=by
 rcases h with h|⟨ds',l,vs,h0,h1,h2,h3⟩
 ·exact h
 ·exact vP h0 (n _)
def VwA(K:zB)(G H:Hp):List D->List V->Prop
 | [],vs=>vs=[]
 | d::ds,vs=>∃v r,vs=v::r/\Vw K G H d v/\VwA K G H ds r
def SimVA(K:zB)(t:TA)(f:FA):Prop:=∀G0 H0 G ω σ H ds(Q:mK),Own K G0 H0 G ω σ H->f ω=some ds ->
 (∀vs G' H',Ext G H G' H'->VwA K G' H' ds vs->Q vs H')->t σ H Q
def XVA(X:Cx)(es:iF)(f:FA):Prop:=∃t,PA X es t/\SimVA X.K t f
section
variable{X:Cx}{e:vW}{es:List vW}
theorem qo:XVA X [] XL:=⟨_,qy,λG0 H0 G ω σ H ds Q o e k=>by cases e;exact k [] G H ln rfl⟩
theorem qj{f:FD}{g:FA}(h:XV X e f)(hr:XVA X es g)(hs:aP:=by rfl):XVA X jF (Y5 f g):=by
 obtain⟨t,h1,h2⟩:=h;obtain⟨u,h3,h4⟩:=hr;refine As;obtain⟨d,q,e⟩:=bnd e;obtain⟨r,q2,e⟩:=mpd e;subst e;refine h2 G0 H0 G ω σ H d _ o q λv G1 H1 x1 y1=>?_;refine h4 G0 H0 G1 ω σ H1 r _ iI q2 λvs G2 H2 x2 y2=>?_;exact k _ G2 H2 ee ⟨v,vs,rfl,y1.keep x2,y2⟩
noncomputable def XH(op:kL)(f g:FD):FE:=λω=>(f ω).bind λx=>(g ω).bind λy=>op x y
def OpV(K:zB)(r:R2)(op:kL):Prop:=∀G H x y d v u(Q:VK),Xh G H->op x y=some d->Vw K G H x v->Vw K G H y u ->
 (∀w G' H',Ext G H G' H'->zCc K H G' H' d w->Q w H')->r v u H Q
theorem q5L{r:R2}{o:kL}{f g:FD}{t u:TE}(hd:Gm)(h2:SimV X.K t f)(h4:SimV X.K u g):zC8 X.K (tOp r t u) Hw:=by
 intro G0 H0 G ω σ H d Q ow e k;obtain⟨x,q,e⟩:=bnd e;obtain⟨y,q2,e⟩:=bnd e;refine h2 G0 H0 G ω σ H x _ ow q λv G1 H1 x1 y1=>?_;refine h4 G0 H0 G1 ω σ H1 y _ Pq q2 λv2 G2 H2 x2 y2=>?_;refine hd G2 H2 x y d v v2 Q x2.gh e (y1.keep x2) y2 λw G3 H3 x3 z=>k w G3 H3 BM ?_;cases d with
 | sh d=>exact z
 | fr ds=>obtain⟨l,vs,e1,e2,e3⟩:=z;exact⟨l,vs,e1,(x1.trans x2).hh.free e2,e3⟩
 | vw ds=>exact z
variable{a b:vW}{pos:Pos}{f g:FD}
theorem q3h{op:sV}{r:R2}{o:kL}(ho:OpR X (uc op) r)(hd:Gm)(ha:de)(hb:fO):XE X S8 Hw:=by
 obtain⟨t,h1,h2⟩:=ha;obtain⟨u,h3,h4⟩:=hb;exact⟨_,ql0 ho h1 h3,IG⟩
theorem q4p{op:sw}{r:R2}{o:kL}(ho:Et)(hd:Gm)(ha:de)(hb:fO)(hm:B8):XE X jH Hw:=by
 obtain⟨t,h1,h2⟩:=ha;obtain⟨u,h3,h4⟩:=hb;exact⟨_,qi2 ho h1 h3 hm,IG⟩
theorem ql2{r:R2}{o:kL}(ho:IxR X r)(hd:Gm)(ha:de)(hb:fO)(hs:zAu b):XE X E5 Hw:=by
 obtain⟨t,h1,h2⟩:=ha;obtain⟨u,h3,h4⟩:=hb;exact⟨_,qkV ho h1 h3 hs,IG⟩
noncomputable def tOf(f:FE):FT:=λω=>match f ω with
 | ↥(.bl k)=>some k
 | _=>none
theorem qea{t:TE}{f:FE}(h:zC8 X.K t f):zBe X.K (tTest t) (tOf f):=by
 intro G0 H0 G ω σ H b Q o e k;unfold tOf at e;cases q:f ω with
 | none=>rw[q]at e;cases e
 | some r=>
  rw[q]at e;cases r with
  | sh d=>
   cases d with
   | bl c=>
    cases e;refine h G0 H0 G ω σ H _ _ o q λv G' H' x y=>?_;cases (show v=V.bl b from y);exact⟨b,rfl,k G' H' x⟩
   | _=>cases e
  | _=>cases e
theorem q5f{op:sw}{r:R2}{o:kL}(ho:Et)(hd:Gm)(ha:de)(hb:fO)(hm:B8):XT X jH (tOf Hw):=by
 obtain⟨t,h1,h2⟩:=ha;obtain⟨u,h3,h4⟩:=hb;exact⟨_,qiY ho h1 h3 hm,qea IG⟩
noncomputable def zBU(c:Bb)(g:UE):D->D->Option R
 | .int i,.int j=>if c i j=true then ↥nC else none
 | _,_=>none
theorem Vw.int{K:zB}{G H:Hp}{i:Int}{v:V}(h:Vw K G H gU v):v=.int i:=h.of_ne (λ_ z=>by cases z)
theorem Vw.bl{K:zB}{G H:Hp}{i:Bool}{v:V}(h:Vw K G H (.bl i) v):v=.bl i:=h.of_ne (λ_ z=>by cases z)
theorem Vw.str{K:zB}{G H:Hp}{i:Str}{v:V}(h:Vw K G H (.str i) v):v=.str i:=h.of_ne (λ_ z=>by cases z)
theorem Vw.non{K:zB}{G H:Hp}{v:V}(h:Vw K G H .non v):v=.non:=h.of_ne (λ_ z=>by cases z)
theorem Vw.tup{K:zB}{G H:Hp}{ds:aZ}{v:V}(h:Vw K G H HF v):∃a vs,v=.ref a/\G a=some O3/\XR K G ds vs:=h.of_ne (λ_ z=>by cases z)
theorem Vw.scr{K:zB}{G H:Hp}{ns:af}{v:V}(h:Vw K G H jn v):∃a,v=.ref a/\SqL K G a ca:=h.of_ne (λ_ z=>by cases z)
theorem q60{K:zB}{C:Om}{c:Bb}{gV:LM}{g:UE}(hc:∀i j,c i j=true->C i j)(hg:∀H i j,Rep K H nC (gV i j)):OpV K (rI C gV) (zBU c g):=by
 intro G H x y d v u Q s e hx hy k;cases x with
 | int i=>
  cases y with
  | int j=>
   cases hx.int;cases hy.int;unfold zBU at e
   dsimp only at e
   by_cases z:c i j=true
   ·rw[gz]at e
    cases e;exact⟨i,j,rfl,rfl,hc i j z,SF⟩
   ·rw[gc]at e;cases e
  | _=>cases e
 | _=>cases e
theorem q1u{K:zB}{gV:LM}{g:UE}(hg:∀H i j,Rep K H nC (gV i j)):OpV K (rI0 gV) (zBU pL g):=by
 intro G H x y d v u Q s e hx hy k;cases x with
 | int i=>
  cases y with
  | int j=>
   cases hx.int;cases hy.int;cases e;exact⟨i,j,rfl,rfl,SF⟩
  | _=>cases e
 | _=>cases e
noncomputable def zCo(i j:Int):Bool:=(decide (-(2^64)<i)&&decide (i<2^64)) || (decide (-(2^64)<j)&&decide (j<2^64))
noncomputable def cDiv(_ j:Int):Bool:=decide (0<j)&&decide (j<1073741824)
noncomputable def cMod(_ j:Int):Bool:=decide (0<j)
noncomputable def cPow(i j:Int):Bool:=decide (0<=j)&&decide (j<=1000000)&&decide (i.natAbs<2^64)
noncomputable abbrev zBC:D->D->Option R:=zBU pL λi j=>.int (i-j)
noncomputable abbrev zAy:D->D->Option R:=zBU zCo λi j=>.int (i*j)
noncomputable abbrev oDiv:D->D->Option R:=zBU cDiv λi j=>.int (i/j)
noncomputable abbrev oMod:D->D->Option R:=zBU cMod λi j=>.int (i%j)
noncomputable abbrev oPow:D->D->Option R:=zBU cPow λi j=>.int (i^j.toNat)
noncomputable abbrev oLt:D->D->Option R:=zBU pL λi j=>.bl (decide (i<j))
noncomputable abbrev oLe:D->D->Option R:=zBU pL λi j=>.bl (decide (i<=j))
noncomputable abbrev oGt:D->D->Option R:=zBU pL λi j=>.bl (decide (j<i))
noncomputable abbrev oGe:D->D->Option R:=zBU pL λi j=>.bl (decide (j<=i))
noncomputable def WC:D->D->Option R
 | .int i,.int j=>↥(.int (i+j))
 | .lst xs,.lst ys=>if xs.length+ys.length<=1000000 then some (.fr LZ)else none
 | .tup [],.tup ys=>↥ab2
 | .tup (x::xs),.tup ys=>if (x::xs).length+ys.length<=1000000 then ↥(.tup (NI++ys))else none
 | _,_=>none
theorem q6L{n:Nat}(h:n<=1000000):n<=sizeLine:=by rw[vj];omega
noncomputable def rCat0(K:zB):R2:=λx y H Q=>∃a b ys,x=.ref a/\y=.ref b/\SqT K H a []/\SqT K H b ys/\Q Cv H
theorem qiU:OpR X JJ (rCat0 X.K):=by
 intro pins s σ H x y v u Q I rx ry h;obtain⟨a,b,ys,rfl,rfl,ha,hb,q⟩:=h;cases rx;cases ry;obtain⟨its,r1,p1,_⟩:=I.tuple ha;obtain⟨its2,r2,p2,_⟩:=I.tuple hb;have e0:its=[]:=r1.nil_iff.mpr rfl;subst e0;obtain⟨⟨cls,dd,data,sl⟩,ho,hc,n,hd⟩:=id p1;obtain⟨⟨cls2,dd2,data2,sl2⟩,ho2,hc2,n2,hd2⟩:=id p2;simp only at hc hd hc2 hd2;subst hc hd hc2 hd2;exact PySem.concat_meets Nz LV PySem.noFill_tuple_add PySem.seq_tuple_add PySem.F.slot_tuple_add PySem.F.entry_tuple_add pD
  (PyProof.Rows.tuple_addW0 a b _ its2.toArray n n2 dd dd2 sl sl2 (by simp)) ⟨ho,ho2,⟨Cv,H,I,rfl,q⟩⟩
noncomputable def zB4(K:zB):R2:=λx y H Q=>rI0 (λi j=>.int (i+j)) x y H Q\/rCat x y H Q\/rCatT K x y H Q\/rCat0 K x y H Q
theorem qet:OpR X JJ (zB4 X.K):=qk0.or (qjZ.or (qil.or qiU))
theorem qiV{K:zB}:OpV K (zB4 K) WC:=by
 intro G H x y d v u Q s e hx hy k;cases x with
 | int i=>
  cases y with
  | int j=>
   cases hx.int;cases hy.int;cases e;exact .inl Th
  | _=>cases e
 | lst xs=>
  cases y with
  | lst ys=>
   unfold WC at e
   dsimp only at e
   by_cases z:xs.length+ys.length<=1000000
   ·rw[gz]at e
    cases e;obtain⟨a,vs,rfl,h1,h2⟩:=hx.lst s;obtain⟨b,us,rfl,h3,h4⟩:=hy.lst s;refine .inr (.inl ⟨a,b,vs,us,rfl,rfl,h1,h3,q6L (by rw[<- h2.len,<- h4.len];exact z),pZ⟩);exact k _ G _ VQ ⟨p,_,rfl,hp,s.free hp,qe,h2.app h4⟩
   ·rw[gc]at e;cases e
  | _=>cases e
 | tup xs=>
  cases y with
  | tup ys=>
   obtain⟨a,vs,rfl,h1,h2⟩:=hx.tup;obtain⟨b,us,rfl,h3,h4⟩:=hy.tup;cases xs with
   | nil=>
    cases e;have ev:vs=[]:=yw h2.len.symm;subst ev;exact .inr (.inr (.inr ⟨a,b,us,rfl,rfl,EW,SqT.of Mc,k _ G H da ⟨b,us,rfl,h3,h4⟩⟩))
   | cons x0 xs=>
    unfold WC at e
    dsimp only at e
    by_cases z:(x0::xs).length+ys.length<=1000000
    ·rw[gz]at e
     cases e;refine .inr (.inr (.inl ⟨a,b,vs,us,rfl,rfl,EW,SqT.of Mc,λw=>?_,q6L (by rw[<- h2.len,<- h4.len];exact z),λw=>?_,λ_ p hp=>?_⟩))
     ·have:=h2.len
      rw[w]at this;cases this
     ·have:=h4.len
      rw[w]at this;have ey:ys=[]:=yw this;subst ey;rw[zk]at k;exact k _ G H da ⟨a,vs,rfl,h1,h2⟩
     ·have x2:=Ext.lay s hp (.tup (vs++us))
      exact k _ _ _ x2 ⟨p,_,rfl,qe,(h2.app h4).mono x2.gg⟩
    ·rw[gc]at e;cases e
  | _=>cases xs <;> cases e
 | _=>cases e
theorem qF(ha:de)(hb:fO):XE X (.BinOp a .Add b pos) (XH WC f g):=q3h qet qiV ha hb
theorem q0J(ha:de)(hb:fO):XE X (.BinOp a .Sub b pos) (XH zBC f g):=q3h qkc jq ha hb
theorem mulOk{i j:Int}(h:zCo i j=true):CMul i j:=by
 unfold zCo at h;rw[Bool.or_eq_true,yN,yN,decide_eq_true_iff,decide_eq_true_iff,decide_eq_true_iff,decide_eq_true_iff]at h;exact h
theorem divOk{i j:Int}(h:cDiv i j=true):CDiv i j:=by
 unfold cDiv at h;rw[yN,decide_eq_true_iff,decide_eq_true_iff]at h;exact h
theorem powOk{i j:Int}(h:cPow i j=true):CPow i j:=by
 unfold cPow at h;rw[yN,yN,decide_eq_true_iff,decide_eq_true_iff,decide_eq_true_iff]at h;exact⟨h.1.1,h.1.2,h.2⟩
theorem q4f(ha:de)(hb:fO):XE X P3 (XH zAy f g):=q3h qjn (q60 (λ_ _ h=>mulOk h) λ_ _ _=>rfl) ha hb
theorem q1K(ha:de)(hb:fO):XE X (.BinOp a .FloorDiv b pos) (XH oDiv f g):=q3h qiF (q60 (λ_ _ h=>divOk h) λ_ _ _=>rfl) ha hb
theorem q0K(ha:de)(hb:fO):XE X (.BinOp a .Mod b pos) (XH oMod f g):=q3h qkf (q60 (λ_ _ h=>of_decide_eq_true h) λ_ _ _=>rfl) ha hb
theorem qaR(ha:de)(hb:fO):XE X (.BinOp a .Pow b pos) (XH oPow f g):=q3h qkv (q60 (λ_ _ h=>powOk h) λ_ _ _=>rfl) ha hb
noncomputable def oNeg:D->Option R
 | .int i=>↥(.int (-i))
 | _=>none
noncomputable def fNeg(f:FD):FE:=λω=>(f ω).bind oNeg
theorem qdP(ha:de):XE X (.UnaryOp .USub a pos) (fNeg f):=by
 obtain⟨t,h1,h2⟩:=ha;refine⟨_,qkG qkb h1,λG0 H0 G ω σ H d Q ow e k=>?_⟩;obtain⟨x,q,e⟩:=bnd e;refine h2 G0 H0 G ω σ H x _ ow q λv G1 H1 x1 y1=>?_;cases x with
 | int i=>cases e;cases y1.int;exact⟨i,rfl,K1⟩
 | _=>cases e
theorem qhg(ha:de)(hb:fO):XE X M5 (XH oLt f g):=q4p qhv jq ha hb Dz
theorem q97(ha:de)(hb:fO):XE X (.Compare a [.LtE] [b] pos) (XH oLe f g):=q4p qkL jq ha hb Dz
theorem ql3(ha:de)(hb:fO):XE X M6 (XH oGt f g):=q4p qhK jq ha hb Dz
theorem qkQ(ha:de)(hb:fO):XE X (.Compare a [.GtE] [b] pos) (XH oGe f g):=q4p qkO jq ha hb Dz
theorem q96(ha:de)(hb:fO):XT X M5 (tOf (XH oLt f g)):=q5f qhv jq ha hb Dz
theorem qkK(ha:de)(hb:fO):XT X M6 (tOf (XH oGt f g)):=q5f qhK jq ha hb Dz
end
mutual
noncomputable def D.py:D->PyData
 | .non=>.none
 | .bl b=>.bool b
 | .int i=>.int i
 | .str x=>.str x
 | .lst xs=>.list (D.pys xs)
 | .tup xs=>.tuple (D.pys xs)
 | .scr ns=>.list SD
 | .exc _=>.dict []
 | .dic _ _=>.dict []
noncomputable def D.pys:List D->List PyData
 | []=>[]
 | d::ds=>d.py::D.pys ds
end
section
variable{X:Cx}{pins:List (vG×Obj)}{σ:St}{H:Hp}{s:vC}
theorem zAO{h:vm}:∀{ns:af}{us:bx},Xj ca us->∃as,ReadsAll h us SD as
 | [],_,r=>by cases r;exact⟨_,.nil⟩
 | n::ns,_,r=>by
  rw[zU]at r;cases r with
  | cons r1 r2=>
   obtain⟨t,rfl⟩:=r1;obtain⟨as,q⟩:=zAO (h:=h) r2;exact⟨_,.cons (.int n t) q⟩
mutual
theorem Wh(I:aq):∀{d:D}{v:V}{u:vB},d.py.canLay0=true->Rep X.K H d v->RelV v u->∃as,Reads s.heap u d.py as
 | .non,_,_,_,h,r=>by cases (show _=V.non from h);cases r;exact⟨_,.none⟩
 | .bl b,_,_,_,h,r=>by cases (show _=V.bl b from h);cases r;exact⟨_,.bool b⟩
 | .int i,_,_,_,h,r=>by cases (show _=V.int i from h);obtain⟨t,rfl⟩:=r;exact⟨_,rX⟩
 | .str x,_,_,_,h,r=>by cases (show _=V.str x from h);obtain⟨t,rfl⟩:=r;exact⟨_,ab4⟩
 | .lst ds,_,_,hc,⟨a,vs,rfl,h2,h3⟩,r=>by
  cases r;obtain⟨its,n,rv,e,_⟩:=I.lst h2;obtain⟨as,q⟩:=W2 I (show PyData.canLayAll0 nJ=true from hc) h3 rv;exact⟨_,.list e rfl rfl ⇑q⟩
 | .tup ds,_,_,hc,⟨a,vs,rfl,h2,h3⟩,r=>by
  cases r;obtain⟨its,rv,⟨o,e,c,n,dd⟩,_⟩:=I.tuple (SqT.of h2);obtain⟨as,q⟩:=W2 I (show PyData.canLayAll0 nJ=true from hc) h3 rv;exact⟨_,.tuple e c dd ⇑q⟩
 | .exc _,_,_,hc,_,_=>by cases hc
 | .dic _ _,_,_,hc,_,_=>by cases hc
 | .scr ns,_,_,_,⟨a,rfl,h2⟩,r=>by
  cases r;obtain⟨its,rv,pl,_⟩:=I.list h2;obtain⟨o,e,c,n,dd⟩:=pl.isList;obtain⟨as,q⟩:=zAO (h:=s.heap) rv;exact⟨_,.list e c dd ⇑q⟩
theorem W2(I:aq):∀{ds:aZ}{vs:bt}{us:bx},PyData.canLayAll0 nJ=true->XR X.K H ds vs->Xj vs us->∃as,ReadsAll s.heap us nJ as
 | [],_,_,_,h,r=>by cases (show _=[]from h);cases r;exact⟨_,.nil⟩
 | d::ds,_,_,hc,⟨v,vr,h1,h2,h3⟩,r=>by
  have hc':=wA.mp (show (d.py.canLay0&&PyData.canLayAll0 nJ)=true from hc);subst h1;cases r with
  | cons r1 r2=>
   obtain⟨as,q1⟩:=Wh I hc'.1 h2 r1;obtain⟨bs,q2⟩:=W2 I hc'.2 h3 r2;exact⟨_,.cons q1 q2⟩
end
end
noncomputable def shp(d:D):Bool:=SeqAt.shaped d.py
noncomputable def eqD(x y:D):Bool:=PyData.eqv x.py y.py
noncomputable def rEqD(K:zB)(neg:Bool):R2:=λx y H Q=>∃d e,Rep K H d x/\Rep K H e y/\shp d=true/\shp e=true/\Q (.bl (if neg then !eqD d e else eqD d e)) H
noncomputable def oEq(neg:Bool):D->D->Option R:=λx y=>if shp x&&shp y then ↥(.bl (if neg then !eqD x y else eqD x y))else none
section
variable{X:Cx}{a b:vW}{pos:Pos}{f g:FD}
theorem zCY(hu:fP):OpR X (uW .Eq) (rEqD X.K false):=by
 intro pins s σ H x y v u Q I rx ry h;obtain⟨d,e,h1,h2,h3,h4,q⟩:=h;obtain⟨as,ra⟩:=Wh I LG h1 rx;obtain⟨bs,rb⟩:=Wh I LF h2 ry;exact SeqAt.compareEq_shaped ra rb h3 h4 hu Ev
theorem zCZ(hu:fP):OpR X (uW .NotEq) (rEqD X.K true):=by
 intro pins s σ H x y v u Q I rx ry h;obtain⟨d,e,h1,h2,h3,h4,q⟩:=h;obtain⟨as,ra⟩:=Wh I LG h1 rx;obtain⟨bs,rb⟩:=Wh I LF h2 ry;exact SeqAt.compareNe_shaped ra rb h3 h4 hu Ev
theorem zA2{K:zB}{neg:Bool}:OpV K (rEqD K neg) (oEq neg):=by
 intro G H x y d v u Q s e hx hy k;unfold oEq at e
 by_cases z:(shp x&&shp y)=true
 ·rw[gz]at e
  cases e;rw[yN]at z;exact⟨x,y,hx.rep s,hy.rep s,z.1,z.2,mI⟩
 ·rw[gc]at e;cases e
theorem zAm(hu:fP)(ha:de)(hb:fO):XE X M7 (XH iE f g):=q4p (zCY hu) zA2 ha hb Dz
theorem xe_ne(hu:fP)(ha:de)(hb:fO):XE X KG (XH fQ f g):=q4p (zCZ hu) zA2 ha hb Dz
theorem zC2(hu:fP)(ha:de)(hb:fO):XT X M7 (tOf (XH iE f g)):=q5f (zCY hu) zA2 ha hb Dz
theorem Wk(hu:fP)(ha:de)(hb:fO):XT X KG (tOf (XH fQ f g)):=q5f (zCZ hu) zA2 ha hb Dz
noncomputable def rIs(neg:Bool):R2:=λx y H Q=>(y=.non/\Q (.bl (if neg then !decide (x=.non)else decide (x=.non))) H)\/∃a b,x=.bl a/\y=.bl b/\Q (.bl (if neg then ! HZ else a==b)) H
theorem zCK:OpR X (uW .IsNot) (rIs true):=by
 intro pins s σ H x y v u Q I rx ry h;rcases h with⟨rfl,q⟩|⟨a,b,rfl,rfl,q⟩
 ·exact qhT pins s σ H x .non v u Q I rx ry ⟨rfl,q⟩
 ·cases rx
  cases ry;exact PyProof.Rows.isnot_bool Ev
noncomputable def isN:D->Bool
 | .non=>true
 | _=>false
noncomputable def oIs(neg:Bool):D->D->Option R
 | x,.non=>↥(.bl (if neg then !isN x else isN x))
 | .bl i,.bl j=>↥(.bl (if neg then !(i==j)else i==j))
 | _,_=>none
theorem isN_of{K:zB}{H:Hp}{d:D}{v:V}(h:Rep K H d v):decide (v=.non)=isN d:=by
 cases d with
 | non=>cases (show v=V.non from h);rfl
 | bl b=>cases (show v=V.bl b from h);rfl
 | int b=>cases (show v=V.int b from h);rfl
 | str b=>cases (show v=V.str b from h);rfl
 | lst _=>obtain⟨a,_,rfl,_⟩:=h;rfl
 | tup _=>obtain⟨a,_,rfl,_⟩:=h;rfl
 | scr _=>obtain⟨a,rfl,_⟩:=h;rfl
 | exc _=>obtain⟨a,_,rfl,_⟩:=h;rfl
 | dic _ _=>obtain⟨a,_,rfl,_⟩:=h;rfl
theorem opv_is{K:zB}{neg:Bool}:OpV K (rIs neg) (oIs neg):=by
 intro G H x y d v u Q s e hx hy k;cases y with
 | non=>
  cases hy.non;refine .inl QX;rw[isN_of (hx.rep s)];cases x <;> (cases e;exact k _ G H da rfl)
 | bl j=>
  cases x with
  | bl i=>
   cases hx.bl;cases hy.bl;cases e;exact .inr Th
  | _=>cases e
 | _=>cases x <;> cases e
theorem zCJ(ha:de)(hb:fO):XT X (.Compare a [.IsNot] [b] pos) (tOf (XH (oIs true) f g)):=q5f zCK opv_is ha hb Dz
noncomputable def oIx:D->D->Option R
 | .lst ds,.int i=>(atI ds i).map R.sh
 | .tup ds,.int i=>(atI ds i).map R.sh
 | .scr ns,.int i=>(atI ns i).map λn=>.sh GT
 | _,_=>none
theorem zA3{K:zB}{H:Hp}{ds:aZ}{vs:bt}{i:Int}{d:D}(h:AL)(e:atI ds i=some d):∃v,atI vs i=some v/\Rep K H d v:=by
 unfold atI at e ⊢;rw[<- h.len];cases q:ixN ds.length i with
 | none=>rw[q]at e;cases e
 | some j=>
  rw[q]at e;obtain⟨v,e1,e2⟩:=h.get e;exact⟨v,e1,e2⟩
theorem zCC{ns:af}{i n:Int}(e:atI ns i=some n):atI ca i=some GT:=by
 unfold atI at e ⊢;rw[zA];cases q:ixN ns.length i with
 | none=>rw[q]at e;cases e
 | some j=>
  rw[q]at e;have e':ns[j]?=some n:=e;show (ns.map V.int)[j]?=_;rw[zZ,e'];rfl
theorem opv_ix{K:zB}:OpV K (rIx K) oIx:=by
 intro G H x y d v u Q s e hx hy k;cases y with
 | int i=>
  cases hy.int;cases x with
  | lst ds=>
   obtain⟨d',q,e'⟩:=mpd e;subst e';obtain⟨p,vs,rfl,h1,h2⟩:=hx.lst s;obtain⟨w,e1,e2⟩:=zA3 h2 q;exact .inl ⟨p,vs,i,w,rfl,rfl,IY,e1,k _ G H da e2⟩
  | tup ds=>
   obtain⟨d',q,e'⟩:=mpd e;subst e';obtain⟨p,vs,rfl,h1,h2⟩:=hx.tup;obtain⟨w,e1,e2⟩:=zA3 h2 q;exact .inr (.inl ⟨p,vs,i,w,rfl,rfl,EW,e1,k _ G H da e2⟩)
  | scr ns=>
   obtain⟨n,q,e'⟩:=mpd e;subst e';obtain⟨p,rfl,h1⟩:=hx.scr;exact .inl ⟨p,_,i,GT,rfl,rfl,s.seq h1,zCC q,mI⟩
  | _=>cases e
 | _=>cases x <;> cases e
theorem XB(ha:de)(hb:fO)(hs:zAu b:=by exact λ_ _=>rfl):XE X E5 (XH oIx f g):=ql2 qjp opv_ix ha hb hs
noncomputable abbrev FO:=WSt->Option dX
def SimO(K:zB)(t:TO)(f:FO):Prop:=∀G0 H0 G ω σ H o(Q:EX),Own K G0 H0 G ω σ H->f ω=some o->(∀G' H',Ext G H G' H'->Q o H')->t σ H Q
def XO(X:Cx)(e:DP)(f:FO):Prop:=∃t,PO X e t/\SimO X.K t f
noncomputable def pNo:FO:=λ_=>some none
noncomputable def pAt(f:FD):FO:=λω=>(f ω).bind λd=>match d with|.int i=>some TJ|_=>none
theorem Wy:XO X none pNo:=⟨_,qj3,λG0 H0 G ω σ H o Q ow e k=>by cases e;exact k G H aaZ⟩
theorem Wc(h:de):XO X (some a) (pAt f):=by
 obtain⟨t,h1,h2⟩:=h;refine⟨_,qhQ h1,λG0 H0 G ω σ H o Q ow e k=>?_⟩;obtain⟨d,q,e⟩:=bnd e;refine h2 G0 H0 G ω σ H d _ ow q λv G1 H1 x1 y1=>?_;cases d with
 | int i=>cases e;cases y1.int;exact⟨i,rfl,k G1 H1 x1⟩
 | _=>cases e
noncomputable def cutD{α:Type}(xs:bE)(lo hi:dX):List α:=(xs.drop nG).take dZ
theorem zA1{K:zB}{H:Hp}{ds:aZ}{vs:bt}(h:AL)(lo hi:dX):XR K H Dq (zBz vs lo hi):=by
 unfold cutD zBz;rw[h.len];exact(h.drop _).take _
theorem zCD(ns:af)(lo hi:dX):zBz ca lo hi=(cutD ns lo hi).map V.int:=by
 unfold cutD zBz;rw[zA,Z3,wj]
noncomputable def oSl:D->Option Int->Option Int->Option R
 | .lst ds,lo,hi=>some (.fr Dq)
 | .scr ns,lo,hi=>some Il
 | .tup ds,lo,hi=>if HT.sIx ds.length 0 lo=0/\HT.sIx ds.length ds.length hi=ds.length then ↥HF else ↥(.tup Dq)
 | _,_,_=>none
noncomputable def fSl(f:FD)(l h:FO):FE:=λω=>(f ω).bind λd=>(l ω).bind λlo=>(h ω).bind λhi=>oSl d lo hi
theorem WQ{lo hi:DP}{l h:FO}{p2:Pos}(ha:de)(hl:XO X lo l)(hh:XO X hi h):XE X (.Subscript a CZ pos) (fSl f l h):=by
 obtain⟨t,h1,h2⟩:=ha;obtain⟨tl,h3,h4⟩:=hl;obtain⟨th,h5,h6⟩:=hh;refine⟨_,qfH (qj5.or (qjW.or qgn)) h1 h3 h5,JE⟩;obtain⟨d,q,e⟩:=bnd e;obtain⟨lo',q2,e⟩:=bnd e;obtain⟨hi',q3,e⟩:=bnd e;refine h2 G0 H0 G ω σ H d _ ow q λv G1 H1 x1 y1=>?_;refine h4 G0 H0 G1 ω σ H1 lo' _ Pq q2 λG2 H2 x2=>?_;refine h6 G0 H0 G2 ω σ H2 hi' _ ((ow.keep x1).keep x2) q3 λG3 H3 x3=>?_;have y3:=(y1.keep x2).keep x3;have x13:=(x1.trans x2).trans x3;cases d with
 | lst ds=>
  cases e;obtain⟨p,vs,rfl,h1,h2⟩:=y3.lst x3.gh;refine .inl ⟨p,vs,rfl,IY,λn hn=>?_⟩;exact k _ G3 _ HU ⟨n,_,rfl,x13.hh.free hn,x3.gh.free hn,qe,zA1 h2 _ _⟩
 | scr ns=>
  cases e;obtain⟨p,rfl,h1⟩:=y3.scr;refine .inl ⟨p,_,rfl,x3.gh.seq h1,λn hn=>?_⟩;refine k _ G3 _ HU ⟨n,_,rfl,x13.hh.free hn,x3.gh.free hn,qe,?_⟩;rw[zCD];exact XR.ints _
 | tup ds=>
  unfold oSl at e
  dsimp only at e
  obtain⟨p,vs,rfl,h1,h2⟩:=y3.tup
  by_cases z:HT.sIx ds.length 0 lo'=0/\HT.sIx ds.length ds.length hi'=ds.length
  ·rw[gz]at e
   cases e;exact .inr (.inr ⟨p,vs,rfl,SqT.of acq,by rw[<- h2.len];exact z,k _ G3 H3 x13 ⟨p,vs,rfl,h1,h2⟩⟩)
  ·rw[gc]at e
   cases e;refine .inr (.inl ⟨p,vs,rfl,SqT.of acq,by rw[<- h2.len];exact z,λn hn=>?_⟩);have x4:=Ext.lay x3.gh hn (.tup (zBz vs lo' hi'));exact k _ _ _ (x13.trans x4) ⟨n,_,rfl,qe,(zA1 h2 _ _).mono x4.gg⟩
 | _=>cases e
end
section
variable{X:Cx}{a b c:vW}{pos:Pos}{rest:List vW}{f g:FT}
noncomputable def zBO(f g:FT):FT:=λω=>(f ω).bind λc=>if c=true then some true else g ω
noncomputable def X5(f:FT):FT:=λω=>(f ω).map (!·)
theorem qiR{t u:TT}(h:zBe X.K t f)(h':zBe X.K u g):zBe X.K (tOr t u) (zBO f g):=by
 intro G0 H0 G ω σ H b Q o e k;obtain⟨c,q,e⟩:=bnd e;refine h G0 H0 G ω σ H c _ o q λG1 H1 x1=>?_;cases c with
 | true=>cases e;exact k G1 H1 x1
 | false=>exact h' G0 H0 G1 ω σ H1 b Q iI e λG2 H2 x2=>k G2 H2 ee
theorem q4d(h:XT X a f):XW X QN f:=let ⟨t,h1,h2⟩:=h;⟨t,qdE h1,h2⟩
theorem q2t(h:XT X a f)(h':XW X lH g):XW X ku (zBO f g):=let ⟨_,h1,h2⟩:=h;let ⟨_,h3,h4⟩:=h';⟨_,qh9 h1 h3,qiR h2 h4⟩
theorem XW.toT(h:XW X a f):XT X a f:=let ⟨t,h1,h2⟩:=h;⟨t,h1.pt,h2⟩
theorem qM(h:XT X a f):XT X pj (X5 f):=by
 obtain⟨t,h1,h2⟩:=h;refine⟨_,qkB h1,Kf⟩;obtain⟨c,q,e⟩:=mpd e;subst e;exact h2 G0 H0 G ω σ H c _ o q k
noncomputable def truD:D->Option Bool
 | .non=>some false
 | .bl b=>some b
 | .int i=>some (i != 0)
 | .lst xs=>some (!xs.isEmpty)
 | .tup xs=>some (!xs.isEmpty)
 | _=>none
noncomputable def Wo(f:FD):FT:=λω=>(f ω).bind truD
theorem q69{α β:Type}{xs:bE}{ys:List β}(h:xs.length=ys.length):xs.isEmpty=ys.isEmpty:=by
 cases xs <;> cases ys <;> first|rfl|cases h
theorem qE{f:FD}(h:de)(he:∀whole,rE a X.env whole=(do let v <- whole;rD a.pos;holding [v] TF):=by intro _;rfl):XT X a (Wo f):=by
 obtain⟨t,h1,h2⟩:=h;refine⟨_,q4I h1 he,Kf⟩;obtain⟨d,q,e⟩:=bnd e;refine h2 G0 H0 G ω σ H d _ o q λv G1 H1 x1 y1=>⟨b,?_,k G1 H1 x1⟩;cases d with
 | non=>cases e;cases y1.non;rfl
 | bl c=>cases e;cases y1.bl;rfl
 | int i=>cases e;cases y1.int;rfl
 | lst xs=>
  cases e;obtain⟨p,vs,rfl,h1,h2⟩:=y1.lst x1.gh;exact .inl ⟨vs,IY,by rw[q69 h2.len]⟩
 | tup xs=>
  cases e;obtain⟨p,vs,rfl,h1,h2⟩:=y1.tup;exact .inr (.inl ⟨vs,SqT.of (x1.gh _ _ h1),by rw[q69 h2.len]⟩)
 | _=>cases e
noncomputable def blOf:D->Option Bool
 | .bl b=>some b
 | _=>none
noncomputable def zAd(f g:FD):FD:=λω=>(f ω).bind λd=>(blOf d).bind λc=>if c=true then g ω else some iP
noncomputable def vOr(f g:FD):FD:=λω=>(f ω).bind λd=>(blOf d).bind λc=>if c=true then some bn else g ω
noncomputable def vNot(f:FD):FD:=λω=>(f ω).bind λd=>(blOf d).map λc=>.bl (!c)
noncomputable def fIte(c:FT)(f g:FE):FE:=λω=>(c ω).bind λk=>if k=true then f ω else g ω
variable{fa fb:FD}
theorem q0p{op}(h:QB):XD X Sd fa:=let ⟨t,h1,h2⟩:=h;⟨t,qk9 h1,h2⟩
theorem qW(h:QB)(h':XD X Lp fb):XD X Jx (zAd fa fb):=by
 obtain⟨t,h1,h2⟩:=h;obtain⟨u,h3,h4⟩:=h';refine⟨_,qjD h1 h3,dg⟩;obtain⟨x,q,e⟩:=bnd e;obtain⟨c,q2,e2⟩:=bnd e;clear e;refine h2 G0 H0 G ω σ H x _ o q λv G1 H1 x1 y1=>?_;cases x with
 | bl z=>
  cases q2;cases (show v=V.bl c from y1);refine⟨c,rfl,?_⟩;cases c with
  | true=>rw[kT]at e2 ⊢;exact h4 G0 H0 G1 ω σ H1 d Q iI e2 λv G2 H2 x2 y2=>k v G2 H2 ee y2
  | false=>cases e2;exact k _ G1 H1 x1 rfl
 | _=>cases q2
theorem qkU(h:QB)(h':XD X lH fb):XD X ku (vOr fa fb):=by
 obtain⟨t,h1,h2⟩:=h;obtain⟨u,h3,h4⟩:=h';refine⟨_,qkN h1 h3,dg⟩;obtain⟨x,q,e⟩:=bnd e;obtain⟨c,q2,e2⟩:=bnd e;clear e;refine h2 G0 H0 G ω σ H x _ o q λv G1 H1 x1 y1=>?_;cases x with
 | bl z=>
  cases q2;cases (show v=V.bl c from y1);refine⟨c,rfl,?_⟩;cases c with
  | true=>cases e2;exact k _ G1 H1 x1 rfl
  | false=>exact h4 G0 H0 G1 ω σ H1 d Q iI e2 λv G2 H2 x2 y2=>k v G2 H2 ee y2
 | _=>cases q2
theorem qjT(h:QB):XD X pj (vNot fa):=by
 obtain⟨t,h1,h2⟩:=h;refine⟨_,qkn h1,dg⟩;obtain⟨x,q,e⟩:=bnd e;obtain⟨c,q2,e⟩:=mpd e;subst e;refine h2 G0 H0 G ω σ H x _ o q λv G1 H1 x1 y1=>?_;cases x with
 | bl z=>cases q2;cases (show v=V.bl c from y1);exact⟨c,rfl,K1⟩
 | _=>cases q2
theorem zCc.after{K:zB}{G H G1 H1 G2 H2:Hp}{r:R}{v:V}(x:Ext G H G1 H1)(y:zCc K H1 G2 H2 r v):zCc K H G2 H2 r v:=by
 cases r with
 | sh d=>exact y
 | fr ds=>obtain⟨l,vs,e1,e2,e3⟩:=y;exact⟨l,vs,e1,x.hh.free e2,e3⟩
 | vw ds=>exact y
theorem qfo{fc:FT}{f g:FE}(hc:XT X c fc)(ha:XE X a f)(hb:XE X b g):XE X UO (fIte fc f g):=by
 obtain⟨t,h1,h2⟩:=hc;obtain⟨u,h3,h4⟩:=ha;obtain⟨w,h5,h6⟩:=hb;refine⟨_,qga h1 h3 h5,bZ⟩;obtain⟨z,q,e⟩:=bnd e;refine h2 G0 H0 G ω σ H z _ o q λG1 H1 x1=>?_;cases z with
 | true=>rw[kT]at e ⊢;exact h4 G0 H0 G1 ω σ H1 r Q iI e λv G2 H2 x2 y2=>k v G2 H2 ee NH
 | false=>exact h6 G0 H0 G1 ω σ H1 r Q iI e λv G2 H2 x2 y2=>k v G2 H2 ee NH
end
def W6(K:zB)(r:Go)(op:Ld):Prop:=∀G H ds vs d(Q:VK),Xh G H->op ds=some d->VwA K G H ds vs ->
 (∀w G' H',Ext G H G' H'->zCc K H G' H' d w->Q w H')->r vs H Q
noncomputable def X4(op:Ld)(g:FA):FE:=λω=>(g ω).bind op
section
variable{X:Cx}{e:vW}{es:List vW}{x:Str}{p pos:Pos}{r:List V->Hp->VK->Prop}{op:List D->Option R}{g:FA}{id T:String}
theorem q88{t:TA}(hd:Uw)(h:SimVA X.K t g):zC8 X.K abm abJ:=by
 intro G0 H0 G ω σ H d Q o e k;obtain⟨ds,q,e⟩:=bnd e;refine h G0 H0 G ω σ H ds _ o q λvs G1 H1 x1 y1=>?_;exact hd G1 H1 ds vs d Q x1.gh e y1 λw G2 H2 x2 y2=>k w G2 H2 ee NH
theorem qr(hc:WN X jd r)(hd:Uw)(hg:AC)(hm:rS)(hv:vn x=some jd)(ha:XVA X jF g)(hn:jU:= by decide)(hdb:aI:=by decide)(he:aP:=by rfl)(hpl:(vt pos ij).any (·.1)=false:=by rfl):XE X cL abJ:=by
 obtain⟨t,h1,h2⟩:=ha;exact⟨_,q2q hc hg hm hv h1 hn hdb he hpl,q88 hd h2⟩
theorem q74(hc:WN X AD r)(hd:Uw)(hg:AC)(hm:rS)(hv:vn x=some AD)(ha:XVA X jF g)(hn:jU:= by decide)(hdb:aI:=by decide)(he:aP:=by rfl)(hpl:(vt pos ij).any (·.1)=false:=by rfl):XE X cL abJ:=by
 obtain⟨t,h1,h2⟩:=ha;exact⟨_,q8M hc hg hm hv h1 hn hdb he hpl,q88 hd h2⟩
theorem VwA.one{K:zB}{G H:Hp}{d:D}{vs:bt}(h:VwA K G H [d] vs):∃v,vs=[v]/\Vw K G H d v:=by
 obtain⟨v,r,h1,h2,h3⟩:=h;cases (show r=[]from h3);exact⟨v,h1,h2⟩
theorem VwA.two{K:zB}{G H:Hp}{d e:D}{vs:bt}(h:VwA K G H [d,e] vs):∃v u,vs=[v,u]/\Vw K G H d v/\Vw K G H e u:=by
 obtain⟨v,r,h1,h2,h3⟩:=h;obtain⟨u,rfl,h4⟩:=VwA.one h3;exact V9
noncomputable def zAF:List D->Option R
 | [.lst ds]=>↥Cm
 | [.tup ds]=>↥Cm
 | [.scr ns]=>↥aa6
 | _=>none
theorem qU{K:zB}:W6 K (λxs H Q=>∃p ys,xs=N7/\La/\Q DW H) zAF:=by
 intro G H ds vs d Q s e hv k
 match ds,e with
 | [.lst ds],e=>
  cases e;obtain⟨v,rfl,h⟩:=hv.one;obtain⟨p,us,rfl,h1,h2⟩:=h.lst s;exact⟨p,us,rfl,.inl IY,k _ G H da (by show V.int _=V.int _;rw[h2.len])⟩
 | [.tup ds],e=>
  cases e;obtain⟨v,rfl,h⟩:=hv.one;obtain⟨p,us,rfl,h1,h2⟩:=h.tup;exact⟨p,us,rfl,.inr EW,k _ G H da (by show V.int _=V.int _;rw[h2.len])⟩
 | [.scr ns],e=>
  cases e;obtain⟨v,rfl,h⟩:=hv.one;obtain⟨p,rfl,h1⟩:=h.scr;exact⟨p,_,rfl,.inl (s.seq h1),k _ G H da (by show V.int _=V.int _;rw[zA])⟩
noncomputable def zCv:List D->Option R
 | [.int i]=>↥(.int (if i<0 then -i else i))
 | _=>none
theorem q9R{K:zB}:W6 K (λxs H Q=>∃i,xs=[gU]/\Q (.int (if i<0 then -i else i)) H) zCv:=by
 intro G H ds vs d Q s e hv k
 match ds,e with
 | [.int i],e=>
  cases e;obtain⟨v,rfl,h⟩:=hv.one;cases h.int;exact⟨i,rfl,mI⟩
noncomputable def zAj:List D->Option R
 | [.lst ds]=>some Cz
 | [.tup ds]=>some Cz
 | _=>none
theorem q4j{K:zB}:W6 K (λxs H Q=>∃p ys,xs=N7/\La/\∀l,H l=none->Q cF Pj) zAj:=by
 intro G H ds vs d Q s e hv k
 match ds,e with
 | [.lst ds],e=>
  cases e;obtain⟨v,rfl,h⟩:=hv.one;obtain⟨p,us,rfl,h1,h2⟩:=h.lst s;exact⟨p,us,rfl,.inl IY,nB⟩
 | [.tup ds],e=>
  cases e;obtain⟨v,rfl,h⟩:=hv.one;obtain⟨p,us,rfl,h1,h2⟩:=h.tup;exact⟨p,us,rfl,.inr EW,nB⟩
noncomputable def allB:List D->Option Bool
 | []=>some true
 | .bl b::r=>(allB r).map λc=>b&&c
 | _=>none
noncomputable def W7:List D->Option R
 | [.lst ds]=>(allB ds).map λb=>.sh LP
 | _=>none
noncomputable def zDA:List D->Option Int
 | []=>some 0
 | .int i::r=>(zDA r).map λc=>i+c
 | _=>none
noncomputable def bSum:List D->Option R
 | [.lst ds]=>(zDA ds).map λb=>.sh dI
 | _=>none
end
def rAll:List V->Hp->VK->Prop:=λxs H Q=>∃(p:vG) (bs:QH),xs=N7/\H p=some (.lst (bs.map V.bl))/\Q (.bl (bs.all id)) H
def rSum:List V->Hp->VK->Prop:=λxs H Q=>∃(p:vG) (ns:af),xs=N7/\H p=some Gy/\Q (.int ns.sum) H
section
variable{X:Cx}
theorem qcN:∀{bs:QH}{us:bx},Xj (bs.map V.bl) us->us=bs.map Value.bool
 | [],_,r=>by cases r;rfl
 | b::bs,_,r=>by
  rw[zU]at r;cases r with
  | cons r1 r2=>cases r1;rw[qcN r2];rfl
theorem qdZ{bs:QH}:(zo bs.length).all Q3=bs.all id:=by
 induction bs with
 | nil=>rfl
 | cons b r ih=>
  rw[zI,Zd,Z4,Ze,Z4];have e:((λi=>(b::r).getD i false) ∘ Nat.succ)=λi=>r.getD i false:=by funext i;rfl
  rw[e,ih];rfl
theorem q01(hc:cI):WN X abb rAll:=by
 intro pins s σ H xs us Q I r h;obtain⟨p,bs,rfl,hp,q⟩:=h;obtain⟨u,rfl,rx⟩:=vals1 r;cases rx;obtain⟨its,n,rv,e,hz⟩:=I.lst hp;have ei:=qcN rv;have hlt:p<s.heap.objs.size:=zM e;refine call_all_walk Jh;refine⟨s.heap.objs.size,_,_,its.toArray.size,_,_,Q3,rfl,Walks.list (by first|exact I.ok.hd hc|(show X.A.handled=none;exact I.ok.hd hc)) _ p Jg its.toArray,Ls,λi v s' Q' E' hv hq=>?_,λh' tk hk=>?_⟩
 ·have hv':its[i]?=some v:=by simpa using hv
  rw[ei,zZ]at hv';cases eb:bs[i]? with
  | none=>rw[eb]at hv';cases hv'
  | some b=>
   rw[eb]at hv';cases hv';have:bs.getD i false=b:=by rw[zV,eb];rfl
   have hq':Q' b s':=by rw[<- this];exact hq
   exact uO hq'
 ·have hl:its.toArray.size=bs.length:=by rw[zP,ei,zA]
  rw[hl,qdZ];exact⟨.bl _,H,I.kept (λb o z=>hk b o (λhm=>by
   have:b=s.heap.objs.size:=by simpa using hm
   subst this;exact vP (zM z) HS) (zG _ z)),rfl,q⟩
theorem qbK:∀{ds:aZ}{b:Bool},allB ds=some b->∃bs:List Bool,ds=bs.map D.bl/\bs.all id=b
 | [],_,e=>by cases e;exact acj
 | .bl c::r,b,e=>by
  obtain⟨k,q,e⟩:=mpd e;obtain⟨bs,h1,h2⟩:=qbK q;exact⟨c::bs,by rw[h1];rfl,by rw[Z4,h2];exact e⟩
 | .non::_,_,e=>by cases e
 | .int _::_,_,e=>by cases e
 | .str _::_,_,e=>by cases e
 | .lst _::_,_,e=>by cases e
 | .tup _::_,_,e=>by cases e
 | .scr _::_,_,e=>by cases e
 | .exc _::_,_,e=>by cases e
 | .dic _ _::_,_,e=>by cases e
theorem qc6:∀{ds:aZ}{b:Int},zDA ds=some b->∃bs:List Int,ds=bs.map D.int/\bs.sum=b
 | [],_,e=>by cases e;exact acj
 | .int c::r,b,e=>by
  obtain⟨k,q,e⟩:=mpd e;obtain⟨bs,h1,h2⟩:=qc6 q;exact⟨c::bs,by rw[h1];rfl,by rw[zf,h2];exact e⟩
 | .non::_,_,e=>by cases e
 | .bl _::_,_,e=>by cases e
 | .str _::_,_,e=>by cases e
 | .lst _::_,_,e=>by cases e
 | .tup _::_,_,e=>by cases e
 | .scr _::_,_,e=>by cases e
 | .exc _::_,_,e=>by cases e
 | .dic _ _::_,_,e=>by cases e
theorem qc5{K:zB}{H:Hp}:∀{bs:QH}{vs:bt},XR K H (bs.map D.bl) vs->vs=bs.map V.bl
 | [],_,h=>h
 | n::r,_,⟨v,vs,h1,h2,h3⟩=>by
  have:=qc5 h3;have e:v=.bl n:=h2;rw[h1,this,e];rfl
theorem q1m{K:zB}:W6 K rAll W7:=by
 intro G H ds vs d Q s e hv k
 match ds,e with
 | [.lst ds],e=>
  obtain⟨b,q,e⟩:=mpd e;subst e;obtain⟨bs,rfl,rfl⟩:=qbK q;obtain⟨v,rfl,h⟩:=hv.one;obtain⟨p,us,rfl,h1,h2⟩:=h.lst s;exact⟨p,bs,rfl,by rw[h1,qc5 h2],mI⟩
theorem q75:∀(ns:af)(k:Nat),k<=ns.length->preSum ig k=(ns.take k).sum
 | _,0,_=>rfl
 | ns,k+1,h=>by
  have e:ns.take (k+1)=ns.take k++[ns.getD k 0]:=by
   rw[ZM,zD ∅,zV,zD ∅];rfl
  show preSum ig k+ns.getD k 0=_;rw[q75 ns k ∅,e,xU];simp
theorem q8k(hc:cI):WN X aa9 rSum:=by
 intro pins s σ H xs us Q I r h;obtain⟨p,ns,rfl,hp,q⟩:=h;obtain⟨u,rfl,rx⟩:=vals1 r;cases rx;obtain⟨its,n,rv,e,hz⟩:=I.lst hp;have ia:=q1c rv;have hlen:its.length=ns.length:=by rw[<- rv.length,zA]
 have hlt:p<s.heap.objs.size:=zM e;refine call_sum_walkAnyS Jh;refine⟨s.heap.objs.size,_,_,_,its.toArray.size,_,_,ig,rfl,(Walks.list (by first|exact I.ok.hd hc|(show X.A.handled=none;exact I.ok.hd hc)) _ p Jg its.toArray).toS,Ls,jM,λi v hv=>PyProof.Rows.IntsAre.int_at ia i v ⇑hv,λs' t' hm=>?_⟩
 ·show b<(s.heap.push _).objs.size
  rw[yf];rcases zF.mp hb with rfl|hb
  ·exact yd _
  ·rw[zR.mp hb];exact yS hlt
 ·rw[Lc]
  have es:preSum ig its.toArray.size=ns.sum:=by
   rw[zP,hlen,q75 ns _ bM,wD]
  rw[es];exact⟨.int _,H,I.kept (λb o z=>hm.heap b o (λhmm=>by
   have:b=s.heap.objs.size:=by simpa using hmm
   subst this;exact vP (zM z) HS) (zG _ z)),bz,q⟩
theorem qeL{K:zB}:W6 K rSum bSum:=by
 intro G H ds vs d Q s e hv k
 match ds,e with
 | [.lst ds],e=>
  obtain⟨b,q,e⟩:=mpd e;subst e;obtain⟨bs,rfl,rfl⟩:=qc6 q;obtain⟨v,rfl,h⟩:=hv.one;obtain⟨p,us,rfl,h1,h2⟩:=h.lst s;exact⟨p,bs,rfl,by rw[h1,h2.of_ints],mI⟩
end
inductive Ty where
 | non|bl|int|str|lst|tup|dic
noncomputable def Ty.n:Ty->String
 | .non => "NoneType"
 | .bl => "bool"
 | .int => "int"
 | .str => "str"
 | .lst => "list"
 | .tup => "tuple"
 | .dic => "dict"
noncomputable def tyD:D->Ty
 | .non=>.non
 | .bl _=>.bl
 | .int _=>.int
 | .str _=>.str
 | .lst _=>.lst
 | .tup _=>.tup
 | .scr _=>.lst
 | .exc _=>.non
 | .dic _ _=>.non
noncomputable def zCM:Ty->Ty->Bool
 | .non,.non=>true
 | .bl,.bl=>true
 | .bl,.int=>true
 | .int,.int=>true
 | .str,.str=>true
 | .lst,.lst=>true
 | .tup,.tup=>true
 | _,_=>false
noncomputable def zA7(c:Ty)(f:FD):FE:=λω=>(f ω).bind λd=>match d with
 | .scr _=>none
 | .exc _=>none
 | .dic _ _=>none
 | d=>↥DY
def IsT(K:zB)(c:Ty):Prop:=∀t:Ty,t≠.dic->Zv K (.type t.n) (.type c.n)=some (zCM t c)
def rIsi(K:zB):List V->Hp->VK->Prop:=λxs H Q=>∃x c T b,xs=[x,.ty c]/\TyOf K H x AD/\Zv K AD (.type c)=some b/\Q LP H
section
variable{X:Cx}{a:vW}{f:FD}
theorem qgL:WN X O5 (rIsi X.K):=by
 intro pins s σ H xs us Q I r h;obtain⟨x,c,T,b,rfl,ty,e,q⟩:=h;obtain⟨u1,u2,rfl,r2,r3⟩:=vals2 r;cases (show u2=Value.type c from r3);exact qew I r2 ty e λtk=>⟨LP,H,I.tok tk,rfl,q⟩
theorem qiu{K:zB}{G H:Hp}{d:D}{v:V}(h:JW)(s:CP)(n:∀ns,d≠.scr ns)(n':∀c,d≠.exc c)(n'':∀ks ds,d≠.dic ks ds):TyOf K H v (.type (tyD d).n):=by
 cases d with
 | non=>cases h.non;exact .non
 | bl b=>cases h.bl;exact .bl b
 | int i=>cases h.int;exact .int i
 | str x=>cases h.str;exact .str x
 | lst ds=>obtain⟨p,us,rfl,h1,_⟩:=h.lst s;exact .lst h1
 | tup ds=>obtain⟨p,us,rfl,h1,_⟩:=h.tup;exact .tup gG
 | scr ns=>exact vP rfl (n ns)
 | exc c=>exact vP rfl (n' c)
 | dic ks ds=>exact vP rfl (n'' ks ds)
theorem qjP(d:D):tyD d≠.dic:=by cases d <;> exact λz=>nomatch z
theorem q0I{c:Ty}{x:Str}{p q pos:Pos}(ha:de)(hk:IsT X.K c)(hg:Gl X "isinstance")(hm:X.mg "isinstance" = none)(hgc:AC)(hmc:rS)(hvc:vn x=some (.type c.n))(hnx:jU:= by decide)(hdx:aI:=by decide)(he:vK [a,Gz] X.env=bK::vK [Gz] X.env:=by rfl)(he2:vK [Gz] X.env=(false,eval Gz X.env)::vK [] X.env:=by rfl)(hpl:(vt pos (vK [Gz] X.env)).any (·.1)=false:=by rfl):
  XE X (.Call (.Name "isinstance" p) [a,Gz] [] pos) (zA7 c f):=by
 obtain⟨t,h1,h2⟩:=ha;refine⟨_,q2q qgL hg hm PyProof.Rows.boot_isinstance (qA h1 (qA (qj2 hgc hmc hvc (v:=.ty c.n) rfl hnx hdx) qy he2) he) (by decide) (by decide) he hpl,bZ⟩;obtain⟨d,q,e⟩:=bnd e;refine h2 G0 H0 G ω σ H d _ o q λv G1 H1 x1 y1=>?_;have n:∀ns,d≠.scr ns:=λns z=>by subst z;cases e
 have n':∀c,d≠.exc c:=λns z=>by subst z;cases e
 have n'':∀ks ds,d≠.dic ks ds:=λks ds z=>by subst z;cases e
 have e':r=.sh DY:=by
  cases d <;> first|(cases e;rfl)|cases e
 subst e';exact⟨v,c.n,(tyD d).n,Eh,rfl,qiu y1 x1.gh n n' n'',hk _ (qjP d),K1⟩
end
inductive Out where
 | nx|bk|ct|rt (r:O)
noncomputable abbrev FS:=WSt->Option eI
def zBY(K:zB)(H0 G':Hp)(E:Ends):Out->St->Hp->Prop
 | .nx,σ,H=>E.nx σ H
 | .bk,σ,H=>E.bk σ H
 | .ct,σ,H=>E.ct σ H
 | .rt r,_,H=>∀v,zCc K H0 G' H r.r v->E.rt v H
def SimS(K:zB)(t:TS)(f:FS):Prop:=∀G0 H0 G ω σ H out ω'(E:Ends),Own K G0 H0 G ω σ H->f ω=some JN ->
 (∀G' σ' H',Own K G0 H0 G' ω' σ' H'->Xh G G'->zBY K H0.hp G' E out σ' H')->t E σ H
def XS(X:Cx)(st:vp)(f:FS):Prop:=∃t,PS X st t/\SimS X.K t f
def XSs(X:Cx)(st:Cg)(f:FS):Prop:=∃t,PSs X st t/\SimS X.K t f
noncomputable def WY:FS:=λω=>some Cw
noncomputable def Xc(f g:FS):FS:=λω=>(f ω).bind λp=>match p.1 with
 | .nx=>g p.2
 | o=>some (o,p.2)
section
variable{X:Cx}{st:vp}{rest:List vp}{f g:FS}
theorem qu:XSs X [] WY:=⟨_,qib,λG0 H0 G ω σ H out ω' E o e k=>by cases e;exact k G σ H o gr⟩
theorem qc(h:XS X st f):XSs X [st] f:=let ⟨t,h1,h2⟩:=h;⟨t,q0P h1,h2⟩
theorem qb(h:XS X st f)(h':XSs X rest g):XSs X (st::rest) (Xc f g):=by
 obtain⟨t,h1,h2⟩:=h;obtain⟨u,h3,h4⟩:=h';refine⟨_,qG h1 h3,cv⟩;obtain⟨⟨o1,ω1⟩,q,e⟩:=bnd e;refine h2 G0 H0 G ω σ H o1 ω1 _ o q λG1 σ1 H1 w1 g1=>?_;cases o1 with
 | nx=>exact h4 G0 H0 G1 ω1 σ1 H1 out ω' E w1 e λG2 σ2 H2 w2 g2=>k G2 σ2 H2 w2 NX
 | bk=>cases e;exact k G1 σ1 H1 w1 g1
 | ct=>cases e;exact k G1 σ1 H1 w1 g1
 | rt r=>cases e;exact k G1 σ1 H1 w1 g1
end
section
variable{K:zB}{G0:Hp}{H0:Fr}{G:Hp}{ω:WSt}{σ:St}{H:Hp}
theorem qg{α:Type}{l:bE}{i j:Nat}{x y:α}(h:(l.set i x)[j]?=some y):(i=j/\i<l.length/\y=x)\/(i≠j/\l[j]?=some y):=by
 rw[List.getElem?_set]at h
 by_cases e:i=j
 ·rw[vH e]at h
  by_cases z:i<l.length
  ·rw[gz]at h;exact .inl ⟨e,z,(zy h).symm⟩
  ·rw[gc]at h;cases h
 ·rw[vJ e]at h;exact .inr ⟨e,h⟩
theorem q2s{α:Type}{l:bE}{i:Nat}{x:α}(h:i<l.length):(l.set i x)[i]?=some x:=ye h
theorem WK.set{i:Nat}{w:cj}{v:Ao}(o:j8)(hw:∀ds,w≠some (.pw ds))(hv:∀ds,w=some (.ow ds)->∀(j:Nat)es,ω[j]?=some k8->v≠some (.ref (H0.pin j))):WK K H0 G (ω.set i w) (σ.set i v) H:=by
 intro j ds hj;rcases qg hj with⟨rfl,hl,z⟩|⟨ne,z⟩
 ·exact vP z.symm (hw ds)
 ·obtain⟨vs,h1,h2,h3,h4,h5,h6,h7⟩:=o j ds z
  refine⟨vs,by rw[G7];exact h1,h2,h3,h4,h5,λk es hk=>?_,λk es hk sk=>?_⟩
  ·rcases qg hk with⟨rfl,hl',z'⟩|⟨ne',z'⟩
   ·exact vP z'.symm (hw es)
   ·exact h6 k es z'
  ·rcases qg hk with⟨rfl,hl',z'⟩|⟨ne',z'⟩
   ·rcases qg sk with⟨_,_,e⟩|⟨ne2,_⟩
    ·exact hv es z'.symm j ds z e.symm
    ·exact ne2 rfl
   ·rw[Lx]at sk;exact h7 k es z' sk
theorem WK.setW{i:Nat}{w:cj}(o:j8)(hw:∀ds,w≠some (.pw ds))(ho:∀ds,w≠some (.ow ds)):WK K H0 G (ω.set i w) σ H:=by
 intro j ds hj;rcases qg hj with⟨rfl,hl,z⟩|⟨ne,z⟩
 ·exact vP z.symm (hw ds)
 ·obtain⟨vs,h1,h2,h3,h4,h5,h6,h7⟩:=o j ds z
  refine AG
  ·rcases qg hk with⟨rfl,hl',z'⟩|⟨ne',z'⟩
   ·exact vP z'.symm (hw es)
   ·exact h6 k es z'
  ·rcases qg hk with⟨rfl,hl',z'⟩|⟨ne',z'⟩
   ·exact vP z'.symm (ho es)
   ·exact h7 k es z'
theorem WK.upd{p:vG}{ob:HO}(o:j8)(hp:∀(j:Nat)es,ω[j]?=some k8->H0.pin j≠p):WK K H0 G ω σ (upd H p ob):=by
 intro j ds hj;obtain⟨vs,h1,h2,h3⟩:=o j ds hj;exact⟨vs,h1,by rw[qd (hp j ds hj)];exact h2,h3⟩
theorem WK.grow{p:vG}{ob:HO}(o:j8)(g:UH)(hp:∀(j:Nat)es,ω[j]?=some k8->H0.pin j≠p):WK K H0 (L2.upd G p ob) ω σ H:=by
 intro j ds hj;obtain⟨vs,h1,h2,h3,h4,h5,h6⟩:=o j ds hj;exact⟨vs,h1,h2,by rw[qd (hp j ds hj)];exact h3,h4,h5.mono (WD g _),h6⟩
theorem WK.ne_ow{i:Nat}{ds:aZ}{l:vG}(o:j8)(hi:ω[i]?=some cV)(hσ:σ[i]?=some Cr):∀(j:Nat)es,ω[j]?=some k8->H0.pin j≠l:=λj es hj y=>by
 obtain⟨_,_,_,_,_,_,_,h7⟩:=o j es hj;exact h7 i ds hi (by rw[y];exact hσ)
theorem WK.ne_ob{l:vG}(o:j8)(h:∀vs,H l≠some gS):∀(j:Nat)es,ω[j]?=some k8->H0.pin j≠l:=λj es hj y=>by
 obtain⟨vs,_,h2,_⟩:=o j es hj;exact h vs (by rw[<- y];exact h2)
theorem WK.setL{i:Nat}{ds es:aZ}(o:j8)(hi:ω[i]?=some cV):WK K H0 G (ω.set i Dk) σ H:=by
 intro j ds' hj;rcases qg hj with⟨rfl,hl,z⟩|⟨ne,z⟩
 ·cases z
 ·obtain⟨vs,h1,h2,h3,h4,h5,h6,h7⟩:=o j ds' z
  refine AG
  ·rcases qg hk with⟨rfl,hl',z'⟩|⟨ne',z'⟩
   ·cases z'
   ·exact h6 k es z'
  ·rcases qg hk with⟨rfl,hl',z'⟩|⟨ne',z'⟩
   ·exact h7 i ds hi
   ·exact h7 k es z'
theorem Own.od_set{i:Nat}{w:cj}{v:Ao}(o:bS)(h:∀ks ds,w≠some (.od ks ds)):∀(j:Nat)ks ds,(ω.set i w)[j]?=some jp->∃p vs,(σ.set i v)[j]?=some eN/\H p=some Jv/\G p=none/\H0 p=none/\ks.length=ds.length/\XR K G ds vs /\
  ∀(k:Nat)ks' es,(ω.set i w)[k]?=some FF->(σ.set i v)[k]?=some eN->j=k:=by
 intro j ks ds hj;rcases qg hj with⟨rfl,hl,z⟩|⟨ne,z⟩
 ·exact vP z.symm (h ks ds)
 ·obtain⟨p,vs,h1,h2,h3,h4,h5,h6,h7⟩:=o.od j ks ds z
  refine⟨p,vs,by rw[G7];exact h1,h2,h3,h4,h5,h6,λk ks' es hk sk=>?_⟩;rcases qg hk with⟨rfl,hl',z'⟩|⟨ne',z'⟩
  ·exact vP z'.symm (h ks' es)
  ·rw[Lx]at sk
   exact h7 k ks' es z' sk
theorem Own.setSh{i:Nat}{d:D}{v:V}(o:bS)(h:Rep K G d v):Own K G0 H0 G jO mP H:=by
 refine⟨o.ext,by rw[yZ,yZ,o.len],oX,λj ds hj=>?_,λj k ds es l hj hk sj sk=>?_,o.od_set (λ_ _ z=>by cases z),o.pw.set (λ_ z=>by cases z) (λ_ z=>by cases z)⟩
 ·rcases qg hj with⟨rfl,hl,z⟩|⟨ne,z⟩
  ·cases z;exact⟨v,q2s (by rw[<- o.len];exact hl),h⟩
  ·obtain⟨u,h1,h2⟩:=o.sh j e z
   exact⟨u,by rw[G7];exact h1,h2⟩
 ·rcases qg hj with⟨rfl,hl,z⟩|⟨ne,z⟩
  ·cases z
  ·obtain⟨l,vs,h1,h2⟩:=o.ow j ds z
   exact⟨l,vs,by rw[G7];exact h1,h2⟩
 ·rcases qg hj with⟨rfl,hl,z⟩|⟨ne,z⟩
  ·cases z
  ·rcases qg hk with⟨rfl,hl',z'⟩|⟨ne',z'⟩
   ·cases z'
   ·rw[G7]at sj
    rw[Lx]at sk;exact o.nd j k ds es l z z' sj sk
theorem Own.setOw{i:Nat}{ds:aZ}{l:vG}{vs:bt}(o:bS)(h1:H l=some gS)(h2:G l=none)(h3:H0 l=none)(h4:o8)(h5:∀(j:Nat)es,ω[j]?=some Dk->σ[j]?≠some Cr)(h6:∀(j:Nat)es,ω[j]?=some k8->H0.pin j≠l):Own K G0 H0 G Pb (σ.set i Cr) H:=by
 refine⟨o.ext,by rw[yZ,yZ,o.len],oX,λj es hj=>?_,Lv,o.od_set (λ_ _ z=>by cases z),o.pw.set (λ_ z=>by cases z) (λ_ _ j es hj y=>h6 j es hj (by cases y;rfl))⟩
 ·rcases qg hj with⟨rfl,hl,z⟩|⟨ne,z⟩
  ·cases z
  ·obtain⟨u,q1,q2⟩:=o.sh j e z
   exact⟨u,by rw[G7];exact q1,q2⟩
 ·rcases qg hj with⟨rfl,hl,z⟩|⟨ne,z⟩
  ·cases z;exact⟨l,vs,q2s (by rw[<- o.len];exact hl),h1,h2,h3,h4⟩
  ·obtain⟨m,us,q1,q2⟩:=o.ow j es z
   exact⟨m,us,by rw[G7];exact q1,q2⟩
 ·rcases qg hj with⟨e1,hl,z⟩|⟨ne,z⟩
  ·rcases qg hk with⟨e2,hl',z'⟩|⟨ne',z'⟩
   ·exact e1.symm.trans e2
   ·rw[Lx]at sk
    subst e1;rw[q2s (by rw[<- o.len];exact hl)]at sj;cases sj;exact vP sk (h5 k fs z')
  ·rcases qg hk with⟨e2,hl',z'⟩|⟨ne',z'⟩
   ·rw[G7]at sj
    subst e2;rw[q2s (by rw[<- o.len];exact hl')]at sk;cases sk;exact vP sj (h5 j es z)
   ·rw[G7]at sj
    rw[Lx]at sk;exact o.nd j k es fs m z z' sj sk
theorem Own.mut{i:Nat}{ds es:aZ}{l:vG}{vs us:bt}(o:bS)(hi:ω[i]?=some cV)(hσ:σ[i]?=some Cr)(h1:H l=some gS)(h2:G l=none)(h3:H0 l=none)(h4:RJ):
  Own K G0 H0 G (ω.set i Dk) σ (upd H l (.lst us)):=by
 have ho:i<ω.length:=(zj.mp hi).1;refine⟨pK,by rw[yZ,o.len],oX,HQ,kQ,KL,(o.pw.upd (o.pw.ne_ow hi hσ)).setL hi⟩
 ·rcases qg hj with⟨rfl,hl,z⟩|⟨ne,z⟩
  ·cases z
  ·exact o.sh j e z
 ·rcases qg hj with⟨rfl,hl,z⟩|⟨ne,z⟩
  ·cases z;exact⟨l,us,hσ,qe,h2,h3,h4⟩
  ·obtain⟨m,ws,q1,q2,q3,q4,q5⟩:=o.ow j fs z
   have hm:m≠l:=λy=>ne (o.nd i j ds fs l hi z hσ (by rw[<- y];exact q1));exact⟨m,ws,q1,by rw[Md];exact q2,q3,q4,q5⟩
 ·rcases qg hj with⟨e1,hl,z⟩|⟨ne,z⟩
  ·rcases qg hk with⟨e2,hl',z'⟩|⟨ne',z'⟩
   ·exact e1.symm.trans e2
   ·subst e1;exact o.nd i k ds gs m hi z' sj sk
  ·rcases qg hk with⟨e2,hl',z'⟩|⟨ne',z'⟩
   ·subst e2;exact o.nd j i fs ds m z hi sj sk
   ·exact o.nd j k fs gs m z z' sj sk
 ·rcases qg hj with⟨e1,hl,z⟩|⟨ne,z⟩
  ·cases z
  ·obtain⟨p,ws,q1,q2,q3,q4,q5,q6,q7⟩:=o.od j ks fs z
   have hp:p≠l:=λy=>by rw[y,h1]at q2;cases q2
   refine⟨p,ws,q1,by rw[qd hp];exact q2,q3,q4,q5,q6,λk ks' es hk sk=>?_⟩;rcases qg hk with⟨e2,hl',z'⟩|⟨ne',z'⟩
   ·cases z'
   ·exact q7 k ks' es z' sk
theorem Own.setOd{i:Nat}{ks:af}{ds:aZ}{p:vG}{vs:bt}(o:bS)(h1:H p=some Jv)(h2:UH)(h3:H0 p=none)(h4:ks.length=ds.length)(h5:o8)(h6:∀(j:Nat)ks' es,ω[j]?=some FF->σ[j]?≠some eN):Own K G0 H0 G (ω.set i jp) (σ.set i eN) H:=by
 refine⟨o.ext,by rw[yZ,yZ,o.len],oX,λj es hj=>?_,Lv,abi,o.pw.set (λ_ z=>by cases z) (λ_ z=>by cases z)⟩
 ·rcases qg hj with⟨rfl,hl,z⟩|⟨ne,z⟩
  ·cases z
  ·obtain⟨u,q1,q2⟩:=o.sh j e z
   exact⟨u,by rw[G7];exact q1,q2⟩
 ·rcases qg hj with⟨rfl,hl,z⟩|⟨ne,z⟩
  ·cases z
  ·obtain⟨m,us,q1,q2⟩:=o.ow j es z
   exact⟨m,us,by rw[G7];exact q1,q2⟩
 ·rcases qg hj with⟨e1,hl,z⟩|⟨ne,z⟩
  ·cases z
  ·rcases qg hk with⟨e2,hl',z'⟩|⟨ne',z'⟩
   ·cases z'
   ·rw[G7]at sj
    rw[Lx]at sk;exact o.nd j k es fs m z z' sj sk
 ·rcases qg hj with⟨rfl,hl,z⟩|⟨ne,z⟩
  ·cases z
   refine⟨p,vs,q2s (by rw[<- o.len];exact hl),h1,h2,h3,h4,h5,λk ks'' fs hk sk=>?_⟩;rcases qg hk with⟨e2,hl',z'⟩|⟨ne',z'⟩
   ·exact e2
   ·rw[Lx]at sk
    exact vP sk (h6 k ks'' fs z')
  ·obtain⟨p',vs',q1,q2,q3,q4,q5,q6,q7⟩:=o.od j ks' es z
   refine⟨p',vs',by rw[G7];exact q1,q2,q3,q4,q5,q6,λk ks'' fs hk sk=>?_⟩;rcases qg hk with⟨e2,hl',z'⟩|⟨ne',z'⟩
   ·subst e2
    rw[q2s (by rw[<- o.len];exact hl')]at sk;cases sk;exact vP q1 (h6 j ks' es z)
   ·rw[Lx]at sk
    exact q7 k ks'' fs z' sk
theorem Own.mutD{i:Nat}{ks ks2:af}{ds es:aZ}{p:vG}{vs us:bt}(o:bS)(hi:ω[i]?=some jp)(hσ:σ[i]?=some eN)(h1:H p=some Jv)(h2:UH)(h3:H0 p=none)(h4:ks2.length=es.length)(h5:RJ):
  Own K G0 H0 G (ω.set i (some (.od ks2 es))) σ (upd H p (.dK (kvsOf ks2 us))):=by
 have ho:i<ω.length:=(zj.mp hi).1;refine⟨pK,by rw[yZ,o.len],oX,HQ,kQ,λj ks' fs hj=>?_,(o.pw.upd (o.pw.ne_ob λvs z=>by rw[h1]at z;cases z)).setW (λ_ z=>by cases z) (λ_ z=>by cases z)⟩
 ·rcases qg hj with⟨rfl,hl,z⟩|⟨ne,z⟩
  ·cases z
  ·exact o.sh j e z
 ·rcases qg hj with⟨rfl,hl,z⟩|⟨ne,z⟩
  ·cases z
  ·obtain⟨m,ws,q1,q2,q3,q4,q5⟩:=o.ow j fs z
   have hm:m≠p:=λy=>by rw[y,h1]at q2;cases q2
   exact⟨m,ws,q1,by rw[Md];exact q2,q3,q4,q5⟩
 ·rcases qg hj with⟨e1,hl,z⟩|⟨ne,z⟩
  ·cases z
  ·rcases qg hk with⟨e2,hl',z'⟩|⟨ne',z'⟩
   ·cases z'
   ·exact o.nd j k fs gs m z z' sj sk
 ·obtain⟨p0,vs0,r1,r2,r3,r4,r5,r6,r7⟩:=o.od i ks ds hi
  rw[hσ]at r1;cases r1;rcases qg hj with⟨rfl,hl,z⟩|⟨ne,z⟩
  ·cases z
   refine⟨p,us,hσ,qe,h2,h3,h4,h5,λk ks'' gs hk sk=>?_⟩;rcases qg hk with⟨e2,hl',z'⟩|⟨ne',z'⟩
   ·exact e2
   ·exact r7 k ks'' gs z' sk
  ·obtain⟨q,ws,q1,q2,q3,q4,q5,q6,q7⟩:=o.od j ks' fs z
   have hp:q≠p:=λy=>ne (r7 j ks' fs z (by rw[<- y];exact q1));refine⟨q,ws,q1,by rw[qd hp];exact q2,q3,q4,q5,q6,λk ks'' gs hk sk=>?_⟩;rcases qg hk with⟨e2,hl',z'⟩|⟨ne',z'⟩
   ·subst e2
    rw[hσ]at sk;cases sk;exact vP rfl hp
   ·exact q7 k ks'' gs z' sk
noncomputable def share(i:Nat)(ω:WSt):WSt:=match ω[i]? with
 | some (some (.ow ds))=>ω.set i ↥eY
 | some (some (.od ks ds))=>ω.set i ↥CY
 | _=>ω
theorem Own.share(i:Nat)(o:bS):(∃G',Xh G G'/\Own K G0 H0 G' Pm σ H)\/∃p kvs,σ[i]?=some eN/\H p=some ce/\∀ob,∃G',Xh G G'/\Own K G0 H0 G' Pm σ CC:=by
 unfold Hk.share;cases q:ω[i]? with
 | none=>exact .inl JA
 | some w=>
  cases w with
  | none=>exact .inl JA
  | some w=>
   cases w with
   | sh d=>exact .inl JA
   | pw ds=>exact .inl JA
   | ow ds=>
    obtain⟨l,vs,q1,q2,q3,q4,q5⟩:=o.ow i ds q;have s1:Xh G (upd G l gS):=WD q3 _;have ho:i<ω.length:=(zj.mp q).1;refine .inl ⟨upd G l gS,s1,⟨abt,Q4,o.ext.hh,HR⟩,by rw[yZ,o.len],oX,HQ,kQ,KL,(o.pw.grow q3 (o.pw.ne_ow q q1)).setW (λ_ z=>by cases z) (λ_ z=>by cases z)⟩
    ·by_cases hb:b=l
     ·subst hb;rw[qe]at z;rw[q2];exact z
     ·rw[qd hb]at z;exact o.ext.gh b u z
    ·rw[qd (λhb=>z2 (by rw[hb];exact q4))];exact o.ext.new b z1 z2
    ·rcases qg hj with⟨rfl,hl,z⟩|⟨ne,z⟩
     ·cases z;exact⟨_,q1,l,vs,rfl,qe,q5.mono s1⟩
     ·obtain⟨u,r1,r2⟩:=o.sh j e z
      exact Sj
    ·rcases qg hj with⟨rfl,hl,z⟩|⟨ne,z⟩
     ·cases z
     ·obtain⟨m,ws,r1,r2,r3,r4,r5⟩:=o.ow j fs z
      have hm:m≠l:=λy=>ne (o.nd i j ds fs l q z q1 (by rw[<- y];exact r1));exact⟨m,ws,r1,r2,by rw[Md];exact r3,r4,r5.mono s1⟩
    ·rcases qg hj with⟨e1,hl,z⟩|⟨ne,z⟩
     ·cases z
     ·rcases qg hk with⟨e2,hl',z'⟩|⟨ne',z'⟩
      ·cases z'
      ·exact o.nd j k fs gs m z z' sj sk
    ·rcases qg hj with⟨e1,hl,z⟩|⟨ne,z⟩
     ·cases z
     ·obtain⟨m,ws,r1,r2,r3,r4,r5,r6,r7⟩:=o.od j ks fs z
      have hm:m≠l:=λy=>by rw[y,q2]at r2;cases r2
      refine⟨m,ws,r1,r2,by rw[Md];exact r3,r4,r5,r6.mono s1,λk ks' es hk sk=>?_⟩;rcases qg hk with⟨e2,hl',z'⟩|⟨ne',z'⟩
      ·cases z'
      ·exact r7 k ks' es z' sk
   | od ks0 ds=>
    obtain⟨l,vs,q1,q2,q3,q4,q6,q5,q7⟩:=o.od i ks0 ds q;refine .inr ⟨l,_,q1,q2,λob=>?_⟩;have s1:Xh G Ez:=WD q3 _;have ho:i<ω.length:=(zj.mp q).1;refine⟨Ez,s1,⟨abt,zAn o.ext.gh _,Xi o.ext.hh q4 _,HR⟩,by rw[yZ,o.len],oX,HQ,kQ,KL,((o.pw.upd (o.pw.ne_ob λvs z=>by rw[q2]at z;cases z)).grow q3 (o.pw.ne_ob λvs z=>by rw[q2]at z;cases z)).setW (λ_ z=>by cases z) (λ_ z=>by cases z)⟩
    ·rw[qd (λhb=>z2 (by rw[hb];exact q4))];exact o.ext.new b z1 z2
    ·rcases qg hj with⟨rfl,hl,z⟩|⟨ne,z⟩
     ·cases z;exact⟨_,q1,l,vs,rfl,⟨ob,qe⟩,q6,q5.mono s1⟩
     ·obtain⟨u,r1,r2⟩:=o.sh j e z
      exact Sj
    ·rcases qg hj with⟨rfl,hl,z⟩|⟨ne,z⟩
     ·cases z
     ·obtain⟨m,ws,r1,r2,r3,r4,r5⟩:=o.ow j fs z
      have hm:m≠l:=λy=>by rw[y,q2]at r2;cases r2
      exact⟨m,ws,r1,by rw[Md];exact r2,by rw[Md];exact r3,r4,r5.mono s1⟩
    ·rcases qg hj with⟨e1,hl,z⟩|⟨ne,z⟩
     ·cases z
     ·rcases qg hk with⟨e2,hl',z'⟩|⟨ne',z'⟩
      ·cases z'
      ·exact o.nd j k fs gs m z z' sj sk
    ·rcases qg hj with⟨e1,hl,z⟩|⟨ne,z⟩
     ·cases z
     ·obtain⟨m,ws,r1,r2,r3,r4,r5,r6,r7⟩:=o.od j ks fs z
      have hm:m≠l:=λy=>ne (q7 j ks fs z (by rw[<- y];exact r1));refine⟨m,ws,r1,by rw[Md];exact r2,by rw[Md];exact r3,r4,r5,r6.mono s1,λk ks' es hk sk=>?_⟩;rcases qg hk with⟨e2,hl',z'⟩|⟨ne',z'⟩
      ·cases z'
      ·exact r7 k ks' es z' sk
end
theorem Inv.freeze{X:Cx}{pins:aA}{σ:St}{H:Hp}{s:vC}{p:vG}{kvs:eF}(I:aq)(hp:H p=some ce):∃ob,Inv X pins σ CC s:=by
 have ok:=I.hok p _ hp;obtain⟨_,_,_,_,ob,_,_,e,_⟩:=id ok;have stay:∀b u,Xk X.prog X.w H s.heap b u->Xk X.prog X.w CC s.heap b u:=λb u x=>
  x.stay ND (λc q=>by rw[qd (λz=>by rw[z,hp]at q;cases q)];exact q) λc xs q=>by rw[qd (λz=>by rw[z,hp]at q;cases q)];exact q
 refine⟨ob,I.step (H':=upd H p iw) (h':=s.heap) (g':=s.gens) (d':=s.drawn) (t':=s.toks) (ch:=[]) (λ_ z=>nomatch z) (λ_ _ _ _ _ e _=>e) (λ_ o _ _ _ e _=>⟨o.slots,e⟩) (λb o _ _ n=>by rw[qd (λz=>by rw[z,hp]at n;cases n)];exact n) (λ_ o _ e=>AT)
  (λb xs q=>by rw[qd (λz=>by rw[z,hp]at q;cases q)];exact q) (λb o u q=>by rw[qd (λz=>by rw[z,hp]at q;cases q)];exact q) (λb ps q=>⟨#[],by rw[qd (λz=>by rw[z,hp]at q;cases q),q];simp⟩) (λ_ hm=>hm) (λb u q=>?_) I.bare⟩
 by_cases z:b=p
 ·subst z
  rw[qe]at q;cases q;exact⟨e,stay _ _ ok⟩
 ·rw[qd z]at q
  exact stay b u (I.hok b u q)
theorem q7x{X:Cx}{sts:Cg}{t:TS}(i:Nat)(h:PSs X sts t):PSs X sts (λD σ H=>∃p kvs,σ[i]?=some eN/\H p=some ce/\∀ob,t D σ CC):=by
 intro pins s σ H D I q;obtain⟨p,kvs,_,hp,q⟩:=q;obtain⟨ob,I'⟩:=Inv.freeze I hp;exact h pins s σ _ D I' (q ob)
noncomputable def WL(i:Nat)(f:FS):FS:=λω=>f Pm
theorem q0c{X:Cx}{sts:Cg}{f:FS}(i:Nat)(h:XSs X sts f):XSs X sts (WL i f):=by
 obtain⟨t,h1,h2⟩:=h;refine⟨λD σ H=>t D σ H\/∃p kvs,σ[i]?=some eN/\H p=some ce/\∀ob,t D σ CC,λpins s σ H D I q=>?_,λG0 H0 G ω σ H out ω' E o e k=>?_⟩
 ·rcases q with q|q
  ·exact h1 pins s σ H D I q
  ·exact q7x i h1 pins s σ H D I q
 ·rcases o.share i with⟨G1,g1,o1⟩|⟨p,kvs,z1,z2,z3⟩
  ·exact .inl (h2 G0 H0 G1 _ σ H out ω' E o1 e λG2 σ2 H2 w2 g2=>k G2 σ2 H2 w2 NX)
  ·refine .inr ⟨p,kvs,z1,z2,λob=>?_⟩
   obtain⟨G1,g1,o1⟩:=z3 ob;exact h2 G0 H0 G1 _ σ _ out ω' E o1 e λG2 σ2 H2 w2 g2=>k G2 σ2 H2 w2 NX
noncomputable def setR(i:Nat)(r:R)(ω:WSt):Option WSt:=match r with
 | .sh d=>some jO
 | .fr ds=>some Pb
 | .vw _=>none
noncomputable def Xq(i:Nat)(f:FE):FS:=λω=>(f ω).bind λr=>(setR i r ω).map λw=>VU
section
variable{X:Cx}{e:vW}{f:FE}{pos pos':Pos}
theorem qco{i:Nat}{t:TE}(h:zC8 X.K t f):SimS X.K (zA6 t (WU i)) (Xq i f):=by
 intro G0 H0 G ω σ H out ω' E o e k;obtain⟨r,q,e⟩:=bnd e;obtain⟨w,q2,e⟩:=mpd e;cases e;refine h G0 H0 G ω σ H r _ o q λv G1 H1 x1 y1=>?_;have o1:=o.keep x1;show E.nx mP H1;cases r with
 | sh d=>cases q2;exact k G1 _ H1 (o1.setSh y1) x1.gg
 | fr ds=>
  cases q2;obtain⟨l,vs,rfl,e2,e3,e4,e5⟩:=y1;refine k G1 _ H1 (o1.setOw e4 e3 aaG e5 (λj es hj z=>?_) λj es hj y=>?_) x1.gg
  ·obtain⟨m,us,q1,q2,_⟩:=o.ow j es hj
   rw[q1]at z;cases z;rw[e2]at q2;cases q2
  ·obtain⟨us,_,q2,_⟩:=o.pw j es hj
   rw[y,e2]at q2;cases q2
 | vw ds=>cases q2
theorem qm{i:Nat}{x:Str}(hN:X.N.Nodup)(hi:X.N[i]?=some x)(hx:eO)(he:XE X e f)(hs:lK:=by rfl)(hf:aK:=by first|exact .inl rfl|exact .inr rfl|assumption):
  XS X E6 (Xq i f):=let ⟨_,h1,h2⟩:=he;⟨_,SC,qco h2⟩
noncomputable abbrev FG:=D->WSt->Option WSt
def SimG(K:zB)(g:TG)(fg:FG):Prop:=∀G0 H0 G ω σ H d v ω'(Q:rT),Own K G0 H0 G ω σ H->fg d ω=some ω'->Rep K G d v->(∀σ',Own K G0 H0 G ω' σ' H->Q σ' H)->g v σ H Q
def XG(X:Cx)(tg:vW)(fg:FG):Prop:=∃g,PG X tg g/\SimG X.K g fg
noncomputable def gN(i:Nat):FG:=λd ω=>some jO
theorem qh{i:Nat}{x:Str}(hN:X.N.Nodup)(hi:X.N[i]?=some x)(hx:eO)(hf:aK:=by first|exact .inl rfl|exact .inr rfl|assumption):XG X iq Qu :=
 ⟨_,q4q hN hi hx hf,λG0 H0 G ω σ H d v ω' Q o e h k=>by cases e;exact k _ (o.setSh h)⟩
def SimGs(K:zB)(g:TGs)(fg:dC):Prop:=∀G0 H0 G ω σ H ds vs ω'(Q:rT),Own K G0 H0 G ω σ H->fg ds ω=some ω'->XR K G ds vs->(∀σ',Own K G0 H0 G ω' σ' H->Q σ' H)->g vs σ H Q
def XGs(X:Cx)(tg:iF)(fg:dC):Prop:=∃g,PGs X tg g/\SimGs X.K g fg
noncomputable def X9:List D->WSt->Option WSt
 | [],ω=>some ω
 | _,_=>none
noncomputable def XU(f:FG)(g:dC):List D->WSt->Option WSt
 | d::ds,ω=>(f d ω).bind λw=>g ds w
 | [],_=>none
theorem q1I:XGs X [] X9:=⟨_,qbB,λG0 H0 G ω σ H ds vs ω' Q o e h k=>by
 cases ds with
 | nil=>cases e;cases (show vs=[]from h);exact⟨rfl,k σ o⟩
 | cons d r=>cases e⟩
theorem qD{es:iF}{fg:FG}{gs:dC}(h:XG X e fg)(h':XGs X es gs)(hs:(ub jF X.env).map (·.2)=assign e X.env::(ub es X.env).map (·.2):=by rfl):XGs X jF (XU fg gs):=by
 obtain⟨g,h1,h2⟩:=h;obtain⟨u,h3,h4⟩:=h';refine⟨_,q6e h1 h3 hs,λG0 H0 G ω σ H ds vs ω' Q o e h k=>?_⟩;cases ds with
 | nil=>cases e
 | cons d r=>
  obtain⟨w1,q,e1⟩:=bnd e;obtain⟨v,vr,rfl,r1,r2⟩:=h;exact⟨v,vr,rfl,h2 G0 H0 G ω σ H d v w1 _ o q r1 λσ1 o1=>h4 G0 H0 G w1 σ1 H r vr ω' Q o1 e1 r2 k⟩
noncomputable def gT(n:Nat)(g:dC):FG:=λd ω=>match d with
 | .tup ds=>if ds.length=n then g ds ω else none
 | _=>none
theorem q2C{es:iF}{k n:Nat}{gs:dC}(hc:cI)(h:XGs X es gs)(hn:Sf:=by rfl)(hst:(ub es X.env).findIdx? (·.1)=none:=by rfl):XG X VZ (gT n gs):=by
 obtain⟨g,h1,h2⟩:=h;refine⟨_,qeZ hc h1 hn hst,λG0 H0 G ω σ H d v ω' Q o e h k=>?_⟩;unfold gT at e;cases d with
 | tup ds=>
  dsimp only at e
  obtain⟨a,vs,rfl,r1,r2⟩:=h
  by_cases z:ds.length=n
  ·rw[gz]at e
   exact⟨a,vs,rfl,SqT.of (o.gh _ _ r1),by rw[<- r2.len];exact z,h2 G0 H0 G ω σ H ds vs ω' Q o e r2 k⟩
  ·rw[gc]at e;cases e
 | _=>cases e
end
noncomputable def sIf(c:FT)(f g:FS):FS:=λω=>(c ω).bind λb=>if b=true then f ω else g ω
noncomputable def Xp(f:FE):FS:=λω=>(f ω).bind λr=>match r with
 | .sh d=>some mN
 | .fr ds=>some lQ
 | .vw _=>none
noncomputable def zAH(i:Nat):FS:=λω=>match ω[i]? with
 | some ↥d=>some mN
 | some (some (.ow ds))=>some lQ
 | _=>none
noncomputable def sNo:FS:=λ_=>none
noncomputable def zBT(f:FE):FS:=λω=>(f ω).map λ_=>Cw
section
variable{X:Cx}{c e:vW}{a b:List vp}{st:vp}{pos:Pos}{fc:FT}{f g:FS}{fe:FE}
theorem qC(hc:XT X c fc)(ha:XSs X a f)(hb:XSs X b g):XS X acd (sIf fc f g):=by
 obtain⟨t,h1,h2⟩:=hc;obtain⟨u,h3,h4⟩:=ha;obtain⟨w,h5,h6⟩:=hb;refine⟨_,qhq h1 h3 h5,cv⟩;obtain⟨z,q,e⟩:=bnd e;refine h2 G0 H0 G ω σ H z _ o q λG1 H1 x1=>?_;cases z with
 | true=>rw[kT]at e ⊢;exact h4 G0 H0 G1 ω σ H1 out ω' E iI e λG2 σ2 H2 o2 g2=>k G2 σ2 H2 o2 aas
 | false=>exact h6 G0 H0 G1 ω σ H1 out ω' E iI e λG2 σ2 H2 o2 g2=>k G2 σ2 H2 o2 aas
theorem qf(he:XE X e fe):XS X Da (Xp fe):=by
 obtain⟨t,h1,h2⟩:=he;refine⟨_,q5G h1,cv⟩;obtain⟨r,q,e⟩:=bnd e;refine h2 G0 H0 G ω σ H r _ o q λv G1 H1 x1 y1=>?_;cases r with
 | sh d=>cases e;exact k G1 σ H1 iI x1.gg v y1
 | fr ds=>
  cases e;obtain⟨l,vs,e1,e2,e3⟩:=y1;exact k G1 σ H1 iI x1.gg v ⟨l,vs,e1,aaG,e3⟩
 | vw ds=>cases e
theorem q34{i:Nat}(he:PE X e Np):XS X Da (zAH i):=by
 refine⟨_,q5G he,cv⟩;unfold zAH at e;cases q:ω[i]? with
 | none=>rw[q]at e;cases e
 | some w=>
  rw[q]at e;cases w with
  | none=>cases e
  | some w=>
   cases w with
   | sh d=>
    cases e;obtain⟨v,q1,q2⟩:=o.sh i d q;exact⟨v,q1,k G σ H o gr v q2⟩
   | ow ds=>
    cases e;obtain⟨l,vs,q1,q2,q3,q4,q5⟩:=o.ow i ds q;exact⟨_,q1,k G σ H o gr _ ⟨l,vs,rfl,q4,q3,q2,q5⟩⟩
   | od ks ds=>cases e
   | pw ds=>cases e
theorem q7q:XS X st sNo:=⟨_,qgM,λG0 H0 G ω σ H out ω' E o e k=>by cases e⟩
theorem q61(he:XE X e fe)(hs:HV:=by rfl):XS X (.Expr e pos) (zBT fe):=by
 obtain⟨t,h1,h2⟩:=he;refine⟨_,q1G h1 hs,cv⟩;obtain⟨r,q,e⟩:=mpd e;cases e;exact h2 G0 H0 G ω σ H r _ o q λv G1 H1 x1 y1=>k G1 σ H1 iI x1.gg
noncomputable def zB7(i:Nat)(f:FD):FS:=λω=>(f ω).bind λd=>match ω[i]? with
 | some (some (.ow ds))=>if ds.length<1000000 then some mv else none
 | _=>none
theorem q2y{i:Nat}{o e:vW}{fd:FD}{apos cpos:Pos}(ho:km)(he:XD X e fd)(hbase:uU o "append" X.env mJ=eval o X.env:=by rfl)(hfew:((vt cpos mf).all (λx=>!x.1)&&(uX cpos m8).all jL
   && decide (([e]:List vW).length+([]:List uZ).length+(if ([]:List uZ).isEmpty then 0 else 1)<30))=true:=by rfl)
  (hline:gZ=true:=by rfl) (hs:vK [e] X.env=dM::vK [] X.env:=by rfl) (hplain:(vt cpos cG).any (·.1)=false:=by rfl)
  (hsw:uD Bf none pos.line X.env=pure false:=by rfl) :
  XS X (.Expr Bf pos) (zB7 i fd):=by
 obtain⟨t,h1,h2⟩:=he;refine⟨_,q1G (q3O PySem.F.plainAttrs_list PySem.F.slot_list_append PySem.F.type_list_append q0W ho (qA h1 qy hs) hbase hfew hline hs hplain) hsw,mi⟩;obtain⟨d,q,e⟩:=bnd e;cases q2:ω[i]? with
 | none=>rw[q2]at e;cases e
 | some w=>
  rw[q2]at e;cases w with
  | none=>cases e
  | some w=>
   cases w with
   | sh d=>cases e
   | od ks ds=>cases e
   | pw ds=>cases e
   | ow ds=>
    dsimp only at e
    by_cases z:ds.length<1000000
    ·rw[gz]at e
     cases e;obtain⟨l,vs,r1,r2,r3,r4,r5⟩:=ow.ow i ds q2;refine ky;have o1:=ow.keep x1;have hz:vs.length<sizeLine:=by rw[<- r5.len,vj];omega
     refine⟨l,vs,v,rfl,rfl,G8,hz,?_⟩;exact k G1 σ _ (o1.mut q2 r1 G8 (x1.new l r3 (by rw[r2];exact λz=>by cases z)) r4 ((r5.mono x1.gg).app (XR.cons y1 XR.nil))) x1.gg
    ·rw[gc]at e;cases e
end
end Hk
namespace PySem
open AutoSeq1 MeetsSeq MeetsSeq2 MeetsSeq3
theorem extTup(l b:vG)(xs ys:cK)(n m:Nat)(dd:HC)(sl:UK)(h1:¬(!xs.isEmpty&&Builtin.List.listTooLong (xs.size+ys.size))=true)(h2:xs.size<=sizeLine)(h3:xs.size+ys.size<=sizeLine+1):
  Meets (Builtin.«list.extend» ⟨[cF,Cv],[]⟩) (λ_ R s=>s.heap.get? l=some { cls:=.type "list", data:=.seq xs n }/\s.heap.get? b=some { cls:=.type "tuple", dict:=dd,data:=.seq ys m,slots:=sl } /\
   R (.ok (.ret Value.none)) { s with heap:=s.heap.update l (Obj.mapSeq λz=>z++ys),toks:=s.toks }) :=
 .of_wp λprog w A R s h=>by
  obtain⟨hp,g,d,tk,os⟩:=s;obtain⟨e1,e2,q⟩:=h;have p1:=idx_int;have p2:=sub_tuple_tuple;have p3:=sub_list_list;have p4:=sub_tuple_list;have p5:=sub_list_tuple;have fit:(xs++ys).size<=sizeLine+1:=by rw[Array.size_append];exact h3
  wp_walk using (uS e1 rfl (hz:=h2) (_hz':=fit)),wpAny_loadPart' e1,wpAny_loadPart' e2
  exact⟨_,rfl,q⟩
end PySem
namespace Hk
open PySem L2
section
variable{X:Cx}{pos:Pos}
def rExtA:V->List V->Hp->VK->Prop:=λx vs H Q=>zBt x vs H Q\/∃l b xs zs,x=.ref l/\vs=[Cv]/\H l=some dQ/\H b=some (.tup zs)/\xs.length+zs.length<=sizeLine/\Q .non (upd H l Lk)
theorem qiX:MtR X "list.extend" rExtA:=by
 intro pins s σ H x vs v us Q I rx rv h;rcases h with h|h
 ·exact qe4 pins s σ H x vs v us Q I rx rv h
 obtain⟨l,b,xs,zs,rfl,rfl,hH,hB,hz,q⟩:=h;cases rx;obtain⟨u,rfl,ru⟩:=rv.one;cases ru;obtain⟨z,its,n,r,hl,e⟩:=I.lstM hH;obtain⟨its2,r2,⟨o2,e2,c2,n2,d2⟩,z2⟩:=I.tuple (SqT.of hB);have hl2:=r2.length;obtain⟨cls,dd,dt,sl⟩:=o2;cases c2;cases d2;have hsz:its.toArray.size+its2.toArray.size<=sizeLine:=by rw[zP,zP];omega
 have hlong:¬(!its.toArray.isEmpty&&Builtin.List.listTooLong FR)=true:=by
  rw[zAR hsz,wx];exact y0
 refine u7 F.slot_list_extend fL F.entry_list_extend MY
  (extTup l b its.toArray its2.toArray n n2 dd sl hlong (by rw[zP];omega) ∅) ⟨e,e2,?_⟩
 refine⟨.non,_,I.lset (its':=its++its2) hH e (by simp) NO ?_,rfl,q⟩;rw[zC];omega
noncomputable def itemsOf:D->Option aZ
 | .lst ds=>some ds
 | .tup ds=>some ds
 | _=>none
noncomputable def zCp(i:Nat)(f:FD):FS:=λω=>(f ω).bind λd=>(itemsOf d).bind λes=>match ω[i]? with
 | some (some (.ow ds))=>if ds.length+es.length<=1000000 then some Gw else none
 | _=>none
theorem q7v{i:Nat}{o e:vW}{fd:FD}{apos cpos:Pos}(ho:km)(he:XD X e fd)(hbase:uU o "extend" X.env mJ=eval o X.env:=by rfl)(hfew:((vt cpos mf).all (λx=>!x.1)&&(uX cpos m8).all jL
   && decide (([e]:List vW).length+([]:List uZ).length+(if ([]:List uZ).isEmpty then 0 else 1)<30))=true:=by rfl)
  (hline:gZ=true:=by rfl) (hs:vK [e] X.env=dM::vK [] X.env:=by rfl) (hplain:(vt cpos cG).any (·.1)=false:=by rfl)
  (hsw:uD Be none pos.line X.env=pure false:=by rfl) :
  XS X (.Expr Be pos) (zCp i fd):=by
 obtain⟨t,h1,h2⟩:=he;refine⟨_,q1G (q3O PySem.F.plainAttrs_list PySem.F.slot_list_extend PySem.F.type_list_extend qiX ho (qA h1 qy hs) hbase hfew hline hs hplain) hsw,mi⟩;obtain⟨d,q,e⟩:=bnd e;obtain⟨es,q3,e⟩:=bnd e;cases q2:ω[i]? with
 | none=>rw[q2]at e;cases e
 | some w=>
  rw[q2]at e;cases w with
  | none=>cases e
  | some w=>
   cases w with
   | sh d=>cases e
   | od ks ds=>cases e
   | pw ds=>cases e
   | ow ds=>
    dsimp only at e
    by_cases z:ds.length+es.length<=1000000
    ·rw[gz]at e
     cases e;obtain⟨l,vs,r1,r2,r3,r4,r5⟩:=ow.ow i ds q2;refine ky;have o1:=ow.keep x1;have fin:∀us:List V,XR X.K G1 es us->vs.length+us.length<=sizeLine/\zBY X.K H0 G1 E .nx σ (upd H1 l (.lst (vs++us))):=λus hu=>
      ⟨by rw[<- r5.len,<- hu.len];exact q6L z,k G1 σ _ (o1.mut q2 r1 G8 (x1.new l r3 (by rw[r2];exact λz=>by cases z)) r4 ((r5.mono x1.gg).app hu)) x1.gg⟩
     cases d with
     | lst ds'=>
      cases q3;obtain⟨b,us,rfl,r6,r7⟩:=y1;obtain⟨f1,f2⟩:=fin us r7;exact .inl rO
     | tup ds'=>
      cases q3;obtain⟨b,us,rfl,r6,r7⟩:=y1;obtain⟨f1,f2⟩:=fin us r7;exact .inr rO
     | _=>cases q3
    ·rw[gc]at e;cases e
end
structure IterOf (K:zB) (J:It) (G:Hp) (ds:List D):Prop where
 go:∀H i,Xh G H->i<ds.length->J.go i H
 yld:∀G2 H i x H' d,Xh G G2->Xh G2 H->ds[i]?=some d->J.yld i H x H'->∃G3,Ext G2 H G3 H'/\Rep K G3 d x
 stop:∀H,Xh G H->J.stop ds.length H
noncomputable abbrev FI:=WSt->Option aZ
def SimI(K:zB)(wi:TI)(f:FI):Prop:=∀G0 H0 G ω σ H ds(R:CW),Own K G0 H0 G ω σ H->f ω=some ds->(∀J G' H',Ext G H G' H'->IterOf K J G' ds->R J H')->wi σ H R
def XI(X:Cx)(tg iter:vW)(f:FI):Prop:=∃wi,PI X tg iter wi/\SimI X.K wi f
section
variable{X:Cx}{tg e:vW}
theorem qgB{K:zB}{G:Hp}{a:vG}{ds:aZ}{vs:bt}(h1:UI)(h2:o8):IterOf K abS G ds:=by
 refine⟨Fw,gX,λH s=>⟨vs,SqL.of gG,by rw[h2.len];exact zN _⟩⟩
 ·have:i<vs.length:=by rw[<- h2.len];exact hi
  exact⟨vs,vs[i],K9,zD this⟩
 ·obtain⟨e,y⟩:=hy
  obtain⟨v,q1,q2⟩:=h2.get hd;have:=y vs RP;rw[q1]at this;cases this;subst e;exact Kb
theorem qgm{K:zB}{G:Hp}{a:vG}{ds:aZ}{vs:bt}(h1:G a=some O3)(h2:o8):IterOf K abR G ds:=by
 refine⟨Fw,gX,λH s=>⟨vs,SqT.of gG,by rw[h2.len];exact zN _⟩⟩
 ·have:i<vs.length:=by rw[<- h2.len];exact hi
  exact⟨vs,vs[i],EW,zD this⟩
 ·obtain⟨e,y⟩:=hy
  obtain⟨v,q1,q2⟩:=h2.get hd;have:=y vs (SqT.of pQ);rw[q1]at this;cases this;subst e;exact Kb
noncomputable def WA(f:FD):FI:=λω=>(f ω).bind itemsOf
theorem qp{f:FD}(h:Oe):XI X tg e (WA f):=by
 obtain⟨t,h1,h2⟩:=h;refine⟨λσ H R=>iList X.K t σ H R\/iTup X.K t σ H R,λpins s σ H R I q=>?_,gE⟩
 ·rcases q with q|q
  ·exact q7J h1 pins s σ H R I q
  ·exact qki h1 pins s σ H R I q
 ·obtain⟨d,q,e⟩:=bnd e
  cases d with
  | lst es=>
   cases e;refine .inl (h2 G0 H0 G ω σ H _ _ o q λv G1 H1 x1 ⟨a,vs,e1,e2,e3⟩=>⟨a,e1,⟨vs,SqL.of acr⟩,k _ G1 H1 x1 (qgB e2 e3)⟩)
  | tup es=>
   cases e;refine .inr (h2 G0 H0 G ω σ H _ _ o q λv G1 H1 x1 ⟨a,vs,e1,e2,e3⟩=>⟨a,e1,⟨vs,SqT.of acr⟩,k _ G1 H1 x1 (qgm e2 e3)⟩)
  | _=>cases e
noncomputable def upTo(lo:Int)(n:Nat):List D:=(zo n).map λ(i:Nat)=>D.int (lo+rh)
theorem qgD{K:zB}{G:Hp}(lo:Int)(n:Nat):IterOf K (Itr lo n) G (upTo lo n):=by
 have hl:(upTo lo n).length=n:=by unfold upTo;rw[zA,zx]
 refine⟨λH i s hi=>by rw[hl]at hi;exact hi,λG2 H i x H' d s0 s1 hd hy=>?_,λH s=>by rw[hl];exact zN _⟩;obtain⟨e,y⟩:=hy;subst e;refine⟨G2,UJ,?_⟩;unfold upTo at hd;rw[zZ]at hd;have hi:i<n:=by
  rcases zw i n with z|z
  ·exact z
  ·rw[zn (by rw[zx];exact z)]at hd;cases hd
 rw[xW hi]at hd;cases hd;exact y
noncomputable def iRg1(g:FA):FI:=λω=>(g ω).bind λds=>match ds with
 | [.int j]=>if -(2^62)<=j/\j<2^62 then some aav else none
 | _=>none
theorem qf0{a:vW}{g:FA}{p pos:Pos}(hg:Gl X "range")(hm:VI)(ha:XVA X [a] g)(hs:BS:=by rfl):XI X tg GA (iRg1 g):=by
 obtain⟨t,h1,h2⟩:=ha;refine⟨_,qdN hg hm h1 hs,gE⟩;obtain⟨vs,q,e⟩:=bnd e;refine h2 G0 H0 G ω σ H vs _ o q λus G1 H1 x1 y1=>?_
 match vs,e with
 | [.int j],e=>
  dsimp only at e
  by_cases z:-(2^62)<=j/\j<2^62
  ·rw[gz]at e
   cases e;obtain⟨v,rfl,y2⟩:=y1.one;cases y2.int;exact⟨j,rfl,z.1,z.2,k _ G1 H1 x1 (qgD _ _)⟩
  ·rw[gc]at e;cases e
end
noncomputable def zAf(g:FG)(b:FS):List D->FS
 | [],ω=>some Cw
 | d::ds,ω=>(g d ω).bind λw=>(b w).bind λp=>match p.1 with
  | .nx=>zAf g b ds p.2
  | .ct=>zAf g b ds p.2
  | .bk=>some (.nx,p.2)
  | .rt r=>some (.rt r,p.2)
noncomputable def zAC(fi:FI)(g:FG)(b:FS):FS:=λω=>(fi ω).bind λds=>zAf g b ds ω
section
variable{X:Cx}{tg iter:vW}{body:List vp}{pos:Pos}{fi:FI}{fg:FG}{fb:FS}
theorem qP(hp:jW)(hc:cI)(hi:MM)(hg:XG X tg fg)(hb:XSs X body fb)(hs:∀x,uC iter X.env x=pure x:=by intro _;rfl):XS X M4 (zAC fi fg fb):=by
 obtain⟨wi,h1,h2⟩:=hi;obtain⟨g,h3,h4⟩:=hg;obtain⟨tb,h5,h6⟩:=hb;refine⟨_,q7j hp hc h1 h3 h5 hs,cv⟩;obtain⟨ds,q,e⟩:=bnd e;refine h2 G0 H0 G ω σ H ds _ o q λJ G1 H1 x1 it=>?_;refine⟨λi m σ2 H2=>∃G2 ω2,Own X.K G0 H0 G2 ω2 σ2 H2/\Xh G1 G2/\zAf fg fb (ds.drop i) ω2=some JN/\i<=ds.length/\m=ds.length-i,⟨_,G1,ω,iI,gr,e,B5,rfl⟩,?_⟩;rintro i m σ2 H2 ⟨G2,ω2,o2,s2,f2,hi2,rfl⟩
 by_cases hlt:i<ds.length
 ·refine .inr ⟨it.go H2 i aaB hlt,λσ3 H3=>∃G3 ω3,Own X.K G0 H0 G3 ω3 σ3 H3/\Xh G1 G3/\zAf fg fb (ds.drop (i+1)) ω3=some JN,λσ3 H3 ⟨G3,ω3,a1,a2,a3⟩=>⟨ds.length-(i+1),∅,G3,ω3,a1,a2,a3,hlt,rfl⟩,λx H3 hy=>?_⟩
  have hd:ds[i]?=some ds[i]:=zD hlt;obtain⟨G4,x4,rx⟩:=it.yld G2 H2 i x H3 ds[i] s2 o2.gh hd hy;have o2:=o2.keep x4;have s2:=s2.trans x4.gg;rw[xF hlt]at f2;obtain⟨w,q1,f2⟩:=bnd f2;obtain⟨⟨o3,ω3⟩,q2,f2⟩:=bnd f2;refine h4 G0 H0 G4 ω2 σ2 H3 ds[i] x w _ o2 q1 rx λσ4 o4=>?_;refine h6 G0 H0 G4 w σ4 H3 o3 ω3 _ o4 q2 λG5 σ5 H5 o5 s5=>?_;cases o3 with
  | nx=>exact Sm
  | ct=>exact Sm
  | bk=>cases f2;exact k G5 σ5 H5 o5 aat
  | rt r=>cases f2;exact k G5 σ5 H5 o5 aat
 ·have ei:i=ds.length:=∅
  subst ei;rw[ZU]at f2;cases f2;exact .inl ⟨it.stop H2 aaB,k G2 σ2 H2 o2 (x1.gg.trans s2)⟩
end
noncomputable def Xx(g:FG)(c:FT)(f:FD):List D->WSt->Option aZ
 | [],_=>some []
 | d::ds,ω=>(g d ω).bind λw=>(c w).bind λb=>if b=true then (f w).bind λx=>(Xx g c f ds w).map λr=>x::r else Xx g c f ds w
noncomputable def Wi:Option cj->Option W
 | some ↥d=>↥d
 | _=>none
noncomputable def inW(M:Nat)(frees:bW)(ω:WSt):WSt:=zt M none++frees.map λj=>Wi ω[j]?
noncomputable def Xo(M:Nat)(frees:bW)(fi:FI)(g:FG)(c:FT)(f:FD):FE:=λω=>(fi ω).bind λds=>if ds.length<=1000000 then (Xx g c f ds CK).map R.fr else none
def XTs(X:Cx)(ifs:iF)(f:FT):Prop:=∃t,PTs X ifs t/\zBe X.K t f
noncomputable def Xl:FT:=λ_=>some true
theorem qv{X:Cx}:XTs X [] Xl:=⟨_,qii,λG0 H0 G ω σ H b Q o e k=>by cases e;exact k G H ln⟩
theorem q4e{X:Cx}{c:vW}{f:FT}(h:XT X c f):XTs X [c] f:=let ⟨t,h1,h2⟩:=h;⟨t,qiq h1,h2⟩
section
variable{X:Cx}{N:List Str}{M:Nat}{frees:List Nat}{scope:u5}{tg iter elt:vW}{ifs:List vW}{pos:Pos}{fi:FI}{fg:FG}{fc:FT}{fe:FD}
def WV(ω:WSt):Prop:=∀(i:Nat)w,ω[i]?=some (some w)->∃d,w=.sh d
theorem WV.ow{ω:WSt}(h:OZ)(i:Nat)(ds:aZ):ω[i]?≠some cV:=λz=>by obtain⟨d,e⟩:=h i _ z;cases e
theorem WV.od{ω:WSt}(h:OZ)(i:Nat)(ks:af)(ds:aZ):ω[i]?≠some jp:=λz=>by obtain⟨d,e⟩:=h i _ z;cases e
theorem WV.pw{ω:WSt}(h:OZ)(i:Nat)(ds:aZ):ω[i]?≠some KR:=λz=>by obtain⟨d,e⟩:=h i _ z;cases e
theorem q9O{wi:TI}{g:TG}{tc:TT}{te:TE}(h2:SimI X.K wi fi)(h4:SimG X.K g fg)(h6:zBe X.K tc fc)(h8:zB1 X.K te fe)(hg:∀d ω ω',WV ω->fg d ω=some ω'->WV ω'):zC8 X.K Bv BG:=by
 intro G0 H0 G ω σ H r Q o e k;obtain⟨ds,q,e⟩:=bnd e
 by_cases hz:ds.length<=1000000
 ·rw[U4]at e
  obtain⟨rs,q2,e⟩:=mpd e;subst e;refine h2 G0 H0 G ω σ H ds _ o q λJ G1 H1 x1 it=>?_;intro A hA;have ow0:WV CK:=by
   intro i es z;unfold inW at z;rcases zw i M with y|y
   ·rw[zg ⇑y,y9,JI]at z;cases z
   ·rw[zb ⇑y,ya,zZ]at z
    cases e1:frees[i-M]? with
    | none=>rw[e1]at z;cases z
    | some j=>
     rw[e1]at z;have z':Wi ω[j]?=some es:=zy z;generalize ω[j]?=u at z';unfold Wi at z'
     split at z'
     ·cases z';exact bz
     ·cases z'
  have own0:∀G2 H2,Xh G1 G2->Xh G2 H2->Own X.K G2 (fr H2) G2 CK B3 H2:=λG2 H2 s1 s2=>by
   have o1:=o.keep x1;refine⟨Ext.refl s2,by unfold inW zB9;simp,λi d hi=>?_,λi ds' hi=>vP hi acD,λi j ds' es l hi=>vP hi acD,λi ks ds' hi=>vP hi (ow0.od i ks ds'),WK.no ow0.pw⟩;unfold inW at hi;unfold zB9;rcases zw i M with y|y
   ·rw[zg ⇑y,y9,JI]at hi;cases hi
   ·rw[zb ⇑y,ya,zZ]at hi ⊢
    cases e1:frees[i-M]? with
    | none=>rw[e1]at hi;cases hi
    | some j=>
     rw[e1]at hi;have hi':Wi ω[j]?=↥d:=zy hi;cases e2:ω[j]? with
     | none=>rw[e2]at hi';cases hi'
     | some w=>
      rw[e2]at hi';cases w with
      | none=>cases hi'
      | some w=>
       cases w with
       | ow _=>cases hi'
       | od _ _=>cases hi'
       | pw _=>cases hi'
       | sh d'=>
        cases hi';obtain⟨v,q3,q4⟩:=o1.sh j _ e2;exact⟨v,by rw[xD,q3];rfl,q4.mono s1⟩
  refine⟨λi m σ2 H2=>∃G2 ω2 accd accv,Own X.K G2 (fr H2) G2 ω2 σ2 H2/\WV ω2/\Ext G1 H1 G2 H2/\G2 A=none/\H2 A=some KD/\XR X.K G2 accd accv/\accd.length<=i/\i<=ds.length/\m=ds.length-i /\
   ∃rest,Xx fg fc fe (ds.drop i) ω2=some rest/\accd++rest=rs,⟨_,G1,CK,[],[],own0 _ _ gr (Xi x1.gh (x1.gh.free hA) _),ow0,Ext.hide x1.gh hA _,x1.gh.free hA,qe,XR.nil,bM,B5,rfl,rs,q2,rfl⟩,?_⟩
  rintro i m σ2 H2 ⟨G2,ω2,accd,accv,o2,no2,x2,gA,hA2,ra,la,li,rfl,rest,cd,er⟩
  by_cases hlt:i<ds.length
  ·refine .inr ⟨it.go H2 i Sw hlt,λx H3 hy=>?_⟩
   have hd:ds[i]?=some ds[i]:=zD hlt;obtain⟨G4,x4,rx⟩:=it.yld G2 H2 i x H3 ds[i] x2.gg x2.gh hd hy;have o2':=o2.keep x4;have o2:Own X.K G4 Vs G4 ω2 σ2 H3:=⟨Ext.refl x4.gh,o2'.len,o2'.sh,λi ds' hi=>vP hi acH,λi j ds' es l hi=>vP hi acH,λi ks ds' hi=>vP hi (no2.od i ks ds'),WK.no no2.pw⟩;have gA:G4 A=none:=x4.new A gA (by rw[hA2];exact λz=>by cases z);have hA2:H3 A=some KD:=x4.hh _ _ hA2;have x2:=x2.trans x4;have ra:=ra.mono x4.gg;rw[xF hlt]at cd;obtain⟨w,q1,cd⟩:=bnd cd;obtain⟨b,q3,cd⟩:=bnd cd;have now:=hg _ _ _ no2 q1;refine h4 G4 Vs G4 ω2 σ2 H3 ds[i] x w _ o2 q1 rx λσ4 o4=>?_;refine h6 G4 Vs G4 w σ4 H3 b _ o4 q3 λG5 H5 x5=>?_;have o5:=o4.keep x5;have gA5:G5 A=none:=x5.new A gA (by rw[hA2];exact λz=>by cases z);have hA5:H5 A=some KD:=x5.hh _ _ hA2;cases b with
   | false=>
    rw[vJ y0];rw[vJ y0]at cd;have o6:Own X.K G5 (fr H5) G5 w σ4 H5:=⟨Ext.refl x5.gh,o5.len,o5.sh,Tp,M8,Fu,WK.no now.pw⟩;exact⟨ds.length-(i+1),∅,G5,w,accd,accv,o6,now,x2.trans x5,gA5,hA5,ra.mono x5.gg,∅,hlt,rfl,rest,cd,er⟩
   | true=>
    rw[kT]at cd ⊢;obtain⟨d,q4,cd⟩:=bnd cd;obtain⟨rest',q5,cd⟩:=mpd cd;subst cd;refine h8 G4 Vs G5 w σ4 H5 d _ o5 q4 λv G6 H6 x6 y6=>?_;have gA6:G6 A=none:=x6.new A gA5 (by rw[hA5];exact λz=>by cases z);have hA6:H6 A=some KD:=x6.hh _ _ hA5;have x26:=(x2.trans x5).trans x6;have raa:=ra.mono (x5.gg.trans x6.gg);have hl:accv.length<sizeLine:=by rw[<- raa.len,vj];omega
    refine⟨accv,hA6,hl,ds.length-(i+1),∅,G6,w,accd++[d],accv++[v],?_,now,⟨x26.gg,Xi x26.gh gA6 _,Xi x26.hh hA _,x26.new⟩,gA6,qe,raa.app (XR.cons y6 XR.nil),by rw[zC,zY];omega,hlt,rfl,rest',q5,by rw[zO];exact er⟩;have o6:=o5.keep x6;exact⟨Ext.refl (Xi x6.gh gA6 _),o6.len,o6.sh,Tp,M8,Fu,WK.no now.pw⟩
  ·have ei:i=ds.length:=∅
   subst ei;rw[ZU]at cd;cases cd;rw[zk]at er;subst er;refine .inl ⟨it.stop H2 Sw,k _ G2 H2 ee ⟨A,accv,rfl,x1.hh.free hA,gA,hA2,ra⟩⟩
 ·rw[U3]at e;cases e
theorem qgN{ω:WSt}{i:Nat}{d:D}(h:OZ):WV jO:=by
 intro j ds z;rcases qg z with⟨_,_,y⟩|⟨_,y⟩
 ·cases y;exact Ti
 ·exact h j ds y
def Tame(fg:FG):Prop:=∀d ω ω',WV ω->fg d ω=some ω'->WV ω'
def zCT(gs:dC):Prop:=∀ds ω ω',WV ω->gs ds ω=some ω'->WV ω'
theorem qt(i:Nat):Tame Qu:=λd ω ω' h e=>by cases e;exact qgN h
theorem q3J:zCT X9:=λds ω ω' h e=>by
 cases ds with
 | nil=>cases e;exact h
 | cons _ _=>cases e
theorem qZ{fg:FG}{gs:dC}(h:Tame fg)(h':zCT gs):zCT (XU fg gs):=λds ω ω' n e=>by
 cases ds with
 | nil=>cases e
 | cons d r=>obtain⟨w,q,e⟩:=bnd e;exact h' _ _ _ (h _ _ _ n q) e
theorem q7u{n:Nat}{gs:dC}(h:zCT gs):Tame (gT n gs):=λd ω ω' no e=>by
 unfold gT at e;cases d with
 | tup ds=>
  dsimp only at e
  by_cases z:ds.length=n
  ·rw[gz]at e;exact h _ _ _ no e
  ·rw[gc]at e;cases e
 | _=>cases e
noncomputable def canD(K:zB)(f:FD):TE:=λσ H Q=>∃G0 H0 G ω d,Own K G0 H0 G ω σ H/\f ω=some d/\∀v G' H',Ext G H G' H'->Rep K G' d v->Q v H'
noncomputable def canT(K:zB)(f:FT):TT:=λσ H Q=>∃G0 H0 G ω b,Own K G0 H0 G ω σ H/\f ω=some b/\∀G' H',Ext G H G' H'->Q b H'
noncomputable def canG(K:zB)(f:FG):TG:=λv σ H Q=>∃G0 H0 G ω d ω',Own K G0 H0 G ω σ H/\f d ω=some ω'/\Rep K G d v/\∀σ',Own K G0 H0 G ω' σ' H->Q σ' H
theorem XD.can{X:Cx}{e:vW}{f:FD}(h:Oe):PE X e (canD X.K f):=λpins s σ H Q I ⟨G0,H0,G,ω,d,o,e,k⟩=>let ⟨_,h1,h2⟩:=h;h1 pins s σ H Q I JT
theorem XTs.can{X:Cx}{e:iF}{f:FT}(h:XTs X e f):PTs X e (canT X.K f):=λpins s σ H Q I ⟨G0,H0,G,ω,d,o,e,k⟩=>let ⟨_,h1,h2⟩:=h;h1 pins s σ H Q I JT
theorem XG.can{X:Cx}{e:vW}{f:FG}(h:XG X e f):PG X e (canG X.K f):=λpins s σ H v u Q I r ⟨G0,H0,G,ω,d,ω',o,e,y,k⟩=>let ⟨_,h1,h2⟩:=h;h1 pins s σ H v u Q I r (h2 G0 H0 G ω σ H d v ω' Q o e y k)
theorem q9Q{K:zB}{f:FD}:zB1 K (canD K f) f:=λG0 H0 G ω σ H d Q o e k=>Pa
theorem qa0{K:zB}{f:FT}:zBe K (canT K f) f:=λG0 H0 G ω σ H d Q o e k=>Pa
theorem qas{K:zB}{f:FG}:SimG K (canG K f) f:=λG0 H0 G ω σ H d v ω' Q o e y k=>⟨G0,H0,G,ω,d,ω',o,e,y,k⟩
theorem qz(hc:cI)(B:iT)(hi:MM)(ht:Tame fg)(hb:∀C s H fp,XG aN tg fg/\XTs aN ifs fc/\XD aN elt fe)(hs:∀x,uC iter X.env x=pure x:=by intro _;rfl):XE X bq BG:=by
 obtain⟨wi,h1,h2⟩:=hi;have b4:∀C s H fp,PG aN tg (canG X.K fg)/\PTs aN ifs (canT X.K fc)/\PE aN elt (canD X.K fe):=λC s H fp=>m7;exact⟨_,qj1 hc B h1 b4 hs,Qo⟩
theorem q29{i:Nat}{x:Str}{pos' spos:Pos}(hc:cI)(hN:X.N.Nodup)(hi':X.N[i]?=some x)(hx:Gf)(B:iT)(hi:MM)(ht:Tame fg)(hb:∀C s H fp,XG aN tg fg/\XTs aN ifs fc/\XD aN elt fe)(hsw:Ej:=by rfl)(hs:∀x,uC iter X.env x=pure x:=by intro _;rfl):XS X P4 (Xq i BG):=by
 obtain⟨wi,h1,h2⟩:=hi;have b4:∀C s H fp,PG aN tg (canG X.K fg)/\PTs aN ifs (canT X.K fc)/\PE aN elt (canD X.K fe):=λC s H fp=>m7;exact⟨_,qio hc hN hi' hx B h1 b4 hsw hs,qco Qo⟩
def zAS(X:Cx)(scope:u5):List Str->List Nat->Prop
 | [],[]=>True
 | x::xs,j::js=>(X.N[j]?=some x/\rq/\scope.names.lookup x=some .free)/\zAS X scope xs js
 | _,_=>False
theorem q7k{X:Cx}{scope:u5}:∀{xs:dJ}{js:bW},zAS X scope xs js->∀(k:Nat)(x:Str),xs[k]?=some x->∃j,js[k]?=some j/\X.N[j]?=some x/\rq/\scope.names.lookup x=some .free
 | [],_,_,_,_,e=>by simp at e
 | _::_,[],h,_,_,_=>h.elim
 | y::ys,i::is,⟨h1,h2⟩,0,x,e=>by
  have:y=x:=by simpa using e
  subst this;exact⟨i,rfl,h1⟩
 | y::ys,i::is,⟨h1,h2⟩,k+1,x,e=>by
  obtain⟨j,q⟩:=q7k h2 k x ⇑e;exact⟨j,by simpa using q.1,q.2⟩
theorem q6a{X:Cx}{scope:u5}:∀{xs:dJ}{js:bW},zAS X scope xs js->xs.length=js.length
 | [],[],_=>rfl
 | [],_::_,h=>h.elim
 | _::_,[],h=>h.elim
 | _::ys,_::is,⟨_,h2⟩=>by rw[zI,zI,q6a h2]
theorem blk{X:Cx}{scope:u5}(own free:dJ)(frees:bW)(h1:scope.kind=.function)(h2:∀y∈scope.names,y.2≠.cell)(h3:∀y∈scope.names,y.2=.local->scope.names.lookup y.1=some .local)(h4:(scope.names.all λp=>p.2 != .free || (X.env.cells.lookup p.1).isSome)=true)(h5:zAS X scope free frees):BlkOk X (own++free) own.length frees scope:=by
 refine⟨h1,h2,h3,λp hp hf=>?_,λk x e=>?_,by rw[zC,q6a h5]⟩
 ·have:=yo.mp h4 p hp
  rw[hf]at this;simpa using this
 ·rw[zb (Nat.le_add_right _ _),ZT]at e
  exact q7k h5 k x e
end
noncomputable def entry(n:Nat)(ds:aZ):WSt:=ds.map (λd=>↥d)++zt (n-ds.length) none
noncomputable def mir(n:Nat)(body:FS)(ds:aZ):Option O:=match body PB with
 | some (.rt r,_)=>some r
 | some (.nx,_)=>some DD
 | _=>none
theorem qdA{K:zB}{H:Hp}{N:dJ}{ds:aZ}{vs:bt}(h:AL)(i:Nat)(d:D)(e:(entry N.length ds)[i]?=some ↥d):∃v,(L2.start N vs)[i]?=some nh/\Rep K H d v:=by
 unfold entry at e;unfold L2.start;have hl:=h.len;rcases zw i ds.length with y|y
 ·rw[zg ⇑y,zZ]at e
  have e1:ds[i]?=some d:=by
   cases q:ds[i]? with
   | none=>rw[q]at e;cases e
   | some d'=>rw[q]at e;cases e;rfl
  obtain⟨v,q1,q2⟩:=h.get e1;refine⟨v,?_,q2⟩;rw[zg ⇑((∅:i<vs.length)),zZ,q1];rfl
 ·rw[zb ⇑y,y9]at e
  split at e <;> cases e
theorem q2X{n:Nat}{ds:aZ}:WV PB:=by
 intro i es z;unfold entry at z;rcases zw i ds.length with y|y
 ·rw[zg ⇑y,zZ]at z
  cases q:ds[i]? with
  | none=>rw[q]at z;cases z
  | some d=>rw[q]at z;cases z;exact Ti
 ·rw[zb ⇑y,y9]at z
  split at z <;> cases z
theorem fnD{P:vU}{w:vZ}{K:zB}{mg:bG}{base:vm}{x qual:Str}{st:vp}{f:vG}{fd:vQ}{N ps:dJ}{k:Nat}{body:FS}(F:Gr)(S:FnScope N ps Gc)(hb:∀(cdv:vB)(A:vf)(outer:rW)(s:vC)(H:Hp)(E:XK),Room k (A.deeper (PyProof.Rows.envOfC qual Gc s.heap.objs.size f cdv))->XSs (zB8 CX0 P w K mg base N qual Gc f cdv A outer s H E).nox VN body):
  FnOk P w K mg base CX0 (k+1) f fd ps (spD K ps.length (mir N.length body)):=by
 refine F.ok S GY mX
 ·obtain⟨G,ds,r,_,h2,_,h4,_⟩:=h
  rw[<- h4.len];exact h2
 ·obtain⟨G,ds,r,h1,h2,h3,h4,h5⟩:=h
  obtain⟨t,p1,p2⟩:=hb cdv A outer s H E hr;refine⟨t,p1,?_⟩;unfold mir at h1;have hl:=h4.len;have hpl:ps.length<=N.length:=by have:=v4 xf S.pre;rw[ze]at this;omega
  have o0:Own K G AY G SH Lf H:=by
   refine⟨Ext.refl h3,?_,λi d e=>qdA h4 i d e,λi es e=>vP e (q2X.ow i es),λi j es fs l e=>vP e (q2X.ow i es),λi ks es e=>vP e (q2X.od i ks es),WK.no q2X.pw⟩;unfold entry L2.start;simp only[zC,zA,ya];omega
  cases q:body SH with
  | none=>rw[q]at h1;cases h1
  | some p=>
   obtain⟨out,ω'⟩:=p;rw[q]at h1;refine p2 G AY G _ _ H out ω' _ o0 q λG' σ' H' o' s'=>?_;cases out with
   | nx=>cases h1;exact h5 _ G' H' o'.ext rfl
   | bk=>cases h1
   | ct=>cases h1
   | rt r'=>cases h1;exact λv y=>h5 v G' H' o'.ext y
theorem qT:vn "len" = some aba:=⋯
theorem q1p:vn "all" = some abb:=⋯
theorem qep:vn "sum" = some aa9:=⋯
theorem qjY:vn "min" = some J5:=⋯
theorem qjG:vn "max" = some J6:=⋯
theorem qay:vn "abs" = some abc:=⋯
theorem q2F:vn "sorted" = some fA:=⋯
theorem qky:vn "int" = some (.type "int"):=⋯
theorem qhX:vn "bool" = some (.type "bool"):=⋯
theorem q0a:vn "list" = some E2:=⋯
theorem q3g:vn "tuple" = some (.type "tuple"):=⋯
theorem qjF:vn "set" = some mt:=⋯
theorem qjE:vn "zip" = some Oo:=⋯
noncomputable def zCI(o:QG)(g:FS):Option eI:=o.bind λp=>match p.1 with
 | .nx=>g p.2
 | o=>some (o,p.2)
noncomputable def setS(i:Nat)(ω:WSt)(o:Ky):Option eI:=o.bind λr=>(setR i r ω).map λw=>VU
noncomputable def ifS(c:LK)(f g:FS)(ω:WSt):Option eI:=c.bind λb=>if b=true then f ω else g ω
noncomputable def retS(ω:WSt)(o:Ky):Option eI:=o.bind λr=>match r with
 | .sh d=>some mN
 | .fr ds=>some lQ
 | .vw _=>none
noncomputable def retV(ω:WSt)(o:og):Option eI:=match o with
 | some ↥d=>some mN
 | some (some (.ow ds))=>some lQ
 | _=>none
noncomputable def appS(i:Nat)(ω:WSt)(o:eQ)(l:og):Option eI:=o.bind λd=>match l with
 | some (some (.ow ds))=>if ds.length<1000000 then some mv else none
 | _=>none
noncomputable def extS(i:Nat)(ω:WSt)(o:eQ)(l:og):Option eI:=o.bind λd=>(itemsOf d).bind λes=>match l with
 | some (some (.ow ds))=>if ds.length+es.length<=1000000 then some Gw else none
 | _=>none
noncomputable def shrS(i:Nat)(ω:WSt)(o:og):WSt:=match o with
 | some (some (.ow ds))=>ω.set i ↥eY
 | some (some (.od ks ds))=>ω.set i ↥CY
 | _=>ω
noncomputable def forS(o:A9)(g:FG)(b:FS)(ω:WSt):Option eI:=o.bind λds=>zAf g b ds ω
noncomputable def zCr(o:og):Option R:=match o with
 | some ↥d=>↥d
 | some (some (.ow ds))=>some Js
 | some (some (.pw ds))=>some Js
 | _=>none
noncomputable def eD(o:eQ):Option R:=o.map R.sh
noncomputable def dR(o:Ky):Option D:=match o with
 | ↥d=>some d
 | some (.fr ds)=>some eY
 | _=>none
noncomputable def vR(o:Ky):Option D:=o.map R.d
noncomputable def op2(op:kL)(x y:eQ):Option R:=x.bind λx=>y.bind λy=>op x y
noncomputable def callR(m:cc)(o:A9):Option R:=o.bind λds=>(m ds).map O.r
noncomputable def consA(o:eQ)(r:A9):Option aZ:=o.bind λd=>r.map λds=>d::ds
noncomputable def bltR(op:Ld)(o:A9):Option R:=o.bind op
noncomputable def slR(o:eQ)(l h:Option dX):Option R:=o.bind λd=>l.bind λlo=>h.bind λhi=>oSl d lo hi
noncomputable def atP(o:eQ):Option dX:=o.bind λd=>match d with|.int i=>some TJ|_=>none
noncomputable def iteR(c:LK)(f g:FE)(ω:WSt):Option R:=c.bind λk=>if k=true then f ω else g ω
noncomputable def isiR(c:Ty)(o:eQ):Option R:=o.bind λd=>match d with
 | .scr _=>none
 | .exc _=>none
 | .dic _ _=>none
 | d=>↥DY
noncomputable def tR(o:Ky):Option Bool:=match o with
 | ↥(.bl k)=>some k
 | _=>none
noncomputable def orT(o:LK)(g:FT)(ω:WSt):Option Bool:=o.bind λc=>if c=true then some true else g ω
noncomputable def notT(o:LK):Option Bool:=o.map (!·)
noncomputable def truT(o:eQ):Option Bool:=o.bind truD
noncomputable def andV(o:eQ)(g:FD)(ω:WSt):Option D:=o.bind λd=>(blOf d).bind λc=>if c=true then g ω else some iP
noncomputable def orV(o:eQ)(g:FD)(ω:WSt):Option D:=o.bind λd=>(blOf d).bind λc=>if c=true then some bn else g ω
noncomputable def seqI(o:eQ):Option aZ:=o.bind itemsOf
noncomputable def rg1I(o:A9):Option aZ:=o.bind λds=>match ds with
 | [.int j]=>if -(2^62)<=j/\j<2^62 then some aav else none
 | _=>none
noncomputable def compR(M:Nat)(fr:bW)(o:A9)(g:FG)(c:FT)(f:FD)(ω:WSt):Option R:=o.bind λds=>if ds.length<=1000000 then (Xx g c f ds (inW M fr ω)).map R.fr else none
noncomputable def outM(o:QG):Option O:=match o with
 | some (.rt r,_)=>some r
 | some (.nx,_)=>some DD
 | _=>none
section
variable{f g:FS}{ω w:WSt}{i:Nat}{fe fe':FE}{fd fd':FD}{ft ft':FT}{r:O}{d d':D}{ds ds':List D}{a b:Int}{p q:Bool}{fa:FA}{fg:FG}{fi:FI}{n:Nat}
theorem qhC:mir n f ds=outM (f PB):=rfl
theorem q7Z:outM aaz=some r:=rfl
theorem qch:outM (some VU)=some DD:=rfl
theorem qY:Xc f g ω=zCI (f ω) g:=rfl
theorem q7K:zCI (some VU) g=g w:=rfl
theorem qbT:zCI aaz g=some (.rt r,w):=rfl
theorem qhn:WY ω=some Cw:=rfl
theorem qhh:Xq i fe ω=setS i ω Mt:=rfl
theorem qca:setS i ω ↥d=some (.nx,jO):=rfl
theorem qcc:setS i ω OM=some (.nx,Pb):=rfl
theorem e_if:sIf ft f g ω=ifS Vr f g ω:=rfl
theorem qfB:ifS EA f g ω=f ω:=rfl
theorem qfh:ifS (some false) f g ω=g ω:=rfl
theorem qhI:Xp fe ω=retS ω Mt:=rfl
theorem qbR:retS ω ↥d=some mN:=rfl
theorem qcB:retS ω OM=some lQ:=rfl
theorem q9r:zAH i ω=retV ω ω[i]?:=rfl
theorem q83:retV ω Cq=some lQ:=rfl
theorem qhd:zB7 i fd ω=appS i ω nD ω[i]?:=rfl
theorem zBs(h:ds.length<1000000):appS i ω Cp Cq=some mv:=vH h
theorem qhM:zCp i fd ω=extS i ω nD ω[i]?:=rfl
theorem q9Y(h:LD):extS i ω (some (.tup ds')) Cq=some Fm:=vH h
theorem q4r(h:LD):extS i ω (some (.lst ds')) Cq=some Fm:=vH h
theorem qcO:WL i f ω=f (shrS i ω ω[i]?):=rfl
theorem qbz:shrS i ω Cq=ω.set i ↥eY:=rfl
theorem qhl:zAC fi fg f ω=forS (fi ω) fg f ω:=rfl
theorem e_fs:forS JL fg f ω=zAf fg f ds ω:=rfl
theorem qhN:Y6 i ω=zCr ω[i]?:=rfl
theorem qcq:zCr (some ↥d)=↥d:=rfl
theorem qbN:zCr Cq=some Js:=rfl
theorem e_c:fC d ω=some d:=rfl
theorem e_e:eOf fd ω=eD nD:=rfl
theorem e_ed:eD Cp=↥d:=rfl
theorem e_d:dOf fe ω=dR Mt:=rfl
theorem qbt:dR ↥d=some d:=rfl
theorem qbu:dR OM=some eY:=rfl
theorem e_v:vOf fe ω=vR Mt:=rfl
theorem qcn:vR ↥d=some d:=rfl
theorem qcH:vR OM=some eY:=rfl
theorem qbM:vR (some Js)=some eY:=rfl
theorem e_op{op}:XH op fd fd' ω=op2 op nD (fd' ω):=rfl
theorem e_o2{op}:op2 op Cp (some d')=op d d':=rfl
theorem qft{m}:XJ m fa ω=callR m Mu:=rfl
theorem e_cl{m}:callR m JL=(m ds).map O.r:=rfl
theorem qbV:(O.sh d).r=.sh d:=rfl
theorem qcQ:(O.fr ds).r=.fr ds:=rfl
theorem e_ac:Y5 fd fa ω=consA nD Mu:=rfl
theorem e_ca:consA Cp JL=some (d::ds):=rfl
theorem e_an:XL ω=some []:=rfl
theorem qhz:zAA fa ω=(fa ω).map R.fr:=rfl
theorem qhw:zAb fa ω=(fa ω).map D.tup:=rfl
theorem qhk{op}:X4 op fa ω=bltR op Mu:=rfl
theorem e_bl{op}:bltR op JL=op ds:=rfl
theorem qhi{l h:FO}:fSl fd l h ω=slR nD (l ω) (h ω):=rfl
theorem e_sl{lo hi:dX}:slR Cp (some lo) (some hi)=oSl d lo hi:=rfl
theorem e_po:pNo ω=some none:=rfl
theorem e_pa:pAt fd ω=atP nD:=rfl
theorem e_ap:atP (some bJ)=some (some a):=rfl
theorem qh7:fIte ft fe fe' ω=iteR Vr fe fe' ω:=rfl
theorem qdR:iteR EA fe fe' ω=fe ω:=rfl
theorem qei:iteR (some false) fe fe' ω=fe' ω:=rfl
theorem qhu{c}:zA7 c fd ω=isiR c nD:=rfl
theorem q8t{c}:isiR c OJ=↥(.bl (zCM .lst c)):=rfl
theorem q8I{c}:isiR c (some HF)=↥(.bl (zCM .tup c)):=rfl
theorem e_t:tOf fe ω=tR Mt:=rfl
theorem e_tr:tR ↥(.bl p)=some p:=rfl
theorem qha:(if p=true then some q else some false)=some (p&&q):=by cases p <;> rfl
theorem qhj:zBO ft ft' ω=orT Vr ft' ω:=rfl
theorem e_to:orT (some p) ft ω=if p=true then some true else ft ω:=rfl
theorem qhf:(if p=true then some true else some q)=some (p || q):=by cases p <;> rfl
theorem qe9:X5 ft ω=notT Vr:=rfl
theorem e_tn:notT (some p)=some (!p):=rfl
theorem qeu:Wo fd ω=truT nD:=rfl
theorem qcx:truT Mb=some p:=rfl
theorem qa8:truT OJ=some (!ds.isEmpty):=rfl
theorem qfc:zAd fd fd' ω=andV nD fd' ω:=rfl
theorem e_va:andV Mb fd ω=if p=true then fd ω else some iP:=rfl
theorem qhe:(if p=true then some (D.bl q)else some (D.bl false))=some (.bl (p&&q)):=by cases p <;> rfl
theorem qhO:vOr fd fd' ω=orV nD fd' ω:=rfl
theorem e_vo:orV Mb fd ω=if p=true then some bn else fd ω:=rfl
theorem qf9:WA fd ω=seqI nD:=rfl
theorem qfb:seqI OJ=some ds:=rfl
theorem qfC:seqI (some HF)=some ds:=rfl
theorem qhE:iRg1 fa ω=rg1I Mu:=rfl
theorem qe3{M fr}:Xo M fr fi fg ft fd ω=compR M fr (fi ω) fg ft fd ω:=rfl
theorem We{M fr}(h:aaJ):compR M fr JL fg ft fd ω=(Xx fg ft fd ds (inW M fr ω)).map R.fr:=vH h
theorem qhs:fNeg fd ω=(fd ω).bind oNeg:=rfl
theorem e_ng:oNeg bJ=↥(.int (-a)):=rfl
theorem qcf:zAF [eY]=↥Cm:=rfl
theorem qcM:zAF [HF]=↥Cm:=rfl
theorem qbH{ns}:zAF [jn]=↥aa6:=rfl
theorem qah:zAj [eY]=some Cz:=rfl
theorem qeA:oEq false bJ dI=↥(.bl HZ):=rfl
theorem qdT:oEq true bJ dI=↥(.bl (! HZ)):=rfl
theorem qbS:zBC bJ dI=↥(.int (a-b)):=rfl
theorem qex:oLt bJ dI=↥(.bl (decide (a<b))):=rfl
theorem qdI:oLe bJ dI=↥(.bl (decide (a<=b))):=rfl
theorem qdX:oGt bJ dI=↥(.bl (decide (b<a))):=rfl
theorem qeS:oGe bJ dI=↥(.bl (decide (b<=a))):=rfl
theorem qbY:WC bJ dI=↥(.int (a+b)):=rfl
theorem qbC:oIs true (.bl p) (.bl q)=↥(.bl (!(p==q))):=rfl
theorem qhx:oIx eY bJ=(atI ds a).map R.sh:=rfl
theorem qhy:oIx HF bJ=(atI ds a).map R.sh:=rfl
theorem qhb{ns:af}:oIx jn bJ=(atI ns a).map λn=>.sh GT:=rfl
theorem q1n{α:Type}{xs:bE}{i:Int}(h0:0<=i)(h1:i<xs.length):atI xs i=some (xs[i.toNat]'∅):=by
 unfold atI ixN;rw[vH h0,OI];show xs[i.toNat]?=_;rw[zD ∅]
theorem at0{α:Type}{x:α}{xs:bE}:atI NI 0=some x:=by
 rw[q1n (by decide) (by rw[zI];omega)];rfl
theorem at1{α:Type}{x y:α}{xs:bE}:atI (x::y::xs) 1=some y:=by
 rw[q1n (by decide) (by rw[zI,zI];omega)];rfl
theorem at2{α:Type}{x y z:α}{xs:bE}:atI (x::y::z::xs) 2=some z:=by
 rw[q1n (by decide) (by rw[zI,zI,zI];omega)];rfl
theorem qiD{i j:Int}(h0:0<j)(h1:j<1073741824):cDiv i j=true:=by unfold cDiv;rw[vT h0,vT h1];rfl
theorem qhU{i j:Int}(h0:0<j):cMod i j=true:=by unfold cMod;rw[vT h0]
theorem qgl{i j:Int}(h0:-(2^64)<j)(h1:j<2^64):zCo i j=true:=by unfold zCo;rw[vT h0,vT h1];simp
theorem qg5{i j:Int}(h0:-(2^64)<i)(h1:i<2^64):zCo i j=true:=by unfold zCo;rw[vT h0,vT h1];simp
theorem q5N(h:0<b):oMod bJ dI=↥(.int (a%b)):=vH (qhU h)
theorem qc1(h:0<b)(h':b<1073741824):oDiv bJ dI=↥(.int (a/b)):=vH (qiD h h')
theorem q6v(h:-(2^64)<b)(h':b<2^64):zAy bJ dI=↥(.int (a*b)):=vH (qgl h h')
theorem q6S(h:-(2^64)<a)(h':a<2^64):zAy bJ dI=↥(.int (a*b)):=vH (qg5 h h')
end
def zBN(o:QG)(P:n9):Prop:=match o with
 | some (.nx,ω)=>P ω
 | some (.ct,ω)=>P ω
 | _=>False
theorem q7A{ω:WSt}{P:n9}:zBN (some Cw) P=P ω:=rfl
theorem qK{α:Type}{g:FG}{b:FS}(F:α->D)(xs:bE)(I:List α->WSt->Prop)(turn:∀pre x post ω,xs=pre++x::post->I pre ω->∃w,g (F x) ω=some w/\zBN (b w) (I (pre++[x]))){ω:WSt}(h0:I [] ω):∃ω',zAf g b Tu ω=some Gx/\I xs ω':=by
 have key:∀(post pre:bE)(ω:WSt),xs=pre++post->I pre ω->∃ω',zAf g b (post.map F) ω=some Gx/\I xs ω':=by
  intro post
  induction post with
  | nil=>intro pre ω e h;exact⟨ω,rfl,by rw[e,zk];exact h⟩
  | cons d post ih=>
   intro pre ω e h;obtain⟨w,h1,h2⟩:=turn pre d post ω e h;rw[zU,zAf,h1,yT]
   match hb:b w,h2 with
   | some (.nx,ω2),h2=>exact ih (pre++[d]) ω2 (by rw[e,zO];rfl) h2
   | some (.ct,ω2),h2=>exact ih (pre++[d]) ω2 (by rw[e,zO];rfl) h2
 exact key xs [] ω rfl h0
theorem qeg{g:FG}{b:FS}(lo:Int)(n:Nat)(I:Nat->WSt->Prop)(turn:∀i ω,i<n->I i ω->∃w,g (.int Cc) ω=some w/\zBN (b w) (I (i+1))){ω:WSt}(h0:I 0 ω):∃ω',zAf g b (Hk.upTo lo n) ω=some Gx/\I n ω':=by
 unfold Hk.upTo;obtain⟨ω',e,h⟩:=qK (g:=g) (b:=b) (λ(i:Nat)=>D.int (lo+rh)) (zo n) (λpre ω=>I pre.length ω) (λpre x post ω e h=>by
  have hx:x=pre.length:=by
   have:=v4 (λl=>l[pre.length]?) e;rw[zb bM,wR]at this;rcases zw pre.length n with z|z
   ·rw[xW z]at this;simpa using this.symm
   ·rw[zn (by rw[zx];exact z)]at this;cases this
  have hlt:pre.length<n:=by
   have:=v4 xf e;rw[zx,zC,zI]at this;omega
  subst hx;obtain⟨w,h1,h2⟩:=turn pre.length ω hlt h;refine⟨w,h1,?_⟩;rw[zC];exact h2) h0
 rw[zx]at h;exact⟨ω',e,h⟩
theorem q3K{g:FG}{c:FT}{f:FD}(P:n9)(q:D->Bool)(F:D->D):∀(ds:aZ){ω:WSt},P ω ->
  (∀d∈ds,∀ω,P ω->∃w,g d ω=some w/\P w/\c w=some (q d)/\(q d=true->f w=some (F d)))->Xx g c f ds ω=some QT
 | [],_,_,_=>rfl
 | d::ds,ω,h,t=>by
  obtain⟨w,h1,h2,h3,h4⟩:=t d zE ω h;have ih:=q3K P q F ds h2 OE;rw[Xx,h1,yT,h3,yT];cases hq:q d with
  | true=>rw[kT,h4 hq,yT,ih,yU hq];rfl
  | false=>rw[vJ (by decide),ih,yV (by rw[hq];decide)]
theorem q3P{i:Nat}{f:FD}(F:D->D)(ds:aZ){ω:WSt}(h:∀d∈ds,f jO=some (F d)):Xx Qu Xl f ds ω=some (ds.map F):=by
 have:=q3K (g:=gN i) (c:=Xl) (f:=f) (λw=>∀x,w.set i x=ω.set i x) Bu F ds (ω:=ω) Tm λd hd w hw=>
  ⟨w.set i ↥d,rfl,λx=>by rw[YM,hw],rfl,λ_=>by rw[hw];exact h d hd⟩
 rw[this,P9]
theorem q8E{i:Nat}{c:FT}{f:FD}(q:D->Bool)(F:D->D)(ds:aZ){ω:WSt}(h:∀d∈ds,c jO=some (q d)/\(q d=true->f jO=some (F d))):Xx Qu c f ds ω=some QT :=
 q3K (g:=gN i) (c:=c) (f:=f) (λw=>∀x,w.set i x=ω.set i x) q F ds (ω:=ω) Tm λd hd w hw=>
  ⟨w.set i ↥d,rfl,λx=>by rw[YM,hw],by rw[hw];exact(h d hd).1,λz=>by rw[hw];exact(h d hd).2 z⟩
theorem qdc{ds:aZ}{lo hi:dX}:oSl eY lo hi=some (.fr Dq):=rfl
theorem qkM{ns:af}{lo hi:dX}:oSl jn lo hi=some Il:=rfl
theorem q1M{xs ys:aZ}(h:xs.length+ys.length<=1000000):WC dQ nU=some (.fr LZ):=vH h
theorem qaH{ns:af}{i:Nat}(h:i<ns.length):atI cY rh=some (.int ns[i]):=by
 rw[q1n ∅ (by rw[zA];omega)];simp
theorem q9H{d:D}(h:abp):eqD d d=true:=SeqAt.eqv_refl d.py (SeqAt.canLay_of_shaped h)
theorem q3F{d:D}(h:abp):oEq false d d=↥bn:=by
 unfold oEq;rw[h];show some (R.sh (D.bl (eqD d d)))=_;rw[q9H h]
theorem q9h{d:D}(h:abp):oEq true d d=↥iP:=by
 unfold oEq;rw[h];show some (R.sh (D.bl (!eqD d d)))=_;rw[q9H h];rfl
theorem qcs{ds:aZ}(n:Nat)(hn:n<64)(h:∀d∈ds,d.py.canLay0=true/\d.py.depth<=n):shp eY=true:=by
 unfold shp SeqAt.shaped;have:∀ds:List D,(∀d∈ds,d.py.canLay0=true/\d.py.depth<=n)->PyData.canLayAll0 nJ=true/\PyData.depthAll nJ<=n:=by
  intro ds
  induction ds with
  | nil=>intro _;exact⟨rfl,B5⟩
  | cons d ds ih=>
   intro h;obtain⟨a,b⟩:=ih λe he=>h e aal;obtain⟨a',b'⟩:=h d zE;refine Tk
   ·rw[D.pys,PyData.canLayAll0,a,a'];rfl
   ·rw[D.pys,PyData.depthAll];exact Nat.max_le.mpr ⟨b',b⟩
 obtain⟨a,b⟩:=this ds h;show (PyData.canLayAll0 nJ&&decide (PyData.depthAll nJ+1<=64))=true;rw[a,vT ∅];rfl
noncomputable def zBS(x:Int):List Int->List Int
 | []=>[x]
 | y::r=>if x<y then x::y::r else if x=y then y::r else y::zBS x r
noncomputable def Xe(ns:af):List Int:=ns.foldr zBS []
theorem q6n{x y:Int}:∀{l:af},y∈zBS x l↔y=x\/y∈l
 | []=>by simp[zBS]
 | z::r=>by
  unfold zBS
  split
  ·simp
  ·split
   ·rename_i h;subst h;simp
   ·simp only[zF,q6n (l:=r)]
    constructor
    ·rintro(h|h|h) <;> simp[h]
    ·rintro(h|h|h) <;> simp[h]
theorem q8q{x:Int}:∀{l:af},l.Pairwise (· < ·)->(zBS x l).Pairwise (· < ·)
 | [],_=>by simp[zBS]
 | z::r,h=>by
  obtain⟨h1,h2⟩:=zQ.mp h;unfold zBS
  split
  ·rename_i hx
   refine zQ.mpr ⟨AH,h⟩;rcases zF.mp hy with rfl|hy
   ·exact hx
   ·exact Int.lt_trans hx (h1 y hy)
  ·split
   ·exact h
   ·refine zQ.mpr ⟨AH,q8q h2⟩
    rcases q6n.mp hy with rfl|hy
    ·omega
    ·exact h1 y hy
theorem q0T{y:Int}:∀{ns:af},y∈Xe ns↔y∈ns
 | []=>by simp[Xe]
 | x::r=>by
  show y∈zBS x (Xe r)↔_;rw[q6n,q0T (ns:=r),zF]
theorem qS:∀{ns:af},(Xe ns).Pairwise (· < ·)
 | []=>xQ
 | x::r=>q8q (qS (ns:=r))
theorem qaK{x:Int}:∀(l:af),(zBS x l).length<=l.length+1
 | []=>by simp[zBS]
 | z::r=>by
  have:=qaK (x:=x) r;unfold zBS
  split
  ·simp
  ·split
   ·simp
   ·rw[zI,zI];omega
theorem q0D:∀(l:af),(Xe l).length<=l.length
 | []=>zN _
 | x::r=>by
  have h1:=qaK (x:=x) (Xe r);have h2:=q0D r;show (zBS x (Xe r)).length<=_;rw[zI];omega
theorem qce:∀{l m:af},l.Pairwise (· < ·)->m.Pairwise (· < ·)->(∀x,x∈l↔x∈m)->l=m
 | [],[],_,_,_=>rfl
 | [],y::r,_,_,h=>vP adc (by simp)
 | x::r,[],_,_,h=>vP ((h x).mp zE) (by simp)
 | x::r,y::q,hl,hm,h=>by
  obtain⟨a1,a2⟩:=zQ.mp hl;obtain⟨b1,b2⟩:=zQ.mp hm;have e:x=y:=by
   rcases zF.mp ((h x).mp zE)with e|e
   ·exact e
   ·rcases zF.mp adc with f|f
    ·exact f.symm
    ·have:=b1 x e;have:=a1 y f;omega
  subst e;rw[qce a2 b2 λz=>?_]
  constructor
  ·intro hz
   rcases zF.mp ((h z).mp (zH _ hz))with f|f
   ·have:=a1 z hz;omega
   ·exact f
  ·intro hz
   rcases zF.mp ((h z).mpr (zH _ hz))with f|f
   ·have:=b1 z hz;omega
   ·exact f
theorem qb4{l:af}(h:l.Pairwise (· <= ·))(n:l.Nodup):l.Pairwise (· < ·):=by
 induction l with
 | nil=>exact xQ
 | cons x r ih=>
  obtain⟨h1,h2⟩:=zQ.mp h;obtain⟨n1,n2⟩:=yj.mp n;refine zQ.mpr ⟨AH,ih h2 n2⟩;have:=h1 y hy;have:x≠y:=λe=>n1 (e▸hy);omega
def setP(w:vZ)(S:vG)(ns:af):vm->Prop:=λh=>zCO h S QE ig ns.length
def rSet(w:vZ):List V->Hp->VK->Prop:=λxs H Q=>∃p ns,xs=N7/\H p=some Gy/\ns.length+1<4096/\∀S,H S=none->Q gu (upd H S R8)
def fewS(ns:af):Prop:=(Xe ns).length<64/\ns.length<4000
noncomputable instance (ns:List Int):Decidable (fewS ns):=inferInstanceAs (Decidable (_/\_))
theorem qaA{ns:af}(h:Rs):fewS ns:=⟨YC (q0D ns) h,∅⟩
def rSortS(w:vZ):List V->Hp->VK->Prop:=λxs H Q=>∃S ns,xs=[gu]/\H S=some R8/\fewS ns/\∀l,H l=none->Q cF (upd H l (.lst GC))
section
variable{X:Cx}
theorem qdH{pins:aA}{σ:St}{H:Hp}{s:vC}(I:UB)(d:sr):L2.Inv X pins σ H { s with drawn:=d } :=
 ⟨I.ok,I.os,I.bare,I.base,I.loc,I.cell,I.free,I.freeC,I.pin,I.hok,I.len⟩
theorem qgp(hc:cI):WN X mt (rSet X.w):=by
 intro pins s σ H xs us Q I r h;obtain⟨p,ns,rfl,hp,hz,q⟩:=h;obtain⟨u,rfl,rx⟩:=vals1 r;cases rx;obtain⟨its,n,rv,e,_⟩:=I.lst hp;have ia:=q1c rv;have hlen:its.length=ns.length:=by rw[<- rv.length,zA]
 refine qb6 (items:=its.toArray) (ns:=ns) fM mW ⇑ia (by rw[zP,hlen];exact hz) λh' tk sv kp=>?_;have hsz:its.toArray.size=ns.length:=by rw[zP,hlen]
 rw[hsz]at sv;refine⟨aC,_,I.laid (t':=tk) (λb o e=>kp b o B2 e) bM (show Xk X.prog X.w _ h' _ (.ext (setP X.w s.heap.objs.size ns))from ⟨sv,?_,λh1 h2 a1 a2=>a1.at a2⟩),rfl,q _ mL⟩;obtain⟨_,⟨o,_,_,_,e,_⟩,_⟩:=sv;exact AT
theorem qd4(hc:cI):WN X fA (rSortS X.w):=by
 intro pins s σ H xs us Q I r h;obtain⟨S,ns,rfl,hp,hz,q⟩:=h;obtain⟨u,rfl,rx⟩:=vals1 r;cases rx;obtain⟨⟨zs,SI,hl,hm⟩,_⟩:=I.hok S _ hp;obtain⟨o,es,ep,t,go,gx,gd,T,gl,gb,gg,gv,gn⟩:=id SI;have mz:∀x,x∈zs↔x∈Xe ns:=λx=>by
  rw[hm,q0T]
  constructor
  ·rintro⟨i,hi,rfl⟩
   dsimp only
   rw[zV,zD hi];exact yk hi
  ·intro hx
   obtain⟨i,hi,e⟩:=zh.mp hx;exact⟨i,hi,by dsimp only;rw[zV,zD hi];exact e⟩
 have zl:=((wz gn ((qS (ns:=ns)).imp λh=>∅)).mpr mz).length_eq;refine qde fM SI (by rw[zl];exact hz.1) λD h' tk d vs ys n kp hD hg ia pm pw=>?_;have ey:ys=Xe ns:=qce (qb4 pw (pm.nodup_iff.mpr gn)) qS λx=>by rw[pm.mem_iff,mz]
 subst ey;have hvl:vs.length=(Xe ns).length:=PyProof.Rows.IntsAre.length ia;have hsl:(Xe ns).length<=sizeLine:=by
  have:=pm.length_eq;exact yP (show (Xe ns).length<=64 from yi hz.1) (by decide)
 have I2:=qdH (I.laid (a:=D) (o:=.lst GC) (t':=tk) kp hD (show Xk X.prog X.w _ h' _ R5 from ⟨by rw[zA];exact hsl,vs,n,q1H ia,hg⟩)) d;exact⟨Ii,_,I2,rfl,q _ (I.hok.fresh hD)⟩
noncomputable def intsOf:List D->Option af
 | []=>some []
 | .int i::r=>(intsOf r).map λl=>i::l
 | _=>none
theorem q0C:∀{ds:aZ}{ns:af},intsOf ds=some ns->ds=ns.map D.int
 | [],_,e=>by cases e;rfl
 | .int c::r,b,e=>by
  obtain⟨k,q,e⟩:=mpd e;subst e;rw[q0C q];rfl
 | .non::_,_,e=>by cases e
 | .bl _::_,_,e=>by cases e
 | .str _::_,_,e=>by cases e
 | .lst _::_,_,e=>by cases e
 | .tup _::_,_,e=>by cases e
 | .scr _::_,_,e=>by cases e
 | .exc _::_,_,e=>by cases e
 | .dic _ _::_,_,e=>by cases e
theorem qR:∀(ns:af),intsOf cY=some ns
 | []=>rfl
 | n::r=>by show (intsOf (r.map D.int)).map _=_;rw[qR r];rfl
noncomputable def zAT:D->Option R
 | .lst ds=>(intsOf ds).bind λns=>if fewS ns then some (.fr ((Xe ns).map D.int))else none
 | _=>none
noncomputable def X7(f:FD):FE:=λω=>(f ω).bind zAT
theorem q4N{a:vW}{f:FD}{p1 p2 q1 q2:Pos}(hg1:Ci)(hm1:j7)(hg2:Gl X "set")(hm2:X.mg "set" = none)(ha:de)(hc:cI:=by rfl)(he1:lx:=by rfl)(hpl1:(vt q2 cG).any (·.1)=false:=by rfl)(he2:vK [oj] X.env=(false,eval oj X.env)::vK [] X.env:=by rfl)(hpl2:(vt q1 cG).any (·.1)=false:=by rfl):
  XE X (.Call (.Name "sorted" p1) [oj] [] q1) (X7 f):=by
 obtain⟨t,h1,h2⟩:=ha;refine⟨_,q2q (qd4 hc) hg1 hm1 q2F (qA (q8M (qgp hc) hg2 hm2 qjF (qA h1 qy he1) (by decide) (by decide) he1 hpl1) qy he2) (by decide) (by decide) he2 hpl2,bZ⟩;obtain⟨d,q,e⟩:=bnd e;refine h2 G0 H0 G ω σ H d _ o q λv G1 H1 x1 y1=>?_;cases d with
 | lst ds=>
  obtain⟨ns,e1,e2⟩:=bnd (show (intsOf ds).bind _=some r from e);have hds:=q0C e1;subst hds
  by_cases hz:fewS ns
  ·rw[U4]at e2
   cases e2;obtain⟨p,vs,rfl,g1,g2⟩:=y1.lst x1.gh;have hv:=g2.of_ints;subst hv;refine⟨p,ns,rfl,g1,by have:=hz.2;omega,λS hS=>?_⟩;refine⟨S,ns,rfl,qe,hz,aae⟩;have x2:=Ext.hide x1.gh hS (.ext (setP X.w S ns));have x3:=Ext.hide x2.gh hl (.lst GC);exact k _ G1 _ BM ⟨l,_,rfl,(x1.trans x2).hh.free hl,x2.gh.free hl,qe,XR.ints _⟩
  ·rw[U3]at e2;cases e2
 | _=>cases e
end
end Hk
namespace PySem.F
theorem noLenZip:u6 Oo "__len__" = pure none:=by rw[uR,v6];kernel_rfl
theorem noHintZip:u6 Oo "__length_hint__" = pure none:=by rw[uR,v6];kernel_rfl
end PySem.F
namespace Hk
open PySem PySem.Spec PyProof.Rows
section
variable{prog:vU}{w:vZ}{A:vf}{E:vB->vC->Prop}{s:vC}
abbrev Xv(h:vm)(z TI TO:vG)(f0 f1:vB):Prop:=h.get? z=some { cls:=.type "zip", dict:=none,data:=.fields #[f0,f1,P0,.ref TI,.ref TO],slots:=#[] }
theorem qaj{a:vG}{Q:Option Obj->vC->Prop}(h:Q (s.heap.get? a) s):vM aj A (rA a) Q E s:=λ_ _ _=>h
theorem qbO{z TI TO t:vG}{ot:Obj}{f1:vB}{Q:mM}(hz:Ax)(ht:EE)(k:∀h' f1',Xv h' z TI TO (uE t) f1'->xn z s.heap h'->Q false { s with heap:=h' }):vM aj A DS Q E s:=by
 unfold Builtin.SmallTypes.ownedTupleIsFree;refine vA KO;show vM _ _ (rA ((t:Int)).toNat >>= _) _ _ _;rw[yr];refine vA (qaj ?_);rw[ht];show vM _ _ (field bY 1 >>= _) _ _ _;refine vA (v5 hz rfl (x:=f1) rfl ?_);refine vg eG eG
 ·refine vA (vo hz (by simp) λh1 e1 sb=>vF (k h1 lV e1 sb))
 ·exact vF (k s.heap f1 hz (YL z s.heap))
theorem q8B{z TI TO i1 i2 l1 l2 t:vG}{ot:Obj}{f1:vB}{k1 k2:Nat}{xs ys:cK}{x y:vB}{Q:cR}(D:cZ)(hz:Ax)(ht:EE)(hTI:eM)(h1:gM)(h2:gL)(hl1:kD)(hl2:kC)(hx:xs[k1]?=some x)(hy:ys[k2]?=some y)(hQ:∀h' f1',Xv h' z TI TO (uE t) f1'->h'.IsListIter i1 l1 (k1+1)->h'.IsListIter i2 l2 (k2+1)->uB h' s.heap.objs.size x y ->
   (∀c o,c≠z->c≠i1->c≠i2->s.heap.get? c=some o->h'.get? c=some o)->Q OL { s with heap:=h' }) :
  vM aj A BA Q E s:=by
 have hT:s.TypeIs bY "zip" := oW;unfold uK;refine vA dk;show vM _ _ (field bY 2 >>= _) _ _ _;refine vA iW;show vM _ _ (field bY 3 >>= _) _ _ _;refine vA jV;refine vA Di;show vM _ _ (Builtin.SmallTypes.ownedTupleIsFree bY >>= _) _ _ _;refine vA IE;simp only[yI,if_false];have a1:=h1.extBut sb1.extBut D.i1z;have a2:=h2.extBut sb1.extBut D.i2z;have b1:=hl1.extBut sb1.extBut D.l1z;have b2:=hl2.extBut sb1.extBut D.l2z;rw[<- YD];simp only[wM,w8];refine vA (vA U7);show vM _ _ (Builtin.SmallTypes.nextOf Cu >>= _) _ _ _;refine vA G9;refine vF ?_;refine vA U7;show vM _ _ (Builtin.SmallTypes.nextOf Ct >>= _) _ _ _;refine vA (uJ Ib Ko hy λh₃ c2 sb3=>vF ?_);refine vF eP;show vM _ _ (newTuple VF >>= _) _ _ _;refine vA (u4 ?_);have hsz:h₃.objs.size=s.heap.objs.size:=by rw[sb3.1,sb2.1,sb1.1]
 refine vF Ny
 dsimp only
 rw[hsz];refine hQ _ f1' ?_ ?_ ?_ ?_ ?_
 ·exact zG _ (sb3.extBut _ _ D.i2z.symm (sb2.extBut _ _ D.i1z.symm hz1))
 ·exact(c1.extBut sb3.extBut D.i12).at λo e=>zG _ e
 ·exact c2.at λo e=>zG _ e
 ·have:=zS h₃ (o:={ cls:=.type "tuple", data:=.seq [x,y].toArray }) rfl
  rw[hsz]at this;exact this
 ·exact λc o n1 n2 n3 e=>zG _ (sb3.extBut _ _ n3 Dm)
theorem qam{z TI TO i1 i2 l1 l2 t:vG}{ot:Obj}{f1:vB}{k1 k2:Nat}{xs ys:cK}{Q:cR}(hh:bU)(D:cZ)(hz:Ax)(ht:EE)(hTI:eM)(h1:gM)(h2:gL)(hl1:kD)(hl2:kC)(hend:xs[k1]?=none\/ys[k2]?=none)(hQ:∀h',(∀c o,c≠z->c≠i1->c≠i2->s.heap.get? c=some o->h'.get? c=some o)->Q none { s with heap:=h' }):
  vM aj A BA Q E s:=by
 have hT:s.TypeIs bY "zip" := oW;unfold uK;refine vA dk;show vM _ _ (field bY 2 >>= _) _ _ _;refine vA iW;show vM _ _ (field bY 3 >>= _) _ _ _;refine vA jV;refine vA Di;show vM _ _ (Builtin.SmallTypes.ownedTupleIsFree bY >>= _) _ _ _;refine vA IE;simp only[yI,if_false];have a1:=h1.extBut sb1.extBut D.i1z;have a2:=h2.extBut sb1.extBut D.i2z;have b1:=hl1.extBut sb1.extBut D.l1z;have b2:=hl2.extBut sb1.extBut D.l2z;rw[<- YD];simp only[wM,w8];refine vA (vA U7);show vM _ _ (Builtin.SmallTypes.nextOf Cu >>= _) _ _ _;cases hx:xs[k1]? with
 | none=>
  refine vA (ug hh a1 b1 hx λh₂ e sb2 he=>?_);obtain⟨o,ho,hc⟩:=he;refine vA (uL (T := "StopIteration") (b:=true) ⟨o,ho,hc⟩ ui ?_);exact vF (hQ _ λc o n1 n2 n3 e=>sb2 _ _ n2 Qi)
 | some x=>
  have hy:ys[k2]?=none:=by rcases hend with h|h;rw[hx]at h;cases h;exact h
  refine vA G9;refine vF ?_;refine vA U7;show vM _ _ (Builtin.SmallTypes.nextOf Ct >>= _) _ _ _;refine vA (ug hh Ib Ko hy λh₃ e sb3 he=>?_);obtain⟨o,ho,hc⟩:=he;refine vA (uL (T := "StopIteration") (b:=true) ⟨o,ho,hc⟩ ui ?_);exact vF (hQ _ λc o n1 n2 n3 e=>sb3 _ _ n3 Dm)
structure ZSt (h0:vm) (S z TI TO i1 i2 l1 l2:vG) (xs ys:Array vB) (ts:List vG) (h:vm):Prop where
 zip:(ts=[]/\Xv h z TI TO .none (.bool false))\/∃t f1,t∈ts/\Xv h z TI TO (uE t) f1
 pTI:uB h TI (.ref i1) (.ref i2)
 pTO:∃a b,uB h TO a b
 it1:h.IsListIter i1 l1 ts.length
 it2:h.IsListIter i2 l2 ts.length
 hl1:h.IsList l1 xs
 hl2:h.IsList l2 ys
 tups:∀(j:Nat)t,ts[j]?=some t->∃x y,xs[j]?=some x/\ys[j]?=some y/\uB h t x y
 old:∀t∈ts,t≠S/\t≠z/\t≠TO/\t≠i1/\t≠i2
 nd:ts.Nodup
 new:∀t∈ts,h0.objs.size<=t
 keep:∀b o,b≠S->h0.get? b=some o->h.get? b=some o
theorem qgy{h0:vm}{S z TI TO i1 i2 l1 l2:vG}{xs ys:cK}{ts:df}{Q:cR}(D:cZ)(hf:∀b∈[z,TO,i1,i2],h0.get? b=none)(hS:S∉pI)(Z:CO)(hSo:∃o,s.heap.get? S=some o)(hsz:K3)(hlt:ts.length<min xs.size ys.size)(k:∀h' t,ZSt h0 S z TI TO i1 i2 l1 l2 xs ys (ts++[t]) h'->(∀o,s.heap.get? S=some o->h'.get? S=some o)->s.heap.objs.size<=h'.objs.size->Q (some jz) { s with heap:=h' }):
  vM aj A BA Q E s:=by
 have hix:ts.length<xs.size:=yA hlt (Zn ..);have hiy:ts.length<ys.size:=yA hlt (YZ ..);obtain⟨a,b,hTO⟩:=Z.pTO;obtain⟨oS,hoS⟩:=hSo;have gx:=yD hix;have gy:=yD hiy;simp only[zF,zd,or_false,not_or]at hS;have nz:∀b o,h0.get? b=some o->b≠z/\b≠TO/\b≠i1/\b≠i2:=λb o e=>
  ⟨λq=>(by have:=hf z (by simp);rw[q,this]at e;cases e),λq=>(by have:=hf TO (by simp);rw[q,this]at e;cases e),λq=>(by have:=hf i1 (by simp);rw[q,this]at e;cases e),λq=>(by have:=hf i2 (by simp);rw[q,this]at e;cases e)⟩
 have fin:∀(h':vm)(f1:vB)(u:vG),u∈ts++aaO->Xv h' z TI TO (uE u) f1->(∃a b,uB h' TO a b)->h'.IsListIter i1 l1 (ts.length+1)->h'.IsListIter i2 l2 (ts.length+1)->uB h' s.heap.objs.size xs[ts.length] ys[ts.length] ->
   (∀c o,c≠z->c≠TO->c≠i1->c≠i2->s.heap.get? c=some o->h'.get? c=some o)->Q OL { s with heap:=h' }:=λh' f1 u hu g1 g2 g3 g4 g5 g6=>by
  refine k h' _ ⟨.inr ⟨u,f1,hu,g1⟩,g6 _ _ D.TIz D.TITO D.TIi1 D.TIi2 Z.pTI,g2,by rw[zC];exact g3,by rw[zC];exact g4,Z.hl1.at λo e=>g6 _ o D.l1z D.l1TO D.l1i1 D.l1i2 e,Z.hl2.at λo e=>g6 _ o D.l2z D.l2TO D.l2i1 D.l2i2 e,λj t ht=>?_,λt ht=>?_,?_,λt ht=>?_,λb o hb e=>?_⟩ (λo e=>?_) (yi (zM g5))
  ·rcases zw j ts.length with y|y
   ·rw[zg y]at ht
    obtain⟨p,q,r1,r2,r3⟩:=Z.tups j t ht;have ho:=Z.old t (yK ht);exact⟨p,q,r1,r2,g6 _ _ ho.2.1 ho.2.2.1 ho.2.2.2.1 ho.2.2.2.2 r3⟩
   ·rw[zb y]at ht
    have hj:j=ts.length:=by
     rcases zw (j-ts.length) 1 with c|c
     ·omega
     ·rw[zn ⇑c]at ht;cases ht
    subst hj;rw[wR]at ht;cases ht;exact⟨_,_,gx,gy,g5⟩
  ·rcases zJ.mp ht with ht|ht
   ·exact Z.old t ht
   ·rw[zR.mp ht]
    have lt:∀{c o},s.heap.get? c=some o->s.heap.objs.size≠c:=λe=>xo B2;refine⟨lt hoS,?_,lt hTO,?_,?_⟩
    ·rcases Z.zip with⟨_,e⟩|⟨_,_,_,e⟩ <;> exact lt e
    ·obtain⟨_,e,_⟩:=Z.it1;exact lt e
    ·obtain⟨_,e,_⟩:=Z.it2;exact lt e
  ·refine ym.mpr ⟨Z.nd,by simp,λa ha b hb=>?_⟩
   rw[zR.mp hb];intro e;obtain⟨j,hj,ej⟩:=zh.mp ha;obtain⟨_,_,_,_,et⟩:=Z.tups j a (by rw[KM,ej]);exact vP (zM et) (by rw[e];exact xM _)
  ·rcases zJ.mp ht with ht|ht
   ·exact Z.new t ht
   ·rw[zR.mp ht];exact hsz
  ·obtain⟨n1,n2,n3,n4⟩:=nz b o e
   exact g6 b o n1 n2 n3 n4 IU
  ·exact g6 S o hS.1 hS.2.2.1 hS.2.2.2.1 hS.2.2.2.2.1 e
 rcases Z.zip with⟨_,hz⟩|⟨t,f1,ht,hz⟩
 ·exact tu D hz Z.pTI hTO Z.it1 Z.it2 Z.hl1 Z.hl2 gx gy λh' a1 a2 a3 a4 a5 a6 a7=>fin h' _ _ (by simp) a1 ⟨_,_,a2⟩ a3 a4 a5 a7
 ·obtain⟨j,hj,ej⟩:=zh.mp ht
  obtain⟨_,_,_,_,et⟩:=Z.tups j t (by rw[KM,ej]);refine q8B D hz et Z.pTI Z.it1 Z.it2 Z.hl1 Z.hl2 gx gy λh' f1' a1 a3 a4 a5 a7=>fin h' f1' t (zX _ ht) a1 ⟨a,b,?_⟩ a3 a4 a5 λc o n1 _ n3 n4 e=>a7 c o n1 n3 n4 e;exact a7 _ _ D.TOz D.TOi1 D.TOi2 hTO
theorem qin{h0:vm}{S z TI TO i1 i2 l1 l2:vG}{xs ys:cK}{ts:df}{Q:cR}(hh:bU)(D:cZ)(Z:CO)(hlt:ts.length=min xs.size ys.size)(k:∀h',(∀c o,c≠z->c≠TO->c≠i1->c≠i2->s.heap.get? c=some o->h'.get? c=some o)->Q none { s with heap:=h' }):
  vM aj A BA Q E s:=by
 obtain⟨a,b,hTO⟩:=Z.pTO;have hend:xs[ts.length]?=none\/ys[ts.length]?=none:=by
  rcases YN xs.size ys.size with h|h
  ·left;exact yn ∅
  ·right;exact yn ∅
 rcases Z.zip with⟨_,hz⟩|⟨t,f1,ht,hz⟩
 ·exact sF hh D hz Z.pTI hTO Z.it1 Z.it2 Z.hl1 Z.hl2 hend λh' g=>k h' g
 ·obtain⟨j,hj,ej⟩:=zh.mp ht
  obtain⟨_,_,_,_,et⟩:=Z.tups j t (by rw[KM,ej]);exact qam hh D hz et Z.pTI Z.it1 Z.it2 Z.hl1 Z.hl2 hend λh' g=>k h' λc o n1 _ n3 n4 e=>g c o n1 n3 n4 e
end
end Hk
namespace Hk
open PySem PySem.Spec PySem.W PyProof.Rows
section
variable{prog:vU}{w:vZ}{A:vf}{E:vB->vC->Prop}{R:sS->vC->Prop}{s:vC}
abbrev zAQ(h:vm)(S:vG)(acc:cK)(c:Nat):Prop:=h.get? S=some { cls:=.type "list", dict:=none,data:=.seq acc c,slots:=#[] }
theorem q8n{h0 h h':vm}{S z TI TO i1 i2 l1 l2:vG}{xs ys:cK}{ts:df}(hS:S∉pI)(Z:ZSt h0 S z TI TO i1 i2 l1 l2 xs ys ts h)(k:∀b o,b≠S->h.get? b=some o->h'.get? b=some o):
  ZSt h0 S z TI TO i1 i2 l1 l2 xs ys ts h':=by
 simp only[zF,zd,or_false,not_or]at hS;obtain⟨s1,s2,s3,s4,s5,s6,s7⟩:=hS;refine⟨?_,k _ _ (Ne.symm s2) Z.pTI,?_,Z.it1.at λo e=>k _ o (Ne.symm s4) e,Z.it2.at λo e=>k _ o (Ne.symm s5) e,Z.hl1.at λo e=>k _ o (Ne.symm s6) e,Z.hl2.at λo e=>k _ o (Ne.symm s7) e,λj t ht=>?_,Z.old,Z.nd,Z.new,λb o hb e=>k b o hb IU⟩
 ·rcases Z.zip with⟨e1,e2⟩|⟨t,f1,e1,e2⟩
  ·exact .inl ⟨e1,SE⟩
  ·exact .inr ⟨t,f1,e1,SE⟩
 ·obtain⟨a,b,e⟩:=Z.pTO
  exact⟨a,b,k _ _ (Ne.symm s3) e⟩
 ·obtain⟨x,y,a1,a2,a3⟩:=Z.tups j t ht
  exact⟨x,y,a1,a2,k _ _ (Z.old t (yK ht)).1 a3⟩
theorem qgW{h0:vm}{S z TI TO i1 i2 l1 l2:vG}{xs ys:cK}{res:vB}(hh:bU)(D:cZ)(hf:∀b∈[z,TO,i1,i2],h0.get? b=none)(hS:S∉pI)(hn:rm)(g0:Array t4)(d0:sr)(o0)(hR:∀(h':vm)(tk:Nat)(ts:df)(c:Nat),ts.length=min xs.size ys.size->ts.Nodup->(∀t∈ts,t≠S/\h0.objs.size<=t)->zAQ h' S (ts.map Value.ref).toArray c->(∀b o,b≠S->h0.get? b=some o->h'.get? b=some o)->(∀(j:Nat)t,ts[j]?=some t->∃x y,xs[j]?=some x/\ys[j]?=some y/\uB h' t x y)->R Cl ⟨h',g0,d0,tk,o0⟩):
  ∀(k:Nat)(h:vm)(tk:Nat)(ts:df)(c:Nat),min xs.size ys.size-ts.length=k->ts.length<=min xs.size ys.size->ZSt h0 S z TI TO i1 i2 l1 l2 xs ys ts h->zAQ h S (ts.map Value.ref).toArray c->h0.objs.size<=h.objs.size ->
   uh aj A AF R ⟨h,g0,d0,tk,o0⟩:=by
 have hS':=hS;simp only[zF,zd,or_false,not_or]at hS';have nz:∀b o,h0.get? b=some o->b≠z/\b≠TO/\b≠i1/\b≠i2:=λb o e=>
  ⟨λq=>(by have:=hf z (by simp);rw[q,this]at e;cases e),λq=>(by have:=hf TO (by simp);rw[q,this]at e;cases e),λq=>(by have:=hf i1 (by simp);rw[q,this]at e;cases e),λq=>(by have:=hf i2 (by simp);rw[q,this]at e;cases e)⟩
 intro k
 induction k with
 | zero=>
  intro h tk ts c hk hi Z hl hsz;have hin:ts.length=min xs.size ys.size:=∅
  refine uQ PySem.F.entry_extend_loop ?_;rw[BK];show vM _ A.in1 (uK bY >>= _) _ _ _;refine vA (qin (A:=A.in1) hh D Z hin λh' g=>?_);refine vF (hR h' tk ts c hin Z.nd (λt ht=>⟨(Z.old t ht).1,Z.new t ht⟩) (g _ _ hS'.1 hS'.2.2.1 hS'.2.2.2.1 hS'.2.2.2.2.1 hl) JD λj t ht=>?_)
  ·obtain⟨n1,n2,n3,n4⟩:=nz b o e
   exact g b o n1 n2 n3 n4 IU
  ·obtain⟨x,y,a1,a2,a3⟩:=Z.tups j t ht
   have ho:=Z.old t (yK ht);exact⟨x,y,a1,a2,g _ _ ho.2.1 ho.2.2.1 ho.2.2.2.1 ho.2.2.2.2 a3⟩
 | succ k ih=>
  intro h tk ts c hk hi Z hl hsz;have hlt:ts.length<min xs.size ys.size:=∅
  refine uQ PySem.F.entry_extend_loop ?_;rw[BK];show vM _ A.in1 (uK bY >>= _) _ _ _;refine vA (qgy (A:=A.in1) D hf hS Z ⟨_,hl⟩ hsz hlt λh' t Z' hk' hsz'=>?_);have hl':=hk' _ hl;show vM _ A.in1 (tM S (·.push jz) >>= _) _ _ _;refine vA ?_;have sz:(ts.map Value.ref).toArray.size=ts.length:=by simp
  have e:=get?_update_seq hl' (·.push (Value.ref t));have e2:(ts.map Value.ref).toArray.push jz=((ts++[t]).map Value.ref).toArray:=by simp
  rw[e2]at e;refine uS hl' rfl (vF ⟨fj,ih _ _ (ts++[t]) _ (by rw[zC,zY];omega) (by rw[zC,zY];omega) (q8n hS Z' λb o hb e=>?_) e (by rw[xg];exact yP hsz hsz')⟩)
   (by rw[sz];omega) (by show ((ts.map Value.ref).toArray.push jz).size<=sizeLine+1;rw[Zm,sz];omega)
  exact(zr _ _ jN).trans e
theorem qdy{h0:vm}{S z TI TO i1 i2 l1 l2:vG}{xs ys:cK}{res:vB}{c₀:Nat}(hh:bU)(D:cZ)(hf:∀b∈[z,TO,i1,i2],h0.get? b=none)(hS:S∉pI)(hn:rm)(Z:ZSt h0 S z TI TO i1 i2 l1 l2 xs ys [] s.heap)(hl:zAQ s.heap S #[] c₀)(hsz:K3)(hR:∀(h':vm)(tk:Nat)(ts:df)(c:Nat),ts.length=min xs.size ys.size->ts.Nodup->(∀t∈ts,t≠S/\h0.objs.size<=t)->zAQ h' S (ts.map Value.ref).toArray c->(∀b o,b≠S->h0.get? b=some o->h'.get? b=some o)->(∀(j:Nat)t,ts[j]?=some t->∃x y,xs[j]?=some x/\ys[j]?=some y/\uB h' t x y)->R Cl { s with heap:=h',toks:=tk }):
  vM aj A.in1 (Builtin.List.listExtendWith gu bY res)
   (λfin s'=>match fin with|.done f=>R VS s'|.again c'=>c'.quiet=true/\uh aj A c' R s') AW s:=by
 obtain⟨hp,g,d,tk,os⟩:=s;have hS':=hS;simp only[zF,zd,or_false,not_or]at hS';obtain⟨_,hz⟩|⟨t,_,ht,_⟩:=Z.zip
 rotate_left
 ·cases ht
 have hT:Shared.TypeIs ⟨hp,g,d,tk,os⟩ bY "zip" := oW;unfold Builtin.List.listExtendWith;refine vA (uo (T := "zip") hT ?_);have h1:Builtin.List.listSameRef gu bY=false:=by simp[Builtin.List.listSameRef,hS'.1]
 have h2:(Value.type "zip" == Value.type "list")=false:=by decide
 have h3:(Value.type "zip" == Value.type "tuple")=false:=by decide
 simp only[h1,h2,h3,wf,yI,if_false];refine vA (u9 hz ?_);refine vA Fy;unfold Builtin.List.listLengthHint;refine vA (uf hT PySem.F.noLenZip ?_);show vM _ A.in1 (specialOf (Value.ref z) IX >>= _) _ _ _;refine vA (uf hT PySem.F.noHintZip ?_);refine vF ?_;have key:∀(h:vm)(c₁:Nat),ZSt h0 S z TI TO i1 i2 l1 l2 xs ys [] h->zAQ h S #[] c₁->h0.objs.size<=h.objs.size->uh aj A AF R ⟨h,g,d,tk,os⟩ :=
  λh c₁ Z' hl' z'=>qgW hh D hf hS hn g d os (λh' tk' ts c a1 a2 a3 a4 a5 a6=>hR h' tk' ts c a1 a2 a3 a4 a5 a6) _ h tk [] c₁ rfl (yF _) Z' hl' z'
 refine vg eG (λ_=>vF ⟨fj,key _ c₀ Z hl hsz⟩);refine vA U8;refine vA ?_;show vM _ _ (tM S (·.push .none) >>= λ_=>tM S (·.pop)) _ _ _;refine vA (uS hl rfl ?_);have hS₂:=xI (Obj.mapSeq (·.push Value.none)) hl rfl;refine uS (hz:=by seq_fits) hS₂ rfl ?_;have hS₃:=xI (Obj.mapSeq (·.pop)) hS₂ rfl;refine vF ⟨fj,key _ _ (q8n hS Z λb o hb e=>?_) hS₃ (by rw[xg,xg];exact hsz)⟩;exact(zr _ _ jN).trans ((zr _ _ jN).trans e)
theorem qgw{l1 l2:vG}{xs ys:cK}{Q:aH}{s0:vC}(hh:bU)(hl1:s0.heap.IsList l1 xs)(hl2:s0.heap.IsList l2 ys)(hn:rm)(hz:IsZip s.heap Qj Ql Qk .none)(hp1:uB s.heap Ql (.ref s0.heap.objs.size) (.ref Qm))(hp2:uB s.heap Qk .none .none)(hi1:s.heap.IsListIter s0.heap.objs.size l1 0)(hi2:s.heap.IsListIter Qm l2 0)(hs:s.heap.objs.size=s0.heap.objs.size+5)(hk:∀c o,s0.heap.get? c=some o->s.heap.get? c=some o)(hQ:∀(h':vm)(tk:Nat)(S:vG)(ts:df)(c:Nat),s0.heap.objs.size<=S->ts.length=min xs.size ys.size->ts.Nodup->(∀t∈ts,t≠S/\s0.heap.objs.size<=t)->zAQ h' S (ts.map Value.ref).toArray c->(∀b o,s0.heap.get? b=some o->h'.get? b=some o) ->
   (∀(j:Nat)t,ts[j]?=some t->∃x y,xs[j]?=some x/\ys[j]?=some y/\uB h' t x y)->Q gu { s with heap:=h',toks:=tk }) :
  vM aj A (call E2 [.ref Qj]) Q E s:=by
 refine callType_codes (Q₁:=λobj s₁=>obj=.ref s.heap.objs.size/\s₁={ s with heap:=s.heap.push { cls:=.type "list", data:=.seq #[] } }) PySem.F.called_list LH PySem.F.entry_list_init
  (code_list_new _ cT) λobj s₁ h₁=>?_
 obtain⟨rfl,rfl⟩:=h₁;have hS:(s.heap.push { cls:=.type "list", data:=.seq #[] }).get? s.heap.objs.size=some { cls:=.type "list", data:=.seq #[] }:=zS _ rfl;refine Ar;generalize hn0:s0.heap.objs.size=n at *;have e1:l1<n:=by obtain⟨_,e,_⟩:=hl1;rw[<- hn0];exact zM e
 have e2:l2<n:=by obtain⟨_,e,_⟩:=hl2;rw[<- hn0];exact zM e
 generalize hS0:s.heap.objs.size=S at *;have D:ua (n+4) (n+2) (n+3) n (n+1) l1 l2:=by
  constructor <;> (intro q;simp only[vG]at *;omega)
 have hSn:S∉[n+4,n+2,n+3,n,n+1,l1,l2]:=by
  simp only[zF,zd,or_false,not_or];refine⟨?_,?_,?_,?_,?_,?_,?_⟩ <;> (intro q;simp only[vG]at *;omega)
 have hf:∀b∈[n+4,n+3,n,n+1],s0.heap.get? b=none:=λb hb=>by
  cases q:s0.heap.get? b with
  | none=>rfl
  | some o=>
   have:=zM q;rw[hn0]at this;simp only[zF,zd,or_false]at hb;simp only[vG]at *;omega
 show vM _ _ (do let old <- Builtin.List.listItems (.ref S);Builtin.List.listUpdate gu (λ_=>#[]);letGo old.toList.reverse;Builtin.List.listExtendWith gu (.ref (n+4)) .none) _ _ _;refine vA ?_;unfold Builtin.List.listItems;refine vA acv;show vM _ _ (tM S (λ_=>#[]) >>= λ_=>letGo (#[]:Array vB).toList.reverse >>= λ_=>Builtin.List.listExtendWith gu (.ref (n+4)) .none) _ _ _;refine vA acu;have hS₂:=get?_update_seq hS (λ_=>(#[]:Array vB));have oth:∀b o,b≠S->s.heap.get? b=some o->((s.heap.push { cls:=.type "list", data:=.seq #[] }).update S (Obj.mapSeq (λ_=>(#[]:Array vB)))).get? b=some o :=
  λb o hb e=>(zr _ _ jN).trans Ef
 refine vA (tD ?_);have hSn':=hSn;simp only[zF,zd,or_false,not_or]at hSn';refine qdy (A:=A.in1) (h0:=s0.heap) hh D hf hSn hn ⟨.inl ⟨rfl,oth _ _ (Ne.symm hSn'.1) hz⟩,oth _ _ (Ne.symm hSn'.2.1) hp1,⟨_,_,oth _ _ (Ne.symm hSn'.2.2.1) hp2⟩,hi1.at λo e=>oth _ o (Ne.symm hSn'.2.2.2.1) e,hi2.at λo e=>oth _ o (Ne.symm hSn'.2.2.2.2.1) e,
  hl1.at λo e=>oth _ o (Ne.symm hSn'.2.2.2.2.2.1) (hk _ o e),hl2.at λo e=>oth _ o (Ne.symm hSn'.2.2.2.2.2.2) (hk _ o e),λj t ht=>(by simp at ht),λt ht=>(by simp at ht),xi,λt ht=>(by simp at ht),λb o hb e=>oth b o hb (hk b o e)⟩ hS₂ (by rw[xg,yf,hn0,hS0];simp only[vG]at *;omega) λh' tk ts c a1 a2 a3 a4 a5 a6=>?_
 rw[hn0]at a3;exact⟨rfl,hQ h' tk S ts c (by simp only[vG]at *;omega) a1 a2 a3 a4 (λb o e=>a5 b o (λq=>by
  have:=zM e;rw[hn0,q]at this;simp only[vG]at *;omega) e) a6⟩
end
end Hk
namespace Hk
open PySem L2
section
variable{X:Cx}{pins:List (vG×Obj)}{σ:St}{H H':Hp}{s:vC}
theorem qgv{h':vm}{t':Nat}(I:UB)(k:∀b u,s.heap.get? b=some u->h'.get? b=some u)(hs:Oc)(hn:∀b,H b=none->H' b≠none->s.heap.objs.size<=b)(new:∀b u,H b=none->H' b=some u->Xk X.prog X.w H' h' b u):L2.Inv X pins σ H' { s with heap:=h',toks:=t' }:=by
 refine I.un ⟨λb o q _ _ _=>k b o q,λb o q _ _ _=>⟨o.slots,k b o q⟩,λb o q n _=>?_,λb o q _=>⟨o,k b o q⟩,λb xs q=>hs _ _ q,λb o u q=>hs _ _ q,λb ps q=>⟨#[],by rw[hs _ _ q];simp⟩⟩ λb u e=>?_
 ·cases e:H' b with
  | none=>rfl
  | some u=>exact vP (zM q) (Ys.mpr (hn b n (by rw[e];exact λz=>by cases z)))
 ·cases q:H b with
  | none=>exact new b u q e
  | some u'=>
   have:=hs _ _ q;rw[e]at this;cases this;exact(I.hok b u q).stay (λc v _ z=>k c v z) (λc z=>hs _ _ z) λc xs z=>hs _ _ z
noncomputable def zBa(H:Hp):List vG->List V->List V->Hp
 | t::ts,x::xs,y::ys=>upd (zBa H ts xs ys) t oG
 | _,_,_=>H
theorem q3s{b:vG}:∀{ts:df}{xs ys:bt},b∉ts->zBa H ts xs ys b=H b
 | [],_,_,_=>rfl
 | _::_,[],_,_=>rfl
 | _::_,_::_,[],_=>rfl
 | t::ts,x::xs,y::ys,h=>by
  rw[zF,not_or]at h;show upd _ t _ b=_;rw[qd h.1];exact q3s h.2
theorem q7V:∀{ts:df}{xs ys:bt}{j:Nat}{t:vG}{x y:V},ts.Nodup->ts[j]?=some t->xs[j]?=some x->ys[j]?=some y->zBa H ts xs ys t=some oG
 | [],_,_,_,_,_,_,_,h,_,_=>by simp at h
 | _::_,[],_,_,_,_,_,_,_,h,_=>by simp at h
 | _::_,_::_,[],_,_,_,_,_,_,_,h=>by simp at h
 | u::ts,a::xs,b::ys,0,t,x,y,n,h1,h2,h3=>by
  simp at h1 h2 h3;subst h1;subst h2;subst h3;exact qe
 | u::ts,a::xs,b::ys,j+1,t,x,y,n,h1,h2,h3=>by
  simp only[xT]at h1 h2 h3;obtain⟨n1,n2⟩:=yj.mp n;show upd _ u _ t=_;rw[qd (λe=>n1 (by rw[<- e];exact yK h1))];exact q7V n2 h1 h2 h3
def rLZ:List V->Hp->VK->Prop:=λvs H2 Q=>∃p q xs ys,vs=[bw,.ref q]/\H2 p=some dQ/\H2 q=some nU /\
 ∀(S:vG)(ts:df),H2 S=none->(∀t∈ts,H2 t=none/\t≠S)->ts.Nodup->ts.length=min xs.length ys.length->Q gu (upd (zBa H2 ts xs ys) S jw)
theorem q6T:∀{xs:bt}{us:bx},Xj xs us->∀{j:Nat}{u:vB},us[j]?=some u->∃x,xs[j]?=some x/\RelV x u
 | _,_,.nil,j,u,h=>by simp at h
 | _,_,.cons r1 r2,0,u,h=>by simp at h;subst h;exact Nx
 | _,_,.cons r1 r2,j+1,u,h=>by
  simp only[xT]at h ⊢;exact q6T r2 h
theorem q8y:∀(ts:df),Xj L8 aax
 | []=>.nil
 | t::r=>.cons rfl (q8y r)
theorem qd7{a b:vW}{t:TA}{p1 p2 q1 q2:Pos}(hg1:UG)(hm1:IW)(hg2:Eu)(hm2:ma)(ha:PA X Cs t)(hc:cI)(he1:L7)(hpl1:(vt q2 acs).any (·.1)=false)(he2:Bx)(hpl2:(vt q1 cG).any (·.1)=false):
  PE X GB (tCB rLZ t):=by
 intro pins s σ H Q I h;refine uI (q0G I hg1 hm1 q0a ?_ (by decide) (by decide));refine PyProof.Rows.callWith_type1 ?_ he2 hpl2;rw[he2];show vM _ _ CH _ _ s;refine Calls.spliced_cons ?_;refine uI (q0G I hg2 hm2 qjE ?_ (by decide) (by decide));refine PyProof.Rows.callWith_type1 (thn Nh λus s1 ⟨vs,H1,I1,r1,q1⟩=>?_) he1 hpl1
 ·obtain⟨p,q,xs,ys,rfl,hp,hq,k⟩:=q1
  obtain⟨u1,u2,rfl,e1,e2⟩:=vals2 r1;cases e1;cases e2;obtain⟨its1,n1,rv1,g1,z1⟩:=I1.lst hp;obtain⟨its2,n2,rv2,g2,z2⟩:=I1.lst hq;have il1:s1.heap.IsList p its1.toArray:=⟨_,g1,rfl,n1,rfl⟩;have il2:s1.heap.IsList q its2.toArray:=⟨_,g2,rfl,n2,rfl⟩;refine call_zip_2 il1 il2 λh' a1 a2 a3 a4 a5 a6 a7=>?_;refine Calls.spliced_nil ?_;have len1:its1.toArray.size=xs.length:=by rw[zP,rv1.length]
  have len2:its2.toArray.size=ys.length:=by rw[zP,rv2.length]
  refine qgw (s0:=s1) (I1.ok.hd hc) il1 il2 (by rw[len1];exact yP (Zn _ _) z1) a1 a2 a3 a4 a5 a6 a7 λh2 tk S ts c b1 b2 b3 b4 b5 b6 b7=>?_;rw[len1,len2]at b2;have fS:H1 S=none:=I1.hok.fresh b1;have ft:∀t∈ts,H1 t=none:=λt ht=>I1.hok.fresh (b4 t ht).2;have hsame:Xh H1 KQ:=λb u e=>by
   have nS:b≠S:=λz=>by rw[z,fS]at e;cases e
   have nt:b∉ts:=λz=>by rw[ft b z]at e;cases e
   rw[qd nS,q3s nt];exact e
  have tup:∀(j:Nat)t,ts[j]?=some t->∃x y,xs[j]?=some x/\ys[j]?=some y/\zBa H1 ts xs ys t=some oG/\Xk X.prog X.w KQ h2 t oG:=λj t ht=>by
   obtain⟨x',y',c1,c2,c3⟩:=b7 j t ht;obtain⟨x,d1,d2⟩:=q6T rv1 (j:=j) (u:=x') ⇑c1;obtain⟨y,d3,d4⟩:=q6T rv2 (j:=j) (u:=y') ⇑c2;exact⟨x,y,d1,d3,q7V b3 ht d1 d3,⟨by show 2<=sizeLine;decide,[x',y'],.cons d2 (.cons d4 .nil),⟨_,c3,rfl,_,rfl⟩⟩⟩
  refine⟨gu,_,qgv (s:=s1) (t':=tk) I1 b6 hsame (λb n1 n2=>?_) (λb u n1 n2=>?_),rfl,k S ts fS (λt ht=>⟨ft t ht,(b4 t ht).1⟩) b3 b2⟩
  ·by_cases e:b=S
   ·rw[e];exact b1
   ·by_cases e':b∈ts
    ·exact(b4 b e').2
    ·rw[qd e,q3s e']at n2;exact vP n1 n2
  ·by_cases e:b=S
   ·subst e
    rw[qe]at n2;cases n2;refine⟨?_,aax,c,q8y ts,b5⟩;rw[zA,b2];exact yP (Zn _ _) z1
   ·by_cases e':b∈ts
    ·obtain⟨j,hj,ej⟩:=zh.mp e'
     obtain⟨x,y,_,_,m1,m2⟩:=tup j b (by rw[KM,ej]);rw[qd e,m1]at n2;cases n2;exact m2
    ·rw[qd e,q3s e',n1]at n2;cases n2
noncomputable def pairD(x y:D):D:=.tup VF
noncomputable def Ws:List D->Option R
 | [.lst xs,.lst ys]=>some (.fr (Zf pairD xs ys))
 | _=>none
theorem q5I{K:zB}{G:Hp}:∀{ds:aZ}{ts:df},ds.length=ts.length->(∀(j:Nat)d t,ds[j]?=some d->ts[j]?=some t->Rep K G d jz)->XR K G ds L8
 | [],[],_,_=>rfl
 | [],_::_,h,_=>by simp at h
 | _::_,[],h,_=>by simp at h
 | d::ds,t::ts,h,f=>⟨jz,_,rfl,f 0 d t rfl rfl,q5I ⇑h λj e u h1 h2=>f (j+1) e u ⇑h1 ⇑h2⟩
theorem qdo{K:zB}:W6 K rLZ Ws:=by
 intro G H ds vs d Q s e hv k
 match ds,e with
 | [.lst xs,.lst ys],e=>
  cases e;obtain⟨v,u,rfl,h,h'⟩:=hv.two;obtain⟨p,us,rfl,h1,h2⟩:=h.lst s;obtain⟨q,ws,rfl,h3,h4⟩:=h'.lst s;refine⟨p,q,us,ws,rfl,h1,h3,λS ts hS ht nd hl=>?_⟩
  let G':Hp:=λb=>if b∈ts then zBa H ts us ws b else G b
  have hout:∀b,b∉ts->G' b=G b:=λb z=>vJ z;have hin:∀b,b∈ts->G' b=zBa H ts us ws b:=λb z=>vH z;have gg:Xh G G':=λb o z=>by
   have n:b∉ts:=λy=>by rw[s.free (ht b y).1]at z;cases z
   rw[hout b n];exact z
  have hh:Xh H Aa:=λb o z=>by
   have nS:b≠S:=λy=>by rw[y,hS]at z;cases z
   have n:b∉ts:=λy=>by rw[(ht b y).1]at z;cases z
   rw[qd nS,q3s n];exact z
  have gh:Xh G' Aa:=λb o z=>by
   by_cases y:b∈ts
   ·rw[hin b y]at z
    rw[qd (ht b y).2];exact z
   ·rw[T9]at z
    exact hh b o (s _ _ z)
  have x:Ext G H G' Aa:=⟨gg,gh,hh,λb z1 z2=>by
   have n:b∉ts:=λy=>z2 (ht b y).1;rw[hout b n];exact z1⟩
  have nS:S∉ts:=λy=>(ht S y).2 rfl;refine k _ G' _ x ⟨S,_,rfl,hS,by rw[hout S nS];exact s.free hS,qe,q5I ?_ λj d t e1 e2=>?_⟩
  ·rw[List.length_zipWith,hl,h2.len,h4.len]
  ·rw[List.getElem?_zipWith]at e1
   cases q1:xs[j]? with
   | none=>rw[q1]at e1;cases e1
   | some a=>
    cases q2:ys[j]? with
    | none=>rw[q1,q2]at e1;cases e1
    | some b=>
     rw[q1,q2]at e1;cases e1;obtain⟨va,y1,y2⟩:=h2.get q1;obtain⟨vb,y3,y4⟩:=h4.get q2;refine⟨t,[va,vb],rfl,?_,XR.cons (y2.mono gg) (XR.cons (y4.mono gg) XR.nil)⟩;rw[hin t (yK e2)];exact q7V nd e2 y1 y3
theorem qdi{a b:vW}{g:FA}{p1 p2 q1 q2:Pos}(hg1:UG)(hm1:IW)(hg2:Eu)(hm2:ma)(ha:XVA X Cs g)(hc:cI:=by rfl)(he1:L7:=by rfl)(hpl1:(vt q2 acs).any (·.1)=false:=by rfl)(he2:Bx:=by rfl)(hpl2:(vt q1 cG).any (·.1)=false:=by rfl):
  XE X GB (X4 Ws g):=by
 obtain⟨t,h1,h2⟩:=ha;exact⟨_,qd7 hg1 hm1 hg2 hm2 h1 hc he1 hpl1 he2 hpl2,q88 qdo h2⟩
end
noncomputable def zBZ:List Int->Int
 | []=>0
 | [x]=>x
 | x::y::r=>if x<=zBZ (y::r)then zBZ (y::r)else x
noncomputable def zBX:List Int->Int
 | []=>0
 | [x]=>x
 | x::y::r=>if zBX (y::r)<=x then zBX (y::r)else x
theorem qc2:∀{ns:af},ns≠[]->zBZ ns∈ns/\∀a∈ns,a<=zBZ ns
 | [x],_=>⟨by simp[zBZ],λa h=>by simp at h;subst h;exact zi _⟩
 | x::y::r,_=>by
  obtain⟨h1,h2⟩:=qc2 (ns:=y::r) (by simp);unfold zBZ
  split
  ·rename_i h
   refine acg;rcases zF.mp ha with rfl|ha
   ·exact h
   ·exact h2 a ha
  ·rename_i h
   refine⟨zE,p7⟩;rcases zF.mp ha with rfl|ha
   ·exact zi _
   ·have:=h2 a ha;omega
theorem qbs:∀{ns:af},ns≠[]->zBX ns∈ns/\∀a∈ns,zBX ns<=a
 | [x],_=>⟨by simp[zBX],λa h=>by simp at h;subst h;exact zi _⟩
 | x::y::r,_=>by
  obtain⟨h1,h2⟩:=qbs (ns:=y::r) (by simp);unfold zBX
  split
  ·rename_i h
   refine acg;rcases zF.mp ha with rfl|ha
   ·exact h
   ·exact h2 a ha
  ·rename_i h
   refine⟨zE,p7⟩;rcases zF.mp ha with rfl|ha
   ·exact zi _
   ·have:=h2 a ha;omega
section
variable{X:Cx}
end
noncomputable def whD(c:FT)(b:FS):Nat->FS
 | 0=>λ_=>none
 | n+1=>λω=>(c ω).bind λk=>if k=true then (b ω).bind (λp=>match p.1 with
   | .nx=>whD c b n p.2
   | .ct=>whD c b n p.2
   | .bk=>some (.nx,p.2)
   | .rt r=>some (.rt r,p.2))else some Cw
noncomputable def sWh(n:Nat)(c:FT)(b:FS):FS:=whD c b n
section
variable{X:Cx}{c:vW}{body:List vp}{fc:FT}{fb:FS}{pos:Pos}{n:Nat}
theorem qer{K:zB}{t:TT}{u:TS}(h2:zBe K t fc)(h4:SimS K u fb):SimS K (zB5 t u) (sWh n fc fb):=by
 intro G0 H0 G ω σ H out ω' E o e k;refine⟨λm σ1 H1=>∃G1 ω1,Own K G0 H0 G1 ω1 σ1 H1/\Xh G G1/\whD fc fb m ω1=some JN,⟨n,G,ω,o,gr,e⟩,λm σ1 H1 ⟨G1,ω1,o1,g1,e1⟩=>?_⟩;cases m with
 | zero=>cases e1
 | succ m=>
  obtain⟨b,q,e1⟩:=bnd e1;refine h2 G0 H0 G1 ω1 σ1 H1 b _ o1 q λG2 H2 x2=>?_;cases b with
  | false=>cases e1;exact k G2 σ1 H2 (o1.keep x2) (g1.trans x2.gg)
  | true=>
   rw[kT];rw[kT]at e1;obtain⟨⟨o3,ω3⟩,q3,e1⟩:=bnd e1;refine⟨λσ' H'=>∃G1 ω1,Own K G0 H0 G1 ω1 σ' H'/\Xh G G1/\whD fc fb m ω1=some JN,λσ' H' z=>⟨m,yd m,z⟩,?_⟩;refine h4 G0 H0 G2 ω1 σ1 H2 o3 ω3 _ (o1.keep x2) q3 λG4 σ4 H4 o4 g4=>?_;have gg:=(g1.trans x2.gg).trans g4;cases o3 with
   | nx=>exact Sn
   | ct=>exact Sn
   | bk=>cases e1;exact k G4 σ4 H4 o4 gg
   | rt r=>cases e1;exact k G4 σ4 H4 o4 gg
theorem qgV(hp:jW)(hc:XT X c fc)(hb:XSs X body fb):XS X P2 (sWh n fc fb):=by
 obtain⟨t,h1,h2⟩:=hc;obtain⟨u,h3,h4⟩:=hb;exact⟨_,q9w hp h1 h3,qer h2 h4⟩
end
section
variable{fc:FT}{fb:FS}
def stepW(I:n9)(μ:WSt->Nat)(m:Nat)(J:n9)(o:QG):Prop:=match o with
 | some (.nx,w)=>I w/\μ w<m
 | some (.ct,w)=>I w/\μ w<m
 | some (.bk,w)=>J w
 | _=>False
theorem qaN(I:n9)(μ:WSt->Nat)(J:n9)(stop:∀ω,I ω->fc ω=some false->J ω)(turn:∀ω,I ω->∃k,fc ω=some k/\EJ):
  ∀(n:Nat)(ω:WSt),I ω->μ ω<n->∃ω',whD fc fb n ω=some Gx/\J ω'
 | 0,_,_,z=>vP z Tz
 | n+1,ω,h,z=>by
  obtain⟨k,e,t⟩:=turn ω h;show ∃ω',((fc ω).bind _)=_/\_;rw[e];cases k with
  | false=>exact⟨ω,rfl,stop ω h e⟩
  | true=>
   have t:=t rfl;rw[show ∀(f:Bool->Option eI),(some true).bind f=f true from λ_=>rfl,vH rfl];cases q:fb ω with
   | none=>rw[q]at t;exact t.elim
   | some p=>
    rw[q]at t;obtain⟨o,w⟩:=p;cases o with
    | nx=>exact qaN I μ J stop turn n w t.1 (by have:=t.2;omega)
    | ct=>exact qaN I μ J stop turn n w t.1 (by have:=t.2;omega)
    | bk=>exact⟨w,rfl,t⟩
    | rt r=>exact t.elim
theorem qjy{n:Nat}(I:n9)(μ:WSt->Nat)(J:n9)(stop:∀ω,I ω->fc ω=some false->J ω)(turn:∀ω,I ω->∃k,fc ω=some k/\EJ){ω:WSt}(h:I ω)(z:μ ω<n):∃ω',sWh n fc fb ω=some Gx/\J ω':=qaN I μ J stop turn n ω h z
end
section
variable{X:Cx}{pos:Pos}{o:vW}{apos cpos:Pos}{i:Nat}
end
noncomputable abbrev FM:=WSt->Option (D×WSt)
def SimM(K:zB)(t:TE)(f:FM):Prop:=∀G0 H0 G ω σ H d ω'(Q:VK),Own K G0 H0 G ω σ H->f ω=some (d,ω') ->
 (∀v G' H',Own K G0 H0 G' ω' σ H'->Xh G G'->Rep K G' d v->Q v H')->t σ H Q
def XM(X:Cx)(e:vW)(f:FM):Prop:=∃t,PE X e t/\SimM X.K t f
section
variable{X:Cx}{pos:Pos}{o e:vW}{apos cpos pos':Pos}{i:Nat}{fd:FD}{f:FM}
noncomputable def zCG(i:Nat)(f:FM):FS:=λω=>(f ω).map λp=>(.nx,p.2.set i aay)
theorem qid{x:Str}(hN:X.N.Nodup)(hi:X.N[i]?=some x)(hx:eO)(he:XM X e f)(hs:lK:=by rfl)(hf:aK:=by first|exact .inl rfl|exact .inr rfl|assumption):
  XS X E6 (zCG i f):=by
 obtain⟨t,h1,h2⟩:=he;refine⟨_,SC,cv⟩;unfold zCG at e;cases q:f ω with
 | none=>rw[q]at e;cases e
 | some p=>
  obtain⟨d,ω1⟩:=p;rw[q]at e;cases e;exact h2 G0 H0 G ω σ H d ω1 _ o q λv G1 H1 o1 g1 r1=>k G1 _ H1 (o1.setSh r1) g1
end
section
variable{X:Cx}{a b c:vW}{pos:Pos}{fa fb fc:FD}{op op':sw}{p p':Int->Int->Bool}
end
noncomputable def zDC(x:Int):List Int->List Int
 | []=>[x]
 | y::r=>if x<=y then x::y::r else y::zDC x r
noncomputable def Xd(ns:af):List Int:=ns.foldr zDC []
theorem q5r{x:Int}:∀{l:af},(zDC x l).Perm (x::l)
 | []=>.refl _
 | y::r=>by
  unfold zDC
  by_cases h:x<=y
  ·rw[vH h]
  ·rw[vJ h];exact(q5r.cons y).trans (.swap x y r)
theorem qx:∀{l:af},(Xd l).Perm l
 | []=>.refl _
 | y::r=>q5r.trans ((qx (l:=r)).cons y)
theorem qcy{x:Int}:∀{l:af},l.Pairwise (· <= ·)->(zDC x l).Pairwise (· <= ·)
 | [],_=>ZV _ _
 | y::r,h=>by
  obtain⟨h1,h2⟩:=zQ.mp h;unfold zDC
  by_cases z:x<=y
  ·rw[gz]
   refine zQ.mpr ⟨p7,h⟩;cases ha with
   | head=>exact z
   | tail _ ha=>exact yg z (h1 a ha)
  ·rw[gc]
   refine zQ.mpr ⟨p7,qcy h2⟩;cases (q5r.mem_iff.mp ha:a∈x::r)with
   | head=>omega
   | tail _ ha=>exact h1 a ha
theorem q0E:∀{l:af},(Xd l).Pairwise (· <= ·)
 | []=>.nil
 | y::r=>qcy (q0E (l:=r))
theorem q1d:∀{l m:af},l.Pairwise (· <= ·)->m.Pairwise (· <= ·)->l.Perm m->l=m
 | [],m,_,_,p=>(List.Perm.nil_eq p)
 | a::l,m,h,h',p=>by
  cases m with
  | nil=>exact vP p.length_eq (by simp)
  | cons b m=>
   obtain⟨h1,h2⟩:=zQ.mp h;obtain⟨h3,h4⟩:=zQ.mp h';have hab:a=b:=by
    have x1:a∈b::m:=p.mem_iff.mp (.head _);have x2:b∈a::l:=p.mem_iff.mpr (.head _);cases x1 with
    | head=>rfl
    | tail _ x1=>
     cases x2 with
     | head=>rfl
     | tail _ x2=>have:=h3 a x1;have:=h1 b x2;omega
   subst hab;rw[q1d h2 h4 p.cons_inv]
theorem q5t(l:af):(Xd l).length=l.length:=qx.length_eq
theorem qfY{l m:af}:Xd l=Xd m↔l.Perm m :=
 ⟨λh=>qx.symm.trans (h▸qx),λh=>q1d q0E q0E ((qx.trans h).trans qx.symm)⟩
def rSortL:List V->Hp->VK->Prop:=λxs H Q=>∃p ns,xs=N7/\H p=some Gy/\ns.length<64/\∀l,H l=none->Q cF Fz
noncomputable def zCb:D->Option R
 | .lst ds=>(intsOf ds).bind λns=>if ns.length<64 then some mO else none
 | _=>none
noncomputable def zBE(f:FD):FE:=λω=>(f ω).bind zCb
section
variable{X:Cx}
theorem qcS:WN X fA rSortL:=by
 intro pins s σ H xs us Q I r h;obtain⟨p,ns,rfl,hp,hz,q⟩:=h;obtain⟨u,rfl,rx⟩:=vals1 r;cases rx;obtain⟨its,n,rv,e,_⟩:=I.lst hp;have hlen:its.length=ns.length:=by rw[<- rv.length,zA]
 refine PyProof.Rows.sorted_ints mW (q1c rv) ∅ λout ns' a1 a2 a3=>?_;obtain⟨m,hm⟩:=PyProof.Rows.sortedAll_at s.heap its out;have en:ns'=Xd ns:=q1d a3 q0E Hg;subst en;have hsl:(Xd ns).length<=sizeLine:=by rw[q5t];exact yP (yi hz) (by decide)
 have I2:=I.laid (a:=s.heap.objs.size+1) (o:=.lst gJ) (t':=s.toks) Ee M9
  (show Xk X.prog X.w _ Es _ R5 from ⟨by rw[zA];exact hsl,out.toList,m,q1H a1,by rw[xt];exact hm⟩)
 exact B0
theorem qcI{a:vW}{f:FD}{p q:Pos}(hg:Ci)(hm:j7)(ha:de)(he:lx:=by rfl)(hpl:(vt q cG).any (·.1)=false:=by rfl):XE X S7 (zBE f):=by
 obtain⟨t,h1,h2⟩:=ha;refine⟨_,q2q qcS hg hm q2F (qA h1 qy he) (by decide) (by decide) he hpl,bZ⟩;obtain⟨d,z,e⟩:=bnd e;refine h2 G0 H0 G ω σ H d _ o z λv G1 H1 x1 y1=>?_;cases d with
 | lst ds=>
  obtain⟨ns,e1,e2⟩:=bnd (show (intsOf ds).bind _=some r from e);have hds:=q0C e1;subst hds
  by_cases hz:ns.length<64
  ·rw[U4]at e2
   cases e2;obtain⟨p,vs,rfl,g1,g2⟩:=y1.lst x1.gh;have hv:=g2.of_ints;subst hv;refine Ka;have x2:=Ext.hide x1.gh hl ab7;exact k _ G1 _ ee rY
  ·rw[U3]at e2;cases e2
 | _=>cases e
end
end Hk
namespace Hk
open PySem PySem.Spec PyProof.Rows
theorem zCL:u6 JZ "__len__" = pure none:=by rw[uR,v6];kernel_rfl
theorem zCq:u6 JZ "__length_hint__" = pure (some (.builtin "list_reverseiterator.__length_hint__")):=by rw[uR,v6];kernel_rfl
section
variable{prog:vU}{w:vZ}{A:vf}{E:vB->vC->Prop}{s:vC}
theorem qgg{r:vG}{Q:mM}(hT:s.TypeIs (.ref r) "list_reverseiterator")(h:Q false s):vM aj A E1 Q E s:=by
 unfold Builtin.List.listLengthHint;refine vA (uf hT zCL ?_);show vM _ A (specialOf (Value.ref r) IX >>= _) _ _ _;refine vA (uf hT zCq ?_);generalize hid:("list_reverseiterator.__length_hint__" : String)=id0
 wp_delta
 rw[show splitId id0=some ("list_reverseiterator", "__length_hint__")from by subst hid;decide +kernel];subst hid;refine vA (uL (T := "list_reverseiterator") (b:=true) hT (by rw[uz];kernel_rfl) ?_);refine vg (λhab=>vP hab (by decide)) eG;refine vg eG Su;refine vg (λhab=>vP hab ⋯) eG;exact vF h
theorem qdp{R:sS->vC->Prop}{S I l:vG}{items:cK}{res:vB}{c₀:Nat}(hh:bU)(hn:FU)(hSI:S≠I)(hSl:S≠l)(hne:l≠I)(hit:s.heap.IsRevIter I l (JR-1))(hl:EF)(hS:zAQ s.heap S #[] c₀)(hR:∀(h':vm)(tk:Nat)(c:Nat),(∀b o,b≠S->b≠I->s.heap.get? b=some o->h'.get? b=some o)->zAQ h' S items.reverse c->R Cl { s with heap:=h',toks:=tk }):
  vM aj A.in1 (Builtin.List.listExtendWith gu BY res)
   (λfin s'=>match fin with|.done f=>R VS s'|.again c'=>c'.quiet=true/\uh aj A c' R s') AW s:=by
 have W:=Walks.listRev (prog:=prog) (w:=w) (A:=A.in1) hh I l hne items;have hT:=hit.typeIs;have hSf:S∉[I,l]:=by simp[hSI,hSl]
 unfold Builtin.List.listExtendWith;refine vA (uo (T := "list_reverseiterator") hT ?_);rw[show Builtin.List.listSameRef gu BY=false by simp[Builtin.List.listSameRef,hSI],show (Value.type "list_reverseiterator" == Value.type "list")=false by decide,show (Value.type "list_reverseiterator" == Value.type "tuple")=false by decide];refine vg (λhab=>vP hab (by decide)) eG;refine vA (wpAny_pyIter_revIter hit ?_);refine vA (vh (qgg hT ?_));refine vg (λhab=>vP hab (by decide)) eG;have st:0<=items.size/\s.heap.IsRevIter I l (JR-1-BP)/\s.heap.IsList l items:=⟨B5,by simpa using hit,hl⟩;refine vF ⟨fj,t9 W.toS hn S hSf res items.size 0 _ #[] c₀ rfl (yF _) st hS abT λs' acc' c' hm hS' hacc=>?_⟩;rw[Lc];have e:acc'=items.reverse:=by
  apply Array.ext_getElem?;intro j;rcases zw j items.size with z|z
  ·have hz:j<acc'.size:=by rw[hacc.1];exact z
   have q:acc'[j]?=some acc'[j]:=yD hz;rw[q,Array.getElem?_reverse z];exact(hacc.2 j _ q).symm
  ·rw[yn (by rw[hacc.1];exact z),yn (by rw[Array.size_reverse];exact z)]
 subst e;exact hR s'.heap s'.toks c' (λb o b1 b2 e=>hm.heap b o (by simp[b1,b2]) e) hS'
theorem qgh{l:vG}{items:cK}{Q:aH}(hh:bU)(hn:FU)(hl:EF)(hQ:∀(h':vm)(tk:Nat)(S:vG)(c:Nat),s.heap.objs.size<=S->(∀b o,s.heap.get? b=some o->h'.get? b=some o)->zAQ h' S items.reverse c->Q gu { s with heap:=h',toks:=tk }):
  vM aj A (call E2 [aC]) Q E { s with heap:=s.heap.push gQ }:=by
 have hll:l<s.heap.objs.size:=by obtain⟨_,e,_⟩:=hl;exact zM e
 have gI:(s.heap.push gQ).get? s.heap.objs.size=some gQ:=zS _ rfl;have k1:∀b o,s.heap.get? b=some o->(s.heap.push gQ).get? b=some o:=λb o e=>zG _ e;generalize hI:s.heap.objs.size=I at *;generalize hp:s.heap.push gQ=h1 at *;have hI1:I<h1.objs.size:=zM gI;have hS:(h1.push { cls:=.type "list", data:=.seq #[] }).get? h1.objs.size=some { cls:=.type "list", data:=.seq #[] }:=zS _ rfl;refine callType_codes (s:={ s with heap:=h1 }) (Q₁:=λobj s₁=>obj=.ref h1.objs.size/\s₁={ s with heap:=h1.push { cls:=.type "list", data:=.seq #[] } }) PySem.F.called_list LH PySem.F.entry_list_init
  (code_list_new _ cT) λobj s₁ z=>?_
 obtain⟨rfl,rfl⟩:=z;refine Ar;generalize hS0:h1.objs.size=S at *;show vM _ _ (do let old <- Builtin.List.listItems (.ref S);Builtin.List.listUpdate gu (λ_=>#[]);letGo old.toList.reverse;Builtin.List.listExtendWith gu BY .none) _ _ _;apply vA;unfold Builtin.List.listItems;refine vA acv;show vM _ _ (tM S (λ_=>#[]) >>= λ_=>letGo (#[]:Array vB).toList.reverse >>= λ_=>Builtin.List.listExtendWith gu BY .none) _ _ _;refine vA acu;have hS2:=get?_update_seq hS (λ_=>(#[]:Array vB));have oth:∀b o,b≠S->h1.get? b=some o->((h1.push { cls:=.type "list", data:=.seq #[] }).update S (Obj.mapSeq (λ_=>(#[]:Array vB)))).get? b=some o :=
  λb o hb e=>(zr _ _ jN).trans Ef
 refine vA (tD ?_);have n1:S≠I:=by simp only[vG]at *;omega
 have n2:S≠l:=by simp only[vG]at *;omega
 have n3:l≠I:=by simp only[vG]at *;omega
 refine qdp (A:=A.in1) (items:=items) (I:=I) (l:=l) hh hn n1 n2 n3 ⟨_,oth _ _ (Ne.symm n1) gI,rfl,rfl⟩ (hl.at λo e=>oth l o (Ne.symm n2) (k1 l o e)) hS2 λh' tk c kp e=>?_;refine⟨rfl,hQ h' tk S c (by simp only[vG]at *;omega) (λb o z=>?_) e⟩;have hb:b<I:=hI▸zM z;exact kp b o (by simp only[vG]at *;omega) (by simp only[vG]at *;omega) (oth b o (by simp only[vG]at *;omega) (k1 b o z))
end
open L2
def rLR:List V->Hp->VK->Prop:=λvs H Q=>∃p xs,vs=N7/\H p=some dQ/\∀S,H S=none->Q gu (upd H S VW)
section
variable{X:Cx}
theorem qdr{a:vW}{t:TA}{p1 p2 q1 q2:Pos}(hg1:UG)(hm1:IW)(hg2:Gl X "reversed")(hm2:X.mg "reversed" = none)(ha:PA X [a] t)(hc:cI)(he1:lx)(hpl1:(vt q2 cG).any (·.1)=false)(he2:vK [mE] X.env=(false,eval mE X.env)::vK [] X.env)(hpl2:(vt q1 cG).any (·.1)=false):
  PE X (.Call V6 [mE] [] q1) (tCB rLR t):=by
 intro pins s σ H Q I h;refine uI (q0G I hg1 hm1 q0a ?_ (by decide) (by decide));refine PyProof.Rows.callWith_type1 ?_ he2 hpl2;rw[he2];show vM _ _ CH _ _ s;refine Calls.spliced_cons ?_;refine uI (q0G I hg2 hm2 PyProof.Rows.boot_reversed ?_ (by decide) (by decide));refine PyProof.Rows.callWith_type1 (thn Nh λus s1 ⟨vs,H1,I1,r1,z1⟩=>?_) he1 hpl1;obtain⟨p,xs,rfl,hp,k⟩:=z1;obtain⟨u,rfl,e1⟩:=vals1 r1;cases e1;obtain⟨its,n,rv,g1,sz⟩:=I1.lst hp;have il:s1.heap.IsList p its.toArray:=⟨_,g1,rfl,n,rfl⟩;refine call_reversed_list il (Calls.spliced_nil ?_);refine qgh (I1.ok.hd hc) (by rw[zP,<- rv.length];exact sz) il λh2 tk S c b1 b2 b3=>?_;refine⟨gu,_,I1.laid (t':=tk) b2 b1 (show Xk X.prog X.w _ h2 S VW from ⟨by rw[xY];exact sz,its.reverse,c,rv.reverse,by rw[b3];simp⟩),rfl,k S (I1.hok.fresh b1)⟩
end
end Hk
namespace L2
open PySem PySem.Spec PyProof.Rows
theorem Inv.turnedL{X:Cx}{pins:aA}{σ:List Ao}{H:Hp}{s:vC}{h':vm}{t':Nat}{fp:df}(I:aq)(k:∀b o,b∉fp->s.heap.get? b=some o->h'.get? b=some o)(hf:∀b∈fp,Wn X pins H b):
  Inv X pins σ H { s with heap:=h',toks:=t' }:=by
 have nit:∀b u,H b=some u->b∉fp:=λb u e z=>by have:=(hf b z).1;rw[e]at this;cases this
 refine I.step (g':=s.gens) (d':=s.drawn) (ch:=fp) jM (λb o _ _ hc e _=>k b o hc e) (λb o _ _ hc e _=>⟨o.slots,k b o hc e⟩) aai
  (λb o hc e=>⟨o,k b o hc e⟩) (λ_ _ e=>e) aco (λb ps e=>⟨#[],by rw[e];simp⟩) (λm hm=>?_) (λb u e=>?_) I.bare
 ·obtain⟨f0,f1,f2,f3,f4,f5⟩:=hf b hb
  exact abg
 ·obtain⟨o,es,ep,ho,r⟩:=hm
  exact⟨o,es,ep,k _ o (λz=>(hf _ z).2.1 rfl) ho,r⟩
 ·refine(I.hok b u e).stay NC LX λ_ _ q=>q
  rcases hc with z|z
  ·rw[z];exact nit b u e
  ·exact nit c _ z
noncomputable def Itz(K:zB)(a b:vG):It :=
 ⟨λi H=>∃xs ys x y,SqL K H a xs/\SqL K H b ys/\xs[i]?=some x/\ys[i]?=some y,
  λi H x H'=>∃t x1 y1,H t=none/\x=.ref t/\H'=upd H t ac5/\∀xs ys,SqL K H a xs->SqL K H b ys->xs[i]?=some x1/\ys[i]?=some y1,
  λi H=>∃xs ys,SqL K H a xs/\SqL K H b ys/\(xs[i]?=none\/ys[i]?=none)⟩
theorem qfK{P:vU}{w:vZ}{K:zB}{elts:iF}{kx}{tpos:Pos}(a b z TI TO i1 i2:vG)(D:TD):
  Turn P w K jx KB [z,TI,TO,i1,i2] z (λi h=>IsZip h z TI TO .none/\uB h TI Cu Ct/\(∃x y,uB h TO x y)/\h.IsListIter i1 a i/\h.IsListIter i2 b i) where
 mem:=by simp
 obj:=λi h st c hc=>by
  obtain⟨s1,s2,⟨_,_,s3⟩,⟨o4,e4,c4,d4⟩,⟨o5,e5,c5,d5⟩⟩:=st;simp only[zF,zd,or_false]at hc;rcases hc with rfl|rfl|rfl|rfl|rfl
  ·exact⟨_,s1,λv y=>by cases (show Data.fields _=Data.cell v from y)⟩
  ·exact⟨_,s2,λv y=>by cases (show Data.seq _ _=Data.cell v from y)⟩
  ·exact⟨_,s3,λv y=>by cases (show Data.seq _ _=Data.cell v from y)⟩
  ·exact⟨_,e4,λv y=>by rw[d4]at y;cases y⟩
  ·exact⟨_,e5,λv y=>by rw[d5]at y;cases y⟩
 keep:=λi h h' st k=>by
  obtain⟨s1,s2,⟨x,y,s3⟩,s4,s5⟩:=st;exact⟨k _ (by simp) _ s1,k _ (by simp) _ s2,⟨x,y,k _ (by simp) _ s3⟩,s4.at λo e=>k _ (by simp) o e,s5.at λo e=>k _ (by simp) o e⟩
 item:=by
  intro X hP hw hK hc i pins s σ H E I hf st hg;subst hP hw hK;obtain⟨xs,ys,x,y,hq1,hq2,hx,hy⟩:=hg;obtain⟨its1,rv1,p1,hz1⟩:=I.list hq1;obtain⟨its2,rv2,p2,hz2⟩:=I.list hq2;obtain⟨u1,hu1,ru1⟩:=rv1.get hx;obtain⟨u2,hu2,ru2⟩:=rv2.get hy;obtain⟨s1,s2,⟨_,_,s3⟩,s4,s5⟩:=st;have ex:∀c∈[z,TI,TO,i1,i2],∃o,s.heap.get? c=some o:=λc hc=>by
   simp only[zF,zd,or_false]at hc;rcases hc with rfl|rfl|rfl|rfl|rfl
   ·exact aac
   ·exact⟨_,s2⟩
   ·exact⟨_,s3⟩
   ·obtain⟨o,e,_⟩:=s4;exact AT
   ·obtain⟨o,e,_⟩:=s5;exact AT
  have nt:∀c∈[z,TI,TO,i1,i2],c≠s.heap.objs.size:=λc hc=>by
   obtain⟨o,e⟩:=ex c hc;exact zu B2
  refine tu D s1 s2 s3 s4 s5 p1.isList p2.isList (x:=u1) (y:=u2) (by simpa using hu1) (by simpa using hu2) λh' a1 a2 a3 a4 a5 a6 hk=>?_;have hn:H s.heap.objs.size=none:=I.hok.fresh bM;have I1:Inv X pins σ cr { s with heap:=s.heap.push { cls:=.type "tuple", data:=.seq #[u1,u2] },toks:=s.toks } :=
   I.laid Iu bM (show Xk X.prog X.w _ _ _ oG from ⟨by show 2<=sizeLine;decide,[u1,u2],.cons ru1 aa8,rj⟩)
  have hf':∀c∈[z,TI,TO,i1,i2],Wn X pins cr c:=λc hc=>by
   obtain⟨f0,f⟩:=hf c hc;exact⟨by rw[Rn];exact f0,f⟩
  have I2:Inv X pins σ cr { s with heap:=h',toks:=s.toks }:=I1.turnedL (λb o hb e=>by
   simp only[zF,zd,or_false,not_or]at hb
   by_cases q:b=s.heap.objs.size
   ·subst q
    rw[fF]at e;cases e;exact a5
   ·have e':s.heap.get? b=some o:=by
     rcases zw b s.heap.objs.size with l|l
     ·obtain⟨z1,z2⟩:=xj.mp e
      refine xj.mpr Tj;rw[<- z1];show s.heap.objs[b]?=(s.heap.objs.push _)[b]?;rw[wu,vJ q]
     ·have:=zM e
      rw[yf]at this;exact vP (by simp only[vG]at *;omega) q
    exact hk b o hb.1 hb.2.2.1 hb.2.2.2.1 hb.2.2.2.2 e') hf'
  refine⟨_,rfl,wpAny_letOwnedTupleGo_zip a1 λh2 b1 sb=>?_⟩;have I3:Inv X pins σ cr { s with heap:=h2,toks:=s.toks }:=I2.turnedL (λb o hb e=>(sb.2 b (λq=>hb (by simp[q]))).trans e) hf';refine⟨aC,_,I3,rfl,⟨_,x,y,hn,rfl,rfl,λxs' ys' q1 q2=>⟨by rw[abW];exact hx,by rw[abV];exact hy⟩⟩,⟨b1,?_,⟨u1,u2,sb.extBut _ _ D.TOz a2⟩,a3.extBut sb.extBut D.i1z,a4.extBut sb.extBut D.i2z⟩,Fv⟩;exact sb.extBut _ _ D.TIz FW
 done:=by
  intro X hP hw hK hc i pins s σ H E I hf st hg;subst hP hw hK;obtain⟨xs,ys,hq1,hq2,hx⟩:=hg;obtain⟨its1,rv1,p1,hz1⟩:=I.list hq1;obtain⟨its2,rv2,p2,hz2⟩:=I.list hq2;obtain⟨s1,s2,⟨_,_,s3⟩,s4,s5⟩:=st;have l1:=rv1.length;have l2:=rv2.length;refine sF fM D s1 s2 s3 s4 s5 p1.isList p2.isList ?_ λh' hk=>jb
  ·rcases hx with hx|hx
   ·exact .inl (by rw[xG]at hx;simp;omega)
   ·exact .inr (by rw[xG]at hx;simp;omega)
  ·simp only[zF,zd,or_false,not_or]at hb
   exact hk b o hb.1 hb.2.2.1 hb.2.2.2.1 hb.2.2.2.2 e
 self:=λ_ _ _ _ _ st h=>u9 st.1 h
noncomputable def iZip(K:zB)(ta:TA):TI:=λσ H R=>ta σ H λvs H1=>∃a b xs ys,vs=[dq,Cv]/\SqL K H1 a xs/\SqL K H1 b ys/\R KB H1
theorem qkz{X:Cx}{a b:vW}{ta:TA}{p pos tpos:Pos}{elts:iF}{kx}(hg:Eu)(hm:ma)(ha:PA X Cs ta)(hs:oJ:=by rfl)(hs2:BR:=by rfl):
  PI X jx iU (iZip X.K ta):=by
 intro pins s σ H R I h;refine Call_ (q0G I hg hm PyProof.Rows.boot_zip (PyProof.Rows.callWith_type1 (thn eR λus s1 ⟨vs,H1,I1,r1,q1⟩=>?_) (by rw[hs,hs2]) (by rw[hs2];rfl)));obtain⟨l1,l2,xs,ys,e,hq1,hq2,q⟩:=q1;subst e;cases r1 with
 | cons r rr=>
  cases rr with
  | cons r' rr=>
   cases rr;cases r;cases r';obtain⟨its1,rv1,p1,hz1⟩:=I1.list hq1;obtain⟨its2,rv2,p2,hz2⟩:=I1.list hq2;have e1:l1<s1.heap.objs.size:=by obtain⟨_,_,e,_⟩:=p1;exact zM e
   have e2:l2<s1.heap.objs.size:=by obtain⟨_,_,e,_⟩:=p2;exact zM e
   refine call_zip_2 p1.isList p2.isList λh' a1 a2 a3 a4 a5 a6 hk=>?_;refine u9 a1 ?_;have D:ua mm ED EC s1.heap.objs.size kc l1 l2:=by
    generalize s1.heap.objs.size=n at *
    constructor <;> (intro q;simp only[vG]at *;omega)
   refine⟨mm,jr,_,_,H1,rfl,Ch,qfK l1 l2 _ _ _ _ _ D,⟨a1,a2,⟨_,_,a3⟩,a4,a5⟩,aag,q⟩;have hle:s1.heap.objs.size<=c:=by
    simp only[zF,zd,or_false]at hc;simp only[vG]at *;omega
   have I2:=I1.kept (t':=s1.toks) hk;exact I1.fpOk hle HD
end L2
namespace Hk
open PySem L2
noncomputable def zAI:List D->List D->List D
 | a::as,b::bs=>.tup Cs::zAI as bs
 | _,_=>[]
theorem q6s:∀(as bs:aZ),(zAI as bs).length=min as.length bs.length
 | a::as,b::bs=>by show (zAI as bs).length+1=_;rw[q6s as bs,zI,zI];omega
 | [],bs=>by cases bs <;> simp[zAI]
 | a::as,[]=>by simp[zAI]
theorem qa6:∀(as bs:aZ)(i:Nat)(d:D),(zAI as bs)[i]?=some d->∃a b,as[i]?=some a/\bs[i]?=some b/\d=.tup Cs
 | a::as,b::bs,0,d,h=>by cases h;exact⟨a,b,rfl,rfl,rfl⟩
 | a::as,b::bs,i+1,d,h=>qa6 as bs i d h
 | [],bs,i,d,h=>by cases bs <;> cases h
 | a::as,[],i,d,h=>by cases h
theorem qaC{K:zB}{G:Hp}{a b:vG}{ds es:aZ}{vs us:bt}(h1:UI)(h2:o8)(h3:G b=some (.lst us))(h4:RJ):IterOf K KB G (zAI ds es):=by
 have l1:=h2.len;have l2:=h4.len;refine⟨Fw,gX,λH s=>⟨vs,us,K9,SqL.of Mc,?_⟩⟩
 ·rw[q6s]at hi
  exact⟨vs,us,vs[i]'∅,us[i]'∅,K9,SqL.of Mc,zD _,zD _⟩
 ·obtain⟨t,x1,y1,ht,rfl,rfl,y⟩:=hy
  obtain⟨e1,e2⟩:=y vs us RP (SqL.of (s1 _ _ (s0 _ _ h3)));obtain⟨p,q,f1,f2,rfl⟩:=qa6 ds es i d hd;obtain⟨v,q1,q2⟩:=h2.get f1;obtain⟨u,q3,q4⟩:=h4.get f2;rw[e1]at q1;cases q1;rw[e2]at q3;cases q3;have x2:=Ext.lay s1 ht ac5;exact⟨_,x2,⟨t,_,rfl,qe,XR.cons (q2.mono JM) (XR.cons (q4.mono JM) XR.nil)⟩⟩
 ·rw[q6s]
  rcases YN ds.length es.length with h|h
  ·exact .inl Pd
  ·exact .inr Pd
noncomputable def iZp(g:FA):FI:=λω=>(g ω).bind λds=>match ds with
 | [.lst a,.lst b]=>some (zAI a b)
 | _=>none
theorem q71{X:Cx}{a b:vW}{g:FA}{p pos tpos:Pos}{elts:iF}{kx}(hg:Eu)(hm:ma)(ha:XA X Cs g)(hs:oJ:=by rfl)(hs2:BR:=by rfl):
  XI X jx iU (iZp g):=by
 obtain⟨⟨t,h1,h2⟩,_⟩:=ha;refine⟨_,qkz hg hm h1 hs hs2,gE⟩;obtain⟨vs,q,e⟩:=bnd e;refine h2 G0 H0 G ω σ H vs _ o q λus G1 H1 x1 y1=>?_
 match vs,e with
 | [.lst as,.lst bs],e=>
  cases e;obtain⟨v1,r1,rfl,z1,z2⟩:=y1;obtain⟨v2,r2,rfl,z3,z4⟩:=z2;cases (show r2=[]from z4);obtain⟨a1,ws1,rfl,f1,f2⟩:=z1;obtain⟨a2,ws2,rfl,f3,f4⟩:=z3;exact jt
section
open PySem.Spec PyProof.Rows
variable{X:Cx}
end
end Hk
namespace Hk
open PySem L2 PyProof.Rows
noncomputable def zCQ(k:Int):List Int->Option Nat
 | []=>none
 | a::r=>if a=k then some 0 else (zCQ k r).map (·+1)
theorem qcv{k:Int}:∀{ns:af}{its:bx},Xj ca its->PySem.W.kf_ints its=true/\Yy k its=zCQ k ns
 | [],its,h=>by cases h;exact cT
 | a::r,its,h=>by
  cases h with
  | cons h1 h2=>
   obtain⟨t,rfl⟩:=h1;obtain⟨e1,e2⟩:=qcv (k:=k) h2;refine⟨e1,?_⟩;unfold Yy zCQ;rw[e2]
   by_cases z:a=k
   ·have:isInt k abL=true:=by simp[isInt,z]
    rw[this,gz];rfl
   ·have:isInt k abL=false:=by simp[isInt,z]
    rw[this,gc];cases zCQ k r <;> rfl
section
variable{X:Cx}{pos:Pos}{o e:vW}{apos cpos:Pos}{i:Nat}{fd:FD}
end
end Hk
namespace Hk
open PySem L2
section
variable{X:Cx}{o c:vW}{body:List vp}{pos ipos npos:Pos}{i j:Nat}{fc:FT}{fb:FS}
end
noncomputable def dropW(o:Ky)(ω:WSt):Option eI:=o.map λ_=>Cw
noncomputable def zipI(o:A9):Option aZ:=o.bind λds=>match ds with
 | [.lst a,.lst b]=>some (zAI a b)
 | _=>none
noncomputable def sortR(o:eQ):Option R:=o.bind zCb
section
variable{ω:WSt}{fe:FE}{fd:FD}{fa:FA}{r:R}{ds as bs:List D}{i j:Nat}{f:FS}{ft:FT}{m:List D->List D}
theorem qcK:zBT fe ω=dropW Mt ω:=rfl
theorem e_wd:dropW (some r) ω=some Cw:=rfl
theorem qf5:iZp fa ω=zipI Mu:=rfl
theorem e_wz:zipI (some [.lst as,.lst bs])=some (zAI as bs):=rfl
theorem qcD:zBE fd ω=sortR nD:=rfl
end
theorem qby{ns:af}(h:Rs):sortR (some QJ)=some mO:=by
 show (intsOf cY).bind _=_;rw[qR];exact vH h
end Hk
namespace L2
open PySem PySem.Spec PyProof.Rows
section
variable{κ:Type}[DecidableEq κ]
noncomputable def W9(kvs:gR)(k:κ):Option V:=(kvs.find? λkv=>decide Ru).map (·.2)
noncomputable def putK(kvs:gR)(k:κ)(v:V):List (κ×V) :=
 if jY=true then kvs.map (λkv=>if kv.1=k then (kv.1,v)else kv)else kvs++[(k,v)]
theorem q4T{p:κ×V}{r:gR}{k:κ}(e:p.1=k):W9 (p::r) k=some p.2:=by simp[W9,xz,e]
theorem q4E{p:κ×V}{r:gR}{k:κ}(e:¬p.1=k):W9 (p::r) k=W9 r k:=by simp[W9,xz,e]
theorem q6k(k:κ):∀kvs:List (κ×V),jY=(W9 kvs k).isSome
 | []=>rfl
 | p::r=>by
  rw[Z5]
  by_cases e:p.1=k
  ·simp only[q4T e,vT e,YO,Option.isSome_some]
  ·rw[q4E e,vX e,Z6];exact q6k k r
theorem q46(kvs:gR)(k:κ)(v:V):(putK kvs k v).length<=kvs.length+1:=by
 unfold putK
 split
 ·rw[zA];omega
 ·rw[zC,zI,xV];omega
theorem qfT{kvs:gR}{k:κ}(v:V)(h:W9 kvs k=none):putK kvs k v=kvs++[(k,v)]:=by
 unfold putK;rw[q6k,h];exact vJ (by decide)
theorem zBP.isSome_eq{o:Ao}{u:AN}(r:zBP o u):o.isSome=u.isSome:=by
 cases o with
 | none=>cases u with
  | none=>rfl
  | some _=>exact(show False from r).elim
 | some _=>cases u with
  | none=>exact(show False from r).elim
  | some _=>rfl
theorem zBP.getD{o:Ao}{u:AN}{d:V}{d':vB}(r:zBP o u)(rd:RelV d d'):RelV (o.getD d) (u.getD d'):=by
 cases o with
 | none=>cases u with
  | none=>exact rd
  | some _=>exact(show False from r).elim
 | some _=>cases u with
  | none=>exact(show False from r).elim
  | some _=>exact r
theorem KV.val{kvs:gR}{vs:nF}(r:Ba)(k:κ):zBP MQ (sM vs k):=by
 unfold KV at r
 induction r with
 | nil=>exact True.intro
 | @cons p q ps qs h t ih=>
  obtain⟨h1,h2⟩:=h
  by_cases e:p.1=k
  ·have e':q.1=k:=h1.symm.trans e
   have b:sM Vf k=some q.2:=by simp[sM,xz,e']
   rw[q4T e,b];exact h2
  ·have e':¬q.1=k:=λz=>e IP
   have b:sM Vf k=sM qs k:=by simp[sM,xz,e']
   rw[q4E e,b];exact ih
theorem KV.any{kvs:gR}{vs:nF}(r:Ba)(k:κ):jY=vs.any λkv=>decide Ru:=by
 unfold KV at r
 induction r with
 | nil=>rfl
 | cons h t ih=>rw[Z5,Z5,ih,h.1]
theorem KV.repl{kvs:gR}{vs:nF}(r:Ba)(k:κ){y:V}{u:vB}(ry:Bn):
  KV (kvs.map λkv=>if kv.1=k then (kv.1,y)else kv) (vs.map λkv=>if kv.1=k then (kv.1,u)else kv):=by
 unfold KV at r ⊢
 induction r with
 | nil=>exact .nil
 | @cons p q ps qs h t ih=>
  rw[zU,zU];refine .cons ?_ ih;obtain⟨h1,h2⟩:=h
  by_cases e:p.1=k
  ·rw[vH e,TB];exact⟨h1,ry⟩
  ·rw[vJ e,vJ (λz=>e IP)];exact⟨h1,h2⟩
theorem KV.put{kvs:gR}{vs:nF}(r:Ba)(k:κ){y:V}{u:vB}(ry:Bn):KV acB (stored vs k u):=by
 unfold putK stored;rw[r.any k]
 by_cases e:(vs.any λkv=>decide Ru)=true
 ·rw[vH e,vH e];exact r.repl k ry
 ·rw[vJ e,vJ e];exact Paired.snoc r ⟨rfl,ry⟩
theorem KV.keys{kvs:gR}{vs:nF}(r:Ba):kvs.map (·.1)=vs.map (·.1):=by
 unfold KV at r
 induction r with
 | nil=>rfl
 | cons h t ih=>rw[zU,zU,ih,h.1]
theorem KV.length{kvs:gR}{vs:nF}(r:Ba):kvs.length=vs.length:=Paired.length r
end
theorem q4t{P:vU}{w:vZ}{k:Key}{u:vB}(r:RelV TZ u):(Xf P w).is k u=true:=by
 cases k with
 | inl i=>obtain⟨t,e⟩:=(show ∃t,u=Value.int i t from r);subst e;exact qbe P w i t
 | inr x=>obtain⟨t,e⟩:=(show ∃t,u=Value.str x t from r);subst e;exact qaY P w x t
theorem q8C{P:vU}{w:vZ}:∀{ks:Oi}{us:bx},Xj Rv us->ItemsAre oE ks us
 | [],_,r=>by rw[yz]at r;cases r;exact .nil
 | k::ks,_,r=>by
  rw[zU]at r;cases r with
  | cons h t=>exact .cons (q4t h) (q8C t)
abbrev KT(H:Hp):List PQ->List io->Prop:=sq λp q=>p.1=q.1/\H q.2.1=some SW/\RelV p.2 q.2.2
theorem KT.val{H:Hp}{kvs:jy}{xs:RV}(r:LL)(k:Oi):zBP MQ ((rB xs k).map (·.2)):=by
 induction r with
 | nil=>exact True.intro
 | @cons p q ps qs h t ih=>
  obtain⟨h1,_,h2⟩:=h
  by_cases e:p.1=k
  ·have e':q.1=k:=h1.symm.trans e
   have b:rB Vf k=some q.2:=by simp[rB,xz,e']
   rw[q4T e,b];exact h2
  ·have e':¬q.1=k:=λz=>e IP
   have b:rB Vf k=rB qs k:=by simp[rB,xz,e']
   rw[q4E e,b];exact ih
theorem KT.repl{H:Hp}{kvs:jy}{xs:RV}(r:LL)(k:Oi){y:V}{u:vB}(ry:Bn):
  KT H (kvs.map λkv=>if kv.1=k then (kv.1,y)else kv) (xs.map (putAt k u)):=by
 induction r with
 | nil=>exact .nil
 | @cons p q ps qs h t ih=>
  rw[zU,zU];refine .cons ?_ ih;obtain⟨h1,h2,h3⟩:=h;unfold putAt
  by_cases e:p.1=k
  ·rw[vH e,TB];exact⟨h1,h2,ry⟩
  ·rw[vJ e,vJ (λz=>e IP)];exact⟨h1,h2,h3⟩
theorem KT.put{H:Hp}{kvs:jy}{xs:RV}(r:LL)(k:Oi){b:vG}{y:V}{u:vB}(hb:H b=some Jc)(ry:Bn):
  KT H acB (storedH xs k b u):=by
 have e:jY=(rB xs k).isSome:=by
  rw[q6k,(r.val k).isSome_eq,YQ]
 unfold putK storedH;rw[e]
 by_cases q:(rB xs k).isSome=true
 ·rw[vH q,vH q];exact r.repl k ry
 ·rw[vJ q,vJ q];exact Paired.snoc r ⟨rfl,hb,ry⟩
theorem KT.keeps{H H':Hp}{kvs:jy}{xs:RV}(r:LL)(ht:∀b ys,H b=some ab2->H' b=some ab2):KT H' kvs xs :=
 Paired.mapP r λ_ _ z=>LS
section
variable{P:vU}{w:vZ}{H:Hp}{h:vm}{a:vG}
theorem qhF{u:HO}(ok:iM)(e:Rd H a u):Xk P w H h a u:=e.ok ok
theorem q4J{kvs:eF}(ok:iM)(e:Rd H a ce):kvs.length<=sizeLine/\BD=false/\∃vs,KV kvs vs/\h.DictOf oE a vs :=
 show Xk P w H h a ce from qhF ok e
theorem qdk{kvs:eF}(ok:iM)(e:LN):kvs.length<=sizeLine/\BD=false/\∃vs,KV kvs vs/\h.DictOf oE a vs:=q4J ok (.inl e)
theorem q5u{ks:Oi}(ok:iM)(e:H a=some (.tup Rv)):(tW oE).is h ks a:=by
 obtain⟨_,its,r,o,h1,h2,n,h3⟩:=(show Xk P w H h a (.tup Rv)from ok a _ e);exact⟨o,its.toArray,n,h1,h2,h3,by simpa using q8C r⟩
theorem q5R{kvs:jy}(ok:iM)(e:Rd H a AE):kvs.length<=sizeLine/\BD=false /\
  ∃xs,KT H kvs xs/\h.DictOfH (tW oE) a xs:=by
 obtain⟨z,y,xs,r,o,es,ep,h1,h2,h3,h4,h5⟩:=(show Xk P w H h a AE from qhF ok e);refine⟨z,y,xs,r,o,es,ep,h1,h2,h3,h4,λx hx=>?_,h5⟩;have all:∀{l:jy}{m:RV},KT H l m->∀x∈m,(tW oE).is h x.1 x.2.1:=by
  intro l m q
  induction q with
  | nil=>intro x hx;exact nomatch hx
  | @cons p q ps qs hq t ih=>
   intro x hx;rcases zF.mp hx with e|hx
   ·subst e
    exact q5u ok (by rw[<- hq.1];exact hq.2.1)
   ·exact ih x hx
 exact all r x hx
theorem qkZ{kvs:jy}(ok:iM)(e:H a=some AE):kvs.length<=sizeLine/\BD=false /\
  ∃xs,KT H kvs xs/\h.DictOfH (tW oE) a xs:=q5R ok (.inl e)
end
def zAe(H:Hp)(a:vG)(y:V)(r:Ao):Prop :=
 (∃kvs k,Rd H a ce/\y=kV k/\r=W9 kvs k)\/∃kvs k b,Rd H a AE/\y=.ref b/\H b=some Jc/\r=W9 kvs k
def zCj(H:Hp)(a:vG)(y v:V)(H':Hp):Prop :=
 (∃kvs k,H a=some ce/\y=kV k/\kvs.length<sizeLine/\H'=upd H a (.dK Mj)) \/
 ∃kvs k b,H a=some AE/\y=.ref b/\H b=some Jc/\kvs.length<sizeLine/\H'=upd H a (.dT Mj)
theorem zAe.k{H:Hp}{a:vG}{kvs:eF}{k:Key}(e:LN):zAe H a TZ MQ:=.inl ⟨kvs,k,.inl e,rfl,rfl⟩
theorem zCj.k{H:Hp}{a:vG}{kvs:eF}{k:Key}{v:V}(e:LN)(hl:Vn):zCj H a TZ v (upd H a (.dK Mj)):=.inl ⟨kvs,k,e,rfl,hl,rfl⟩
section
variable{X:Cx}{pins:List (vG×Obj)}{σ:St}{H:Hp}{s:vC}{a:vG}{y v:V}{u r:vB}{o:Option V}{A:vf}{E:vB->vC->Prop}
theorem Inv.big(I:aq):uP<s.heap.objs.size:=by
 have h:vY<s.heap.objs.size:=(I.mod.glob.keeps I.bk).lt;exact YK (by decide) h
theorem qev{Q:aH}(hu:JY)(I:aq)(g:zAe H a y nh)(ry:Bn)(h:∀w' s',Inv X pins σ H s'->RelV v w'->Q w' s'):
  vM ao A (tK dq u) Q E s:=by
 rcases g with⟨kvs,k,e,ey,l⟩|⟨kvs,k,b,e,ey,eb,l⟩
 ·subst ey
  obtain⟨z,hd,vs,rel,dd⟩:=q4J I.hok e;obtain⟨w',hw,rw'⟩:=zBP.some_of (v:=v) (o:=sM vs k) (by rw[l];exact rel.val k);exact wpAny_getItem_of Mf dd.mapOf hw (h w' _ iL rw')
 ·subst ey
  cases (show u=Value.ref b from ry);obtain⟨z,hd,xs,rel,dd⟩:=q5R I.hok e;obtain⟨w',hw,rw'⟩:=zBP.some_of (v:=v) (o:=(rB xs k).map (·.2)) (by rw[l];exact rel.val k);obtain⟨p,hp,hp2⟩:=wQ.mp hw;refine wpAny_getItem_heap (uw hu) FH dd hp ?_;rw[hp2];exact h w' _ iL rw'
theorem qi6{Q:aH}(hu:JY)(I:aq)(g:Tr)(ry:Bn)(h:∀s',Inv X pins σ H s'->Q (.bool (!o.isSome)) s'):
  vM ao A (uW .NotIn u dq) Q E s:=by
 rcases g with⟨kvs,k,e,ey,l⟩|⟨kvs,k,b,e,ey,eb,l⟩
 ·subst ey
  obtain⟨z,hd,vs,rel,dd⟩:=q4J I.hok e;refine wpAny_notIn_of Mf hd dd.mapOf ?_;rw[<- (rel.val k).isSome_eq,<- l];exact h _ iL
 ·subst ey
  cases (show u=Value.ref b from ry);obtain⟨z,hd,xs,rel,dd⟩:=q5R I.hok e;refine wpAny_notIn_heap (uw hu) FH hd dd ?_;have q:=(rel.val k).isSome_eq;rw[YQ]at q;rw[<- q,<- l];exact h _ iL
theorem q5Z{h':vm}{t':Nat}{ob:HO}(I:aq)(mu:Mut (H a))(hs:xn a s.heap h')(he:∃q,h'.get? a=some q)(new:Xk X.prog X.w (upd H a ob) h' a ob):
  Inv X pins σ (upd H a ob) { s with heap:=h',toks:=t' } :=
 I.write (x:=a) (e:=a) mu bu (λb q hb z=>(hs.2 b hb).trans z) he new
theorem q9v{P:vU}{w:vZ}{H':Hp}{h':vm}{kvs:eF}{vs:Gp}(z:kvs.length<=sizeLine)(hd:BD=false)(rel:Ba)(dd:h'.DictOf oE a vs):
  Xk P w H' h' a ce:=⟨z,hd,vs,rel,dd⟩
theorem qej{H':Hp}{Q:pb}(hu:JY)(I:aq)(g:zCj H a y v H')(ry:Bn)(rv:RelV v r)(h:∀s',Inv X pins σ H' s'->Q () s'):
  vM ao A (setItem dq u r) Q E s:=by
 rcases g with⟨kvs,k,e,ey,l,eH⟩|⟨kvs,k,b,e,ey,eb,l,eH⟩
 ·subst ey eH
  obtain⟨z,hd,vs,rel,dd⟩:=qdk I.hok e;have hz:vs.length<=sizeLine:=by rw[<- rel.length];exact z
  have hl:(putK kvs k v).length<=sizeLine:=by have:=q46 kvs k v;omega
  refine wpAny_setItem_pairs (hsz:=hz) Mf dd λh' dd' hs=>h _ ?_;have he:∃q,h'.get? a=some q:=let ⟨q,_,_,hq,_⟩:=dd';Nv
  exact q5Z I (by rw[e];exact True.intro) hs he (q9v hl hd (rel.put k rv) dd')
 ·subst ey eH
  cases (show u=Value.ref b from ry);obtain⟨z,hd,xs,rel,dd⟩:=qkZ I.hok e;have hz:xs.length<=sizeLine:=by rw[<- Paired.length rel];exact z
  have hl:(putK kvs k v).length<=sizeLine:=by have:=q46 kvs k v;omega
  refine wpAny_setItem_heap (hsz:=hz) (uw hu) FH dd λh' dd' hs=>h _ ?_;obtain⟨q,es,ep,hq,h2,h3,h4,_,h5⟩:=dd';refine q5Z I (by rw[e];exact True.intro) hs Nv ⟨hl,hd,_,(rel.put k eb rv).keeps λc ys ec=>?_,q,es,ep,hq,h2,h3,h4,h5⟩;rw[qd (qkH ec e (λz=>nomatch z))];exact ec
end
section
variable{X:Cx}{pins:List (vG×Obj)}{σ:St}{H:Hp}{s:vC}{a:vG}{kvs:List (Key×V)}{k:Key}{u:vB}{A:vf}{E:vB->vC->Prop}
end
def NoSl(i:vW):Prop:=∀ov iv,subscripted i false ov iv=operate [ov,iv] (tK ov iv)
theorem qiL{prog:vU}{w:vZ}{A:vf}{E:aH}{s:vC}{env:Env}{value slice:vW}{pos:Pos}{T id:String}{Q:aH}(hl:u6 AD "__getitem__" = pure (some jd))(hs:NoSl slice)(h:vM aj A (eval value env) (λo s₁=>vM aj A (eval slice env) (λi s₂=>s₂.TypeIs o T/\vM aj A (tK o i) Q E s₂) E s₁) E s):
  vM aj A (eval (.Subscript value slice pos) env) Q E s:=by
 refine Subscript_ (vz h (λo s₁ h₁=>vz h₁ (λi s₂ h₂=>?_) λ_ _ x=>x) λ_ _ x=>x);obtain⟨hT,h₂⟩:=h₂;unfold sO;refine vA ?_;rw[getitemInPython_of_ne hT.not_modules];refine vA (uf hT hl ?_);have fin:vM aj A (subscripted slice false o i) (λr s₃=>vM aj A (letTemporaryGo value o r >>= λ_=>pure r) Q E s₃) E s₂:=by
  rw[hs o i];exact wpAny_operating (vz h₂ (λr s₃ h₃=>vA (wpAny_letTemporaryGo (vF h₃))) λ_ _ x=>x)
 first
  | exact vF (vA fin)
  | exact vA (vF (vA fin))
  | exact vA fin
theorem qbf{X:Cx}{pins:aA}{σ:St}{H:Hp}{s:vC}{a:vG}{y:V}{o:Ao}(I:aq)(g:Tr):s.TypeIs dq "dict" := by
 rcases g with⟨kvs,k,e,_,_⟩|⟨kvs,k,b,e,_,_,_⟩
 ·obtain⟨_,_,vs,_,dd⟩:=q4J I.hok e
  exact dd.typeIs
 ·obtain⟨_,_,xs,_,dd⟩:=q5R I.hok e
  exact dd.typeIs
noncomputable def zCn(td ty:TE):TE:=λσ H Q=>td σ H λx H1=>ty σ H1 λy H2=>∃a v,x=.ref a/\zAe H2 a y nh/\Q v H2
noncomputable def tDIn(ty td:TE):TE:=λσ H Q=>ty σ H λy H1=>td σ H1 λx H2=>∃a o,x=.ref a/\zAe H2 a y o/\Q (.bl o.isSome) H2
noncomputable def zB2(ty td:TE):TE:=λσ H Q=>ty σ H λy H1=>td σ H1 λx H2=>∃a o,x=.ref a/\zAe H2 a y o/\Q (.bl (!o.isSome)) H2
noncomputable def sDPut(td ty tv:TE):TS:=λD σ H=>tv σ H λv H1=>td σ H1 λx H2=>ty σ H2 λy H3=>∃a H4,x=.ref a/\zCj H3 a y v H4/\D.nx σ H4
section
variable{X:Cx}{o i e value:vW}{pos pos' tpos:Pos}{td ty tv:TE}
theorem q5K(hu:Gg)(ho:Lb)(hi:PE X i ty)(hs:NoSl i):PE X E4 (zCn td ty):=by
 intro pins s σ H Q I h;refine qiL PySem.F.slot_dict_getitem.lookup hs (thn iZ λu s1 ⟨x,H1,I1,rx,q1⟩=>thn Mo λiv s2 ⟨y,H2,I2,ry,a,v,ex,g,q2⟩=>?_);subst ex;obtain rfl:u=Value.ref a:=rx;exact⟨qbf I2 g,qev hu I2 g ry λw' s3 I3 rw'=>⟨v,H2,I3,rw',q2⟩⟩
theorem qdO(hu:Gg)(hi:PE X i ty)(ho:Lb):PC X .NotIn i o (zB2 ty td):=by
 intro pins s σ H Q I h;refine thn CM λiv s1 ⟨y,H1,I1,ry,q1⟩=>thn Mn λu s2 ⟨x,H2,I2,rx,a,ov,ex,g,q2⟩=>?_;subst ex;obtain rfl:u=Value.ref a:=rx;exact qi6 hu I2 g ry λs3 I3=>⟨.bl (!ov.isSome),H2,I3,rfl,q2⟩
theorem qc9(hu:Gg)(ho:Lb)(hi:PE X i ty)(hv:PE X value tv)(hs:uD value (some S4) pos.line X.env=pure false):
  PS X (.Assign [S4] value pos) (sDPut td ty tv):=by
 intro pins s σ H D I h;refine wpAny_Assign_Subscript (thn (hv pins s σ H _ I h) λr s1 ⟨v,H1,I1,rv,q1⟩=>thn Mn λu s2 ⟨x,H2,I2,rx,q2⟩=>thn (hi pins s2 σ H2 _ I2 q2) λiv s3 ⟨y,H3,I3,ry,a,H4,ex,g,q3⟩=>?_) hs;subst ex;obtain rfl:u=Value.ref a:=rx;exact qej hu I3 g ry rv λs4 I4=>⟨σ,H4,I4,q3⟩
end
theorem qaO{P:vU}{w:vZ}{H:Hp}(h:vm)(hb:uP<h.objs.size):Xk P w H (h.push { cls:=.type "dict", data:=.dict #[] }) h.objs.size Jw :=
 ⟨B5,beq_eq_false_iff_ne.mpr (Ne.symm (zu hb)),[],.nil,Heap.DictOf.new h⟩
noncomputable def tDNewK:TE:=λ_ H Q=>∀p,H p=none->Q bw kU
section
variable{X:Cx}{pos:Pos}
theorem q6j:PE X (.Dict [] [] pos) tDNewK:=λpins s σ H Q I h=>
 wpAny_Dict_empty ⟨aC,_,I.laid (a:=s.heap.objs.size) (o:=.dK []) (t':=s.toks) Iv bM TL,rfl,h _ mL⟩
end
def zBp:List (TE×TE)->St->Hp->QI->Prop
 | [],_,H,Q=>Q [] H
 | (tk,tv)::r,σ,H,Q=>tk σ H λx H1=>tv σ H1 λy H2=>zBp r σ H2 λps H3=>Q ((x,y)::ps) H3
abbrev VV:List (V×V)->List (vB×vB)->Prop:=sq λp q=>RelV p.1 q.1/\RelV p.2 q.2
def PPs(X:Cx)(pos:Pos)(keys:List DP)(values:iF)(trs:Ih):Prop :=
 ∀(pins:aA)(s:vC)(σ:St)(H:Hp)(Q:QI),Inv X pins σ H s->zBp trs σ H Q ->
  vM ao X.A (evalPairs (pairTrees keys values X.env pos)) (λvs s'=>∃ps H',Inv X pins σ H' s'/\VV ps vs/\Q ps H') X.xe s
theorem qiI{X:Cx}{pos:Pos}:PPs X pos [] [] []:=λpins s σ H Q I h=>pairTrees_nil_walk GW
theorem qgs{X:Cx}{pos:Pos}{k v:vW}{ks:List DP}{vs:iF}{tk tv:TE}{trs:Ih}(hk:PE X k tk)(hv:PE X v tv)(hr:PPs X pos ks vs trs):
  PPs X pos (some k::ks) (v::vs) ((tk,tv)::trs):=λpins s σ H Q I h=>
 pairTrees_cons_walk (thn (hk pins s σ H _ I h) λu s1 ⟨x,H1,I1,rx,q1⟩=>thn (hv pins s1 σ H1 _ I1 q1) λw2 s2 ⟨y,H2,I2,ry,q2⟩=>
  thn (hr pins s2 σ H2 _ I2 q2) λws s3 ⟨ps,H3,I3,rel,q3⟩=>⟨(x,y)::ps,H3,I3,.cons ⟨rx,ry⟩ rel,q3⟩)
noncomputable def zAK(kvs more:eF):List RX:=more.foldl (λacc kv=>putK acc kv.1 kv.2) kvs
theorem KV.merge:∀{more:eF}{rs:Gp}{kvs:eF}{vs:Gp},KV more rs->KV kvs vs->KV (zAK kvs more) (merged vs rs):=by
 intro more rs kvs vs r;unfold KV at r
 induction r generalizing kvs vs with
 | nil=>intro q;exact q
 | @cons p q ps qs h t ih=>
  intro r0;have e:KV Hd (stored vs q.1 q.2):=by
   have:=r0.put p.1 h.2;rw[<- h.1];exact this
  exact ih e
theorem q52:∀(more kvs:eF),(zAK kvs more).length<=kvs.length+more.length
 | [],kvs=>by show kvs.length<=kvs.length+0;omega
 | p::r,kvs=>by
  have h1:=q52 r Hd;have h2:=q46 kvs p.1 p.2;show (zAK Hd r).length<=_;rw[zI];omega
theorem q70{P:vU}{w:vZ}:∀{kvs:eF}{ws:List (vB×vB)},VV (kvs.map λkv=>acM) ws->∃rs,Carries oE ws rs/\KV kvs rs
 | [],_,r=>by rw[yz]at r;cases r;exact⟨[],True.intro,.nil⟩
 | p::kvs,_,r=>by
  rw[zU]at r;cases r with
  | @cons a b as bs h t=>
   obtain⟨rs,c,q⟩:=q70 (P:=P) (w:=w) t;obtain⟨b1,b2⟩:=b;exact⟨(p.1,b2)::rs,⟨q4t h.1,rfl,c⟩,.cons ⟨rfl,h.2⟩ q⟩
noncomputable def tDisp(trs:Ih):TE:=λσ H Q=>∀p,H p=none->zBp trs σ kU λps H2=>H2 p=some Jw/\∃kvs:List RX,ps=kvs.map (λkv=>acM)/\kvs.length<=15/\Q bw (upd H2 p (.dK (zAK [] kvs)))
theorem qi3{X:Cx}{pos:Pos}{keys:List DP}{values:iF}{trs:Ih}(h:PPs X pos keys values trs)(hall:keys.all (·.isSome)=true)(hl:keys.length=values.length)(h0:keys≠[])(h15:keys.length<=15):PE X (.Dict keys values pos) (tDisp trs):=by
 intro pins s σ H Q I q;have hn:=I.hok.fresh (zN s.heap.objs.size);have I1:=I.laid (a:=s.heap.objs.size) (o:=.dK []) (h':=s.heap.push { cls:=.type "dict", data:=.dict #[] }) (t':=s.toks) Iv bM TL;refine wpAny_Dict_walk (knd:=Xf X.prog X.w) hall hl h0 h15 (thn (h pins _ σ _ _ I1 (q _ hn)) λws s2 ⟨ps,H2,I2,rel,e,kvs,ep,lk,q2⟩=>?_);subst ep;obtain⟨rs,c,rk⟩:=q70 (P:=X.prog) (w:=X.w) rel;obtain⟨z,hd,vs0,r0,dd⟩:=qdk I2.hok e;cases r0;refine⟨rs,c,dd,λh' dd' hs=>⟨aC,_,?_,rfl,q2⟩⟩;have hz:(zAK [] kvs).length<=sizeLine:=by
  have h1:=q52 kvs [];rw[xV]at h1;rw[vj];omega
 have he:∃q,h'.get? s.heap.objs.size=some q:=let ⟨q,_,_,hq,_⟩:=dd';Nv
 exact q5Z I2 (by rw[e];exact True.intro) hs he (q9v hz hd (rk.merge .nil) dd')
structure M2 (X:Cx) (o:vW) (m:Str) (apos:Pos) (e f:vW) (cpos:Pos):Prop where
 base:uU o m X.env (eval o X.env)=eval o X.env
 few:((vt cpos (vK [e,f] X.env)).all (λx=>!x.1)&&(uX cpos (v8 [] X.env)).all (λx=>x.1.isSome)
  && decide (([e,f]:List vW).length+([]:List uZ).length+(if ([]:List uZ).isEmpty then 0 else 1)<30))=true
 line:(apos.endLine==cpos.line)=true
 trees:vt cpos (vK [e,f] X.env)=[(false,eval e X.env),(false,eval f X.env)]
def IsD(H:Hp)(a:vG):Prop:=(∃kvs,Rd H a ce)\/∃kvs,Rd H a AE
theorem qfr{X:Cx}{pins:aA}{σ:St}{H:Hp}{s:vC}{a:vG}(I:aq)(d:IsD H a):
  s.TypeIs dq "dict" /\ (∀b,Value.ref a=.ref b->∃ob,s.heap.get? b=some ob/\ob.dict=none)/\BD=false:=by
 rcases d with⟨kvs,e⟩|⟨kvs,e⟩
 ·obtain⟨_,hd,vs,_,dd⟩:=q4J I.hok e
  refine LU;cases q;obtain⟨ob,_,_,h1,h2,_⟩:=dd;exact aab
 ·obtain⟨_,hd,xs,_,dd⟩:=q5R I.hok e
  refine LU;cases q;obtain⟨ob,_,_,h1,h2,_⟩:=dd;exact aab
section
variable{X:Cx}{pins:List (vG×Obj)}{σ:St}{H:Hp}{s:vC}{a:vG}{y d:V}{u r:vB}{o:Option V}{A:vf}{E:vB->vC->Prop}
theorem qkw{Q:aH}(hu:JY)(I:aq)(g:Tr)(ry:Bn)(rd:RelV d r)(h:∀w' s',Inv X pins σ H s'->RelV (o.getD d) w'->Q w' s'):
  vM ao A (call (.builtin "dict.get") [dq,u,r]) Q E s:=by
 rcases g with⟨kvs,k,e,ey,l⟩|⟨kvs,k,b,e,ey,eb,l⟩
 ·subst ey
  obtain⟨z,hd,vs,rel,dd⟩:=q4J I.hok e;refine sf PySem.F.slot_dict_get dd.typeIs PySem.F.entry_dict_get Jr (meets_dict_get_default nj a Mf hd r) ⟨_,dd.mapOf,h _ _ iL ?_⟩;rw[l];exact(rel.val k).getD rd
 ·subst ey
  cases (show u=Value.ref b from ry);obtain⟨z,hd,xs,rel,dd⟩:=q5R I.hok e;refine sf PySem.F.slot_dict_get dd.typeIs PySem.F.entry_dict_get Jr (meetsH_dict_get_default (tW nj) a b hd r) ⟨uw hu,k,xs,FH,dd,h _ _ iL ?_⟩;rw[l];exact(rel.val k).getD rd
end
noncomputable def zBu(td ty tx:TE):TE:=λσ H Q=>td σ H λx H1=>∃a,x=.ref a/\IsD H1 a/\ty σ H1 λy H2=>tx σ H2 λz H3=>∃o,zAe H3 a y o/\Q (o.getD z) H3
section
variable{X:Cx}{o e f:vW}{apos cpos:Pos}{td ty tx:TE}
theorem qax(hu:Gg)(ho:Lb)(he:PE X e ty)(hf:PE X f tx)(m:M2 X o "get" apos e f cpos):PE X (.Call (.Attribute o "get" apos) [e,f] [] cpos) (zBu td ty tx):=by
 intro pins s σ H Q I h;refine wpAny_Call_method m.base m.few m.line PySem.F.plainAttrs_dict PySem.F.slot_dict_get PySem.F.type_dict_get (thn iZ λu s1 ⟨x,H1,I1,rx,a,ex,d,q1⟩=>?_);subst ex;obtain rfl:u=Value.ref a:=rx;obtain⟨t1,t2,_⟩:=qfr I1 d;refine⟨t1,t2,?_⟩;rw[m.trees];refine Calls.callWith_builtin rfl (Calls.evalArgs_plain (Calls.spliced_cons (thn Mq λiv s2 ⟨y,H2,I2,ry,q2⟩=>
  Calls.spliced_cons (thn Mp λfv s3 ⟨z,H3,I3,rz,ov,g,q3⟩=>Calls.spliced_nil ?_))))
 exact qkw hu I3 g ry rz λw' s4 I4 rw'=>⟨_,H3,I4,rw',q3⟩
end
section
variable{X:Cx}{pins:List (vG×Obj)}{σ:St}{H:Hp}{s:vC}{a:vG}{kvs:List (Key×V)}{A:vf}{E:vB->vC->Prop}
end
section
variable{X:Cx}{pins:List (vG×Obj)}{σ:St}{H:Hp}{s:vC}{a:vG}{y:V}{u:vB}{A:vf}{E:vB->vC->Prop}
end
end L2
namespace Hk
open PySem L2
noncomputable def Xg{α:Type}:List Int->List α->Int->Option α
 | k'::ks,x::xs,k=>if k'=k then some x else Xg ks xs k
 | _,_,_=>none
noncomputable def repA{α:Type}:List Int->List α->Int->α->List α
 | k'::ks,x::xs,k,y=>(if k'=k then y else x)::repA ks xs k y
 | _,xs,_,_=>xs
noncomputable def Wm(ks:af)(k:Int):List Int:=if k∈ks then ks else ks++[k]
noncomputable def putA{α:Type}(ks:af)(xs:bE)(k:Int)(y:α):List α:=if k∈ks then repA ks xs k y else xs++[y]
theorem q9f{α:Type}:∀(ks:af)(xs:bE)(k:Int)(y:α),(repA ks xs k y).length=xs.length
 | [],xs,_,_=>rfl
 | _::_,[],_,_=>rfl
 | k'::ks,x::xs,k,y=>by show (repA ks xs k y).length+1=xs.length+1;rw[q9f ks xs k y]
theorem qiP{α:Type}{ks:af}{xs:bE}(k:Int)(y:α)(h:ks.length=xs.length):(Wm ks k).length=(putA ks xs k y).length:=by
 unfold Wm putA
 by_cases z:k∈ks
 ·rw[gz,gz,q9f];exact h
 ·rw[gc,gc,zC,zC,h];rfl
theorem q0d:∀{ks:af}{vs:bt},ks.length=vs.length->∀k,W9 jX AM=Xg ks vs k
 | [],[],_,k=>rfl
 | [],_::_,h,_=>by simp at h
 | _::_,[],h,_=>by simp at h
 | k'::ks,v::vs,h,k=>by
  show W9 ((abN,v)::kvsOf ks vs) AM=if k'=k then some v else Xg ks vs k
  by_cases z:k'=k
  ·rw[gz,q4T (p:=(kz,v)) (by rw[z])]
  ·rw[gc,q4E (p:=(kz,v)) Bs]
   exact q0d ⇑h k
theorem q2D:∀{ks:af}{vs:bt},ks.length=vs.length->(kvsOf ks vs).length=ks.length
 | [],[],_=>rfl
 | [],_::_,h=>by simp at h
 | _::_,[],h=>by simp at h
 | k'::ks,v::vs,h=>by show (kvsOf ks vs).length+1=_;rw[q2D ⇑h];rfl
theorem q7p:∀{ks:af}{vs:bt},ks.length=vs.length->(kvsOf ks vs).map (·.1)=ks.map HA
 | [],[],_=>rfl
 | [],_::_,h=>by simp at h
 | _::_,[],h=>by simp at h
 | k'::ks,v::vs,h=>by show kz::(kvsOf ks vs).map (·.1)=_;rw[q7p ⇑h];rfl
theorem q8v:∀{ks:af}{vs:bt},ks.length=vs.length->∀k,(kvsOf ks vs).any (λkv=>decide (kv.1=lh))=decide (k∈ks)
 | [],[],_,_=>rfl
 | [],_::_,h,_=>by simp at h
 | _::_,[],h,_=>by simp at h
 | k'::ks,v::vs,h,k=>by
  show (decide acL || (kvsOf ks vs).any _)=_;rw[q8v ⇑h k];have e:decide acL=decide (k'=k):=by
   by_cases z:k'=k
   ·rw[z];simp
   ·rw[vX z,vX Bs]
  rw[e];simp only[zF]
  by_cases z:k'=k
  ·simp[z]
  ·have:¬k=k':=λy=>z y.symm
   simp[z,this]
theorem q8w:∀{ks:af}{vs:bt},ks.length=vs.length->∀(k:Int)(v:V),(kvsOf ks vs).map (λkv=>if kv.1=lh then (kv.1,v)else kv)=kvsOf ks aaD
 | [],[],_,_,_=>rfl
 | [],_::_,h,_,_=>by simp at h
 | _::_,[],h,_,_=>by simp at h
 | k'::ks,u::vs,h,k,v=>by
  show (if kz=Sum.inl k then (kz,v)else (abN,u))::(kvsOf ks vs).map _=(abN,if k'=k then v else u)::kvsOf ks aaD;rw[q8w ⇑h k v]
  by_cases z:k'=k
  ·rw[vH (by rw[z]),gz]
  ·rw[vJ Bs,gc]
theorem q7t:∀{ks:af}{vs:bt},ks.length=vs.length->∀(k:Int)(v:V),kvsOf ks vs++[(AM,v)]=kvsOf FN (vs++[v])
 | [],[],_,_,_=>rfl
 | [],_::_,h,_,_=>by simp at h
 | _::_,[],h,_,_=>by simp at h
 | k'::ks,u::vs,h,k,v=>by show _::(kvsOf ks vs++[(AM,v)])=_;rw[q7t ⇑h k v];rfl
theorem q5z{ks:af}{vs:bt}(h:Vo)(k:Int)(v:V):putK jX AM v=kvsOf (Wm ks k) (putA ks vs k v):=by
 unfold putK Wm putA;rw[q8v h]
 by_cases z:k∈ks
 ·rw[vH (vT z),gz,gz];exact q8w h k v
 ·rw[vJ (by rw[vX z];decide),gc,gc];exact q7t h k v
section
variable{K:zB}{G:Hp}
theorem XR.val:∀{ks:af}{ds:aZ}{vs:bt}{k:Int}{d:D},XR K G ds vs->Xg ks ds k=some d->∃v,Xg ks vs k=some v/\Rep K G d v
 | [],_,_,_,_,_,e=>by cases e
 | _::_,[],_,_,_,_,e=>by cases e
 | k'::ks,d'::ds,_,k,d,⟨v,r,h1,h2,h3⟩,e=>by
  subst h1;have e:(if k'=k then some d' else Xg ks ds k)=some d:=e;show ∃u,(if k'=k then some v else Xg ks r k)=some u/\_
  by_cases z:k'=k
  ·rw[gz]at e ⊢;cases e;exact⟨v,rfl,h2⟩
  ·rw[gc]at e ⊢;exact XR.val h3 e
theorem XR.isVal:∀{ks:af}{ds:aZ}{vs:bt}(k:Int),XR K G ds vs->(Xg ks vs k).isSome=(Xg ks ds k).isSome
 | [],_,_,_,_=>rfl
 | _::_,[],_,_,h=>by cases (show _=[]from h);rfl
 | k'::ks,d'::ds,_,k,⟨v,r,h1,h2,h3⟩=>by
  subst h1;show (if k'=k then some v else Xg ks r k).isSome=(if k'=k then some d' else Xg ks ds k).isSome
  by_cases z:k'=k
  ·rw[gz,gz];rfl
  ·rw[gc,gc];exact XR.isVal k h3
theorem XR.repA:∀{ks:af}{ds:aZ}{vs:bt}(k:Int){d:D}{v:V},XR K G ds vs->Rep K G d v->XR K G (Hk.repA ks ds k d) (Hk.repA ks vs k v)
 | [],_,_,_,_,_,h,_=>h
 | _::_,[],_,_,_,_,h,_=>by cases (show _=[]from h);rfl
 | k'::ks,d'::ds,_,k,d,v,⟨u,r,h1,h2,h3⟩,hv=>by
  subst h1;refine⟨_,_,rfl,?_,XR.repA k h3 hv⟩
  by_cases z:k'=k
  ·rw[gz,gz];exact hv
  ·rw[gc,gc];exact h2
theorem XR.putA{ks:af}{ds:aZ}{vs:bt}(k:Int){d:D}{v:V}(h:o8)(hv:Rep K G d v):XR K G (Hk.putA ks ds k d) (Hk.putA ks vs k v):=by
 unfold Hk.putA
 by_cases z:k∈ks
 ·rw[gz,gz];exact h.repA k hv
 ·rw[gc,gc];exact h.app (XR.cons hv XR.nil)
end
noncomputable def zAJ:Option cj->Option AB
 | some (some (.od ks ds))=>some FL
 | some ↥(.dic ks ds)=>some FL
 | _=>none
theorem qc3{H H':Hp}{p:vG}{u:HO}(e:Oc)(h:Rd H p u):Rd H' p u:=by
 rcases h with h|⟨o,h⟩
 ·exact .inl SJ
 ·exact .inr ⟨o,SJ⟩
theorem qbr{H:Hp}{a:vG}{kvs:eF}{k:Key}(e:Rd H a ce):zAe H a TZ MQ:=.inl ⟨kvs,k,e,rfl,rfl⟩
theorem Own.dic{K:zB}{G0:Hp}{H0:Fr}{G:Hp}{ω:WSt}{σ:St}{H:Hp}{i:Nat}{ks:af}{ds:aZ}(o:bS)(h:zAJ ω[i]?=some FL):
  ∃p vs,σ[i]?=some eN/\Rd H p Jv/\ks.length=ds.length/\XR K G ds vs:=by
 unfold zAJ at h
 split at h
 ·rename_i q
  cases h;obtain⟨p,vs,h1,h2,_,_,h5,h6,_⟩:=o.od i _ _ q;exact⟨p,vs,h1,.inl h2,h5,h6⟩
 ·rename_i q
  cases h;obtain⟨v,h1,p,vs,rfl,⟨ob,h2⟩,h3,h4⟩:=o.sh i _ q;exact⟨p,vs,h1,.inr ⟨ob,o.gh _ _ h2⟩,h3,h4⟩
 ·cases h
section
variable{X:Cx}{o k e:vW}{pos pos' dpos:Pos}{i:Nat}{fk fv:FD}
theorem hu1(hu:fP):X.A.units+1<ur:=∅
noncomputable def zBh(i:Nat):FS:=λω=>some VT
theorem q7R{x:Str}(hN:X.N.Nodup)(hi:X.N[i]?=some x)(hx:eO)(hs:uD UP OK pos.line X.env=pure false:=by rfl)(hf:aK:=by first|exact .inl rfl|exact .inr rfl|assumption):
  XS X (.Assign [cE] UP pos) (zBh i):=by
 refine⟨_,q0g hN hi hx q6j hs hf,mi⟩;cases e;intro p hp;have o1:=ow.keep (Ext.hide ow.gh hp Jw);refine k G _ _ (o1.setOd (ks:=[]) (ds:=[]) (vs:=[]) qe abr (ow.ext.hh.free hp) rfl XR.nil λj ks' es hj z=>?_) gr;obtain⟨q,us,h1,h2,_⟩:=ow.od j ks' es hj;rw[h1]at z;cases z;rw[hp]at h2;cases h2
noncomputable def zBL(i:Nat)(fk fv:FD):FS:=λω=>(fv ω).bind λd=>(fk ω).bind λc=>match c,ω[i]? with
 | .int k,some (some (.od ks ds))=>if ks.length<1000000 then some iO else none
 | _,_=>none
theorem q62(hu:fP)(ho:km)(hk:K7)(hv:XD X e fv)(hs:uD e (some gj) pos.line X.env=pure false:=by rfl):XS X Se (zBL i fk fv):=by
 obtain⟨tk,h1,h2⟩:=hk;obtain⟨tv,h3,h4⟩:=hv;refine⟨_,qc9 (hu1 hu) ho h1 h3 hs,ii⟩;obtain⟨d,q1,e⟩:=bnd e;obtain⟨c,q2,e⟩:=bnd e;refine h4 G0 H0 G ω σ H d _ ow q1 λv G1 H1 x1 y1=>?_;cases c with
 | int k=>
  split at e
  ·rename_i _ _ _ k' ks ds ek q3
   cases ek
   by_cases z:ks.length<1000000
   ·rw[gz]at e
    cases e;have o1:=ow.keep x1;obtain⟨p,vs,r1,r2,r3,r4,r5,r6,r7⟩:=o1.od i ks ds q3;refine⟨bw,r1,h2 G0 H0 G1 ω σ H1 _ _ o1 q2 λu G2 H2 x2 y2=>?_⟩;cases (show u=.int k from y2);have o2:=o1.keep x2;have hl:ks.length=vs.length:=by rw[r5];exact r6.len
    refine⟨p,_,rfl,zCj.k (k:=Sum.inl k) L3 (by rw[q2D hl,vj];omega),?_⟩;rw[q5z hl];exact kk G2 σ _ (o2.mutD q3 r1 L3 (x2.new p r3 (by rw[r2];exact λz=>by cases z)) r4 (qiP k d r5) ((r6.mono x2.gg).putA k Ei)) rP
   ·rw[gc]at e;cases e
  ·cases e
 | _=>cases e
noncomputable def zAY(i:Nat)(fk:FD):FE:=λω=>(zAJ ω[i]?).bind λp=>(fk ω).bind λc=>match c with
 | .int k=>(Xg p.1 p.2 k).map R.sh
 | _=>none
theorem q2g(hu:fP)(ho:km)(hk:K7)(hs:NoSl k:=by intro _ _;rfl):XE X (.Subscript o k pos) (zAY i fk):=by
 obtain⟨tk,h1,h2⟩:=hk;refine⟨_,q5K (hu1 hu) ho h1 hs,Jf⟩;obtain⟨⟨ks,ds⟩,q1,e⟩:=bnd e;obtain⟨c,q2,e⟩:=bnd e;obtain⟨p,vs,r1,r2,r3,r4⟩:=ow.dic q1;refine⟨bw,r1,h2 G0 H0 G ω σ H c _ ow q2 λu G1 H1 x1 y1=>?_⟩;cases c with
 | int k=>
  cases (show u=.int k from y1);obtain⟨d,q3,e⟩:=mpd e;subst e;obtain⟨v,z1,z2⟩:=r4.val q3;have hl:ks.length=vs.length:=by rw[r3];exact r4.len
  have g:=qbr (k:=lh) acz;rw[q0d hl,z1]at g;exact⟨p,v,rfl,g,kk v G1 H1 x1 (z2.mono x1.gg)⟩
 | _=>cases e
noncomputable def zBj(neg:Bool)(i:Nat)(fk:FD):FT:=λω=>(fk ω).bind λc=>(zAJ ω[i]?).bind λp=>match c with
 | .int k=>some (if neg then !(Xg p.1 p.2 k).isSome else (Xg p.1 p.2 k).isSome)
 | _=>none
theorem qiW{tk:TE}{neg:Bool}(h2:zB1 X.K tk fk):zBe X.K (tB (if neg then zB2 tk Np else L2.tDIn tk Np)) (zBj neg i fk):=by
 intro G0 H0 G ω σ H b Q ow e kk;obtain⟨c,q2,e⟩:=bnd e;obtain⟨⟨ks,ds⟩,q1,e⟩:=bnd e;cases c with
 | int k=>
  have fin:∀(u:V)G1 H1,Ext G H G1 H1->u=.int k->∃p vs,σ[i]?=some eN/\zAe H1 p u (Xg ks vs k)/\(Xg ks vs k).isSome=(Xg ks ds k).isSome:=λu G1 H1 x1 hu=>by
   subst hu;obtain⟨p,vs,r1,r2,r3,r4⟩:=ow.dic q1;have hl:ks.length=vs.length:=by rw[r3];exact r4.len
   have g:=qbr (k:=lh) acz;rw[q0d hl]at g;exact⟨p,vs,r1,g,XR.isVal k r4⟩
  cases neg with
  | true=>
   refine h2 G0 H0 G ω σ H _ _ ow q2 λu G1 H1 x1 y1=>?_;obtain⟨p,vs,r1,g,hs⟩:=fin u G1 H1 x1 y1;refine KI;cases e;rw[hs];exact kk G1 H1 x1
  | false=>
   refine h2 G0 H0 G ω σ H _ _ ow q2 λu G1 H1 x1 y1=>?_;obtain⟨p,vs,r1,g,hs⟩:=fin u G1 H1 x1 y1;refine KI;cases e;rw[hs];exact kk G1 H1 x1
 | _=>cases e
theorem q8J(hu:fP)(hk:K7)(ho:km)(hb:uM .NotIn o=false:=by rfl):XT X (.Compare k [.NotIn] [o] pos) (zBj true i fk):=by
 obtain⟨tk,h1,h2⟩:=hk;exact⟨_,qkx (qdO (hu1 hu) h1 ho) hb,qiW (neg:=true) h2⟩
end
section
variable{X:Cx}{o k e:vW}{pos pos' dpos:Pos}{i:Nat}{fk fv:FD}
noncomputable def zBl(i:Nat)(fk fv:FD):FS:=λω=>(fk ω).bind λc=>(fv ω).bind λd=>match c with
 | .int k=>some mZ
 | _=>none
theorem qgO{x:Str}(hN:X.N.Nodup)(hi:X.N[i]?=some x)(hx:eO)(hk:K7)(hv:XD X e fv)(hs:uD QL OK pos.line X.env=pure false:=by rfl)(hf:aK:=by first|exact .inl rfl|exact .inr rfl|assumption):
  XS X (.Assign [cE] QL pos) (zBl i fk fv):=by
 obtain⟨tk,h1,h2⟩:=hk;obtain⟨tv,h3,h4⟩:=hv;refine⟨_,q0g hN hi hx (qi3 (qgs h1 h3 qiI) rfl rfl (by simp) (by show 1<=15;decide)) hs hf,ii⟩;obtain⟨c,q1,e⟩:=bnd e;obtain⟨d,q2,e⟩:=bnd e;cases c with
 | int k=>
  cases e;intro p hp;have x0:=Ext.hide ow.gh hp Jw;have o1:=ow.keep x0;refine h2 G0 H0 G ω σ _ _ _ o1 q1 λu G1 H1 x1 y1=>?_;cases (show u=.int k from y1);have o2:=o1.keep x1;refine h4 G0 H0 G1 ω σ H1 d _ o2 q2 λv G2 H2 x2 y2=>?_;have o3:=o2.keep x2;have hp2:H2 p=some Jw:=x2.hh _ _ (x1.hh _ _ qe);have gp1:G1 p=none:=x1.new p abr (by rw[qe];exact λz=>by cases z);have gp2:G2 p=none:=x2.new p gp1 (by rw[x1.hh _ _ qe];exact λz=>by cases z);have h0p:H0 p=none:=ow.ext.hh.free hp;refine⟨hp2,[(AM,v)],rfl,by show 1<=15;decide,?_⟩;have em:zAK [] [(lh,v)]=kvsOf [k] [v]:=by
   show putK [] lh v=_;unfold putK;rw[vJ (by simp)];rfl
  rw[em];have ext4:Ext G0 H0.hp G2 Iz:=⟨o3.ext.gg,Xi o3.ext.gh gp2 _,Xi o3.ext.hh h0p _,o3.ext.new⟩;have np:∀(j:Nat)ds',ω[j]?=some (some (.ow ds'))->∀l vs,σ[j]?=some Cr->H2 l=some gS->l≠p:=λj ds' hj l vs _ h z=>by rw[z,hp2]at h;cases h
  have npd:∀(j:Nat)ks' es,ω[j]?=some FF->σ[j]?≠some eN:=λj ks' es hj z=>by
   obtain⟨q,us,w1,w2,_⟩:=ow.od j ks' es hj;rw[w1]at z;cases z;rw[hp]at w2;cases w2
  have o4:Own X.K G0 H0 G2 ω σ Iz:=by
   refine⟨ext4,o3.len,o3.sh,λj ds' hj=>?_,o3.nd,abi,o3.pw.upd (o3.pw.ne_ob λvs z=>by rw[hp2]at z;cases z)⟩
   ·obtain⟨l,vs,w1,w2,w3,w4,w5⟩:=o3.ow j ds' hj
    exact⟨l,vs,w1,by rw[qd (np j ds' hj l vs w1 w2)];exact w2,w3,w4,w5⟩
   ·obtain⟨q,us,w1,w2,w3,w4,w5,w6,w7⟩:=o3.od j ks' es hj
    have nq:q≠p:=λz=>npd j ks' es hj (by rw[<- z];exact w1);exact⟨q,us,w1,by rw[qd nq];exact w2,w3,w4,w5,w6,w7⟩
  exact kk G2 _ _ (o4.setOd (ks:=[k]) (ds:=[d]) (vs:=[v]) qe gp2 h0p rfl (XR.cons y2 XR.nil) npd) rP
 | _=>cases e
end
section
open PySem.Spec PyProof.Rows PySem.W
theorem qbF:∀(vs:bx)(ns:af),vs.length=ns.length->(∀(j:Nat)v n,vs[j]?=some v->ns[j]?=some n->∃t,v=.int n t)->uH vs ns
 | [],[],_,_=>.nil
 | [],_::_,h,_=>by simp at h
 | _::_,[],h,_=>by simp at h
 | v::vs,n::ns,h,f=>by
  obtain⟨t,rfl⟩:=f 0 v n rfl rfl;exact .cons _ _ (qbF vs ns ⇑h λj a b e1 e2=>f (j+1) a b ⇑e1 ⇑e2)
variable{prog:vU}{w:vZ}{A:vf}{E:vB->vC->Prop}{s:vC}
theorem qbh{a:vG}{kvs:Gp}{ns:af}{Q:aH}(hh:bU)(lo:BD=false)(dd:s.heap.DictOf (Xf prog w) a kvs)(hk:kvs.map (·.1)=ns.map HA)(h64:Rs)(h:∀(h1 h':vm)(tk:Nat)(vs:bx)(ys:af)(n:Nat),(∀b o,s.heap.get? b=some o->h1.get? b=some o)->(∀b o,h1.get? b=some o->h'.get? b=some o)->h'.get? h1.objs.size=some Bz->uH vs ys->ys.Perm ns->ys.Pairwise (· <= ·)->Q (.ref h1.objs.size) { s with heap:=h',toks:=tk }):
  vM aj A acR Q E s:=by
 obtain⟨ep,hat⟩:=dd.dictAt;have hkl:kvs.length=ns.length:=by have:=v4 xf hk;simpa using this
 refine Calls.call_function_entry sC tm tq (se _) ?_;unfold Builtin.«sorted»;refine vA (m:=sU "sorted" 1 1 _) eP;refine vA (kdu_collect (A:=A.in1) (kdl_dict (knd:=Xf prog w) (kvs:=kvs) (ep:=ep) lo) hh hat (by rw[hkl];exact yP (yi h64) (by decide)) λh1 tk acc hk1 hacc=>?_);have y1:uH acc.toList ns:=by
  refine qbF _ _ (by rw[zK,hacc.1,hkl]) λj v n e1 e2=>?_;obtain⟨k,x,hx,hi⟩:=hacc.2 j v (by rw[<- zc];exact e1);have e3:(kvs.map (·.1))[j]?=some k:=by rw[zZ,hx];rfl
  rw[hk,zZ,e2]at e3;cases e3;rcases qJ (k:=nr) hi with⟨i,t,e4,rfl⟩|⟨x,t,e4,_⟩
  ·cases e4;exact Lr
  ·cases e4
 have hlen:acc.toList.length=ns.length:=IntsAre.length y1;refine vA (ut ?_ (yP (by rw[hlen];exact yi h64) (by decide)));generalize acc.toList=vs at y1 hlen;have hoL:(h1.push dW).get? h1.objs.size=some dW:=zS _ rfl;refine vA (vh (vk slot_list_sort ⟨_,hoL,rfl⟩ entry_list_sort (list_sort_tree hoL y1 (by rw[hlen];exact h64) λout ns' a1 a2 a3=>ck) (sD _)));obtain⟨n,hn⟩:=sortedHeap_at (vs:=vs) (out:=out) hoL;refine vF ⟨_,rfl,h h1 _ tk out.toList ns' n hk1 (λb o e1=>?_) ?_ a1 a2 a3⟩
 ·rw[sortedHeap_old (zu UY) (by rw[yf];exact yS UY)]
  exact zG _ e1
 ·rw[xt];exact hn
end
def rSortD:List V->Hp->VK->Prop:=λxs H Q=>∃p kvs ns,xs=N7/\Rd H p ce/\kvs.map (·.1)=ns.map HA/\ns.length<64/\∀l,H l=none->Q cF Fz
section
variable{X:Cx}{o:vW}{i:Nat}
theorem qd3(hc:cI):WN X fA rSortD:=by
 intro pins s σ H xs us Q I r h;obtain⟨p,kvs,ns,rfl,hp,hk,hz,q⟩:=h;obtain⟨u,rfl,rx⟩:=vals1 r;cases rx;obtain⟨_,lo,vs,rel,dd⟩:=q4J I.hok hp;refine qbh fM lo dd (by rw[<- rel.keys];exact hk) hz λh1 h' tk us ys n k1 k2 g1 a1 a2 a3=>?_;have en:ys=Xd ns:=q1d a3 q0E Hg;subst en;have I1:Inv X pins σ H { s with heap:=h1,toks:=tk }:=I.kept k1;have hsl:(Xd ns).length<=sizeLine:=by rw[q5t];exact yP (yi hz) (by decide)
 have I2:=I1.laid (a:=h1.objs.size) (o:=.lst gJ) (t':=tk) (h':=h') k2 bM
  (show Xk X.prog X.w _ h' _ R5 from ⟨by rw[zA];exact hsl,us,n,q1H a1,g1⟩)
 exact⟨.ref _,_,I2,rfl,q _ oh⟩
noncomputable def zBm(i:Nat):FE:=λω=>(zAJ ω[i]?).bind λp=>if p.1.length<64 then some M1 else none
theorem qh0{p q:Pos}(hc:cI)(hg:Ci)(hm:j7)(ho:km)(he:vK [o] X.env=(false,mJ)::vK [] X.env:=by rfl)(hpl:(vt q cG).any (·.1)=false:=by rfl):XE X (.Call ny [o] [] q) (zBm i):=by
 refine⟨_,q2q (qd3 hc) hg hm q2F (qA ho qy he) (by decide) (by decide) he hpl,JE⟩;obtain⟨⟨ks,ds⟩,q1,e⟩:=bnd e;obtain⟨p,vs,r1,r2,r3,r4⟩:=ow.dic q1
 by_cases hz:ks.length<64
 ·have e:(if ks.length<64 then some (R.fr GD)else none)=some r:=e
  rw[U4]at e;cases e;refine⟨bw,r1,p,_,ks,rfl,r2,q7p (by rw[r3];exact r4.len),hz,aae⟩;have x2:=Ext.hide ow.gh hl (.lst ((Xd ks).map V.int));exact k _ G _ x2 ⟨l,_,rfl,hl,ow.gh.free hl,qe,XR.ints _⟩
 ·have e:(if ks.length<64 then some (R.fr GD)else none)=some r:=e
  rw[U3]at e;cases e
noncomputable def zCR(i:Nat):FM:=λω=>match ω[i]? with
 | some (some (.ow ds))=>(ds[ds.length-1]?).map λd=>Fj
 | _=>none
theorem XR.dropLast{K:zB}{H:Hp}{ds:aZ}{vs:bt}(h:AL):XR K H ds.dropLast vs.dropLast:=by
 rw[Zr,Zr,h.len];exact h.take _
theorem qhR{apos cpos:Pos}(ho:km)(hbase:uU o "pop" X.env mJ=eval o X.env:=by rfl)(hline:gZ=true:=by rfl):
  XM X (.Call (.Attribute o "pop" apos) [] [] cpos) (zCR i):=by
 refine⟨_,q9m PySem.F.plainAttrs_list PySem.F.slot_list_pop PySem.F.type_list_pop q9K ho hbase hline,λG0 H0 G ω σ H d ω' Q ow e k=>?_⟩;unfold zCR at e
 split at e
 ·rename_i ds q2
  obtain⟨d1,hd,e⟩:=mpd e;cases e;obtain⟨l,vs,r1,r2,r3,r4,r5⟩:=ow.ow i ds q2;obtain⟨y,hy,ry⟩:=r5.get hd;refine⟨.ref l,r1,.inl QW,l,vs,y,rfl,rfl,r2,by rw[<- r5.len];exact hy,k y G _ (ow.mut q2 r1 r2 r3 r4 r5.dropLast) gr ry⟩
 ·cases e
end
noncomputable def Ww:List Int->List af->Int->Int->List af
 | k::ks,x::xs,a,b=>if k=a then Q9::xs else x::Ww ks xs a b
 | _,xs,_,_=>xs
theorem q6G:∀(ks:af)(xs:cn)(a b:Int),(Ww ks xs a b).length=xs.length
 | [],_,_,_=>rfl
 | _::_,[],_,_=>rfl
 | k::ks,x::xs,a,b=>by
  unfold Ww
  by_cases z:k=a
  ·rw[gz];rfl
  ·rw[gc,zI,zI,q6G ks xs a b]
structure Tab (G H0 H:Hp) (p:vG) (ks:List Int) (ls:List vG) (xss:List (List Int)):Prop where
 dict:H p=some (.dK (kvsOf ks (ls.map V.ref)))
 gp:G p=none
 hp:H0 p=none
 len:ks.length=ls.length
 len2:ls.length=xss.length
 lst:∀(j:Nat)l xs,ls[j]?=some l->xss[j]?=some xs->H l=some (.lst (xs.map V.int))
 gl:∀l∈ls,G l=none/\H0 l=none
 nd:ls.Nodup
theorem Tab.inn{G H0 H:Hp}{p:vG}{ks:af}{ls:df}{xss:cn}(T:c9){l:vG}(h:l∈ls):∃xs:List Int,H l=some DV:=by
 obtain⟨j,hj,rfl⟩:=zh.mp h;have hj2:j<xss.length:=by rw[<- T.len2];exact hj
 exact⟨xss[j],T.lst j _ _ KM (zD hj2)⟩
theorem Tab.pl{G H0 H:Hp}{p:vG}{ks:af}{ls:df}{xss:cn}(T:c9):p∉ls:=λh=>by
 obtain⟨xs,e⟩:=T.inn h;rw[T.dict]at e;cases e
theorem Tab.keep{G G' H0 H H':Hp}{p:vG}{ks:af}{ls:df}{xss:cn}(T:c9)(x:Cj):Tab G' H0 H' p ks ls xss :=
 ⟨x.hh _ _ T.dict,x.new p T.gp (by rw[T.dict];exact λz=>by cases z),T.hp,T.len,T.len2,λj l xs h1 h2=>x.hh _ _ (T.lst j l xs h1 h2),λl h=>by
  obtain⟨xs,e⟩:=T.inn h;exact⟨x.new l (T.gl l h).1 (by rw[e];exact λz=>by cases z),(T.gl l h).2⟩,T.nd⟩
theorem qeD:∀{ks:af}{ls:df}{a:Int},ks.length=ls.length->a∈ks->∃(j:Nat) (l:vG),ks[j]?=some a/\ls[j]?=some l/\Xg ks dy a=some cF/\∀(xss:cn)(b:Int),xss.length=ls.length->∃xs,xss[j]?=some xs/\Ww ks xss a b=xss.set j (xs++[b])
 | [],_,_,_,h=>by simp at h
 | _::_,[],_,h,_=>by simp at h
 | k::ks,l::ls,a,h,ha=>by
  by_cases z:k=a
  ·refine⟨0,l,by rw[z];rfl,rfl,vH z,λxss b hx=>?_⟩
   cases xss with
   | nil=>simp at hx
   | cons x xs=>exact⟨x,rfl,gz⟩
  ·have ha':a∈ks:=(zF.mp ha).resolve_left λe=>z e.symm
   obtain⟨j,l',e1,e2,e3,e4⟩:=qeD (ks:=ks) (ls:=ls) ⇑h ha';refine⟨j+1,l',e1,e2,?_,λxss b hx=>?_⟩
   ·show (if k=a then _ else _)=_
    rw[gc];exact e3
   ·cases xss with
    | nil=>simp at hx
    | cons x xs=>
     obtain⟨y,h1,h2⟩:=e4 xs b ⇑hx;refine⟨y,h1,?_⟩;show (if k=a then _ else x::Ww ks xs a b)=_;rw[gc,h2];rfl
theorem Tab.app{G H0 H:Hp}{p:vG}{ks:af}{ls:df}{xss:cn}(T:c9){a:Int}(b:Int)(ha:a∈ks):
  ∃(l:vG) (xs:af),l∈ls/\xs∈xss/\Xg ks dy a=some cF/\zAe H p bJ Cr/\H l=some DV/\Tab G H0 (upd H l (.lst ((xs++[b]).map V.int))) p ks ls Dx:=by
 obtain⟨j,l,e1,e2,e3,e4⟩:=qeD T.len ha;obtain⟨xs,e5,e6⟩:=e4 xss b T.len2.symm;have hl:l∈ls:=yK e2;have hlp:p≠l:=λz=>T.pl (z▸hl);have g:=zAe.k (k:=nu) T.dict;rw[q0d (by rw[zA];exact T.len),e3]at g;refine⟨l,xs,hl,yK e5,e3,g,aaU,?_⟩;rw[e6];refine⟨by rw[qd hlp];exact T.dict,T.gp,T.hp,T.len,by rw[yZ];exact T.len2,λi m ys h1 h2=>?_,T.gl,T.nd⟩;rcases qg h2 with⟨rfl,_,rfl⟩|⟨ne,h3⟩
 ·rw[e2]at h1
  cases h1;exact qe
 ·have hm:m≠l:=λz=>by
   subst z;obtain⟨i1,i2⟩:=zj.mp h1;obtain⟨j1,j2⟩:=zj.mp e2;exact ne Io
  rw[Md];exact T.lst i m ys h1 h3
theorem Own.free{K:zB}{G0:Hp}{H0:Fr}{G:Hp}{ω:WSt}{σ:St}{H:Hp}{q:vG}{ob:HO}(o:bS)(no:OZ)(hG:G q=none)(h0:H0 q=none):Own K G0 H0 G ω σ (upd H q ob) :=
 ⟨⟨o.ext.gg,Xi o.ext.gh hG _,Xi o.ext.hh h0 _,o.ext.new⟩,o.len,o.sh,JC,o.nd,nX,Uv⟩
theorem Tab.put{G H0 H:Hp}{p:vG}{ks:af}{ls:df}{xss:cn}(T:c9){k:Int}{l:vG}(hk:k∉ks)(hl:H l=none)(sg:CP)(s0:Xh H0 H)(hz:JQ):
  ∃H4,zCj (upd H l jo) p kP cF H4/\H4=upd (upd H l jo) p (.dK (kvsOf FN QS))/\Tab G H0 H4 p FN (ls++[l]) Q8:=by
 have hpl:p≠l:=λz=>by rw[<- z,T.dict]at hl;cases hl
 have hlen:ks.length=(ls.map V.ref).length:=by rw[zA];exact T.len
 have e:putK pT AM cF=kvsOf FN QS:=by
  rw[q5z hlen];unfold Wm putA;rw[vJ hk,vJ hk,zW];rfl
 have d:=zCj.k (H:=upd H l jo) (a:=p) (kvs:=kvsOf ks dy) (k:=lh) (v:=.ref l) (by rw[qd hpl];exact T.dict) (by rw[q2D hlen,vj];omega);rw[e]at d;refine⟨_,d,rfl,qe,T.gp,T.hp,by rw[zC,zC,T.len];rfl,by rw[zC,zC,T.len2];rfl,λj m xs h1 h2=>?_,λm hm=>?_,?_⟩
 ·rcases zw j ls.length with z|z
  ·rw[zg z]at h1
   rw[zg (by rw[<- T.len2];exact z)]at h2;have e1:=T.lst j m xs h1 h2;have n1:m≠p:=λy=>T.pl (y▸yK h1);have n2:m≠l:=λy=>by rw[y,hl]at e1;cases e1
   rw[qd n1,qd n2];exact e1
  ·rw[zb z]at h1
   rw[zb (by rw[<- T.len2];exact z),<- T.len2]at h2;cases hj:j-ls.length with
   | zero=>
    rw[hj]at h1 h2;cases h1;cases h2;rw[qd (Ne.symm hpl)];exact qe
   | succ n=>rw[hj]at h1;cases h1
 ·rcases zJ.mp hm with h|h
  ·exact T.gl m h
  ·cases zR.mp h;exact⟨sg.free hl,s0.free hl⟩
 ·rw[ym]
  refine⟨T.nd,by simp,λa ha b hb z=>?_⟩;cases zR.mp hb;obtain⟨xs,e1⟩:=T.inn ha;rw[z,hl]at e1;cases e1
noncomputable def pairsOf:List D->Option ae
 | []=>some []
 | .tup [.int a,.int b]::r=>(pairsOf r).map λl=>(a,b)::l
 | _=>none
noncomputable def XC(e:bh):D:=.tup [Cy,aca]
theorem q4z:∀{ds:aZ}{es:ae},pairsOf ds=some es->ds=es.map XC
 | [],_,h=>by cases h;rfl
 | d::r,es,h=>by
  unfold pairsOf at h
  split at h
  ·rename_i e;cases e
  ·rename_i e
   cases e;obtain⟨l,h1,h2⟩:=mpd h;subst h2;rw[q4z h1];rfl
  ·cases h
theorem q40:∀es:List bh,pairsOf Km=some es
 | []=>rfl
 | e::r=>by show (pairsOf (r.map XC)).map _=_;rw[q40 r];rfl
noncomputable def Wd(ks:af)(xss:cn)(e:bh):List af:=Ww ks (Ww ks xss e.1 e.2) e.2 e.1
noncomputable def nbT(ts:af)(es:ae):List af:=es.foldl VL JK
noncomputable def nbM(a b:aZ):Option D:=(intsOf a).bind λts=>(pairsOf b).bind λes=>if ts.Nodup/\(∀e∈es,e.1∈ts/\e.2∈ts)/\ts.length<=1000/\es.length<=1000 then some (.dic ts ((nbT ts es).map λxs=>.lst iy))else none
noncomputable def sNb:FS:=λω=>match ω with
 | [↥(.lst a),↥(.lst b),none,none,none]=>(nbM a b).map λd=>mN
 | _=>none
theorem zCk{a b:D}{x:eQ}:WV [↥a,↥b,none,none,x.map W.sh]:=by
 intro i w e
 match i,e with
 | 0,e=>cases e;exact bz
 | 1,e=>cases e;exact bz
 | 2,e=>cases e
 | 3,e=>cases e
 | 4,e=>
  cases x with
  | none=>cases e
  | some d=>cases e;exact Ti
 | i+5,e=>simp at e
theorem Own.other{K:zB}{G0:Hp}{H0:Fr}{G:Hp}{ω:WSt}{σ:St}{H:Hp}{i:Nat}{v:Ao}(o:bS)(no:OZ)(hi:∀w,ω[i]?≠some (some w)):Own K G0 H0 G ω (σ.set i v) H :=
 ⟨o.ext,by rw[yZ];exact o.len,λj d h=>by
  obtain⟨u,h1,h2⟩:=o.sh j d h;exact⟨u,by rw[zL (λz=>hi _ (z▸h))];exact h1,h2⟩,λi ds h=>vP h Ah,λi j ds es l h=>vP h Ah,λi ks ds h=>vP h abu,WK.no no.pw⟩
theorem q4o(n:Nat):∀(ks:af)(xss:cn)(a b:Int),(∀x∈xss,x.length<=n)->∀x∈Ww ks xss a b,x.length<=n+1
 | [],xss,_,_,h,x,hx=>wS (h x hx)
 | _::_,[],_,_,h,x,hx=>by cases hx
 | k::ks,y::xss,a,b,h,x,hx=>by
  unfold Ww at hx
  by_cases z:k=a
  ·rw[gz]at hx
   rcases zF.mp hx with rfl|hx
   ·have:=h y zE
    rw[zC,zY];omega
   ·exact wS (h x jj)
  ·rw[gc]at hx
   rcases zF.mp hx with rfl|hx
   ·exact wS (h _ zE)
   ·exact q4o n ks xss a b (λx h'=>h x (zH _ h')) x hx
theorem Tab.told{K:zB}{G0 G:Hp}{H0:Fr}{H:Hp}{ω:WSt}{σ:St}{p:vG}{ks:af}{ls:df}{xss:cn}(T:c9)(o:bS)(no:OZ)(ob:Obj):
  ∃G',Xh G G'/\Own K G0 H0 G' ω σ (upd H p HJ)/\Rep K G' (.dic ks (xss.map λxs=>.lst iy)) bw:=by
 obtain⟨H',hH⟩:∃H':Hp,H'=upd H p HJ:=bz;rw[<- hH];have hp':H' p=some HJ:=by rw[hH];exact qe
 have hn':∀b,b≠p->H' b=H b:=λb h=>by rw[hH];exact qd h
 let G':Hp:=λb=>if b=p\/b∈ls then H' b else G b
 have hin:∀b,N6->G' b=H' b:=λb h=>vH h;have hout:∀b,¬N6->G' b=G b:=λb h=>vJ h;have gn:∀b,N6->G b=none/\H0 b=none:=λb h=>by
  rcases h with rfl|h
  ·exact⟨T.gp,T.hp⟩
  ·exact T.gl b h
 have gg:Xh G G':=λb u z=>by
  by_cases y:b=p\/b∈ls
  ·rw[(gn b y).1]at z;cases z
  ·rw[T9];exact z
 have gh:Xh G' H':=λb u z=>by
  by_cases y:b=p\/b∈ls
  ·rw[hin b y]at z;exact z
  ·rw[T9]at z;rw[hn' b λw=>y (.inl w)];exact o.gh b u z
 have hh:Xh H0.hp H':=λb u z=>by
  rw[hn' b λw=>by rw[w,T.hp]at z;cases z];exact o.ext.hh b u z
 refine⟨G',gg,⟨⟨o.ext.gg.trans gg,gh,hh,HR⟩,o.len,Lw,JC,o.nd,nX,Uv⟩,p,ls.map V.ref,rfl,⟨ob,by rw[hin p bu];exact hp'⟩,by rw[zA,<- T.len2];exact T.len,?_⟩
 ·by_cases y:b=p\/b∈ls
  ·exact vP (gn b y).2 z2
  ·rw[T9];exact o.ext.new b z1 z2
 ·obtain⟨v,h1,h2⟩:=o.sh i d h
  exact⟨v,h1,h2.mono gg⟩
 ·refine q5I (by rw[zA];exact T.len2.symm) λj d t h1 h2=>?_
  rw[zZ]at h1;cases q:xss[j]? with
  | none=>rw[q]at h1;cases h1
  | some xs=>
   rw[q]at h1;cases h1;have hl:=T.lst j t xs h2 q;exact⟨t,_,rfl,by rw[hin t (.inr (yK h2)),hn' t λw=>by rw[w,T.dict]at hl;cases hl];exact hl,XR.ints xs⟩
theorem qeN{K:zB}{ta tb:TE}{g0 g1:FD}(k2:zB1 K ta g0)(k4:zB1 K tb g1){G0:Hp}{H0:Fr}{G:Hp}{ω:WSt}{σ:St}{H:Hp}{p:vG}{ks:af}{ls:df}{xss:cn}{a b:Int}{Q:VK}(o:bS)(no:OZ)(hσ:σ[2]?=some eN)(T:c9)(h0:g0 ω=some bJ)(h1:g1 ω=some dI)(ha:a∈ks)(hz:∀xs∈xss,xs.length<1000000)(h:∀G' H',Own K G0 H0 G' ω σ H'->Xh G G'->Tab G' H0 H' p ks ls Dx->Q .non H'):tBM K "list" Wb (zCn Fk ta) (zAD tb zAr) σ H Q:=by
 refine⟨bw,hσ,k2 G0 H0 G ω σ H _ _ o h0 λu G1 H1 x1 y1=>?_⟩;cases (show u=.int a from y1);have o1:=o.keep x1;have T1:=T.keep x1;obtain⟨l,xs,m1,m2,m3,m4,m5,_⟩:=T1.app b ha;refine⟨p,cF,rfl,m4,.inl ⟨rfl,_,SqL.of m5⟩,k4 G0 H0 G1 ω σ H1 _ _ o1 h1 λu G2 H2 x2 y2=>?_⟩;cases (show u=.int b from y2);have o2:=o1.keep x2;have T2:=T1.keep x2;obtain⟨l',xs',n1,n2,n3,n4,n5,n6⟩:=T2.app b ha;rw[m3]at n3;cases n3;refine⟨l,_,.int b,rfl,rfl,n5,by rw[zA,vj];have:=hz xs' n2;omega,?_⟩;rw[show xs'.map V.int++[V.int b]=(xs'++[b]).map V.int by rw[zW];rfl];exact h G2 _ CJ rP n6
theorem qdS{a b:vW}{p:Pos}{n:Str}{env:Env}(m:Sem vB):uU (.Subscript a b p) n env m=m:=rfl
section
variable{X:Cx}
theorem qjS{x2 x3 x4:Str}{o0 o1 o2 o3 o4 o4b e0 e1 e0b e1b e0':vW}{q1 q2 q3 q4 q5 q6 q7 q8 q9 q10 q11 q12 q13 q14 q15 a1 a2 c1 c2:Pos}{g0 g1:FD}(hu:fP)(hp:jW)(hc:cI)(hN:X.N.Nodup)(i2:X.N[2]?=some x2)(i3:X.N[3]?=some x3)(i4:X.N[4]?=some x4)(l2:aaW)(l3:aaV)(l4:Loc X.env.scope x4)(f2:Al)(f3:Ak)(f4:X.fn x4=true\/X.env.scope.names.lookup x4=some .local)(h0:PE X o0 (X1 0))(h1:PE X o1 Ut)(h2:PE X o2 Fk)(h2':PE X o4 Fk)(h2b:PE X o4b Fk)(h3:PE X o3 (X1 3))(h5:PE X e0' Fk)(ha:XD X e0 g0)(hb:XD X e1 g1)(hab:XD X e0b g0)(hbb:XD X e1b g1)(hg0:∀(ω:WSt)e,ω[4]?=some FC->g0 ω=some Cy)(hg1:∀(ω:WSt)e,ω[4]?=some FC->g1 ω=some aca)(s1:uD Cn (some (.Name x2 q2)) q3.line X.env=pure false:=by rfl)(s2:uD Im (some SZ) q6.line X.env=pure false:=by rfl)(n0:NoSl e0:=by intro _ _;rfl)(n1:NoSl e1b:=by intro _ _;rfl)(w1:((vt c1 abk).all (λx=>!x.1)&&(uX c1 m8).all jL&&decide (([e1]:List vW).length+([]:List uZ).length+(if ([]:List uZ).isEmpty then 0 else 1)<30))=true:=by rfl)(w2:((vt c2 (vK [e0b] X.env)).all (λx=>!x.1)&&(uX c2 m8).all jL&&decide (([e0b]:List vW).length+([]:List uZ).length+(if ([]:List uZ).isEmpty then 0 else 1)<30))=true:=by rfl)(z1:(a1.endLine==c1.line)=true:=by rfl)(z2:Oy:=by rfl)(t1:Bw:=by rfl)(t2:vK [e0b] X.env=(false,eval e0b X.env)::vK [] X.env:=by rfl)(p1:(vt c1 cG).any (·.1)=false:=by rfl)(p2:(vt c2 cG).any (·.1)=false:=by rfl)(v1:uD nK none q9.line X.env=pure false:=by rfl)(v2:uD m6 none q10.line X.env=pure false:=by rfl)(y1:∀x,uC o0 X.env x=pure x:=by intro _;rfl)(y2:∀x,uC o1 X.env x=pure x:=by intro _;rfl):
  XSs X [.Assign [.Name x2 q2] Cn q3,.For (.Name x3 q11) o0 [.Assign [SZ] Im q6] [] q12,
   .For (.Name x4 q13) o1 [.Expr nK q9,.Expr m6 q10] [] q14,.Return (some e0') q15] sNb:=by
 obtain⟨ta,k1,k2⟩:=ha;obtain⟨tb,k3,k4⟩:=hb;obtain⟨ta',k1',k2'⟩:=hab;obtain⟨tb',k3',k4'⟩:=hbb;have hu:=hu1 hu;refine⟨_,qG (q0g hN i2 l2 q6j s1 f2) (qG (q7j hp hc (q7J h0) Vg (q0P (qc9 hu h2 h3 Jj s2)) y1)
  (qG (q7j hp hc (q7J h1) (q4q hN i4 l4 f4) (qG (q1G (q3O PySem.F.plainAttrs_list PySem.F.slot_list_append PySem.F.type_list_append q0W (q5K hu h2' k1 n0) (qA k3 qy t1) (qdS _) w1 z1 t1 p1) v1)
   (q0P (q1G (q3O PySem.F.plainAttrs_list PySem.F.slot_list_append PySem.F.type_list_append q0W (q5K hu h2b k3' n1) (qA k1' qy t2) (qdS _) w2 z2 t2 p2) v2))) y2) (q7x 2 (q0P (q5G h5))))),λG0 H0 G ω σ H out ω' E ow e kk=>?_⟩
 unfold sNb at e
 split at e
 case h_2=>cases e
 case h_1 _ a b=>
 obtain⟨d,e2,e3⟩:=mpd e;clear e;cases e3;obtain⟨ts,e4,e5⟩:=bnd e2;obtain⟨es,e6,e7⟩:=bnd e5;clear e2 e5
 by_cases cond:ts.Nodup/\(∀e∈es,e.1∈ts/\e.2∈ts)/\ts.length<=1000/\es.length<=1000
 case neg=>rw[vJ cond]at e7;cases e7
 rw[vH cond]at e7;cases e7;obtain⟨cd1,cd2,cd3,cd4⟩:=cond;have ha':=q0C e4;have hb':=q4z e6;subst ha' hb';clear e4 e6;have no:WV fR:=zCk (x:=none);have hlen:σ.length=5:=ow.len.symm;obtain⟨v0,r0,A0,vs0,rfl,r1,r2⟩:=ow.sh 0 _ rfl;obtain⟨v1,r3,A1,vs1,rfl,r4,r5⟩:=ow.sh 1 _ rfl;have hvs0:=r2.of_ints;subst hvs0;intro p hpn;have o1:Own X.K G0 H0 G fR (σ.set 2 eN) kU:=(ow.free no acE TQ).other no λw z=>by cases z
 have T0:Tab G H0 kU p (ts.take 0) [] ((ts.take 0).map λ_=>[]):=⟨qe,acE,TQ,rfl,rfl,λj l xs h=>(by simp at h),λl h=>(by cases h),xi⟩;refine⟨.ref A0,by rw[zL (by decide)];exact r0,A0,rfl,⟨_,SqL.of acG⟩,λn m σ2 H2=>∃ls,Own X.K G0 H0 G fR σ2 H2/\σ2[2]?=some eN/\Tab G H0 H2 p (ts.take n) ls ((ts.take n).map λ_=>[])/\n<=ts.length/\m=ts.length-n,
  ⟨_,[],o1,ye (by rw[hlen];decide),T0,B5,rfl⟩,?_⟩
 rintro n m σ2 H2 ⟨ls,o2,s22,T2,hn,rfl⟩
 by_cases hlt:n<ts.length
 ·have hq:=o2.gh _ _ r1
  refine .inr ⟨⟨_,.int ts[n],SqL.of hq,by rw[zZ,GH];rfl⟩,λσ3 H3=>∃ls,Own X.K G0 H0 G fR σ3 H3/\σ3[2]?=some eN/\Tab G H0 H3 p (ts.take (n+1)) ls ((ts.take (n+1)).map λ_=>[]),
   λσ3 H3 ⟨ls,b1,b2,b3⟩=>⟨ts.length-(n+1),∅,ls,b1,b2,b3,hlt,rfl⟩,λy H3 hy=>?_⟩
  obtain⟨rfl,hy⟩:=hy;have hy:=hy _ Nq;rw[zZ,GH]at hy;cases hy;have hl2:σ2.length=5:=o2.len.symm;refine⟨by show 0<=sizeLine;exact yF _,λl hl=>?_⟩;refine⟨.ref p,by rw[zL (by decide)];exact s22,.int ts[n],ye (by rw[hl2];decide),?_⟩;have nk:ts[n]∉ts.take n:=λz=>by
   obtain⟨j,hj,ej⟩:=zh.mp z;rw[xS]at ej;have hj':j<n:=by rw[ze]at hj;omega
   have:=(wY cd1).mp ej;omega
  obtain⟨H4,d1,d2,T4⟩:=T2.put nk hl o2.gh o2.ext.hh (by rw[ze];omega);refine⟨p,H4,rfl,d1,ls++[l],?_,by rw[zL (by decide)];exact s22,?_⟩
  ·subst d2
   exact((o2.free no (o2.gh.free hl) (o2.ext.hh.free hl)).free no T2.gp T2.hp).other no λw z=>by cases z
  ·rw[(ZQ hlt).symm,zW]
   exact T4
 ·have en:n=ts.length:=∅
  subst en;rw[wD]at T2;refine .inl ⟨⟨_,SqL.of (o2.gh _ _ r1),by rw[zA];exact zN _⟩,?_⟩;obtain⟨v1',r3',A1',vs1',rfl,r4',r5'⟩:=o2.sh 1 _ rfl;have hl5:es.length=vs1'.length:=by have:=r5'.len;rw[zA]at this;exact this
  refine⟨.ref A1',r3',A1',rfl,⟨_,SqL.of (o2.gh _ _ r4')⟩,λn m σ3 H3=>∃G3 x4,Own X.K G0 H0 G3 lD σ3 H3/\Xh G G3/\σ3[2]?=some eN/\Tab G3 H0 H3 p ts ls ((es.take n).foldl VL JK) /\
   (∀xs∈(es.take n).foldl (Wd ts) (ts.map λ_=>[]),xs.length<=2*n)/\n<=es.length/\m=es.length-n,
   ⟨_,G,none,o2,Xh.refl _,s22,T2,λxs hx=>by obtain⟨_,_,rfl⟩:=zz.mp hx;exact zN _,yF _,rfl⟩,?_⟩
  rintro n m σ3 H3 ⟨G3,x4,o3,g3,s32,T3,b3,hn3,rfl⟩
  by_cases hlt3:n<es.length
  ·have hq3:=o3.gh _ _ (g3 _ _ r4')
   have hlv:n<vs1'.length:=by rw[<- hl5];exact hlt3
   refine .inr ⟨⟨_,vs1'[n],SqL.of hq3,zD hlv⟩,λσ4 H4=>∃G4 x4,Own X.K G0 H0 G4 lD σ4 H4/\Xh G G4/\σ4[2]?=some eN/\Tab G4 H0 H4 p ts ls ((es.take (n+1)).foldl VL JK) /\
    (∀xs∈(es.take (n+1)).foldl (Wd ts) (ts.map λ_=>[]),xs.length<=2*(n+1)),
    λσ4 H4 ⟨G4,x4,b1,b2,b4,b5,b6⟩=>⟨es.length-(n+1),∅,G4,x4,b1,b2,b4,b5,b6,hlt3,rfl⟩,λy H4 hy=>?_⟩
   obtain⟨rfl,hy⟩:=hy;have hy:=hy _ (SqL.of hq3);rw[zD hlv]at hy;cases hy;have hd:(es.map XC)[n]?=some (XC es[n]):=by rw[zZ,zD hlt3];rfl
   obtain⟨v,hv1,hv2⟩:=r5'.get hd;rw[zD hlv]at hv1;cases hv1;have hl3:σ3.length=5:=o3.len.symm;have o4:Own X.K G0 H0 G3 [FB,bR,none,none,↥(XC es[n])] (σ3.set 4 (some vs1'[n])) H4:=o3.setSh (i:=4) (hv2.mono g3);have no4:WV [FB,bR,none,none,↥(XC es[n])]:=zCk (x:=some (XC es[n]));have s42:(σ3.set 4 (some vs1'[n]))[2]?=some eN:=by rw[zL (by decide)];exact s32
   obtain⟨in1,in2⟩:=cd2 es[n] (yk hlt3);refine qeN k2 k4 o4 no4 s42 T3 (hg0 _ es[n] rfl) (hg1 _ es[n] rfl) in1 (λxs hx=>by have:=b3 xs hx;omega) λG5 H5 o5 g5 T5=>?_;have b5:=q4o (2*n) ts _ es[n].1 es[n].2 b3;refine qeN k4' k2' o5 no4 s42 T5 (hg1 _ es[n] rfl) (hg0 _ es[n] rfl) in2 (λxs hx=>by have:=b5 xs hx;omega) λG6 H6 o6 g6 T6=>?_;have b6:=q4o (2*n+1) ts _ es[n].2 es[n].1 b5;have et:es.take (n+1)=es.take n++[es[n]]:=(ZQ hlt3).symm;refine⟨G6,some (XC es[n]),o6,(g3.trans g5).trans g6,s42,?_,?_⟩
   ·rw[et,ZN];exact T6
   ·rw[et,ZN]
    intro xs hx;have:=b6 xs hx;omega
  ·have en3:n=es.length:=∅
   subst en3;rw[wD]at T3;refine .inl ⟨⟨_,SqL.of (o3.gh _ _ (g3 _ _ r4')),by rw[hl5];exact zN _⟩,?_⟩;have no3:WV lD:=zCk;refine⟨p,_,s32,T3.dict,λob=>?_⟩;obtain⟨G',g',o',rp⟩:=T3.told o3 no3 ob;generalize upd H3 p (.frz ob _)=H4 at o' ⊢;refine⟨bw,s32,?_⟩;have oF:Own X.K G0 H0 G' fR σ3 H4:=by
    refine⟨o'.ext,o'.len,Lw,JC,λi j ds es l h=>vP h Ah,nX,Uv⟩
    match i,h with
    | 0,h=>exact o'.sh 0 d h
    | 1,h=>exact o'.sh 1 d h
    | 2,h=>cases h
    | 3,h=>cases h
    | 4,h=>cases h
    | i+5,h=>simp at h
   exact kk G' σ3 H4 oF (g3.trans g') bw rp
end
theorem qka{ω:WSt}{e:bh}(h:ω[4]?=some ↥(XC e)):dOf MN ω=some Cy:=by
 unfold dOf XH vOf Y6 fC;rw[h];rfl
theorem qkl{ω:WSt}{e:bh}(h:ω[4]?=some ↥(XC e)):dOf MO ω=some aca:=by
 unfold dOf XH vOf Y6 fC;rw[h];rfl
noncomputable def zCW(i:Nat)(ω:WSt)(c d:eQ):Option eI:=c.bind λc=>d.bind λd=>match c with
 | .int k=>some mZ
 | _=>none
noncomputable def dsetS(i:Nat)(ω:WSt)(v c:eQ)(w:og):Option eI:=v.bind λd=>c.bind λc=>match c,w with
 | .int k,some (some (.od ks ds))=>if ks.length<1000000 then some iO else none
 | _,_=>none
noncomputable def dgetR(o:Option AB)(c:eQ):Option R:=o.bind λp=>c.bind λc=>match c with
 | .int k=>(Xg p.1 p.2 k).map R.sh
 | _=>none
noncomputable def dhasT(neg:Bool)(c:eQ)(o:Option AB):Option Bool:=c.bind λc=>o.bind λp=>match c with
 | .int k=>some (if neg then !(Xg p.1 p.2 k).isSome else (Xg p.1 p.2 k).isSome)
 | _=>none
noncomputable def zCe(o:Option AB):Option R:=o.bind λp=>if p.1.length<64 then some M1 else none
noncomputable def pop0(i:Nat)(ω:WSt)(w:og):Option (D×WSt):=match w with
 | some (some (.ow ds))=>(ds[ds.length-1]?).map λd=>Fj
 | _=>none
noncomputable def zC5(j i:Nat)(ω:WSt)(w:og):Option eI:=(pop0 i ω w).map λp=>(.nx,p.2.set j aay)
section
variable{ω:WSt}{fk fv:FD}{i j:Nat}{ks:List Int}{ds:List D}{k:Int}{d:D}{neg:Bool}
theorem qdU:zBh i ω=some VT:=rfl
theorem qc0:zBl i fk fv ω=zCW i ω Py Vq:=rfl
theorem qh8:zCW i ω du Cp=some mZ:=rfl
theorem qe7:zBL i fk fv ω=dsetS i ω Vq Py ω[i]?:=rfl
theorem qf7:zAY i fk ω=dgetR (zAJ ω[i]?) Py:=rfl
theorem qhH:dgetR abo du=(Xg ks ds k).map R.sh:=rfl
theorem qhm:zAJ abn=some FL:=rfl
theorem qhA:zAJ (some ↥CY)=some FL:=rfl
theorem qf3:zBj neg i fk ω=dhasT neg Py (zAJ ω[i]?):=rfl
theorem qhr:dhasT true du abo=some (!(Xg ks ds k).isSome):=rfl
theorem qbQ:zBm i ω=zCe (zAJ ω[i]?):=rfl
theorem qcG:zCG j (zCR i) ω=zC5 j i ω ω[i]?:=rfl
theorem qho:shrS i ω abn=ω.set i ↥CY:=rfl
end
theorem q4i{i:Nat}{ω:WSt}{ks:af}{ds:aZ}{k:Int}{d:D}(h:JQ):dsetS i ω Cp du abn=some iO:=vH h
theorem qgR{ks:af}{ds:aZ}(h:ks.length<64):zCe abo=some (.fr GD):=vH h
theorem qi5{j i:Nat}{ω:WSt}{ds:aZ}{d:D}:zC5 j i ω (some Pl)=some (.nx,(ω.set i cV).set j ↥d):=by
 unfold zC5 pop0;have e1:(ds++[d])[abd]?=some d:=by
  rw[zC,zY,w9,zb bM,wR];rfl
 have e2:(ds++[d]).dropLast=ds:=by simp
 show Option.map _ (((ds++[d])[abd]?).map _)=_;rw[e1,e2];rfl
section
variable{X:Cx}{o k e:vW}{pos pos':Pos}{i:Nat}{fk fv:FD}
noncomputable def zC6(i:Nat)(fk fv:FD):FS:=λω=>(fv ω).bind λd=>(fk ω).bind λc=>match c,ω[i]? with
 | .int k,some (some (.ow ds))=>(ixN ds.length k).map λj=>DU
 | _,_=>none
theorem XR.set{K:zB}{H:Hp}:∀{ds:aZ}{vs:bt}(n:Nat){d:D}{v:V},XR K H ds vs->Rep K H d v->XR K H (ds.set n d) (vs.set n v)
 | [],_,_,_,_,h,_=>by cases (show _=_ from h);rfl
 | _::_,_,0,_,_,⟨v,r,h1,h2,h3⟩,hv=>by rw[h1];exact⟨_,_,rfl,hv,h3⟩
 | _::_,_,n+1,_,_,⟨v,r,h1,h2,h3⟩,hv=>by rw[h1];exact⟨v,_,rfl,h2,XR.set n h3 hv⟩
theorem qiZ(ho:km)(hk:K7)(hv:XD X e fv)(hs:swapsWithSole [gj] e pos.line X.env=pure false:=by rfl)(hw:swappedStores [gj] e X.env=pure none:=by rfl)(h1':(ub [gj] X.env).map (·.2)=[assign gj X.env]:=by rfl)(ha:∀v,assign gj X.env v=(do
   let ov <- holding [v] (eval o X.env)
   let iv <- holding [v,ov] (eval k X.env)
   rD pos'
   holding Qx Vc
   release Qx []):=by intro _;rfl):XS X Se (zC6 i fk fv):=by
 obtain⟨tk,h1,h2⟩:=hk;obtain⟨tv,h3,h4⟩:=hv;refine⟨_,qjx h3 (qkC ho h1 qgA ha) hs hw h1',ii⟩;obtain⟨d,q1,e⟩:=bnd e;obtain⟨c,q2,e⟩:=bnd e;refine h4 G0 H0 G ω σ H d _ ow q1 λv G1 H1 x1 y1=>?_;cases c with
 | int m=>
  split at e
  ·rename_i _ _ _ m' ds ek q3
   cases ek;obtain⟨j,hj,e⟩:=mpd e;cases e;have o1:=ow.keep x1;obtain⟨l,vs,r1,r2,r3,r4,r5⟩:=o1.ow i ds q3;refine⟨cF,r1,h2 G0 H0 G1 ω σ H1 _ _ o1 q2 λu G2 H2 x2 y2=>?_⟩;cases (show u=.int m from y2);have o2:=o1.keep x2;refine⟨l,vs,m,j,rfl,rfl,x2.hh _ _ r2,by rw[<- r5.len];exact hj,?_⟩;exact kk G2 σ _ (o2.mut q3 r1 L3 (x2.new l r3 (by rw[r2];exact λz=>by cases z)) r4 ((r5.mono x2.gg).set j Ei)) rP
  ·cases e
 | _=>cases e
end
section
variable{X:Cx}{e:vW}{pos pos':Pos}{i:Nat}{fe:FD}
noncomputable def sAug(g:rM)(i:Nat)(fe:FD):FS:=λω=>(fe ω).bind λd=>match d,ω[i]? with
 | .int b,some ↥(.int a)=>some oi
 | _,_=>none
theorem qkh{x:Str}{op:sV}{g:rM}(hop:PIp X op (ipI g))(hN:X.N.Nodup)(hi:X.N[i]?=some x)(hx:eO)(he:XV X e fe)(hf:aK:=by first|exact .inl rfl|exact .inr rfl|assumption):
  XS X Ow (sAug g i fe):=by
 obtain⟨t,h1,h2⟩:=he;refine⟨_,qjL hN hi hx h1 hop hf,ii⟩;obtain⟨d,q1,e⟩:=bnd e;cases d with
 | int b=>
  split at e
  ·rename_i _ _ _ b' a ek q3
   cases ek;cases e;obtain⟨v,r1,r2⟩:=ow.sh i _ q3;cases (show v=.int a from r2);refine⟨bJ,r1,h2 G0 H0 G ω σ H _ _ ow q1 λu G1 H1 x1 y1=>?_⟩;cases y1.int;exact⟨a,b,rfl,rfl,kk G1 _ H1 ((ow.keep x1).setSh (d:=.int (g a b)) (v:=.int (g a b)) rfl) x1.gg⟩
  ·cases e
 | _=>cases e
end
section
open PySem.Spec PyProof.Rows
variable{X:Cx}
noncomputable def mx3(i j k:Int):Int:=if k>(if j>i then j else i)then k else if j>i then j else i
end
end Hk
namespace L2
open PySem PySem.Spec PyProof.Rows
end L2
namespace Hk
open PySem L2
noncomputable def lsetS(i:Nat)(ω:WSt)(v c:eQ)(w:og):Option eI:=v.bind λd=>c.bind λc=>match c,w with
 | .int k,some (some (.ow ds))=>(ixN ds.length k).map λj=>DU
 | _,_=>none
noncomputable def augS(g:rM)(i:Nat)(ω:WSt)(v:eQ)(w:og):Option eI:=v.bind λd=>match d,w with
 | .int b,some ↥(.int a)=>some oi
 | _,_=>none
section
variable{ω:WSt}{fk fv:FD}{fa:FA}{i j:Nat}{ds:List D}{a b c:Int}{d:D}{g:Int->Int->Int}
theorem qfp:zC6 i fk fv ω=lsetS i ω Vq Py ω[i]?:=rfl
theorem qh6:sAug g i fv ω=augS g i ω Vq ω[i]?:=rfl
theorem qdC:augS g i ω (some dI) (some ↥bJ)=some oi:=rfl
end
theorem qiM{i:Nat}{ω:WSt}{ds:aZ}{d:D}{k:Int}(h0:VR)(h1:k<ds.length):lsetS i ω Cp du Cq=some (.nx,ω.set i (some (.ow (ds.set k.toNat d)))):=by
 show (ixN ds.length k).map _=_;have e:ixN ds.length k=some k.toNat:=by unfold ixN;rw[vH h0,OI]
 rw[e];rfl
end Hk
namespace L2
open PySem PySem.Spec PyProof.Rows
noncomputable def Ite(K:zB)(a:vG):It :=
 ⟨λi H=>∃xs x,SqL K H a xs/\xs[i]?=some x,
  λi H x H'=>∃t x1,H t=none/\x=.ref t/\H'=upd H t ac6/\∀xs,SqL K H a xs->xs[i]?=some x1,
  λi H=>∃xs,SqL K H a xs/\xs[i]?=none⟩
theorem qek{P:vU}{w:vZ}{K:zB}{elts:iF}{kx}{tpos:Pos}(a e it:vG)(hne:e≠it)(hae:a≠e)(hai:a≠it):
  Turn P w K jx abU [e,it] e (λi h=>(∃old,IsEnum h e it rh old)/\h.IsListIter it a i) where
 mem:=by simp
 obj:=λi h st c hc=>by
  obtain⟨⟨old,s1⟩,⟨o4,e4,c4,d4⟩⟩:=st;simp only[zF,zd,or_false]at hc;rcases hc with rfl|rfl
  ·exact⟨_,s1,λv y=>by cases (show Data.fields _=Data.cell v from y)⟩
  ·exact⟨_,e4,λv y=>by rw[d4]at y;cases y⟩
 keep:=λi h h' st k=>by
  obtain⟨⟨old,s1⟩,s4⟩:=st;exact⟨⟨old,k _ (by simp) _ s1⟩,s4.at λo e=>k _ (by simp) o e⟩
 item:=by
  intro X hP hw hK hc i pins s σ H E I hf st hg;subst hP hw hK;obtain⟨xs,x,hq,hx⟩:=hg;obtain⟨its,rv,p,hz⟩:=I.list hq;obtain⟨u,hu,ru⟩:=rv.get hx;obtain⟨⟨old,s1⟩,s4⟩:=st;have ex:∀c∈[e,it],∃o,s.heap.get? c=some o:=λc hc=>by
   simp only[zF,zd,or_false]at hc;rcases hc with rfl|rfl
   ·exact aac
   ·obtain⟨o,e,_⟩:=s4;exact AT
  have nt:∀c∈[e,it],c≠s.heap.objs.size:=λc hc=>by
   obtain⟨o,e⟩:=ex c hc;exact zu B2
  refine wpAny_pyNext_enum_item s1 s4 p.isList (x:=u) (by simpa using hu) hne λh' a1 a2 a3 a4 hk=>?_;have hn:H s.heap.objs.size=none:=I.hok.fresh bM;have I1:Inv X pins σ gm { s with heap:=s.heap.push { cls:=.type "tuple", data:=.seq #[.int i s.toks,u] },toks:=s.toks+1 } :=
   I.laid Iu bM (show Xk X.prog X.w _ _ _ (.tup [gU,x])from ⟨by show 2<=sizeLine;decide,[.int i s.toks,u],.cons bz acb,rj⟩)
  have hf':∀c∈[e,it],Wn X pins gm c:=λc hc=>by
   obtain⟨f0,f⟩:=hf c hc;exact⟨by rw[Rn];exact f0,f⟩
  have I2:Inv X pins σ gm { s with heap:=h',toks:=s.toks+1 }:=I1.turnedL (λb o hb e=>by
   simp only[zF,zd,or_false,not_or]at hb
   by_cases q:b=s.heap.objs.size
   ·subst q
    rw[fF]at e;cases e;exact a3
   ·have e':s.heap.get? b=some o:=by
     rcases zw b s.heap.objs.size with l|l
     ·obtain⟨z1,z2⟩:=xj.mp e
      refine xj.mpr Tj;rw[<- z1];show s.heap.objs[b]?=(s.heap.objs.push _)[b]?;rw[wu,vJ q]
     ·have:=zM e
      rw[yf]at this;exact vP (by simp only[vG]at *;omega) q
    exact hk b o hb.1 hb.2 e') hf'
  refine⟨_,rfl,wpAny_letOwnedTupleGo_enum a1 λh2 b1 sb=>?_⟩;have I3:Inv X pins σ gm { s with heap:=h2,toks:=s.toks+1 }:=I2.turnedL (λb o hb e=>(sb.2 b (λq=>hb (by simp[q]))).trans e) hf';have hi:((i+1:Nat):Int)=rh+1:=by push_cast;rfl
  refine⟨aC,_,I3,rfl,⟨_,x,hn,rfl,rfl,λxs' q1=>by rw[I.list_inj q1 hq];exact hx⟩,⟨⟨u,by rw[hi];exact b1⟩,a2.extBut sb.extBut (Ne.symm hne)⟩,Fv⟩
 done:=by
  intro X hP hw hK hc i pins s σ H E I hf st hg;subst hP hw hK;obtain⟨xs,hq,hx⟩:=hg;obtain⟨its,rv,p,hz⟩:=I.list hq;obtain⟨⟨old,s1⟩,s4⟩:=st;have l1:=rv.length;refine wpAny_pyNext_enum_end fM s1 s4 p.isList ?_ λh' hk=>jb
  ·rw[xG]at hx;simp;omega
  ·simp only[zF,zd,or_false,not_or]at hb
   exact hk b o hb.2 e
 self:=λ_ _ _ _ _ st h=>by
  obtain⟨⟨old,s1⟩,s4⟩:=st;exact wpAny_pyIter_enum s1 h
noncomputable def iEnum(K:zB)(ta:TA):TI:=λσ H R=>ta σ H λvs H1=>∃a xs,vs=[dq]/\SqL K H1 a xs/\R abU H1
theorem qcL{X:Cx}{a:vW}{ta:TA}{p pos tpos:Pos}{elts:iF}{kx}(hg:Li)(hm:CQ)(ha:PA X [a] ta)(hs:BS:=by rfl):
  PI X jx DZ (iEnum X.K ta):=by
 intro pins s σ H R I h;refine Call_ (q0G I hg hm PyProof.Rows.boot_enumerate (PyProof.Rows.callWith_type1 (thn eR λus s1 ⟨vs,H1,I1,r1,q1⟩=>?_) hs rfl));obtain⟨l,xs,e,hq,q⟩:=q1;subst e;cases r1 with
 | cons r rr=>
  cases rr;cases r;obtain⟨its,rv,p1,hz⟩:=I1.list hq;have hlt:l<s1.heap.objs.size:=by obtain⟨_,_,e,_⟩:=p1;exact zM e
  refine call_enumerate_list p1.isList λh' a1 a2 a3 hk=>?_;refine wpAny_pyIter_enum a1 ?_;refine⟨kc,[kc,s1.heap.objs.size],_,_,H1,rfl,Ch,qek l _ _ (Nat.succ_ne_self _) (zu (yS hlt)) Jg,⟨⟨_,a1⟩,a2⟩,aag,q⟩;have hle:s1.heap.objs.size<=c:=by
   simp only[zF,zd,or_false]at hc;simp only[vG]at *;omega
  exact I1.fpOk hle HD
end L2
namespace Hk
open PySem L2
noncomputable def zAE:Nat->List D->List D
 | i,a::as=>.tup [gU,a]::zAE (i+1) as
 | _,[]=>[]
theorem q5v:∀(i:Nat)(as:aZ),(zAE i as).length=as.length
 | i,a::as=>by show (zAE (i+1) as).length+1=_;rw[q5v];rfl
 | i,[]=>rfl
theorem q8G:∀(k:Nat)(as:aZ)(i:Nat)(d:D),(zAE k as)[i]?=some d->∃a,as[i]?=some a/\d=.tup [.int ((k+i:Nat):Int),a]
 | k,a::as,0,d,h=>by cases h;exact⟨a,rfl,rfl⟩
 | k,a::as,i+1,d,h=>by
  obtain⟨b,h1,h2⟩:=q8G (k+1) as i d h;exact⟨b,h1,by rw[h2];congr 4;omega⟩
 | k,[],i,d,h=>by cases h
theorem qeo{K:zB}{G:Hp}{a:vG}{ds:aZ}{vs:bt}(h1:UI)(h2:o8):IterOf K abU G (zAE 0 ds):=by
 have l1:=h2.len;refine⟨Fw,gX,λH s=>⟨vs,K9,?_⟩⟩
 ·rw[q5v]at hi
  exact⟨vs,vs[i]'∅,K9,zD _⟩
 ·obtain⟨t,x1,ht,rfl,rfl,y⟩:=hy
  have e1:=y vs RP;obtain⟨p,f1,rfl⟩:=q8G 0 ds i d hd;obtain⟨v,q1,q2⟩:=h2.get f1;rw[e1]at q1;cases q1;have x2:=Ext.lay s1 ht ac6;exact⟨_,x2,⟨t,_,rfl,qe,XR.cons (by show (.int i:V)=.int acf;rw[xb]) (XR.cons (q2.mono JM) XR.nil)⟩⟩
 ·rw[q5v];exact zn ∅
noncomputable def iEn(g:FA):FI:=λω=>(g ω).bind λds=>match ds with
 | [.lst a]=>some (zAE 0 a)
 | _=>none
theorem qi0{X:Cx}{a:vW}{g:FA}{p pos tpos:Pos}{elts:iF}{kx}(hg:Li)(hm:CQ)(ha:XA X [a] g)(hs:BS:=by rfl):
  XI X jx DZ (iEn g):=by
 obtain⟨⟨t,h1,h2⟩,_⟩:=ha;refine⟨_,qcL hg hm h1 hs,gE⟩;obtain⟨vs,q,e⟩:=bnd e;refine h2 G0 H0 G ω σ H vs _ o q λus G1 H1 x1 y1=>?_
 match vs,e with
 | [.lst as],e=>
  cases e;obtain⟨v1,r1,rfl,z1,z2⟩:=y1;cases (show r1=[]from z2);obtain⟨a1,ws1,rfl,f1,f2⟩:=z1;exact⟨a1,ws1,rfl,SU,k _ G1 H1 x1 (qeo f1 f2)⟩
noncomputable def enI(o:A9):Option aZ:=o.bind λds=>match ds with
 | [.lst a]=>some (zAE 0 a)
 | _=>none
theorem qhB{fa:FA}{ω:WSt}:iEn fa ω=enI Mu:=rfl
theorem qh5{ds:aZ}:enI (some [eY])=some (zAE 0 ds):=rfl
section
open PyProof.Rows PySem.Spec
variable{prog:vU}{w:vZ}{A:vf}{E:vB->vC->Prop}{s:vC}{l:vG}{xs:Array (Int×Tok)}
theorem q68{Q:aH}(hl:Ca)(h:∀s₂:vC,s₂={ s with heap:=s.heap.push { cls:=.type "tuple_iterator", data:=.fields #[cF,.int 0 0] } } ->
   (s₂.heap.IsTupleIter s.heap.objs.size l 0/\s₂.heap.IsTuple l (uj xs))->(∀b∈[s.heap.objs.size,l],b<s₂.heap.objs.size)->l≠s.heap.objs.size->Q aC s₂) :
  vM aj A (sP cF) Q E s:=by
 have hlt:l<s.heap.objs.size:=by obtain⟨_,e,_⟩:=hl;exact zM e
 refine sQ hl (h _ rfl ⟨k7,hl.at λo e=>zG _ e⟩ jM Jg);show b<(s.heap.push _).objs.size;rw[yf];rcases zF.mp hb with rfl|hb
 ·exact yd _
 ·rcases zF.mp hb with rfl|hb
  ·exact yS hlt
  ·cases hb
theorem qap{h':vm}(hk:∀b o,b∉aaO->(s.heap.push { cls:=.type "tuple_iterator", data:=.fields #[cF,.int 0 0] }).get? b=some o->h'.get? b=some o):
  ∀b o,s.heap.get? b=some o->h'.get? b=some o:=λb o e=>by
 refine hk b o (λhm=>?_) Ef;rcases zF.mp hm with e1|hm
 ·exact vP (e1▸zM e) HS
 ·cases hm
theorem qdq{Q:aH}(hh:bU)(hl:Ca)(hne:0<xs.size)(h:∀v h' tk,(uj xs)[argBest (λi j=>decide (tZ xs i>tZ xs j)) (xs.size-1)]?=some v->(∀b o,s.heap.get? b=some o->h'.get? b=some o)->Q v { s with heap:=h',toks:=tk }):
  vM aj A (call J6 [cF]) Q E s:=by
 refine call_max_walk IF;subst e;refine⟨_,_,_,_,_,_,_,rfl,Er,st,hfp,by simpa [uj]using hne,CmpOf.ints_gt (tZ xs) (λ_ _=>sG),UT⟩;exact h v h' tk (by simpa [uj]using hP) (qap hk)
theorem qd0{Q:aH}(hh:bU)(hl:Ca)(hne:0<xs.size)(h:∀v h' tk,(uj xs)[argBest (λi j=>decide (tZ xs i<tZ xs j)) (xs.size-1)]?=some v->(∀b o,s.heap.get? b=some o->h'.get? b=some o)->Q v { s with heap:=h',toks:=tk }):
  vM aj A (call J5 [cF]) Q E s:=by
 refine call_min_walk IF;subst e;refine⟨_,_,_,_,_,_,_,rfl,Er,st,hfp,by simpa [uj]using hne,CmpOf.ints_lt (tZ xs) (λ_ _=>sG),UT⟩;exact h v h' tk (by simpa [uj]using hP) (qap hk)
end
def rMaxT(K:zB):List V->Hp->VK->Prop:=λxs H Q=>∃(p:vG) (ns:af),xs=N7/\SqT K H p ca/\ns≠[]/\Q Ln H
def rMinT(K:zB):List V->Hp->VK->Prop:=λxs H Q=>∃(p:vG) (ns:af),xs=N7/\SqT K H p ca/\ns≠[]/\Q Lo H
section
variable{X:Cx}
open PyProof.Rows PySem.Spec
theorem qfa(hc:cI):WN X J6 (rMaxT X.K):=by
 intro pins s σ H xs us Q I r h;obtain⟨p,ns,rfl,hp,hne,q⟩:=h;obtain⟨u,rfl,rx⟩:=vals1 r;cases rx;obtain⟨its,rv,e,hz⟩:=I.tuple hp;have hi:=q1c rv;obtain⟨ys,ey⟩:=hi.allInts.items;have hns:ns=ys.toList.map (·.1):=by rw[<- hi.numsOf,<- nums_intItems,<- ey]
 have hl:s.heap.IsTuple p its.toArray:=e;rw[ey]at hl;have hsz:0<ys.size:=by
  have h3:=wI.mpr hne;rw[hns,zA,zK]at h3;exact h3
 refine qdq fM hl hsz λv h' tk hv hk=>?_;obtain⟨t,rfl⟩:=sG hv;obtain⟨h1,h2⟩:=argBest_gt (tZ ys) Kg;have em:tZ ys (argBest (λi j=>decide (tZ ys i>tZ ys j)) Kg)=zBZ ns:=by
  obtain⟨m1,m2⟩:=qc2 hne;apply Yi
  ·apply m2
   rw[hns,rH];exact getD_mem (by rw[zA,zK];omega)
  ·rw[hns]at m1
   obtain⟨j,hj,ej⟩:=mem_getD m1;rw[zA,zK]at hj;rw[<- hns]at ej;rw[<- ej,hns,<- rH];exact h2 j ∅
 rw[em];exact Fq
theorem qfl(hc:cI):WN X J5 (rMinT X.K):=by
 intro pins s σ H xs us Q I r h;obtain⟨p,ns,rfl,hp,hne,q⟩:=h;obtain⟨u,rfl,rx⟩:=vals1 r;cases rx;obtain⟨its,rv,e,hz⟩:=I.tuple hp;have hi:=q1c rv;obtain⟨ys,ey⟩:=hi.allInts.items;have hns:ns=ys.toList.map (·.1):=by rw[<- hi.numsOf,<- nums_intItems,<- ey]
 have hl:s.heap.IsTuple p its.toArray:=e;rw[ey]at hl;have hsz:0<ys.size:=by
  have h3:=wI.mpr hne;rw[hns,zA,zK]at h3;exact h3
 refine qd0 fM hl hsz λv h' tk hv hk=>?_;obtain⟨t,rfl⟩:=sG hv;obtain⟨h1,h2⟩:=argBest_lt (tZ ys) Kg;have em:tZ ys (argBest (λi j=>decide (tZ ys i<tZ ys j)) Kg)=zBX ns:=by
  obtain⟨m1,m2⟩:=qbs hne;apply Yi
  ·rw[hns]at m1
   obtain⟨j,hj,ej⟩:=mem_getD m1;rw[zA,zK]at hj;rw[<- hns]at ej;rw[<- ej,hns,<- rH];exact h2 j ∅
  ·apply m2
   rw[hns,rH];exact getD_mem (by rw[zA,zK];omega)
 rw[em];exact Fq
noncomputable def zCF:List D->Option R
 | [.tup ds]=>(intsOf ds).bind λns=>if ns=[]then none else ↥Ln
 | _=>none
noncomputable def zCH:List D->Option R
 | [.tup ds]=>(intsOf ds).bind λns=>if ns=[]then none else ↥Lo
 | _=>none
theorem qim{K:zB}:W6 K (rMaxT K) zCF:=by
 intro G H ds vs d Q s e hv k
 match ds,e with
 | [.tup ds],e=>
  obtain⟨ns,e1,e2⟩:=bnd (show (intsOf ds).bind _=some d from e);have hds:=q0C e1;subst hds
  by_cases hz:ns=[]
  ·rw[U4]at e2;cases e2
  ·rw[U3]at e2
   cases e2;obtain⟨v,rfl,h⟩:=hv.one;rcases h with⟨p,us,rfl,h1,h2⟩|⟨ds',l,vs,e3,_⟩
   ·exact⟨p,ns,rfl,by rw[<- h2.of_ints];exact SqT.of gG,hz,k _ G H da rfl⟩
   ·cases e3
theorem qjd{K:zB}:W6 K (rMinT K) zCH:=by
 intro G H ds vs d Q s e hv k
 match ds,e with
 | [.tup ds],e=>
  obtain⟨ns,e1,e2⟩:=bnd (show (intsOf ds).bind _=some d from e);have hds:=q0C e1;subst hds
  by_cases hz:ns=[]
  ·rw[U4]at e2;cases e2
  ·rw[U3]at e2
   cases e2;obtain⟨v,rfl,h⟩:=hv.one;rcases h with⟨p,us,rfl,h1,h2⟩|⟨ds',l,vs,e3,_⟩
   ·exact⟨p,ns,rfl,by rw[<- h2.of_ints];exact SqT.of gG,hz,k _ G H da rfl⟩
   ·cases e3
theorem qi4{ns:af}(h:ns≠[]):zCF [.tup cY]=↥Ln:=by
 show (intsOf cY).bind _=_;rw[qR];exact vJ h
theorem qiv{ns:af}(h:ns≠[]):zCH [.tup cY]=↥Lo:=by
 show (intsOf cY).bind _=_;rw[qR];exact vJ h
end
end Hk
namespace Hk
open PySem PySem.Spec PyProof.Rows L2
section
variable{prog:vU}{w:vZ}{A:vf}{E:vB->vC->Prop}{s:vC}
theorem q9X{z TI TO:vG}{f0 f1:vB}{Q:mM}(hz:iS)(hf:f0=.none\/∃t:vG,f0=uE t/\s.heap.get? t=none)(k:Q true s):
  vM aj A DS Q E s:=by
 unfold Builtin.SmallTypes.ownedTupleIsFree;rcases hf with rfl|⟨t,rfl,ht⟩
 ·exact vA (v5 hz rfl (x:=.none) rfl (vF k))
 ·refine vA KO
  show vM _ _ (rA ((t:Int)).toNat >>= _) _ _ _;rw[yr];refine vA (qaj ?_);rw[ht];exact vF k
theorem qdW{z TI TO i1 i2 l1 l2:vG}{k1 k2:Nat}{xs ys:cK}{x y a b f0 f1:vB}{Q:cR}(Z:cZ)(hz:iS)(hf:f0=.none\/∃t:vG,f0=uE t/\s.heap.get? t=none)(hTI:eM)(hTO:CD)(h1:gM)(h2:gL)(hl1:kD)(hl2:kC)(hx:xs[k1]?=some x)(hy:ys[k2]?=some y)(hQ:∀g,Xv g z TI TO (uE s.heap.objs.size) P0->uB g TO x y->g.IsListIter i1 l1 (k1+1)->g.IsListIter i2 l2 (k2+1)->uB g s.heap.objs.size x y ->
   (∀c o,c≠z->c≠TO->c≠i1->c≠i2->s.heap.get? c=some o->g.get? c=some o)->Q OL { s with heap:=g }) :
  vM aj A BA Q E s:=by
 have tz:s.TypeIs bY "zip" := oW;unfold uK;refine vA dj;show vM _ _ (field bY 2 >>= _) _ _ _;refine vA iW;show vM _ _ (field bY 3 >>= _) _ _ _;refine vA jV;refine vA Di;show vM _ _ (Builtin.SmallTypes.ownedTupleIsFree bY >>= _) _ _ _;refine vA acA;simp only[if_true];refine vA Dh;refine vA (vo hz (by simp) λg1 z1 b1=>?_);replace z1:Xv g1 z TI TO .ellipsis f1:=z1;refine vA ?_;simp only[ZW,Yj,wM,w8];refine vA Iy;show vM _ _ (Builtin.SmallTypes.nextOf Cu >>= _) _ _ _;refine vA kI;have o2:uB g2 TO a b:=b2.extBut _ _ Z.TOi1 Nl;refine vA Ek;replace o3:uB g3 TO x b:=o3;refine vA Vb;show vM _ _ (Builtin.SmallTypes.nextOf Ct >>= _) _ _ _;have h2':=((h2.extBut b1.extBut Z.i2z).extBut b2.extBut Z.i12.symm).extBut b3.extBut Z.TOi2.symm;have hl2':=((hl2.extBut b1.extBut Z.l2z).extBut b2.extBut Z.l2i1).extBut b3.extBut Z.l2TO;refine vA (uJ h2' hl2' hy λg4 it2 b4=>vF ?_);have o4:uB g4 TO x b:=b4.extBut _ _ Z.TOi2 o3;refine vA (uA o4 rfl (vA (tE o4 λg5 o5 b5=>?_)));replace o5:uB g5 TO x y:=o5;refine vA (tD (vF eP));refine vA (uA o5 rfl (vA (u4 ?_)));have sz:g5.objs.size=s.heap.objs.size:=by rw[b5.1,b4.1,b3.1,b2.1,b1.1]
 have z5:Xv g5 z TI TO .ellipsis f1:=b5.extBut _ _ Z.TOz.symm (b4.extBut _ _ Z.i2z.symm pU);have k5:∀c o,c≠z->c≠TO->c≠i1->c≠i2->s.heap.get? c=some o->g5.get? c=some o:=λc o n1 n2 n3 n4 e=>b5.extBut _ _ n2 (b4.extBut _ _ n4 (b3.extBut _ _ n2 (b2.extBut _ _ n3 (b1.extBut _ _ n1 e))));have j1:g5.IsListIter i1 l1 (k1+1):=((it1.extBut b3.extBut Z.TOi1.symm).extBut b4.extBut Z.i12).extBut b5.extBut Z.TOi1.symm;have j2:g5.IsListIter i2 l2 (k2+1):=it2.extBut b5.extBut Z.TOi2.symm;have zl:z<g5.objs.size:=zM z5;show vM _ _ (Builtin.SmallTypes.ownedTupleHandOut bY SX >>= _) _ _ _;refine vA ?_;unfold Builtin.SmallTypes.ownedTupleHandOut;have z6:Xv (g5.push { cls:=.type "tuple", data:=.seq #[x,y] }) z TI TO .ellipsis f1:=zG _ z5;refine vA (vo z6 (by simp) λg7 z7 b7=>?_);replace z7:Xv g7 z TI TO Va f1:=z7;refine vo z7 (by simp) λg8 z8 b8=>?_;replace z8:Xv g8 z TI TO Va P0:=z8;have up:∀c o,c≠z->g5.get? c=some o->g8.get? c=some o:=λc o n e=>b8.extBut _ _ n (b7.extBut _ _ n Ef);have t8:uB g8 g5.objs.size x y:=b8.extBut _ _ (xo zl) (b7.extBut _ _ (xo zl) fF);rw[sz]at z8 t8;refine vF Ny;show Q (some SX) _;rw[sz];exact hQ g8 z8 (up _ _ Z.TOz o5) (j1.at λo e=>up _ o Z.i1z e) (j2.at λo e=>up _ o Z.i2z e) t8 λc o n1 n2 n3 n4 e=>up c o n1 (k5 c o n1 n2 n3 n4 e)
theorem qfV{z TI TO i1 i2 l1 l2:vG}{k1 k2:Nat}{xs ys:cK}{a b f0 f1:vB}{Q:cR}(hh:bU)(Z:cZ)(hz:iS)(hf:f0=.none\/∃t:vG,f0=uE t/\s.heap.get? t=none)(hTI:eM)(hTO:CD)(h1:gM)(h2:gL)(hl1:kD)(hl2:kC)(hend:xs[k1]?=none\/ys[k2]?=none)(hQ:∀g,(∀c o,c≠z->c≠TO->c≠i1->c≠i2->s.heap.get? c=some o->g.get? c=some o)->Q none { s with heap:=g }):
  vM aj A BA Q E s:=by
 have tz:s.TypeIs bY "zip" := oW;unfold uK;refine vA dj;show vM _ _ (field bY 2 >>= _) _ _ _;refine vA iW;show vM _ _ (field bY 3 >>= _) _ _ _;refine vA jV;refine vA Di;show vM _ _ (Builtin.SmallTypes.ownedTupleIsFree bY >>= _) _ _ _;refine vA acA;simp only[if_true];refine vA Dh;refine vA (vo hz (by simp) λg1 z1 b1=>?_);replace z1:Xv g1 z TI TO .ellipsis f1:=z1;refine vA ?_;simp only[ZW,Yj,wM,w8];refine vA Iy;show vM _ _ (Builtin.SmallTypes.nextOf Cu >>= _) _ _ _;cases hx:xs[k1]? with
 | none=>
  refine vA (ug hh LB K2 hx λg2 e b2 he=>?_);obtain⟨oe,q1,q2⟩:=he;have z2:Xv g2 z TI TO .ellipsis f1:=b2 _ _ Z.i1z.symm z1;have ne:e≠z:=λv=>by subst v;rw[z2]at q1;cases q1;simp at q2
  refine vo z2 (by simp) λg3 _ b3=>?_;refine vA (uL (T := "StopIteration") (b:=true) ⟨oe,b3.extBut _ _ ne q1,q2⟩ ui ?_);exact vF (hQ _ λc o n1 _ n3 _ v=>b3.extBut _ _ n1 (b2 _ _ n3 RD))
 | some x=>
  have hy:ys[k2]?=none:=by rcases hend with h|h;rw[hx]at h;cases h;exact h
  refine vA kI;have o2:uB g2 TO a b:=b2.extBut _ _ Z.TOi1 Nl;refine vA Ek;refine vA Vb;show vM _ _ (Builtin.SmallTypes.nextOf Ct >>= _) _ _ _;have h2':=((h2.extBut b1.extBut Z.i2z).extBut b2.extBut Z.i12.symm).extBut b3.extBut Z.TOi2.symm;have hl2':=((hl2.extBut b1.extBut Z.l2z).extBut b2.extBut Z.l2i1).extBut b3.extBut Z.l2TO;refine vA (ug hh h2' hl2' hy λg4 e b4 he=>?_);obtain⟨oe,q1,q2⟩:=he;have z4:Xv g4 z TI TO .ellipsis f1:=b4 _ _ Z.i2z.symm pU;have ne:e≠z:=λv=>by subst v;rw[z4]at q1;cases q1;simp at q2
  refine vo z4 (by simp) λg5 _ b5=>?_;refine vA (uL (T := "StopIteration") (b:=true) ⟨oe,b5.extBut _ _ ne q1,q2⟩ ui ?_);exact vF (hQ _ λc o n1 n2 n3 n4 v=>b5.extBut _ _ n1 (b4 _ _ n4 (b3.extBut _ _ n2 (b2.extBut _ _ n3 RD))))
theorem qeU{z TI TO i1 i2 l1 l2:vG}{k1 k2:Nat}{xs ys:cK}{x y a b f0 f1:vB}{Q:cR}(Z:cZ)(hz:iS)(hf:f0=.none\/∃t:vG,f0=uE t)(hTI:eM)(hTO:CD)(h1:gM)(h2:gL)(hl1:kD)(hl2:kC)(hx:xs[k1]?=some x)(hy:ys[k2]?=some y)(hQ:∀(g:vm)(t:vG)(f1':vB),Xv g z TI TO (uE t) f1'->(∃a b,uB g TO a b)->g.IsListIter i1 l1 (k1+1)->g.IsListIter i2 l2 (k2+1)->uB g s.heap.objs.size x y ->
   (∀c o,c≠z->c≠TO->c≠i1->c≠i2->s.heap.get? c=some o->g.get? c=some o)->Q OL { s with heap:=g }) :
  vM aj A BA Q E s:=by
 have dead:(f0=.none\/∃t:vG,f0=uE t/\s.heap.get? t=none)->vM aj A BA Q E s:=λhd=>
  qdW Z hz hd hTI hTO h1 h2 hl1 hl2 hx hy λg a1 a2 a3 a4 a5 a6=>hQ g _ _ a1 ⟨_,_,a2⟩ a3 a4 a5 a6
 rcases hf with hf|⟨t,rfl⟩
 ·exact dead (.inl hf)
 ·cases ht:s.heap.get? t with
  | none=>exact dead QK
  | some ot=>exact q8B Z hz ht hTI h1 h2 hl1 hl2 hx hy λg f1' a1 a2 a3 a4 a5=>hQ g t f1' a1 ⟨a,b,a5 _ _ Z.TOz Z.TOi1 Z.TOi2 hTO⟩ a2 a3 a4 λc o n1 _ n3 n4 e=>a5 c o n1 n3 n4 e
theorem qfM{z TI TO i1 i2 l1 l2:vG}{k1 k2:Nat}{xs ys:cK}{a b f0 f1:vB}{Q:cR}(hh:bU)(Z:cZ)(hz:iS)(hf:f0=.none\/∃t:vG,f0=uE t)(hTI:eM)(hTO:CD)(h1:gM)(h2:gL)(hl1:kD)(hl2:kC)(hend:xs[k1]?=none\/ys[k2]?=none)(hQ:∀g,(∀c o,c≠z->c≠TO->c≠i1->c≠i2->s.heap.get? c=some o->g.get? c=some o)->Q none { s with heap:=g }):
  vM aj A BA Q E s:=by
 have dead:(f0=.none\/∃t:vG,f0=uE t/\s.heap.get? t=none)->vM aj A BA Q E s:=λhd=>qfV hh Z hz hd hTI hTO h1 h2 hl1 hl2 hend hQ;rcases hf with hf|⟨t,rfl⟩
 ·exact dead (.inl hf)
 ·cases ht:s.heap.get? t with
  | none=>exact dead QK
  | some ot=>exact qam hh Z hz ht hTI h1 h2 hl1 hl2 hend λg k=>hQ g λc o n1 _ n3 n4 e=>k c o n1 n3 n4 e
theorem qe6{z TI TO:vG}{f0 f1:vB}{Q:aH}(hz:iS)(h:Q bY s):vM aj A (sP bY) Q E s:=by
 have tz:s.TypeIs bY "zip" := oW;refine tQ tz PySem.F.slot_zip_iter (vk PySem.F.slot_zip_iter tz PySem.F.entry_zip_iter ?_ (PySem.F.args_zip_iter_1 _));show vM _ _ (ret bY) _ _ s;exact vF ⟨_,rfl, "zip", _,tz,PySem.F.slot_zip_next.lookup,h⟩
end
end Hk
namespace L2
open PySem PySem.Spec PyProof.Rows Hk
theorem qeX{P:vU}{w:vZ}{K:zB}{y:Str}{tpos:Pos}(a b z TI TO i1 i2:vG)(D:TD):
  Turn P w K M3 KB [z,TI,TO,i1,i2] z (λi h=>(∃f0 f1,Xv h z TI TO f0 f1/\(f0=.none\/∃t:vG,f0=uE t))/\uB h TI Cu Ct/\(∃x y,uB h TO x y)/\h.IsListIter i1 a i/\h.IsListIter i2 b i) where
 mem:=by simp
 obj:=λi h st c hc=>by
  obtain⟨⟨_,_,s1,_⟩,s2,⟨_,_,s3⟩,⟨o4,e4,c4,d4⟩,⟨o5,e5,c5,d5⟩⟩:=st;simp only[zF,zd,or_false]at hc;rcases hc with rfl|rfl|rfl|rfl|rfl
  ·exact⟨_,s1,λv y=>by cases (show Data.fields _=Data.cell v from y)⟩
  ·exact⟨_,s2,λv y=>by cases (show Data.seq _ _=Data.cell v from y)⟩
  ·exact⟨_,s3,λv y=>by cases (show Data.seq _ _=Data.cell v from y)⟩
  ·exact⟨_,e4,λv y=>by rw[d4]at y;cases y⟩
  ·exact⟨_,e5,λv y=>by rw[d5]at y;cases y⟩
 keep:=λi h h' st k=>by
  obtain⟨⟨f0,f1,s1,hf⟩,s2,⟨x,y,s3⟩,s4,s5⟩:=st;exact⟨⟨f0,f1,k _ (by simp) _ s1,hf⟩,k _ (by simp) _ s2,⟨x,y,k _ (by simp) _ s3⟩,s4.at λo e=>k _ (by simp) o e,s5.at λo e=>k _ (by simp) o e⟩
 item:=by
  intro X hP hw hK hc i pins s σ H E I hf st hg;subst hP hw hK;obtain⟨xs,ys,x,y,hq1,hq2,hx,hy⟩:=hg;obtain⟨its1,rv1,p1,hz1⟩:=I.list hq1;obtain⟨its2,rv2,p2,hz2⟩:=I.list hq2;obtain⟨u1,hu1,ru1⟩:=rv1.get hx;obtain⟨u2,hu2,ru2⟩:=rv2.get hy;obtain⟨⟨f0,f1,s1,hf0⟩,s2,⟨_,_,s3⟩,s4,s5⟩:=st;have ex:∀c∈[z,TI,TO,i1,i2],∃o,s.heap.get? c=some o:=λc hc=>by
   simp only[zF,zd,or_false]at hc;rcases hc with rfl|rfl|rfl|rfl|rfl
   ·exact aac
   ·exact⟨_,s2⟩
   ·exact⟨_,s3⟩
   ·obtain⟨o,e,_⟩:=s4;exact AT
   ·obtain⟨o,e,_⟩:=s5;exact AT
  have nt:∀c∈[z,TI,TO,i1,i2],c≠s.heap.objs.size:=λc hc=>by
   obtain⟨o,e⟩:=ex c hc;exact zu B2
  refine qeU D s1 hf0 s2 s3 s4 s5 p1.isList p2.isList (x:=u1) (y:=u2) (by simpa using hu1) (by simpa using hu2) λh' t' f1' a1 a2 a3 a4 a5 hk=>?_;have hn:H s.heap.objs.size=none:=I.hok.fresh bM;have I1:Inv X pins σ cr { s with heap:=s.heap.push { cls:=.type "tuple", data:=.seq #[u1,u2] },toks:=s.toks } :=
   I.laid Iu bM (show Xk X.prog X.w _ _ _ oG from ⟨by show 2<=sizeLine;decide,[u1,u2],.cons ru1 aa8,rj⟩)
  have hf':∀c∈[z,TI,TO,i1,i2],Wn X pins cr c:=λc hc=>by
   obtain⟨q0,q⟩:=hf c hc;exact⟨by rw[Rn];exact q0,q⟩
  have I2:Inv X pins σ cr { s with heap:=h',toks:=s.toks }:=I1.turnedL (λb o hb e=>by
   simp only[zF,zd,or_false,not_or]at hb
   by_cases q:b=s.heap.objs.size
   ·subst q
    rw[fF]at e;cases e;exact a5
   ·have e':s.heap.get? b=some o:=by
     rcases zw b s.heap.objs.size with l|l
     ·obtain⟨z1,z2⟩:=xj.mp e
      refine xj.mpr Tj;rw[<- z1];show s.heap.objs[b]?=(s.heap.objs.push _)[b]?;rw[wu,vJ q]
     ·have:=zM e
      rw[yf]at this;exact vP (by simp only[vG]at *;omega) q
    exact hk b o hb.1 hb.2.2.1 hb.2.2.2.1 hb.2.2.2.2 e') hf'
  refine Ny;exact⟨aC,_,I2,rfl,⟨_,x,y,hn,rfl,rfl,λxs' ys' q1 q2=>⟨by rw[abW];exact hx,by rw[abV];exact hy⟩⟩,⟨⟨_,_,a1,.inr bz⟩,FW,a2,a3,a4⟩,Fv⟩
 done:=by
  intro X hP hw hK hc i pins s σ H E I hf st hg;subst hP hw hK;obtain⟨xs,ys,hq1,hq2,hx⟩:=hg;obtain⟨its1,rv1,p1,hz1⟩:=I.list hq1;obtain⟨its2,rv2,p2,hz2⟩:=I.list hq2;obtain⟨⟨f0,f1,s1,hf0⟩,s2,⟨_,_,s3⟩,s4,s5⟩:=st;have l1:=rv1.length;have l2:=rv2.length;refine qfM fM D s1 hf0 s2 s3 s4 s5 p1.isList p2.isList ?_ λh' hk=>jb
  ·rcases hx with hx|hx
   ·exact .inl (by rw[xG]at hx;simp;omega)
   ·exact .inr (by rw[xG]at hx;simp;omega)
  ·simp only[zF,zd,or_false,not_or]at hb
   exact hk b o hb.1 hb.2.2.1 hb.2.2.2.1 hb.2.2.2.2 e
 self:=λ_ _ _ _ _ st h=>by
  obtain⟨⟨f0,f1,s1,hf⟩,_⟩:=st;exact qe6 s1 h
theorem qj7{X:Cx}{a b:vW}{ta:TA}{p pos tpos:Pos}{y:Str}(hg:Eu)(hm:ma)(ha:PA X Cs ta)(hs:oJ:=by rfl)(hs2:BR:=by rfl):
  PI X M3 iU (iZip X.K ta):=by
 intro pins s σ H R I h;refine Call_ (q0G I hg hm PyProof.Rows.boot_zip (PyProof.Rows.callWith_type1 (thn eR λus s1 ⟨vs,H1,I1,r1,q1⟩=>?_) (by rw[hs,hs2]) (by rw[hs2];rfl)));obtain⟨l1,l2,xs,ys,e,hq1,hq2,q⟩:=q1;subst e;cases r1 with
 | cons r rr=>
  cases rr with
  | cons r' rr=>
   cases rr;cases r;cases r';obtain⟨its1,rv1,p1,hz1⟩:=I1.list hq1;obtain⟨its2,rv2,p2,hz2⟩:=I1.list hq2;have e1:l1<s1.heap.objs.size:=by obtain⟨_,_,e,_⟩:=p1;exact zM e
   have e2:l2<s1.heap.objs.size:=by obtain⟨_,_,e,_⟩:=p2;exact zM e
   refine call_zip_2 p1.isList p2.isList λh' a1 a2 a3 a4 a5 a6 hk=>?_;refine u9 a1 ?_;have D:ua mm ED EC s1.heap.objs.size kc l1 l2:=by
    generalize s1.heap.objs.size=n at *
    constructor <;> (intro q;simp only[vG]at *;omega)
   refine⟨mm,jr,_,_,H1,rfl,Ch,qeX l1 l2 _ _ _ _ _ D,⟨⟨_,_,a1,bu⟩,a2,⟨_,_,a3⟩,a4,a5⟩,aag,q⟩;have hle:s1.heap.objs.size<=c:=by
    simp only[zF,zd,or_false]at hc;simp only[vG]at *;omega
   exact I1.fpOk hle HD
end L2
namespace Hk
open PySem L2
theorem qhV{X:Cx}{a b:vW}{g:FA}{p pos tpos:Pos}{y:Str}(hg:Eu)(hm:ma)(ha:XA X Cs g)(hs:oJ:=by rfl)(hs2:BR:=by rfl):
  XI X M3 iU (iZp g):=by
 obtain⟨⟨t,h1,h2⟩,_⟩:=ha;refine⟨_,qj7 hg hm h1 hs hs2,gE⟩;obtain⟨vs,q,e⟩:=bnd e;refine h2 G0 H0 G ω σ H vs _ o q λus G1 H1 x1 y1=>?_
 match vs,e with
 | [.lst as,.lst bs],e=>
  cases e;obtain⟨v1,r1,rfl,z1,z2⟩:=y1;obtain⟨v2,r2,rfl,z3,z4⟩:=z2;cases (show r2=[]from z4);obtain⟨a1,ws1,rfl,f1,f2⟩:=z1;obtain⟨a2,ws2,rfl,f3,f4⟩:=z3;exact jt
end Hk
namespace L2
open PySem PySem.Spec PyProof.Rows
noncomputable def Itk(a:vG)(ob:Obj)(kvs:eF):It :=
 ⟨λi H=>H a=some iw/\i<kvs.length,λi H x H'=>H'=H/\∃n v,kvs[i]?=some (abM,v)/\x=.int n,λi H=>H a=some iw/\kvs.length<=i⟩
theorem qfs{X:Cx}{pins:aA}{σ:St}{H:Hp}{s:vC}{a:vG}{ob:Obj}{kvs:eF}{es0:MZ}{ep:Nat}(I:aq)(h:H a=some iw)(hd:TR):
  BD=false/\∃vs,KV kvs vs/\s.heap.DictAt nj a vs ep:=by
 obtain⟨e,_,lo,vs,r,o,es,ep',e',c1,c2,c3⟩:=(show Xk X.prog X.w H s.heap a iw from I.hok a _ h);refine⟨lo,vs,r,o,es,e',c1,?_,c3⟩;rw[e]at e';cases e';rw[hd]at c2;cases c2;exact hd
theorem qfn{P:vU}{w:vZ}{K:zB}{tg:vW}{ob:Obj}{kvs:eF}{es0:MZ}{ep:Nat}(a it:vG)(hne:a≠it)(hd:TR)(hk:∀p∈kvs,∃n:Int,p.1=nr):
  Turn P w K tg ac3 [it] it (λi h=>h.IsKeyIter it a i kvs.length ep) where
 mem:=by simp
 obj:=λi h st b hb=>by
  have e:b=it:=by simpa using hb
  subst e;obtain⟨o,e,c,d⟩:=st;exact⟨o,e,λv z=>by rw[d]at z;cases z⟩
 keep:=λi h h' st k=>st.at λo e=>k it (by simp) o e
 item:=by
  intro X hP hw hK hc i pins s σ H E I hf st hg;subst hP hw hK;obtain⟨hq,hi⟩:=hg;obtain⟨lo,vs,r,hm⟩:=qfs I hq hd;have hl:kvs.length=vs.length:=by have:=v4 xf r.keys;simpa using this
  obtain⟨⟨k,v⟩,hx⟩:∃p,kvs[i]?=some p:=⟨kvs[i],zD hi⟩;obtain⟨n,rfl⟩:=hk _ (yK hx);obtain⟨⟨k',u⟩,hu⟩:∃p,vs[i]?=some p:=⟨vs[i]'∅,zD _⟩;have ek:k'=nr:=by
   have h1:(kvs.map (·.1))[i]?=some abM:=by rw[zZ,hx];rfl
   rw[r.keys,zZ,hu]at h1;exact zy h1
  subst ek;obtain⟨f0,f1,f2,f3,f4,f5⟩:=hf it (by simp);rw[hl]at st;refine wpAny_pyNext_dict_item st hm hu λkey h' hkey st' sb=>?_;have I1:Inv X pins σ H { s with heap:=h' }:=I.turned (t':=s.toks) nM f0 f1 f3 f4 f5;obtain⟨t,rfl⟩:∃t,key=.int n t:=by
   rcases qJ (k:=nr) hkey with⟨i,t,e4,rfl⟩|⟨x,t,e4,_⟩
   ·cases e4;exact Lr
   ·cases e4
  obtain⟨o,e,c,d⟩:=id st';rw[<- hl]at st';exact⟨.int n t,rfl,q9b (s:={ s with heap:=h' }) e c d (by decide) ⟨GT,H,I1,Lr,⟨rfl,n,v,hx,rfl⟩,st',Af⟩⟩
 done:=by
  intro X hP hw hK hc i pins s σ H E I hf st hg;subst hP hw hK;obtain⟨hq,hi⟩:=hg;obtain⟨lo,vs,r,hm⟩:=qfs I hq hd;have hl:kvs.length=vs.length:=by have:=v4 xf r.keys;simpa using this
  obtain⟨f0,f1,f2,f3,f4,f5⟩:=hf it (by simp);rw[hl]at st;exact wpAny_pyNext_dict_end fM st hm Pd λh' eb=>cu
 self:=λ_ _ _ _ _ st h=>wpAny_pyIter_keyiter st h
noncomputable def iKeys(tl:TE):TI:=λσ H R=>tl σ H λv H1=>∃a ob kvs,v=.ref a/\H1 a=some iw/\(∀p∈kvs,∃n:Int,p.1=nr)/\R ac3 H1
theorem qia{X:Cx}{tg l:vW}{tl:TE}(hl:PE X l tl):PI X tg l (iKeys tl):=by
 intro pins s σ H R I h;refine thn CL λv s1 ⟨x,H1,I1,r1,q1⟩=>?_;obtain⟨a,ob,kvs,e,hq,hk,q⟩:=q1;subst e;cases r1;obtain⟨e0,_,lo,vs,r,o,es,ep,e',c1,c2,c3⟩:=(show Xk X.prog X.w H1 s1.heap a iw from I1.hok a _ hq);have hob:ob.data=.dict es ep:=by rw[e0]at e';cases e';exact c2
 have hm:s1.heap.DictAt nj a vs ep:=⟨o,es,e',c1,c2,c3⟩;have hlen:kvs.length=vs.length:=by have:=v4 xf r.keys;simpa using this
 have hlt:a<s1.heap.objs.size:=zM e0;refine wpAny_pyIter_dict lo hm ?_;refine⟨s1.heap.objs.size,Hh,_,_,H1,rfl,I1.kept (t':=s1.toks) λb o e=>zG _ e,qfn a _ Jg hob hk,⟨_,zS _ rfl,rfl,by rw[hlen];rfl⟩,jM,q⟩;have e:b=s1.heap.objs.size:=by simpa using hb
 subst e;exact I1.fpOk bM oh
end L2
namespace Hk
open PySem L2
theorem q8e:∀{ks:af}{vs:bt}{i:Nat}{n:Int}{v:V},(kvsOf ks vs)[i]?=some (abM,v)->ks[i]?=some n
 | [],_,_,_,_,h=>by cases h
 | _::_,[],_,_,_,h=>by cases h
 | k::ks,v::vs,0,n,u,h=>by cases h;rfl
 | k::ks,v::vs,i+1,n,u,h=>q8e (ks:=ks) (vs:=vs) h
theorem q8d:∀{ks:af}{vs:bt},∀p∈kvsOf ks vs,∃n:Int,p.1=nr
 | [],_,_,h=>by cases h
 | _::_,[],_,h=>by cases h
 | k::ks,v::vs,p,h=>by
  rcases zF.mp h with rfl|h
  ·exact Tg
  ·exact q8d p h
theorem qeR{K:zB}{G:Hp}{a:vG}{ob:Obj}{ks:af}{vs:bt}(h1:G a=some (.frz ob Jv))(hl:Vo):IterOf K (Itk a ob jX) G Mm:=by
 have l1:=q2D hl;refine⟨λH i s hi=>⟨s _ _ h1,by rw[zA]at hi;omega⟩,gX,λH s=>⟨s _ _ h1,by rw[zA];omega⟩⟩;obtain⟨e,n,v,q1,q2⟩:=hy;subst e q2;have:=q8e q1;rw[zZ,this]at hd;cases hd;exact⟨G2,UJ,rfl⟩
noncomputable def zCB:Option cj->Option aZ
 | some ↥(.dic ks _)=>some Mm
 | _=>none
noncomputable def iDk(i:Nat):FI:=λω=>zCB ω[i]?
theorem qix{X:Cx}{tg o:vW}{i:Nat}(ho:km):XI X tg o (iDk i):=by
 refine⟨_,qia ho,λG0 H0 G ω σ H ds R ow e k=>?_⟩;unfold iDk zCB at e
 split at e
 ·rename_i ks ds' q
  cases e;obtain⟨v,h1,p,vs,rfl,⟨ob,h2⟩,h3,h4⟩:=ow.sh i _ q;exact⟨bw,h1,p,ob,_,rfl,ow.gh _ _ h2,q8d,k _ G H aaZ (qeR h2 (by rw[h3];exact h4.len))⟩
 ·cases e
end Hk
namespace Hk
open PySem PySem.Spec L2 PyProof.Rows
section
variable{P:vU}{w:vZ}{H:Hp}{h:vm}{a:vG}{o:HO}
end
section
variable{X:Cx}{pins:List (vG×Obj)}{σ:L2.St}{H:Hp}{s:vC}{h':vm}
end
section
variable{X:Cx}{E:XK}
end
noncomputable abbrev FX:=WSt->Option Str
section
variable{X:Cx}{E:XK}{st:vp}{rest:List vp}{e:vW}{es:List vW}{pos:Pos}{g g':FX}
end
end Hk
namespace PySem
section
variable{M:Model}{A:vf}{E:vB->vC->Prop}{nm q:Str}{C N:vG}{bs bm:List vB}{hdct:Bool}{sn:List Str}{sub:List vB}{ab:Bool}{col:Option Bool}{dd:Option vG}{k0 k1 k2 k3 k5:Option vB}{newId:String}
variable{nm' q':Str}{C' N':vG}{bs' bm':List vB}{hdct':Bool}{sn':List Str}{sub':List vB}{ab':Bool}{col':Option Bool}{dd':Option vG}{j0 j1 j2 j3 j5:Option vB}{newId':String}
end
end PySem
namespace Hk
open PySem PySem.Spec L2 PyProof.Rows
section
variable{X:Cx}{pins:List (vG×Obj)}{σ:L2.St}{H:Hp}{s:vC}
end
section
variable{X:Cx}{st:vp}{rest:List vp}{e:vW}{es:List vW}{pos:Pos}{g g':FX}
end
section
variable{X:Cx}{pins:List (vG×Obj)}{σ:L2.St}{H:Hp}{s:vC}
end
section
variable{K:zB}{G0:Hp}{H0:Fr}{G:Hp}{ω:WSt}{σ:L2.St}{H:Hp}
end
section
variable{X:Cx}
end
end Hk
namespace PySem.W
open PySem PySem.Calls PyProof.Rows
open Builtin Builtin.ObjectAttr Builtin.Getset_descriptor
section
variable{prog:vU}{w:vZ}{A:vf}{E:vB->vC->Prop}{K:Frag}{x C:vG}{h:vm}{g:Array t4}{d:sr}{t:Nat}{os:OsState}{ob:Obj}
end
end PySem.W
namespace Hk
open PySem PySem.Spec L2 PyProof.Rows
section
variable{X:Cx}{a:vW}{f:FD}
end
section
variable{X:Cx}{E:XK}{st:vp}{rest:List vp}{g:FX}
end
section
variable{f fh:FS}{g g':FX}{cs:List Str}{i:Nat}{ω w:WSt}{c:Str}{ft:FT}{fa:FA}{ds:List D}{fd:FD}{fe:FE}{o:Out}{r:R}
end
section
variable{X:Cx}
end
section
variable{f fh:FS}{g:FX}{cs:List Str}{ω:WSt}{c:Str}
end
end Hk
namespace L2
open PySem PySem.Spec PyProof.Rows
section
variable{X:Cx}{pins:List (vG×Obj)}{σ:St}{H:Hp}{s:vC}{a:vG}{A:vf}{E:vB->vC->Prop}{kvs:List (Key×V)}{k:Key}{u r:vB}{z:V}
theorem qgq{Q:aH}(I:aq)(e:LN)(hz:Vn)(ry:RelV TZ u)(rz:RelV z r)(h1:∀v w' s',W9 kvs k=some v->Inv X pins σ H s'->RelV v w'->Q w' s')(h2:W9 kvs k=none->∀s',Inv X pins σ (upd H a R9) s'->Q r s'):
  vM ao A (call (.builtin "dict.setdefault") [dq,u,r]) Q E s:=by
 obtain⟨zl,hd,vs,rel,dd⟩:=qdk I.hok e;have rv:=rel.val k;refine sf PySem.F.slot_dict_setdefault dd.typeIs PySem.F.entry_dict_setdefault (PySem.F.args_dict_setdefault_3 _ _ _) (kt_meets_setdefault nj a Mf hd r)
  ⟨vs,dd,by rw[<- rel.length];exact zl,λv hv=>?_,λhn h' dd' hs=>?_⟩
 ·rw[hv]at rv
  cases q:W9 kvs k with
  | none=>rw[q]at rv;exact rv.elim
  | some v0=>rw[q]at rv;exact h1 v0 v _ q iL rv
 ·rw[hn]at rv
  cases q:W9 kvs k with
  | some v0=>rw[q]at rv;exact rv.elim
  | none=>
   refine h2 q _ ?_;have he:∃q,h'.get? a=some q:=let ⟨q,_,_,hq,_⟩:=dd';Nv
   have hl:(putK kvs k z).length<=sizeLine:=by rw[qfT z q,zC,zY];exact hz
   exact q5Z I (by rw[e];exact True.intro) hs he (q9v hl hd (rel.put k rz) dd')
end
noncomputable def tDSd(td ty tx:TE):TE:=λσ H Q=>td σ H λx H1=>∃a,x=.ref a/\IsD H1 a/\ty σ H1 λy H2=>tx σ H2 λz H3=>∃kvs k,H3 a=some ce/\y=kV k/\kvs.length<sizeLine /\
 (∀v,W9 kvs k=some v->Q v H3)/\(W9 kvs k=none->Q z (upd H3 a R9))
theorem qjX{X:Cx}{o e f:vW}{apos cpos:Pos}{td ty tx:TE}(ho:Lb)(he:PE X e ty)(hf:PE X f tx)(m:M2 X o "setdefault" apos e f cpos):PE X (.Call (.Attribute o "setdefault" apos) [e,f] [] cpos) (tDSd td ty tx):=by
 intro pins s σ H Q I h;refine wpAny_Call_method m.base m.few m.line PySem.F.plainAttrs_dict PySem.F.slot_dict_setdefault PySem.F.type_dict_setdefault (thn iZ λu s1 ⟨x,H1,I1,rx,a,ex,d,q1⟩=>?_);subst ex;obtain rfl:u=Value.ref a:=rx;obtain⟨t1,t2,_⟩:=qfr I1 d;refine⟨t1,t2,?_⟩;rw[m.trees];refine Calls.callWith_builtin rfl (Calls.evalArgs_plain (Calls.spliced_cons (thn Mq λiv s2 ⟨y,H2,I2,ry,q2⟩=>
  Calls.spliced_cons (thn Mp λfv s3 ⟨z,H3,I3,rz,kvs,k,ea,ey,hz,g1,g2⟩=>Calls.spliced_nil ?_))))
 subst ey;exact qgq I3 ea hz ry rz (λv w' s4 hv I4 rw'=>⟨v,H3,I4,rw',g1 v hv⟩) λhn s4 I4=>⟨z,_,I4,rz,g2 hn⟩
end L2
namespace Hk
open PySem L2
theorem q0O{α:Type}:∀{ks:af}{xs:bE}{k:Int},ks.length=xs.length->(Xg ks xs k).isSome=decide (k∈ks)
 | [],[],k,_=>by simp[Xg]
 | [],_::_,_,h=>by simp at h
 | _::_,[],_,h=>by simp at h
 | k'::ks,x::xs,k,h=>by
  show (if k'=k then some x else Xg ks xs k).isSome=_
  by_cases z:k'=k
  ·rw[gz,vT (by rw[z];exact zE)];rfl
  ·rw[gc,q0O ⇑h]
   have:(k∈k'::ks)↔k∈ks:=⟨λm=>(zF.mp m).resolve_left λe=>z e.symm,zH _⟩;rw[decide_eq_decide.mpr this]
theorem q8r{α:Type}{v:α}:∀{ks:af}{xs:bE}{k:Int},ks.length=xs.length->k∉ks->Xg FN (xs++[v]) k=some v
 | [],[],k,_,_=>vH rfl
 | [],_::_,_,h,_=>by simp at h
 | _::_,[],_,h,_=>by simp at h
 | k'::ks,x::xs,k,h,hk=>by
  show (if k'=k then some x else Xg FN (xs++[v]) k)=some v;rw[vJ (λz=>hk (by rw[z];exact zE))];exact q8r ⇑h λm=>hk (zH _ m)
noncomputable def WB(st:List Int×List af)(n:Int)(a:Int):List Int×List af :=
 if a∈st.1 then (st.1,Ww st.1 st.2 a n)else (st.1++[a],Ww (st.1++[a]) (st.2++[[]]) a n)
noncomputable def byS(as:ae):Nat->List Int×List af
 | 0=>([],[])
 | n+1=>match as[n]? with
  | some a=>WB Mx n a.1
  | none=>byS as n
noncomputable def spT(K:zB):Sp:=λvs H Q _=>∃(G:Hp) (as:ae),Xh G H/\XR K G [aR] vs/\as.length<=9000 /\
 ∀G' p ls H',Ext G H G' H'->Tab G' H H' p (byS as as.length).1 ls (byS as as.length).2->Q bw H'
theorem qhc(as:ae):∀n:Nat,(byS as n).1.length<=n/\∀xs∈(byS as n).2,xs.length<=n
 | 0=>⟨bM,λxs h=>by cases h⟩
 | n+1=>by
  obtain⟨h1,h2⟩:=qhc as n;unfold byS;cases q:as[n]? with
  | none=>exact⟨by show (byS as n).1.length<=_;omega,λxs hx=>by have:=h2 xs hx;omega⟩
  | some a=>
   show (WB Mx n a.1).1.length<=_/\∀xs∈(WB (byS as n) n a.1).2,_;unfold WB
   split
   ·exact⟨by show (byS as n).1.length<=_;omega,q4o n _ _ _ _ h2⟩
   ·refine⟨by show ((byS as n).1++[a.1]).length<=_;rw[zC,zY];omega,q4o n _ _ _ _ λxs hx=>?_⟩
    rcases zJ.mp hx with y|y
    ·exact h2 xs y
    ·cases zR.mp y;exact yF _
section
variable{K:zB}{G0:Hp}{H0:Fr}{G:Hp}{ω:WSt}{σ:St}{H:Hp}
end
theorem noOw4{d0 d2 d3:eQ}:WV [d0.map W.sh,none,d2.map W.sh,d3.map W.sh]:=by
 intro i w h
 match i,h with
 | 0,h=>cases d0 <;> cases h;exact bz
 | 1,h=>cases h
 | 2,h=>cases d2 <;> cases h;exact bz
 | 3,h=>cases d3 <;> cases h;exact bz
 | i+4,h=>simp at h
section
variable{X:Cx}
theorem qhS{ta:TE}{g0:FD}(k2:zB1 X.K ta g0){G0:Hp}{H0:Fr}{G:Hp}{ω:WSt}{σ:St}{H:Hp}{p:vG}{ks:af}{ls:df}{xss:cn}{a n:Int}{Q:VK}(o:Own X.K G0 H0 G ω σ H)(no:OZ)(s1:σ[1]?=some eN)(s2:σ[2]?=some (some GT))(T:c9)(h0:g0 ω=some bJ)(hk:JQ)(hz:∀xs∈xss,xs.length<1000000)(h:∀G' H' ls',Own X.K G0 H0 G' ω σ H'->Xh G G'->Tab G' H0 H' p (WB (ks,xss) n a).1 ls' (WB (ks,xss) n a).2->Q .non H'):
  tBM X.K "list" Wb (tDSd Ut ta JF) (zAD Fk zAr) σ H Q:=by
 have hlen:ks.length=(ls.map V.ref).length:=by rw[zA];exact T.len
 refine⟨bw,s1,p,rfl,.inl ⟨_,.inl T.dict⟩,k2 G0 H0 G ω σ H _ _ o h0 λu G1 H1 x1 y1=>?_⟩;cases (show u=.int a from y1);have o1:=o.keep x1;have T1:=T.keep x1;refine⟨by show 0<=sizeLine;exact yF _,λq hq=>?_⟩;have hpq:p≠q:=λz=>by rw[<- z,T1.dict]at hq;cases hq
 have x2:=Ext.hide o1.gh hq jo;have o2:=o1.keep x2;have T2:=T1.keep x2;have vv:W9 pT nu=Xg ks dy a:=q0d hlen a;refine⟨kvsOf ks dy,Sum.inl a,T2.dict,rfl,by rw[q2D hlen,vj];omega,λv hv=>?_,λhn=>?_⟩
 ·
  have ha:a∈ks:=by
   have:=q0O (ks:=ks) (xs:=ls.map V.ref) (k:=a) hlen;rw[vv]at hv;rw[hv]at this;exact of_decide_eq_true this.symm
  obtain⟨l,xs,n1,n2,n3,n4,n5,n6⟩:=T2.app n ha;rw[vv,n3]at hv;cases hv;refine⟨.inl ⟨rfl,_,SqL.of n5⟩,.int n,s2,l,_,.int n,rfl,rfl,n5,by rw[zA,vj];have:=hz xs n2;omega,?_⟩;rw[show xs.map V.int++[V.int n]=(xs++[n]).map V.int by rw[zW];rfl];refine h G1 _ ls CJ x1.gg ?_;unfold WB;rw[vH ha];exact n6
 ·have ha:a∉ks:=λha=>by
   have:=q0O (ks:=ks) (xs:=ls.map V.ref) (k:=a) hlen;rw[vv]at hn;rw[hn,vT ha]at this;cases this
  obtain⟨H4,_,e4,T4⟩:=T1.put (l:=q) ha hq o1.gh o1.ext.hh hk;have ep:putK pT (Sum.inl a) (.ref q)=kvsOf ON QR:=by
   rw[q5z hlen];unfold Wm putA;rw[vJ ha,vJ ha,zW];rfl
  rw[ep,<- e4];have gp:=T1.gp;have gq:G1 q=none:=o1.gh.free hq;have h0q:H0 q=none:=o1.ext.hh.free hq;have o4:Own X.K G0 H0 G1 ω σ H4:=by rw[e4];exact o2.free no T1.gp T1.hp
  obtain⟨l,xs,n1,n2,n3,n4,n5,n6⟩:=T4.app n (a:=a) (by simp);have hq4:H4 q=some jo:=by rw[e4,qd (Ne.symm hpq)];exact qe
  have lq:l=q:=by
   have:Xg ON QR a=some (.ref q):=by
    rw[zW];exact q8r hlen ha
   rw[this]at n3;cases n3;rfl
  subst lq;rw[hq4]at n5;have xe:xs=[]:=by
   cases xs with
   | nil=>rfl
   | cons y ys=>cases n5
  subst xe;refine⟨.inl ⟨rfl,_,SqL.of hq4⟩,.int n,s2,l,_,.int n,rfl,rfl,hq4,by show 0<sizeLine;rw[vj];omega,?_⟩;refine h G1 _ (ls++[l]) (o4.free no gq h0q) x1.gg ?_;unfold WB;rw[vJ ha];exact n6
theorem qj0{x1 x2 x3:Str}{o0 o1 e0 e1 e2:vW}{q1 q2 q3 q4 q5 q6 q9 q12 q15 a1 a2 c1 c2 ep ec tp:Pos}{kx}{g0:FD}(hp:jW)(hc:cI)(hN:X.N.Nodup)(i1:X.N[1]?=some x1)(i2:X.N[2]?=some x2)(i3:X.N[3]?=some x3)(l1:Loc X.env.scope x1)(l2:aaW)(l3:aaV)(f1:X.fn x1=true\/X.env.scope.names.lookup x1=some .local)(f2:Al)(f3:Ak)(hge:Li)(hme:CQ)(h0:PE X o0 (X1 0))(h1:PE X o1 Ut)(h2:PE X e1 Fk)(h3:PE X e2 Ut)(ha:XD X e0 g0)(hg0:∀(ω:WSt)e,ω[3]?=some FC->g0 ω=some Cy)(hl:X.N.length=4)(m2:M2 X o1 "setdefault" a1 e0 Im c1)(s1:uD Cn (some (.Name x1 q2)) q3.line X.env=pure false)(sE:vK [o0] X.env=[(false,eval o0 X.env)])(ab:uU bT "append" X.env (eval bT X.env)=eval bT X.env)(w1:((vt c2 abk).all (λx=>!x.1)&&(uX c2 m8).all jL&&decide (([e1]:List vW).length+([]:List uZ).length+(if ([]:List uZ).isEmpty then 0 else 1)<30))=true)(z1:Oy)(t1:Bw)(p1:(vt c2 cG).any (·.1)=false)(v1:uD BL none q9.line X.env=pure false)(pg:∀t,PGs X BF t->PG X V1 (gTup X.K 2 t))(y1:∀x,uC DE X.env x=pure x){vs:bt}{H:Hp}{Q:VK}{E:XK}(sp:spT X.K vs H Q E):
  ∃t,PSs X [.Assign [.Name x1 q2] Cn q3,.For V1 DE [.Expr BL q9] [] q12,.Return (some e2) q15] t /\
   t { nx:=λ_ H'=>Q .non H',rt:=Q } (L2.start X.N vs) H:=by
 obtain⟨ta,k1,k2⟩:=ha;refine⟨_,qG (q0g hN i1 l1 q6j s1 f1) (qG (q7j hp hc (qcL hge hme (qA h0 qy sE) sE) (pg _ (q6e (q4q hN i2 l2 f2) (q6e Vg qbB)))
  (q0P (q1G (q3O PySem.F.plainAttrs_list PySem.F.slot_list_append PySem.F.type_list_append q0W (qjX h1 k1 Jj m2) (qA h2 qy t1) ab w1 z1 t1 p1) v1)) y1) (q0P (q5G h3))),?_⟩
 obtain⟨G,as,sg,rp,hlen,fin⟩:=sp;obtain⟨v0,rfl,A0,vs0,rfl,r1,r2⟩:=rp.one;have hl0:as.length=vs0.length:=by have:=r2.len;rw[zA]at this;exact this
 have hst:L2.start X.N [V.ref A0]=Kr:=by
  unfold L2.start;rw[hl];rfl
 rw[hst];intro p hp0;have no0:WV Hi:=noOw4 (d0:=some aR) (d2:=none) (d3:=none);have o0:Own X.K G AY G Hi Kr H:=by
  refine eS
  match i,h with
  | 0,h=>cases h;exact⟨_,rfl,A0,vs0,rfl,r1,r2⟩
  | 1,h=>cases h
  | 2,h=>cases h
  | 3,h=>cases h
  | i+4,h=>simp at h
 have o1:Own X.K G AY G Hi [some (.ref A0),eN,none,none] kU:=(o0.free no0 (sg.free hp0) hp0).other (i:=1) no0 λw z=>by cases z
 have T0:Tab G H kU p (byS as 0).1 [] (byS as 0).2:=⟨qe,sg.free hp0,hp0,rfl,rfl,λj l xs h=>(by simp at h),λl h=>(by cases h),xi⟩;refine⟨.ref A0,rfl,A0,vs0,rfl,SqL.of acG,λi m σ' H'=>∃(G':Hp) (ls:df) (y2 y3:eQ),Own X.K G AY G' Jo σ' H'/\Xh G G'/\σ'[1]?=some eN/\Tab G' H H' p (byS as i).1 ls (byS as i).2/\i<=as.length/\m=as.length-i,
  ⟨_,G,[],none,none,o1,gr,rfl,T0,B5,rfl⟩,?_⟩
 rintro i m σ' H' ⟨G',ls,y2,y3,o2,g2,s12,T2,hi,rfl⟩;have hq:=o2.gh _ _ (g2 _ _ r1)
 by_cases hlt:i<as.length
 ·refine .inr ⟨⟨vs0,vs0[i]'∅,Nq,zD _⟩,λσ3 H3=>∃(G':Hp) (ls:df) (y2 y3:eQ),Own X.K G AY G' Jo σ3 H3/\Xh G G'/\σ3[1]?=some eN/\Tab G' H H3 p (byS as (i+1)).1 ls (byS as (i+1)).2,
   λσ3 H3 ⟨G3,ls3,z2,z3,b1,b2,b3,b4⟩=>⟨as.length-(i+1),∅,G3,ls3,z2,z3,b1,b2,b3,b4,hlt,rfl⟩,λx H3 hy=>?_⟩
  obtain⟨t,w1',ht,rfl,rfl,hy⟩:=hy;have hy:=hy _ Nq;have x3:=Ext.hide o2.gh ht ab3;have o3:=o2.keep x3;have T3:=T2.keep x3;refine⟨t,_,rfl,SqT.of qe,rfl,gU,_,rfl,?_⟩;refine⟨w1',_,rfl,rfl,?_⟩;obtain⟨u,e1,e2⟩:=r2.get (i:=i) (d:=XC as[i]) (by rw[zZ,GH];rfl);rw[hy]at e1;cases e1;have o4:=(o3.setSh (i:=2) (d:=.int i) (v:=.int i) rfl).setSh (i:=3) (d:=XC as[i]) (v:=w1') (e2.mono g2);have o4':Own X.K G AY G' [o7,none,(some (D.int i)).map W.sh,(some (XC as[i])).map W.sh] ((σ'.set 2 (some gU)).set 3 (some w1')) (upd H' t ab3):=o4;have hl4:σ'.length=4:=o2.len.symm;have bd:=qhc as i;refine qhS k2 o4' (noOw4 (d0:=some aR) (d2:=some _) (d3:=some _)) (by rw[zL (by decide),zL (by decide)];exact s12) (by rw[zL (by decide)];exact ye (by rw[hl4];decide)) T3 (hg0 _ as[i] rfl) ∅ (λxs hx=>by have:=bd.2 xs hx;omega) λG5 H5 ls5 o5 g5 T5=>?_;have eb:byS as (i+1)=WB (byS as i) i as[i].1:=by
   show (match as[i]? with|some a=>WB (byS as i) i a.1|none=>byS as i)=_;rw[GH]
  refine⟨G5,ls5,_,_,o5,g2.trans g5,by rw[zL (by decide),zL (by decide)];exact s12,?_⟩;rw[eb];exact T5
 ·have en:i=as.length:=∅
  subst en;refine .inl ⟨⟨vs0,Nq,Pd⟩,bw,s12,fin G' p ls H' ?_ T2⟩;exact⟨g2,o2.ext.gh,o2.ext.hh,o2.ext.new⟩
end
noncomputable def WZ:List Int->List af->Int->List af
 | k::ks,x::xs,a=>if k=a then x.dropLast::xs else x::WZ ks xs a
 | _,xs,_=>xs
noncomputable def WI(ks:af)(xss:cn)(h:Int):List Int:=(Xg ks xss h).getD []
theorem q7I:∀{ks:af}{ls:df}{a:Int},ks.length=ls.length->a∈ks->∃(j:Nat) (l:vG),ls[j]?=some l/\Xg ks dy a=some cF/\∀(xss:cn),xss.length=ls.length->∃xs,xss[j]?=some xs/\Xg ks xss a=some xs/\WZ ks xss a=xss.set j xs.dropLast
 | [],_,_,_,h=>by simp at h
 | _::_,[],_,h,_=>by simp at h
 | k::ks,l::ls,a,h,ha=>by
  by_cases z:k=a
  ·refine⟨0,l,rfl,gz,λxss hx=>?_⟩
   cases xss with
   | nil=>simp at hx
   | cons x xs=>exact⟨x,rfl,gz,gz⟩
  ·have ha':a∈ks:=(zF.mp ha).resolve_left λe=>z e.symm
   obtain⟨j,l',e2,e3,e4⟩:=q7I (ks:=ks) (ls:=ls) ⇑h ha';refine⟨j+1,l',e2,?_,λxss hx=>?_⟩
   ·show (if k=a then _ else _)=_
    rw[gc];exact e3
   ·cases xss with
    | nil=>simp at hx
    | cons x xs=>
     obtain⟨y,h1,h2,h3⟩:=e4 xs ⇑hx;refine⟨y,h1,?_,?_⟩
     ·show (if k=a then _ else _)=_
      rw[gc];exact h2
     ·show (if k=a then _ else x::WZ ks xs a)=_
      rw[gc,h3];rfl
theorem Tab.pop{G H0 H:Hp}{p:vG}{ks:af}{ls:df}{xss:cn}(T:c9){a:Int}(ha:a∈ks):
  ∃(l:vG) (xs:af),l∈ls/\Xg ks xss a=some xs/\zAe H p bJ Cr/\H l=some DV/\Tab G H0 (upd H l (.lst (xs.dropLast.map V.int))) p ks ls (WZ ks xss a):=by
 obtain⟨j,l,e2,e3,e4⟩:=q7I T.len ha;obtain⟨xs,e5,e7,e6⟩:=e4 xss T.len2.symm;have hl:l∈ls:=yK e2;have hlp:p≠l:=λz=>T.pl (z▸hl);have g:=zAe.k (k:=nu) T.dict;rw[q0d (by rw[zA];exact T.len),e3]at g;refine⟨l,xs,hl,e7,g,aaU,?_⟩;rw[e6];refine⟨by rw[qd hlp];exact T.dict,T.gp,T.hp,T.len,by rw[yZ];exact T.len2,λi m ys h1 h2=>?_,T.gl,T.nd⟩;rcases qg h2 with⟨rfl,_,rfl⟩|⟨ne,h3⟩
 ·rw[e2]at h1
  cases h1;exact qe
 ·have hm:m≠l:=λz=>by
   subst z;obtain⟨i1,i2⟩:=zj.mp h1;obtain⟨j1,j2⟩:=zj.mp e2;exact ne Io
  rw[Md];exact T.lst i m ys h1 h3
theorem Tab.beside{G H0 H:Hp}{p q:vG}{ob:HO}{ks:af}{ls:df}{xss:cn}(T:c9)(h1:q≠p)(h2:q∉ls):Tab G H0 (upd H q ob) p ks ls xss :=
 ⟨by rw[qd (Ne.symm h1)];exact T.dict,T.gp,T.hp,T.len,T.len2,λj l xs e1 e2=>by
  have hn:l≠q:=λz=>h2 (by rw[<- z];exact yK e1);rw[qd hn];exact T.lst j l xs e1 e2,T.gl,T.nd⟩
noncomputable def WR(as:ae)(ks:af):Nat->List af->List Int->List Int->Int->Option af
 | 0,_,_,_,_=>none
 | n+1,xss,T,B,h=>match (WI ks xss h).getLast? with
  | some k=>if 0<=k/\k<as.length/\T.length<1000000 then WR as ks n lE (T++[k]) B (as.getD k.toNat (0,0)).2 else none
  | none=>match T.getLast? with
   | some k=>if 0<=k/\k<as.length/\B.length<1000000 then WR as ks n xss T.dropLast R0 (as.getD k.toNat (0,0)).1 else none
   | none=>some B.reverse
structure RfS (K:zB) (G0:Hp) (H0:Fr) (G:Hp) (s:Int) (as:List (Int×Int)) (p t b:vG) (ks:List Int) (ls:List vG) (xss:List (List Int)) (T B:List Int) (h:Int) (y:Option D) (σ:St) (H:Hp):Prop where
 o:Own K G0 H0 G [some (W.sh (.int s)),↥(.lst (as.map XC)),none,none,none,↥(.int h),y.map W.sh] σ H
 s2:σ[2]?=some (some (.ref p))
 s3:σ[3]?=some (some (.ref t))
 s4:σ[4]?=some (some (.ref b))
 s5:σ[5]?=some (some (.int h))
 tab:Tab G H0 H p ks ls xss
 ht:H t=some (.lst (T.map V.int))
 gt:G t=none
 ht0:H0 t=none
 hb:H b=some (.lst (B.map V.int))
 gb:G b=none
 hb0:H0 b=none
 tb:t≠b
 tl:t∉ls
 bl:b∉ls
theorem noOw7{d0 d1 d5 d6:eQ}:WV [d0.map W.sh,d1.map W.sh,none,none,none,d5.map W.sh,d6.map W.sh]:=by
 intro i w h
 match i,h with
 | 0,h=>cases d0 <;> cases h;exact bz
 | 1,h=>cases d1 <;> cases h;exact bz
 | 2,h=>cases h
 | 3,h=>cases h
 | 4,h=>cases h
 | 5,h=>cases d5 <;> cases h;exact bz
 | 6,h=>cases d6 <;> cases h;exact bz
 | i+7,h=>simp at h
section
variable{K:zB}{G0:Hp}{H0:Fr}{G:Hp}{s:Int}{as:List (Int×Int)}{p t b:vG}{ks:List Int}{ls:List vG}{xss:List (List Int)}{T B:List Int}{h:Int}{y:Option D}{σ:St}{H:Hp}
theorem RfS.no(S:aF):WV [some (W.sh mS),↥aR,none,none,none,↥gW,y.map W.sh] :=
 noOw7 (d0:=some mS) (d1:=some aR) (d5:=some gW) (d6:=y)
theorem RfS.keep{G' H':Hp}(S:aF)(x:Cj):RfS K G0 H0 G' s as p t b ks ls xss T B h y σ H' :=
 ⟨S.o.keep x,S.s2,S.s3,S.s4,S.s5,S.tab.keep x,x.hh _ _ S.ht,x.new t S.gt (by rw[S.ht];exact λz=>by cases z),S.ht0,x.hh _ _ S.hb,x.new b S.gb (by rw[S.hb];exact λz=>by cases z),S.hb0,S.tb,S.tl,S.bl⟩
theorem RfS.tp(S:aF):t≠p/\b≠p:=by
 have h1:=S.ht;have h2:=S.hb;have h3:=S.tab.dict;refine⟨HP,HP⟩
 ·rw[z,h3]at h1;cases h1
 ·rw[z,h3]at h2;cases h2
theorem RfS.setT{T':af}(S:aF):RfS K G0 H0 G s as p t b ks ls xss T' B h y σ (upd H t (.lst (T'.map V.int))) :=
 ⟨S.o.free S.no S.gt S.ht0,S.s2,S.s3,S.s4,S.s5,S.tab.beside S.tp.1 S.tl,qe,S.gt,S.ht0,by rw[qd (Ne.symm S.tb)];exact S.hb,S.gb,S.hb0,S.tb,S.tl,S.bl⟩
theorem RfS.setB{B':af}(S:aF):RfS K G0 H0 G s as p t b ks ls xss T B' h y σ (upd H b (.lst (B'.map V.int))) :=
 ⟨S.o.free S.no S.gb S.hb0,S.s2,S.s3,S.s4,S.s5,S.tab.beside S.tp.2 S.bl,by rw[qd S.tb];exact S.ht,S.gt,S.ht0,qe,S.gb,S.hb0,S.tb,S.tl,S.bl⟩
theorem RfS.len(S:aF):σ.length=7:=S.o.len.symm
theorem RfS.setN(S:aF)(k:Int):RfS K G0 H0 G s as p t b ks ls xss T B h du NB H :=
 ⟨S.o.setSh (i:=6) (d:=.int k) (v:=.int k) rfl,by rw[zL (by decide)];exact S.s2,by rw[zL (by decide)];exact S.s3,by rw[zL (by decide)];exact S.s4,by rw[zL (by decide)];exact S.s5,S.tab,S.ht,S.gt,S.ht0,S.hb,S.gb,S.hb0,S.tb,S.tl,S.bl⟩
theorem RfS.setH(S:aF)(k:Int):RfS K G0 H0 G s as p t b ks ls xss T B k y (σ.set 5 du) H :=
 ⟨S.o.setSh (i:=5) (d:=.int k) (v:=.int k) rfl,by rw[zL (by decide)];exact S.s2,by rw[zL (by decide)];exact S.s3,by rw[zL (by decide)];exact S.s4,ye (by rw[S.len];decide),S.tab,S.ht,S.gt,S.ht0,S.hb,S.gb,S.hb0,S.tb,S.tl,S.bl⟩
theorem RfS.popW(S:aF){l:vG}{H':HO}(hl:l∈ls){xss':cn}(T':Tab G H0 (upd H l H') p ks ls xss'):RfS K G0 H0 G s as p t b ks ls xss' T B h y σ (upd H l H') :=
 have n1:t≠l:=λz=>S.tl (by rw[z];exact hl);have n2:b≠l:=λz=>S.bl (by rw[z];exact hl)
 ⟨S.o.free S.no (S.tab.gl l hl).1 (S.tab.gl l hl).2,S.s2,S.s3,S.s4,S.s5,T',by rw[qd n1];exact S.ht,S.gt,S.ht0,by rw[qd n2];exact S.hb,S.gb,S.hb0,S.tb,S.tl,S.bl⟩
theorem qfz(S:aF){Q:ji}(q:∀H',RfS K G0 H0 G s as p t b ks ls xss T B h y σ H'->Q (!(WI ks xss h).isEmpty) H'):
  (zBu Fk (X1 5) JF) σ H λx H'=>∃k,TruV K x H' k/\Q k H':=by
 refine⟨.ref p,S.s2,p,rfl,.inl ⟨_,.inl S.tab.dict⟩,.int h,S.s5,by show 0<=sizeLine;exact yF _,λr hr=>?_⟩;have S1:=S.keep (Ext.hide S.o.gh hr jo);have hlen:ks.length=(ls.map V.ref).length:=by rw[zA];exact S.tab.len
 have g:=zAe.k (k:=abO) S1.tab.dict;rw[q0d hlen]at g;refine⟨_,g,?_⟩
 by_cases hk:h∈ks
 ·obtain⟨l,xs,e1,e2,e3,e4,_⟩:=S1.tab.pop hk
  have ev:Xg ks dy h=some cF:=by
   obtain⟨j,l',f2,f3,f4⟩:=q7I S.tab.len hk;obtain⟨xs',f5,f7,f6⟩:=f4 xss S.tab.len2.symm;have g2:=zAe.k (k:=abO) S1.tab.dict;rw[q0d hlen,f3]at g2;rcases e3 with⟨kvs,k,d1,d2,d3⟩|⟨kvs,k,b,d1,d2,_⟩
   ·rcases d1 with d1|⟨ob,d1⟩
    ·rw[S1.tab.dict]at d1
     cases d1;cases k with
     | inl i=>cases d2;rw[q0d hlen]at d3;exact d3.symm
     | inr x=>cases d2
    ·rw[S1.tab.dict]at d1;cases d1
   ·cases d2
  rw[ev];refine⟨!xs.isEmpty,?_,?_⟩
  ·refine .inl ⟨_,SqL.of e4,?_⟩
   rw[List.isEmpty_map]
  ·have:WI ks xss h=xs:=by unfold WI;rw[e2];rfl
   rw[<- this];exact q _ S1
 ·have ev:Xg ks dy h=none:=by
   have:=q0O (ks:=ks) (xs:=ls.map V.ref) (k:=h) hlen;rw[vX hk]at this;cases z:Xg ks dy h with
   | none=>rfl
   | some v=>rw[z]at this;cases this
  have ev2:WI ks xss h=[]:=by
   have:=q0O (ks:=ks) (xs:=xss) (k:=h) (by rw[S.tab.len];exact S.tab.len2);rw[vX hk]at this;unfold WI;cases z:Xg ks xss h with
   | none=>rfl
   | some v=>rw[z]at this;cases this
  rw[ev];refine⟨false,?_,by have:=q _ S1;rw[ev2]at this;exact this⟩;exact .inl ⟨_,SqL.of qe,rfl⟩
end
noncomputable def trT(K:zB)(t:TE):TT:=λσ H Q=>t σ H λx H'=>∃k,TruV K x H' k/\Q k H'
noncomputable def zCs:TE:=zBu Fk (X1 5) JF
noncomputable def zB3(K:zB)(td:TE):TS:=zBW (zA6 (tBM0 K "list" rPop (zCn Fk (X1 5))) (WU 6)) (zBW Bh De)
noncomputable def zBf(K:zB)(td:TE):TS:=zBW (zA6 (tBM0 K "list" rPop (X1 3)) (WU 6)) (zBW Bg De)
section
variable{K:zB}{G0:Hp}{H0:Fr}{G:Hp}{s:Int}{as:List (Int×Int)}{p t b:vG}{ks:List Int}{ls:List vG}{xss:List (List Int)}{T B:List Int}{h:Int}{y:Option D}{σ:St}{H:Hp}
theorem q8o{xs:af}{k:Int}(e:xs.getLast?=some k):(xs.map V.int)[(xs.map V.int).length-1]?=some kP/\(xs.map V.int).dropLast=xs.dropLast.map V.int:=by
 rw[List.getLast?_eq_getElem?]at e;refine⟨by rw[zA,zZ,e];rfl,by rw[List.map_dropLast]⟩
theorem RfS.s6(S:aF)(k:Int):(σ.set 6 du)[6]?=some du:=ye (by rw[S.len];decide)
theorem qik{td:TE}{f:FD}(hd:zB1 K td f)(hf:∀(ω:WSt)(k:Int),ω[1]?=some ↥aR->ω[6]?=some ↥kP->0<=k->k<as.length->f ω=some jJ)(S:aF){k:Int}(e:(WI ks xss h).getLast?=some k)(k0:VR)(k1:FQ)(hT:T.length<1000000){D0:Ends}(q:∀G' σ' H',RfS K G0 H0 G' s as p t b ks ls lE (T++[k]) B (as.getD k.toNat (0,0)).2 du σ' H'->D0.nx σ' H'):zB3 K td D0 σ H:=by
 have hk:h∈ks:=by
  have:=q0O (ks:=ks) (xs:=xss) (k:=h) (by rw[S.tab.len];exact S.tab.len2);unfold WI at e;cases z:Xg ks xss h with
  | none=>rw[z]at e;cases e
  | some v=>rw[z]at this;exact of_decide_eq_true this.symm
 obtain⟨l,xs,e1,e2,e3,e4,e5⟩:=S.tab.pop hk;have ex:xs.getLast?=some k:=by unfold WI at e;rw[e2]at e;exact e
 obtain⟨m1,m2⟩:=q8o ex;refine⟨bw,S.s2,gW,S.s5,p,cF,rfl,e3,.inl ⟨rfl,_,SqL.of e4⟩,l,_,kP,rfl,rfl,e4,m1,?_⟩;rw[m2];have S1:=(S.popW e1 e5).setN k;show zBW Bh De D0 NB _;refine⟨.ref t,S1.s3,.inl ⟨rfl,_,SqL.of S1.ht⟩,.int k,S.s6 k,t,_,.int k,rfl,rfl,S1.ht,by rw[zA,vj];omega,?_⟩;rw[show T.map V.int++[V.int k]=(T++[k]).map V.int by rw[zW];rfl];have S2:=S1.setT (T':=T++[k]);show td _ _ _;refine hd G0 H0 G _ _ _ _ _ S2.o Pv λu G1 H1 x1 y1=>?_;cases (show u=.int _ from y1);exact q G1 _ H1 QU
theorem qi7{td:TE}{f:FD}(hd:zB1 K td f)(hf:∀(ω:WSt)(k:Int),ω[1]?=some ↥aR->ω[6]?=some ↥kP->0<=k->k<as.length->f ω=some jK)(S:aF){k:Int}(e:T.getLast?=some k)(k0:VR)(k1:FQ)(hB:B.length<1000000){D0:Ends}(q:∀G' σ' H',RfS K G0 H0 G' s as p t b ks ls xss T.dropLast R0 (as.getD k.toNat (0,0)).1 du σ' H'->D0.nx σ' H'):zBf K td D0 σ H:=by
 obtain⟨m1,m2⟩:=q8o e;refine⟨jz,S.s3,.inl ⟨rfl,_,SqL.of S.ht⟩,t,_,kP,rfl,rfl,S.ht,m1,?_⟩;rw[m2];have S1:=(S.setT (T':=T.dropLast)).setN k;show zBW Bg De D0 NB _;refine⟨.ref b,S1.s4,.inl ⟨rfl,_,SqL.of S1.hb⟩,.int k,S.s6 k,b,_,.int k,rfl,rfl,S1.hb,by rw[zA,vj];omega,?_⟩;rw[show B.map V.int++[V.int k]=(B++[k]).map V.int by rw[zW];rfl];have S2:=S1.setB (B':=B++[k]);show td _ _ _;refine hd G0 H0 G _ _ _ _ _ S2.o Pv λu G1 H1 x1 y1=>?_;cases (show u=.int _ from y1);exact q G1 _ H1 QU
end
noncomputable def tRF(K:zB)(E:XK)(td1 td0:TE):TS :=
 zBW (zA6 (tCall (spT K) [] E (zAD Ut zAr)) (WU 2)) (zBW (zA6 JF (WU 3)) (zBW (zA6 JF (WU 4)) (zBW (zA6 (X1 0) (WU 5))
  (zBW (zB5 (tOr (trT K (X1 3)) Rj) (tIfS Rj (zB3 K td1) (zBf K td0))) (tRet (tCB rLR (zAD (X1 4) zAr)))))))
noncomputable def zAP(s:Int)(as:ae):Option af:=if as.length<=9000 then WR as (byS as as.length).1 100000 (byS as as.length).2 [] [] s else none
noncomputable def mRF:List D->Option O
 | [.int s,.lst ds]=>(pairsOf ds).bind λas=>(zAP s as).map λrow=>.fr KU
 | _=>none
theorem qkW{K:zB}{E E':XK}{td1 td0:TE}{f1 f0:FD}(h1:zB1 K td1 f1)(h0:zB1 K td0 f0)(hf1:∀(as:ae)(ω:WSt)(k:Int),ω[1]?=some ↥aR->ω[6]?=some ↥kP->0<=k->k<as.length->f1 ω=some jJ)(hf0:∀(as:ae)(ω:WSt)(k:Int),ω[1]?=some ↥aR->ω[6]?=some ↥kP->0<=k->k<as.length->f0 ω=some jK){N:dJ}(hN:N.length=7){vs:bt}{H:Hp}{Q:VK}(sp:spD K 2 mRF vs H Q E'):tRF K E td1 td0 { nx:=λ_ H'=>Q .non H',rt:=Q } Lf H:=by
 obtain⟨G,ds,r,e,hl,sg,rp,fin⟩:=sp
 match ds,e with
 | [.int s,.lst ds],e=>
  obtain⟨as,ea,e⟩:=bnd e;obtain⟨row,er,e⟩:=mpd e;subst e;have hds:=q4z ea;subst hds;clear ea;unfold zAP at er
  by_cases hlen:as.length<=9000
  case neg=>rw[vJ hlen]at er;cases er
  rw[vH hlen]at er;obtain⟨v0,v1,rfl,r0,r1⟩:=rp.two;cases (show v0=.int s from r0);have hst:L2.start N [V.int s,v1]=DN:=by
   unfold L2.start;rw[hN];rfl
  rw[hst];have no0:WV BV:=noOw7 (d0:=some mS) (d1:=some aR) (d5:=none) (d6:=none);have o0:Own K G AY G BV DN H:=by
   refine eS
   match i,h with
   | 0,h=>cases h;exact⟨_,rfl,rfl⟩
   | 1,h=>cases h;exact Nx
   | 2,h=>cases h
   | 3,h=>cases h
   | 4,h=>cases h
   | 5,h=>cases h
   | 6,h=>cases h
   | i+7,h=>simp at h
  refine⟨v1,rfl,G,as,sg,XR.cons r1 XR.nil,hlen,λG1 p ls H1 x1 T1=>?_⟩;have o1:=(o0.keep x1).other (i:=2) (v:=some bw) no0 λw z=>by cases z
  refine⟨by show 0<=sizeLine;exact yF _,λt ht=>?_⟩;have x2:=Ext.hide o1.gh ht jo;have o2:=(o1.keep x2).other (i:=3) (v:=some jz) no0 λw z=>by cases z
  have T2:=T1.keep x2;refine⟨by show 0<=sizeLine;exact yF _,λb hb=>?_⟩;have x3:=Ext.hide o2.gh hb jo;have o3:=(o2.keep x3).other (i:=4) (v:=some Cv) no0 λw z=>by cases z
  have T3:=T2.keep x3;have tb:t≠b:=λz=>by rw[<- z,qe]at hb;cases hb
  have tl:t∉ls:=λz=>by
   obtain⟨xs,w⟩:=T1.inn z;rw[ht]at w;cases w
  have bl:b∉ls:=λz=>by
   obtain⟨xs,w⟩:=T2.inn z;rw[hb]at w;cases w
  have o4:=o3.setSh (i:=5) (d:=.int s) (v:=.int s) rfl;have S0:RfS K G AY G1 s as p t b (byS as as.length).1 ls (byS as as.length).2 [] [] s none [some mS,some v1,eN,some jz,some Cv,some mS,none] (upd (upd H1 t jo) b jo) :=
   ⟨o4,rfl,rfl,rfl,rfl,T3,by rw[qd tb];exact qe,o1.gh.free ht,o1.ext.hh.free ht,qe,o2.gh.free hb,o2.ext.hh.free hb,tb,tl,bl⟩
  refine⟨mS,rfl,?_⟩;generalize (byS as as.length).1=ks at S0 er;generalize (byS as as.length).2=xss at S0 er;refine⟨λm σ' H'=>∃G' xss T B h y,RfS K G AY G' s as p t b ks ls xss T B h y σ' H'/\WR as ks m xss T B h=some row,⟨100000,G1,xss,[],[],s,none,S0,er⟩,?_⟩;rintro m σ' H' ⟨G',xss,T,B,h,y,S,run⟩;cases m with
  | zero=>cases run
  | succ n=>
   have body:∀Hx,RfS K G AY G' s as p t b ks ls xss T B h y σ' Hx->(T≠[]\/WI ks xss h≠[])->∀D0:Ends,∃NN:St->Hp->Prop,(∀σ2 H2,NN σ2 H2->∃m',m'<n+1/\∃G' xss T B h y,RfS K G AY G' s as p t b ks ls xss T B h y σ2 H2/\WR as ks m' xss T B h=some row)/\tIfS Rj (zB3 K td1) (zBf K td0) { D0 with nx:=NN,ct:=NN,bk:=D0.nx } σ' Hx:=by
    intro Hx Sx hne D0;refine⟨λσ2 H2=>∃G' xss T B h y,RfS K G AY G' s as p t b ks ls xss T B h y σ2 H2/\WR as ks n xss T B h=some row,λσ2 H2 z=>⟨n,yd n,z⟩,?_⟩;refine qfz Sx λHy Sy=>?_;unfold WR at run;cases eg:(WI ks xss h).getLast? with
    | some k=>
     rw[eg]at run;have run:(if 0<=k/\k<as.length/\T.length<1000000 then WR as ks n lE (T++[k]) B (as.getD k.toNat (0,0)).2 else none)=some row:=run;have hne:(WI ks xss h).isEmpty=false:=by
      cases z:WI ks xss h with
      | nil=>rw[z]at eg;cases eg
      | cons a r=>rfl
     rw[hne];show (if (!false)=true then _ else _);rw[vH (show (!false)=true from rfl)]
     by_cases c:0<=k/\k<as.length/\T.length<1000000
     ·rw[vH c]at run
      exact qik h1 (hf1 as) Sy eg c.1 c.2.1 c.2.2 λG2 σ2 H2 S2=>OA
     ·rw[vJ c]at run;cases run
    | none=>
     rw[eg]at run;have hem:WI ks xss h=[]:=wG.mp eg;rw[hem];show (if (!true)=true then _ else _);rw[vJ (by decide)];cases et:T.getLast? with
     | none=>exact vP (wG.mp et) (hne.resolve_right λz=>z hem)
     | some k=>
      have run:(match T.getLast? with
       | some k=>if 0<=k/\k<as.length/\B.length<1000000 then WR as ks n xss T.dropLast R0 (as.getD k.toNat (0,0)).1 else none
       | none=>some B.reverse)=some row:=run
      rw[et]at run;have run:(if 0<=k/\k<as.length/\B.length<1000000 then WR as ks n xss T.dropLast R0 (as.getD k.toNat (0,0)).1 else none)=some row:=run
      by_cases c:0<=k/\k<as.length/\B.length<1000000
      ·rw[vH c]at run
       exact qi7 h0 (hf0 as) Sy et c.1 c.2.1 c.2.2 λG2 σ2 H2 S2=>OA
      ·rw[vJ c]at run;cases run
   refine⟨jz,S.s3,!(T.map V.int).isEmpty,.inl ⟨_,SqL.of S.ht,rfl⟩,?_⟩;cases T with
   | cons a r=>
    show (if (!false)=true then _ else _);rw[vH (show (!false)=true from rfl)];show (if true=true then _ else _);rw[kT];exact body H' S (.inl (by simp)) _
   | nil=>
    show (if (!true)=true then _ else _);rw[vJ (by decide)];refine qfz S λHx Sx=>?_;cases eg:WI ks xss h with
    | cons a r=>
     show (if (!false)=true then _ else _);rw[vH (show (!false)=true from rfl)];exact body Hx Sx (.inr (by rw[eg];simp)) _
    | nil=>
     show (if (!true)=true then _ else _);rw[vJ (by decide)];have rw0:row=B.reverse:=by
      unfold WR at run;rw[eg]at run;have run:some B.reverse=some row:=run;exact(zy run).symm
     subst rw0;refine⟨Cv,Sx.s4,b,_,rfl,Sx.hb,λSa hS=>?_⟩;have x9:=Ext.hide Sx.o.gh hS (.lst (B.map V.int).reverse);have o9:=Sx.o.keep x9;refine fin (.ref Sa) G' _ o9.ext ⟨Sa,_,rfl,Sx.o.ext.hh.free hS,Sx.o.gh.free hS,qe,?_⟩;rw[<- Yb];exact XR.ints _
theorem qjO{ω:WSt}{e:bh}(h:ω[3]?=some ↥(XC e)):dOf ES ω=some Cy:=by
 unfold dOf XH vOf Y6 fC;rw[h];rfl
theorem q9a{as:ae}{k:Int}(k0:VR)(k1:FQ):atI EN k=some (XC (as.getD k.toNat (0,0))):=by
 rw[q1n k0 (by rw[zA];exact k1)];have hk:k.toNat<as.length:=∅
 rw[wE,zV,zD hk];rfl
theorem qjw{as:ae}{ω:WSt}{k:Int}(h1:ω[1]?=some ↥aR)(h6:ω[6]?=some ↥kP)(k0:VR)(k1:FQ):
  dOf acV ω=some jJ:=by
 have e:=q9a (as:=as) k0 k1;show dR (op2 oIx (vR (op2 oIx (vR (zCr ω[1]?)) (vR (zCr ω[6]?)))) (some pF))=_;rw[h1,h6];show dR (op2 oIx L5 (some pF))=_;rw[e];rfl
theorem qk6{as:ae}{ω:WSt}{k:Int}(h1:ω[1]?=some ↥aR)(h6:ω[6]?=some ↥kP)(k0:VR)(k1:FQ):
  dOf acU ω=some jK:=by
 have e:=q9a (as:=as) k0 k1;show dR (op2 oIx (vR (op2 oIx (vR (zCr ω[1]?)) (vR (zCr ω[6]?)))) (some Ou))=_;rw[h1,h6];show dR (op2 oIx L5 (some Ou))=_;rw[e];rfl
theorem qjM{X:Cx}{e1 e0:vW}{E E':XK}{f1 f0:FD}(h1:XD X e1 f1)(h0:XD X e0 f0)(hf1:∀(as:ae)(ω:WSt)(k:Int),ω[1]?=some ↥aR->ω[6]?=some ↥kP->0<=k->k<as.length->f1 ω=some jJ)(hf0:∀(as:ae)(ω:WSt)(k:Int),ω[1]?=some ↥aR->ω[6]?=some ↥kP->0<=k->k<as.length->f0 ω=some jK){N:dJ}(hN:N.length=7){vs:bt}{H:Hp}{Q:VK}(sp:spD X.K 2 mRF vs H Q E'){sts:Cg}(hb:∀{td1 td0:TE},PE X e1 td1->PE X e0 td0->PSs X sts (tRF X.K E td1 td0)):
  ∃t,PSs X sts t/\t { nx:=λ_ H'=>Q .non H',rt:=Q } Lf H:=by
 obtain⟨td1,p1,q1⟩:=h1;obtain⟨td0,p0,q0⟩:=h0;exact⟨_,hb p1 p0,qkW q1 q0 hf1 hf0 hN sp⟩
abbrev Cal(P:vU)(w:vZ)(K:zB)(mg:bG)(base:vm)(k:Nat)(f:vG)(d:vQ)(x:Str)(ps:dJ)(n:Nat)(m:cc):Prop :=
 FnOk P w K mg base CX0 k f d ps (spD K n m)/\mg x=some iG/\xx K iG=true/\Binds K d ps []
section
variable{X:Cx}{x:Str}{pos:Pos}
theorem xc{e:vW}{es:iF}{k k0:Nat}{f:vG}{fd:vQ}{ps:dJ}{m:cc}{p:Pos}{g:FA}(c:Cal X.prog X.w X.K X.mg X.base k f fd x ps (e::es).length m)(hr:Ux)(ha:XA X jF g)(hk:k<=k0:=by decide)(hg:AC:=by exact rfl)(hdb:aI:=by decide)(he:aP:=by rfl)(hpl:(vt pos ij).any (·.1)=false:=by rfl):
  XE X cL (XJ m g):=zCt c.1 (hr.mono hk) hg c.2.1 c.2.2.1 c.2.2.2 pass0 ha hdb he hpl
theorem vE(i:Nat)(hN:X.N[i]?=some x:=by rfl)(hv:oT:=by first|exact Or.inl rfl|exact Or.inr aB|exact Or.inr Jb)(hd:aI:=by decide)(hcd:fT:=by decide):XE X iq (Y6 i):=zBn i FJ
theorem vV(i:Nat)(hN:X.N[i]?=some x:=by rfl)(hv:oT:=by first|exact Or.inl rfl|exact Or.inr aB|exact Or.inr Jb)(hd:aI:=by decide)(hcd:fT:=by decide):XV X iq (vOf (Y6 i)):=XE.toV (zBn i FJ)
theorem vD(i:Nat)(hN:X.N[i]?=some x:=by rfl)(hv:oT:=by first|exact Or.inl rfl|exact Or.inr aB|exact Or.inr Jb)(hd:aI:=by decide)(hcd:fT:=by decide):XD X iq (dOf (Y6 i)):=XE.toD (zBn i FJ)
end
def Fd(K:zB)(x:Str)(st:vp)(f:vG):Prop:=yY K vY x=some (some iG)/\∃fd,Fun K x x st f fd
section
variable{P:vU}{w:vZ}{K:zB}{mg:Str->Option vB}{base h:vm}{x:Str}{st:vp}{f:vG}{fd:vQ}
theorem qkR{oc:vB}{od an:HC}{osl:UK}{kV doc pm cdv ct:vB}(a:yY K vY x=some (some iG))(l:K.lookup f=some ⟨oc,od,.func pr,osl⟩)(c:ww K cdv x=true)(k:xx K iG=true):Fd K x st f:=⟨a,_,qjH l c k⟩
theorem qi(P:vU)(w:vZ)(base:vm)(X:K.In h)(G:h.Ns vY mg){x:Str}{st:vp}{f:vG}{fd:vQ}{k n:Nat}{ps:dJ}{m:cc}(D:Fd K x st f)(F:Fun K x x st f fd)(o:FnOk P w K mg base CX0 k f fd ps (spD K n m))(b:∀(kV doc pm:vB)(an:HC)(cdv ct:vB)(us:bx),us.length=ps.length->bindArgs pr BZ=pure EG):Cal P w K mg base k f fd x ps n m :=
 ⟨o,ZP X G D.1,F.kp,F.binds b⟩
end
end Hk
namespace Hk
open PySem PyProof.Rows
noncomputable def kcl(c:Int)(l:dh):List vS:=l.filter λp=>sH p.1==c
def zA5(l m:dh):Prop:=∀c,kcl c l=kcl c m
theorem q0N(c:Int)(a b:dh):kcl c Kq=kcl c a++kcl c b:=wN ..
theorem q5Q(c:Int)(a:dh):kcl c a.reverse=(kcl c a).reverse:=List.filter_reverse ..
theorem q79{c:Int}{l:dh}(h:∀p∈l,sH p.1≠c):kcl c l=[]:=wT.mpr λp hp=>by simpa using h p hp
theorem q4s{xs:be}{i:Nat}{p:vS}(h:xs.toList[i]?=some p):K xs i=sH p.1:=by
 unfold K;rw[<- zc,h]
theorem qcj{α:Type}{l:bE}{i j:Nat}{p:α}(h:p∈(l.take j).drop i):∃n,i<=n/\n<j/\l[n]?=some p:=by
 obtain⟨m,hm⟩:=xJ.mp h;rw[xk,xl]at hm
 split at hm
 ·exact⟨i+m,∅,by assumption,hm⟩
 ·cases hm
theorem cut3{α:Type}(l:bE){i j:Nat}(h:i<=j):l.take i++((l.take j).drop i++l.drop j)=l:=by
 have:l.take i=(l.take j).take i:=by rw[wU,wo h]
 rw[this,<- zO,yG,yG]
theorem q3S{xs:be}{i j:Nat}(hij:i<=j)(hj:j<=xs.size):(mirror xs i j ((j-i)/2)).toList=xs.toList.take i++(((xs.toList.take j).drop i).reverse++xs.toList.drop j):=by
 apply yx;intro k;rw[zc,getElem?_mirror_all hj];have hl:xs.toList.length=xs.size:=zK;rcases zw k i with h1|h1
 ·rw[ik,zg (by rw[ze];omega),xl,OI,zc]
 ·rw[zb (by rw[ze];omega),ze,show min i xs.toList.length=i by omega]
  have ld:((xs.toList.take j).drop i).length=j-i:=by rw[yM,ze];omega
  rcases zw k j with h2|h2
  ·rw[vH ⟨h1,h2⟩,zg (by rw[xY,ld];omega),List.getElem?_reverse (by rw[ld];omega),ld,xk,xl,kb,zc]
   congr 1;omega
  ·rw[ik,zb (by rw[xY,ld];omega),xY,ld,xk,zc]
   congr 1;omega
theorem qbj{xs:be}{j l:Nat}(hs:j<xs.size)(hl:l<=j):(bubble xs j (j-l)).toList=xs.toList.take l++(xs[j]::AS):=by
 apply yx;intro k;rw[zc,getElem?_bubble hs _ ∅,show j-(j-l)=l by omega];have hn:xs.toList.length=xs.size:=zK;rcases zw k l with h1|h1
 ·rw[ik,ik,zg (by rw[ze];omega),xl,OI,zc]
 ·rw[zb (by rw[ze];omega),ze,show min l xs.toList.length=l by omega]
  rcases YE h1 with h2|h2
  ·subst h2
   rw[kT,wR,xy,Ue]
  ·rw[ik]
   obtain⟨m,hm⟩:∃m,k-l=m+1:=⟨k-l-1,∅⟩;rw[hm,xT];have ld:((xs.toList.take j).drop l).length=j-l:=by rw[yM,ze];omega
   rcases zw m (j-l)with h3|h3
   ·rw[kb,zg (by rw[ld];exact h3),xk,xl,kb,zc]
    congr 1;omega
   ·rw[ik,zb (by rw[ld];exact h3),ld,xk,zc]
    congr 1;omega
theorem qb0{xs:be}{j l:Nat}(hs:j<xs.size)(hl:l<=j)(h:∀i,l<=i->i<j->K xs j<K xs i):zA5 (bubble xs j (j-l)).toList xs.toList:=by
 intro c;have hx:xs.toList[j]?=some xs[j]:=by rw[zc,Ue]
 have e:xs.toList=xs.toList.take l++((xs.toList.take j).drop l++(xs[j]::xs.toList.drop (j+1))):=by
  have d:xs.toList.drop j=xs[j]::xs.toList.drop (j+1):=by
   rw[xF (by rw[zK];exact hs),Array.getElem_toList]
  rw[<- d,cut3 _ hl]
 rw[qbj hs hl,q0N];have e2:kcl c xs.toList=kcl c (xs.toList.take l)++(kcl c LR++kcl c (xs[j]::xs.toList.drop (j+1))):=by
  conv=>lhs;rw[e]
  rw[q0N,q0N]
 rw[e2]
 congr 1
 show kcl c ([xs[j]]++AS)=_++kcl c ([xs[j]]++xs.toList.drop (j+1));rw[q0N,q0N,q0N]
 by_cases z:sH xs[j].1=c
 ·have no:kcl c LR=[]:=q79 λp hp=>by
   obtain⟨n,n1,n2,n3⟩:=qcj hp;have k1:=q4s n3;have k2:=q4s hx;have:=h n n1 n2;omega
  rw[no,yX,yX]
 ·have no:kcl c [xs[j]]=[]:=q79 λp hp=>by cases zR.mp hp;exact z
  rw[no,yX,yX]
structure DInv (a₀:Array vS) (xs:Array vS) (x neq:Nat):Prop where
 le:neq+1<=x
 ni:rJ xs x
 eq:∀i,x-(neq+1)<=i->i<x->K xs i=K xs (x-1)
 lt:0<x-(neq+1)->K xs (x-(neq+1))<K xs (x-(neq+1)-1)
 cl:∀c,kcl c (xs.toList.take (x-(neq+1)))=(kcl c (a₀.toList.take (x-(neq+1)))).reverse
 dr:xs.toList.drop (x-(neq+1))=a₀.toList.drop (x-(neq+1))
theorem DInv.flip{a₀ xs:be}{x neq:Nat}(D:DInv a₀ xs x neq)(hx:x<=xs.size)(hz:xs.size=a₀.size):
  (∀c,kcl c ((mirror xs Qa x ((x-Qa)/2)).toList.take x)=(kcl c RE).reverse)/\(mirror xs Qa x ((x-Qa)/2)).toList.drop x=a₀.toList.drop x:=by
 have hb:x-pC<=x:=Nat.sub_le _ _;have hle:=D.le;have hbx:x-pC<x:=∅
 have lt:=D.lt;have eq:=D.eq;have ni:=D.ni;have cl:=D.cl;have dr:=D.dr;generalize x-pC=b at hb hbx lt eq cl dr;have hn:xs.toList.length=xs.size:=zK;have hn0:a₀.toList.length=a₀.size:=zK;have run:(xs.toList.take x).drop b=(a₀.toList.take x).drop b:=by
  rw[ZA,ZA,dr]
 have lrun:((xs.toList.take x).drop b).length=x-b:=by rw[yM,ze];omega
 rw[q3S hb hx];have l1:(xs.toList.take b++((xs.toList.take x).drop b).reverse).length=x:=by
  rw[zC,xY,lrun,ze];omega
 rw[<- zO];refine⟨λc=>?_,?_⟩
 ·rw[Yk l1,q0N,q5Q,run]
  have e0:a₀.toList.take x=a₀.toList.take b++(a₀.toList.take x).drop b:=by
   have:a₀.toList.take b=(a₀.toList.take x).take b:=by rw[wU,wo hb]
   rw[this,yG]
  have e9:kcl c RE=kcl c (a₀.toList.take b)++kcl c KH:=(v4 (kcl c) e0).trans (q0N c _ _);rw[e9,xZ,<- cl c]
  by_cases z:c=K xs (x-1)
  ·have no:kcl c (xs.toList.take b)=[]:=q79 λp hp=>by
    obtain⟨m,hm⟩:=xJ.mp hp;rw[xl]at hm
    split at hm
    ·rename_i hmb
     have k1:=q4s hm;have k2:=lt ∅;have k3:=ni m (b-1) ∅ ∅;have k4:K xs b=K xs (x-1):=eq b bM hbx;omega
    ·cases hm
   rw[no,yX,zk]
  ·have no:kcl c KH=[]:=q79 λp hp=>by
    rw[<- run]at hp;obtain⟨n,n1,n2,n3⟩:=qcj hp;have k1:=q4s n3;have k2:=eq n n1 n2;intro y;exact z ∅
   rw[no,List.reverse_nil,zk,yX]
 ·rw[Yl l1]
  have e1:xs.toList.drop x=(xs.toList.drop b).drop (x-b):=by rw[ZB];congr 1;omega
  have e2:a₀.toList.drop x=(a₀.toList.drop b).drop (x-b):=by rw[ZB];congr 1;omega
  rw[e1,e2,dr]
section
variable{prog:vU}{w:vZ}{A:vf}{E:vB->vC->Prop}{s:vC}{a₀:Array vS}
theorem q5U{xs ys:be}{x:Nat}(h:rJ xs x)(e:∀k,K ys k=K xs k)(hl:x=0\/K xs x<=K xs (x-1)):rJ ys (x+1):=by
 intro i j hij hj;rw[e,e];rcases zw j x with y|y
 ·exact h i j hij y
 ·obtain rfl:j=x:=∅
  rcases YE hij with z|z
  ·rw[z];exact zi _
  ·rcases hl with hl|hl
   ·omega
   ·exact yg hl (h i (j-1) ∅ ∅)
theorem qbg{st:vc}{n nrem:Nat}{Q:DescSt->vc->Prop}(h0:lm)(hn:El)(h1:1<=n)(hnn:n<=nrem)(hB:Bi)(hD:DInv a₀ eC n 0)(h:∀m neq st',tI a₀ st'->n<=m->m<=nrem->DInv a₀ bP m neq->Q (none,m,neq) st'):wpS aj A E s (descLoop n nrem) Q st:=by
 unfold descLoop;refine vi (I:=λx c st'=>∃neq,c=(none,x,neq)/\tI a₀ st'/\DInv a₀ bP x neq) ?turn ?done ⟨0,rfl,hB,hD⟩
 case done=>
  rintro c st' ⟨neq,rfl,b1,b2⟩;rw[Nat.max_eq_right hnn]at b2 ⊢;exact h nrem neq st' b1 hnn bM b2
 case turn=>
  rintro x c st' hx1 hx2 ⟨neq,rfl,b1,D⟩
  dsimp only
  have hsz:(vN st').size=a₀.size:=b1.size;have hle:=D.le;refine vL L4
  by_cases less:K bP x<K bP (x-1)
  ·rw[vT less]
   simp only[if_true];obtain⟨f1,f2⟩:=D.flip ∅ hsz;have ke:=sI (xs:=vN st') (i:=x-pC) (j:=x) ∅ D.eq;have next:DInv a₀ (mirror bP Qa x ((x-Qa)/2)) (x+1) 0:=by
    refine⟨∅,q5U D.ni ke (.inr (yh less)),B1,eG,?_,?_⟩
    ·congr 1;omega
    ·show K _ x<K _ (x-1)
     rw[ke,ke];exact less
    ·exact f1
    ·exact f2
   by_cases hq:neq>0
   ·rw[vH hq]
    exact vL (sJ (vO ⟨0,rfl,b1.setArr CF,next⟩))
   ·rw[vJ hq]
    have hq0:neq=0:=∅
    subst hq0;have e:mirror bP abj x ((x-abj)/2)=vN st':=by
     have:(x-abj)/2=0:=∅
     rw[this];rfl
    rw[e]at next
    exact vO ⟨0,rfl,b1,next⟩
  ·rw[vX less]
   simp only[yI,if_false];refine vL L4
   by_cases more:K bP (x-1)<K bP x
   ·rw[vT more]
    simp only[if_true];exact vO (h x neq st' b1 hx1 ∅ D)
   ·rw[vX more]
    simp only[yI,if_false];have ex:K bP x=K bP (x-1):=∅
    have eb:x+1-(neq+1+1)=x-pC:=∅
    refine vO ⟨pC,rfl,b1,∅,q5U D.ni Fb (.inr ∅),B1,?_,?_,?_⟩
    ·rw[eb]at i1
     rw[show x+1-1=x by omega,ex];rcases zw i x with y|y
     ·exact D.eq i i1 y
     ·obtain rfl:i=x:=∅
      exact ex
    ·rw[eb];exact D.lt
    ·rw[eb];exact D.cl
    ·rw[eb];exact D.dr
theorem qcC{st:vc}{n nrem:Nat}{Q:mq}(h0:lm)(hn:El)(h1:1<=n)(hnn:n<=nrem)(hB:Bi)(hs:rJ eC n)(hc:∀c,kcl c ((vN st).toList.take n)=(kcl c RF).reverse)(hd:(vN st).toList.drop n=a₀.toList.drop n)(h:∀m st',tI a₀ st'->1<=m->m<=nrem->uk bP m->zA5 (vN st').toList a₀.toList->Q Rl st'):wpS aj A E s (tail3 n nrem) Q st:=by
 unfold tail3;have hsz:n<=(vN st).size:=by rw[hB.size];omega
 refine vL (sJ ?_);have b1:tI a₀ (setArr st (mirror eC 0 n ((n-0)/2))):=hB.setArr CF;have stb:zA5 (mirror eC 0 n ((n-0)/2)).toList a₀.toList:=λc=>by
  rw[q3S B5 hsz,Yt,yX,ZC,q0N,q5Q,hc c,xO,hd,<- q0N,yG]
 refine vL (wpS_ascLoop h0 hn h1 hnn b1 Ir λm m1 m2 m3 _=>vO (h m _ b1 ∅ m2 m3 stb));show K (mirror eC 0 n ((n-0)/2)) i<=K (mirror eC 0 n ((n-0)/2)) j;rw[K_mirror hsz,K_mirror hsz,kb,kb];exact hs _ _ ∅ ∅
theorem q66{st:vc}{n nrem:Nat}{Q:mq}(h0:lm)(hn:El)(hnn:n+1<=nrem)(hB:Bi)(hD:DInv a₀ eC (n+1) 0)(h:∀m st',tI a₀ st'->1<=m->m<=nrem->uk bP m->zA5 (vN st').toList a₀.toList->Q Rl st'):wpS aj A E s (descPart n nrem) Q st:=by
 unfold descPart;refine vL ff;refine vL (qbg h0 hn ∅ hnn hB hD λm neq st' b1 m1 m2 D=>?_)
 dsimp only
 have hsz:(vN st').size=a₀.size:=b1.size;have hle:=D.le;obtain⟨f1,f2⟩:=D.flip ∅ hsz;have ke:=sI (xs:=vN st') (i:=m-pC) (j:=m) ∅ D.eq
 by_cases hq:neq>0
 ·rw[vH hq]
  refine vL (sJ (qcC h0 hn ∅ m2 (b1.setArr CF) Ir f1 f2 h));show K Vl j<=K Vl i;rw[ke,ke];exact D.ni i j hij hj
 ·rw[vJ hq]
  have hq0:neq=0:=∅
  subst hq0;have e:mirror bP abv m ((m-abv)/2)=vN st':=by
   have:(m-abv)/2=0:=∅
   rw[this];rfl
  rw[e]at f1 f2;exact qcC h0 hn ∅ m2 b1 D.ni f1 f2 h
theorem qaV{st:vc}{nrem:Nat}{Q:mq}(h0:lm)(hn:El)(h1:1<=nrem)(hB:Bi)(hA:vN st=a₀)(h:∀m st',tI a₀ st'->1<=m->m<=nrem->uk bP m->zA5 (vN st').toList a₀.toList->Q Rl st'):wpS aj A E s (countRun' 0 nrem) Q st:=by
 rw[countRun0_eq];refine vL (wpS_ascLoop h0 hn (zN 1) h1 hB (λi j hij hj=>by obtain rfl:i=j:=∅;exact zi _) λn n1 n2 n3 n4=>?_)
 dsimp only
 have same:zA5 (vN st).toList a₀.toList:=λc=>by rw[hA]
 by_cases e1:n=nrem
 ·rw[vH ⇑e1]
  exact vO Ni
 ·rw[vJ ⇑e1]
  have lt:=n4.resolve_left e1
  by_cases e2:n>1
  ·rw[vH e2]
   refine vL (wpS_ltK hB h0 ∅ ∅ ?_)
   by_cases rose:K eC 0<K eC (n-1)
   ·rw[vT rose]
    simp only[if_true];exact vO Ni
   ·rw[vX rose]
    simp only[yI,if_false];have hsz:n<=(vN st).size:=by rw[hB.size];omega
    have all:∀k,0<=k->k<n->K eC k=K eC (n-1):=λk _ hk=>by
     have a1:=n3 0 k ∅ hk;have a2:=n3 k (n-1) ∅ ∅;omega
    have ke:=sI (xs:=vN st) (i:=0) (j:=n) hsz all;refine vL (sJ (q66 h0 hn ∅ (hB.setArr CF) ?_ h));show DInv a₀ (mirror eC 0 n ((n-0)/2)) (n+1) 0;have ml:=q3S (yF n) hsz;rw[Yt,yX,ZC]at ml;have ll:(((vN st).toList.take n).reverse).length=n:=by rw[xY,ze,zK];omega
    have ni:rJ eC n:=λi j hij hj=>by rw[all i ∅ ∅,all j ∅ hj];exact zi _
    refine⟨∅,q5U ni ke ada,B1,eG,λc=>?_,?_⟩
    ·congr 1;omega
    ·show K _ n<K _ (n-1)
     rw[ke,ke];exact lt
    ·show kcl c ((mirror eC 0 n ((n-0)/2)).toList.take n)=(kcl c RF).reverse
     rw[ml,Yk ll,q5Q,hA]
    ·show (mirror eC 0 n ((n-0)/2)).toList.drop n=a₀.toList.drop n
     rw[ml,Yl ll,hA]
  ·rw[vJ e2]
   obtain rfl:n=1:=∅
   refine q66 h0 hn ∅ hB ?_ h;have ni:rJ eC 1:=λi j hij hj=>by obtain rfl:i=j:=∅;exact zi _
   refine⟨∅,q5U ni Fb ada,B1,λ_=>lt,λc=>?_,?_⟩
   ·congr 1;omega
   ·show kcl c ((vN st).toList.take 1)=(kcl c (a₀.toList.take 1)).reverse
    rw[hA,<- q5Q];cases a₀.toList with
    | nil=>rfl
    | cons p r=>rfl
   ·rw[hA]
theorem qfx{st:vc}{n ok:Nat}{Q:Gu}(h0:lm)(hn:n<=a₀.size)(hok:ok<=n)(hB:Bi)(hs:uk eC ok)(hS:zA5 (vN st).toList a₀.toList)(h:∀st',tI a₀ st'->uk bP n->zA5 (vN st').toList a₀.toList->Q true st'):wpS aj A E s (binarySort' 0 n ok) Q st:=by
 rw[binarySort'_eq];simp only[xb];refine vL (uF (vi (I:=λj c st'=>c=(none,())/\tI a₀ st'/\uk bP (min j n)/\zA5 (vN st').toList a₀.toList)
  (Q:=λc st'=>c=(none,())/\tI a₀ st'/\uk bP n/\zA5 (vN st').toList a₀.toList) ?turn ?done ?first) λc st' z=>?_)
 case first=>
  refine⟨rfl,hB,Ir,hS⟩
  by_cases y:ok=0
  ·obtain rfl:i=j:=∅
   exact zi _
  ·exact hs i j hij ∅
 case done=>
  rintro c st' ⟨hc,b1,b2,b3⟩;rw[show min (max (max ok 1) n) n=n by omega]at b2;exact⟨hc,b1,b2,b3⟩
 case turn=>
  rintro j c st' j1 j2 ⟨rfl,b1,b2,b3⟩;rw[show min j n=j by omega]at b2;have hj:j<a₀.size:=∅
  have hjs:j<(vN st').size:=by rw[b1.size];exact hj
  refine vL (uF (vi (I:=λx c st2=>st2=st'/\∃l r,c=TV/\l<=r/\r<=j/\r-l<=j-x/\(∀i,i<l->K bP i<=K bP j)/\∀i,r<=i->i<j->K bP j<K bP i)
   (Q:=λc st2=>st2=st'/\∃l r,c=TV/\l<=j/\(∀i,i<l->K bP i<=K bP j)/\∀i,l<=i->i<j->K bP j<K bP i) ?half ?found ?all) λc st2 z=>?_)
  case all=>exact⟨rfl,0,j,rfl,B5,bM,∅,λi y=>∅,λi y1 y2=>∅⟩
  case found=>
   rintro c st2 ⟨rfl,l,r,rfl,c1,c2,c3,c4,c5⟩;obtain rfl:l=r:=∅
   exact Nu
  case half=>
   rintro x c st2 _ hx ⟨rfl,l,r,rfl,c1,c2,c3,c4,c5⟩
   dsimp only
   by_cases y:l>=r
   ·rw[JI]
    obtain rfl:l=r:=∅
    exact vO Nu
   ·rw[KN]
    refine vL (wpS_ltK b1 h0 hj ∅ ?_)
    by_cases less:K lw j<K lw ((l+r)/2)
    ·rw[vT less]
     simp only[if_true];refine vO ⟨rfl,l,(l+r)/2,rfl,∅,∅,∅,c4,B1⟩;exact Int.lt_of_lt_of_le less (b2 _ _ i1 i2)
    ·rw[vX less]
     simp only[yI,if_false];refine vO ⟨rfl,(l+r)/2+1,r,rfl,∅,∅,∅,λi i1=>?_,c5⟩;have:=b2 i ((l+r)/2) ∅ ∅;omega
  obtain⟨rfl,l,r,rfl,c1,c2,c3⟩:=z;show wpS _ _ _ _ (do moveDown' j l;pure (ForInStep.yield (none,()))) _ _;rw[moveDown'_eq];refine vL (ud (vO ⟨rfl,b1.setArr SK,?_,?_⟩))
  ·rw[show min (j+1) n=j+1 by omega]
   intro i k hik hk;show K SL i<=K SL k;rw[rK hjs ∅,rK hjs ∅,show j-(j-l)=l by omega]
   repeat' split
   all_goals first
    | (exfalso;omega)
    | exact zi _
    | exact c2 _ ∅
    | exact yh (c3 _ ∅ ∅)
    | exact b2 _ _ ∅ ∅
  ·intro c
   rw[<- b3 c];exact qb0 hjs c1 c3 c
 obtain⟨rfl,b1,b2,b3⟩:=z;exact vO (h st' b1 b2 b3)
def zCa(a₀:be)(st:vc):Prop:=SDone a₀ st/\zA5 (vN st).toList a₀.toList
theorem qbp{st:vc}{Q:Gi}(h0:lm)(hB:Bi)(hA:vN st=a₀)(h2:2<=a₀.size)(h64:a₀.size<64)(h:∀st',(vN st').Perm a₀->uT st'=none->uk bP a₀.size->zA5 (vN st').toList a₀.toList->Q () st'):wpS aj A E s sortRuns' Q st:=by
 rw[sortRuns'_eq];refine vL oK
 dsimp only
 have mr:si a₀.size a₀.size 0=a₀.size:=by
  cases e:a₀.size with
  | zero=>omega
  | succ f=>rw[minRun'_succ,kb]
 simp only[hB.size,mr];refine vL (uF (vi (I:=λx c st'=>(x=0/\c=(none,0)/\st'=st)\/(1<=x/\c=JO/\zCa a₀ st')) (Q:=λc st'=>c=JO/\zCa a₀ st') ?turn ?done (.inl abf)) λc st' z=>?_)
 case done=>
  rintro c st' (⟨y,_,_⟩|⟨_,y1,y2⟩)
  ·omega
  ·exact⟨y1,y2⟩
 case turn=>
  rintro x c st' _ hx (⟨rfl,rfl,rfl⟩|⟨x1,rfl,D⟩)
  ·dsimp only
   rw[ik];simp only[Nat.sub_zero,Nat.min_self,xb];refine vL (qaV h0 bM ∅ hB hA λm st2 b1 m1 m2 m3 m4=>?_)
   dsimp only
   by_cases y:m<a₀.size
   ·rw[JI]
    refine vL ff;refine vL (qfx h0 bM m2 b1 m3 m4 λst3 d1 d2 d3=>?_);simp only[Z7,yI,if_false];refine vL oK;have nb:(ve st3).back?=none:=by rw[d1.pend];rfl
    rw[nb]
    dsimp only
    exact vL (ud (vO (.inr ⟨∅,rfl,d1.done d2,d3⟩)))
   ·rw[KN]
    obtain rfl:m=a₀.size:=∅
    refine vL oK;have nb:(ve st2).back?=none:=by rw[b1.pend];rfl
    rw[nb]
    dsimp only
    exact vL (ud (vO (.inr ⟨∅,rfl,b1.done m3,m4⟩)))
  ·dsimp only
   rw[vH bM];exact vO ⟨rfl,D⟩
 obtain⟨rfl,D⟩:=z
 dsimp only
 refine vL (uF (vi (I:=λ_ c st2=>st2=st'/\c=(none,())) (Q:=λc st2=>st2=st'/\c=(none,())) (λx c st2 _ _ y=>?_) (λ_ _ y=>y) cT) λc st2 y=>?_)
 ·obtain⟨rfl,rfl⟩:=y
  refine vL oK;rw[vH (by rw[D.1.2.2.1];exact zN 1)];exact vO cT
 ·obtain⟨rfl,rfl⟩:=y
  exact vO (h _ D.1.1 D.1.2.1 D.1.2.2.2 D.2)
end
section
variable{α β:Type}
noncomputable def zAc(f:kM)(x:α):List α->List α
 | []=>[x]
 | y::r=>if f x<=f y then x::y::r else y::zAc f x r
noncomputable def Xb(f:kM)(l:bE):List α:=l.foldr (zAc f) []
noncomputable def clK(f:kM)(c:Int)(l:bE):List α:=l.filter λx=>f x==c
theorem q5h{f:kM}{x:α}:∀{l:bE},(zAc f x l).Perm (x::l)
 | []=>.refl _
 | y::r=>by
  unfold zAc
  split
  ·exact .refl _
  ·exact(q5h.cons y).trans (.swap x y r)
theorem q0h{f:kM}:∀{l:bE},(Xb f l).Perm l
 | []=>.refl _
 | y::r=>q5h.trans ((q0h (l:=r)).cons y)
theorem q5i(f:kM)(l:bE):(Xb f l).length=l.length:=q0h.length_eq
theorem qcp{f:kM}{x:α}:∀{l:bE},l.Pairwise lJ->(zAc f x l).Pairwise lJ
 | [],_=>ZV _ _
 | y::r,h=>by
  obtain⟨h1,h2⟩:=zQ.mp h;unfold zAc
  split
  ·rename_i z
   refine zQ.mpr ⟨p7,h⟩;rcases zF.mp ha with rfl|ha
   ·exact z
   ·exact yg z (h1 a ha)
  ·rename_i z
   refine zQ.mpr ⟨p7,qcp h2⟩;rcases zF.mp (q5h.mem_iff.mp ha)with rfl|ha
   ·omega
   ·exact h1 a ha
theorem q4y{f:kM}:∀{l:bE},(Xb f l).Pairwise lJ
 | []=>.nil
 | y::r=>qcp (q4y (l:=r))
theorem qbD{f:kM}{x:α}(c:Int):∀{l:bE},l.Pairwise lJ->clK f c (zAc f x l)=clK f c (x::l)
 | [],_=>rfl
 | y::r,h=>by
  obtain⟨h1,h2⟩:=zQ.mp h;unfold zAc
  split
  ·rfl
  ·rename_i z
   have ih:=qbD (x:=x) c h2;unfold clK at ih ⊢;rw[yQ,ih,yQ,yQ,yQ]
   by_cases a:f x=c
   ·have:¬f y=c:=∅
    simp[a,this]
   ·simp[a]
theorem q9P{f:kM}(c:Int):∀{l:bE},clK f c (Xb f l)=clK f c l
 | []=>rfl
 | y::r=>by
  show clK f c (zAc f y (Xb f r))=_;rw[qbD c q4y];unfold clK;rw[yQ,yQ];have ih:=q9P (f:=f) c (l:=r);unfold clK at ih;rw[ih]
theorem q33{f:kM}{a:α}{l:bE}:clK f (f a) (a::l)=a::clK f (f a) l:=by
 unfold clK;rw[yQ,vH (by simp)]
theorem qcE{f:kM}:∀{l m:bE},l.Pairwise lJ->m.Pairwise lJ->(∀c,clK f c l=clK f c m)->l=m
 | [],m,_,_,h=>by
  cases m with
  | nil=>rfl
  | cons b m=>have:=h (f b);rw[q33]at this;cases this
 | a::l,m,h1,h2,h=>by
  cases m with
  | nil=>have:=h (f a);rw[q33]at this;cases this
  | cons b m=>
   obtain⟨p1,p2⟩:=zQ.mp h1;obtain⟨q1,q2⟩:=zQ.mp h2;have x1:a∈b::m:=by
    have:a∈clK f (f a) (b::m):=by rw[<- h,q33];exact zE
    exact(yB.mp this).1
   have x2:b∈a::l:=by
    have:b∈clK f (f b) (a::l):=by rw[h,q33];exact zE
    exact(yB.mp this).1
   have e:f a=f b:=by
    rcases zF.mp x1 with y|y
    ·rw[y]
    ·rcases zF.mp x2 with z|z
     ·rw[z]
     ·have:=q1 a y;have:=p1 b z;omega
   have hab:=h (f a);rw[q33]at hab;rw[e,q33]at hab;obtain⟨rfl,_⟩:=Z8 hab;refine v4 (a::·) (qcE p2 q2 λc=>?_);have hc:=h c;unfold clK at hc ⊢;rw[yQ,yQ]at hc
   by_cases z:(f a==c)=true
   ·rw[gz,gz]at hc;exact(Z8 hc).2
   ·rw[gc,gc]at hc;exact hc
theorem q9x{f:β->Int}{g:α->β}{x:α}:∀{l:bE},zAc f (g x) abw=(zAc acn x l).map g
 | []=>rfl
 | y::r=>by
  show (if f (g x)<=f (g y)then _ else _)=(if f (g x)<=f (g y)then _ else _:List α).map g
  split
  ·rfl
  ·rw[q9x];rfl
theorem q2A{f:β->Int}{g:α->β}:∀{l:bE},Xb f abw=(Xb acn l).map g
 | []=>rfl
 | y::r=>by
  show zAc f (g y) (Xb f (r.map g))=(zAc _ y (Xb _ r)).map g;rw[q2A,q9x]
end
theorem qhW{a₀ xs:be}(hp:xs.Perm a₀)(hs:uk xs a₀.size)(hS:zA5 xs.toList a₀.toList):xs.toList=Xb (λp=>sH p.1) a₀.toList:=by
 have hn:xs.size=a₀.size:=hp.size_eq;refine qcE (f:=λp:vS=>sH p.1) (yb.mpr λi j hi hj hij=>?_) q4y λc=>(hS c).trans (q9P c).symm;have e1:=q4s (xs:=xs) (i:=i) (zD hi);have e2:=q4s (xs:=xs) (i:=j) KM;rw[<- e1,<- e2];exact hs i j ∅ (by rw[zK]at hj;omega)
end Hk
namespace Hk
open PySem PySem.Spec PyProof.Rows L2
section
variable{X:Cx}{pins:List (vG×Obj)}{σ:L2.St}{H:Hp}{s:vC}
theorem qf6{h':vm}{a:vG}{ys:bt}{its:bx}{n t':Nat}(I:aq)(fa:rL)(k:∀b o,b≠a->s.heap.get? b=some o->h'.get? b=some o)(new:h'.get? a=some { cls:=.type "list", data:=.seq its.toArray n })(hv:Xj ys its)(hz:Ag):Inv X pins σ (upd H a nU) { s with heap:=h',toks:=t' }:=by
 obtain⟨f0,f1,f2,f3,f4,f5⟩:=fa;have I1:=I.turned (h':=h') (t':=t') (it:=a) k f0 f1 f3 f4 f5;have na:∀{b:vG}{u:HO},H b=some u->b≠a:=λq z=>by rw[z,f0]at q;cases q
 refine Inv.step (s:={ s with heap:=h',toks:=t' }) (H':=upd H a nU) (h':=h') (g':=s.gens) (d':=s.drawn) (t':=t') (ch:=[a]) I1 jM (λb o _ _ _ e _=>e) (λb o _ _ _ e _=>⟨o.slots,e⟩)
  (λb o hc e n=>by rw[qd ⇑hc];exact n) (λb o _ e=>AT) (λb xs q=>by rw[KW];exact q) (λb o u q=>by rw[KW];exact q)
  (λb ps q=>⟨#[],by rw[KW,q];simp⟩) (λ_ hm=>hm) (λb u q=>?_) I1.bare
 ·cases zR.mp hb
  exact abg
 ·by_cases z:b=a
  ·subst z
   rw[qe]at q;cases q;exact⟨hz,its,n,hv,new⟩
  ·rw[qd z]at q
   exact(I1.hok b u q).stay ND (λc q=>by rw[KW];exact q) (λc xs q=>by rw[KW];exact q)
theorem qi8{k:Nat}{f:vG}{fd:vQ}{ps:dJ}{sp:Sp}{E:XK}{Q:VK}{us:bx}{vs:bt}{E':aH}(F:FnOk X.prog X.w X.K X.mg X.base CX0 k f fd ps sp)(hr:Gk)(hb:nR)(I:aq)(r:Xj vs us)(h:sp vs H Q E):vM ao X.A.in1.in1 (call iG us) cH E' s:=by
 have hl:(us++[]).length=ps.length:=by rw[zk,<- r.length];exact F.len _ _ _ _ h
 have b:=hb s us I.kIn hl;rw[zk]at b;refine wpAny_call (um (F.run X.A.in1.in1 X.stack s H BZ us vs Q E hr.in1.in1 I.env0.in1.in1 b r h) λr s' hq=>?_);cases r with
 | error e=>exact False.elim hq
 | ok fl=>
  cases fl with
  | ret u=>exact I.after hq
  | next=>exact False.elim hq
  | brk=>exact False.elim hq
  | cont=>exact False.elim hq
end
theorem q47{α:Type}{f g:kM}:∀{l:bE},(∀x∈l,f x=g x)->Xb f l=Xb g l
 | [],_=>rfl
 | y::r,h=>by
  show zAc f y (Xb f r)=zAc g y (Xb g r);rw[q47 λx hx=>h x jj];have:∀{l:bE},(∀x∈l,f x=g x)->zAc f y l=zAc g y l:=λ{l} hl=>by
   induction l with
   | nil=>rfl
   | cons z r ih=>
    unfold zAc;rw[h y zE,hl z zE,ih λx hx=>hl x jj]
  exact this λx hx=>h x (zH _ (q0h.mem_iff.mp hx))
theorem qae{α:Type}{f:α->V}{g:α->vB}:∀{l:bE},(∀t∈l,RelV (f t) (g t))->Xj (l.map f) abw
 | [],_=>.nil
 | t::r,h=>.cons (h t zE) (qae λx hx=>h x jj)
theorem q7L:∀{xs:bt}{vs:bx}{i:Nat}{v:vB},Xj xs vs->vs[i]?=some v->∃x,xs[i]?=some x/\RelV x v
 | _,_,i,v,.nil,h=>by simp at h
 | _,_,0,v,.cons r _,h=>by simp at h;subst h;exact O9
 | _,_,i+1,v,.cons _ r,h=>by
  obtain⟨x,a,b⟩:=q7L (i:=i) r ⇑h;exact⟨x,by simpa using a,b⟩
theorem q9S:∀{vs:bx}{ns:af}{i:Nat}{v:vB},uH vs ns->vs[i]?=some v->ns[i]?=some (sH v)
 | _,_,i,v,.nil,h=>by simp at h
 | _,_,0,v,.cons _ _ _,h=>by simp at h;subst h;rfl
 | _,_,i+1,v,.cons _ _ r,h=>by
  have:=q9S (i:=i) r ⇑h;simpa using this
theorem qbo{xs:bt}{vs ks:bx}{ds:aZ}{kf:D->Int}(rv:Oa)(hd:Hf)(hk:uH ks (ds.map kf)):Xj ((Xb (λz:D×V=>kf z.1) kN).map (·.2)) ((Xb (λp:vB×vB=>sH p.1) (ks.zip vs)).map (·.2)):=by
 have l1:=rv.length;have l2:=hk.length;rw[zA]at l2
 let L:=(ds.zip xs).zip (ks.zip vs)
 have e1:ds.zip xs=L.map Prod.fst:=by
  rw[Yc];rw[xE,xE];omega
 have e2:ks.zip vs=L.map Prod.snd:=by
  rw[List.map_snd_zip];rw[xE,xE];omega
 have mem:∀t∈L,kf t.1.1=sH t.2.1/\RelV t.1.2 t.2.2:=λt ht=>by
  obtain⟨i,hi⟩:=xJ.mp ht;obtain⟨a1,a2⟩:=xH.mp hi;obtain⟨b1,b2⟩:=xH.mp a1;obtain⟨c1,c2⟩:=xH.mp a2;obtain⟨x,g1,g2⟩:=q7L rv c2;rw[b2]at g1;cases g1;have g3:=q9S hk c1;rw[zZ,b1]at g3;exact⟨zy g3,g2⟩
 rw[e1,e2,q2A,q2A,yL,yL,q47 λt ht=>(mem t ht).1];exact qae λt ht=>(mem t SB).2
section
variable{X:Cx}{pins:List (vG×Obj)}{σ:L2.St}{G H:Hp}{s:vC}{a kS:vG}{xs:List V}{vs:List vB}{ds:List D}{kf:D->Int}
noncomputable def apart(pins:aA)(a kS:vG)(e1:Nat)(ks:cK)(e:Nat):List re:=pins++[(kS,DI),(a,v3 "list" #[] e1)]
theorem q6J(I:eU):s.heap.get? kS=some DI/\H kS=none:=by
 have:=I.pin (kS,DI) (zT _ (zT _ zE));exact Sk
theorem q7N(I:eU):s.heap.get? a=some (v3 "list" #[] e1)/\H a=none:=by
 have:=I.pin (a,v3 "list" #[] e1) (zT _ (zT _ (zH _ zE)));exact Sk
theorem q8D(I:eU):Inv X pins σ H s:=I.unpinned
theorem q9E{e1 e:Nat}{ks:cK}(I:aq)(fk:Gh)(fa:rL)(hk:s.heap.get? kS=some DI)(ha:s.heap.get? a=some (v3 "list" #[] e1)):Inv X fq σ H s :=
 I.pins_of λp hp=>by
  rcases zJ.mp hp with z|z
  ·exact I.pin p (zT _ z)
  ·rcases zF.mp z with rfl|z
   ·exact⟨hk,fk.1,fk.2.1,fk.2.2.1,λv h=>by cases h⟩
   ·cases zR.mp z
    exact⟨ha,fa.1,fa.2.1,fa.2.2.1,λv h=>by cases h⟩
theorem q7T{h:vm}{b:vG}{ys:cK}{n:Nat}(q:h.get? b=some (v3 "list" ys n))(f:aa2):∃n',(h.update b MV).get? b=some (v3 "list" (f ys) n'):=⟨_,get?_update_seq q f⟩
theorem q5S{H':Hp}{b:vG}(h:Wn X pins H b)(n:H' b=none):Wn X pins H' b:=⟨n,h.2⟩
theorem qaa{st:vc}{ks:cK}{e e1:Nat}{P:An}{E:aH}{A:vf}(I:eU)(ne:kS≠a)(fk:Gh)(fa:rL)(rv:Oa)(hd:Hf)(hk:Pk)(h64:JH)(ho:(vN st).toList=Xb (λp:vS=>sH p.1) TY)(hf:uT st=none)(h:∀s',Inv X pins σ (upd H a (.lst ((Xb (λz:D×V=>kf z.1) kN).map (·.2)))) s'->P md s'):
  vM ao A (ksk_tail a false e1 ab6 st) P E s:=by
 obtain⟨qk,hk0⟩:=q6J I;obtain⟨qa,ha0⟩:=q7N I;have I0:=q8D I;have lk:ks.toList.length=vs.length:=by have:=hk.length;have:=rv.length;rw[zA]at *;omega
 have lo:((vN st).map (·.2)).size=vs.length:=by
  rw[Yu,<- zK,ho,q5i,xE];omega
 have qa1:(s.heap.update kS (Obj.mapSeq λ_=>(#[]:Array vB))).get? a=some (v3 "list" #[] e1):=(zr _ _ ne).trans qa;obtain⟨c2,qa2⟩:=q7T qa1 (λ_=>(vN st).map (·.2));have sv:=qbo rv hd hk;have el:((vN st).map (·.2)).toList=(Xb (λp:vB×vB=>sH p.1) TY).map (·.2):=by rw[Array.toList_map,ho]
 unfold ksk_tail
 try dsimp only
 refine vA (uu qk rfl (vA (tD (vA (sK qa1 rfl ?_)))) (by rw[<- zK,lk,vj];omega) B5);refine vA (uu qa1 rfl ?_ B5 (by show ((vN st).map (·.2)).size<=_;rw[lo,vj];omega));rw[hf];simp only[bne_self_eq_false,yI,if_false];refine vF (h _ ?_);have I1:=I0.turned (h':=s.heap.update kS (Obj.mapSeq λ_=>(#[]:Array vB))) (t':=s.toks) (it:=kS) fZ fk.1 fk.2.1 fk.2.2.2.1 fk.2.2.2.2.1 fk.2.2.2.2.2;refine qf6 (s:={ s with heap:=s.heap.update kS (Obj.mapSeq λ_=>(#[]:Array vB)) }) (its:=((vN st).map (·.2)).toList) (n:=c2) (t':=s.toks) I1 fa fZ ?_ (by rw[el];exact sv) ?_
 ·rw[xt];exact qa2
 ·rw[sv.length,<- el,zK,lo,vj];omega
theorem qiQ{ks:cK}{e e1:Nat}{P:An}{E:aH}{A:vf}(I:eU)(ne:kS≠a)(fk:Gh)(fa:rL)(rv:Oa)(hd:Hf)(hk:Pk)(h64:JH)(h:∀s',Inv X pins σ (upd H a (.lst ((Xb (λz:D×V=>kf z.1) kN).map (·.2)))) s'->P md s'):
  vM ao A (ksk_end a false vs.toArray e1 ab6 ks) P E s:=by
 have lk:ks.size=vs.length:=by rw[<- zK];have:=hk.length;have:=rv.length;rw[zA]at *;omega
 have lz:(ks.zip vs.toArray).size=vs.length:=by rw[Array.size_zip,lk,zP,Nat.min_self]
 have ez:(ks.zip vs.toArray).toList=ks.toList.zip vs:=ksk_zip ks vs;unfold ksk_end
 try dsimp only
 rw[vJ (by decide)]
 by_cases h2:vs.toArray.size<2
 ·rw[vH h2,vH h2]
  refine vA eP;rw[StateT.run_pure];refine vA (vF (qaa (st:=SortSt.mk' general' FK #[] 7 none) I ne fk fa rv hd hk h64 ?_ rfl h));show (ks.zip vs.toArray).toList=_;rw[ez];rw[zP]at h2;have l2:(ks.toList.zip vs).length<2:=by rw[xE];omega
  match ks.toList.zip vs,l2 with
  | [],_=>rfl
  | [_],_=>rfl
  | _::_::_,l2=>simp at l2;omega
 ·rw[vJ h2,vJ h2]
  rw[zP]at h2;rw[ksk_kind hk (by rw[lk];omega)];refine vA (vF (vA (vz (qbp (a₀:=ks.zip vs.toArray) (st:=SortSt.mk' uG FK #[] 7 none)
   (Q:=λ_ st'=>(vN st').Perm FK/\uT st'=none/\uk bP (ks.zip vs.toArray).size/\zA5 (vN st').toList (ks.zip vs.toArray).toList)
   (ksk_intKeys hk) Q2 rfl (by rw[lz];omega) (by rw[lz];exact h64) λst' b1 b2 b3 b4=>⟨b1,b2,b3,b4⟩) ?_ λ_ _ z=>z)))
  rintro⟨⟨⟩,st'⟩ s' ⟨rfl,b1,b2,b3,b4⟩
  try dsimp only
  refine qaa I ne fk fa rv hd hk h64 ?_ b2 h;rw[qhW b1 b3 b4,ez]
theorem qfJ{k:Nat}{f:vG}{fd:vQ}{ps:dJ}{m:cc}{e1:Nat}{P:An}{E:aH}(F:hW)(hr:Gk)(hb:nR)(I:Inv X (apart pins a kS e1 #[] 0) σ H s)(ne:kS≠a)(fk:Gh)(fa:rL)(sg:CP)(rp:Od)(rv:Oa)(h64:JH)(hm:∀d∈ds,m [d]=↥Ov)(h:∀G' H' s',Ext G H G' H'->H' a=none->Inv X pins σ (upd H' a (.lst ((Xb (λz:D×V=>kf z.1) kN).map (·.2)))) s'->P md s'):
  vM ao X.A.in1.in1 (ksk_rest a iG false vs.toArray e1 ab6) P E s:=by
 have ld:ds.length=xs.length:=rp.len;have lv:xs.length=vs.length:=rv.length;unfold ksk_rest;refine vA U8;rw[List.forIn_toArray];refine vA (ksk_fold (λi s'=>∃G' H' ks e,Inv X fq σ H' s'/\Ext G H G' H'/\uH ks.toList ((ds.map kf).take i)) vs 0 s
  ⟨G,H,#[],0,I,Ext.refl sg,by simpa using IntsAre.nil⟩ ?turn ?done)
 case turn=>
  rintro j x s' hx ⟨G',H',ks,e,I',x',hk⟩;simp only[xb]at hk ⊢;have hj:j<vs.length:=(zj.mp hx).1;obtain⟨y,hy,ry⟩:=q7L rv hx;have hdj:ds[j]?=some ds[j]:=zD ∅;obtain⟨y',hy',rd⟩:=rp.get hdj;rw[hy]at hy';cases hy';have lks:ks.size<=vs.length:=by
   have:=hk.length;rw[zK,ze]at this;omega
  refine vA (uN (vz (qi8 (Q:=λv H2=>v=.int (kf ds[j])/\∃G2,Ext G H G2 H2) (E:=λ_ _ _=>False) (E':=λ_ _=>False) F hr hb I' (.cons ry .nil) ?_) (λu s2 he=>?_) λ_ _ z=>False.elim z))
  ·exact⟨G',[ds[j]],_,hm _ (yk ∅),rfl,x'.gh,XR.cons (rd.mono x'.gg) XR.nil,λv G2 H2 x2 y2=>⟨y2,G2,x'.trans x2⟩⟩
  ·obtain⟨v,H2,I2,rvu,rfl,G2,x2⟩:=he
   obtain⟨t2,rfl⟩:∃t,u=.int (kf ds[j]) t:=by
    obtain⟨t,z⟩:=rvu;exact⟨t,z⟩
   try dsimp only
   obtain⟨qk,hk0⟩:=q6J I2;obtain⟨qa,ha0⟩:=q7N I2;obtain⟨c2,qk2⟩:=q7T qk (·.push (.int (kf ds[j]) t2));have fk2:=q5S fk hk0;refine vA (uu qk rfl (vF ⟨rfl,G2,H2,ks.push (.int (kf ds[j]) t2),c2,?_,x2,?_⟩) (by rw[vj];omega) (by rw[Zm,vj];omega))
   ·have I3:=(q8D I2).turned (h':=s2.heap.update kS (Obj.mapSeq (·.push (.int (kf ds[j]) t2)))) (t':=s2.toks) (it:=kS) fZ fk2.1 fk2.2.1 fk2.2.2.2.1 fk2.2.2.2.2.1 fk2.2.2.2.2.2
    exact q9E I3 fk2 (q5S fa ha0) qk2 ((zr _ _ ne).trans qa)
   ·have ek:(ds.map kf).take (j+1)=(ds.map kf).take j++[kf ds[j]]:=by
     rw[ZM,zZ,hdj];rfl
    have ea:(ks.push (Value.int (kf ds[j]) t2)).toList=ks.toList++[Value.int (kf ds[j]) t2]:=by simp
    rw[ea,ek];exact ksk_snoc hk
 case done=>
  rintro s' ⟨G',H',ks,e,I',x',hk⟩;rw[yv (by rw[zA];omega)]at hk;obtain⟨qk,hk0⟩:=q6J I';obtain⟨qa,ha0⟩:=q7N I'
  try dsimp only
  exact vA (sm qk rfl (qiQ I' ne (q5S fk hk0) (q5S fa ha0) rv ld hk h64 λs2 I2=>h G' H' s2 x' ha0 I2))
end
section
variable{X:Cx}{pins:List (vG×Obj)}{σ:L2.St}{G H:Hp}{s:vC}{a:vG}{xs:List V}{vs:List vB}{ds:List D}{kf:D->Int}{k:Nat}{f:vG}{fd:vQ}{ps:List Str}{m:List D->Option O}
theorem qgZ{n:Nat}{P:An}{E:aH}(F:hW)(hr:Gk)(hb:nR)(I:aq)(fa:rL)(qa:s.heap.get? a=some Bz)(sg:CP)(rp:Od)(rv:Oa)(h64:JH)(hm:∀d∈ds,m [d]=some (.sh Ov))(h:∀G' H' s',Ext G H G' H'->H' a=none->Inv X pins σ (upd H' a (.lst ((Xb (λz:D×V=>kf z.1) kN).map (·.2)))) s'->P md s'):
  vM ao X.A.in1.in1 (ksk_tree a iG false) P E s:=by
 obtain⟨e1,qa1⟩:=q7T qa (λ_=>(#[]:Array vB));have la:a<s.heap.objs.size:=zM qa;have I3:=I.turned (h':=s.heap.update a (Obj.mapSeq λ_=>(#[]:Array vB))) (t':=s.toks) (it:=a) fZ fa.1 fa.2.1 fa.2.2.2.1 fa.2.2.2.2.1 fa.2.2.2.2.2;have I4:=I3.kept (h':=(s.heap.update a (Obj.mapSeq λ_=>(#[]:Array vB))).push mG) (t':=s.toks) λb u q=>zG _ q;have fk:=I4.fpOk bM (I4.hok.fresh bM);have I5:=I4.kept (h':=((s.heap.update a (Obj.mapSeq λ_=>(#[]:Array vB))).push mG).push (v3 "list" #[] 0)) (t':=s.toks) λb u q=>zG _ q;have qa5:(((s.heap.update a (Obj.mapSeq λ_=>(#[]:Array vB))).push mG).push (v3 "list" #[] 0)).get? a=some (v3 "list" #[] e1):=zG _ (zG _ qa1);have hn:((s.heap.update a (Obj.mapSeq λ_=>(#[]:Array vB))).push mG).objs.size=s.heap.objs.size+1:=by rw[size_push',xg]
 have I6:=q9E (e:=0) (ks:=#[]) I5 fk fa fF qa5;have z64:vs.toArray.size<=sizeLine:=by rw[zP,vj];omega
 unfold ksk_tree;refine vA (sm qa rfl (vA (uu qa rfl (vA (sK qa1 rfl (vA (u4 (vA (ut Fy B5)) ⇑z64)))) z64 B5)));exact qfJ F hr hb I6 (by rw[hn];exact xo (yS la)) fk fa sg rp rv h64 hm h
theorem qd5{p:vG}{Q:VK}{E:aH}(F:hW)(hr:Gk)(hb:nR)(I:aq)(hp:UF)(sg:CP)(rp:Od)(h64:xs.length<64)(hm:∀d∈ds,m [d]=↥Ov)(q:∀G' H' l,Ext G H G' H'->H' l=none->H l=none->Q cF (upd H' l (.lst ((Xb (λz:D×V=>kf z.1) kN).map (·.2))))):
  vM ao X.A (call fA N7 [(kJ, iG)]) cH E s:=by
 obtain⟨vs,n0,rv,e0,_⟩:=I.lst hp;have lv:xs.length=vs.length:=rv.length;have z64:vs.length<=sizeLine:=by rw[vj];omega
 have hn:((s.heap.push (v3 "list" #[] 0)).update s.heap.objs.size (Obj.mapSeq (·++vs.toArray))).objs.size=s.heap.objs.size+1:=by rw[xg,size_push']
 have keep:∀b o,s.heap.get? b=some o->(((s.heap.push (v3 "list" #[] 0)).update s.heap.objs.size (Obj.mapSeq (·++vs.toArray))).push dW).get? b=some o:=λb o z=>by
  have lt:b<s.heap.objs.size:=zM z;exact zG _ ((zr _ _ (xo lt)).trans (zG _ z))
 have I2:=I.kept (t':=s.toks) keep;have fa:Wn X pins H iz:=I.fpOk M9 aaX;have qa:(((s.heap.push (v3 "list" #[] 0)).update s.heap.objs.size (Obj.mapSeq (·++vs.toArray))).push dW).get? iz=some dW:=by
  rw[<- hn];exact zS _ rfl
 refine call_function_entry_kw sC tm tq (ksk_s1 _ _) ?_;unfold Builtin.«sorted»;apply vA (m:=sU "sorted" 1 1 _);apply vF;refine vA (collect_list ⟨_,e0,rfl,n0,rfl⟩ (vA (ut ?_ z64)) z64);show vM _ _ _ _ _ { s with heap:=((s.heap.push (v3 "list" #[] 0)).update s.heap.objs.size (Obj.mapSeq (·++vs.toArray))).push dW };rw[hn];refine vA (vh (wpAny_call_entry_kw slot_list_sort ⟨_,qa,rfl⟩ entry_list_sort ?go (ksk_l1 _ _)))
 case go=>
  show vM ao X.A.in1.in1 (Builtin.«list.sort» ⟨[.ref iz],[(kJ, iG)]⟩) _ _ _;rw[ksk_t1];refine qgZ F hr hb I2 fa qa sg rp rv ∅ hm λG' H' s' x' hn' I'=>ck;exact vF ⟨_,rfl,.ref _,_,I',rfl,q G' H' _ x' hn' fa.1⟩
theorem qar{K:zB}{G:Hp}:∀{l:List (D×V)},(∀t∈l,Rep K G t.1 t.2)->XR K G (l.map (·.1)) (l.map (·.2))
 | [],_=>rfl
 | t::r,h=>XR.cons (h t zE) (qar λx hx=>h x jj)
theorem qcX{K:zB}{G:Hp}{ds:aZ}{xs:bt}{kf:D->Int}(h:XR K G ds xs):XR K G (Xb kf ds) ((Xb (λz:D×V=>kf z.1) kN).map (·.2)):=by
 have l:=h.len;have e:ds=(ds.zip xs).map Prod.fst:=by rw[Yc];omega
 have mem:∀t∈ds.zip xs,Rep K G t.1 t.2:=λt ht=>by
  obtain⟨i,hi⟩:=xJ.mp ht;obtain⟨a1,a2⟩:=xH.mp hi;obtain⟨v,b1,b2⟩:=h.get a1;rw[a2]at b1;cases b1;exact b2
 have e2:Xb kf ds=(Xb (λz:D×V=>kf z.1) kN).map (·.1):=by
  conv=>lhs;rw[e]
  rw[q2A]
 rw[e2];exact qar λt ht=>mem t SB
noncomputable def zBg(m:cc)(d:D):Int:=match m [d]with
 | ↥(.int k)=>k
 | _=>0
noncomputable def keyOk(m:cc)(d:D):Bool:=match m [d]with
 | ↥(.int _)=>true
 | _=>false
theorem qgI{m:cc}{d:D}(h:keyOk m d=true):m [d]=↥(.int (zBg m d)):=by
 unfold keyOk at h;unfold zBg
 split at h
 ·rename_i k e;rw[e]
 ·cases h
noncomputable def tSortK(K:zB)(m:cc)(te:TE):TE:=λσ H Q=>te σ H λv H1=>∃p xs G ds,v=.ref p/\H1 p=some dQ/\Xh G H1/\XR K G ds xs/\xs.length<64/\(∀d∈ds,keyOk m d=true) /\
 ∀G' H' l,Ext G H1 G' H'->H' l=none->H1 l=none->Q cF (upd H' l (.lst ((Xb (λz:D×V=>zBg m z.1) kN).map (·.2))))
def askK(K:zB)(m:cc)(Q:VK):V->Hp->Prop:=λv H1=>∃p xs G ds,v=.ref p/\H1 p=some dQ/\Xh G H1/\XR K G ds xs/\xs.length<64/\(∀d∈ds,keyOk m d=true) /\
 ∀G' H' l,Ext G H1 G' H'->H' l=none->H1 l=none->Q cF (upd H' l (.lst ((Xb (λz:D×V=>zBg m z.1) kN).map (·.2))))
def one1(R:V->Hp->Prop):List V->Hp->Prop:=λus H1=>match us with
 | [v]=>R v H1
 | _=>False
theorem qi1{R:V->Hp->Prop}{us:bt}{H1:Hp}(h:one1 R us H1):∃v,us=[v]/\R v H1:=by
 unfold one1 at h
 split at h
 ·exact⟨_,rfl,h⟩
 ·exact h.elim
theorem qfI{e:vW}{te:TE}{x:Str}{p p2 p3 pos:Pos}{k0:Nat}(c:Ck)(hr:Ux)(hg:Ci)(hm:j7)(hx:AC)(he:oa)(hk:k+2<=k0)(hd:aI:=by decide)(hs:L6:=by rfl)(h1:Qb:=by rfl)(h2:(vt pos mf).any (·.1)=false:=by rfl)(h3:(uX pos pP).all (·.1.isSome)=true:=by rfl)(h4:(uX pos pP).any (·.1.isNone)=false:=by rfl)(h5:(uX pos pP).filterMap (·.1)=[kJ]:=by rfl):
  PE X QM (tSortK X.K m te):=by
 intro pins s σ H Q I h;refine uI (q0G I hg hm q2F ?_ (by decide) (by decide));refine callWith_kw (thn (qA he qy hs pos pins s σ H (one1 (askK X.K m Q)) I h) λus s1 ⟨ws,H1,I1,r1,q1⟩=>?_) h1 h2 h3 h4;obtain⟨v,rfl,p,xs,G,ds,rfl,b1,b2,b3,b4,b5,b6⟩:=qi1 q1;obtain⟨u,rfl,ru⟩:=vals1 r1;cases ru;refine thn (qi9 (kpos:=p3) (nm:=some kJ) (qiC (v:=.ref f) hx c.2.1 rfl hd) qkr pos pins s1 σ H1 (λzs H2=>zs=[iG]/\H2=H1) I1 cT) λzs s2 ⟨ys,H2,I2,rz,e1,e2⟩=>?_;subst e1;subst e2;obtain⟨u,rfl,ru⟩:=vals1 rz;cases ru;rw[h5];exact qd5 c.1 (hr.mono hk) c.2.2.2 I2 b1 b2 b3 b4 (λd hd=>qgI (b5 d hd)) b6
end
noncomputable def zCd(m:cc):D->Option R
 | .lst ds=>if ds.length<64/\ds.all abx=true then some (.fr K6)else none
 | _=>none
noncomputable def zBk(m:cc)(f:FD):FE:=λω=>(f ω).bind (zCd m)
theorem qfO{X:Cx}{k:Nat}{f:vG}{fd:vQ}{ps:dJ}{m:cc}{e:vW}{fe:FD}{x:Str}{p p2 p3 pos:Pos}{k0:Nat}(c:Ck)(hr:Ux)(hm:j7)(he:XV X e fe)(hg:Gl X "sorted" := by exact rfl)(hx:AC:=by exact rfl)(hk:k+2<=k0:=by decide)(hd:aI:=by decide)(hs:L6:=by rfl)(h1:Qb:=by rfl)(h2:(vt pos mf).any (·.1)=false:=by rfl)(h3:(uX pos pP).all (·.1.isSome)=true:=by rfl)(h4:(uX pos pP).any (·.1.isNone)=false:=by rfl)(h5:(uX pos pP).filterMap (·.1)=[kJ]:=by rfl):
  XE X QM (zBk m fe):=by
 obtain⟨t,g1,g2⟩:=he;refine⟨_,qfI c hr hg hm hx g1 hk hd hs h1 h2 h3 h4 h5,λG0 H0 G ω σ H r Q o er kk=>?_⟩;obtain⟨d,q,er⟩:=bnd er;refine g2 G0 H0 G ω σ H d _ o q λv G1 H1 x1 y1=>?_;cases d with
 | lst ds=>
  have er':(if ds.length<64/\ds.all abx=true then some (R.fr K6)else none)=some r:=er
  by_cases z:ds.length<64/\ds.all abx=true
  ·rw[gz]at er'
   cases er';obtain⟨p,vs,rfl,w1,w2⟩:=y1.lst x1.gh;refine⟨p,vs,G1,ds,rfl,w1,x1.gh,w2,by rw[<- w2.len];exact z.1,yo.mp z.2,λG2 H2 l x2 n2 n1=>?_⟩;have x3:=Ext.hide x2.gh n2 (.lst ((Xb (λz:D×V=>zBg m z.1) (ds.zip vs)).map (·.2)));exact kk _ G2 _ BM ⟨l,_,rfl,x1.hh.free n1,x2.gh.free n2,qe,qcX (w2.mono x2.gg)⟩
  ·rw[gc]at er';cases er'
 | _=>cases er
end Hk
namespace Hk
open PySem L2
noncomputable def skR(m:cc)(o:eQ):Option R:=o.bind (zCd m)
section
variable{m:List D->Option O}{f:FD}{ω:WSt}{d:D}{i:Nat}{ks:List Int}{ds:List D}
theorem qbX:zBk m f ω=skR m (f ω):=rfl
theorem qe8:iDk i ω=zCB ω[i]?:=rfl
theorem qfe:zCB (some ↥CY)=some Mm:=rfl
theorem qkT(h:ds.length<64)(h':∀d∈ds,keyOk m d=true):skR m OJ=some (.fr K6):=vH ⟨h,yo.mpr h'⟩
end
noncomputable def zBw:D->D->Option R
 | .lst xs,.int k=>if (0<=k/\k<=1000)/\xs.length<=1000 then some (.fr (zt k.toNat xs).flatten)else none
 | _,_=>none
theorem XR.rep{K:zB}{H:Hp}{ds:aZ}{vs:bt}(h:AL):∀n:Nat,XR K H (zt n ds).flatten (zt n vs).flatten
 | 0=>rfl
 | n+1=>by
  rw[yR,yR,yC,yC];exact h.app (h.rep n)
theorem qiA{K:zB}:OpV K rRep zBw:=by
 intro G H x y d v u Q s e hx hy k
 match x,y,e with
 | .lst xs,.int n,e=>
  unfold zBw at e
  dsimp only at e
  by_cases z:(0<=n/\n<=1000)/\xs.length<=1000
  ·rw[gz]at e
   cases e;obtain⟨a,vs,rfl,h1,h2⟩:=hx.lst s;cases hy.int;have hz:vs.length*n.toNat<=sizeLine:=by
    rw[<- h2.len];have:=Nat.mul_le_mul z.2 (show n.toNat<=1000 by omega);rw[vj];omega
   refine⟨a,n,vs,rfl,rfl,h1,∅,∅,hz,pZ⟩;exact k _ G _ VQ ⟨p,_,rfl,hp,s.free hp,qe,h2.rep _⟩
  ·rw[gc]at e;cases e
section
variable{X:Cx}{a b:vW}{pos:Pos}{f g:FD}
theorem qkA(ha:de)(hb:fO):XE X P3 (XH zBw f g):=q3h qk5 qiA ha hb
end
theorem qf2{ds:aZ}{k:Int}(h0:VR)(h1:k<=1000)(h2:ds.length<=1000):zBw eY kP=some (.fr (zt k.toNat ds).flatten):=vH ⟨⟨h0,h1⟩,h2⟩
def rIdx:V->List V->Hp->VK->Prop:=λx vs H Q=>∃(l:vG) (ns:af) (k:Int) (j:Nat),x=.ref l/\vs=[kP]/\H l=some Gy/\zCQ k ns=some j/\Q Bd H
theorem qg6{X:Cx}:MtM X "list.index" rIdx:=by
 intro pins s σ H x vs v us Q I rx rv h;obtain⟨l,ns,k,j,rfl,rfl,hH,hj,q⟩:=h;cases rx;obtain⟨u,rfl,ru⟩:=rv.one;obtain⟨t,rfl⟩:=ru;obtain⟨z,its,n,r,hl,e⟩:=I.lstM hH;obtain⟨e1,e2⟩:=qcv (k:=k) r;rw[hj]at e2;obtain⟨a,b,c⟩:=PySem.W.kf_at_spec e2;refine u7 F.slot_list_index fL F.entry_list_index (F.args_list_index_2 _ _)
  (MeetsSeq.list_index l its.toArray n (.int k t) (PyProof.Rows.isInt k) (λy hy=>PySem.W.kf_eq e1 y ⇑hy) j ⇑a (by have:=W0;omega) ⇑b (λi hi hlt=>(by simpa using c i ⇑hi hlt))) Nw
 exact⟨Bd,H,iL,bz,q⟩
noncomputable def idxD:D->D->Option R
 | .lst ds,.int k=>(intsOf ds).bind λns=>(zCQ k ns).map λ(j:Nat)=>.sh Bd
 | _,_=>none
noncomputable def fIdx(f g:FD):FE:=λω=>(f ω).bind λd=>(g ω).bind λc=>idxD d c
section
variable{X:Cx}{o e:vW}{apos cpos:Pos}{f g:FD}
theorem qgx(ho:XV X o f)(he:XD X e g)(hbase:uU o "index" X.env mJ=eval o X.env:=by rfl)(hfew:((vt cpos mf).all (λx=>!x.1)&&(uX cpos m8).all jL
   && decide (([e]:List vW).length+([]:List uZ).length+(if ([]:List uZ).isEmpty then 0 else 1)<30))=true:=by rfl)
  (hline:gZ=true:=by rfl) (hs:vK [e] X.env=dM::vK [] X.env:=by rfl) (hplain:(vt cpos cG).any (·.1)=false:=by rfl) :
  XE X (.Call (.Attribute o "index" apos) [e] [] cpos) (fIdx f g):=by
 obtain⟨t,h1,h2⟩:=ho;obtain⟨u,h3,h4⟩:=he;refine⟨_,q3O PySem.F.plainAttrs_list PySem.F.slot_list_index PySem.F.type_list_index qg6 h1 (qA h3 qy hs) hbase hfew hline hs hplain,Jf⟩;obtain⟨d,q1,e⟩:=bnd e;obtain⟨c,q2,e⟩:=bnd e;obtain⟨ds,k,rfl,rfl,e⟩:∃ds k,d=.lst ds/\c=.int k/\((intsOf ds).bind λns=>(zCQ k ns).map λ(j:Nat)=>R.sh Bd)=some r:=by
  cases d with
  | lst ds=>
   cases c with
   | int k=>exact⟨ds,k,rfl,rfl,e⟩
   | _=>cases e
  | _=>cases e
 obtain⟨ns,q3,e⟩:=bnd e;obtain⟨j,q4,e⟩:=mpd e;subst e;have hds:=q0C q3;subst hds;refine h2 G0 H0 G ω σ H _ _ ow q1 λv G1 H1 x1 y1=>?_;obtain⟨p,vs,rfl,g1,g2⟩:=y1.lst x1.gh;have hv:=g2.of_ints;subst hv;refine⟨.inl ⟨rfl,_,SqL.of g1⟩,h4 G0 H0 G1 ω σ H1 _ _ Pq q2 λw G2 H2 x2 y2=>?_⟩;cases (show w=.int k from y2);exact⟨p,ns,k,j,rfl,rfl,x2.hh _ _ g1,q4,kk _ G2 H2 ee rfl⟩
end
end Hk
namespace So
open PySem PyProof.Rows
noncomputable def zCu:Bool->vS->Array vS->Nat->Nat->Nat->StateT vc Sem (Option Nat):=sortPriv% PySem.Builtin.gallop
noncomputable def bey(left:Bool)(k:Int)(arr:be)(i:Nat):Bool:=if left=true then decide (K arr i<k)else !decide (k<K arr i)
section
variable{prog:vU}{w:vZ}{A:vf}{E:vB->vC->Prop}{s:vC}
theorem XX{α:Type}{c:Prop}{_:Decidable c}{m n:ac0}{Q:α->vc->Prop}{st:vc}(hc:c)(h:wpS aj A E s m Q st):wpS aj A E s (if c then m else n) Q st:=by rw[vH hc];exact h
theorem XN{α:Type}{c:Prop}{_:Decidable c}{m n:ac0}{Q:α->vc->Prop}{st:vc}(hc:¬c)(h:wpS aj A E s n Q st):wpS aj A E s (if c then m else n) Q st:=by rw[vJ hc];exact h
theorem qaH{arr:be}(h0:UD){i:Nat}(hi:i<arr.size):∃p t q,arr[i]?=some p/\p=(Value.int (K arr i) t,q):=by
 have hm:arr[i]∈arr.toList:=by simp
 obtain⟨n,t,hn⟩:=h0 _ hm;have e:arr[i]?=some arr[i]:=getElem?_pos _ i hi;have e2:arr[i]=(Value.int n t,arr[i].2):=Prod.ext hn rfl;refine⟨_,t,arr[i].2,e,?_⟩;unfold K;rw[e,e2];rfl
theorem zBI{st:vc}{a b:Int}{t u:Tok}{p q:vB}{Q:EY}(hk:k9)(h:Q (some (decide (a<b))) st):wpS aj A E s (lt' (.int a t,p) (.int b u,q)) Q st:=by
 rw[lt'_eq];refine vL oK;rw[hk,keyLt'_oneType];refine vL (tF (uN (oneLt_int QX)));exact vO h
theorem Xa{st:vc}{arr:be}{i:Nat}{p:vS}{Q:vS->vc->Prop}(h:arr[i]?=some p)(hq:Q p st):wpS aj A E s (elem' arr i) Q st:=by
 rw[elem'_eq,h];exact vO hq
theorem Wz{st:vc}{left:Bool}{k:Int}{t:Tok}{q:vB}{arr:be}{i:Nat}{Q:EY}(h0:UD)(hi:i<arr.size)(hk:k9)(h:Q (some (bey left k arr i)) st):
  wpS aj A E s (do let x <- elem' arr i;if left=true then lt' x (.int k t,q)else do let l <- lt' (.int k t,q) x;pure (Option.map (λx=>!x) l)) Q st:=by
 obtain⟨p,u,r,e1,rfl⟩:=qaH h0 hi;refine vL (Xa e1 ?_);cases left with
 | true=>exact zBI hk h
 | false=>exact vL (zBI hk (vO h))
theorem X6{left:Bool}{k:Int}{arr:be}{i j:Nat}(h:K arr i<=K arr j)(hj:bey left k arr j=true):bey left k arr i=true:=by
 unfold bey at *;cases left with
 | true=>simp only[if_true,decide_eq_true_eq]at *;omega
 | false=>simp only[yI,if_false,YR,decide_eq_false_iff_not]at *;omega
theorem X2{left:Bool}{k:Int}{t:Tok}{q:vB}{arr:be}{base n hint:Nat}{st:vc}{Q:mq}(h0:UD)(hk:k9)(hsz:base+n<=arr.size)(hh:hint<n)(hs:∀i j,i<=j->j<n->K arr kF<=K arr (base+j))(h:∀m,m<=n->(∀i,i<m->bey left k arr kF=true)->(∀i,m<=i->i<n->bey left k arr kF=false)->Q Rl st):wpS aj A E s (zCu left (.int k t,q) arr base n hint) Q st:=by
 refine vL jS
 dsimp -zeta only
 cases hr:bey left k arr (base+hint)with
 | true=>
  refine XX rfl ?_;refine vL (uF (vi (I:=λx c st'=>st'=st/\∃lo of,c=IL/\hint+lo<n/\bey left k arr aaN=true/\lo<of/\x+1<=of) (Q:=λc st'=>st'=st/\∃lo of,c=IL/\hint+lo<n/\bey left k arr aaN=true/\lo<of/\(of>=n-hint\/bey left k arr aaM=false)) ?_ ?_ Jz) ?_)
  ·rintro x c st' _ hx ⟨rfl,lo,of,rfl,b1,b2,b3,b4⟩
   dsimp -zeta only
   by_cases z:of>=n-hint
   ·refine XX z ?_
    exact vO HK
   ·refine XN z ?_
    refine vL jS
    dsimp -zeta only
    cases hb:bey left k arr aaM with
    | true=>
     refine XN (by decide) ?_;exact vO Fn
    | false=>
     refine XX (by decide) ?_;exact vO GU
  ·rintro c st' ⟨rfl,lo,of,rfl,b1,b2,b3,b4⟩
   exact GE
  ·rintro c st' ⟨rfl,lo,of,rfl,b1,b2,b3,b4⟩
   dsimp -zeta only
   refine vL (uF (Q:=λc st2=>st2=st'/\∃lo hi,c=IM/\lo<=hi/\hi<=n/\hi-lo<=0/\(∀i,i<lo->bey left k arr kF=true)/\(∀i,hi<=i->i<n->bey left k arr kF=false)) ?_ ?_)
   ·refine vi (I:=λx c st2=>st2=st'/\∃lo hi,c=IM/\lo<=hi/\hi<=n/\hi-lo<=n-x/\(∀i,i<lo->bey left k arr kF=true)/\(∀i,hi<=i->i<n->bey left k arr kF=false)) ?_ ?_ ?_
    ·rintro x c st2 _ hx ⟨e2,lo,hi,rfl,b1,b2,b3,b4,b5⟩
     subst e2
     dsimp -zeta only
     by_cases z:lo>=hi
     ·rw[gz]
      exact vO GV
     ·rw[gc]
      refine vL jS
      dsimp -zeta only
      cases hb:bey left k arr (base+(lo+Vp/2))with
      | true=>
       rw[kT];refine vO Dc;exact X6 (hs _ _ (show i<=lo+Vp/2 by omega) ∅) hb
      | false=>
       rw[vJ (by decide)];refine vO Bq;cases hc:bey left k arr kF with
       | false=>rfl
       | true=>rw[RO]at hb;cases hb
    ·rintro c st2 ⟨e2,lo,hi,rfl,b1,b2,b3,b4,b5⟩
     exact Ip
    refine rN
    ·exact X6 (hs _ _ ∅ b1) b2
    ·rcases b4 with b4|b4
     ·omega
     ·cases hc:bey left k arr kF with
      | false=>rfl
      | true=>rw[X6 (hs (hint+of) i ∅ hin) hc]at b4;cases b4
   ·rintro c st2 ⟨e2,lo,hi,rfl,c1,c2,c3,c4,c5⟩
    subst e2;exact vO IQ
 | false=>
  refine XN (by decide) ?_;refine vL (uF (vi (I:=λx c st'=>st'=st/\∃lo of,c=IL/\lo<=hint/\bey left k arr aaL=false/\lo<of/\x+1<=of) (Q:=λc st'=>st'=st/\∃lo of,c=IL/\lo<=hint/\bey left k arr aaL=false/\lo<of/\(of>=hint+1\/bey left k arr aaK=true)) ?_ ?_ Jz) ?_)
  ·rintro x c st' _ hx ⟨rfl,lo,of,rfl,b1,b2,b3,b4⟩
   dsimp -zeta only
   by_cases z:of>=hint+1
   ·refine XX z ?_
    exact vO HK
   ·refine XN z ?_
    refine vL jS
    dsimp -zeta only
    cases hb:bey left k arr aaK with
    | true=>
     refine XX rfl ?_;exact vO GU
    | false=>
     refine XN (by decide) ?_;exact vO Fn
  ·rintro c st' ⟨rfl,lo,of,rfl,b1,b2,b3,b4⟩
   exact GE
  ·rintro c st' ⟨rfl,lo,of,rfl,b1,b2,b3,b4⟩
   dsimp -zeta only
   refine vL (uF (Q:=λc st2=>st2=st'/\∃lo hi,c=IM/\lo<=hi/\hi<=n/\hi-lo<=0/\(∀i,i<lo->bey left k arr kF=true)/\(∀i,hi<=i->i<n->bey left k arr kF=false)) ?_ ?_)
   ·refine vi (I:=λx c st2=>st2=st'/\∃lo hi,c=IM/\lo<=hi/\hi<=n/\hi-lo<=n-x/\(∀i,i<lo->bey left k arr kF=true)/\(∀i,hi<=i->i<n->bey left k arr kF=false)) ?_ ?_ ?_
    ·rintro x c st2 _ hx ⟨e2,lo,hi,rfl,b1,b2,b3,b4,b5⟩
     subst e2
     dsimp -zeta only
     by_cases z:lo>=hi
     ·rw[gz]
      exact vO GV
     ·rw[gc]
      refine vL jS
      dsimp -zeta only
      cases hb:bey left k arr (base+(lo+Vp/2))with
      | true=>
       rw[kT];refine vO Dc;exact X6 (hs _ _ (show i<=lo+Vp/2 by omega) ∅) hb
      | false=>
       rw[vJ (by decide)];refine vO Bq;cases hc:bey left k arr kF with
       | false=>rfl
       | true=>rw[RO]at hb;cases hb
    ·rintro c st2 ⟨e2,lo,hi,rfl,b1,b2,b3,b4,b5⟩
     exact Ip
    refine rN
    ·rcases b4 with b4|b4
     ·omega
     ·exact X6 (hs _ _ ∅ ∅) b4
    ·cases hc:bey left k arr kF with
     | false=>rfl
     | true=>rw[X6 (hs (hint-lo) i ∅ hin) hc]at b2;cases b2
   ·rintro c st2 ⟨e2,lo,hi,rfl,c1,c2,c3,c4,c5⟩
    subst e2;exact vO IQ
end
noncomputable def ke(p:vS):Int:=sH p.1
abbrev Le(x y:vS):Prop:=ke x<=ke y
abbrev Srt(l:dh):Prop:=l.Pairwise Le
structure Mg (al bl out:List vS) (i j:Nat):Prop where
 perm:(out++(al.drop i++bl.drop j)).Perm (al++bl)
 srt:Srt out
 lea:∀x∈out,∀y∈al.drop i,Le x y
 leb:∀x∈out,∀y∈bl.drop j,Le x y
structure Done (al bl r:List vS):Prop where
 perm:r.Perm (al++bl)
 srt:Srt r
variable{al bl out:List vS}{i j:Nat}
theorem Xz(h:O1)(k:Nat):Srt (al.drop k):=h.sublist (YJ k al)
theorem zA9(l:dh)(i k:Nat):l.drop i=(l.drop i).take k++l.drop (i+k):=by
 rw[<- ZB,yG]
theorem Mg.a(m:CU)(sa:O1)(k:Nat)(h:∀x∈(al.drop i).take k,∀y∈bl.drop j,Le x y):Mg al bl (out++(al.drop i).take k) (i+k) j:=by
 have e:=zA9 al i k;have sd:Srt ((al.drop i).take k++al.drop (i+k)):=by rw[<- e];exact Xz sa i
 obtain⟨s1,s2,s3⟩:=za.mp sd;have hin:∀y∈(al.drop i).take k,y∈al.drop i:=λy hy=>xu hy;have hout:∀y∈al.drop (i+k),y∈al.drop i:=λy hy=>by rw[e];exact zT _ hy
 refine BQ
 ·have:out++(al.drop i).take k++(al.drop (i+k)++bl.drop j)=out++(al.drop i++bl.drop j):=by
   rw[zO,<- zO ((al.drop i).take k),<- e]
  rw[this];exact m.perm
 ·exact za.mpr ⟨m.srt,s1,λx hx y hy=>m.lea x hx y (hin y hy)⟩
 ·rcases zJ.mp hx with hx|hx
  ·exact m.lea x hx y (hout y hy)
  ·exact s3 x hx y hy
 ·rcases zJ.mp hx with hx|hx
  ·exact m.leb x hx y hy
  ·exact h x hx y hy
theorem Mg.b(m:CU)(sb:ST)(k:Nat)(h:∀x∈(bl.drop j).take k,∀y∈al.drop i,Le x y):Mg al bl (out++(bl.drop j).take k) i (j+k):=by
 have e:=zA9 bl j k;have sd:Srt ((bl.drop j).take k++bl.drop (j+k)):=by rw[<- e];exact Xz sb j
 obtain⟨s1,s2,s3⟩:=za.mp sd;have hin:∀y∈(bl.drop j).take k,y∈bl.drop j:=λy hy=>xu hy;have hout:∀y∈bl.drop (j+k),y∈bl.drop j:=λy hy=>by rw[e];exact zT _ hy
 refine BQ
 ·refine xC ?_ m.perm
  rw[zO];refine yW out ?_;refine xC ?_ (yW (al.drop i) (List.Perm.of_eq e.symm));rw[<- zO,<- zO];exact xB _ yq
 ·exact za.mpr ⟨m.srt,s1,λx hx y hy=>m.leb x hx y (hin y hy)⟩
 ·rcases zJ.mp hx with hx|hx
  ·exact m.lea x hx y hy
  ·exact h x hx y hy
 ·rcases zJ.mp hx with hx|hx
  ·exact m.leb x hx y (hout y hy)
  ·exact s3 x hx y hy
theorem Mg.done(m:CU)(sa:O1)(sb:ST)(h:∀x∈al.drop i,∀y∈bl.drop j,Le x y):Done al bl (out++al.drop i++bl.drop j):=by
 refine⟨by rw[zO];exact m.perm,?_⟩;rw[zO];exact za.mpr ⟨m.srt,za.mpr ⟨Xz sa i,Xz sb j,h⟩,λx hx y hy=>(zJ.mp hy).elim acJ acI⟩
theorem Mg.last(m:CU)(sa:O1)(sb:ST)(h:∀y∈bl.drop j,∀x∈al.drop i,Le y x):Done al bl (out++bl.drop j++al.drop i):=by
 refine Tk
 ·rw[zO]
  exact(yW out yq).trans m.perm
 ·rw[zO]
  exact za.mpr ⟨m.srt,za.mpr ⟨Xz sb j,Xz sa i,h⟩,λx hx y hy=>(zJ.mp hy).elim acI acJ⟩
noncomputable def zCE:Array vS->Array vS->StateT vc Sem be:=sortPriv% PySem.Builtin.mergeLo
structure Kp (st st':vc):Prop where
 kind:kindOf st'=kindOf st
 arr:vN st'=vN st
 pend:ve st'=ve st
 fail:uT st'=uT st
theorem Kp.refl(st:vc):Kp st st:=lI
theorem zB6{xs:be}{i:Nat}{p:vS}(h:xs[i]?=some p):K xs i=ke p:=by unfold K ke;rw[h]
theorem drop_one{xs:be}{i:Nat}{p:vS}(h:xs[i]?=some p):xs.toList.drop i=p::xs.toList.drop (i+1):=by
 obtain⟨hi,e⟩:=ZD.mp h;rw[xF ⇑hi]
 congr 1
theorem zAN{xs:be}{i:Nat}:(xs.extract i xs.size).toList=xs.toList.drop i:=by
 rw[xq,wH];exact yv (by simp)
theorem zA4{xs:be}{i k:Nat}:(xs.extract i (i+k)).toList=(xs.toList.drop i).take k:=by
 simp[xq,List.extract_eq_drop_take]
theorem Wq{l:dh}(s:Srt l){i:Nat}{p:vS}{t:dh}(h:l.drop i=p::t):∀y∈l.drop i,Le p y:=by
 have:=Xz s i;rw[h]at this ⊢;intro y hy;rcases zF.mp hy with rfl|hy
 ·exact zi _
 ·exact(zQ.mp this).1 y hy
theorem zBJ{xs:be}{i:Nat}(h:xs.size<=i):xs.toList.drop i=[]:=List.drop_eq_nil_of_le ⇑h
theorem Mg.b1{a b out:be}{i j:Nat}{p q:vS}(m:fJ)(sa:jh)(sb:jg)(hp:b[j]?=some p)(hq:a[i]?=some q)(h:Le p q):Mg a.toList b.toList (out.push p).toList i (j+1):=by
 have e:=drop_one hp;have:=m.b sb 1 (by
  rw[e];intro x hx y hy;have:x=p:=by simpa using hx
  subst this;exact yg h (Wq sa (drop_one hq) y hy))
 rw[e]at this;simpa using this
theorem Mg.a1{a b out:be}{i j:Nat}{p q:vS}(m:fJ)(sa:jh)(sb:jg)(hp:a[i]?=some p)(hq:b[j]?=some q)(h:Le p q):Mg a.toList b.toList (out.push p).toList (i+1) j:=by
 have e:=drop_one hp;have:=m.a sa 1 (by
  rw[e];intro x hx y hy;have:x=p:=by simpa using hx
  subst this;exact yg h (Wq sb (drop_one hq) y hy))
 rw[e]at this;simpa using this
theorem Mg.dB{a b out:be}{i j:Nat}(m:fJ)(sa:jh)(sb:jg)(h:b.size<=j):Done a.toList b.toList (out++a.extract i a.size++b.extract j b.size).toList:=by
 have:=m.done sa sb (λx _ y hy=>by rw[zBJ h]at hy;cases hy);rw[yO,yO,zAN,zAN];exact this
theorem Mg.dA{a b out:be}{i j:Nat}(m:fJ)(sa:jh)(sb:jg)(h:a.size<=i):Done a.toList b.toList (out++a.extract i a.size++b.extract j b.size).toList:=by
 have:=m.done sa sb (λx hx=>by rw[zBJ h]at hx;cases hx);rw[yO,yO,zAN,zAN];exact this
theorem Mg.dL{a b out:be}{i j:Nat}(m:fJ)(sa:jh)(sb:jg)(hl:∀y∈b.toList,∀x∈a.toList.drop (a.size-1),Le y x)(h:i+1=a.size):Done a.toList b.toList (out++b.extract j b.size++a.extract i a.size).toList:=by
 have:=m.last sa sb (λy hy x hx=>hl y (xP hy) x (by rw[show a.size-1=i by omega];exact hx));rw[yO,yO,zAN,zAN];exact this
end So
set_option maxHeartbeats 1000000
namespace So
open PySem PyProof.Rows
section
variable{prog:vU}{w:vZ}{A:vf}{E:vB->vC->Prop}{s:vC}
theorem Xn{xs:be}{i:Nat}(h0:IntKeys xs)(h:i<xs.size):∃t q,xs[i]?=some (Value.int (K xs i) t,q):=by
 obtain⟨p,t,q,e,rfl⟩:=qaH h0 h;exact⟨t,q,e⟩
theorem zBi{xs:be}(hs:Srt xs.toList){i j:Nat}(h1:i<=j)(h2:j<xs.size):K xs i<=K xs j:=by
 have e1:xs[i]?=some xs[i]:=getElem?_pos _ i ∅;have e2:xs[j]?=some xs[j]:=getElem?_pos _ j h2;rw[zB6 e1,zB6 e2];rcases zw i j with z|z
 ·exact yb.mp hs i j (by simp;omega) ⇑h2 z
 ·have:i=j:=∅
  subst this;exact zi _
noncomputable def zCx:Nat->StateT vc Sem Unit:=sortPriv% PySem.Builtin.setMinGallop
theorem Kp.trans{a b c:vc}(h:Kp a b)(h':Kp b c):Kp a c:=⟨Ub,h'.arr.trans h.arr,Ua,Uc⟩
theorem WP{g:Nat}{st:vc}{Q:Gi}(h:∀st',Kp st st'->Q () st'):wpS aj A E s (zCx g) Q st:=ud (h _ lI)
theorem zA8{xs:be}{i k:Nat}{v:Int}(h:∀t,t<k->i+t<xs.size->K xs (i+t)<=v):∀x∈(xs.toList.drop i).take k,ke x<=v:=by
 intro x hx;obtain⟨t,ht,e⟩:=zh.mp hx;rw[xS,xr]at e;rw[ze,yM]at ht;have hl:i+t<xs.size:=by simp at ht;omega
 have e2:xs[i+t]?=some x:=by rw[getElem?_pos xs (i+t) hl,<- e];rfl
 have:=h t ∅ hl;rw[zB6 e2]at this;exact this
theorem zAk{k:Int}{xs:be}{i:Nat}:(bey false k xs i=true->K xs i<=k)/\(bey false k xs i=false->k<K xs i):=by
 unfold bey;simp only[yI,if_false,YR,decide_eq_false_iff_not,Bool.not_eq_false',decide_eq_true_eq];exact⟨λh=>∅,id⟩
theorem zAh{k:Int}{xs:be}{i:Nat}:(bey true k xs i=true->K xs i<k)/\(bey true k xs i=false->k<=K xs i):=by
 unfold bey;simp only[if_true,decide_eq_true_eq,decide_eq_false_iff_not];exact⟨id,λh=>∅⟩
theorem zAw{a b:be}{st:vc}{Q:aa1}(ha:IntKeys a)(hb:IntKeys b)(sa:jh)(sb:jg)(na:1<=a.size)(nb:1<=b.size)(h1:K b 0<=K a 0)(hl:∀y∈b.toList,∀x∈a.toList.drop (a.size-1),Le y x)(hk:k9)(h:∀r st',Done a.toList b.toList r.toList->Kp st st'->Q r st'):wpS aj A E s (zCE a b) Q st:=by
 refine vL ff;obtain⟨t0,q0,eb0⟩:=Xn hb (show 0<b.size by omega);obtain⟨u0,r0,ea0⟩:=Xn ha (show 0<a.size by omega);refine vL (Xa eb0 ?_);have m0:Mg a.toList b.toList (#[]:Array vS).toList 0 0:=⟨by simp,xQ,λx hx=>by simp at hx,λx hx=>by simp at hx⟩;have m1:=m0.b1 sa sb eb0 ea0 (show K b 0<=K a 0 from h1);have m1:Mg a.toList b.toList (#[(Value.int (K b 0) t0,q0)]:Array vS).toList 0 1:=m1
 dsimp -zeta only
 by_cases z1:b.size=1
 ·refine XX (by rw[z1];rfl) ?_
  exact vO (h _ st (m1.dB sa sb ∅) Bo)
 refine XN (by simp;omega) ?_
 by_cases z2:a.size=1
 ·refine XX (by rw[z2];rfl) ?_
  exact vO (h _ st (m1.dL sa sb hl ∅) Bo)
 refine XN (by simp;omega) ?_;refine vL oK;refine vL (uF (vi
  (I:=λx c st'=>∃o i j g,c=(none,o,i,j,g)/\Mg a.toList b.toList o.toList i j/\i+1<a.size/\j<b.size/\x+1<=i+j/\Kp st st')
  (Q:=λc st'=>∃r z,c=Dj/\Done a.toList b.toList r.toList/\Kp st st') ?_ ?_ ⟨_,_,_,_,rfl,m1,∅,∅,∅,Bo⟩) ?_)
 ·rintro x c st1 _ hx ⟨o,i,j,g,rfl,m,b1,b2,b3,kp⟩
  dsimp -zeta only
  refine vL (uF (vi
   (I:=λy c st'=>∃o' i' j' ac bc,c=Qq/\Mg a.toList b.toList o'.toList i' j'/\i'+1<a.size/\j'<b.size/\i+j+y<=i'+j'/\Kp st st')
   (Q:=λc st'=>(∃r z,c=Dj/\Done a.toList b.toList r.toList/\Kp st st')\/∃o' i' j' ac bc,c=Qq/\Mg a.toList b.toList o'.toList i' j'/\i'+1<a.size/\j'<b.size/\i+j+1<=i'+j'/\Kp st st') ?_ ?_ ⟨_,_,_,_,_,rfl,m,b1,b2,∅,kp⟩) ?_)
  ·rintro y c st2 _ hy ⟨o',i',j',ac,bc,rfl,m',d1,d2,d3,kp'⟩
   dsimp -zeta only
   obtain⟨t1,q1,eb⟩:=Xn hb d2;obtain⟨u1,r1,ea⟩:=Xn ha (show i'<a.size by omega);have hk':kindOf st2=uG:=kp'.kind.trans hk;refine vL EQ
   dsimp -zeta only
   by_cases hw:K b j'<K a i'
   ·refine XX (vT hw) ?_
    have m2:=m'.b1 sa sb eb ea (show K b j'<=K a i' by omega);refine vL Dv
    by_cases z:j'+1=b.size
    ·refine XX (by rw[z];exact beq_self_eq_true _) ?_
     exact vO (.inl ⟨_,_,rfl,m2.dB sa sb ∅,kp'⟩)
    ·refine XN ⇑z ?_
     split
     ·exact vO (.inr GG)
     ·exact vO GG
   ·refine XN (λh=>hw hV) ?_
    have m2:=m'.a1 sa sb ea eb (show K a i'<=K b j' by omega);refine vL (Xa ea ?_)
    by_cases z:i'+1+1=a.size
    ·refine XX (by rw[z];exact beq_self_eq_true _) ?_
     exact vO (.inl ⟨_,_,rfl,m2.dL sa sb hl z,kp'⟩)
    ·refine XN ⇑z ?_
     split
     ·exact vO (.inr GF)
     ·exact vO GF
  ·rintro c st2 ⟨o',i',j',ac,bc,rfl,m',d1,d2,d3,kp'⟩
   omega
  ·rintro c st2 (⟨r,z,rfl,dn,kp'⟩|⟨o',i',j',ac,bc,rfl,m',d1,d2,d3,kp'⟩)
   ·exact vO Tf
   ·dsimp -zeta only
    refine vL ff;refine vL (uF (vi
     (I:=λy c st'=>∃o2 i2 j2 g2 ac bc,c=NT/\Mg a.toList b.toList o2.toList i2 j2/\i2+1<a.size/\j2<b.size/\i'+j'+y<=i2+j2/\Kp st st')
     (Q:=λc st'=>(∃r z,c=Dj/\Done a.toList b.toList r.toList/\Kp st st')\/∃o2 i2 j2 g2 ac bc,c=NT/\Mg a.toList b.toList o2.toList i2 j2/\i2+1<a.size/\j2<b.size/\i'+j'<=i2+j2/\Kp st st') ?_ ?_ ⟨_,_,_,_,_,_,rfl,m',d1,d2,∅,kp'⟩) ?_)
    ·rintro y c st3 _ hy ⟨o2,i2,j2,g2,ac2,bc2,rfl,m2,e1,e2,e3,kp3⟩
     dsimp -zeta only
     obtain⟨t2,q2,eb⟩:=Xn hb e2;obtain⟨u2,r2,ea⟩:=Xn ha (show i2<a.size by omega);refine' (λ(key:∀gg,(_:Nat->Prop) gg)=>_) _
     rotate_left
     ·by_cases hg:g2>1
      ·refine XX hg ?_
       generalize g2-1=gg;exact key gg
      ·refine XN hg ?_
       exact key g2
     ·intro gg
      refine vL Az;replace kp4:=kp3.trans kp4;have hk4:kindOf st4=uG:=kp4.kind.trans hk;refine vL Dv;refine vL (X2 (k:=K b j2) ha hk4 ∅ ∅ Kd λk g1 g2 g3=>?_)
      dsimp -zeta only
      refine' (λ(key:∀(oA:be)(iA:Nat),Mg a.toList b.toList oA.toList iA j2->iA+1<a.size->K b j2<=K a iA->i2<=iA->(_:Array vS->Nat->Prop) oA iA)=>_) _
      rotate_left
      ·by_cases hk0:k>0
       ·refine XX hk0 ?_
        have mA:=m2.a sa k (λx hx y hy=>yg (zA8 (v:=K b j2) (λt h1 h2=>zAk.1 (g2 t h1)) x hx) (Wq sb (drop_one eb) y hy));have mA:Mg a.toList b.toList (o2++a.extract i2 (i2+k)).toList (i2+k) j2:=by rw[yO,zA4];exact mA
        by_cases z:i2+k+1=a.size
        ·refine XX (by rw[z];exact beq_self_eq_true _) ?_
         exact vO (.inl ⟨_,_,rfl,mA.dL sa sb hl z,kp4⟩)
        refine XN ⇑z ?_
        by_cases z':i2+k=a.size
        ·refine XX (by rw[z'];exact beq_self_eq_true _) ?_
         exact vO (.inl ⟨_,_,rfl,mA.dA sa sb ∅,kp4⟩)
        refine XN ⇑z' ?_;have i1:i2+k+1<a.size:=∅
        have hlt:K b j2<=K a (i2+k):=yh (zAk.2 (g3 k bM ∅));have le1:i2<=i2+k:=∅
        generalize o2++a.extract i2 (i2+k)=oA at mA ⊢;generalize i2+k=iA at mA i1 hlt le1 ⊢;exact key _ _ mA i1 hlt le1
       ·refine XN hk0 ?_
        have mA:=m2;have i1:i2+1<a.size:=e1;have hlt:K b j2<=K a i2:=yh (zAk.2 (g3 0 ∅ ∅));generalize o2=oA at mA ⊢;generalize hiA:i2=iA at mA i1 hlt ⊢;have le1:i2<=iA:=∅
        exact key _ _ mA i1 hlt le1
      ·intro oA iA mA i1 hlt le1
       obtain⟨u3,r3,eA⟩:=Xn ha (show iA<a.size by omega);have mB:=mA.b1 sa sb eb eA hlt;refine vL Dv
       by_cases z3:j2+1=b.size
       ·refine XX (by rw[z3];exact beq_self_eq_true _) ?_
        exact vO (.inl ⟨_,_,rfl,mB.dB sa sb ∅,kp4⟩)
       refine XN ⇑z3 ?_;refine vL MK;refine vL (X2 (k:=K a iA) hb hk4 ∅ ∅ Kc λk2 p1 p2 p3=>?_)
       dsimp -zeta only
       refine' (λ(key2:∀(oB:be)(jB:Nat),Mg a.toList b.toList oB.toList iA jB->jB<b.size->K a iA<=K b jB->j2+1<=jB->(_:Array vS->Nat->Prop) oB jB)=>_) _
       rotate_left
       ·by_cases hk2:k2>0
        ·refine XX hk2 ?_
         have mC:=mB.b sb k2 (λx hx y hy=>yg (zA8 (v:=K a iA) (λt h1 h2=>yh (zAh.1 (p2 t h1))) x hx) (Wq sa (drop_one eA) y hy));rw[<- zA4,<- yO]at mC
         by_cases z4:j2+1+k2=b.size
         ·refine XX (by rw[z4];exact beq_self_eq_true _) ?_
          exact vO (.inl ⟨_,_,rfl,mC.dB sa sb ∅,kp4⟩)
         refine XN ⇑z4 ?_;have j1:j2+1+k2<b.size:=∅
         have hle:K a iA<=K b (j2+1+k2):=zAh.2 (p3 k2 bM ∅);have le2:j2+1<=j2+1+k2:=∅
         generalize oA.push MS++b.extract (j2+1) (j2+1+k2)=oB at mC ⊢;generalize j2+1+k2=jB at mC j1 hle le2 ⊢;exact key2 _ _ mC j1 hle le2
        ·refine XN hk2 ?_
         have mC:=mB;have j1:j2+1<b.size:=∅
         have hle:K a iA<=K b (j2+1):=zAh.2 (p3 0 ∅ ∅);generalize oA.push MS=oB at mC ⊢;generalize hjB:j2+1=jB at mC j1 hle ⊢;have le2:j2+1<=jB:=∅
         exact key2 _ _ mC j1 hle le2
       ·intro oB jB mC j1 hle le2
        obtain⟨t5,q5,eB⟩:=Xn hb j1;have mD:=mC.a1 sa sb eA eB hle;refine vL MK
        by_cases z5:iA+1+1=a.size
        ·refine XX (by rw[z5];exact beq_self_eq_true _) ?_
         exact vO (.inl ⟨_,_,rfl,mD.dL sa sb hl z5,kp4⟩)
        refine XN ⇑z5 ?_
        by_cases z6:(decide (k<7)&&decide (k2<7))=true
        ·refine XX z6 ?_
         exact vO (.inr E9)
        ·refine XN z6 ?_
         exact vO E9
    ·rintro c st3 ⟨o2,i2,j2,g2,ac2,bc2,rfl,m2,e1,e2,e3,kp3⟩
     omega
    ·rintro c st3 (⟨r,z,rfl,dn,kp3⟩|⟨o2,i2,j2,g2,ac2,bc2,rfl,m2,e1,e2,e3,kp3⟩)
     ·exact vO Te
     ·dsimp -zeta only
      refine vL Az;exact vO ⟨_,_,_,_,rfl,m2,e1,e2,∅,kp3.trans kp4⟩
 ·rintro c st1 ⟨o,i,j,g,rfl,m,b1,b2,b3,kp⟩
  omega
 ·rintro c st1 ⟨r,z,rfl,dn,kp⟩
  exact vO abz
end
end So
set_option maxHeartbeats 1000000
namespace So
open PySem PyProof.Rows
structure Mh (al bl out:List vS) (i j:Nat):Prop where
 perm:(al.take i++(bl.take j++out.reverse)).Perm (al++bl)
 srt:Srt out.reverse
 lea:∀x∈al.take i,∀y∈out,Le x y
 leb:∀x∈bl.take j,∀y∈out,Le x y
theorem Xy{l:dh}(h:Srt l)(k:Nat):Srt (l.take k):=h.sublist (ZJ k l)
theorem zBv(l:dh){i k:Nat}(h:k<=i):l.take i=l.take k++(l.take i).drop k:=by
 have:=(yG k (l.take i)).symm;rw[wU,wo h]at this;exact this
variable{al bl out:List vS}{i j:Nat}
theorem Mh.a(m:CT)(sa:O1){k:Nat}(hk:k<=i)(h:∀x∈bl.take j,∀y∈(al.take i).drop k,Le x y):Mh al bl (out++((al.take i).drop k).reverse) k j:=by
 have e:=zBv al hk;have sd:Srt (al.take k++(al.take i).drop k):=by rw[<- e];exact Xy sa i
 obtain⟨s1,s2,s3⟩:=za.mp sd;refine BQ
 ·rw[xZ,xO]
  refine xC ?_ m.perm;have e2:al.take i++N5=al.take k++((al.take i).drop k++N5):=by rw[<- zO (al.take k),<- e]
  rw[e2];refine yW _ ?_;rw[<- zO,<- zO];exact xB _ yq
 ·rw[xZ,xO]
  exact za.mpr ⟨s2,m.srt,λx hx y hy=>m.lea x (xP hx) y me⟩
 ·rcases zJ.mp hy with hy|hy
  ·exact m.lea x (by rw[e];exact zX _ hx) y hy
  ·exact s3 x hx y me
 ·rcases zJ.mp hy with hy|hy
  ·exact m.leb x hx y hy
  ·exact h x hx y me
theorem Mh.b(m:CT)(sb:ST){k:Nat}(hk:k<=j)(h:∀x∈al.take i,∀y∈(bl.take j).drop k,Le x y):Mh al bl (out++((bl.take j).drop k).reverse) i k:=by
 have e:=zBv bl hk;have sd:Srt (bl.take k++(bl.take j).drop k):=by rw[<- e];exact Xy sb j
 obtain⟨s1,s2,s3⟩:=za.mp sd;refine BQ
 ·rw[xZ,xO]
  have e2:bl.take k++((bl.take j).drop k++out.reverse)=bl.take j++out.reverse:=by rw[<- zO (bl.take k),<- e]
  rw[e2];exact m.perm
 ·rw[xZ,xO]
  exact za.mpr ⟨s2,m.srt,λx hx y hy=>m.leb x (xP hx) y me⟩
 ·rcases zJ.mp hy with hy|hy
  ·exact m.lea x hx y hy
  ·exact h x hx y me
 ·rcases zJ.mp hy with hy|hy
  ·exact m.leb x (by rw[e];exact zX _ hx) y hy
  ·exact s3 x hx y me
theorem Mh.done(m:CT)(sa:O1)(sb:ST)(h:∀x∈al.take i,∀y∈bl.take j,Le x y):Done al bl (al.take i++bl.take j++out.reverse):=by
 refine⟨by rw[zO];exact m.perm,?_⟩;refine za.mpr ⟨za.mpr ⟨Xy sa i,Xy sb j,h⟩,m.srt,e8⟩;exact(zJ.mp hx).elim OD OC
theorem Mh.first(m:CT)(sa:O1)(sb:ST)(h:∀y∈bl.take j,∀x∈al.take i,Le y x):Done al bl (bl.take j++al.take i++out.reverse):=by
 refine Tk
 ·refine xC ?_ m.perm
  rw[<- zO];exact xB _ yq
 ·refine za.mpr ⟨za.mpr ⟨Xy sb j,Xy sa i,h⟩,m.srt,e8⟩
  exact(zJ.mp hx).elim OC OD
theorem q2o{xs:be}{i:Nat}{p:vS}(h:xs[i]?=some p):(xs.toList.take (i+1)).drop i=[p]:=by
 obtain⟨hi,e⟩:=ZD.mp h;rw[ZA,xF ⇑hi];simp[e]
theorem Wp{xs:be}(s:Srt xs.toList){i:Nat}{p:vS}(h:xs[i]?=some p):∀y∈xs.toList.take (i+1),Le y p:=by
 have sd:=Xy s (i+1);have e:=zBv xs.toList (show i<=i+1 by omega);rw[q2o h]at e;rw[e]at sd ⊢;intro y hy;rcases zJ.mp hy with hy|hy
 ·exact(za.mp sd).2.2 y hy p (by simp)
 ·have:y=p:=by simpa using hy
  rw[this];exact zi _
theorem Mh.a1{a b out:be}{i j:Nat}{p q:vS}(m:DA)(sa:jh)(sb:jg)(hp:a[i]?=some p)(hq:b[j]?=some q)(h:Le q p):Mh a.toList b.toList (out.push p).toList i (j+1):=by
 have:=m.a sa (k:=i) ∅ (by
  rw[q2o hp];intro x hx y hy;have:y=p:=by simpa using hy
  subst this;exact yg (Wp sb hq x hx) h)
 rw[q2o hp]at this;simpa using this
theorem Mh.b1{a b out:be}{i j:Nat}{p q:vS}(m:DA)(sa:jh)(sb:jg)(hp:b[j]?=some p)(hq:a[i]?=some q)(h:Le q p):Mh a.toList b.toList (out.push p).toList (i+1) j:=by
 have:=m.b sb (k:=j) ∅ (by
  rw[q2o hp];intro x hx y hy;have:y=p:=by simpa using hy
  subst this;exact yg (Wp sa hq x hx) h)
 rw[q2o hp]at this;simpa using this
theorem zCS{xs:be}{i:Nat}:(xs.extract 0 i).toList=xs.toList.take i:=by
 rw[xq,wH];simp
theorem zA0{xs:be}{i k:Nat}:(xs.extract k i).toList=(xs.toList.take i).drop k:=by
 rw[xq,wH,ZA]
theorem Mh.d0{a b out:be}{i j:Nat}(m:Ig)(sa:jh)(sb:jg)(h:i=0\/j=0):Done a.toList b.toList (a.extract 0 i++b.extract 0 j++out.reverse).toList:=by
 have:=m.done sa sb (λx hx y hy=>by
  rcases h with rfl|rfl
  ·simp at hx
  ·simp at hy)
 rw[yO,yO,zCS,zCS,wB];exact this
theorem Mh.dF{a b out:be}{i j:Nat}(m:Ig)(sa:jh)(sb:jg)(hf:∀y∈b.toList.take 1,∀x∈a.toList,Le y x)(h:j=1):Done a.toList b.toList (b.extract 0 j++a.extract 0 i++out.reverse).toList:=by
 have:=m.first sa sb (λy hy x hx=>hf y (by rw[h]at hy;exact hy) x (xu hx))
 rw[yO,yO,zCS,zCS,wB];exact this
end So
set_option maxHeartbeats 1000000
namespace So
open PySem PyProof.Rows
noncomputable def zCA:Array vS->Array vS->StateT vc Sem be:=sortPriv% PySem.Builtin.mergeHi
section
variable{prog:vU}{w:vZ}{A:vf}{E:vB->vC->Prop}{s:vC}
theorem zBB{xs:be}{i k:Nat}{v:Int}(h:∀t,k<=t->t<i->v<=K xs t):∀x∈(xs.toList.take i).drop k,v<=ke x:=by
 intro x hx;obtain⟨t,ht,e⟩:=zh.mp hx;rw[xr,xS]at e;rw[yM,ze]at ht;have hl:k+t<xs.size:=by simp at ht;omega
 have e2:xs[k+t]?=some x:=by rw[getElem?_pos xs (k+t) hl,<- e];rfl
 have:=h (k+t) ∅ ∅;rw[zB6 e2]at this;exact this
theorem zAz{a b:be}{st:vc}{Q:aa1}(ha:IntKeys a)(hb:IntKeys b)(sa:jh)(sb:jg)(na:1<=a.size)(nb:1<=b.size)(h1:K b (b.size-1)<=K a My)(hf:∀y∈b.toList.take 1,∀x∈a.toList,Le y x)(hk:k9)(h:∀r st',Done a.toList b.toList r.toList->Kp st st'->Q r st'):wpS aj A E s (zCA a b) Q st:=by
 refine vL ff;obtain⟨t0,q0,ea0⟩:=Xn ha (show a.size-1<a.size by omega);obtain⟨u0,r0,eb0⟩:=Xn hb (show b.size-1<b.size by omega);refine vL (Xa ea0 ?_);have m0:Mh a.toList b.toList (#[]:Array vS).toList (a.size-1+1) (b.size-1+1):=by
  rw[show a.size-1+1=a.size by omega,show b.size-1+1=b.size by omega];refine⟨?_,xQ,λx _ y hy=>by simp at hy,λx _ y hy=>by simp at hy⟩;rw[yv (by simp),yv (by simp)];simp
 have m1:=m0.a1 sa sb ea0 eb0 (show K b (b.size-1)<=K a My from h1);rw[show b.size-1+1=b.size by omega]at m1;have m1:Mh a.toList b.toList (#[(Value.int (K a My) t0,q0)]:Array vS).toList My b.size:=m1
 dsimp -zeta only
 by_cases z1:a.size-1=0
 ·refine XX (by rw[z1];rfl) ?_
  exact vO (h _ st (m1.d0 sa sb (.inl z1)) Bo)
 refine XN ⇑z1 ?_
 by_cases z2:b.size=1
 ·refine XX (by rw[z2];rfl) ?_
  exact vO (h _ st (m1.dF sa sb hf z2) Bo)
 refine XN ⇑z2 ?_;refine vL oK;refine vL (uF (vi
  (I:=λx c st'=>∃o i j g,c=(none,i,j,o,g)/\Mh a.toList b.toList o.toList i j/\1<=i/\2<=j/\i<=a.size/\j<=b.size/\x+1+i+j<=a.size+b.size/\Kp st st')
  (Q:=λc st'=>∃r z,c=Dj/\Done a.toList b.toList r.toList/\Kp st st') ?_ ?_ ⟨_,_,_,_,rfl,m1,∅,∅,∅,∅,∅,Bo⟩) ?_)
 ·rintro x c st1 _ hx ⟨o,i,j,g,rfl,m,b1,b2,b3,b4,b5,kp⟩
  dsimp -zeta only
  refine vL (uF (vi
   (I:=λy c st'=>∃o' i' j' ac bc,c=Qr/\Mh a.toList b.toList o'.toList i' j'/\1<=i'/\2<=j'/\i'<=a.size/\j'<=b.size/\y+i'+j'<=i+j/\Kp st st')
   (Q:=λc st'=>(∃r z,c=Dj/\Done a.toList b.toList r.toList/\Kp st st')\/∃o' i' j' ac bc,c=Qr/\Mh a.toList b.toList o'.toList i' j'/\1<=i'/\2<=j'/\i'<=a.size/\j'<=b.size/\1+i'+j'<=i+j/\Kp st st') ?_ ?_ ⟨_,_,_,_,_,rfl,m,b1,b2,b3,b4,∅,kp⟩) ?_)
  ·rintro y c st2 _ hy ⟨o',i',j',ac,bc,rfl,m',c1,c2,c3,c4,c5,kp'⟩
   dsimp -zeta only
   obtain⟨i',rfl⟩:∃n,i'=n+1:=⟨i'-1,∅⟩;obtain⟨j',rfl⟩:∃n,j'=n+1:=⟨j'-1,∅⟩;obtain⟨t1,q1,eb⟩:=Xn hb (show j'<b.size by omega);obtain⟨u1,r1,ea⟩:=Xn ha (show i'<a.size by omega);have hk':kindOf st2=uG:=kp'.kind.trans hk;refine vL EQ
   dsimp -zeta only
   by_cases hw:K b j'<K a i'
   ·refine XX (vT hw) ?_
    have m2:=m'.a1 sa sb ea eb (show K b j'<=K a i' by omega);refine vL (Xa ea ?_)
    by_cases z:i'=0
    ·refine XX (by rw[z];rfl) ?_
     exact vO (.inl ⟨_,_,rfl,m2.d0 sa sb PY,kp'⟩)
    ·refine XN ⇑z ?_
     split
     ·exact vO (.inr fH)
     ·exact vO fH
   ·refine XN (λh=>hw hV) ?_
    have m2:=m'.b1 sa sb eb ea (show K a i'<=K b j' by omega);refine vL Dv
    by_cases z:j'=1
    ·refine XX (by rw[z];rfl) ?_
     exact vO (.inl ⟨_,_,rfl,m2.dF sa sb hf z,kp'⟩)
    ·refine XN ⇑z ?_
     split
     ·exact vO (.inr fH)
     ·exact vO fH
  ·rintro c st2 ⟨o',i',j',ac,bc,rfl,m',c1,c2,c3,c4,c5,kp'⟩
   omega
  ·rintro c st2 (⟨r,z,rfl,dn,kp'⟩|⟨o',i',j',ac,bc,rfl,m',c1,c2,c3,c4,c5,kp'⟩)
   ·exact vO Tf
   ·dsimp -zeta only
    refine vL ff;refine vL (uF (vi
     (I:=λy c st'=>∃o2 i2 j2 g2 ac bc,c=NU/\Mh a.toList b.toList o2.toList i2 j2/\1<=i2/\2<=j2/\i2<=a.size/\j2<=b.size/\y+i2+j2<=i'+j'/\Kp st st')
     (Q:=λc st'=>(∃r z,c=Dj/\Done a.toList b.toList r.toList/\Kp st st')\/∃o2 i2 j2 g2 ac bc,c=NU/\Mh a.toList b.toList o2.toList i2 j2/\1<=i2/\2<=j2/\i2<=a.size/\j2<=b.size/\i2+j2<=i'+j'/\Kp st st') ?_ ?_ ⟨_,_,_,_,_,_,rfl,m',c1,c2,c3,c4,∅,kp'⟩) ?_)
    ·rintro y c st3 _ hy ⟨o2,i2,j2,g2,ac2,bc2,rfl,m2,e1,e2,e3,e4,e5,kp3⟩
     dsimp -zeta only
     obtain⟨jB,rfl⟩:∃n,j2=n+1:=⟨j2-1,∅⟩;obtain⟨t2,q2,eb⟩:=Xn hb (show jB<b.size by omega);refine' (λ(key:∀gg,(_:Nat->Prop) gg)=>_) _
     rotate_left
     ·by_cases hg:g2>1
      ·refine XX hg ?_
       generalize g2-1=gg;exact key gg
      ·refine XN hg ?_
       exact key g2
     ·intro gg
      refine vL Az;replace kp4:=kp3.trans kp4;have hk4:kindOf st4=uG:=kp4.kind.trans hk;refine vL Dv;refine vL (X2 (k:=K b jB) ha hk4 ∅ ∅ Kd λk g1 g2 g3=>?_);simp only[xb]at g2 g3
      dsimp -zeta only
      refine' (λ(key:∀(oA:be)(kA iA:Nat),Mh a.toList b.toList oA.toList iA (jB+1)->K a (iA-1)<=K b jB->(1<=iA/\iA<=i2)->(_:Array vS->Nat->Nat->Prop) oA kA iA)=>_) _
      rotate_left
      ·by_cases hk0:i2-k>0
       ·refine XX hk0 ?_
        have mA:=m2.a sa g1 (λx hx y hy=>yg (Wp sb eb x hx) (zBB (v:=K b jB) (λt h1 h2=>yh (zAk.2 (g3 t h1 h2))) y hy));have mA:Mh a.toList b.toList (o2++(a.extract k i2).reverse).toList k (jB+1):=by rw[yO,wB,zA0];exact mA
        by_cases z:k=0
        ·refine XX (by rw[z];rfl) ?_
         exact vO (.inl ⟨_,_,rfl,mA.d0 sa sb PY,kp4⟩)
        refine XN ⇑z ?_;have hle:K a (k-1)<=K b jB:=zAk.1 (g2 (k-1) ∅);have i1:1<=k/\k<=i2:=⟨∅,g1⟩;generalize o2++(a.extract k i2).reverse=oA at mA ⊢;generalize i2-k=kA;generalize k=iA at mA hle i1 ⊢;exact key oA kA iA mA hle i1
       ·refine XN hk0 ?_
        have mA:=m2;have hle:K a (i2-1)<=K b jB:=zAk.1 (g2 (i2-1) ∅);have i1:1<=i2/\i2<=i2:=⟨e1,bM⟩;generalize o2=oA at mA ⊢;generalize i2-k=kA;generalize hiA:i2=iA at mA hle ⊢;rw[hiA]at i1;have i1:1<=iA/\iA<=i2:=⟨i1.1,∅⟩;exact key oA kA iA mA hle i1
      ·intro oA kA iA mA hle i1
       obtain⟨iB,rfl⟩:∃n,iA=n+1:=⟨iA-1,∅⟩
       dsimp -zeta only[Z1]at hle ⊢
       obtain⟨u3,r3,eA⟩:=Xn ha (show iB<a.size by omega);have mB:=mA.b1 sa sb eb eA hle;refine vL Dv
       by_cases z3:jB=1
       ·refine XX (by rw[z3];rfl) ?_
        exact vO (.inl ⟨_,_,rfl,mB.dF sa sb hf z3,kp4⟩)
       refine XN ⇑z3 ?_;refine vL MK;refine vL (X2 (k:=K a iB) hb hk4 ∅ ∅ Kc λk2 p1 p2 p3=>?_);simp only[xb]at p2 p3
       dsimp -zeta only
       refine' (λ(key2:∀(oB:be)(kB jC:Nat),Mh a.toList b.toList oB.toList (iB+1) jC->K b (jC-1)<=K a iB->(2<=jC/\jC<=jB)->(_:Array vS->Nat->Nat->Prop) oB kB jC)=>_) _
       rotate_left
       ·by_cases hk2:jB-k2>0
        ·refine XX hk2 ?_
         have mC:=mB.b sb p1 (λx hx y hy=>yg (Wp sa eA x hx) (zBB (v:=K a iB) (λt h1 h2=>zAh.2 (p3 t h1 h2)) y hy));rw[<- zA0,<- wB,<- yO]at mC
         by_cases z4:k2=1
         ·refine XX (by rw[z4];rfl) ?_
          exact vO (.inl ⟨_,_,rfl,mC.dF sa sb hf z4,kp4⟩)
         refine XN ⇑z4 ?_
         by_cases z4':k2=0
         ·refine XX (by rw[z4'];rfl) ?_
          exact vO (.inl ⟨_,_,rfl,mC.d0 sa sb (.inr z4'),kp4⟩)
         refine XN ⇑z4' ?_;have hle2:K b (k2-1)<=K a iB:=yh (zAh.1 (p2 (k2-1) ∅));have j1:2<=k2/\k2<=jB:=⟨∅,p1⟩;generalize oA.push MR++(b.extract k2 jB).reverse=oB at mC ⊢;generalize jB-k2=kB;generalize k2=jC at mC hle2 j1 ⊢;exact key2 oB kB jC mC hle2 j1
        ·refine XN hk2 ?_
         have mC:=mB;have hle2:K b (jB-1)<=K a iB:=yh (zAh.1 (p2 (jB-1) ∅));generalize oA.push MR=oB at mC ⊢;generalize jB-k2=kB;generalize hjC:jB=jC at mC hle2 ⊢;have j1:2<=jC/\jC<=jB:=⟨∅,∅⟩;exact key2 oB kB jC mC hle2 j1
       ·intro oB kB jC mC hle2 j1
        obtain⟨jD,rfl⟩:∃n,jC=n+1:=⟨jC-1,∅⟩
        dsimp -zeta only[Z1]at hle2
        obtain⟨t5,q5,eB⟩:=Xn hb (show jD<b.size by omega);have mD:=mC.a1 sa sb eA eB hle2;refine vL MK
        by_cases z5:iB=0
        ·refine XX (by rw[z5];rfl) ?_
         exact vO (.inl ⟨_,_,rfl,mD.d0 sa sb (.inl z5),kp4⟩)
        refine XN ⇑z5 ?_
        by_cases z6:(decide (kA<7)&&decide (kB<7))=true
        ·refine XX z6 ?_
         exact vO (.inr Br)
        ·refine XN z6 ?_
         exact vO Br
    ·rintro c st3 ⟨o2,i2,j2,g2,ac2,bc2,rfl,m2,e1,e2,e3,e4,e5,kp3⟩
     omega
    ·rintro c st3 (⟨r,z,rfl,dn,kp3⟩|⟨o2,i2,j2,g2,ac2,bc2,rfl,m2,e1,e2,e3,e4,e5,kp3⟩)
     ·exact vO Te
     ·dsimp -zeta only
      refine vL Az;exact vO ⟨_,_,_,_,rfl,m2,e1,e2,e3,e4,∅,kp3.trans kp4⟩
 ·rintro c st1 ⟨o,i,j,g,rfl,m,b1,b2,b3,b4,b5,kp⟩
  omega
 ·rintro c st1 ⟨r,z,rfl,dn,kp⟩
  exact vO abz
end
end So
set_option maxHeartbeats 1000000
namespace So
open PySem PyProof.Rows
theorem zCm{P:dh}{x y:vS}{S:dh}{n:Nat}(h:n=P.length):(P++x::S).set n y=P++y::S:=by
 subst h;rw[List.set_append_right _ _ bM,wR];rfl
theorem zBF(s:Nat):∀(ys:dh)(n:Nat)(xs:be)(P M S:dh),xs.toList=P++M++S->P.length=s+n->M.length=ys.length ->
  ((ys.zipIdx n).foldl (λa p=>a.setIfInBounds (s+p.2) p.1) xs).toList=P++ys++S
 | [],n,xs,P,M,S,h,hp,hm=>by
  have:M=[]:=ZX.mp hm;subst this;exact h
 | y::ys,n,xs,P,M,S,h,hp,hm=>by
  cases M with
  | nil=>cases hm
  | cons x M=>
   rw[ZW,Yh];have h2:(xs.setIfInBounds (s+n) y).toList=(P++[y])++M++S:=by
    rw[ZE,h];have:P++x::M++S=P++x::(M++S):=by simp
    rw[this,zCm ∅];simp
   rw[zBF s ys (n+1) _ (P++[y]) M S h2 (by simp;omega) ⇑hm];simp
section
variable{prog:vU}{w:vZ}{A:vf}{E:vB->vC->Prop}{s:vC}
theorem W1{xs ys:be}(h:IntKeys xs)(hs:∀p∈ys.toList,p∈xs.toList):IntKeys ys:=λp hp=>h p (hs p hp)
theorem zBr{X M Y:dh}(h1:Srt X)(h2:Srt M)(h3:Srt Y)(h12:∀x∈X,∀y∈M,Le x y)(h13:∀x∈X,∀y∈Y,Le x y)(h23:∀x∈M,∀y∈Y,Le x y):Srt (X++M++Y) :=
 za.mpr ⟨za.mpr ⟨h1,h2,h12⟩,h3,λx hx y hy=>(zJ.mp hx).elim (λhx=>h13 x hx y hy) (λhx=>h23 x hx y hy)⟩
theorem zCw{σ:Type}{M:Model}{x:σ}{Q:PUnit->σ->Prop}{st:σ}(h:Q ⟨⟩ x):wpS M A E s (set x:StateT σ Sem PUnit) Q st:=by
 unfold wpS;rw[StateT.run_set];exact vF ⟨rfl,h⟩
theorem zC7{arr:be}{P X S:dh}{s0 t:Nat}(hl:AZ)(hp:LJ)(ht:NK):arr[s0+t]?=X[t]?:=by
 rw[<- zc,hl,zO,zb ∅,show s0+t-P.length=t by omega,zg ht]
theorem zAG{arr:be}{P X S:dh}{s0 t:Nat}(hl:AZ)(hp:LJ)(ht:NK):K arr (s0+t)=ke X[t]:=by
 have:=zC7 hl hp ht;rw[zD ht]at this;exact zB6 this
theorem zAV{arr:be}{P X S:dh}{s0:Nat}(hl:AZ)(hp:LJ)(hs:Srt X):∀i j,i<=j->j<X.length->K arr (s0+i)<=K arr (s0+j):=λi j h1 h2=>by
 rw[zAG hl hp ∅,zAG hl hp h2];rcases zw i j with z|z
 ·exact yb.mp hs i j ∅ h2 z
 ·have:i=j:=∅
  subst this;exact zi _
theorem WX{X:dh}{k:Nat}{x:vS}(h:x∈X.take k):∃t,∃(ht:NK),t<k/\X[t]=x:=by
 obtain⟨t,ht,e⟩:=zh.mp h;rw[ze]at ht;rw[xS]at e;exact⟨t,∅,∅,e⟩
theorem WW{X:dh}{k:Nat}{x:vS}(h:x∈X.drop k):∃t,∃(ht:NK),k<=t/\X[t]=x:=by
 obtain⟨t,ht,e⟩:=zh.mp h;rw[yM]at ht;rw[xr]at e;exact⟨k+t,∅,∅,e⟩
theorem zBo{arr:be}{P X S:dh}{s0 e0:Nat}(hl:AZ)(hp:LJ)(he:e0=s0+X.length):(arr.extract s0 e0).toList=X:=by
 rw[zA0,hl,zO];subst he;rw[<- hp,<- zC,<- zO,Yv,List.drop_left]
theorem zAv{st:vc}{i sa na pw sb nb pw2:Nat}{P S RA RB:dh}{Q:Gu}(h0:Ol)(hk:k9)(hfl:uT st=none)(p1:(ve st)[i]?=some (sa,na,pw))(p2:(ve st)[i+1]?=some (sb,nb,pw2))(hl:(vN st).toList=P++RA++RB++S)(lP:P.length=sa)(lA:RA.length=na)(lB:RB.length=nb)(hsb:sb=sa+na)(n1:1<=na)(n2:1<=nb)(sA:Srt RA)(sB:Srt RB)(h:∀st' R,kindOf st'=uG->uT st'=none->ve st'=((ve st).setIfInBounds i NM).eraseIdxIfInBounds (i+1)->(vN st').toList=P++R++S->R.Perm RQ->Srt R->Q true st'):wpS aj A E s (mergeAt' i) Q st:=by
 cases st with
 | mk kd arr pe gl fa=>
 dsimp only[vN,kindOf,ve,uT]at h0 hk hfl p1 p2 hl
 refine vL oK
 dsimp -zeta only
 rw[p1,p2]
 dsimp -zeta only
 refine vL (zCw ?_);generalize hst2:SortSt.mk' kd arr oH gl fa=st2;have k2:kindOf st2=uG:=by rw[<- hst2];exact hk
 have f2:uT st2=none:=by rw[<- hst2];exact hfl
 have pd2:ve st2=(pe.setIfInBounds i NM).eraseIdxIfInBounds (i+1):=by rw[<- hst2]
 have ar2:vN st2=arr:=by rw[<- hst2]
 change wpS _ _ _ _ _ _ (SortSt.mk' kd arr oH gl fa)
 rw[hst2];have hlA:arr.toList=P++RA++(RB++S):=by rw[hl];simp
 have hlB:arr.toList=(P++RA)++RB++S:=by rw[hl]
 have lPA:(P++RA).length=sb:=by rw[zC];omega
 have hsz:arr.size=sa+na+nb+S.length:=by
  have:=v4 xf hl;simp only[zC,zK]at this;omega
 obtain⟨t0,q0,eb0⟩:=Xn h0 (show sb<arr.size by omega);have kb0:K arr sb=ke RB[0]:=zAG (t:=0) hlB lPA ∅;refine vL (Xa eb0 ?_);refine vL (X2 (k:=K arr sb) h0 k2 ∅ ∅ (λi j h1 h2=>zAV hlA lP sA i j h1 ∅) λk g1 g2 g3=>?_)
 dsimp -zeta only
 have a1:∀x∈RA.take k,ke x<=K arr sb:=λx hx=>by
  obtain⟨t,ht,hk',rfl⟩:=WX hx;rw[<- zAG hlA lP ht];exact zAk.1 (g2 t hk')
 have a2:∀x∈RA.drop k,K arr sb<ke x:=λx hx=>by
  obtain⟨t,ht,hk',rfl⟩:=WW hx;rw[<- zAG hlA lP ht];exact zAk.2 (g3 t hk' ∅)
 have bb:∀x∈RB,K arr sb<=ke x:=λx hx=>by
  obtain⟨t,ht,rfl⟩:=zh.mp hx;rw[<- zAG hlB lPA ht];exact zAV hlB lPA sB 0 t ∅ ht
 by_cases z1:na-k=0
 ·refine XX (by rw[z1];rfl) ?_
  refine vO (h st2 RQ k2 f2 pd2 (by rw[ar2,hl];simp) (xh _) OF);have e:RA.take k=RA:=yv ∅;exact yg (a1 x (by rw[e];exact hx)) (bb y hy)
 refine XN ⇑z1 ?_;have hla:sa+k+(na-k)-1=sa+Vk:=∅
 rw[hla];obtain⟨t1,q1,ea1⟩:=Xn h0 (show sa+Vk<arr.size by omega);have ka:K arr EB=ke RA[Vk]:=zAG hlA lP ∅;refine vL (Xa ea1 ?_);refine vL (X2 (k:=K arr EB) h0 k2 ∅ ∅ (λi j h1 h2=>zAV hlB lPA sB i j h1 ∅) λm c1 c2 c3=>?_)
 dsimp -zeta only
 have b1:∀x∈RB.take m,ke x<K arr EB:=λx hx=>by
  obtain⟨t,ht,hk',rfl⟩:=WX hx;rw[<- zAG hlB lPA ht];exact zAh.1 (c2 t hk')
 have b2:∀x∈RB.drop m,K arr EB<=ke x:=λx hx=>by
  obtain⟨t,ht,hk',rfl⟩:=WW hx;rw[<- zAG hlB lPA ht];exact zAh.2 (c3 t hk' ∅)
 have aa:∀x∈RA,ke x<=K arr EB:=λx hx=>by
  obtain⟨t,ht,rfl⟩:=zh.mp hx;rw[<- zAG hlA lP ht];exact zAV hlA lP sA t Vk ∅ ∅
 by_cases z2:m=0
 ·refine XX (by rw[z2];rfl) ?_
  refine vO (h st2 RQ k2 f2 pd2 (by rw[ar2,hl];simp) (xh _) OF);exact yg (aa x hx) (b2 y (by rw[z2];exact hy))
 refine XN ⇑z2 ?_;have eA:RA=RA.take k++RA.drop k:=(yG k RA).symm;have eB:RB=RB.take m++RB.drop m:=(yG m RB).symm;have hx:(arr.extract (sa+k) sb).toList=RA.drop k:=zBo (P:=P++RA.take k) (S:=RB++S) (by rw[hlA,zO P (RA.take k),yG]) (by rw[zC,ze];omega) (by rw[yM];omega);have hy:(arr.extract sb (sb+m)).toList=RB.take m:=zBo (P:=P++RA) (S:=RB.drop m++S) (by rw[hlB,zO (P++RA) (RB.take m),show RB.take m++ac1=RB++S by rw[<- zO,yG],zO (P++RA)]) lPA (by rw[ze];omega);generalize hX:arr.extract (sa+k) sb=X at hx;generalize hY:arr.extract sb (sb+m)=Y at hy;have lX:X.size=na-k:=by rw[<- zK,hx,yM];omega
 have lY:Y.size=m:=by rw[<- zK,hy,ze];omega
 have iX:IntKeys X:=W1 h0 λp hp=>by rw[hx]at hp;rw[hlA];have:=xP hp;simp[this]
 have iY:IntKeys Y:=W1 h0 λp hp=>by rw[hy]at hp;rw[hlB];have:=xu hp;simp[this]
 have sX:Srt X.toList:=by rw[hx];exact Xz sA k
 have sY:Srt Y.toList:=by rw[hy];exact Xy sB m
 have memX:∀i,i<X.size->∃x∈RA.drop k,K X i=ke x:=λi hi=>by
  have e:X[i]?=some X[i]:=getElem?_pos _ i hi;exact⟨X[i],by rw[<- hx];simp,zB6 e⟩
 have memY:∀i,i<Y.size->∃x∈RB.take m,K Y i=ke x:=λi hi=>by
  have e:Y[i]?=some Y[i]:=getElem?_pos _ i hi;exact⟨Y[i],by rw[<- hy];simp,zB6 e⟩
 have q1:∀x∈RA.drop k,∀y∈RB.take 1,Le y x:=λx hx y hy=>by
  obtain⟨t,ht,hk',rfl⟩:=WX hy;have:t=0:=∅
  subst this;have:=a2 x hx;show ke RB[0]<=ke x;rw[<- kb0];omega
 have h1:K Y 0<=K X 0:=by
  obtain⟨x,hx',ex⟩:=memX 0 ∅;have e:Y[0]?=some Y[0]:=getElem?_pos _ 0 ∅;rw[ex,zB6 e];refine q1 x hx' _ ?_;have:Y.toList.take 1=RB.take 1:=by rw[hy,wU];congr 1;omega
  rw[<- this];have:=drop_one e;rw[ZC]at this;rw[this];simp
 have hlast:∀y∈Y.toList,∀x∈X.toList.drop (X.size-1),Le y x:=λy hy' x hx'=>by
  rw[hy]at hy';rw[hx,ZB]at hx';obtain⟨t,ht,hk',rfl⟩:=WW hx';have:t=na-1:=∅
  subst this;have:=b1 y hy';show ke y<=ke RA[Vk];rw[<- ka];omega
 have h1':K Y (Y.size-1)<=K X (X.size-1):=by
  obtain⟨y,hy',ey⟩:=memY (Y.size-1) ∅;have e:X[X.size-1]?=some X[X.size-1]:=getElem?_pos _ _ ∅;rw[ey,zB6 e];refine hlast y (by rw[hy];exact hy') _ ?_;rw[drop_one e];simp
 have hfirst:∀y∈Y.toList.take 1,∀x∈X.toList,Le y x:=λy hy' x hx'=>by
  rw[hy,wU]at hy';rw[hx]at hx';exact q1 x hx' y (by rw[show min 1 m=1 by omega]at hy';exact hy')
 by_cases z3:na-k<=m
 case' pos=>
  refine XX z3 ?_;refine vL (zAw iX iY sX sY ∅ ∅ h1 hlast k2 λr st3 dn kp=>?_)
 case' neg=>
  refine XN z3 ?_;refine vL (zAz iX iY sX sY ∅ ∅ h1' hfirst k2 λr st3 dn kp=>?_)
 all_goals
  rw[hx,hy]at dn;have f3:uT st3=none:=kp.fail.trans f2;have ar3:vN st3=arr:=kp.arr.trans ar2;have pm:(RA.take k++r.toList++RB.drop m).Perm RQ:=by
   have:RA++RB=RA.take k++PP++RB.drop m:=by
    conv=>lhs;rw[eA,eB]
    simp only[zO]
   rw[this];exact xB _ (yW _ dn.perm)
  have inr:∀x∈r.toList,x∈RA.drop k\/x∈RB.take m:=λx hx'=>zJ.mp (dn.perm.mem_iff.mp hx');have sAA:Srt (RA.take k++RA.drop k):=by rw[<- eA];exact sA
  have sBB:Srt (RB.take m++RB.drop m):=by rw[<- eB];exact sB
  have sR:Srt Ja:=zBr (Xy sA k) dn.srt (Xz sB m)
   (λx hx' y hy'=>(inr y hy').elim (λhy'=>(za.mp sAA).2.2 x hx' y hy') (λhy'=>yg (a1 x hx') (bb y (xu hy'))))
   (λx hx' y hy'=>yg (a1 x hx') (bb y (xP hy')))
   (λx hx' y hy'=>(inr x hx').elim (λhx'=>yg (aa x (xP hx')) (b2 y hy')) (λhx'=>(za.mp sBB).2.2 x hx' y hy'))
  have lr:r.toList.length=(RA.drop k++RB.take m).length:=dn.perm.length_eq;have hput:=zBF (sa+k) r.toList 0 arr (P++RA.take k) PP ac1 (by
   rw[hl]
   conv=>lhs;rw[eA,eB]
   simp only[zO]) (by rw[zC,ze];omega) lr.symm
  refine vL (ud (vL oK));have fin:=h (SortSt.mk' (kindOf st3) (Zb (λa x=>a.setIfInBounds (sa+k+x.snd) x.fst) oy r.toList.zipIdx) (ve st3) (gallopOf st3) (uT st3)) Ja (kp.kind.trans k2) f3 (kp.pend.trans pd2) (by
   show (Zb _ oy _).toList=_;rw[ar3,hput];simp only[zO]) pm sR
  show wpS _ _ _ _ (pure (uT st3).isNone) _ _;rw[f3];exact vO fin
end
end So
set_option maxHeartbeats 1000000
namespace So
open PySem PyProof.Rows
def SrK(xs:be)(lo k:Nat):Prop:=∀i j,i<=j->j<k->K xs Cc<=K xs HY
structure Within (lo hi:Nat) (st st':vc):Prop where
 kind:kindOf st'=kindOf st
 pend:ve st'=ve st
 fail:uT st'=uT st
 perm:(vN st').Perm (vN st)
 out:∀t,(t<lo\/hi<=t)->(vN st')[t]?=(vN st)[t]?
theorem Within.refl(lo hi:Nat)(st:vc):Within lo hi st st:=⟨rfl,rfl,rfl,Zo _,DG⟩
theorem Within.trans{lo hi:Nat}{a b c:vc}(h:CS)(h':Within lo hi b c):Within lo hi a c:=⟨Ub,Ua,Uc,h'.perm.trans h.perm,λt ht=>(h'.out t ht).trans (h.out t ht)⟩
theorem Within.size{lo hi:Nat}{a b:vc}(h:CS):(vN b).size=(vN a).size:=h.perm.size_eq
theorem Within.ints{lo hi:Nat}{a b:vc}(h:CS)(h0:IntKeys (vN a)):IntKeys (vN b):=λp hp=>h0 p J7
theorem zAM{lo hi:Nat}{st:vc}{ys:be}(hp:ys.Perm eC)(ho:∀t,(t<lo\/hi<=t)->ys[t]?=(vN st)[t]?):Within lo hi st (setArr st ys):=⟨rfl,rfl,rfl,hp,ho⟩
section
variable{prog:vU}{w:vZ}{A:vf}{E:vB->vC->Prop}{s:vC}
theorem Wl{st:vc}{i j:Nat}{Q:EY}(h0:Ol)(hk:k9)(hi:i<(vN st).size)(hj:j<(vN st).size)(h:Q (some (decide (K eC i<K eC j))) st):wpS aj A E s (ltAt' i j) Q st:=by
 obtain⟨t,p,e1⟩:=Xn h0 hi;obtain⟨u,q,e2⟩:=Xn h0 hj;exact wpS_ltAt hk e1 e2 h
theorem zBM{st:vc}{lo n ok:Nat}{Q:Gu}(h0:Ol)(hk:k9)(hn:lo+n<=(vN st).size)(hok:ok<=n)(hs:SrK eC lo ok)(h:∀st',Within lo Kk st st'->SrK bP lo n->Q true st'):wpS aj A E s (binarySort' lo n ok) Q st:=by
 refine vL (uF (vi
  (I:=λx c st'=>c=(none,())/\Within lo Kk st st'/\SrK bP lo x)
  (Q:=λc st'=>c=(none,())/\Within lo Kk st st'/\SrK bP lo n) ?_ ?_ ⟨rfl,VJ,?_⟩) ?_)
 ·rintro k c st1 hk1 hkn ⟨rfl,W,S⟩
  have sz:=W.size;have i0:=W.ints h0;have kd:kindOf st1=uG:=W.kind.trans hk
  dsimp only
  refine vL (uF (vi
   (I:=λy c st'=>st'=st1/\∃l r,c=TV/\l<=r/\r<=k/\r-l<=k-y/\(∀t,t<l->K ju HX<=K ju Kl)/\(∀t,r<=t->t<k->K ju Kl<K ju HX))
   (Q:=λc st'=>st'=st1/\∃l,c=(none,l,l)/\l<=k/\(∀t,t<l->K ju HX<=K ju Kl)/\(∀t,l<=t->t<k->K ju Kl<K ju HX)) ?_ ?_ ⟨rfl,0,k,rfl,∅,∅,∅,λt ht=>∅,λt h1 h2=>∅⟩) ?_)
  ·rintro y c st2 _ hy ⟨rfl,l,r,rfl,b1,b2,b3,b4,b5⟩
   dsimp only
   by_cases z:l>=r
   ·rw[gz]
    have:l=r:=∅
    subst this;exact vO Oz
   ·rw[gc]
    refine vL (Wl i0 kd ∅ ∅ ?_)
    dsimp only
    by_cases hc:K lw Kl<K lw (lo+(l+r)/2)
    ·rw[Rb,kT]
     refine vO ⟨rfl,_,_,rfl,∅,∅,∅,b4,λt h1 h2=>?_⟩;have:=S ((l+r)/2) t h1 h2;omega
    ·rw[vX hc,vJ (by decide)]
     refine vO ⟨rfl,_,_,rfl,∅,∅,∅,λt ht=>?_,b5⟩;have:=S t ((l+r)/2) ∅ ∅;omega
  ·rintro c st2 ⟨rfl,l,r,rfl,b1,b2,b3,b4,b5⟩
   have:l=r:=∅
   subst this;exact Oz
  ·rintro c st2 ⟨rfl,l,rfl,b1,b4,b5⟩
   dsimp only
   refine vL (ud ?_);have hsrc:lo+k<(vN st2).size:=∅
   have hd:lo+k-(lo+l)<=lo+k:=∅
   refine vO ⟨rfl,W.trans (zAM SK λt ht=>?_),λi j h1 h2=>?_⟩
   ·show (bubble lw Kl GL)[t]?=_
    rw[getElem?_bubble hsrc _ hd,ik,ik]
   ·show K VB Cc<=K VB HY
    rw[rK hsrc hd,rK hsrc hd];have e:lo+k-GL=lo+l:=∅
    rw[e]
    by_cases c1:i=l
    ·rw[kb]
     by_cases c2:j=l
     ·rw[kb];exact zi _
     ·rw[ik,kb,show lo+j-1=lo+(j-1) by omega]
      exact yh (b5 (j-1) ∅ ∅)
    ·rw[ik]
     by_cases c3:l<i
     ·rw[kb,ik,kb,show lo+i-1=lo+(i-1) by omega,show lo+j-1=lo+(j-1) by omega]
      exact S (i-1) (j-1) ∅ ∅
     ·rw[ik]
      by_cases c2:j=l
      ·rw[kb];exact b4 i ∅
      ·rw[ik]
       by_cases c4:l<j
       ·rw[kb,show lo+j-1=lo+(j-1) by omega]
        exact S i (j-1) ∅ ∅
       ·rw[ik]
        exact S i j h1 ∅
 ·rintro c st1 ⟨rfl,W,S⟩
  refine⟨rfl,W,λi j h1 h2=>S i j h1 ∅⟩
 ·intro i j h1 h2
  by_cases z:ok=0
  ·have:i=j:=∅
   subst this;exact zi _
  ·exact hs i j h1 ∅
 ·rintro c st1 ⟨rfl,W,S⟩
  exact vO (h st1 W S)
end
end So
set_option maxHeartbeats 2000000
namespace So
open PySem PyProof.Rows
section
variable{prog:vU}{w:vZ}{A:vf}{E:vB->vC->Prop}{s:vC}
theorem zAZ{st:vc}{lo hi i j:Nat}{Q:Gi}(hi1:lo<=i)(hj:j<=hi)(hs:hi<=(vN st).size)(h:∀st',Within lo hi st st'->(∀k,K bP k=if i<=k/\k<j then K eC aby else K eC k)->Q () st'):wpS aj A E s (reverseSlice' i j) Q st:=by
 rw[reverseSlice'_eq];refine ud (h _ (zAM CF λt ht=>?_) λk=>K_mirror ∅ k);rw[getElem?_mirror_all ∅,ik]
theorem keepK{xs ys:be}{i j:Nat}(KK:∀k,K ys k=if i<=k/\k<j then K xs aby else K xs k)(e:∀k,i<=k->k<j->K xs k=K xs (j-1))(k:Nat):K ys k=K xs k:=by
 rw[KK k]
 split
 ·rename_i hh
  rw[e aby ∅ ∅,e k hh.1 hh.2]
 ·rfl
theorem zC0{st:vc}{lo nrem:Nat}{Q:mq}(h0:Ol)(hk:k9)(hn:lo+nrem<=(vN st).size)(h1:1<=nrem)(h:∀n st',1<=n->n<=nrem->Within lo JP st st'->SrK bP lo n->Q (some n) st'):wpS aj A E s (countRun' lo nrem) Q st:=by
 refine vL (uF (vi
  (I:=λx c st'=>st'=st/\c=(none,x)/\x<=nrem/\SrK eC lo x)
  (Q:=λc st'=>st'=st/\∃n,c=(none,n)/\1<=n/\n<=nrem/\SrK eC lo n/\(n<nrem->K eC Kk<K eC Jm)) ?_ ?_ ⟨rfl,rfl,h1,λi j h2 h3=>by rw[show i=j by omega];exact zi _⟩) ?_)
 ·rintro x c st1 hx1 hx ⟨rfl,rfl,b1,S⟩
  dsimp only
  refine vL QD
  dsimp only
  by_cases hc:K ju TX<K ju Jl
  ·refine XX Rb ?_
   exact vO ⟨rfl,x,rfl,hx1,b1,S,λ_=>hc⟩
  ·refine XN Is ?_
   refine vO Td
   by_cases z:j=x
   ·subst z
    by_cases z2:i=j
    ·rw[z2];exact zi _
    ·have:=S i (j-1) ∅ ∅
     rw[show lo+(j-1)=lo+j-1 by omega]at this;omega
   ·exact S i j h2 ∅
 ·rintro c st1 ⟨rfl,rfl,b1,S⟩
  exact⟨rfl,_,rfl,∅,b1,S,λz=>∅⟩
 ·rintro c st1 ⟨rfl,n,rfl,b1,b2,S,b3⟩
  dsimp only
  by_cases z1:n=nrem
  ·rw[vH (by rw[z1];exact beq_self_eq_true _)]
   exact vO Fi
  rw[vJ ⇑z1];have b3:=b3 ∅;have start:∃stA,stA=st1:=bz
  by_cases z2:n>1
  case' pos=>
   rw[vH z2];refine vL QD
   dsimp only
   by_cases hc:K ju lo<K ju Jm
   ·refine XX Rb ?_
    exact vO Fi
   refine XN Is ?_;refine vL (zAZ (lo:=lo) (hi:=lo+nrem) bM ∅ hn λst2 W KK=>?_);have eqs:∀t,t<n->K ju HX=K ju Jm:=λt ht=>by
    have e1:=S 0 t ∅ ht;have e2:=S t (n-1) ∅ ∅;rw[show lo+(n-1)=lo+n-1 by omega]at e2;rw[Nat.add_zero]at e1;omega
   have same:∀k,K lw k=K ju k:=λk=>by
    rw[KK k]
    split
    ·rename_i hh
     have e1:=eqs acK ∅;have e2:=eqs Qs ∅;rw[show lo+acK=lo+Kk-1-k by omega]at e1;rw[show lo+Qs=k by omega]at e2;rw[e1,e2]
    ·rfl
   have eqs:∀t,t<n->K lw HX=K lw Jm:=λt ht=>by rw[same,same];exact eqs t ht
   have b3:K lw Kk<K lw Jm:=by rw[same,same];exact b3
  case' neg=>
   rw[vJ z2];have W:Within lo JP st1 st1:=Within.refl _ _ _;have eqs:∀t,t<n->K ju HX=K ju Jm:=λt ht=>by rw[show lo+t=lo+n-1 by omega]
   generalize hst2:st1=st2 at eqs b3 ⊢;have W:Within lo JP st1 st2:=by rw[<- hst2];exact Within.refl _ _ _
  all_goals
   clear start;refine vL ff;refine vL (uF (vi
    (I:=λx c st'=>∃q,c=(none,x,q)/\x<=nrem/\q+1<=x/\Within lo JP st1 st'/\(∀i j,i<=j->j<x->K bP HY<=K bP Cc)/\(∀t,x-1-q<=t->t<x->K bP HX=K bP Jl))
    (Q:=λc st'=>∃m q,c=(none,m,q)/\1<=m/\m<=nrem/\q+1<=m/\Within lo JP st1 st'/\(∀i j,i<=j->j<m->K bP HY<=K bP Cc)/\(∀t,m-1-q<=t->t<m->K bP HX=K bP (lo+m-1))) ?_ ?_ ⟨0,rfl,∅,∅,W,Ed,λt h2 h3=>by rw[show lo+t=lo+(n+1)-1 by omega]⟩) ?_)
   ·rintro x c st3 hx1 hx ⟨q,rfl,c1,c2,W3,N3,E3⟩
    dsimp only
    have i3:=W3.ints h0;have k3:kindOf st3=uG:=W3.kind.trans hk;have s3:=W3.size;refine vL QC
    dsimp only
    by_cases hc:K oy TX<K oy Jl
    ·refine XX Rb ?_
     have N4:∀i j,i<=j->j<x+1->K oy HY<=K oy Cc:=λi j h2 h3=>by
      by_cases z:j=x
      ·subst z
       by_cases z2:i=j
       ·rw[z2];exact zi _
       ·have:=N3 i (j-1) ∅ ∅
        rw[show lo+(j-1)=lo+j-1 by omega]at this;omega
      ·exact N3 i j h2 ∅
     by_cases zq:q>0
     ·rw[vH zq]
      refine vL pM;have same:=keepK KK (λk h2 h3=>by
       have:=E3 Qs ∅ ∅;rw[show lo+Qs=k by omega]at this;exact this)
      refine vO ⟨0,rfl,∅,∅,W3.trans W4,λi j h2 h3=>by rw[same,same];exact N4 i j h2 h3,λt h2 h3=>by rw[show lo+t=lo+(x+1)-1 by omega]⟩
     ·rw[vJ zq]
      exact vO ⟨0,rfl,∅,∅,W3,N4,λt h2 h3=>by rw[show lo+t=lo+(x+1)-1 by omega]⟩
    ·refine XN Is ?_
     refine vL QC
     dsimp only
     by_cases hd:K oy Jl<K oy TX
     ·refine XX (vT hd) ?_
      exact vO ⟨x,q,rfl,∅,c1,c2,W3,N3,E3⟩
     ·refine XN (λh=>hd hV) ?_
      have eq:K oy TX=K oy Jl:=∅
      refine vO ⟨q+1,rfl,∅,∅,W3,Ed,λt h2 h3=>?_⟩
      ·by_cases z:j=x
       ·subst z
        by_cases z2:i=j
        ·rw[z2];exact zi _
        ·have:=N3 i (j-1) ∅ ∅
         rw[show lo+(j-1)=lo+j-1 by omega]at this;omega
       ·exact N3 i j h2 ∅
      ·rw[show lo+(x+1)-1=lo+x by omega,eq]
       by_cases z:t=x
       ·rw[z,eq]
       ·exact E3 t ∅ ∅
   ·rintro c st3 ⟨q,rfl,c1,c2,W3,N3,E3⟩
    exact⟨_,q,rfl,∅,c1,c2,W3,N3,E3⟩
   ·by_cases z:j=n
    ·subst z
     by_cases z2:i=j
     ·rw[z2];exact zi _
     ·have:=eqs i ∅
      omega
    ·have e1:=eqs i ∅
     have e2:=eqs j ∅;omega
   ·rintro c st3 ⟨m,q,rfl,c0,c1,c2,W3,N3,E3⟩
    dsimp only
    have s3:=W3.size;have start:∃stA,stA=st3:=bz
    by_cases zq:q>0
    case' pos=>
     rw[vH zq];refine vL pM;have same:=keepK KK (λk h2 h3=>by
      have:=E3 Qs ∅ ∅;rw[show lo+Qs=k by omega]at this;exact this)
     have N4:∀i j,i<=j->j<m->K (vN st4) HY<=K (vN st4) Cc:=λi j h2 h3=>by rw[same,same];exact N3 i j h2 h3
     replace W4:=W3.trans W4
    case' neg=>
     rw[vJ zq];have N4:=N3;have W4:=W3;generalize hst4:st3=st4 at N4 W4 ⊢
    all_goals
     have s4:=W4.size;refine vL (zAZ (lo:=lo) (hi:=lo+nrem) ∅ ∅ ∅ λst5 W5 KK5=>?_);replace W5:=W4.trans W5;have s5:=W5.size;have i5:=W5.ints h0;have k5:kindOf st5=uG:=W5.kind.trans hk;have S5:SrK (vN st5) lo m:=λi j h2 h3=>by
      rw[KK5 Cc,KK5 HY,kb,kb,show lo+(lo+m)-1-Cc=lo+(m-1-i) by omega,show lo+(lo+m)-1-HY=lo+(m-1-j) by omega];exact N4 (m-1-j) (m-1-i) ∅ ∅
     refine vL (uF (vi
      (I:=λx c st'=>st'=st5/\c=(none,x)/\x<=nrem/\SrK (vN st5) lo x)
      (Q:=λc st'=>st'=st5/\∃n,c=(none,n)/\1<=n/\n<=nrem/\SrK (vN st5) lo n) ?_ ?_ ⟨rfl,rfl,c1,S5⟩) ?_)
     ·rintro x c st6 hx1 hx ⟨rfl,rfl,d1,S6⟩
      dsimp only
      refine vL (Wl i5 k5 ∅ ∅ ?_)
      dsimp only
      by_cases hc:K (vN st6) TX<K (vN st6) Jl
      ·refine XX Rb ?_
       exact vO ⟨rfl,x,rfl,∅,d1,S6⟩
      ·refine XN Is ?_
       refine vO Td
       by_cases z:j=x
       ·subst z
        by_cases z2:i=j
        ·rw[z2];exact zi _
        ·have:=S6 i (j-1) ∅ ∅
         rw[show lo+(j-1)=lo+j-1 by omega]at this;omega
       ·exact S6 i j h2 ∅
     ·rintro c st6 ⟨rfl,rfl,d1,S6⟩
      exact⟨rfl,_,rfl,∅,d1,S6⟩
     ·rintro c st6 ⟨rfl,n',rfl,d0,d1,S6⟩
      exact vO (h n' st6 d0 d1 W5 S6)
end
end So
set_option maxHeartbeats 2000000
namespace So
open PySem PyProof.Rows
def WH:Nat->List nv->List dh->Prop
 | _,[],[]=>True
 | s,p::r,X::Xs=>p.1=s/\p.2.1=X.length/\1<=X.length/\Srt X/\WH (s+X.length) r Xs
 | _,_,_=>False
theorem zAW:∀{s:Nat}{ps:ms}{Xs:RW},WH s ps Xs->ps.length=Xs.length
 | _,[],[],_=>rfl
 | _,_::_,_::_,h=>by rw[zI,zI,zAW h.2.2.2.2]
 | _,[],_::_,h=>h.elim
 | _,_::_,[],h=>h.elim
theorem zBq:∀(i s:Nat)(ps:ms)(Xs:RW),WH s ps Xs->i+1<ps.length->∃Pre X Y zBY pw pw2,Xs=Pre++X::Y::zBY/\ps[i]?=some (TK,X.length,pw)/\ps[i+1]?=some (s+Pre.flatten.length+X.length,Y.length,pw2)/\1<=X.length/\1<=Y.length/\Srt X/\Srt Y /\
  ∀R:List vS,R.length=X.length+Y.length->Srt R->WH s ((ps.set i (TK,abK,pw)).eraseIdx (i+1)) (Pre++R::zBY)
 | 0,s,ps,Xs,h,hl=>by
  match ps,Xs,h,hl with
  | p::q::r,X::Y::Xs,⟨h1,h2,h3,h4,h5,h6,h7,h8,h9⟩,_=>
   refine⟨[],X,Y,Xs,p.2.2,q.2.2,rfl,?_,?_,h3,h7,h4,h8,λR hR sR=>?_⟩
   ·show some p=_
    rw[<- h2];exact v4 some (Prod.ext h1 rfl)
   ·show some q=_
    rw[<- h6];exact v4 some (Prod.ext h5 rfl)
   ·refine⟨rfl,hR.symm,∅,sR,?_⟩
    rw[hR,<- wk];exact h9
 | i+1,s,ps,Xs,h,hl=>by
  match ps,Xs,h,hl with
  | p::r,X0::Xs,⟨h1,h2,h3,h4,h5⟩,hl=>
   obtain⟨Pre,X,Y,zBY,pw,pw2,e,g1,g2,g3,g4,g5,g6,g7⟩:=zBq i (s+X0.length) r Xs h5 ⇑hl;refine⟨X0::Pre,X,Y,zBY,pw,pw2,by rw[e];rfl,?_,?_,g3,g4,g5,g6,λR hR sR=>?_⟩
   ·show r[i]?=_
    rw[g1,yC,zC,<- wk]
   ·show r[i+1]?=_
    rw[g2,yC,zC,<- wk s]
   ·have:=g7 R hR sR
    rw[yC,zC,<- wk];exact⟨h1,h2,h3,h4,this⟩
theorem zAo:∀{s:Nat}{ps:ms}{Xs:RW}{X:dh}{pw:Nat},WH s ps Xs->1<=X.length->Srt X->WH s (ps++[(s+Xs.flatten.length,X.length,pw)]) (Xs++[X])
 | s,[],[],X,pw,_,h1,h2=>⟨rfl,rfl,h1,h2,trivial⟩
 | s,p::r,X0::Xs,X,pw,⟨g1,g2,g3,g4,g5⟩,h1,h2=>by
  refine⟨g1,g2,g3,g4,?_⟩;have:=zAo (pw:=pw) g5 h1 h2;rw[yC,zC,<- wk];exact this
theorem zBA:∀{s:Nat}{ps ps':ms}{Xs:RW},WH s ps Xs->ps'.map (λp=>Rr)=ps.map (λp=>Rr)->WH s ps' Xs
 | s,[],[],[],_,_=>trivial
 | s,p::r,p'::r',X::Xs,⟨h1,h2,h3,h4,h5⟩,e=>by
  rw[zU,zU]at e;obtain⟨e1,e2⟩:=Z8 e;obtain⟨f1,f2⟩:=Prod.mk.inj e1;exact⟨f1.trans h1,f2.trans h2,h3,h4,zBA h5 e2⟩
 | s,p::r,[],_,_,e=>by cases e
 | s,[],p::r,_,_,e=>by cases e
 | s,p::r,p'::r',[],h,_=>h.elim
structure IV (a₀:Array vS) (st:vc) (lo:Nat) (S:List vS):Prop where
 kind:kindOf st=uG
 fail:uT st=none
 perm:(vN st).Perm a₀
 runs:∃Xs,(vN st).toList=Xs.flatten++S/\WH 0 (ve st).toList Xs/\Xs.flatten.length=lo
section
variable{prog:vU}{w:vZ}{A:vf}{E:vB->vC->Prop}{s:vC}
theorem IV.ints{a₀:be}{st:vc}{lo:Nat}{S:dh}(h:MX)(h0:lm):IntKeys eC:=λp hp=>h0 p J7
theorem Wg{a₀:be}{st:vc}{lo i:Nat}{S:dh}{Q:Gu}(h0:lm)(V:MX)(hi:i+1<(ve st).size)(h:∀st',IV a₀ st' lo S->(ve st').size+1=(ve st).size->Q true st'):wpS aj A E s (mergeAt' i) Q st:=by
 obtain⟨Xs,e1,e2,e3⟩:=V.runs;obtain⟨Pre,X,Y,zBY,pw,pw2,rfl,g1,g2,g3,g4,g5,g6,g7⟩:=zBq i 0 _ _ e2 ⇑hi;rw[xb]at g1 g2 g7;rw[zc]at g1 g2;have hl:(vN st).toList=Pre.flatten++X++Y++JG:=by
  rw[e1];simp
 refine zAv (V.ints h0) V.kind V.fail g1 g2 hl rfl rfl rfl rfl g3 g4 g5 g6 λst' R k1 k2 k3 k4 k5 k6=>?_;have lR:R.length=X.length+Y.length:=by rw[k5.length_eq,zC]
 refine h st' ⟨k1,k2,?_,Pre++R::zBY,?_,?_,?_⟩ ?_
 ·refine Array.Perm.trans ?_ V.perm
  rw[wC,k4,hl];have:Pre.flatten++X++Y++JG=Pre.flatten++(X++Y)++JG:=by simp
  rw[this];exact xB _ (yW _ k5)
 ·rw[k4];simp
 ·rw[k3]
  have:=g7 R lR k6;rw[wW,ZE];exact this
 ·rw[<- e3];simp[lR];omega
 ·rw[k3]
  have hi':i+1<((ve st).setIfInBounds i (Pre.flatten.length,abK,pw)).size:=by simpa using hi
  rw[<- zK,wW,List.length_eraseIdx];rw[vH ⇑hi];simp;omega
end
end So
set_option maxHeartbeats 2000000
namespace So
open PySem PyProof.Rows
theorem zAL{α β:Type}{g:α->β}{f:α->α}(h:∀x,g (f x)=g x):∀(l:bE)(i:Nat),(l.modify i f).map g=l.map g
 | [],i=>by simp
 | x::l,0=>by simp[h]
 | x::l,i+1=>by simp[zAL h l i]
theorem zAi:∀{s:Nat}{ps:ms}{Xs:RW},WH s ps Xs->Xs.length<=Xs.flatten.length
 | _,[],[],_=>zN _
 | _,_::_,X::Xs,h=>by
  have:=zAi h.2.2.2.2;have:=h.2.2.1;rw[zI,yC,zC];omega
theorem IV.push{a₀:be}{st:vc}{lo m:Nat}{X S:dh}(V:IV a₀ st lo (X++S))(lX:X.length=m)(h1:1<=m)(sX:Srt X):IV a₀ (setPending st ((ve st).push (lo,m,0))) (lo+m) S:=by
 obtain⟨Xs,e1,e2,e3⟩:=V.runs;refine⟨V.kind,V.fail,V.perm,Xs++[X],?_,?_,?_⟩
 ·show (vN st).toList=_
  rw[e1];simp
 ·show WH 0 ((ve st).push (lo,m,0)).toList _
  have:=zAo (pw:=0) e2 (∅:1<=X.length) sX;rw[xb,e3,lX]at this;rw[ZL];exact this
 ·rw[wv,zC,e3];simp[lX]
theorem IV.pow{a₀:be}{st:vc}{lo i pw:Nat}{S:dh}(V:MX):IV a₀ (setPending st ((ve st).modify i λx=>Tw)) lo S:=by
 obtain⟨Xs,e1,e2,e3⟩:=V.runs;refine⟨V.kind,V.fail,V.perm,Xs,e1,?_,e3⟩;show WH 0 ((ve st).modify i λx=>Tw).toList _;refine zBA e2 ?_;rw[Array.toList_modify];exact zAL (g:=λp:Nat×Nat×Nat=>Rr) (f:=λx=>(x.1,x.2.1,pw)) Fb _ _
theorem Within.wider{lo hi hi':Nat}{a b:vc}(h:CS)(hh:hi<=hi'):Within lo hi' a b:=⟨h.kind,h.pend,h.fail,h.perm,λt ht=>h.out t ∅⟩
section
variable{prog:vU}{w:vZ}{A:vf}{E:vB->vC->Prop}{s:vC}
theorem zAx{a₀:be}{st:vc}{Q:Gi}(h0:lm)(hB:Bi)(h:∀st',(vN st').Perm a₀->uT st'=none->uk bP a₀.size->Q () st'):wpS aj A E s sortRuns' Q st:=by
 rw[sortRuns'_eq];refine vL oK;have hsz:=hB.size
 dsimp -zeta only
 simp -zeta only[hsz];have V0:IV a₀ st 0 (vN st).toList:=⟨hB.kind,hB.failed,hB.perm,[],rfl,by rw[hB.pend];trivial,rfl⟩;refine vL (uF (vi
  (I:=λx c st'=>∃lo S,c=(none,lo)/\IV a₀ st' lo S/\lo<=a₀.size/\(x<=lo\/lo=a₀.size))
  (Q:=λc st'=>c=JO/\∃S,IV a₀ st' a₀.size S) ?_ ?_ ⟨0,_,rfl,V0,B5,.inl bM⟩) ?_)
 ·rintro x c st1 _ hx ⟨lo,S,rfl,V,b1,b2⟩
  dsimp -zeta only
  have hsz1:(vN st1).size=a₀.size:=V.perm.size_eq
  by_cases z:lo>=a₀.size
  ·refine XX z ?_
   have:lo=a₀.size:=∅
   subst this;exact vO ⟨rfl,S,V⟩
  refine XN z ?_;have i1:=V.ints h0;refine vL (zC0 i1 V.kind ∅ ∅ λn st2 n1 n2 W Sr=>?_)
  dsimp -zeta only
  have key:∀(m:Nat)(st3:vc),1<=m->m<=a₀.size-lo->Within lo (lo+oD) st1 st3->SrK oy lo m->∃X S',IV a₀ st3 lo (X++S')/\X.length=m/\Srt X:=λm st3 m1 m2 W3 S3=>by
   obtain⟨Xs,e1,e2,e3⟩:=V.runs;have sz3:(vN st3).size=a₀.size:=W3.size.trans hsz1;have tk:(vN st3).toList.take lo=Xs.flatten:=by
    have:(vN st3).toList.take lo=(vN st1).toList.take lo:=by
     apply yx;intro t
     by_cases ht:t<lo
     ·rw[wK ht,wK ht,zc,zc]
      exact W3.out t (.inl ht)
     ·rw[ZF ∅,ZF ∅]
    rw[this,e1,<- e3,Yv]
   refine⟨((vN st3).toList.drop lo).take m,((vN st3).toList.drop lo).drop m,⟨W3.kind.trans V.kind,W3.fail.trans V.fail,W3.perm.trans V.perm,Xs,?_,?_,e3⟩,?_,?_⟩
   ·rw[yG,<- tk,yG]
   ·rw[W3.pend];exact e2
   ·rw[ze,yM,zK];omega
   ·rw[Srt,yb]
    intro i j hi hj hij;rw[ze,yM,zK]at hj;have:=S3 i j ∅ ∅;have q1:(vN st3)[Cc]?=some (vN st3)[Cc]:=getElem?_pos _ _ ∅;have q2:(vN st3)[HY]?=some (vN st3)[HY]:=getElem?_pos _ _ ∅;rw[zB6 q1,zB6 q2]at this;rw[xS,xS,xr,xr];exact this
  have sz2:=W.size
  by_cases zm:n<si a₀.size a₀.size 0
  case' pos=>
   refine XX zm ?_;refine vL ff;refine vL (zBM (W.ints i1) (W.kind.trans V.kind) ∅ ∅ Sr λst3 W3 S3=>?_);refine XN (by decide) ?_;have f1:1<=min oD l0:=∅
   have f2:min oD l0<=a₀.size-lo:=∅
   have W4:=W.trans (W3.wider (∅:lo+min oD l0<=lo+oD));generalize min oD l0=m at f1 f2 S3 ⊢;obtain⟨X,S',V3,lX,sX⟩:=key m st3 f1 f2 W4 S3
  case' neg=>
   refine XN zm ?_;obtain⟨X,S',V3,lX,sX⟩:=key n st2 n1 n2 W Sr;have f1:=n1;have f2:=n2;generalize hm:n=m at lX f1 f2 ⊢;generalize hst3:st2=st3 at V3 ⊢
  all_goals
   refine vL oK;cases hb:(ve st3).back? with
   | none=>
    dsimp -zeta only
    exact vL (ud (vO ⟨lo+m,S',rfl,V3.push lX f1 sX,∅,.inl ∅⟩))
   | some p=>
    obtain⟨s1,n1',pp⟩:=p
    dsimp only
    refine vL (uF (vi (I:=λy c st'=>c=(none,())/\IV a₀ st' lo (X++S')) (Q:=λc st'=>c=(none,())/\IV a₀ st' lo (X++S')) ?_ (λ_ _ hh=>hh) ⟨rfl,V3⟩) ?_)
    ·rintro y c st4 _ _ ⟨rfl,V4⟩
     refine vL oK
     by_cases zp:(ve st4).size>1
     ·rw[vH zp,getElem?_pos (ve st4) ace ∅]
      generalize (ve st4)[ace]=row;obtain⟨r1,r2,r3⟩:=row
      dsimp only
      split
      ·exact vO ⟨rfl,V4⟩
      ·refine vL (Wg h0 V4 ∅ λst5 V5 _=>?_)
       refine XN (by decide) ?_;exact vO ⟨rfl,V5⟩
     ·rw[vJ zp]
      exact vO ⟨rfl,V4⟩
    ·rintro c st4 ⟨rfl,V4⟩
     dsimp only
     exact vL (ud (vL (ud (vO ⟨lo+m,S',rfl,V4.pow.push lX f1 sX,∅,.inl ∅⟩))))
 ·rintro c st1 ⟨lo,S,rfl,V,b1,b2⟩
  have:lo=a₀.size:=∅
  subst this;exact⟨rfl,S,V⟩
 ·rintro c st1 ⟨rfl,S,V⟩
  dsimp -zeta only
  have hsz1:(vN st1).size=a₀.size:=V.perm.size_eq;have many:∀st' S',IV a₀ st' a₀.size S'->(ve st').size<=a₀.size:=λst' S' V'=>by
   obtain⟨Xs,e1,e2,e3⟩:=V'.runs;have l1:=zAW e2;have l2:=zAi e2;rw[zK]at l1;omega
  have m1:=many st1 S V;refine vL (uF (vi
   (I:=λx c st'=>c=(none,())/\IV a₀ st' a₀.size S/\((ve st').size<=1\/(ve st').size+x<=(ve st1).size))
   (Q:=λc st'=>c=(none,())/\IV a₀ st' a₀.size S/\(ve st').size<=1) ?_ ?_ ⟨rfl,V,.inr ∅⟩) ?_)
  ·rintro x c st2 _ _ ⟨rfl,V2,b⟩
   refine vL oK
   by_cases z:(ve st2).size<=1
   ·refine XX z ?_
    exact vO ⟨rfl,V2,z⟩
   refine XN z ?_;have hx:∀c:Bool,(if c=true then (ve st2).size-2-1 else (ve st2).size-2)+1<(ve st2).size:=λc=>by cases c <;> simp <;> omega
   refine vL (Wg h0 V2 (hx _) λst3 V3 hs=>?_);refine XN (by decide) ?_;exact vO ⟨rfl,V3,.inr ∅⟩
  ·rintro c st2 ⟨rfl,V2,b⟩
   exact⟨rfl,V2,∅⟩
  ·rintro c st2 ⟨rfl,V2,b⟩
   dsimp only
   refine vO (h st2 V2.perm V2.fail ?_);obtain⟨Xs,e1,e2,e3⟩:=V2.runs;have sz2:(vN st2).size=a₀.size:=V2.perm.size_eq;have hS:S=[]:=by
    have:=v4 xf e1;rw[zC,zK,e3,sz2]at this;exact ZX.mp ∅
   have hl:=zAW e2;rw[zK]at hl;have st:Srt (vN st2).toList:=by
    rw[e1,hS,zk]
    match Xs,e2,hl with
    | [],_,_=>exact xQ
    | [X],e2,_=>
     rw[yC,Yd,zk]
     match hp:(ve st2).toList,e2 with
     | p::r,e2=>exact e2.2.2.2.1
    | X::Y::Z,_,hl=>rw[zI,zI]at hl;omega
   exact λi j h1 h2=>zBi st h1 ∅
end
end So
set_option maxHeartbeats 2000000
namespace So
open PySem PyProof.Rows
section
variable{prog:vU}{w:vZ}{A:vf}{E:vB->vC->Prop}{s:vC}
theorem zCU{a:vG}{xs:bx}{is:af}{k:Nat}{P:Fin->vC->Prop}(at_:s.heap.get? a=some (v3 "list" xs.toArray k))(hin:uH xs is)(big:2<=xs.length)(fits:aap)(h:∀(o:cK)(js:af),uH o.toList js->js.Perm is->js.Pairwise (· <= ·)->P md { s with heap:=sortedHeap s.heap a xs o }):vM aj A (Builtin.«list.sort» HN) P E s:=by
 have la:=zM at_;have empty:=get?_update_seq at_ (λ_=>(#[]:Array vB));rw[list_sort_plain];refine vA (sm at_ rfl (vA (uu at_ rfl ?_)));refine vA (sK empty rfl (vA (u4 (vA (ut Fy)))));have still:(((s.heap.update a (Obj.mapSeq λ_=>#[])).push Nc).push (v3 "list" #[] 0)).get? a=some _:=zG _ (zG _ empty)
 change vM aj A _ P E (Shared.mk (((s.heap.update a (Obj.mapSeq λ_=>#[])).push Nc).push (v3 "list" #[] 0)) _ _ _ _)
 have many:¬xs.toArray.size<2:=by rw[zP];omega
 dsimp only
 rw[vJ many,vJ many];have kk:keyKind' xs.toArray=pure uG:=by
  match xs,big,hin with
  | _::_::_,_,hin=>exact keyKind_ints hin
 rw[kk];refine vA eP;have base:tI (pairsOf xs) (SortSt.mk' uG (xs.toArray.zip xs.toArray) #[] 7 none):=Q2;refine vA (vz (zAx (Q:=λ_ t=>(vN t).Perm (pairsOf xs)/\uT t=none/\uk (vN t) (pairsOf xs).size) hin.intKeys base λt q1 q2 q3=>⟨q1,q2,q3⟩) (λr s3 hr=>?_) λ_ _ z=>z);obtain⟨⟨⟩,t⟩:=r;obtain⟨rfl,q1,q2,q3⟩:=hr
 dsimp only
 obtain⟨js,c1,c2,c3⟩:=sorted_out hin q1 q3;have lt:((vN t).map (·.2)).size<=sizeLine:=by
  rw[Yu,q1.size_eq,pairsOf_size,vj];omega
 refine vA (sK still rfl (vA (uu still rfl ?_ (hsz2:=wS lt))));rw[q2];simp only[bne_self_eq_false,yI,if_false];exact vF (h _ js c1 c2 c3)
theorem sorted_any{l:vG}{xs:bx}{is:af}{Q:aH}(isl:s.heap.IsList l xs.toArray)(hin:uH xs is)(fits:aap)(h:∀(o:cK)(js:af),uH o.toList js->js.Perm is->js.Pairwise (· <= ·)->Q (.ref iz) { s with heap:=sortedAll s.heap xs o }):vM aj A (call fA [cF]) Q E s:=by
 by_cases few:xs.length<64
 ·exact sorted_ints isl hin few h
 refine Calls.call_function_entry sC tm tq (se cF) ?_;unfold Builtin.«sorted»;refine vA (m:=sU "sorted" 1 1 _) (vF (vA (collect_list isl ?_ (by rw[vj];omega))));have many:((s.heap.push (v3 "list" #[] 0)).update s.heap.objs.size (Obj.mapSeq (·++xs.toArray))).objs.size=s.heap.objs.size+1:=(xg _ _ _).trans (size_push' _ _);refine vA (ut ?_);generalize hh:(s.heap.push (v3 "list" #[] 0)).update s.heap.objs.size (Obj.mapSeq (·++xs.toArray))=h2 at many ⊢;have here:(h2.push By).get? iz=some By:=by
  have:=zS h2 (o:=v3 "list" xs.toArray 0) rfl
  rwa [many]at this
 change vM _ _ _ _ _ (Shared.mk (h2.push By) _ _ _ _)
 rw[many];refine vA (vh (vk slot_list_sort ⟨_,here,rfl⟩ entry_list_sort ?_ (sD _)));refine zCU here hin ∅ fits λo js c1 c2 c3=>?_;refine⟨_,rfl,vF ck⟩;subst hh;exact h o js c1 c2 c3
end
end So
namespace Hk
open PySem L2
def rSortB:List V->Hp->VK->Prop:=λxs H Q=>∃p ns,xs=N7/\H p=some Gy/\ns.length<=1000000/\∀l,H l=none->Q cF Fz
noncomputable def zCg:D->Option R
 | .lst ds=>(intsOf ds).bind λns=>if ns.length<=1000000 then some mO else none
 | _=>none
noncomputable def zBK(f:FD):FE:=λω=>(f ω).bind zCg
section
variable{X:Cx}
theorem qdg:WN X fA rSortB:=by
 intro pins s σ H xs us Q I r h;obtain⟨p,ns,rfl,hp,hz,q⟩:=h;obtain⟨u,rfl,rx⟩:=vals1 r;cases rx;obtain⟨its,n,rv,e,_⟩:=I.lst hp;have hlen:its.length=ns.length:=by rw[<- rv.length,zA]
 refine So.sorted_any mW (q1c rv) ∅ λout ns' a1 a2 a3=>?_;obtain⟨m,hm⟩:=PyProof.Rows.sortedAll_at s.heap its out;have en:ns'=Xd ns:=q1d a3 q0E Hg;subst en;have hsl:(Xd ns).length<=sizeLine:=by rw[q5t,vj];omega
 have I2:=I.laid (a:=s.heap.objs.size+1) (o:=.lst gJ) (t':=s.toks) Ee M9
  (show Xk X.prog X.w _ Es _ R5 from ⟨by rw[zA];exact hsl,out.toList,m,q1H a1,by rw[xt];exact hm⟩)
 exact B0
theorem qa3{a:vW}{f:FD}{p q:Pos}(hg:Ci)(hm:j7)(ha:de)(he:lx:=by rfl)(hpl:(vt q cG).any (·.1)=false:=by rfl):XE X S7 (zBK f):=by
 obtain⟨t,h1,h2⟩:=ha;refine⟨_,q2q qdg hg hm q2F (qA h1 qy he) (by decide) (by decide) he hpl,bZ⟩;obtain⟨d,z,e⟩:=bnd e;refine h2 G0 H0 G ω σ H d _ o z λv G1 H1 x1 y1=>?_;cases d with
 | lst ds=>
  obtain⟨ns,e1,e2⟩:=bnd (show (intsOf ds).bind _=some r from e);have hds:=q0C e1;subst hds
  by_cases hz:ns.length<=1000000
  ·rw[U4]at e2
   cases e2;obtain⟨p,vs,rfl,g1,g2⟩:=y1.lst x1.gh;have hv:=g2.of_ints;subst hv;refine Ka;have x2:=Ext.hide x1.gh hl ab7;exact k _ G1 _ ee rY
  ·rw[U3]at e2;cases e2
 | _=>cases e
noncomputable def zCX(o:eQ):Option R:=o.bind zCg
theorem q9G{fd:FD}{ω:WSt}:zBK fd ω=zCX nD:=rfl
theorem q9c{ns:af}(h:ns.length<=1000000):zCX (some QJ)=some mO:=by
 show (intsOf cY).bind _=_;rw[qR];exact vH h
end
end Hk
set_option maxHeartbeats 4000000
namespace Kx
open PySem L2 Hk
noncomputable def top(i:Nat):vp:=PySem.Challenge.pw_hookrail_k55_yards_and_rails.main.body.getD i (.Pass ⟨0,0,0,0⟩)
section
variable{P:vU}{w:vZ}{K:zB}{mg:Str->Option vB}{base:vm}{f:vG}{fd:vQ}
noncomputable def q7i:FS:=(Xp (eOf (zAd (dOf (zA7 .int ax)) (vNot (dOf (zA7 .bl ax))))))
noncomputable def qB:List D->Option O:=mir 1 q7i
noncomputable abbrev q4K:vp:=top 7
theorem qds:FnScope jZ jZ (Y9 q4K):=ah
variable(z0:mg "isinstance" = none)
variable(z9:mg "bool" = none)
variable(z10:mg "int" = none)
variable(z11:IsT K .int)
variable(z12:IsT K .bl)
include z0 z9 z10 z11 z12 in
theorem qbk(F:Fun K "is_whole" "is_whole" q4K f fd):FnOk P w K mg base CX0 1 f fd jZ (spD K 1 qB):=by
 have h:=fnD (P:=P) (w:=w) (mg:=mg) (base:=base) (k:=0) (body:=q7i) F qds (λcdv A outer s H E hr=>
   (qc (qf (XD.toE (qW (XE.toD (q0I jA z11 rfl z0 rfl z10 qky)) (q0p (qjT (XE.toD (q0I jA z12 rfl z0 rfl z9 qhX)))))))))
 exact h
noncomputable def q6t:FS:=(Xp (eOf (zAd (dOf (zA7 .tup ax)) (zAd (dOf (XH iE gY cP)) (zAd (dOf Uq) N2)))))
noncomputable def q39:List D->Option O:=mir 1 q6t
noncomputable abbrev q6A:vp:=top 8
theorem qgP:FnScope jZ jZ (Y9 q6A):=ah
variable{fc13:vG}{dc13:vQ}(c13:Cal P w K mg base 1 fc13 dc13 "is_whole" ["thing"] 1 qB)
variable(z14:mg "len" = none)
variable(z15:mg "tuple" = none)
variable(z16:IsT K .tup)
include z0 c13 z14 z15 z16 in
theorem qeM(F:Fun K "is_box" "is_box" q6A f fd):FnOk P w K mg base CX0 2 f fd jZ (spD K 1 q39):=by
 have h:=fnD (P:=P) (w:=w) (mg:=mg) (base:=base) (k:=1) (body:=q6t) F qgP (λcdv A outer s H E hr=>
   (qc (qf (XD.toE (qW (XE.toD oN) (qW (XE.toD (zAm hr.units ci ak)) (qW j6 (q0p j6))))))))
 exact h
noncomputable def q5a:FD:=(dOf (XJ q39 aY))
noncomputable def q2w:FS:=(Xc (sIf (zBO (X5 (Wo (vOf Up))) (zBO (X5 (Wo (vOf (XJ qB AJ)))) Kw)) a9 WY)
  (Xp (X4 W7 (Y5 (vOf (Xo 1 [] PL dz Xl q5a)) XL))))
noncomputable def qQ:List D->Option O:=mir 3 q2w
noncomputable abbrev q3R:vp:=top 9
theorem qaW:FnScope au au (Y9 q3R):=ah
variable{fc17:vG}{dc17:vQ}(c17:Cal P w K mg base 2 fc17 dc17 "is_box" ["thing"] 1 q39)
variable(z18:mg "list" = none)
variable(z19:mg "all" = none)
variable(z20:IsT K .lst)
include z0 c13 c17 z18 z19 z20 in
theorem qaG(F:Fun K "is_errand" "is_errand" q3R f fd):FnOk P w K mg base CX0 3 f fd au (spD K 3 qQ):=by
 have h:=fnD (P:=P) (w:=w) (mg:=mg) (base:=base) (k:=2) (body:=q2w) F qaW (λcdv A outer s H E hr=>
   (qb (qC (XW.toT (q2t (qM (qE (XE.toV L1))) (q2t (qM (qE (XE.toV (xc c13 hr Dt)))) (q4d Av)))) bH qu)
   (qc (qf (qr nN q1m rfl z19 q1p (qj (XE.toV (qz rfl (blk Kt [] [] rfl ⋯ ⋯ rfl trivial) (qp jP) ir (λ_ _ _ _=>⟨(qh (i:=0) (show (kX++cg:List Str).Nodup from by decide +kernel) rfl aB),qv,(XE.toD (xc c17 hr bL))⟩))) qo))))))
 exact h
noncomputable def q2c:FS:=(sIf (X5 (Wo (vOf (XJ qQ ai)))) sNo WY)
noncomputable def q02:List D->Option O:=mir 3 q2c
noncomputable abbrev q2e:vp:=top 10
theorem q7M:FnScope au au (Y9 q2e):=ah
variable{fc21:vG}{dc21:vQ}(c21:Cal P w K mg base 3 fc21 dc21 "is_errand" ["home", "last", "boxes"] 3 qQ)
include c21 in
theorem q7h(F:Fun K "check_errand" "check_errand" q2e f fd):FnOk P w K mg base CX0 4 f fd au (spD K 3 q02):=by
 have h:=fnD (P:=P) (w:=w) (mg:=mg) (base:=base) (k:=3) (body:=q2c) F q7M (λcdv A outer s H E hr=>
   (qc (qC (qM (qE (XE.toV (xc c21 hr ar)))) Me qu)))
 exact h
noncomputable def q6M:FS:=(zCp 3 ja)
noncomputable def q7D:FS:=(Xc U1
  (Xc (Xq 3 (zAA aD))
  (Xc (zAC PL Dp q6M)
  (Xp (X7 bp)))))
noncomputable def q1L:List D->Option O:=mir 5 q7D
noncomputable abbrev q7P:vp:=top 11
theorem q7E:FnScope ["home", "last", "boxes", "places", "box"] au (Y9 q7P):=ah
variable{fc22:vG}{dc22:vQ}(c22:Cal P w K mg base 4 fc22 dc22 "check_errand" ["home", "last", "boxes"] 3 q02)
variable(z23:mg "sorted" = none)
variable(z24:mg "set" = none)
include c22 z23 z24 in
theorem qgz(F:Fun K "stops" "stops" q7P f fd):FnOk P w K mg base CX0 5 f fd au (spD K 3 q1L):=by
 have h:=fnD (P:=P) (w:=w) (mg:=mg) (base:=base) (k:=4) (body:=q7D) F q7E (λcdv A outer s H E hr=>
   (qb Rp
   (qb (qm (i:=3) q7E.nd rfl (Or.inl rfl) (Xr aX))
   (qb (qP PassesOwn.never rfl (qp jP) (qh (i:=4) q7E.nd rfl aB) (qc (q7v mH Dg)))
   (qc (qf (q4N rfl z23 rfl z24 ki)))))))
 exact h
noncomputable def q9d:FS:=(Xc (Xq 3 (eOf Bl))
  (Xp (X4 Ws (Y5 bp (Y5 (vOf (fSl bp (pAt aL) pNo)) XL)))))
noncomputable def q24:List D->Option O:=mir 4 q9d
noncomputable abbrev q9Z:vp:=top 12
theorem qfw:FnScope ["home", "last", "boxes", "places"] au (Y9 q9Z):=ah
variable{fc25:vG}{dc25:vQ}(c25:Cal P w K mg base 5 fc25 dc25 "stops" ["home", "last", "boxes"] 3 q1L)
variable(z26:mg "zip" = none)
include z18 c25 z26 in
theorem qj9(F:Fun K "gaps" "gaps" q9Z f fd):FnOk P w K mg base CX0 6 f fd au (spD K 3 q24):=by
 have h:=fnD (P:=P) (w:=w) (mg:=mg) (base:=base) (k:=5) (body:=q9d) F qfw (λcdv A outer s H E hr=>
   (qb (qm (i:=3) qfw.nd rfl (Or.inl rfl) RN)
   (qc (qf (qdi rfl z18 rfl z26 (qj ki (qj (XE.toV (WQ ki VM Wy)) qo)))))))
 exact h
noncomputable def q3e:FD:=(zAb (Y5 dN (Y5 cX (Y5 (dOf acT) XL))))
noncomputable def q3T:FS:=(Xp (Xo 1 [] (WA nZ) dz Xl q3e))
noncomputable def q0k:List D->Option O:=mir 3 q3T
noncomputable abbrev q41:vp:=top 13
theorem qaZ:FnScope au au (Y9 q41):=ah
variable{fc27:vG}{dc27:vQ}(c27:Cal P w K mg base 6 fc27 dc27 "gaps" ["home", "last", "boxes"] 3 q24)
include c27 in
theorem qaQ(F:Fun K "gap_edges" "gap_edges" q41 f fd):FnOk P w K mg base CX0 7 f fd au (spD K 3 q0k):=by
 have h:=fnD (P:=P) (w:=w) (mg:=mg) (base:=base) (k:=6) (body:=q3T) F qaZ (λcdv A outer s H E hr=>
   (qc (qf (qz rfl (blk Ks [] [] rfl ⋯ ⋯ rfl trivial) (qp kr) ir (λ_ _ _ _=>⟨(qh (i:=0) (show (kW++cg:List Str).Nodup from by decide +kernel) rfl aB),qv,(Xw (Y4 bi (Y4 bi (Y4 (XE.toD (q0J bF bF)) Y7))))⟩)))))
 exact h
noncomputable def q3G:FS:=(Xp (eOf (zAd (dOf (XH oLe ax (vOf (XH oIx bN aM)))) (dOf (XH oLe (vOf (XH oIx bN aL)) bg)))))
noncomputable def q0o:List D->Option O:=mir 3 q3G
noncomputable abbrev q3j:vp:=top 15
theorem qal:FnScope Ce Ce (Y9 q3j):=ah
theorem q8S(F:Fun K "leads_over" "leads_over" q3j f fd):FnOk P w K mg base CX0 1 f fd Ce (spD K 3 q0o):=by
 have h:=fnD (P:=P) (w:=w) (mg:=mg) (base:=base) (k:=0) (body:=q3G) F qal (λcdv A outer s H E hr=>
   (qc (qf (XD.toE (qW (XE.toD (q97 jA SQ)) (q0p (XE.toD (q97 SQ ga))))))))
 exact h
noncomputable def q4w:FT:=(Wo (vOf (XJ q0o (Y5 dN (Y5 cX AJ)))))
noncomputable def q4D:FD:=bj
noncomputable def q4A:FT:=(Wo (vOf (XJ q0o (Y5 cX (Y5 dN AJ)))))
noncomputable def q4M:FD:=bj
noncomputable def q5F:FS:=(Xc (Xq 2 (Xo 1 [1] Am dz q4w q4D))
  (WL 2 (Xc (Xq 3 (Xo 1 [1] Am dz q4A q4M))
  (WL 3 (Xp (eOf (zAb (Y5 (dOf rR) (Y5 (dOf (X4 zAF MC)) XL)))))))))
noncomputable def q0A:List D->Option O:=mir 4 q5F
noncomputable abbrev q5m:vp:=top 16
theorem q5w:FnScope ["boxes", "gap", "rights", "lefts"] pV (Y9 q5m):=ah
variable{fc28:vG}{dc28:vQ}(c28:Cal P w K mg base 1 fc28 dc28 "leads_over" ["start", "goal", "gap"] 3 q0o)
include z14 c28 in
theorem qdm(F:Fun K "crossed" "crossed" q5m f fd):FnOk P w K mg base CX0 2 f fd pV (spD K 2 q0A):=by
 have h:=fnD (P:=P) (w:=w) (mg:=mg) (base:=base) (k:=1) (body:=q5F) F q5w (λcdv A outer s H E hr=>
   (qb (q29 (i:=2) rfl q5w.nd rfl rfl (blk Kt Ks [1] rfl ⋯ ⋯ rfl ⟨⟨rfl,(by first|exact Or.inl rfl|exact Or.inr rfl),rfl⟩,trivial⟩) Do ir (λ_ _ _ _=>⟨(qh (i:=0) (show (kX++kW:List Str).Nodup from by decide +kernel) rfl aB),pB,fB⟩))
   (q0c 2 (qb (q29 (i:=3) rfl q5w.nd rfl rfl (blk Kt Ks [1] rfl ⋯ ⋯ rfl ⟨⟨rfl,(by first|exact Or.inl rfl|exact Or.inr rfl),rfl⟩,trivial⟩) Do ir (λ_ _ _ _=>⟨(qh (i:=0) (show (kX++kW:List Str).Nodup from by decide +kernel) rfl aB),pB,fB⟩))
   (q0c 3 (qc (qf (XD.toE (Xw (Y4 (XE.toD iQ) (Y4 (XE.toD ID) Y7)))))))))))
 exact h
noncomputable def q9l:FS:=(Xc (Xq 4 (eOf (dOf (XJ q0A (Y5 (dOf Pe) Ho)))))
  (Xc (Xq 5 (eOf (dOf (XJ q0A (Y5 b0 Ho)))))
  (Xp (XH WC (vOf (XH zBC (vOf (XH zBC (vOf MN) (vOf MO))) (vOf ER))) (vOf acW)))))
noncomputable def q58:List D->Option O:=mir 6 q9l
noncomputable abbrev qa7:vp:=top 17
theorem qaf:FnScope ["home", "last", "boxes", "gap", "own", "carried"] JV (Y9 qa7):=ah
variable{fc29:vG}{dc29:vQ}(c29:Cal P w K mg base 2 fc29 dc29 "crossed" ["boxes", "gap"] 2 q0A)
include c29 in
theorem qif(F:Fun K "lack" "lack" qa7 f fd):FnOk P w K mg base CX0 3 f fd JV (spD K 4 q58):=by
 have h:=fnD (P:=P) (w:=w) (mg:=mg) (base:=base) (k:=2) (body:=q9l) F qaf (λcdv A outer s H E hr=>
   (qb (qm (i:=4) qaf.nd rfl (Or.inl rfl) (XD.toE (XE.toD (xc c29 hr (Y4 (XE.toD RH) Hs)))))
   (qb (qm (i:=5) qaf.nd rfl (Or.inl rfl) (XD.toE (XE.toD (xc c29 hr (Y4 jP Hs)))))
   (qc (qf (qF (XE.toV (q0J (XE.toV (q0J SO SO)) SR)) SR))))))
 exact h
noncomputable def qaP:FD:=(dOf (XJ q58 MB))
noncomputable def q80:FS:=(Xp (Xo 1 [0,1,2] (WA nZ) dz Xl qaP))
noncomputable def q2l:List D->Option O:=mir 3 q80
noncomputable abbrev q82:vp:=top 18
theorem qja:FnScope au au (Y9 q82):=ah
variable{fc30:vG}{dc30:vQ}(c30:Cal P w K mg base 3 fc30 dc30 "lack" ["home", "last", "boxes", "gap"] 4 q58)
include c27 c30 in
theorem qgX(F:Fun K "lacks" "lacks" q82 f fd):FnOk P w K mg base CX0 7 f fd au (spD K 3 q2l):=by
 have h:=fnD (P:=P) (w:=w) (mg:=mg) (base:=base) (k:=6) (body:=q80) F qja (λcdv A outer s H E hr=>
   (qc (qf (qz rfl (blk Ks au [0,1,2] rfl ⋯ ⋯ rfl ⟨⟨rfl,(by first|exact Or.inl rfl|exact Or.inr rfl),rfl⟩,⟨⟨rfl,(by first|exact Or.inl rfl|exact Or.inr rfl),rfl⟩,⟨⟨rfl,(by first|exact Or.inl rfl|exact Or.inr rfl),rfl⟩,trivial⟩⟩⟩) (qp kr) ir (λ_ _ _ _=>⟨(qh (i:=0) (show (kW++(au:List Str):List Str).Nodup from by decide +kernel) rfl aB),qv,(XE.toD (xc c30 hr MF))⟩)))))
 exact h
noncomputable def q4O:FD:=(dOf (XH oLe bg (vOf (X4 zCH (Y5 ax XL)))))
noncomputable def q56:FS:=(Xp (eOf (zAd (dOf (XJ qQ (Y5 bj aD))) (dOf (X4 W7 (Y5 (vOf (Xo 1 [0] VO dz Xl q4O)) XL))))))
noncomputable def q1J:List D->Option O:=mir 2 q56
noncomputable abbrev q5d:vp:=top 20
theorem qfu:FnScope db db (Y9 q5d):=ah
variable(z31:mg "min" = none)
include z19 c21 z31 in
theorem qda(F:Fun K "is_yard" "is_yard" q5d f fd):FnOk P w K mg base CX0 4 f fd db (spD K 2 q1J):=by
 have h:=fnD (P:=P) (w:=w) (mg:=mg) (base:=base) (k:=3) (body:=q56) F qfu (λcdv A outer s H E hr=>
   (qc (qf (XD.toE (qW (XE.toD (xc c21 hr (Y4 fB aX))) (q0p (XE.toD (qr nN q1m rfl z19 q1p (qj (XE.toV (qz rfl (blk Kt ["gate"] [0] rfl ⋯ ⋯ rfl ⟨⟨rfl,(by first|exact Or.inl rfl|exact Or.inr rfl),rfl⟩,trivial⟩) (qp kH) ir (λ_ _ _ _=>⟨(qh (i:=0) (show (kX++(["gate"]:List Str):List Str).Nodup from by decide +kernel) rfl aB),qv,(XE.toD (q97 ga (XE.toV (qr (qfl rfl) qjd rfl z31 qjY (qj jA qo)))))⟩))) qo)))))))))
 exact h
noncomputable def q3q:FS:=(sIf (X5 (Wo (vOf (XJ q1J aD)))) sNo WY)
noncomputable def q03:List D->Option O:=mir 2 q3q
noncomputable abbrev q3v:vp:=top 21
theorem q9D:FnScope db db (Y9 q3v):=ah
variable{fc32:vG}{dc32:vQ}(c32:Cal P w K mg base 4 fc32 dc32 "is_yard" ["gate", "boxes"] 2 q1J)
include c32 in
theorem q92(F:Fun K "check_yard" "check_yard" q3v f fd):FnOk P w K mg base CX0 5 f fd db (spD K 2 q03):=by
 have h:=fnD (P:=P) (w:=w) (mg:=mg) (base:=base) (k:=4) (body:=q3q) F q9D (λcdv A outer s H E hr=>
   (qc (qC (qM (qE (XE.toV (xc c32 hr aX)))) Me qu)))
 exact h
noncomputable def q2a:FS:=(sIf (tOf (XH fQ bp dP)) (zCp 2 (dOf (zAA (Y5 eK Uh)))) WY)
noncomputable def q2U:FS:=(Xc (Xq 2 (zAA aY))
  (Xc (zAC VO (gT 2 Uo) q2a)
  (Xp (X7 bN))))
noncomputable def q0L:List D->Option O:=mir 5 q2U
noncomputable abbrev q2T:vp:=top 22
theorem q1t:FnScope ["gate", "boxes", "places", "start", "goal"] db (Y9 q2T):=ah
include z23 z24 in
theorem q7C(F:Fun K "yard_places" "yard_places" q2T f fd):FnOk P w K mg base CX0 1 f fd db (spD K 2 q0L):=by
 have h:=fnD (P:=P) (w:=w) (mg:=mg) (base:=base) (k:=0) (body:=q2U) F q1t (λcdv A outer s H E hr=>
   (qb (qm (i:=2) q1t.nd rfl (Or.inl rfl) (Xr bL))
   (qb (qP PassesOwn.never rfl (qp kH) (q2C rfl (qD (qh (i:=3) q1t.nd rfl aB) (qD (qh (i:=4) q1t.nd rfl aB) q1I))) (qc (qC (Wk hr.units ki r9) (qc (q7v Ab (XE.toD (Xr (Y4 pO Um))))) qu)))
   (qc (qf (q4N rfl z23 rfl z24 kG))))))
 exact h
noncomputable def q2h:FS:=(Xp (X4 zCF (Y5 (vOf (XH WC (vOf (XJ q0A aD)) (zAb Uj))) XL)))
noncomputable def q0u:List D->Option O:=mir 2 q2h
noncomputable abbrev q27:vp:=top 23
theorem q7G:FnScope pV pV (Y9 q27):=ah
variable(z33:mg "max" = none)
include c29 z33 in
theorem q7g(F:Fun K "times_passed" "times_passed" q27 f fd):FnOk P w K mg base CX0 3 f fd pV (spD K 2 q0u):=by
 have h:=fnD (P:=P) (w:=w) (mg:=mg) (base:=base) (k:=2) (body:=q2h) F q7G (λcdv A outer s H E hr=>
   (qc (qf (qr (qfa rfl) qim rfl z33 qjG (qj (XE.toV (qF (XE.toV (xc c29 hr aX)) (XD.toV (Xw MI)))) qo)))))
 exact h
noncomputable def q3L:FD:=(dOf (XH WC ax (zAb (Y5 (dOf (XJ q0u Ui)) XL))))
noncomputable def q6U:FS:=(Xc U0
  (Xc (Xq 2 (eOf (dOf (XJ q0L aD))))
  (Xp (Xo 1 [1] (iZp (Y5 b0 (Y5 (dOf (fSl bN (pAt aL) pNo)) XL))) dz Xl q3L))))
noncomputable def q3b:List D->Option O:=mir 3 q6U
noncomputable abbrev q6W:vp:=top 24
theorem qaB:FnScope ["gate", "boxes", "places"] db (Y9 q6W):=ah
variable{fc34:vG}{dc34:vQ}(c34:Cal P w K mg base 5 fc34 dc34 "check_yard" ["gate", "boxes"] 2 q03)
variable{fc35:vG}{dc35:vQ}(c35:Cal P w K mg base 1 fc35 dc35 "yard_places" ["gate", "boxes"] 2 q0L)
variable{fc36:vG}{dc36:vQ}(c36:Cal P w K mg base 3 fc36 dc36 "times_passed" ["boxes", "gap"] 2 q0u)
include z26 c34 c35 c36 in
theorem qfj(F:Fun K "passes" "passes" q6W f fd):FnOk P w K mg base CX0 6 f fd db (spD K 2 q3b):=by
 have h:=fnD (P:=P) (w:=w) (mg:=mg) (base:=base) (k:=5) (body:=q6U) F qaB (λcdv A outer s H E hr=>
   (qb Ro
   (qb (qm (i:=2) qaB.nd rfl (Or.inl rfl) (XD.toE (XE.toD (xc c35 hr aX))))
   (qc (qf (qz rfl (blk Ks Qz [1] rfl ⋯ ⋯ rfl ⟨⟨rfl,(by first|exact Or.inl rfl|exact Or.inr rfl),rfl⟩,trivial⟩) (qhV rfl z26 (Y4 jP (Y4 (XE.toD (WQ kG VM Wy)) Y7))) ir (λ_ _ _ _=>⟨(qh (i:=0) (show (kW++EO:List Str).Nodup from by decide +kernel) rfl aB),qv,(XE.toD (qF jA (XD.toV (Xw (Y4 (XE.toD (xc c36 hr Ul)) Y7)))))⟩)))))))
 exact h
noncomputable def q2P:FD:=(dOf (XH zAy (vOf (XH zAy cP (vOf (XH zBC bg ax)))) bN))
noncomputable def q3i:FS:=(Xp (X4 bSum (Y5 (vOf (Xo 3 [] (WA (dOf (XJ q3b aD))) gO Xl q2P)) XL)))
noncomputable def q0z:List D->Option O:=mir 2 q3i
noncomputable abbrev q3a:vp:=top 25
theorem q9A:FnScope db db (Y9 q3a):=ah
variable{fc37:vG}{dc37:vQ}(c37:Cal P w K mg base 6 fc37 dc37 "passes" ["gate", "boxes"] 2 q3b)
variable(z38:mg "sum" = none)
include c37 z38 in
theorem q8U(F:Fun K "yard_least" "yard_least" q3a f fd):FnOk P w K mg base CX0 7 f fd db (spD K 2 q0z):=by
 have h:=fnD (P:=P) (w:=w) (mg:=mg) (base:=base) (k:=6) (body:=q3i) F q9A (λcdv A outer s H E hr=>
   (qc (qf (qr (q8k rfl) qeL rfl z38 qep (qj (XE.toV (qz rfl (blk N9 [] [] rfl ⋯ ⋯ rfl trivial) (qp (XE.toD (xc c37 hr aX))) (q7u (qZ ir (qZ (qt 1) (qZ (qt 2) q3J)))) (λ_ _ _ _=>⟨(q2C rfl (qD (qh (i:=0) (show (mo++cg:List Str).Nodup from by decide +kernel) rfl aB) (qD (qh (i:=1) (show (mo++cg:List Str).Nodup from by decide +kernel) rfl aB) (qD (qh (i:=2) (show (mo++cg:List Str).Nodup from by decide +kernel) rfl aB) q1I)))),qv,(XE.toD (q4f (XE.toV (q4f ak (XE.toV (q0J ga jA)))) kG))⟩))) qo)))))
 exact h
noncomputable def q5A:FS:=sNb
noncomputable def q1Y:List D->Option O:=mir 5 q5A
noncomputable abbrev q3k:vp:=top 27
theorem q5s:FnScope ["things", "ties", "beside", "thing", "tie"] A3 (Y9 q3k):=ah
theorem q91(F:Fun K "neighbours" "neighbours" q3k f fd):FnOk P w K mg base CX0 1 f fd A3 (spD K 2 q1Y):=by
 have h:=fnD (P:=P) (w:=w) (mg:=mg) (base:=base) (k:=0) (body:=q5A) F q5s (λcdv A outer s H E hr=>
   (qjS hr.units PassesOwn.never rfl q5s.nd rfl rfl rfl (by first|exact Or.inl rfl|exact Or.inr rfl) (by first|exact Or.inl rfl|exact Or.inr rfl) (by first|exact Or.inl rfl|exact Or.inr rfl) (by first|exact .inl rfl|exact .inr rfl) (by first|exact .inl rfl|exact .inr rfl) (by first|exact .inl rfl|exact .inr rfl) TN Ng Ab Ab Ab mH Ab iK iK iK iK (λω e h=>qka h) (λω e h=>qkl h)))
 exact h
noncomputable def q48:FS:=(sIf (zBj true 2 Ai) (Xc (zBL 2 Ai Vt)
  (zB7 3 Ai)) WY)
noncomputable def q2x:FT:=(Wo bp)
noncomputable def q43:FS:=(Xc (zCG 4 (zCR 3))
  (zAC (WA (dOf (zAY 1 ja))) Qv q48))
noncomputable def q4G:FS:=(Xc (zBl 2 bj Vt)
  (Xc (Xq 3 (zAA aY))
  (Xc (sWh 1000000 q2x q43)
  (Xp (zBm 2)))))
noncomputable def q1W:List D->Option O:=mir 6 q4G
noncomputable abbrev q4L:vp:=top 28
theorem q1R:FnScope ["thing", "beside", "found", "waiting", "here", "other"] VH (Y9 q4L):=ah
include z23 in
theorem qaS(F:Fun K "group_of" "group_of" q4L f fd):FnOk P w K mg base CX0 1 f fd VH (spD K 2 q1W):=by
 have h:=fnD (P:=P) (w:=w) (mg:=mg) (base:=base) (k:=0) (body:=q4G) F q1R (λcdv A outer s H E hr=>
   (qb (qgO (i:=2) q1R.nd rfl (Or.inl rfl) fB WG)
   (qb (qm (i:=3) q1R.nd rfl (Or.inl rfl) (Xr bL))
   (qb (qgV PassesOwn.never (qE ki) (qb (qid (i:=4) q1R.nd rfl (Or.inl rfl) (qhR mH))
   (qc (qP PassesOwn.never rfl (qp (XE.toD (q2g hr.units Ng Dg))) (qh (i:=5) q1R.nd rfl aB) (qc (qC (q8J hr.units Qf Ab) (qb (q62 hr.units Ab Qf WG)
   (qc (q2y mH Qf))) qu))))))
   (qc (qf (qh0 rfl rfl z23 Ab)))))))
 exact h
noncomputable def q5p:FS:=(zBL 3 (dOf (Y6 7)) Vt)
noncomputable def q5l:FS:=(sIf (zBj true 3 Ai) (Xc (Xq 6 (eOf (dOf (XJ q1W (Y5 Ai ME)))))
  (Xc (zB7 4 CN)
  (zAC (WA CN) (gN 7) q5p))) WY)
noncomputable def q6B:FS:=(Xc (Xq 2 (eOf (dOf (XJ q1Y aD))))
  (Xc (zBh 3)
  (Xc Du
  (Xc (zAC (WA (dOf (zBE ax))) Qv q5l)
  (zAH 4)))))
noncomputable def q1x:List D->Option O:=mir 8 q6B
noncomputable abbrev q6H:vp:=top 29
theorem q1E:FnScope ["things", "ties", "beside", "grouped", "told", "thing", "group", "member"] A3 (Y9 q6H):=ah
variable{fc39:vG}{dc39:vQ}(c39:Cal P w K mg base 1 fc39 dc39 "neighbours" ["things", "ties"] 2 q1Y)
variable{fc40:vG}{dc40:vQ}(c40:Cal P w K mg base 1 fc40 dc40 "group_of" ["thing", "beside"] 2 q1W)
include z23 c39 c40 in
theorem qdD(F:Fun K "groups" "groups" q6H f fd):FnOk P w K mg base CX0 2 f fd A3 (spD K 2 q1x):=by
 have h:=fnD (P:=P) (w:=w) (mg:=mg) (base:=base) (k:=1) (body:=q6B) F q1E (λcdv A outer s H E hr=>
   (qb (qm (i:=2) q1E.nd rfl (Or.inl rfl) (XD.toE (XE.toD (xc c39 hr aX))))
   (qb (q7R (i:=3) q1E.nd rfl aB)
   (qb (qm (i:=4) q1E.nd rfl (Or.inl rfl) Jp)
   (qb (qP PassesOwn.never rfl (qp (XE.toD (qcI rfl z23 jA))) (qh (i:=5) q1E.nd rfl aB) (qc (qC (q8J hr.units Qf mH) (qb (qm (i:=6) q1E.nd rfl (Or.inl rfl) (XD.toE (XE.toD (xc c40 hr (Y4 Qf MG)))))
   (qb (q2y HW TC)
   (qc (qP PassesOwn.never rfl (qp TC) (qh (i:=7) q1E.nd rfl aB) (qc (q62 hr.units mH (vD 7) WG)))))) qu)))
   NQ)))))
 exact h
noncomputable def q4B:FT:=(tOf (XH fQ bg aM))
noncomputable def q6z:FD:=bj
noncomputable def q7X:FS:=(Xc (Xq 3 (Xo 2 [] aaH OO q4B q6z))
  (WL 3 (Xp (XH WC (vOf (XH WC (vOf (X4 zAj (Y5 bN XL))) (vOf Pe))) bp))))
noncomputable def q2d:List D->Option O:=mir 4 q7X
noncomputable abbrev q7z:vp:=top 30
theorem qcz:FnScope ["home", "last", "boxes", "lacking"] au (Y9 q7z):=ah
variable{fc41:vG}{dc41:vQ}(c41:Cal P w K mg base 7 fc41 dc41 "lacks" ["home", "last", "boxes"] 3 q2l)
include z18 z26 c27 c41 in
theorem qh4(F:Fun K "knots" "knots" q7z f fd):FnOk P w K mg base CX0 8 f fd au (spD K 3 q2d):=by
 have h:=fnD (P:=P) (w:=w) (mg:=mg) (base:=base) (k:=7) (body:=q7X) F qcz (λcdv A outer s H E hr=>
   (qb (q29 (i:=3) rfl qcz.nd rfl rfl (blk ["gap", "lack"] [] [] rfl ⋯ ⋯ rfl trivial) (q71 rfl z26 (Y4 kr oQ)) pS (λ_ _ _ _=>⟨(q2C rfl (qD (qh (i:=0) (show (MA++cg:List Str).Nodup from by decide +kernel) rfl aB) (qD (qh (i:=1) (show (MA++cg:List Str).Nodup from by decide +kernel) rfl aB) q1I))),(q4e (Wk hr.units ga ak)),fB⟩))
   (q0c 3 (qc (qf (qF (XE.toV (qF (XE.toV (q74 q1b q4j rfl z18 q0a (qj kG qo))) (XE.toV RH))) ki))))))
 exact h
noncomputable def q9B:FS:=(Xp Ay)
noncomputable def q0q:List D->Option O:=mir 1 q9B
noncomputable abbrev q9I:vp:=top 32
theorem qjo:FnScope Bm Bm (Y9 q9I):=ah
theorem qj4(F:Fun K "cost" "cost" q9I f fd):FnOk P w K mg base CX0 1 f fd Bm (spD K 1 q0q):=by
 have h:=fnD (P:=P) (w:=w) (mg:=mg) (base:=base) (k:=0) (body:=q9B) F qjo (λcdv A outer s H E hr=>
   (qc (qf Ur)))
 exact h
noncomputable def q1A:FS:=(zBL 1 ja b0)
noncomputable def q1C:FS:=(zAC PJ Dp q1A)
noncomputable def q1V:FS:=(Xc (zBh 1)
  (Xc (zAC (iEn aY) (gT 2 ML) q1C)
  (WL 1 (Xp (Y6 1)))))
noncomputable def qO:List D->Option O:=mir 5 q1V
noncomputable abbrev q25:vp:=top 33
theorem q0i:FnScope ["parts", "numbers", "number", "part", "thing"] K5 (Y9 q25):=ah
variable(z42:mg "enumerate" = none)
include z42 in
theorem q6F(F:Fun K "group_numbers" "group_numbers" q25 f fd):FnOk P w K mg base CX0 1 f fd K5 (spD K 1 qO):=by
 have h:=fnD (P:=P) (w:=w) (mg:=mg) (base:=base) (k:=0) (body:=q1V) F q0i (λcdv A outer s H E hr=>
   (qb (q7R (i:=1) q0i.nd rfl aB)
   (qb (qP PassesOwn.never rfl (qi0 rfl z42 bL) (q2C rfl (qD (qh (i:=2) q0i.nd rfl aB) (qD (qh (i:=3) q0i.nd rfl aB) q1I))) (qc (qP PassesOwn.never rfl (qp pO) (qh (i:=4) q0i.nd rfl aB) (qc (q62 hr.units Ng Dg jP)))))
   (q0c 1 (qc (qf (vE 1)))))))
 exact h
noncomputable def q18:FS:=(zBL 3 ja (dOf (fIte (tOf (XH iE (vOf (zAY 0 ja)) bN)) (Y6 1) (zAY 0 ja))))
noncomputable def q1j:FS:=(Xc (zBh 3)
  (Xc (zAC (iDk 0) Dp q18)
  (WL 3 (Xp (Y6 3)))))
noncomputable def qV:List D->Option O:=mir 5 q1j
noncomputable abbrev q1g:vp:=top 34
theorem q1h:FnScope ["numbers", "one", "other", "joined", "thing"] Nn (Y9 q1g):=ah
theorem q5E(F:Fun K "with_two_joined" "with_two_joined" q1g f fd):FnOk P w K mg base CX0 1 f fd Nn (spD K 3 qV):=by
 have h:=fnD (P:=P) (w:=w) (mg:=mg) (base:=base) (k:=0) (body:=q1j) F q1h (λcdv A outer s H E hr=>
   (qb (q7R (i:=3) q1h.nd rfl aB)
   (qb (qP PassesOwn.never rfl (qix TN) (qh (i:=4) q1h.nd rfl aB) (qc (q62 hr.units mH Dg (XE.toD (qfo (zC2 hr.units (XE.toV NS) kG) (vE 1) NS)))))
   (q0c 3 (qc (qf (vE 3)))))))
 exact h
noncomputable def q5j:FS:=(Xc (Xq 6 (eOf (dOf (zAY 3 EK))))
  (Xc (Xq 7 (eOf (dOf (zAY 3 EL))))
  (sIf (tOf (XH fQ kR Pi)) (Xc (zB7 4 Ai)
  (Xq 3 (eOf (dOf (XJ qV (Y5 eK (Y5 CN (Y5 (dOf (Y6 7)) XL)))))))) WY)))
noncomputable def q6Y:FS:=(Xc (Xq 3 (eOf (dOf (XJ qO (Y5 (dOf (XJ q1x aD)) XL)))))
  (Xc Du
  (Xc (zAC (WA (dOf (zBk q0q bN))) Qv q5j)
  (zAH 4))))
noncomputable def q04:List D->Option O:=mir 8 q6Y
noncomputable abbrev q6u:vp:=top 35
theorem q1y:FnScope ["things", "knots", "edges", "numbers", "taken", "edge", "one", "other"] fN (Y9 q6u):=ah
variable{fc43:vG}{dc43:vQ}(c43:Cal P w K mg base 1 fc43 dc43 "group_numbers" ["parts"] 1 qO)
variable{fc44:vG}{dc44:vQ}(c44:Cal P w K mg base 2 fc44 dc44 "groups" ["things", "ties"] 2 q1x)
variable{fc45:vG}{dc45:vQ}(c45:Cal P w K mg base 1 fc45 dc45 "cost" ["edge"] 1 q0q)
variable{fc46:vG}{dc46:vQ}(c46:Cal P w K mg base 1 fc46 dc46 "with_two_joined" ["numbers", "one", "other"] 3 qV)
include z23 c43 c44 c45 c46 in
theorem qeP(F:Fun K "forest" "forest" q6u f fd):FnOk P w K mg base CX0 4 f fd fN (spD K 3 q04):=by
 have h:=fnD (P:=P) (w:=w) (mg:=mg) (base:=base) (k:=3) (body:=q6Y) F q1y (λcdv A outer s H E hr=>
   (qb (qm (i:=3) q1y.nd rfl (Or.inl rfl) (XD.toE (XE.toD (xc c43 hr (Y4 (XE.toD (xc c44 hr aX)) Y7)))))
   (qb (qm (i:=4) q1y.nd rfl (Or.inl rfl) Jp)
   (qb (qP PassesOwn.never rfl (qp (XE.toD (qfO c45 hr z23 kG))) (qh (i:=5) q1y.nd rfl aB) (qb (qm (i:=6) q1y.nd rfl (Or.inl rfl) EV)
   (qb (qm (i:=7) q1y.nd rfl (Or.inl rfl) EV)
   (qc (qC (Wk hr.units (vV 6) (vV 7)) (qb (q2y HW Qf)
   (qc (qm (i:=3) q1y.nd rfl (Or.inl rfl) (XD.toE (XE.toD (xc c46 hr (Y4 pO (Y4 TC (Y4 (vD 7) Y7))))))))) qu)))))
   NQ))))
 exact h
noncomputable def q1Q:FT:=(tOf (XH oLt (vOf RK) bg))
noncomputable def q1T:FD:=(zAb (Y5 dN (Y5 cX XL)))
noncomputable def q2p:FS:=(Xc (Xq 4 (Xo 1 [3] PL dz q1Q q1T))
  (WL 4 (Xp (XJ q1x (Y5 bj (Y5 (dOf (XH WC bg dP)) XL))))))
noncomputable def q0y:List D->Option O:=mir 5 q2p
noncomputable abbrev q2i:vp:=top 36
theorem q4h:FnScope ["things", "knots", "edges", "bound", "cheaper"] GP (Y9 q2i):=ah
include c44 c45 in
theorem q7a(F:Fun K "groups_below" "groups_below" q2i f fd):FnOk P w K mg base CX0 3 f fd GP (spD K 4 q0y):=by
 have h:=fnD (P:=P) (w:=w) (mg:=mg) (base:=base) (k:=2) (body:=q2p) F q4h (λcdv A outer s H E hr=>
   (qb (q29 (i:=4) rfl q4h.nd rfl rfl (blk Bm QA [3] rfl ⋯ ⋯ rfl ⟨⟨rfl,(by first|exact Or.inl rfl|exact Or.inr rfl),rfl⟩,trivial⟩) (qp jP) ir (λ_ _ _ _=>⟨(qh (i:=0) (show (On++(QA:List Str):List Str).Nodup from by decide +kernel) rfl aB),(q4e (q96 (XE.toV L0) ga)),(Xw (Y4 bi (Y4 bi Y7)))⟩))
   (q0c 4 (qc (qf (xc c44 hr (Y4 fB (Y4 (XE.toD (qF ga r9)) Y7))))))))
 exact h
noncomputable def q2B:FD:=(dOf RK)
noncomputable def q5k:FD:=(zAb (Y5 bj (Y5 (dOf (XJ q0y MB)) XL)))
noncomputable def q6q:FS:=(Xc (Xq 3 (eOf (dOf (X7 AX))))
  (Xp (Xo 1 [0,1,2] PJ dz Xl q5k)))
noncomputable def q2j:List D->Option O:=mir 4 q6q
noncomputable abbrev q6l:vp:=top 37
theorem q9o:FnScope ["things", "knots", "edges", "costs"] fN (Y9 q6l):=ah
variable{fc47:vG}{dc47:vQ}(c47:Cal P w K mg base 4 fc47 dc47 "forest" ["things", "knots", "edges"] 3 q04)
variable{fc48:vG}{dc48:vQ}(c48:Cal P w K mg base 3 fc48 dc48 "groups_below" ["things", "knots", "edges", "bound"] 4 q0y)
include z23 z24 c45 c47 c48 in
theorem qdK(F:Fun K "levels" "levels" q6l f fd):FnOk P w K mg base CX0 5 f fd fN (spD K 3 q2j):=by
 have h:=fnD (P:=P) (w:=w) (mg:=mg) (base:=base) (k:=4) (body:=q6q) F q9o (λcdv A outer s H E hr=>
   (qb (qm (i:=3) q9o.nd rfl (Or.inl rfl) (XD.toE (XE.toD (q4N rfl z23 rfl z24 (XE.toV (qz rfl (blk Bm [] [] rfl ⋯ ⋯ rfl trivial) (qp (XE.toD (xc c47 hr ar))) ir (λ_ _ _ _=>⟨(qh (i:=0) (show (On++cg:List Str).Nodup from by decide +kernel) rfl aB),qv,(XE.toD L0)⟩)))))))
   (qc (qf (qz rfl (blk QA fN [0,1,2] rfl ⋯ ⋯ rfl ⟨⟨rfl,(by first|exact Or.inl rfl|exact Or.inr rfl),rfl⟩,⟨⟨rfl,(by first|exact Or.inl rfl|exact Or.inr rfl),rfl⟩,⟨⟨rfl,(by first|exact Or.inl rfl|exact Or.inr rfl),rfl⟩,trivial⟩⟩⟩) Ve ir (λ_ _ _ _=>⟨(qh (i:=0) (show ((QA:List Str)++(fN:List Str):List Str).Nodup from by decide +kernel) rfl aB),qv,(Xw (Y4 fB (Y4 (XE.toD (xc c48 hr MF)) Y7)))⟩))))))
 exact h
noncomputable def q2W:FS:=(Xc (sAug (λi j=>i+j) 2 (vOf (XH zAy (vOf (XH zBC dP bp)) (vOf (XH zBC (vOf (X4 zAF (Y5 eJ XL))) bg)))))
  (Xq 3 (eOf ja)))
noncomputable def q5q:FS:=(Xc (Xq 2 Ry)
  (Xc (Xq 3 Ry)
  (Xc (zAC Am abB q2W)
  (Xp (Y6 2)))))
noncomputable def q2E:List D->Option O:=mir 6 q5q
noncomputable abbrev q5C:vp:=top 38
theorem q0X:FnScope ["levels", "rest", "total", "ahead", "bound", "parts"] aaQ (Y9 q5C):=ah
include z14 in
theorem qcW(F:Fun K "weighed" "weighed" q5C f fd):FnOk P w K mg base CX0 1 f fd aaQ (spD K 2 q2E):=by
 have h:=fnD (P:=P) (w:=w) (mg:=mg) (base:=base) (k:=0) (body:=q5q) F q0X (λcdv A outer s H E hr=>
   (qb (qm (i:=2) q0X.nd rfl (Or.inl rfl) Kv)
   (qb (qm (i:=3) q0X.nd rfl (Or.inl rfl) Kv)
   (qb (qP PassesOwn.never rfl (qp fB) (q2C rfl (qD (qh (i:=4) q0X.nd rfl aB) (qD (qh (i:=5) q0X.nd rfl aB) q1I))) (qb (qkh (i:=2) qjs q0X.nd rfl (Or.inl rfl) (XE.toV (q4f (XE.toV (q0J r9 ki)) (XE.toV (q0J (XE.toV (qr qq qU rfl z14 qT (qj Df qo))) ga)))))
   (qc (qm (i:=3) q0X.nd rfl (Or.inl rfl) (XD.toE Dg)))))
   aaE))))
 exact h
noncomputable def q3o:FD:=(dOf Up)
noncomputable def q2v:FS:=(Xp (X4 W7 (Y5 (vOf (Xo 1 [] Am dz Xl q3o)) XL)))
noncomputable def q00:List D->Option O:=mir 1 q2v
noncomputable abbrev q4a:vp:=top 40
theorem qb9:FnScope K5 K5 (Y9 q4a):=ah
include c13 z19 in
theorem qa9(F:Fun K "all_whole" "all_whole" q4a f fd):FnOk P w K mg base CX0 2 f fd K5 (spD K 1 q00):=by
 have h:=fnD (P:=P) (w:=w) (mg:=mg) (base:=base) (k:=1) (body:=q2v) F qb9 (λcdv A outer s H E hr=>
   (qc (qf (qr nN q1m rfl z19 q1p (qj (XE.toV (qz rfl (blk Uf [] [] rfl ⋯ ⋯ rfl trivial) Do ir (λ_ _ _ _=>⟨(qh (i:=0) (show (Ga++cg:List Str).Nodup from by decide +kernel) rfl aB),qv,(XE.toD L1)⟩))) qo)))))
 exact h
noncomputable def q3u:FD:=(dOf (XH WC ax (vOf (XJ q0A Ui))))
noncomputable def q3Y:FS:=(Xp (Xo 1 [2] (WA nZ) dz Xl q3u))
noncomputable def q0M:List D->Option O:=mir 3 q3Y
noncomputable abbrev q49:vp:=top 41
theorem qbm:FnScope au au (Y9 q49):=ah
include c27 c29 in
theorem q9j(F:Fun K "counts_of" "counts_of" q49 f fd):FnOk P w K mg base CX0 7 f fd au (spD K 3 q0M):=by
 have h:=fnD (P:=P) (w:=w) (mg:=mg) (base:=base) (k:=6) (body:=q3Y) F qbm (λcdv A outer s H E hr=>
   (qc (qf (qz rfl (blk Ks Qz [2] rfl ⋯ ⋯ rfl ⟨⟨rfl,(by first|exact Or.inl rfl|exact Or.inr rfl),rfl⟩,trivial⟩) (qp kr) ir (λ_ _ _ _=>⟨(qh (i:=0) (show (kW++EO:List Str).Nodup from by decide +kernel) rfl aB),qv,(XE.toD (qF jA (XE.toV (xc c29 hr Ul))))⟩)))))
 exact h
noncomputable def q2S:FD:=Vy
noncomputable def q3H:FS:=(Xp (eOf (zAd (dOf (XH iE ax bg)) (dOf (X4 W7 (Y5 (vOf (Xo 1 [] Am dz Xl q2S)) XL))))))
noncomputable def q0U:List D->Option O:=mir 2 q3H
noncomputable abbrev q3C:vp:=top 42
theorem q9N:FnScope Hj Hj (Y9 q3C):=ah
variable{fc49:vG}{dc49:vQ}(c49:Cal P w K mg base 2 fc49 dc49 "all_whole" ["parts"] 1 q00)
include z19 c49 in
theorem q95(F:Fun K "are_counts" "are_counts" q3C f fd):FnOk P w K mg base CX0 3 f fd Hj (spD K 2 q0U):=by
 have h:=fnD (P:=P) (w:=w) (mg:=mg) (base:=base) (k:=2) (body:=q3H) F q9N (λcdv A outer s H E hr=>
   (qc (qf (XD.toE (qW (XE.toD (zAm hr.units jA ga)) (q0p (XE.toD (qr nN q1m rfl z19 q1p (qj (XE.toV (qz rfl (blk ["count"] [] [] rfl ⋯ ⋯ rfl trivial) Do ir (λ_ _ _ _=>⟨(qh (i:=0) (show ((["count"]:List Str)++cg:List Str).Nodup from by decide +kernel) rfl aB),qv,OX⟩))) qo)))))))))
 exact h
noncomputable def q4Z:FS:=(Xp (eOf (zAd (dOf (zA7 .lst ax)) (zAd (dOf (XH oGt gY aM)) Vy))))
noncomputable def q22:List D->Option O:=mir 1 q4Z
noncomputable abbrev q4u:vp:=top 43
theorem qcZ:FnScope jZ jZ (Y9 q4u):=ah
include z0 z14 z18 z20 c49 in
theorem qbl(F:Fun K "is_group" "is_group" q4u f fd):FnOk P w K mg base CX0 3 f fd jZ (spD K 1 q22):=by
 have h:=fnD (P:=P) (w:=w) (mg:=mg) (base:=base) (k:=2) (body:=q4Z) F qcZ (λcdv A outer s H E hr=>
   (qc (qf (XD.toE (qW (XE.toD Jk) (qW (XE.toD (ql3 ci ak)) (q0p OX)))))))
 exact h
noncomputable def q2L:FD:=(dOf (XJ q22 aY))
noncomputable def q2H:FS:=(zCp 2 eK)
noncomputable def q3E:FS:=(Xc (sIf (zBO (X5 (Wo (vOf (zA7 .lst ax)))) (X5 (Wo (vOf (X4 W7 (Y5 (vOf (Xo 1 [] Am dz Xl q2L)) XL)))))) a9 WY)
  (Xc (Xq 2 Q7)
  (Xc (zAC Am Nj q2H)
  (Xp (XH iE (vOf (zBE bN)) bg)))))
noncomputable def q1a:List D->Option O:=mir 4 q3E
noncomputable abbrev q3m:vp:=top 44
theorem q3w:FnScope ["thing", "places", "grouped", "part"] VG (Y9 q3m):=ah
variable{fc50:vG}{dc50:vQ}(c50:Cal P w K mg base 3 fc50 dc50 "is_group" ["thing"] 1 q22)
include z0 z18 z19 z20 z23 c50 in
theorem q94(F:Fun K "are_groups" "are_groups" q3m f fd):FnOk P w K mg base CX0 4 f fd VG (spD K 2 q1a):=by
 have h:=fnD (P:=P) (w:=w) (mg:=mg) (base:=base) (k:=3) (body:=q3E) F q3w (λcdv A outer s H E hr=>
   (qb (qC (XW.toT (q2t (qM (qE (XE.toV Jk))) (q4d (qM (qE (XE.toV (qr nN q1m rfl z19 q1p (qj (XE.toV (qz rfl (blk Uf [] [] rfl ⋯ ⋯ rfl trivial) Do ir (λ_ _ _ _=>⟨(qh (i:=0) (show (Ga++cg:List Str).Nodup from by decide +kernel) rfl aB),qv,(XE.toD (xc c50 hr bL))⟩))) qo)))))))) bH qu)
   (qb (qm (i:=2) q3w.nd rfl (Or.inl rfl) Jp)
   (qb (qP PassesOwn.never rfl (qp fB) (qh (i:=3) q3w.nd rfl aB) (qc (q7v Ab pO)))
   (qc (qf (zAm hr.units (XE.toV (qcI rfl z23 kG)) ga)))))))
 exact h
noncomputable def q1i:FD:=(dOf (XH iE (vOf (zAY 1 dN)) (vOf (zAY 1 cX))))
noncomputable def q1F:FS:=(Xc (Xq 2 (eOf (dOf (XJ qO aY))))
  (Xp (X4 W7 (Y5 (vOf (Xo 1 [2] VO dz Xl q1i)) XL))))
noncomputable def q06:List D->Option O:=mir 3 q1F
noncomputable abbrev q1D:vp:=top 45
theorem q3f:FnScope ["parts", "ties", "numbers"] abF (Y9 q1D):=ah
include z19 c43 in
theorem q65(F:Fun K "holds_together" "holds_together" q1D f fd):FnOk P w K mg base CX0 2 f fd abF (spD K 2 q06):=by
 have h:=fnD (P:=P) (w:=w) (mg:=mg) (base:=base) (k:=1) (body:=q1F) F q3f (λcdv A outer s H E hr=>
   (qb (qm (i:=2) q3f.nd rfl (Or.inr rfl) (XD.toE (XE.toD (xc c43 hr bL))))
   (qc (qf (qr nN q1m rfl z19 q1p (qj (XE.toV (qz rfl (blk ["tie"] ["numbers"] [2] rfl ⋯ ⋯ rfl ⟨⟨rfl,(by first|exact Or.inl rfl|exact Or.inr rfl),rfl⟩,trivial⟩) (qp kH) ir (λ_ _ _ _=>⟨(qh (i:=0) (show ((["tie"]:List Str)++(["numbers"]:List Str):List Str).Nodup from by decide +kernel) rfl aB),qv,(XE.toD (zAm hr.units Ic Ic))⟩))) qo))))))
 exact h
noncomputable def q42:FT:=(tOf (XH oLt (vOf RK) (vOf MP)))
noncomputable def q45:FD:=bj
noncomputable def q4U:FS:=(Xc (sIf (zBO pW (zBO (tOf (XH fQ gY cP)) (X5 (Wo (vOf Uq))))) a9 WY)
  (Xc (sIf (X5 (Wo (vOf (XJ q1a (Y5 cX AJ))))) a9 WY)
  (Xc (Xq 4 (Xo 1 [0] PJ dz q42 q45))
  (WL 4 (Xp (XJ q06 (Y5 cX (Y5 (dOf (XH WC bN dP)) XL))))))))
noncomputable def q20:List D->Option O:=mir 5 q4U
noncomputable abbrev q4R:vp:=top 46
theorem q7y:FnScope ["thing", "places", "ties", "edges", "shorter"] Hl (Y9 q4R):=ah
variable{fc51:vG}{dc51:vQ}(c51:Cal P w K mg base 4 fc51 dc51 "are_groups" ["thing", "places"] 2 q1a)
variable{fc52:vG}{dc52:vQ}(c52:Cal P w K mg base 2 fc52 dc52 "holds_together" ["parts", "ties"] 2 q06)
include z0 c13 z14 z15 z16 c45 c51 c52 in
theorem qbd(F:Fun K "is_level" "is_level" q4R f fd):FnOk P w K mg base CX0 5 f fd Hl (spD K 4 q20):=by
 have h:=fnD (P:=P) (w:=w) (mg:=mg) (base:=base) (k:=4) (body:=q4U) F q7y (λcdv A outer s H E hr=>
   (qb (qC (XW.toT (q2t Qn (q2t SS (q4d (qM (qE (XE.toV Pg))))))) bH qu)
   (qb (qC (qM (qE (XE.toV (xc c51 hr (Y4 bi Dt))))) bH qu)
   (qb (q29 (i:=4) rfl q7y.nd rfl rfl (blk Bm jZ [0] rfl ⋯ ⋯ rfl ⟨⟨rfl,(by first|exact Or.inl rfl|exact Or.inr rfl),rfl⟩,trivial⟩) Ve ir (λ_ _ _ _=>⟨(qh (i:=0) (show (On++(jZ:List Str):List Str).Nodup from by decide +kernel) rfl aB),(q4e (q96 (XE.toV L0) (XE.toV (XB ga ak)))),fB⟩))
   (q0c 4 (qc (qf (xc c52 hr (Y4 bi (Y4 (XE.toD (qF kG r9)) Y7))))))))))
 exact h
noncomputable def q1w:FD:=(dOf (XH oLt ax bg))
noncomputable def q1N:FS:=(Xp (X4 W7 (Y5 (vOf (Xo 2 [] (iZp (Y5 (dOf (XH WC (vOf (zAA (Y5 aM XL))) ax)) aY)) OO Xl q1w)) XL)))
noncomputable def q0e:List D->Option O:=mir 1 q1N
noncomputable abbrev q1S:vp:=top 47
theorem q7m:FnScope abH abH (Y9 q1S):=ah
include z19 z26 in
theorem q6D(F:Fun K "rise_from_one" "rise_from_one" q1S f fd):FnOk P w K mg base CX0 1 f fd abH (spD K 1 q0e):=by
 have h:=fnD (P:=P) (w:=w) (mg:=mg) (base:=base) (k:=0) (body:=q1N) F q7m (λcdv A outer s H E hr=>
   (qc (qf (qr nN q1m rfl z19 q1p (qj (XE.toV (qz rfl (blk IT [] [] rfl ⋯ ⋯ rfl trivial) (q71 rfl z26 (Y4 (XE.toD (qF (XE.toV (Xr MI)) jA)) bL)) pS (λ_ _ _ _=>⟨(q2C rfl (qD (qh (i:=0) (show ((IT:List Str)++cg:List Str).Nodup from by decide +kernel) rfl aB) (qD (qh (i:=1) (show ((IT:List Str)++cg:List Str).Nodup from by decide +kernel) rfl aB) q1I))),qv,(XE.toD (qhg jA ga))⟩))) qo)))))
 exact h
noncomputable def q2O:FD:=(dOf (XJ q20 MD))
noncomputable def q2M:FD:=dN
noncomputable def q36:FS:=(Xc (sIf (X5 (Wo (vOf (zA7 .lst bp)))) a9 WY)
  (Xc abI
  (Xc (Xq 5 (eOf Vu))
  (Xc (Xq 6 (eOf Vv))
  (Xc (sIf (X5 (Wo (vOf (X4 W7 (Y5 (vOf (Xo 1 [4,5,6] PJ dz Xl q2O)) XL))))) a9 WY)
  (Xp (XJ q0e (Y5 (dOf (Xo 1 [] PJ dz Xl q2M)) XL))))))))
noncomputable def q0V:List D->Option O:=mir 7 q36
noncomputable abbrev q3z:vp:=top 48
theorem q1X:FnScope ["home", "last", "boxes", "thing", "places", "ties", "edges"] cM (Y9 q3z):=ah
variable{fc53:vG}{dc53:vQ}(c53:Cal P w K mg base 8 fc53 dc53 "knots" ["home", "last", "boxes"] 3 q2d)
variable{fc54:vG}{dc54:vQ}(c54:Cal P w K mg base 7 fc54 dc54 "gap_edges" ["home", "last", "boxes"] 3 q0k)
variable{fc55:vG}{dc55:vQ}(c55:Cal P w K mg base 5 fc55 dc55 "is_level" ["thing", "places", "ties", "edges"] 4 q20)
variable{fc56:vG}{dc56:vQ}(c56:Cal P w K mg base 1 fc56 dc56 "rise_from_one" ["bounds"] 1 q0e)
include z0 z18 z19 z20 c25 c53 c54 c55 c56 in
theorem q8P(F:Fun K "are_levels" "are_levels" q3z f fd):FnOk P w K mg base CX0 9 f fd cM (spD K 4 q0V):=by
 have h:=fnD (P:=P) (w:=w) (mg:=mg) (base:=base) (k:=8) (body:=q36) F q1X (λcdv A outer s H E hr=>
   (qb (qC (qM (qE (XE.toV (q0I ki z20 rfl z0 rfl z18 q0a)))) bH qu)
   (qb (qm (i:=4) q1X.nd rfl (Or.inr rfl) RN)
   (qb (qm (i:=5) q1X.nd rfl (Or.inr rfl) (XD.toE OW))
   (qb (qm (i:=6) q1X.nd rfl (Or.inr rfl) (XD.toE OV))
   (qb (qC (qM (qE (XE.toV (qr nN q1m rfl z19 q1p (qj (XE.toV (qz rfl (blk Qy Nm [4,5,6] rfl ⋯ ⋯ rfl ⟨⟨rfl,(by first|exact Or.inl rfl|exact Or.inr rfl),rfl⟩,⟨⟨rfl,(by first|exact Or.inl rfl|exact Or.inr rfl),rfl⟩,⟨⟨rfl,(by first|exact Or.inl rfl|exact Or.inr rfl),rfl⟩,trivial⟩⟩⟩) Ve ir (λ_ _ _ _=>⟨(qh (i:=0) (show ((Qy:List Str)++(Nm:List Str):List Str).Nodup from by decide +kernel) rfl aB),qv,(XE.toD (xc c55 hr MH))⟩))) qo))))) bH qu)
   (qc (qf (xc c56 hr (Y4 (XE.toD (qz rfl (blk Qy [] [] rfl ⋯ ⋯ rfl trivial) Ve ir (λ_ _ _ _=>⟨(qh (i:=0) (show ((Qy:List Str)++cg:List Str).Nodup from by decide +kernel) rfl aB),qv,bi⟩))) Y7))))))))))
 exact h
noncomputable def q3U:FS:=(Xc U1
  (Xc (sIf (zBO (X5 (Wo (vOf (zA7 .tup bp)))) (tOf (XH fQ (vOf (X4 zAF MC)) cP))) a9 WY)
  (Xp (eOf (zAd (dOf (XJ q0U (Y5 (dOf ES) (Y5 Vx XL)))) (dOf (XJ q0V (Y5 bj (Y5 cw (Y5 b0 (Y5 EM XL)))))))))))
noncomputable def q1o:List D->Option O:=mir 4 q3U
noncomputable abbrev q3Z:vp:=top 49
theorem qb3:FnScope cM cM (Y9 q3Z):=ah
variable{fc57:vG}{dc57:vQ}(c57:Cal P w K mg base 9 fc57 dc57 "are_levels" ["home", "last", "boxes", "thing"] 4 q0V)
variable{fc58:vG}{dc58:vQ}(c58:Cal P w K mg base 3 fc58 dc58 "are_counts" ["thing", "wanted"] 2 q0U)
variable{fc59:vG}{dc59:vQ}(c59:Cal P w K mg base 7 fc59 dc59 "counts_of" ["home", "last", "boxes"] 3 q0M)
include z0 z14 z15 z16 c22 c57 c58 c59 in
theorem q9e(F:Fun K "is_reason" "is_reason" q3Z f fd):FnOk P w K mg base CX0 10 f fd cM (spD K 4 q1o):=by
 have h:=fnD (P:=P) (w:=w) (mg:=mg) (base:=base) (k:=9) (body:=q3U) F qb3 (λcdv A outer s H E hr=>
   (qb Rp
   (qb (qC (XW.toT (q2t (qM (qE (XE.toV (q0I ki z16 rfl z0 rfl z15 q3g)))) (q4d (Wk hr.units (XE.toV ID) ak)))) bH qu)
   (qc (qf (XD.toE (qW (XE.toD (xc c58 hr (Y4 fX (Y4 OU Y7)))) (q0p (XE.toD (xc c57 hr (Y4 fB (Y4 kH (Y4 jP (Y4 fX Y7))))))))))))))
 exact h
noncomputable def q3c:FS:=(Xp (XH zAy (vOf acT) (vOf (XH WC (vOf (XH WC (vOf Ay) Rc)) (vOf (X4 zCv (Y5 bg XL)))))))
noncomputable def q0R:List D->Option O:=mir 2 q3c
noncomputable abbrev q3y:vp:=top 50
theorem qab:FnScope l7 l7 (Y9 q3y):=ah
variable(z60:mg "abs" = none)
include z60 in
theorem q8Q(F:Fun K "gap_weight" "gap_weight" q3y f fd):FnOk P w K mg base CX0 1 f fd l7 (spD K 2 q0R):=by
 have h:=fnD (P:=P) (w:=w) (mg:=mg) (base:=base) (k:=0) (body:=q3c) F qab (λcdv A outer s H E hr=>
   (qc (qf (q4f (XE.toV (q0J bF bF)) (XE.toV (qF (XE.toV (qF bF bF)) (XE.toV (qr q6K q9R rfl z60 qay (qj ga qo)))))))))
 exact h
noncomputable def q5J:FD:=(dOf (XJ q0R aD))
noncomputable def q6o:FS:=(Xc (sIf (X5 (Wo (vOf (XJ q1o MD)))) sNo WY)
  (Xc (Xq 4 (Xo 2 [] (iZp (Y5 (dOf ES) A6)) OO Xl q5J))
  (WL 4 (Xp (XH WC (vOf (X4 bSum (Y5 dP XL))) (vOf (XH zAy cP (vOf (XJ q2E (Y5 EM Uj))))))))))
noncomputable def q3r:List D->Option O:=mir 5 q6o
noncomputable abbrev q6i:vp:=top 51
theorem q9M:FnScope ["home", "last", "boxes", "thing", "crossings"] cM (Y9 q6i):=ah
variable{fc61:vG}{dc61:vQ}(c61:Cal P w K mg base 10 fc61 dc61 "is_reason" ["home", "last", "boxes", "thing"] 4 q1o)
variable{fc62:vG}{dc62:vQ}(c62:Cal P w K mg base 1 fc62 dc62 "gap_weight" ["count", "lack"] 2 q0R)
variable{fc63:vG}{dc63:vQ}(c63:Cal P w K mg base 1 fc63 dc63 "weighed" ["levels", "rest"] 2 q2E)
include z26 z38 c41 c61 c62 c63 in
theorem qfq(F:Fun K "weight" "weight" q6i f fd):FnOk P w K mg base CX0 11 f fd cM (spD K 4 q3r):=by
 have h:=fnD (P:=P) (w:=w) (mg:=mg) (base:=base) (k:=10) (body:=q6o) F q9M (λcdv A outer s H E hr=>
   (qb (qC (qM (qE (XE.toV (xc c61 hr MH)))) Me qu)
   (qb (q29 (i:=4) rfl q9M.nd rfl rfl (blk l7 [] [] rfl ⋯ ⋯ rfl trivial) (q71 rfl z26 (Y4 fX oQ)) pS (λ_ _ _ _=>⟨(q2C rfl (qD (qh (i:=0) (show ((l7:List Str)++cg:List Str).Nodup from by decide +kernel) rfl aB) (qD (qh (i:=1) (show ((l7:List Str)++cg:List Str).Nodup from by decide +kernel) rfl aB) q1I))),qv,(XE.toD (xc c62 hr aX))⟩))
   (q0c 4 (qc (qf (qF (XE.toV (qr (q8k rfl) qeL rfl z38 qep (qj r9 qo))) (XE.toV (q4f ak (XE.toV (xc c63 hr (Y4 fX MI))))))))))))
 exact h
noncomputable def q6R:FS:=(Xc (Xq 3 (eOf (dOf (XJ q2j (Y5 Bl A7)))))
  (Xp (eOf (zAb (Y5 Vx Ho)))))
noncomputable def q3A:List D->Option O:=mir 4 q6R
noncomputable abbrev q6V:vp:=top 52
theorem q9k:FnScope ["home", "last", "boxes", "bounds"] au (Y9 q6V):=ah
variable{fc64:vG}{dc64:vQ}(c64:Cal P w K mg base 5 fc64 dc64 "levels" ["things", "knots", "edges"] 3 q2j)
include c25 c53 c54 c59 c64 in
theorem qe2(F:Fun K "reason" "reason" q6V f fd):FnOk P w K mg base CX0 9 f fd au (spD K 3 q3A):=by
 have h:=fnD (P:=P) (w:=w) (mg:=mg) (base:=base) (k:=8) (body:=q6R) F q9k (λcdv A outer s H E hr=>
   (qb (qm (i:=3) q9k.nd rfl (Or.inl rfl) (XD.toE (XE.toD (xc c64 hr (Y4 nE oP)))))
   (qc (qf (XD.toE (Xw (Y4 OU Hs)))))))
 exact h
noncomputable def q86:FS:=(Xp (XJ q3r (Y5 bj (Y5 cw (Y5 b0 (Y5 (dOf (XJ q3A ai)) XL))))))
noncomputable def q4m:List D->Option O:=mir 3 q86
noncomputable abbrev q81:vp:=top 53
theorem qic:FnScope au au (Y9 q81):=ah
variable{fc65:vG}{dc65:vQ}(c65:Cal P w K mg base 11 fc65 dc65 "weight" ["home", "last", "boxes", "thing"] 4 q3r)
variable{fc66:vG}{dc66:vQ}(c66:Cal P w K mg base 9 fc66 dc66 "reason" ["home", "last", "boxes"] 3 q3A)
include c65 c66 in
theorem qgd(F:Fun K "least" "least" q81 f fd):FnOk P w K mg base CX0 12 f fd au (spD K 3 q4m):=by
 have h:=fnD (P:=P) (w:=w) (mg:=mg) (base:=base) (k:=11) (body:=q86) F qic (λcdv A outer s H E hr=>
   (qc (qf (xc c65 hr (Y4 fB (Y4 kH (Y4 jP (Y4 (XE.toD (xc c66 hr ar)) Y7))))))))
 exact h
noncomputable abbrev q0b:vp:=top 55
theorem q2G:FnScope Hm Ds (Y9 q0b):=ah
theorem q54(F:Fun K "numbers_by_start" "numbers_by_start" q0b f fd)(z42:mg "enumerate" = none):FnOk P w K mg base CX0 1 f fd Ds (spT K):=by
 refine F.ok q2G GY mX
 ·obtain⟨G,as,_,rp,_⟩:=h
  rw[<- rp.len];rfl
 ·exact qj0 (X:=(zB8 CX0 P w K mg base Hm "numbers_by_start" (Y9 q0b) f cdv A outer s H E).nox) PassesOwn.never rfl q2G.nd rfl rfl rfl (by first|exact Or.inl rfl|exact Or.inr rfl) (by first|exact Or.inl rfl|exact Or.inr rfl) (by first|exact Or.inl rfl|exact Or.inr rfl) (by first|exact .inl rfl|exact .inr rfl) (by first|exact .inl rfl|exact .inr rfl) (by first|exact .inl rfl|exact .inr rfl) rfl z42 TN Ng Ab Ng fX (λω e h=>qjO h) rfl lI rfl rfl rfl rfl rfl rfl rfl rfl (λt h=>qeZ rfl h) (by intro _;rfl) h
noncomputable def q07:FD:=dN
noncomputable def q08:FD:=cX
noncomputable def q0n:FS:=(Xp (XH iE (vOf (zBK (vOf (Xo 1 [] Am dz Xl q07)))) (vOf (zBK (vOf (Xo 1 [] Am dz Xl q08))))))
noncomputable def qH:List D->Option O:=mir 1 q0n
noncomputable abbrev q0m:vp:=top 56
theorem q3X:FnScope Ds Ds (Y9 q0m):=ah
include z23 in
theorem q3I(F:Fun K "as_many_begin_as_end" "as_many_begin_as_end" q0m f fd):FnOk P w K mg base CX0 1 f fd Ds (spD K 1 qH):=by
 have h:=fnD (P:=P) (w:=w) (mg:=mg) (base:=base) (k:=0) (body:=q0n) F q3X (λcdv A outer s H E hr=>
   (qc (qf (zAm hr.units (XE.toV (qa3 rfl z23 (XE.toV (qz rfl (blk ["arc"] [] [] rfl ⋯ ⋯ rfl trivial) Do ir (λ_ _ _ _=>⟨(qh (i:=0) (show (Ug++cg:List Str).Nodup from by decide +kernel) rfl aB),qv,bi⟩))))) (XE.toV (qa3 rfl z23 (XE.toV (qz rfl (blk ["arc"] [] [] rfl ⋯ ⋯ rfl trivial) Do ir (λ_ _ _ _=>⟨(qh (i:=0) (show (Ug++cg:List Str).Nodup from by decide +kernel) rfl aB),qv,bi⟩)))))))))
 exact h
noncomputable abbrev q0Y:vp:=top 57
theorem qN:FnScope fI BW (Y9 q0Y):=ah
noncomputable def q1O:List D->Option O:=mRF
theorem q8W{f_n:vG}{d_n:vQ}(F:Fun K "round_from" "round_from" q0Y f fd)(G_n:FnOk P w K mg base CX0 1 f_n d_n Ds (spT K))(a_n:mg "numbers_by_start" = some (.ref f_n))(k_n:xx K (.ref f_n)=true)(b_n:Binds K d_n Ds [])(z18:mg "list" = none)(z_reversed:mg "reversed" = none):FnOk P w K mg base CX0 2 f fd BW (spD K 2 q1O):=by
 refine F.ok qN GY mX
 ·obtain⟨G,ds,r,_,h2,_,h4,_⟩:=h
  rw[<- h4.len];exact h2
 ·have hu:=hu1 (X:=(zB8 CX0 P w K mg base fI "round_from" (Y9 q0Y) f cdv A outer s H E).nox) hr.units
  exact qjM (X:=(zB8 CX0 P w K mg base fI "round_from" (Y9 q0Y) f cdv A outer s H E).nox) (f1:=(dOf acV)) (f0:=(dOf acU)) DO DO (λ_ _ _=>qjw) (λ_ _ _=>qk6) rfl h (λp1 p0=>(qG (q0g (i:=2) qN.nd rfl (by first|exact Or.inl rfl|exact Or.inr rfl) (qcg G_n (hr.mono (by decide)) rfl a_n k_n b_n .nil pass0 (qA Ng qy rfl)) rfl (by first|exact .inl rfl|exact .inr rfl)) (qG (q0g (i:=3) qN.nd rfl (by first|exact Or.inl rfl|exact Or.inr rfl) Jj rfl (by first|exact .inl rfl|exact .inr rfl)) (qG (q0g (i:=4) qN.nd rfl (by first|exact Or.inl rfl|exact Or.inr rfl) Jj rfl (by first|exact .inl rfl|exact .inr rfl)) (qG (q0g (i:=5) qN.nd rfl (by first|exact Or.inl rfl|exact Or.inr rfl) TN rfl (by first|exact .inl rfl|exact .inr rfl)) (qG (q9w PassesOwn.never (qh9 (q4I mH (by intro _;rfl)) (qdE (q4I NR (by intro _;rfl)))).pt (q0P (qhq (q4I NR (by intro _;rfl)) (qG (q0g (i:=6) qN.nd rfl (by first|exact Or.inl rfl|exact Or.inr rfl) (q9m PySem.F.plainAttrs_list PySem.F.slot_list_pop PySem.F.type_list_pop q9K (q5K hu Ab (pv 5) (by intro _ _;rfl)) rfl rfl) rfl (by first|exact .inl rfl|exact .inr rfl)) (qG (q1G (q3O PySem.F.plainAttrs_list PySem.F.slot_list_append PySem.F.type_list_append q0W mH TM rfl rfl rfl rfl rfl) rfl) (q0P (q0g (i:=5) qN.nd rfl (by first|exact Or.inl rfl|exact Or.inr rfl) p1 rfl (by first|exact .inl rfl|exact .inr rfl))))) (qG (q0g (i:=6) qN.nd rfl (by first|exact Or.inl rfl|exact Or.inr rfl) (q9m PySem.F.plainAttrs_list PySem.F.slot_list_pop PySem.F.type_list_pop q9K mH rfl rfl) rfl (by first|exact .inl rfl|exact .inr rfl)) (qG (q1G (q3O PySem.F.plainAttrs_list PySem.F.slot_list_append PySem.F.type_list_append q0W HW TM rfl rfl rfl rfl rfl) rfl) (q0P (q0g (i:=5) qN.nd rfl (by first|exact Or.inl rfl|exact Or.inr rfl) p0 rfl (by first|exact .inl rfl|exact .inr rfl)))))))) (q0P (q5G (qdr rfl z18 rfl z_reversed (qA HW qy rfl) rfl rfl rfl rfl rfl)))))))))
noncomputable def q6C:FS:=(Xc (sIf (X5 (Wo (vOf (XJ qH AJ)))) sNo WY)
  (Xc (Xq 2 (eOf (dOf (XJ q1O aD))))
  (Xc (sIf (tOf (XH fQ (vOf rR) Nb)) sNo WY)
  (Xp (Y6 2)))))
noncomputable def q3D:List D->Option O:=mir 3 q6C
noncomputable abbrev q6p:vp:=top 58
theorem qan:FnScope ["start", "arcs", "row"] BW (Y9 q6p):=ah
variable{fc67:vG}{dc67:vQ}(c67:Cal P w K mg base 1 fc67 dc67 "as_many_begin_as_end" ["arcs"] 1 qH)
variable{fc68:vG}{dc68:vQ}(c68:Cal P w K mg base 2 fc68 dc68 "round_from" ["start", "arcs"] 2 q1O)
include z14 c67 c68 in
theorem qed(F:Fun K "row_of" "row_of" q6p f fd):FnOk P w K mg base CX0 3 f fd BW (spD K 2 q3D):=by
 have h:=fnD (P:=P) (w:=w) (mg:=mg) (base:=base) (k:=2) (body:=q6C) F qan (λcdv A outer s H E hr=>
   (qb (qC (qM (qE (XE.toV (xc c67 hr Dt)))) Me qu)
   (qb (qm (i:=2) qan.nd rfl (Or.inl rfl) (XD.toE (XE.toD (xc c68 hr aX))))
   (qb (qC (Wk hr.units (XE.toV iQ) Dw) Me qu)
   aaE))))
 exact h
noncomputable def q2J:FS:=(Xc (Xq 3 (eOf (dOf (XJ q3D (Y5 bj (Y5 (dOf (XH WC bN (vOf (zAA (Y5 (zAb Ui) XL))))) XL))))))
  (Xc (Xq 4 (eOf (dOf (fIdx bp (dOf rR)))))
  (Xp (XH WC (vOf (fSl bp (pAt (vOf (XH WC dP aL))) pNo)) (vOf (fSl bp pNo (pAt dP)))))))
noncomputable def q09:List D->Option O:=mir 5 q2J
noncomputable abbrev q2N:vp:=top 59
theorem q2I:FnScope ["home", "last", "arcs", "row", "cut"] PH (Y9 q2N):=ah
variable{fc69:vG}{dc69:vQ}(c69:Cal P w K mg base 3 fc69 dc69 "row_of" ["start", "arcs"] 2 q3D)
include z14 c69 in
theorem q7O(F:Fun K "row_between" "row_between" q2N f fd):FnOk P w K mg base CX0 4 f fd PH (spD K 3 q09):=by
 have h:=fnD (P:=P) (w:=w) (mg:=mg) (base:=base) (k:=3) (body:=q2J) F q2I (λcdv A outer s H E hr=>
   (qb (qm (i:=3) q2I.nd rfl (Or.inl rfl) (XD.toE (XE.toD (xc c69 hr (Y4 fB (Y4 (XE.toD (qF kG (XE.toV (Xr (Y4 (Xw Ul) Y7))))) Y7))))))
   (qb (qm (i:=4) q2I.nd rfl (Or.inl rfl) (XD.toE (XE.toD (qgx ki (XE.toD iQ)))))
   (qc (qf (qF (XE.toV (WQ ki (Wc (XE.toV (qF r9 ak))) Wy)) (XE.toV (WQ ki Wy (Wc r9)))))))))
 exact h
noncomputable def q5O:FS:=(Xc (sIf (zBO pW (zBO (tOf (XH fQ gY jc)) (tOf (XH fQ pN (fC lO))))) a9 WY)
  (Xp (eOf (zAd N2 (zAd (dOf (XJ qB (Y5 (dOf Ay) XL))) (dOf (XH fQ lZ (vOf Ay))))))))
noncomputable def q2r:List D->Option O:=mir 1 q5O
noncomputable abbrev q87:vp:=top 61
theorem qjc:FnScope jZ jZ (Y9 q87):=ah
include z0 c13 z14 z15 z16 in
theorem qgC(F:Fun K "is_go" "is_go" q87 f fd):FnOk P w K mg base CX0 2 f fd jZ (spD K 1 q2r):=by
 have h:=fnD (P:=P) (w:=w) (mg:=mg) (base:=base) (k:=1) (body:=q5O) F qjc (λcdv A outer s H E hr=>
   (qb eZ
   (qc (qf (XD.toE (qW j6 (qW j6 Fg)))))))
 exact h
noncomputable def q2V:FD:=(dOf Up)
noncomputable def q1z:FS:=(Xc (sIf (zBO pW (zBO (tOf (XH fQ gY GM)) (tOf (XH fQ pN (fC fu))))) a9 WY)
  (Xc (sIf (X5 (Wo (vOf (X4 W7 (Y5 (vOf (Xo 1 [] (WA (dOf (fSl ax (pAt aL) pNo))) dz Xl q2V)) XL))))) a9 WY)
  (Xp (eOf (zAd (dOf (XH oGe lZ aM)) (dOf (XH oLt lZ Nb)))))))
noncomputable def q05:List D->Option O:=mir 2 q1z
noncomputable abbrev q1B:vp:=top 62
theorem q6m:FnScope lg lg (Y9 q1B):=ah
include z0 c13 z14 z15 z16 z19 in
theorem q63(F:Fun K "has_carry_form" "has_carry_form" q1B f fd):FnOk P w K mg base CX0 2 f fd lg (spD K 2 q05):=by
 have h:=fnD (P:=P) (w:=w) (mg:=mg) (base:=base) (k:=1) (body:=q1z) F q6m (λcdv A outer s H E hr=>
   (qb eZ
   (qb (qC (qM (qE (XE.toV (qr nN q1m rfl z19 q1p (qj (XE.toV (qz rfl (blk Uf [] [] rfl ⋯ ⋯ rfl trivial) (qp (XE.toD (WQ jA VM Wy))) ir (λ_ _ _ _=>⟨(qh (i:=0) (show (Ga++cg:List Str).Nodup from by decide +kernel) rfl aB),qv,(XE.toD L1)⟩))) qo))))) bH qu)
   (qc (qf (XD.toE (qW (XE.toD (qkQ bF ak)) (q0p (XE.toD (qhg bF Dw))))))))))
 exact h
noncomputable def q4S:FS:=(Xc (sIf (tOf (XH fQ (vOf (XH oIx dP (vOf (fNeg cP)))) bp)) a9 WY)
  (Xq 3 (eOf (dOf (XH oIx dP (vOf (fNeg aL)))))))
noncomputable def q7U:FS:=(Xc (Xq 3 (eOf bj))
  (Xc (zAC PL Dp q4S)
  (Xp (XH iE bp bg))))
noncomputable def q4n:List D->Option O:=mir 5 q7U
noncomputable abbrev q7F:vp:=top 63
theorem q5P:FnScope ["home", "last", "moves", "here", "move"] OR (Y9 q7F):=ah
theorem qfZ(F:Fun K "leads" "leads" q7F f fd):FnOk P w K mg base CX0 1 f fd OR (spD K 3 q4n):=by
 have h:=fnD (P:=P) (w:=w) (mg:=mg) (base:=base) (k:=0) (body:=q7U) F q5P (λcdv A outer s H E hr=>
   (qb (qm (i:=3) q5P.nd rfl (Or.inl rfl) (XD.toE fB))
   (qb (qP PassesOwn.never rfl (qp jP) (qh (i:=4) q5P.nd rfl aB) (qb (qC (Wk hr.units (XE.toV No) ki) bH qu)
   (qc (qm (i:=3) q5P.nd rfl (Or.inl rfl) (XD.toE (XE.toD No))))))
   (qc (qf (zAm hr.units ki ga))))))
 exact h
noncomputable def q23:FS:=(Xc (Xq 6 (eOf (dOf (fIte (tOf (XH oGt eJ aM)) (Y6 4) (eOf (zAb (Y5 (dOf MO) (Y5 (dOf MN) XL))))))))
  (zCp 3 (dOf (XH zBw (vOf (zAA (Y5 CN XL))) (vOf (X4 zCv (Y5 eJ XL)))))))
noncomputable def q2m:FS:=(Xc (Xq 3 Q7)
  (Xc (zAC aaH abB q23)
  U2))
noncomputable def q0x:List D->Option O:=mir 7 q2m
noncomputable abbrev q28:vp:=top 64
theorem q0w:FnScope ["home", "last", "boxes", "arcs", "gap", "lack", "arc"] au (Y9 q28):=ah
include z26 c27 c41 z60 in
theorem q7r(F:Fun K "lacking_arcs" "lacking_arcs" q28 f fd):FnOk P w K mg base CX0 8 f fd au (spD K 3 q0x):=by
 have h:=fnD (P:=P) (w:=w) (mg:=mg) (base:=base) (k:=7) (body:=q2m) F q0w (λcdv A outer s H E hr=>
   (qb (qm (i:=3) q0w.nd rfl (Or.inl rfl) Jp)
   (qb (qP PassesOwn.never rfl (q71 rfl z26 (Y4 kr oQ)) (q2C rfl (qD (qh (i:=4) q0w.nd rfl aB) (qD (qh (i:=5) q0w.nd rfl aB) q1I))) (qb (qm (i:=6) q0w.nd rfl (Or.inl rfl) (XD.toE (XE.toD (qfo (qkK Df ak) (vE 4) (XD.toE (Xw (Y4 iK (Y4 iK Y7))))))))
   (qc (q7v mH (XE.toD (qkA (XE.toV (Xr (Y4 TC Y7))) (XE.toV (qr q6K q9R rfl z60 qay (qj Df qo)))))))))
   NP)))
 exact h
noncomputable def q2n:FS:=(Xc (zB7 3 (zAb (Y5 EK (Y5 EL XL))))
  (zB7 3 (zAb (Y5 EL (Y5 EK XL)))))
noncomputable def q2Q:FS:=(Xc (Xq 3 Q7)
  (Xc abI
  (Xc (zAC (WA (dOf (XJ q04 (Y5 ja A7)))) Qv q2n)
  U2)))
noncomputable def q0H:List D->Option O:=mir 6 q2Q
noncomputable abbrev q2K:vp:=top 65
theorem q1r:FnScope ["home", "last", "boxes", "arcs", "places", "edge"] au (Y9 q2K):=ah
include c25 c47 c53 c54 in
theorem q7S(F:Fun K "forest_arcs" "forest_arcs" q2K f fd):FnOk P w K mg base CX0 9 f fd au (spD K 3 q0H):=by
 have h:=fnD (P:=P) (w:=w) (mg:=mg) (base:=base) (k:=8) (body:=q2Q) F q1r (λcdv A outer s H E hr=>
   (qb (qm (i:=3) q1r.nd rfl (Or.inl rfl) Jp)
   (qb (qm (i:=4) q1r.nd rfl (Or.inl rfl) RN)
   (qb (qP PassesOwn.never rfl (qp (XE.toD (xc c47 hr (Y4 Dg oP)))) (qh (i:=5) q1r.nd rfl aB) (qb IH
   (qc IH)))
   NP))))
 exact h
noncomputable def q3n:FS:=(Xc (sIf (tOf (XH oLt ax (vOf rR))) (Xp (eOf (zAb (Y5 (fC fu) (Y5 bj rn))))) WY)
  (Xp (eOf (zAb (Y5 (fC lO) rn)))))
noncomputable def q1U:List D->Option O:=mir 3 q3n
noncomputable abbrev q3x:vp:=top 66
theorem qau:FnScope A4 A4 (Y9 q3x):=ah
include z14 in
theorem q8Y(F:Fun K "move_along" "move_along" q3x f fd):FnOk P w K mg base CX0 1 f fd A4 (spD K 3 q1U):=by
 have h:=fnD (P:=P) (w:=w) (mg:=mg) (base:=base) (k:=0) (body:=q3n) F qau (λcdv A outer s H E hr=>
   (qb (qC (q96 jA (XE.toV iQ)) (qc (qf (XD.toE (Xw (Y4 zAl (Y4 fB Uk)))))) qu)
   (qc (qf (XD.toE (Xw (Y4 zAl Uk)))))))
 exact h
noncomputable def q7B:FD:=(dOf (XJ q1U (Y5 bj (Y5 (dOf (XH oIx bN ax)) AJ))))
noncomputable def q9n:FS:=(Xc (Xq 3 (eOf (dOf (XH WC (vOf (XJ q0x ai)) (vOf (XJ q0H ai))))))
  (Xc (Xq 4 (eOf (dOf (XH WC bN bp))))
  (Xp (Xo 1 [2,4] (WA (dOf (XJ q09 (Y5 bj (Y5 cw Uh))))) dz Xl q7B))))
noncomputable def q55:List D->Option O:=mir 5 q9n
noncomputable abbrev qaJ:vp:=top 67
theorem qaL:FnScope ["home", "last", "boxes", "empty", "arcs"] au (Y9 qaJ):=ah
variable{fc70:vG}{dc70:vQ}(c70:Cal P w K mg base 8 fc70 dc70 "lacking_arcs" ["home", "last", "boxes"] 3 q0x)
variable{fc71:vG}{dc71:vQ}(c71:Cal P w K mg base 9 fc71 dc71 "forest_arcs" ["home", "last", "boxes"] 3 q0H)
variable{fc72:vG}{dc72:vQ}(c72:Cal P w K mg base 4 fc72 dc72 "row_between" ["home", "last", "arcs"] 3 q09)
variable{fc73:vG}{dc73:vQ}(c73:Cal P w K mg base 1 fc73 dc73 "move_along" ["number", "arc", "boxes"] 3 q1U)
include c70 c71 c72 c73 in
theorem qhY(F:Fun K "tour" "tour" qaJ f fd):FnOk P w K mg base CX0 10 f fd au (spD K 3 q55):=by
 have h:=fnD (P:=P) (w:=w) (mg:=mg) (base:=base) (k:=9) (body:=q9n) F qaL (λcdv A outer s H E hr=>
   (qb (qm (i:=3) qaL.nd rfl (Or.inl rfl) (XD.toE (XE.toD (qF (XE.toV (xc c70 hr ar)) (XE.toV (xc c71 hr ar))))))
   (qb (qm (i:=4) qaL.nd rfl (Or.inr rfl) (XD.toE (XE.toD (qF kG ki))))
   (qc (qf (qz rfl (blk ["number"] abG [2,4] rfl ⋯ ⋯ rfl ⟨⟨rfl,(by first|exact Or.inl rfl|exact Or.inr rfl),rfl⟩,⟨⟨rfl,(by first|exact Or.inl rfl|exact Or.inr rfl),rfl⟩,trivial⟩⟩) (qp (XE.toD (xc c72 hr (Y4 fB (Y4 kH Um))))) ir (λ_ _ _ _=>⟨(qh (i:=0) (show ((["number"]:List Str)++(abG:List Str):List Str).Nodup from by decide +kernel) rfl aB),qv,(XE.toD (xc c73 hr (Y4 fB (Y4 (XE.toD (XB kG jA)) Dt))))⟩)))))))
 exact h
noncomputable def q1P:FS:=(Xp (eOf (zAd (dOf (XJ q05 aD)) (dOf (XH fQ (vOf Ay) Rc)))))
noncomputable def q0f:List D->Option O:=mir 2 q1P
noncomputable abbrev q21:vp:=top 69
theorem q7e:FnScope lg lg (Y9 q21):=ah
variable{fc74:vG}{dc74:vQ}(c74:Cal P w K mg base 2 fc74 dc74 "has_carry_form" ["thing", "boxes"] 2 q05)
include c74 in
theorem q6h(F:Fun K "is_yard_carry" "is_yard_carry" q21 f fd):FnOk P w K mg base CX0 3 f fd lg (spD K 2 q0f):=by
 have h:=fnD (P:=P) (w:=w) (mg:=mg) (base:=base) (k:=2) (body:=q1P) F q7e (λcdv A outer s H E hr=>
   (qc (qf (XD.toE (qW (XE.toD (xc c74 hr aX)) Fg)))))
 exact h
noncomputable def q17:FD:=dN
noncomputable def qL:FS:=(sIf (tOf (XH iE (vOf ES) (fC fu))) (Xc (sIf (tOf (XH fQ (vOf (XH oIx bN (vOf acX))) (vOf (XH oIx bp cP)))) a9 WY)
  (zC6 2 EM (dOf (XH oIx bp jc)))) WY)
noncomputable def q16:FD:=cX
noncomputable def q1f:FS:=(Xc (Xq 2 (Xo 1 [] Am dz Xl q17))
  (Xc (zAC VO Nj qL)
  (Xp (XH iE bN (vOf (Xo 1 [] Am dz Xl q16))))))
noncomputable def qX:List D->Option O:=mir 4 q1f
noncomputable abbrev q1l:vp:=top 70
theorem q1k:FnScope ["boxes", "moves", "lying", "move"] aaR (Y9 q1l):=ah
theorem q5x(F:Fun K "brings_each_box" "brings_each_box" q1l f fd):FnOk P w K mg base CX0 1 f fd aaR (spD K 2 qX):=by
 have h:=fnD (P:=P) (w:=w) (mg:=mg) (base:=base) (k:=0) (body:=q1f) F q1k (λcdv A outer s H E hr=>
   (qb (q29 (i:=2) rfl q1k.nd rfl rfl (blk Kt [] [] rfl ⋯ ⋯ rfl trivial) Do ir (λ_ _ _ _=>⟨(qh (i:=0) (show (kX++cg:List Str).Nodup from by decide +kernel) rfl aB),qv,bi⟩))
   (qb (qP PassesOwn.never rfl (qp kH) (qh (i:=3) q1k.nd rfl aB) (qc (qC (zC2 hr.units Ge (XD.toV zAl)) (qb (qC (Wk hr.units (XE.toV (XB kG Ge)) Ge) bH qu)
   (qc (qiZ Ab fX fX))) qu)))
   (qc (qf (zAm hr.units kG (XE.toV (qz rfl (blk Kt [] [] rfl ⋯ ⋯ rfl trivial) Do ir (λ_ _ _ _=>⟨(qh (i:=0) (show (kX++cg:List Str).Nodup from by decide +kernel) rfl aB),qv,bi⟩)))))))))
 exact h
noncomputable def q0Q:FD:=(vOr (dOf (XJ q2r aY)) (dOf (XJ q0f aD)))
noncomputable def q2f:FS:=(Xc U0
  (Xc (sIf Kw a9 WY)
  (Xc (sIf (X5 (Wo (vOf (X4 W7 (Y5 (vOf (Xo 1 [1] PL dz Xl q0Q)) XL))))) a9 WY)
  (Xp (eOf (zAd (dOf (XJ q4n (Y5 bj (Y5 bj ME)))) (dOf (XJ qX ap))))))))
noncomputable def q0t:List D->Option O:=mir 3 q2f
noncomputable abbrev q26:vp:=top 71
theorem q7Q:FnScope A5 A5 (Y9 q26):=ah
variable{fc75:vG}{dc75:vQ}(c75:Cal P w K mg base 3 fc75 dc75 "is_yard_carry" ["thing", "boxes"] 2 q0f)
variable{fc76:vG}{dc76:vQ}(c76:Cal P w K mg base 2 fc76 dc76 "is_go" ["thing"] 1 q2r)
variable{fc77:vG}{dc77:vQ}(c77:Cal P w K mg base 1 fc77 dc77 "brings_each_box" ["boxes", "moves"] 2 qX)
variable{fc78:vG}{dc78:vQ}(c78:Cal P w K mg base 1 fc78 dc78 "leads" ["home", "last", "moves"] 3 q4n)
include z0 z18 z19 z20 c34 c75 c76 c77 c78 in
theorem q77(F:Fun K "is_yard_tour" "is_yard_tour" q26 f fd):FnOk P w K mg base CX0 6 f fd A5 (spD K 3 q0t):=by
 have h:=fnD (P:=P) (w:=w) (mg:=mg) (base:=base) (k:=5) (body:=q2f) F q7Q (λcdv A outer s H E hr=>
   (qb Ro
   (qb (qC Av bH qu)
   (qb (qC (qM (qE (XE.toV (qr nN q1m rfl z19 q1p (qj (XE.toV (qz rfl (blk ["move"] Qz [1] rfl ⋯ ⋯ rfl ⟨⟨rfl,(by first|exact Or.inl rfl|exact Or.inr rfl),rfl⟩,trivial⟩) (qp jP) ir (λ_ _ _ _=>⟨(qh (i:=0) (show ((["move"]:List Str)++EO:List Str).Nodup from by decide +kernel) rfl aB),qv,(qkU (XE.toD (xc c76 hr bL)) (q0p (XE.toD (xc c75 hr aX))))⟩))) qo))))) bH qu)
   (qc (qf (XD.toE (qW (XE.toD (xc c78 hr (Y4 fB (Y4 fB MG)))) (q0p (XE.toD (xc c77 hr aw)))))))))))
 exact h
noncomputable def q3Q:FS:=(Xc (sIf (tOf (XH oLt bg gY)) (Xp (XH oIx ax bg)) WY)
  (Xp Ry))
noncomputable def q0l:List D->Option O:=mir 2 q3Q
noncomputable abbrev q44:vp:=top 73
theorem qb7:FnScope Mz Mz (Y9 q44):=ah
include z14 in
theorem qac(F:Fun K "_law_cell" "_law_cell" q44 f fd):FnOk P w K mg base CX0 1 f fd Mz (spD K 2 q0l):=by
 have h:=fnD (P:=P) (w:=w) (mg:=mg) (base:=base) (k:=0) (body:=q3Q) F qb7 (λcdv A outer s H E hr=>
   (qb (qC (q96 ga ci) (qc (qf (XB jA ga))) qu)
   (qc (qf Kv))))
 exact h
noncomputable def q0S:FS:=(Xc (Xq 1 (eOf (dOf (XJ q0l (Y5 bj (Y5 (dOf (XH WC cP dP)) XL))))))
  (zB7 3 (dOf (XH WC bN (vOf (XH oIx (vOf (zAA (Y5 (dOf (XH WC dP (vOf (XH oMod DH jc)))) (Y5 (dOf (XH oMod DH (fC (.int 100)))) (Y5 (dOf (XH oMod DH j9)) XL))))) (vOf (XH oMod bg jc))))))))
noncomputable def q3W:FS:=(Xc (Xq 1 (eOf (dOf (XJ q0l (Y5 bj (Y5 aM XL))))))
  (Xc (Xq 2 (eOf (dOf (XH zBC (vOf (XH oMod Qc (fC (.int 21)))) Mv))))
  (Xc (sIf (tOf (XH iE (vOf (XH oMod bg cP)) aL)) (Xq 2 (eOf (dOf (XH zBC (vOf (XH oMod Qc (vOf (XH zAy cP j9)))) j9)))) WY)
  (Xc (Xq 3 (zAA ME))
  (Xc (zAC (iRg1 (Y5 (fC (.int 6)) XL)) Dp q0S)
  U2)))))
noncomputable def q1q:List D->Option O:=mir 5 q3W
noncomputable abbrev q3V:vp:=top 74
theorem q0j:FnScope ["script", "cell", "gate", "some", "k"] Ep (Y9 q3V):=ah
variable{fc79:vG}{dc79:vQ}(c79:Cal P w K mg base 1 fc79 dc79 "_law_cell" ["script", "k"] 2 q0l)
variable(z80:mg "range" = none)
include c79 z80 in
theorem qag(F:Fun K "_law_menu" "_law_menu" q3V f fd):FnOk P w K mg base CX0 2 f fd Ep (spD K 1 q1q):=by
 have h:=fnD (P:=P) (w:=w) (mg:=mg) (base:=base) (k:=1) (body:=q3W) F q0j (λcdv A outer s H E hr=>
   (qb (qm (i:=1) q0j.nd rfl (Or.inl rfl) A8)
   (qb (qm (i:=2) q0j.nd rfl (Or.inl rfl) (XD.toE (XE.toD (q0J (XE.toV Rq) ak))))
   (qb (qC (zC2 hr.units RM ak) (qc (qm (i:=2) q0j.nd rfl (Or.inl rfl) (XD.toE (XE.toD (q0J (XE.toV (q0K l9 (XE.toV (q4f ak ET)))) ET))))) qu)
   (qb (qm (i:=3) q0j.nd rfl (Or.inl rfl) (Xr MG))
   (qb (qP PassesOwn.never rfl (qf0 rfl z80 (qj ak qo)) (qh (i:=4) q0j.nd rfl aB) (qb (qm (i:=1) q0j.nd rfl (Or.inl rfl) (XD.toE (XE.toD (xc c79 hr (Y4 fB (Y4 (XE.toD (qF ak r9)) Y7))))))
   (qc (q2y mH (XE.toD (qF kG (XE.toV (XB (XE.toV (Xr (Y4 (XE.toD (qF r9 (XE.toV Rq))) (Y4 (XE.toD Rq) (Y4 (XE.toD (q0K l9 ET)) Y7))))) RM))))))))
   NP))))))
 exact h
noncomputable def q2R:FS:=(zB7 4 (zAb (Y5 (dOf (XH oIx bg (vOf (XH oMod eJ N0)))) (Y5 (dOf (XH oIx bg (vOf (XH oMod (vOf (XH oDiv eJ N0)) N0)))) XL))))
noncomputable def q3B:FS:=(Xc (Xq 2 (eOf (dOf (XJ q0l (Y5 bj Uj)))))
  (Xc (Xq 3 (eOf (dOf (XH oIx (vOf (zAA (Y5 (fC ac7) (Y5 (fC ac7) (Y5 (dOf (XH oMod Qd Mv)) (Y5 (dOf (XH oMod Qd jc)) XL)))))) (vOf (XH oMod bN GM))))))
  (Xc Du
  (Xc (zAC (WA (dOf (fSl ax (pAt (fC (.int 8))) (pAt (vOf (XH WC (fC (.int 8)) bp)))))) Qv q2R)
  (zAH 4)))))
noncomputable def q0r:List D->Option O:=mir 6 q3B
noncomputable abbrev q3t:vp:=top 75
theorem q19:FnScope ["script", "some", "cell", "many", "boxes", "one"] aaP (Y9 q3t):=ah
include c79 in
theorem q93(F:Fun K "_law_boxes" "_law_boxes" q3t f fd):FnOk P w K mg base CX0 2 f fd aaP (spD K 2 q0r):=by
 have h:=fnD (P:=P) (w:=w) (mg:=mg) (base:=base) (k:=1) (body:=q3B) F q19 (λcdv A outer s H E hr=>
   (qb (qm (i:=2) q19.nd rfl (Or.inl rfl) A8)
   (qb (qm (i:=3) q19.nd rfl (Or.inl rfl) (XD.toE (XE.toD (XB (XE.toV (Xr (Y4 Y8 (Y4 Y8 (Y4 EU (Y4 EU Y7)))))) (XE.toV (q0K kG ak))))))
   (qb (qm (i:=4) q19.nd rfl (Or.inl rfl) Jp)
   (qb (qP PassesOwn.never rfl (qp (XE.toD (WQ jA VM (Wc (XE.toV (qF ak ki)))))) (qh (i:=5) q19.nd rfl aB) (qc (q2y HW (Xw (Y4 (XE.toD (XB ga (XE.toV (q0K Df ak)))) (Y4 (XE.toD (XB ga (XE.toV (q0K (XE.toV (q1K Df ak)) ak)))) Y7))))))
   NQ)))))
 exact h
noncomputable def q78:FS:=(Xc (Xq 7 (eOf (dOf (XH oIx kR (vOf (XH zBC Na cP))))))
  (Xc (Xq 8 (eOf (dOf (XH oIx kR (vOf (XH zBC Na aL))))))
  (Xc (Xq 5 (eOf (dOf (XH WC eJ (vOf (X4 zCv (Y5 (vOf (XH zBC (vOf (Y6 8)) Pi)) XL)))))))
  (sIf (tOf (XH fQ Pi (vOf (Y6 8)))) (zB7 4 CN) WY))))
noncomputable def qd2:FS:=(Xc (Xq 1 (eOf (dOf (XJ q1q aY))))
  (Xc (Xq 2 (eOf (dOf MP)))
  (Xc (Xq 3 (eOf (dOf (XJ q0r aD))))
  (Xc Du
  (Xc (Xq 5 Ry)
  (Xc (zAC (WA (dOf (XJ q55 (Y5 b0 kZ)))) (gN 6) q78)
  (WL 4 (Xc (sIf (tOf (XH (oIs true) (vOf (XJ q0t (Y5 b0 (Y5 Vz Uh)))) Vt)) a9 WY)
  (Xp (eOf (zAd (dOf (XH oLe (vOf (XJ q0z kZ)) eJ)) (dOf (XH iE eJ (vOf (XJ q4m (Y5 b0 kZ))))))))))))))))
noncomputable def q5M:List D->Option O:=mir 9 qd2
noncomputable abbrev q5W:vp:=top 76
theorem q2u:FnScope ["script", "some", "gate", "boxes", "moves", "gone", "move", "begin", "end"] Ep (Y9 q5W):=ah
variable{fc81:vG}{dc81:vQ}(c81:Cal P w K mg base 2 fc81 dc81 "_law_menu" ["script"] 1 q1q)
variable{fc82:vG}{dc82:vQ}(c82:Cal P w K mg base 2 fc82 dc82 "_law_boxes" ["script", "some"] 2 q0r)
variable{fc83:vG}{dc83:vQ}(c83:Cal P w K mg base 10 fc83 dc83 "tour" ["home", "last", "boxes"] 3 q55)
variable{fc84:vG}{dc84:vQ}(c84:Cal P w K mg base 6 fc84 dc84 "is_yard_tour" ["gate", "boxes", "thing"] 3 q0t)
variable{fc85:vG}{dc85:vQ}(c85:Cal P w K mg base 12 fc85 dc85 "least" ["home", "last", "boxes"] 3 q4m)
variable{fc86:vG}{dc86:vQ}(c86:Cal P w K mg base 7 fc86 dc86 "yard_least" ["gate", "boxes"] 2 q0z)
include z14 z18 z60 c81 c82 c83 c84 c85 c86 in
theorem qjk(F:Fun K "law" "law" q5W f fd):FnOk P w K mg base CX0 13 f fd Ep (spD K 1 q5M):=by
 have h:=fnD (P:=P) (w:=w) (mg:=mg) (base:=base) (k:=12) (body:=qd2) F q2u (λcdv A outer s H E hr=>
   (qb (qm (i:=1) q2u.nd rfl (Or.inl rfl) (XD.toE (XE.toD (xc c81 hr bL))))
   (qb (qm (i:=2) q2u.nd rfl (Or.inl rfl) (XD.toE mQ))
   (qb (qm (i:=3) q2u.nd rfl (Or.inl rfl) (XD.toE (XE.toD (xc c82 hr aX))))
   (qb (qm (i:=4) q2u.nd rfl (Or.inl rfl) Jp)
   (qb (qm (i:=5) q2u.nd rfl (Or.inl rfl) Kv)
   (qb (qP PassesOwn.never rfl (qp (XE.toD (xc c83 hr (Y4 jP Hu)))) (qh (i:=6) q2u.nd rfl aB) (qb (qm (i:=7) q2u.nd rfl (Or.inl rfl) jI)
   (qb (qm (i:=8) q2u.nd rfl (Or.inl rfl) jI)
   (qb (qm (i:=5) q2u.nd rfl (Or.inl rfl) (XD.toE (XE.toD (qF Df (XE.toV (qr q6K q9R rfl z60 qay (qj (XE.toV (q0J (vV 8) (vV 7))) qo)))))))
   (qc (qC (Wk hr.units (vV 7) (vV 8)) (qc (q2y HW TC)) qu))))))
   (q0c 4 (qb (qC (zCJ (XE.toV (xc c84 hr (Y4 jP (Y4 eX Um)))) (XD.toV WG)) bH qu)
   (qc (qf (XD.toE (qW (XE.toD (q97 (XE.toV (xc c86 hr Hu)) Df)) (q0p (XE.toD (zAm hr.units Df (XE.toV (xc c85 hr (Y4 jP Hu)))))))))))))))))))
 exact h
end
set_option compiler.extract_closed false
set_option hygiene false
local macro_rules|`(tactic| simp_arith $c:optConfig [$xs,*])=>`(tactic| simp $c only[q9G,q9c,qbX,qe8,qfe,qcK,e_wd,qf5,e_wz,qcD,qdU,qc0,qh8,qe7,qf7,qhH,qhm,qhA,qf3,qhr,qbQ,qcG,qho,qfp,qh6,qdC,qhB,qh5,qhC,q7Z,qch,qY,q7K,qbT,qhn,qhh,qca,qcc,e_if,qfB,qfh,qhI,qbR,qcB,q9r,q83,qhd,zBs,qhM,q9Y,q4r,qcO,qbz,qhl,e_fs,qhN,qcq,qbN,e_c,e_e,e_ed,e_d,qbt,qbu,e_v,qcn,qcH,qbM,e_op,e_o2,qft,e_cl,qbV,qcQ,e_ac,e_ca,e_an,qhz,qhw,qhk,e_bl,qhi,e_sl,e_po,e_pa,e_ap,qh7,qdR,qei,qhu,q8t,q8I,e_t,e_tr,qha,qhj,e_to,qhf,qe9,e_tn,qeu,qcx,qa8,qfc,e_va,qhe,qhO,e_vo,qf9,qfb,qfC,qhE,qe3,We,qhs,e_ng,qcf,qcM,qbH,qah,q7A,qeA,qdT,qbS,qex,qdI,qdX,qeS,qbY,qbC,qhx,qhy,qhb,at0,at1,at2,q5N,qc1,zCM,entry,yT,xD,zI,xV,zA,zU,yz,ZY,yX,yR,xw,ZG,ZH,xT,xy,Nat.reduceSub,Nat.reduceAdd,Nat.reduceLT,Int.reduceLT,Int.reduceLE,Int.reduceSub,Int.reduceAdd,Int.reduceMul,Int.reduceMod,Int.reduceDiv,Int.reduceNeg,ZR,Int.reduceBEq,Ym,↓reduceIte,Z7,Yz,Zt,wm,wx,YO,Z6,Bool.or_true,wf,Yw,xb,beq_self_eq_true,yI,$xs,*])
set_option compiler.extract_closed true
set_option hygiene true
noncomputable def XQ(p:bh):D:=.tup Aj
noncomputable def plD:D->Bool
 | .scr _=>false
 | .exc _=>false
 | .dic _ _=>false
 | _=>true
noncomputable def plB:D->Bool
 | .tup ds=>ds.all plD
 | d=>plD d
noncomputable def plL:D->Bool
 | .lst ds=>ds.all plB&&decide (ds.length<=20)
 | d=>plD d
noncomputable def geD(a:Int):D->Bool
 | .int x=>decide (a<=x)
 | _=>false
noncomputable def zCN(a:Int):D->Bool
 | .tup [x,y]=>geD a x&&geD a y
 | _=>false
noncomputable def isYd:D->D->Bool
 | .int a,.lst ds=>ds.all UZ
 | _,_=>false
inductive Rch (es:List (Int×Int)) (a:Int):Int->Prop where
 | refl:Rch es a a
 | step {b c:Int}:Rch es a b->((b,c)∈es\/(c,b)∈es)->Rch es a c
theorem Rch.trans{es:ae}{a b c:Int}(h:Rch es a b)(h':Rch es b c):Rch es a c:=by
 induction h' with
 | refl=>exact h
 | step _ e ih=>exact ih.step e
theorem Rch.symm{es:ae}{a b:Int}(h:Rch es a b):Rch es b a:=by
 induction h with
 | refl=>exact .refl
 | step _ e ih=>exact(Rch.refl.step e.symm).trans ih
theorem Rch.inv{es:ae}{a:Int}(P:Int->Prop)(h0:P a)(hs:∀b c,P b->((b,c)∈es\/(c,b)∈es)->P c){c:Int}(h:abQ):P c:=by
 induction h with
 | refl=>exact h0
 | step _ e ih=>exact hs _ _ ih e
theorem q6y{α β:Type}(f:α->β):∀(ks:af)(xs:bE)(k:Int),Xg ks (xs.map f) k=(Xg ks xs k).map f
 | [],_,_=>rfl
 | _::_,[],_=>rfl
 | k'::ks,x::xs,k=>by
  show (if k'=k then some (f x)else Xg ks (xs.map f) k)=(if k'=k then some x else Xg ks xs k).map f
  by_cases z:k'=k
  ·rw[gz,gz];rfl
  ·rw[gc,gc,q6y f ks xs k]
theorem q3M{α:Type}:∀{ks:af}{xs:bE}{k:Int},ks.length=xs.length->(Xg ks xs k).isSome=decide (k∈ks)
 | [],[],_,_=>rfl
 | [],_::_,_,h=>by simp at h
 | _::_,[],_,h=>by simp at h
 | k'::ks,x::xs,k,h=>by
  show (if k'=k then some x else Xg ks xs k).isSome=_
  by_cases z:k'=k
  ·rw[gz];simp[z]
  ·have z':¬k=k':=λy=>z y.symm
   rw[gc,q3M ⇑h];simp[z']
theorem q6E:∀(ks:af)(xss:cn)(a' b a:Int),Xg ks aaT a=(Xg ks xss a).map λxs=>if a=a' then xs++[b]else xs
 | [],_,_,_,_=>rfl
 | _::_,[],_,_,_=>rfl
 | k::ks,x::xss,a',b,a=>by
  unfold Ww
  by_cases z:k=a'
  ·rw[gz]
   show (if k=a then some Q9 else Xg ks xss a)=(if k=a then some x else Xg ks xss a).map _
   by_cases y:k=a
   ·rw[JI,JI,xD,vH (y▸z)]
   ·rw[KN,KN]
    have:¬a=a':=λe=>y (z.trans e.symm);cases Xg ks xss a with
    | none=>rfl
    | some v=>rw[xD,vJ this]
  ·rw[gc]
   show (if k=a then some x else Xg ks aaT a)=(if k=a then some x else Xg ks xss a).map _
   by_cases y:k=a
   ·have:¬a=a':=λe=>z (y.trans e)
    rw[JI,JI,xD,vJ this]
   ·rw[KN,KN];exact q6E ks xss a' b a
theorem qiO(ts:af)(a:Int)(ha:a∈ts):∀(es:ae),∃xs,Xg ts (nbT ts es) a=some xs/\∀c,c∈xs↔((a,c)∈es\/(c,a)∈es):=by
 intro es;have key:∀(post pre:ae)(T:cn)(xs:af),Xg ts T a=some xs->(∀c,c∈xs↔((a,c)∈pre\/(c,a)∈pre))->∃xs',Xg ts (post.foldl VL T) a=some xs'/\∀c,c∈xs'↔((a,c)∈pre++post\/(c,a)∈pre++post):=by
  intro post
  induction post with
  | nil=>intro pre T xs h1 h2;exact⟨xs,h1,by rw[zk];exact h2⟩
  | cons e post ih=>
   intro pre T xs h1 h2;have h3:Xg ts (Wd ts T e) a=some (let ys:=if a=e.1 then xs++[e.2]else xs;if a=e.2 then ys++[e.1]else ys):=by
    unfold Wd;rw[q6E,q6E,h1];rfl
   obtain⟨xs',g1,g2⟩:=ih (pre++[e]) (Wd ts T e) _ h3 (λc=>by
    obtain⟨e1,e2⟩:=e;have m:∀x y:Int,(x,y)∈pre++[(e1,e2)]↔(x,y)∈pre\/(x=e1/\y=e2):=λx y=>by simp
    rw[m,m]
    by_cases y1:a=e1 <;> by_cases y2:a=e2 <;> simp[y1,y2,h2] <;> (try subst y1) <;> (try subst y2) <;> simp_all <;> grind)
   refine⟨xs',g1,λc=>?_⟩;rw[g2,zO];rfl
 have h0:Xg ts Ly a=some []:=by
  have:(Xg ts Ly a).isSome=true:=by rw[q3M (by rw[zA]),vT ha]
  obtain⟨x,hx⟩:=yy.mp this;rw[q6y]at hx ⊢;obtain⟨y,hy,e⟩:=wQ.mp hx;rw[hy];rfl
 obtain⟨xs',g1,g2⟩:=key es [] _ [] h0 (by simp);exact⟨xs',g1,by simpa using g2⟩
structure Ok (ts:List Int) (es:List (Int×Int)):Prop where
 nd:ts.Nodup
 inn:∀e∈es,e.1∈ts/\e.2∈ts
 l1:ts.length<64
 l2:es.length<=1000
noncomputable def nbD(ts:af)(es:ae):List D:=(nbT ts es).map λxs=>.lst iy
theorem q8V{ts:af}{es:ae}(h:Kz):q1Y [aO,bV]=↥cA:=by
 have hl:=h.l1;have e:nbM L9 Km=some cA:=by
  unfold nbM;rw[qR,q40];exact vH ⟨h.nd,h.inn,∅,h.l2⟩
 show outM ((nbM L9 Km).map _)=_;rw[e];rfl
theorem Rch.mem{ts:af}{es:ae}(h:Kz){a c:Int}(ha:a∈ts)(r:abQ):c∈ts :=
 r.inv (λx=>x∈ts) ha λb c _ e=>by
  rcases e with e|e
  ·exact(h.inn _ e).2
  ·exact(h.inn _ e).1
noncomputable def Wf(F:af):List D:=F.map λ_=>.bl true
theorem q8L(F:af):F.length=(Wf F).length:=by unfold Wf;rw[zA]
theorem qbL{F:af}{c:Int}(h:c∉F):Wm F c=F++[c]/\putA F (Wf F) c bn=Wf (F++[c]):=by
 unfold Wm putA Wf;rw[vJ h,vJ h,zW];exact cT
theorem q1e:∀{F ts:af},F.Nodup->(∀c∈F,c∈ts)->F.length<=ts.length
 | [],_,_,_=>yF _
 | a::r,ts,hn,hs=>by
  obtain⟨h1,h2⟩:=yj.mp hn;have ha:=hs a zE;have:=q1e (F:=r) (ts:=ts.erase a) h2 λc hc=>(Zw (show c≠a from λz=>h1 (by rw[<- z];exact hc))).mpr (hs c aam);rw[List.length_erase_of_mem ha]at this;have hp:0<ts.length:=wV ha;rw[zI];omega
structure GI (ts:List Int) (es:List (Int×Int)) (a:Int) (F Wt:List Int):Prop where
 nd:F.Nodup
 st:a∈F
 wl:Wt.length<=F.length
 w:∀c∈Wt,c∈F
 r:∀c∈F,Rch es a c
 cl:∀b∈F,b∉Wt->∀c,((b,c)∈es\/(c,b)∈es)->c∈F
theorem qbc{ts:af}{es:ae}(h:Kz){a:Int}(ha:a∈ts):
  ∃F:List Int,q1W [bJ,cA]=some (.fr nA)/\F.Nodup/\∀c,c∈F↔Rch es a c:=by
 unfold q1W q4G;simp_arith[qY];have hl1:=h.l1;obtain⟨ω',e,F,x4,x5,rfl,gi⟩:=qjy (fc:=q2x) (fb:=q43) (n:=1000000)
  (λω=>∃(F Wt:af) (x4 x5:cj),ω=[↥bJ,↥cA,Hc,some (.ow (Wt.map D.int)),x4,x5]/\GI ts es a F Wt)
  (λω=>match ω with
   | [_,_,some (.od F _),some (.ow w),_,_]=>Ri+w.length
   | _=>0)
  (λω=>∃(F:af) (x4 x5:cj),ω=[↥bJ,↥cA,Hc,lL,x4,x5]/\GI ts es a F [])
  (λω ⟨F,Wt,x4,x5,hω,gi⟩ hf=>by
   subst hω;unfold q2x at hf;simp -implicitDefEqProofs only[q9G,q9c,qbX,qe8,qfe,qcK,e_wd,qf5,e_wz,qcD,qdU,qc0,qh8,qe7,qf7,qhH,qhm,qhA,qf3,qhr,qbQ,qcG,qho,qfp,qh6,qdC,qhB,qh5,qhC,q7Z,qch,qY,q7K,qbT,qhn,qhh,qca,qcc,e_if,qfB,qfh,qhI,qbR,qcB,q9r,q83,qhd,zBs,qhM,q9Y,q4r,qcO,qbz,qhl,e_fs,qhN,qcq,qbN,e_c,e_e,e_ed,e_d,qbt,qbu,e_v,qcn,qcH,qbM,e_op,e_o2,qft,e_cl,qbV,qcQ,e_ac,e_ca,e_an,qhz,qhw,qhk,e_bl,qhi,e_sl,e_po,e_pa,e_ap,qh7,qdR,qei,qhu,q8t,q8I,e_t,e_tr,qha,qhj,e_to,qhf,qe9,e_tn,qeu,qcx,qa8,qfc,e_va,qhe,qhO,e_vo,qf9,qfb,qfC,qhE,qe3,We,qhs,e_ng,qcf,qcM,qbH,qah,q7A,qeA,qdT,qbS,qex,qdI,qdX,qeS,qbY,qbC,qhx,qhy,qhb,at0,at1,at2,q5N,qc1,zCM,entry,yT,xD,zI,xV,zA,zU,yz,ZY,yX,yR,xw,ZG,ZH,xT,xy,Nat.reduceSub,Nat.reduceAdd,Nat.reduceLT,Int.reduceLT,Int.reduceLE,Int.reduceSub,Int.reduceAdd,Int.reduceMul,Int.reduceMod,Int.reduceDiv,Int.reduceNeg,ZR,Int.reduceBEq,Ym,↓reduceIte,Z7,Yz,Zt,wm,wx,YO,Z6,Bool.or_true,wf,Yw,xb,beq_self_eq_true,yI]at hf;cases Wt with
   | nil=>exact⟨F,x4,x5,rfl,gi⟩
   | cons w r=>cases hf)
  (λω ⟨F,Wt,x4,x5,hω,gi⟩=>by
   subst hω;refine⟨!Wt.isEmpty,?_,λhk=>?_⟩
   ·unfold q2x
    simp_arith[qY];cases Wt <;> rfl
   ·obtain⟨Wr,here,rfl⟩:∃Wr here,Wt=Wr++[here]:=by
     cases Wt with
     | nil=>cases hk
     | cons w r=>exact⟨(w::r).dropLast,(w::r).getLast (by simp),(wp _).symm⟩
    have hF:here∈F:=gi.w here (by simp);have hts:here∈ts:=(gi.r here hF).mem h ha;obtain⟨xs,v1,v2⟩:=qiO ts here hts es;have vd:Xg ts (nbD ts es) here=some (.lst iy):=by unfold nbD;rw[q6y,v1];rfl
    have ew:(Wr++[here]).map D.int=Wr.map D.int++[D.int here]:=by rw[zW];rfl
    have ffl:=q1e gi.nd λc hc=>(gi.r c hc).mem h ha;unfold q43;rw[ew];simp_arith[qi5,vd];obtain⟨ω',e,F',W',x5',rfl,i1,i2,i3,i4,i5,i6,i7,i8⟩:=qK (g:=gN 5) (b:=q48) D.int xs
     (λpre ω=>∃(F' W':af) (x5:cj),ω=[↥bJ,↥cA,some (.od F' (Wf F')),some (.ow (W'.map D.int)),AU,x5]/\F'.Nodup/\(∀c∈F,c∈F')/\(∀c∈Wr,c∈W')/\(∀c∈W',c∈F')/\(∀c∈F',Rch es a c)/\(∀c∈F',c∈F\/c∈W')/\(∀c∈pre,c∈F')/\F'.length+Wr.length=F.length+W'.length)
     (λpre c post ω hd ⟨F',W',x5,hω,i1,i2,i3,i4,i5,i6,i7,i8⟩=>by
      subst hω;refine ck;have hcx:c∈xs:=by rw[hd];simp
      have hcr:Rch es a c:=(gi.r here hF).step ((v2 c).mp hcx);have fl:=q1e i1 λc hc=>(i5 c hc).mem h ha;have hs:(Xg F' (Wf F') c).isSome=decide (c∈F'):=q3M (q8L F');unfold q48
      by_cases hc:c∈F'
      ·simp_arith[hs,hc,decide_true]
       exact⟨F',W',_,rfl,i1,i2,i3,i4,i5,i6,λx hx=>(by rcases zJ.mp hx with y|y;exact i7 x y;cases zR.mp y;exact hc),i8⟩
      ·obtain⟨p1,p2⟩:=qbL hc
       have hwl:(W'.map D.int).length<1000000:=by
        rw[zA];have:=gi.wl;rw[zC,zY]at this;omega
       simp_arith[hs,hc,decide_false,q4i (show F'.length<1000000 by omega),p1,p2,zBs hwl];refine⟨F'++[c],W'++[c],_,by rw[zW];rfl,?_,λx hx=>zX _ (i2 x hx),λx hx=>zX _ (i3 x hx),λx hx=>?_,λx hx=>?_,λx hx=>?_,λx hx=>?_,by rw[zC,zC,zY];omega⟩
       ·rw[ym]
        exact⟨i1,by simp,λx hx y hy z=>by cases zR.mp hy;exact hc (z▸hx)⟩
       ·rcases zJ.mp hx with y|y
        ·exact zX _ (i4 x y)
        ·exact zT _ y
       ·rcases zJ.mp hx with y|y
        ·exact i5 x y
        ·cases zR.mp y;exact hcr
       ·rcases zJ.mp hx with y|y
        ·exact(i6 x y).elim .inl λz=>.inr Q6
        ·exact .inr (zT _ y)
       ·rcases zJ.mp hx with y|y
        ·exact zX _ (i7 x y)
        ·exact zT _ y)
     (ω:=[↥bJ,↥cA,Hc,some (.ow (Wr.map D.int)),AU,x5])
     ⟨F,Wr,x5,rfl,gi.nd,λc hc=>hc,λc hc=>hc,λc hc=>gi.w c (zX _ hc),gi.r,λc hc=>.inl hc,λc hc=>(by cases hc),rfl⟩
    have fl':=q1e i1 λc hc=>(i5 c hc).mem h ha;simp_arith[e];have wl0:=gi.wl;rw[zC,zY]at wl0;refine⟨⟨F',W',_,_,rfl,i1,i2 a gi.st,∅,i4,i5,λb hb hw c hc=>?_⟩,?_⟩
    ·rcases i6 b hb with y|y
     ·by_cases z:b=here
      ·subst z
       exact i7 c ((v2 c).mpr hc)
      ·exact i2 c (gi.cl b y (λm=>by rcases zJ.mp m with m|m;exact hw (i3 b m);exact z (zR.mp m)) c hc)
     ·exact vP y hw
    ·show (ts.length-F'.length)+(W'.map D.int).length<Ri+(Wr.map D.int++[D.int here]).length
     rw[zA,zC,zA,zY];omega)
  (ω:=[↥bJ,↥cA,some (.od [a] [bn]),some (.ow [bJ]),none,none])
  ⟨[a],[a],none,none,rfl,by simp,by simp,zN _,λc hc=>hc,λc hc=>by cases zR.mp hc;exact .refl,λb hb hw=>vP hb hw⟩
  (by show (ts.length-1)+1<1000000;omega)
 have fl:=q1e gi.nd λc hc=>(gi.r c hc).mem h ha;simp_arith[e,qgR (show F.length<64 by omega)];exact⟨F,rfl,gi.nd,λc=>⟨gi.r c,λr=>r.inv (λx=>x∈F) gi.st λb c hb hc=>gi.cl b hb (by simp) c hc⟩⟩
noncomputable def gD(g:af):D:=.lst (g.map D.int)
structure Cls (ts:List Int) (es:List (Int×Int)) (g:List Int) (a:Int):Prop where
 inn:a∈ts
 up:g.Pairwise (· < ·)
 mem:∀c,c∈g↔Rch es a c
 hd:g.head?=some a
theorem qij{F:af}(h:F.Nodup):(Xd F).Pairwise (· < ·):=by
 have h1:(Xd F).Nodup:=(qx (l:=F)).nodup_iff.mpr h;have h2:=q0E (l:=F);have:=List.Pairwise.and h2 h1;exact this.imp λ{a b} h=>(by have h1:=h.1;have h2:=h.2;omega)
theorem qjl{ts:af}{es:ae}{F:af}{a:Int}(ha:a∈ts)(hn:F.Nodup)(hm:∀c,c∈F↔Rch es a c)(least:∀c∈F,a<=c):Cls ts es (Xd F) a:=by
 have pm:=qx (l:=F);have up:=qij hn;refine⟨ha,up,λc=>by rw[pm.mem_iff,hm],?_⟩;have haF:a∈Xd F:=pm.mem_iff.mpr ((hm a).mpr .refl);cases q:Xd F with
 | nil=>rw[q]at haF;cases haF
 | cons b r=>
  rw[q]at haF up;have hb:a<=b:=least b (pm.mem_iff.mp (by rw[q];exact zE));rcases zF.mp haF with rfl|hr
  ·rfl
  ·have:=(zQ.mp up).1 a hr
   omega
structure GS (ts:List Int) (es:List (Int×Int)) (gs:List (List Int)) (hs:List Int):Prop where
 len:gs.length=hs.length
 cls:∀(j:Nat)g a,gs[j]?=some g->hs[j]?=some a->Cls ts es g a
 up:hs.Pairwise (· < ·)
theorem GS.snoc{ts:af}{es:ae}{gs:cn}{hs:af}(h:ph){g:af}{a:Int}(c:PU)(hu:∀b∈hs,b<a):GS ts es (gs++[g]) (hs++[a]):=by
 refine⟨by rw[zC,zC,h.len];rfl,λj g' a' e1 e2=>?_,?_⟩
 ·rcases zw j gs.length with z|z
  ·rw[zg z]at e1
   rw[zg (by rw[<- h.len];exact z)]at e2;exact h.cls j g' a' e1 e2
  ·rw[zb z]at e1
   rw[zb (by rw[<- h.len];exact z),<- h.len]at e2;cases hj:j-gs.length with
   | zero=>rw[hj]at e1 e2;cases e1;cases e2;exact c
   | succ n=>rw[hj]at e1;cases e1
 ·rw[za]
  exact⟨h.up,by simp,λb hb c hc=>by cases zR.mp hc;exact hu b hb⟩
theorem GS.one{ts:af}{es:ae}{gs:cn}{hs:af}(h:ph){g:af}(hg:g∈gs):∃a∈hs,Cls ts es g a:=by
 obtain⟨j,hj,rfl⟩:=zh.mp hg;have hj2:j<hs.length:=by rw[<- h.len];exact hj
 exact⟨hs[j],yk _,h.cls j _ _ KM (zD hj2)⟩
theorem q8f{ts:af}{es:ae}(h:Kz):∃gs hs,q1x [aO,bV]=some (.fr nO)/\GS ts es gs hs/\(∀t∈ts,∃g∈gs,t∈g)/\gs.length<=ts.length:=by
 unfold q1x q6B;have hl1:=h.l1;have sp:=qx (l:=ts);have sl:=q0E (l:=ts);simp_arith[q8V h,qby hl1];obtain⟨ω',e,gs,hs,Gd,x5,x6,x7,rfl,i1,i2,i3,i4,i5,i6⟩:=qK (g:=gN 5) (b:=q5l) D.int (Xd ts)
  (λpre ω=>∃(gs:cn) (hs Gd:af) (x5 x6 x7:cj),ω=[↥aO,bR,↥cA,SA,some (.ow nO),x5,x6,x7]/\GS ts es gs hs/\Gd.Nodup/\(∀c,c∈Gd↔∃g∈gs,c∈g)/\(∀t∈pre,t∈Gd)/\(∀a∈hs,a∈pre)/\gs.length<=pre.length)
  (λpre t post ω hd ⟨gs,hs,Gd,x5,x6,x7,hω,i1,i2,i3,i4,i5,i6⟩=>by
   subst hω;refine ck;have ht:t∈ts:=sp.mem_iff.mp (by rw[hd];simp);have hs1:(Xg Gd (Wf Gd) t).isSome=decide (t∈Gd):=q3M (q8L Gd);have gts:∀c∈Gd,c∈ts:=λc hc=>by
    obtain⟨g,hg,hcg⟩:=(i3 c).mp hc;obtain⟨a,_,cl⟩:=i1.one hg;exact((cl.mem c).mp hcg).mem h cl.inn
   have plen:pre.length<=ts.length:=by rw[<- sp.length_eq,hd,zC];omega
   unfold q5l
   by_cases hc:t∈Gd
   ·simp_arith[hs1,hc,decide_true]
    exact⟨gs,hs,Gd,_,_,_,rfl,i1,i2,i3,λx hx=>(by rcases zJ.mp hx with y|y;exact i4 x y;cases zR.mp y;exact hc),λa ha=>zX _ (i5 a ha),by rw[zC];omega⟩
   ·obtain⟨F,f1,f2,f3⟩:=qbc h ht
    have least:∀c∈F,t<=c:=λc hcF=>by
     rcases Int.lt_or_le c t with z|z
     ·exfalso
      have rc:=(f3 c).mp hcF;have hcs:c∈Xd ts:=sp.mem_iff.mpr (rc.mem h ht);rw[hd]at hcs sl;have hcp:c∈pre:=by
       rcases zJ.mp hcs with y|y
       ·exact y
       ·rcases zF.mp y with rfl|y
        ·omega
        ·have:=(zQ.mp (za.mp sl).2.1).1 c y
         omega
      obtain⟨g,hg,hcg⟩:=(i3 c).mp (i4 c hcp);obtain⟨a,_,cl⟩:=i1.one hg;exact hc ((i3 t).mpr ⟨g,hg,(cl.mem t).mpr (((cl.mem c).mp hcg).trans rc.symm)⟩)
     ·exact z
    have cl:=qjl ht f2 f3 least;have dis:∀c∈Xd F,c∉Gd:=λc hcg hcG=>by
     obtain⟨g,hg,hcg'⟩:=(i3 c).mp hcG;obtain⟨a,_,cl'⟩:=i1.one hg;exact hc ((i3 t).mpr ⟨g,hg,(cl'.mem t).mpr (((cl'.mem c).mp hcg').trans ((cl.mem c).mp hcg).symm)⟩)
    have hgl:(gs.map gD).length<1000000:=by rw[zA];omega
    simp_arith[hs1,hc,decide_false,f1,zBs hgl];obtain⟨ω',e,x7',rfl⟩:=qK (g:=gN 7) (b:=q5p) D.int (Xd F)
     (λpre' ω=>∃(x7:cj),ω=[↥aO,bR,↥cA,some (.od (Gd++pre') (Wf (Gd++pre'))),Ma,Fs,↥m9,x7])
     (λpre' c post' ω hd' ⟨x7,hω⟩=>by
      subst hω;refine ck;have ndF:(Xd F).Nodup:=(qx (l:=F)).nodup_iff.mpr f2;have hnew:c∉Gd++pre':=λm=>by
       rcases zJ.mp m with y|y
       ·exact dis c (by rw[hd'];simp) y
       ·rw[hd',ym]at ndF
        exact ndF.2.2 c y c zE rfl
      obtain⟨p1,p2⟩:=qbL hnew;have hlen:(Gd++pre').length<1000000:=by
       have z1:=q1e i2 gts;have z2:pre'.length<=ts.length:=by
        have a1:(Xd F).length<=ts.length:=by
         rw[(qx (l:=F)).length_eq];exact q1e f2 λc hc=>((f3 c).mp hc).mem h ht
        rw[hd',zC]at a1;omega
       rw[zC];omega
      unfold q5p;simp_arith[q4i hlen,p1,p2,zO];exact bz)
     (ω:=[↥aO,bR,↥cA,SA,Ma,Fs,↥m9,x7]) ⟨x7,by rw[zk]⟩
    simp_arith[e];refine⟨gs++[Xd F],hs++[t],Gd++Xd F,_,_,_,by rw[zW];rfl,i1.snoc cl λb hb=>?_,?_,λc=>?_,λx hx=>?_,λa ha=>?_,by rw[zC,zC,zY,zY];omega⟩
    ·have hbp:=i5 b hb
     rw[hd]at sl;have le:b<=t:=(za.mp sl).2.2 b hbp t zE;have ne:b≠t:=λz=>hc (i4 t (z▸hbp));omega
    ·rw[ym]
     exact⟨i2,(qx (l:=F)).nodup_iff.mpr f2,λx hx y hy z=>dis y hy (z▸hx)⟩
    ·rw[zJ,i3]
     constructor
     ·rintro(⟨g,hg,hcg⟩|hcF)
      ·exact⟨g,zX _ hg,hcg⟩
      ·exact⟨_,UX,hcF⟩
     ·rintro⟨g,hg,hcg⟩
      rcases zJ.mp hg with y|y
      ·exact .inl ⟨g,y,hcg⟩
      ·cases zR.mp y;exact .inr hcg
    ·rcases zJ.mp hx with y|y
     ·exact zX _ (i4 x y)
     ·cases zR.mp y
      exact zT _ ((cl.mem t).mpr .refl)
    ·rcases zJ.mp ha with y|y
     ·exact zX _ (i5 a y)
     ·exact zT _ y)
  (ω:=[↥aO,bR,↥cA,oM,lL,none,none,none])
  ⟨[],[],[],none,none,none,rfl,⟨rfl,λj g a e=>(by simp at e),.nil⟩,xi,by simp,by simp,by simp,bM⟩
 simp_arith[e];refine⟨gs,hs,rfl,i1,λt ht=>?_,by rw[<- sp.length_eq];exact i6⟩;exact(i3 t).mp (i4 t (sp.mem_iff.mpr ht))
noncomputable def X3:D->Bool
 | .int _=>true
 | _=>false
noncomputable def nsD:D->Bool
 | .scr _=>false
 | .exc _=>false
 | .dic _ _=>false
 | _=>true
noncomputable def zCz:D->Bool
 | .scr _=>false
 | .exc _=>false
 | .dic _ _=>false
 | .tup [a,b]=>nsD a&&nsD b
 | _=>true
noncomputable def isBoxL:List D->Bool
 | []=>false
 | [_]=>false
 | [a,b]=>X3 a&&X3 b
 | _::_::_::_=>false
noncomputable def zAX:D->Bool
 | .tup ds=>isBoxL ds
 | _=>false
theorem q1v{d:D}(h:nsD d=true):qB [d]=↥(.bl (X3 d)):=by
 cases d <;> first|rfl|cases h
theorem qji{d:D}(h:zCz d=true):q39 [d]=↥(.bl (zAX d)):=by
 unfold q39 q6t
 match d,h with
 | .non,_=>rfl
 | .bl _,_=>rfl
 | .int _,_=>rfl
 | .str _,_=>rfl
 | .lst _,_=>rfl
 | .tup [],_=>rfl
 | .tup [_],_=>simp_arith[qY];rfl
 | .tup [a,b],h=>
  have h':=wA.mp (show (_&&_)=true from h);have ha:=q1v h'.1;have hb:=q1v h'.2;simp_arith[ha,hb];simp_arith[show (((0+1+1:Nat):Int)==2)=true from rfl,ha,hb];cases a <;> cases b <;> rfl
 | .tup (a::b::c::r),_=>
  have hn:(((a::b::c::r).length:Int)==2)=false:=by
   simp only[zI,beq_eq_false_iff_ne,ne_eq];omega
  simp only[zI]at hn;simp_arith[hn];rfl
theorem q6I:∀(q:D->Bool)(ds:aZ),allB N1=some (ds.all q)
 | _,[]=>rfl
 | q,d::ds=>by
  show (allB N1).map _=_;rw[q6I q ds];rfl
theorem q8g{h l:D}{ds:aZ}(hh:nsD h=true)(hl:nsD l=true)(hd:∀d∈ds,zCz d=true)(hlen:aaJ):
  qQ [h,l,eY]=↥(.bl (X3 h&&(X3 l&&ds.all zAX))):=by
 unfold qQ q2w;have e1:=q1v hh;have e2:=q1v hl;simp_arith[e1,e2,We hlen];cases X3 h <;> cases X3 l <;> simp_arith[e2,We hlen] <;> first|rfl|skip
 rw[q3P (λd=>D.bl (zAX d))]
 ·simp_arith[W7,q6I]
 ·intro d hd'
  unfold q5a;simp_arith[inW,qji (hd d hd')]
theorem qeb{h l b:D}(hh:nsD h=true)(hl:nsD l=true)(hb:nsD b=true)(hb':∀ds,b≠.lst ds):qQ [h,l,b]=↥iP:=by
 unfold qQ q2w;have e1:=q1v hh;have e2:=q1v hl;have e3:isiR .lst (some b)=↥iP:=by
  cases b <;> first|rfl|exact vP rfl (hb' _)|cases hb
 simp_arith[e1,e2];cases X3 h <;> cases X3 l <;> simp_arith[e2,e3]
noncomputable def flat(bs:ae):List Int:=bs.flatMap λp=>[p.1,p.2]
noncomputable def plc(h l:Int)(bs:ae):List Int:=h::l::flat bs
theorem qgS(bs:ae)(p:bh):flat (bs++[p])=flat bs++[p.1,p.2]:=by simp[flat]
theorem q50(bs:ae):(flat bs).length=2*bs.length:=by
 induction bs with
 | nil=>rfl
 | cons p r ih=>simp[flat]at ih ⊢;omega
theorem qiJ(h l:Int)(bs:ae)(p:bh):plc h l (bs++[p])=plc h l bs++[p.1,p.2]:=by unfold plc;rw[qgS];rfl
theorem zBQ(x:Int):nsD Jt=true:=rfl
theorem qdV(p:bh):zAX SN=true:=rfl
theorem qey(bs:ae):(bs.map XQ).all zAX=true:=by
 rw[Ze];exact yo.mpr λp _=>qdV p
theorem qdY{h l:Int}{bs:ae}(hb:Em):qQ cN=↥bn:=by
 have:=q8g (h:=.int h) (l:=.int l) (ds:=bs.map XQ) (zBQ h) (zBQ l) (λd hd=>by
  obtain⟨p,_,rfl⟩:=zz.mp hd;rfl) (by rw[zA];omega)
 rw[qey]at this;exact this
theorem qav{h l:Int}{bs:ae}(hb:Em):q02 cN=some DD:=by
 unfold q02 q2c;simp_arith[qdY hb]
theorem q4F{h l:Int}{bs:ae}(hb:bB):q1L cN=some (.fr gH):=by
 unfold q1L q7D;simp_arith[qav (show bs.length<=1000 by omega)];obtain⟨ω',e,x4,rfl⟩:=qK (g:=gN 4) (b:=q6M) XQ bs
  (λpre ω=>∃x4,ω=[↥gW,↥iV,↥az,Hb,x4])
  (λpre p post ω hd ⟨x4,hω⟩=>by
   subst hω;refine ck;unfold q6M;have hl:(plc h l pre).length<=1000:=by
    have:=v4 xf hd;rw[zC,zI]at this;show (flat pre).length+1+1<=1000;rw[q50];omega
   have e1:=q9Y (i:=3) (ω:=[↥gW,↥iV,↥az,Hb,↥SN]) (ds:=(plc h l pre).map D.int) (ds':=Aj) (by rw[zA,zI,zY];omega);simp_arith[qY];show zBN (extS 3 _ (some SN) _) _;rw[show XQ p=D.tup Aj from rfl]at e1 ⊢;rw[e1,qiJ,zW];exact bz)
  (ω:=[↥gW,↥iV,↥az,some (.ow [gW,iV]),none]) Fo
 simp_arith[e];have hlen:(plc h l bs).length<64:=by
  show (flat bs).length+1+1<64;rw[q50];omega
 have:X7 bp [↥gW,↥iV,↥az,some (.ow BN),x4]=some (.fr gH):=by
  show zAT (.lst BN)=_;show (intsOf BN).bind _=_;rw[qR];exact vH (qaA hlen)
 simp_arith[this]
noncomputable def XF(P:af):List bh:=P.zip (P.drop 1)
theorem q0B(P:af):(XF P).length=P.length-1:=by
 unfold XF;rw[xE,yM];omega
theorem qgJ{P:af}{i:Nat}(h:Rw):(XF P)[i]?=some (P[i],P[i+1]):=by
 unfold XF;rw[xH];refine⟨zD ∅,?_⟩;show (P.drop 1)[i]?=some P[i+1];rw[xk,Nat.add_comm 1 i];exact zD h
theorem q8i:∀(xs ys:af),Zf pairD iy ox=(xs.zip ys).map XQ
 | [],_=>rfl
 | _::_,[]=>rfl
 | x::xs,y::ys=>by
  show _::Zf pairD iy ox=_::(xs.zip ys).map XQ;rw[q8i xs ys];rfl
theorem qgr(ds:aZ):cutD ds Ff none=ds.drop 1:=by
 unfold cutD;have e:HT.sIx ds.length 0 Ff=min 1 ds.length:=HT.q32 ds.length 0 1;rw[e,HT.q4H];cases ds with
 | nil=>rfl
 | cons d r=>
  have:min 1 (d::r).length=1:=by rw[zI];omega
  rw[this];show List.take _ r=r;rw[zI,w9,wD]
theorem q4b{h l:Int}{bs:ae}(hb:bB):q24 cN=some PZ:=by
 unfold q24 q9d;have hz:Ws [Os,.lst (cutD gH Ff none)]=some PZ:=by
  rw[qgr,<- wj];show some (R.fr (Zf pairD _ _))=_;rw[q8i];rfl
 simp_arith[q4F hb,qdc,hz]
structure Stp (P:List Int):Prop where
 ne:P≠[]
 rise:P.Pairwise (· < ·)
 len:P.length<=1000
theorem stp(h l:Int){bs:ae}(hb:bB):Stp BH:=by
 refine⟨λe=>?_,qS,?_⟩
 ·have:h∈Xe bO:=q0T.mpr (by simp[plc])
  rw[e]at this;simp at this
 ·have:(Xe bO).length<=(plc h l bs).length:=q0D _
  have h2:(plc h l bs).length=2*bs.length+2:=by show (flat bs).length+1+1=_;rw[q50]
  omega
theorem Stp.lt{P:af}(S:Stp P){i j:Nat}(hi:i<P.length)(hj:j<P.length)(h:i<j):P[i]<P[j]:=yb.mp S.rise i j hi hj h
theorem Stp.le{P:af}(S:Stp P){i j:Nat}(hi:i<P.length)(hj:j<P.length)(h:i<=j):P[i]<=P[j]:=by
 rcases zw i j with z|z
 ·exact yh (S.lt hi hj z)
 ·have:i=j:=∅
  subst this;exact zi _
theorem Stp.amid{P:af}(S:Stp P){i:Nat}(h:Rw){x:Int}(hx:x∈P):x<=P[i]\/P[i+1]<=x:=by
 obtain⟨j,hj,rfl⟩:=zh.mp hx;rcases zw i j with z|z
 ·right;exact S.le h hj z
 ·left;exact S.le hj ∅ z
theorem q4c(a b:Int):XQ (a,b)=.tup [bJ,dI]:=rfl
noncomputable def over(s g:Int)(q:bh):Bool:=decide (s<=q.1)&&decide (q.2<=g)
theorem q9p(s g a b:Int):q0o [mS,kY,Op]=↥(.bl (over s g (a,b))):=by
 unfold q0o q3G over;simp_arith[qY]
noncomputable def rts(bs:ae)(q:bh):Int:=((bs.filter λp=>over p.1 p.2 q).length:Nat)
noncomputable def lfs(bs:ae)(q:bh):Int:=((bs.filter λp=>over p.2 p.1 q).length:Nat)
noncomputable def onP(f:Bb):D->Bool
 | .tup [.int a,.int b]=>f a b
 | _=>false
theorem q8h(f:Bb)(bs:ae):((bs.map XQ).filter (onP f)).map (λd=>d)=(bs.filter λp=>f p.1 p.2).map XQ:=by
 rw[List.map_id',Yn];rfl
theorem q30{bs:ae}{q:bh}(hb:Em):q0A [az,SM]=↥DT:=by
 unfold q0A q5F;have hl:(bs.map XQ).length<=1000000:=by rw[zA];omega
 obtain⟨a,b⟩:=q;have c1:Xx dz q4w q4D nP [none,↥Op]=some ((bs.filter λp=>over p.1 p.2 (a,b)).map XQ):=by
  rw[<- q8h (λs g=>over s g (a,b))];refine q8E (onP λs g=>over s g (a,b)) (λd=>d) nP λd hd=>?_;obtain⟨⟨s,g⟩,_,rfl⟩:=zz.mp hd;unfold q4w q4D;simp_arith[q4c,q9p];exact QV
 have c2:Xx dz q4A q4M nP [none,↥Op]=some ((bs.filter λp=>over p.2 p.1 (a,b)).map XQ):=by
  rw[<- q8h (λs g=>over g s (a,b))];refine q8E (onP λs g=>over g s (a,b)) (λd=>d) nP λd hd=>?_;obtain⟨⟨s,g⟩,_,rfl⟩:=zz.mp hd;unfold q4A q4M;simp_arith[q4c,q9p];exact QV
 simp_arith[q4c,Jq,inW,Wi,c1,c2];rfl
noncomputable def XY(h l:Int)(bs:ae)(q:bh):Int:=rts rQ q-lfs rQ q-rts bs q+lfs bs q
theorem qiS{h l:Int}{bs:ae}{q:bh}(hb:Em):q58 [gW,iV,az,SM]=↥Ik:=by
 unfold q58 q9l;have e1:=q30 (bs:=rQ) (q:=q) (by show 1<=1000;decide);have e2:=q30 (bs:=bs) (q:=q) hb;rw[zU,yz,q4c]at e1;simp_arith[e1,e2];rfl
theorem q6c{h l:Int}{bs:ae}(hb:bB):q2l cN=some (.fr (((XF BH).map fY).map D.int)):=by
 unfold q2l q80;have S:=stp h l hb;have hl:((XF BH).map XQ).length<=1000000:=by rw[zA,q0B];have:=S.len;omega
 simp_arith[q4b hb,Jq,inW,Wi];rw[q3P (λd=>match d with|.tup [.int a,.int b]=>D.int (XY h l bs (a,b))|d=>d)]
 case h=>
  intro d hd;obtain⟨⟨a,b⟩,_,rfl⟩:=zz.mp hd;unfold qaP;have e:=qiS (h:=h) (l:=l) (bs:=bs) (q:=(a,b)) ∅;rw[q4c]at e ⊢;simp_arith[e]
 rw[yL,yL];rfl
noncomputable def ov(s g:Int)(q:bh):Int:=if over s g q=true then 1 else if over g s q=true then -1 else 0
theorem q6x(f:gP):∀L:List bh,zAI (L.map XQ) Eb=L.map λq=>D.tup [SM,AR]
 | []=>rfl
 | q::r=>by
  show D.tup [SM,AR]::zAI (r.map XQ) ((r.map f).map D.int)=_;rw[q6x f r];rfl
noncomputable def snd0:D->Bool
 | .tup [_,.int k]=>!(k==0)
 | _=>false
noncomputable def fst0:D->D
 | .tup [x,_]=>x
 | d=>d
theorem qd1(f:gP)(L:ae):Xx OO q4B q6z Lg LE=some ((L.filter λq=>!(f q==0)).map XQ):=by
 have:=q3K (g:=gT 2 gB) (c:=q4B) (f:=q6z) (λw=>∃a b,w=Cs) snd0 fst0 Lg (ω:=LE) gK (λd hd w ⟨a,b,hw⟩=>by
  obtain⟨q,_,rfl⟩:=zz.mp hd;subst hw;refine⟨[↥SM,↥AR],rfl,gK,?_,Fb⟩;unfold q4B;simp_arith[qY];rfl)
 rw[this,Yn,yL];rfl
theorem q6w{h l:Int}{bs:ae}(hb:bB):q2d cN=some (.fr ((bs++rQ++(XF BH).filter λq=>! fW).map XQ)):=by
 unfold q2d q7X;have S:=stp h l hb;have hg:=q4b (h:=h) (l:=l) hb;have hk:=q6c (h:=h) (l:=l) hb;have hL:(XF BH).length<=1000:=by rw[q0B];have:=S.len;omega
 generalize XF BH=L at hg hk hL ⊢;have hl:(L.map λq=>D.tup [SM,Ik]).length<=1000000:=by rw[zA];omega
 have hf:=yH (λq=>! fW) L;simp_arith[hg,hk,q6x,Jq,inW,qd1 fY];have a1:WC az (.lst FZ)=some (.fr abD):=q1M (by rw[zA,zY];omega);have a2:WC (.lst abD) (.lst ((L.filter λq=>! fW).map XQ))=some (.fr (bs.map XQ++FZ++(L.filter λq=>! fW).map XQ)):=q1M (by rw[zC,zA,zA,zY];omega);simp_arith[a1,a2];rw[zW,zW];rfl
theorem q31{α:Type}{g:FG}{c:FT}{f:FD}(P:n9)(q:α->Bool)(B F:α->D):∀(xs:bE){ω:WSt},P ω ->
  (∀x∈xs,∀ω,P ω->∃w,g (B x) ω=some w/\P w/\c w=some (q x)/\(q x=true->f w=some (F x)))->Xx g c f Tv ω=some QP
 | [],_,_,_=>rfl
 | x::xs,ω,h,t=>by
  obtain⟨w,h1,h2,h3,h4⟩:=t x zE ω h;have ih:=q31 P q B F xs h2 OE;rw[zU,Xx,h1,yT,h3,yT];cases hq:q x with
  | true=>rw[kT,h4 hq,yT,ih,yU hq];rfl
  | false=>rw[vJ (by decide),ih,yV (by rw[hq];decide)]
theorem q4V{α:Type}{i:Nat}{c:FT}{f:FD}(q:α->Bool)(B F:α->D)(xs:bE){ω:WSt}(h:∀x∈xs,c Ft=some (q x)/\(q x=true->f Ft=some (F x))):Xx Qu c f Tv ω=some QP :=
 q31 (g:=gN i) (c:=c) (f:=f) (λw=>∀x,w.set i x=ω.set i x) q B F xs (ω:=ω) Tm λd hd w hw=>
  ⟨w.set i ↥(B d),rfl,λx=>by rw[YM,hw],by rw[hw];exact(h d hd).1,λz=>by rw[hw];exact(h d hd).2 z⟩
theorem qw{α:Type}{i:Nat}{f:FD}(B F:α->D)(xs:bE){ω:WSt}(h:∀x∈xs,f Ft=some (F x)):Xx Qu Xl f Tv ω=some Tu:=by
 have:=q4V (c:=Xl) (i:=i) (f:=f) Bu B F xs (ω:=ω) λx hx=>⟨rfl,λ_=>h x hx⟩;rw[this,P9]
theorem qeO{α:Type}(f:kM):∀bs:List α,zDA Nk=some (bs.map f).sum
 | []=>rfl
 | b::r=>by
  show (zDA (r.map λp=>D.int (f p))).map _=_;rw[qeO f r];rfl
theorem qeG{α:Type}(f:kM)(bs:bE):bSum [.lst Nk]=↥(.int (bs.map f).sum):=by
 show (zDA _).map _=_;rw[qeO];rfl
theorem q72{α:Type}(q:α->Bool):∀bs:List α,allB (bs.map λp=>D.bl (q p))=some (bs.all q)
 | []=>rfl
 | b::r=>by
  show (allB (r.map λp=>D.bl (q p))).map _=_;rw[q72 q r];rfl
theorem qcR{d:D}(h:plD d=true):nsD d=true:=by cases d <;> first|rfl|cases h
theorem qjQ{d:D}(h:plB d=true):zCz d=true:=by
 match d,h with
 | .non,_=>rfl
 | .bl _,_=>rfl
 | .int _,_=>rfl
 | .str _,_=>rfl
 | .lst _,_=>rfl
 | .tup [],_=>rfl
 | .tup [_],_=>rfl
 | .tup [a,b],h=>
  have h':plD a=true/\plD b=true:=by simpa [plB]using h
  show (nsD a&&nsD b)=true;rw[qcR h'.1,qcR h'.2];rfl
 | .tup (_::_::_::_),_=>rfl
theorem minT2(x y:Int):zCH [.tup Ac]=↥(.int (zBX VF)):=qiv (ns:=VF) (by simp)
theorem qak{d:D}(h:X3 d=true):∃k,d=.int k:=by
 cases d with
 | int k=>exact Tg
 | _=>cases h
theorem qhP{a:Int}{d:D}(h:geD a d=true):∃k,d=.int k:=by
 cases d with
 | int k=>exact Tg
 | _=>cases h
theorem qgb{d:D}(h:zAX d=true):∃x y,d=.tup Ac:=by
 match d,h with
 | .tup [a,b],h=>
  obtain⟨h1,h2⟩:=wA.mp (show (X3 a&&X3 b)=true from h);obtain⟨x,rfl⟩:=qak h1;obtain⟨y,rfl⟩:=qak h2;exact⟨x,y,rfl⟩
theorem qjf(a x y:Int):zCN a (.tup Ac)=decide (a<=zBX VF):=by
 show (decide (a<=x)&&decide (a<=y))=decide (a<=if y<=x then y else x)
 by_cases h1:a<=x <;> by_cases h2:a<=y <;> by_cases h3:y<=x <;> simp[h1,h2,h3] <;> omega
theorem qgE{a:Int}{d:D}(h:zCN a d=true):zAX d=true:=by
 match d,h with
 | .tup [x,y],h=>
  obtain⟨h1,h2⟩:=wA.mp (show (geD a x&&geD a y)=true from h);obtain⟨x,rfl⟩:=qhP h1;obtain⟨y,rfl⟩:=qhP h2;rfl
theorem qjb{g b:D}(hg:plD g=true)(hb:plL b=true):q1J [g,b]=↥(.bl (isYd g b)):=by
 unfold q1J q56;have hg':=qcR hg
 by_cases hlst:∃ds,b=.lst ds
 ·obtain⟨ds,rfl⟩:=hlst
  have h':ds.all plB=true/\ds.length<=20:=by simpa [plL]using hb
  have hpl:=yo.mp h'.1;have hll:ds.length<=1000000:=∅
  have e1:=q8g (h:=g) (l:=g) (ds:=ds) hg' hg' (λd hd=>qjQ (hpl d hd)) hll;simp_arith[e1]
  by_cases hw:∃a,g=.int a
  ·obtain⟨a,rfl⟩:=hw
   by_cases hall:ds.all zAX=true
   ·have cm:Xx dz Xl q4O ds [none,↥bJ]=some (ds.map λd=>D.bl (zCN a d)):=by
     refine q3P (λd=>D.bl (zCN a d)) ds λd hd=>?_;obtain⟨x,y,rfl⟩:=qgb (yo.mp hall d hd);unfold q4O;simp_arith[minT2,qjf]
    simp_arith[X3,hall,We hll,inW,Wi,cm,W7,q6I];rfl
   ·have hf:ds.all zAX=false:=by simpa using hall
    have hy:ds.all UZ=false:=by
     cases h2:ds.all UZ with
     | false=>rfl
     | true=>exact vP (yo.mpr λd hd=>qgE (yo.mp h2 d hd)) hall
    simp_arith[X3,hf];show _=some (O.sh (D.bl (ds.all UZ)));rw[hy]
  ·have hw':X3 g=false:=by cases g <;> first|rfl|exact vP bz hw
   have hy:isYd g eY=false:=by cases g <;> first|rfl|exact vP bz hw
   simp_arith[hw',hy]
 ·have hn:∀ds,b≠.lst ds:=λds e=>hlst ⟨ds,e⟩
  have hb':nsD b=true:=by
   cases b <;> first|rfl|exact vP bz hlst|cases hb
  have hy:isYd g b=false:=by
   cases g <;> cases b <;> first|rfl|exact vP rfl (hn _)
  simp_arith[qeb hg' hg' hb' hn,hy]
theorem q6P{ns:af}{k:Int}(h:VR):q0l [jn,kP]=↥(.int (ns.getD k.toNat 0)):=by
 unfold q0l q3Q
 by_cases hk:k<ns.length
 ·simp_arith[hk,decide_true,q1n h hk]
  simp[zV,zD (show k.toNat<ns.length by omega)]
 ·simp_arith[hk,decide_false]
  simp[zV,zn (show ns.length<=k.toNat by omega)]
theorem qeW{ds:aZ}{i:Int}(P:D->Prop)(h0:0<=i)(h1:i<ds.length)(h:∀d∈ds,P d):∃d,atI ds i=some d/\P d :=
 ⟨_,q1n h0 h1,h _ (yk _)⟩
theorem qig{ns:af}:∃(gate:Int) (ps:af),q1q [jn]=some (.fr oq)/\ps.length=6/\∀p∈ps,gate<=p:=by
 unfold q1q q3W;have hc:=q6P (ns:=ns) (k:=0) (by decide);have h8:oPow (.int 10) (.int 39)=↥(.int (10^39)):=rfl;have h9:∀x,zAy R6 Jt=↥(.int (2*x)):=λx=>q6S (by decide) (by decide);have h10:∀x,oMod Jt (.int (2*10^39))=↥(.int (x%(2*10^39))):=λx=>q5N (by decide);have h11:∀x,oMod Jt (.int (10^39))=↥(.int (x%10^39)):=λx=>q5N (by decide);have rg:rg1I (some [.int 6])=some (upTo 0 6):=rfl;have loop:∀gate:Int,∀x1:Option W,∃ω' ps,zAf Dp q0S (Hk.upTo 0 6) g9=some Gx/\ω'[3]?=some (some (.ow oq))/\ps.length=6/\∀p∈ps,gate<=p:=λgate x1=>by
  obtain⟨ω',e,ps,y1,y4,rfl,i1,i2⟩:=qeg (g:=gN 4) (b:=q0S) 0 6
   (λi ω=>∃(ps:af) (y1 y4:cj),ω=[↥jn,y1,↥UL,some (.ow oq),y4]/\ps.length=i/\∀p∈ps,gate<=p)
   (λi ω hi ⟨ps,y1,y4,hω,i1,i2⟩=>by
    subst hω;refine ck;have hcc:=q6P (ns:=ns) (k:=2+(0+rh)) ∅;generalize ns.getD (2+(0+rh)).toNat 0=c at hcc;have h3:0<=c%3/\c%3<3:=∅
    obtain⟨d,hd,q,rfl,hq⟩:=qeW (ds:=[.int (0+rh+c/3%3),.int (c/3%100),.int (c/3%10^39)]) (i:=c%3) (λd=>∃q:Int,d=D.int q/\0<=q) h3.1 h3.2 (by
     intro d hd;simp only[zF,zd,or_false]at hd;rcases hd with rfl|rfl|rfl
     ·exact⟨_,rfl,∅⟩
     ·exact⟨_,rfl,∅⟩
     ·exact⟨_,rfl,Int.emod_nonneg _ (by decide)⟩)
    have hll:(D.int gate::ps.map D.int).length<1000000:=by rw[zI,zA];omega
    have hd':=hd;simp only[ZR]at hd';unfold q0S;simp_arith[hcc,h8,h11,hd',ZR,zU];rw[zBs hll,q7A];refine⟨ps++[gate+q],_,_,by rw[zW];rfl,by rw[zC,i1];rfl,λp hp=>?_⟩;rcases zJ.mp hp with y|y
    ·exact i2 p y
    ·cases zR.mp y;omega)
   (ω:=g9) ⟨[],x1,none,rfl,rfl,by simp⟩
  exact⟨_,ps,e,rfl,i1,i2⟩
 have fin:∀gate:Int,∀x1:Option W,∃ps:List Int,outM (zCI (zAf Dp q0S (Hk.upTo 0 6) g9) U2)=some (.fr oq)/\ps.length=6/\∀p∈ps,gate<=p:=λgate x1=>by
  obtain⟨ω',ps,e,e3,i1,i2⟩:=loop gate x1;refine⟨ps,?_,i1,i2⟩;rw[e,q7K,q9r,e3,q83,q7Z]
 by_cases hp:ns.getD 0 0%2=1
 ·simp_arith[hc,hp,h8,h9,h10,rg]
  obtain⟨ps,e,i⟩:=fin _ ↥R7;exact⟨_,ps,e,i⟩
 ·have hp':(ns.getD 0 0%2==1)=false:=by simpa using hp
  simp_arith[hc,hp',rg];obtain⟨ps,e,i⟩:=fin _ ↥R7;exact⟨_,ps,e,i⟩
theorem qes{ns:af}{some':af}(h7:some'.length=7)(hl:ns.length<=63):∃bs:List bh,q0r [jn,.lst Bj]=some (.fr Rz)/\(∀b∈bs,b.1∈some'/\b.2∈some')/\bs.length<=9:=by
 unfold q0r q3B;have hc:=q6P (ns:=ns) (k:=1) (by decide);have h4:0<=ns.getD 1 0%4/\ns.getD 1 0%4<4:=∅
 obtain⟨d,hd,k,rfl,hk⟩:=qeW (ds:=[ac7,ac7,.int (ns.getD 1 0/4%10),.int (ns.getD 1 0/4%3)]) (i:=ns.getD 1 0%4) (λd=>∃k:Nat,d=D.int jE/\k<=9) h4.1 h4.2 (by
  intro d hd;simp only[zF,zd,or_false]at hd;rcases hd with rfl|rfl|rfl|rfl
  ·exact⟨9,rfl,by decide⟩
  ·exact⟨9,rfl,by decide⟩
  ·exact⟨(ns.getD 1 0/4%10).toNat,by rw[xa ∅],∅⟩
  ·exact⟨(ns.getD 1 0/4%3).toNat,by rw[xa ∅],∅⟩)
 simp_arith[hc,hd,qkM];have hcl:(cutD ns (some 8) NL).length<=9:=by
  have e1:HT.sIx ns.length 0 (some 8)=min 8 ns.length:=HT.q32 ns.length 0 8;have e2:HT.sIx ns.length ns.length NL=min (8+k) ns.length:=by
   have:=HT.q32 ns.length ns.length (8+k);rw[show ((8+k:Nat):Int)=8+jE by omega]at this;exact this
  unfold cutD;rw[e1,e2,ze];omega
 generalize cutD ns (some 8) NL=cells at hcl;obtain⟨ω',e,bs,x5,rfl,i1,i2⟩:=qK (g:=gN 5) (b:=q2R) D.int cells
  (λpre ω=>∃(bs:ae) (x5:cj),ω=[↥jn,↥(.lst Bj),P8,JB,some (.ow Rz),x5]/\(∀b∈bs,b.1∈some'/\b.2∈some')/\bs.length=pre.length)
  (λpre c post ω hd' ⟨bs,x5,hω,i1,i2⟩=>by
   subst hω;refine ck;have hp:pre.length<cells.length:=by rw[hd',zC,zI];omega
   have pick:∀x:Int,∃y,y∈some'/\atI Bj (x%7)=some (.int y):=λx=>by
    refine⟨some'[(x%7).toNat]'∅,yk _,?_⟩;rw[q1n ∅ (by rw[zA];omega),wE]
   obtain⟨y1,m1,a1⟩:=pick c;obtain⟨y2,m2,a2⟩:=pick (c/7);have hll:(bs.map XC).length<1000000:=by rw[zA];omega
   unfold q2R;simp_arith[a1,a2,zBs hll];refine⟨bs++[(y1,y2)],_,by rw[zW];rfl,λb hb=>?_,by rw[zC,zC,i2];rfl⟩;rcases zJ.mp hb with y|y
   ·exact i1 b y
   ·cases zR.mp y;exact⟨m1,m2⟩)
  (ω:=[↥jn,↥(.lst Bj),P8,JB,lL,none]) ⟨[],none,rfl,by simp,rfl⟩
 simp_arith[e];exact⟨bs,rfl,i1,∅⟩
noncomputable def zAg(g:Int)(bs:ae):List Int:=g::bs.flatMap λb=>if b.1=b.2 then []else [b.1,b.2]
theorem qgY(g:Int)(bs:ae)(b:bh):zAg g (bs++[b])=zAg g bs++if b.1=b.2 then []else [b.1,b.2]:=by simp[zAg]
theorem q4P(g:Int)(bs:ae):(zAg g bs).length<=2*bs.length+1:=by
 induction bs with
 | nil=>simp[zAg]
 | cons b r ih=>
  simp only[zAg,zI,List.flatMap_cons,zC]at ih ⊢
  by_cases h:b.1=b.2
  ·rw[vH h,xV];omega
  ·rw[vJ h,zI,zI,xV];omega
noncomputable def knw(g:Int)(bs:ae):List Int:=Xe (zAg g bs)
noncomputable def nbs(P:af):List bh:=P.zip (P.drop 1)
theorem qbG(P:af):(nbs P).length=P.length-1:=by
 unfold nbs;rw[xE,yM];omega
noncomputable def ovR(x:Int)(bs:ae):Nat:=bs.countP λb=>decide (b.1<x)&&decide (x<=b.2)
noncomputable def ovL(x:Int)(bs:ae):Nat:=bs.countP λb=>decide (b.2<x)&&decide (x<=b.1)
noncomputable def tri(x:MW):D:=.tup [.int x.1,.int x.2.1,J3]
noncomputable def zBV(K:af)(bs:ae):List MW:=(nbs K).map λp=>Qp
theorem q2o{α:Type}{xs:bE}{i:Nat}{x:α}(h:xs[i]?=some x):xs.take (i+1)=xs.take i++[x]:=by
 rw[ZM,h];rfl
noncomputable def su(f:bX)(a:Int):Nat->Int
 | 0=>0
 | n+1=>su f a n+f VE
theorem q6g{f:bX}{a c:Int}:∀{n:Nat},(∀x,a<x->x<=a+n->f x=c)->su f a n=c*n
 | 0,_=>by rw[su];simp
 | n+1,h=>by
  show su f a n+f VE=c*Lq;rw[q6g (f:=f) (n:=n) λx h1 h2=>h x h1 ∅,h _ ∅ ∅,Zp,wP];simp
theorem q9z(f:bX)(a:Int)(m:Nat):∀n:Nat,su f a (m+n)=su f a m+su f (a+m) n
 | 0=>by simp[su]
 | n+1=>by
  show su f a (m+n)+f (a+(m+n:Nat)+1)=su f a m+(su f (a+m) n+f (a+m+n+1));rw[q9z f a m n,show a+((m+n:Nat):Int)+1=a+m+n+1 by omega,Z9]
theorem q4Y(a b:Int)(r:af):nbs (a::b::r)=(a,b)::nbs (b::r):=rfl
theorem qec(f F:bX):∀(r:af)(k:Int)(N:Nat),(k::r).Pairwise (· < ·)->(∀p∈nbs (k::r),∀x,p.1<x->x<=p.2->f x=F p.2) ->
  (∀y∈k::r,y<=k+N)->(∀x,(∀y∈k::r,y<x)->f x=0)->((nbs T7).map λp=>F p.2*pG).sum=su f k N
 | [],k,N,_,_,_,h0=>by
  show DC=_;rw[q6g (c:=0) λx h1 h2=>h0 x λy hy=>by cases zR.mp hy;exact h1];simp
 | k1::r,k,N,hp,hf,hN,h0=>by
  have hk:k<k1:=(zQ.mp hp).1 k1 zE;have hk1:=hN k1 (by simp);obtain⟨m,hm⟩:∃m:Nat,k1=k+m:=⟨(k1-k).toNat,∅⟩;obtain⟨n,rfl⟩:∃n:Nat,N=m+n:=⟨N-m,∅⟩;rw[q4Y,zU,zf,q9z,<- hm];have ih:=qec f F r k1 n (zQ.mp hp).2 (λp hp'=>hf p (by rw[q4Y];exact zH _ hp')) (λy hy=>by have:=hN y aak;omega) (λx hx=>h0 x λy hy=>by
   rcases zF.mp hy with rfl|hy
   ·have:=hx k1 zE;omega
   ·exact hx y hy)
  rw[ih,q6g (c:=F k1) λx h1 h2=>hf (k,k1) (by rw[q4Y];exact zE) x h1 ∅];show F k1*(k1-k)+_=_;rw[show k1-k=ib by omega]
theorem q6O:∀{K:af},K.Pairwise (· < ·)->∀p∈nbs K,p.1∈K/\p.2∈K/\p.1<p.2/\∀y∈K,y<=p.1\/p.2<=y
 | [],_,p,h=>by cases h
 | [k],_,p,h=>by cases h
 | a::b::r,hp,p,h=>by
  rw[q4Y]at h;have hab:a<b:=(zQ.mp hp).1 b zE;rcases zF.mp h with rfl|h
  ·refine⟨zE,by simp,hab,AH⟩
   rcases zF.mp hy with rfl|hy
   ·left;exact zi _
   ·right
    rcases zF.mp hy with rfl|hy
    ·exact zi _
    ·exact yh ((zQ.mp (zQ.mp hp).2).1 y hy)
  ·obtain⟨h1,h2,h3,h4⟩:=q6O (zQ.mp hp).2 p h
   refine⟨zH _ h1,zH _ h2,h3,AH⟩;rcases zF.mp hy with rfl|hy
   ·left;exact yh ((zQ.mp hp).1 _ h1)
   ·exact h4 y hy
noncomputable def hiB(bs:ae)(x:Int):Bool:=bs.any λb=>b.1 != b.2&&(decide (x<=b.1) || decide (x<=b.2))
noncomputable def pu(bs:ae)(x:Int):Int:=if hiB bs x=true then mx3 1 (ovR x bs) (ovL x bs)else 0
noncomputable def yl(g:Int)(bs:ae):Int:=((zBV jv bs).map λp=>2*p.2.2*(p.2.1-p.1)).sum
theorem q0v{g x:Int}{bs:ae}:x∈knw g bs↔x=g\/∃b∈bs,b.1≠b.2/\(x=b.1\/x=b.2):=by
 unfold knw;rw[q0T];unfold zAg;rw[zF,xL];refine or_congr Iff.rfl ⟨λ⟨b,hb,hx⟩=>?_,λ⟨b,hb,h1,h2⟩=>⟨b,hb,?_⟩⟩
 ·by_cases h:b.1=b.2
  ·rw[vH h]at hx;cases hx
  ·rw[vJ h]at hx;exact⟨b,hb,h,by simpa using hx⟩
 ·rw[vJ h1];simpa using h2
theorem q9W{x y:Int}{bs:ae}(hxy:x<=y)(h:∀b∈bs,b.1≠b.2->(b.1<x\/y<=b.1)/\(b.2<x\/y<=b.2)):ovR x bs=ovR y bs/\ovL x bs=ovL y bs:=by
 constructor
 ·unfold ovR
  refine YS λb hb=>?_
  by_cases e:b.1=b.2
  ·simp;omega
  ·have:=h b hb e;simp;omega
 ·unfold ovL
  refine YS λb hb=>?_
  by_cases e:b.1=b.2
  ·simp;omega
  ·have:=h b hb e;simp;omega
theorem qcP{bs:ae}{x:Int}:hiB bs x=true↔∃b∈bs,b.1≠b.2/\(x<=b.1\/x<=b.2):=by unfold hiB;simp
theorem q5V(c:Int){α:Type}(F:kM):∀xs:List α,(xs.map λx=>c*F x).sum=c*(xs.map F).sum
 | []=>by simp
 | x::r=>by simp only[zU,zf,q5V c F r,wP]
theorem qiH{g:Int}{bs:ae}(h:∀b∈bs,g<=b.1/\g<=b.2):∃r,knw g bs=g::r:=by
 have hm:g∈knw g bs:=q0v.mpr bu;have hr:(knw g bs).Pairwise (· < ·):=qS;have hg:∀y∈knw g bs,g<=y:=λy hy=>by
  rcases q0v.mp hy with rfl|⟨b,hb,_,h2⟩
  ·exact zi _
  ·have:=h b hb;omega
 cases e:knw g bs with
 | nil=>rw[e]at hm;cases hm
 | cons k r=>
  rw[e]at hm hr hg;have h1:=hg k zE;rcases zF.mp hm with rfl|hm
  ·exact⟨r,rfl⟩
  ·have:=(zQ.mp hr).1 g hm;omega
theorem qkI{g:Int}{bs:ae}(h:∀b∈bs,g<=b.1/\g<=b.2)(N:Nat)(hN:∀b∈bs,b.1<=g+N/\b.2<=g+N):yl g bs=2*su Pp g N:=by
 obtain⟨r,hr⟩:=qiH h;have hp:(knw g bs).Pairwise (· < ·):=qS;have e:yl g bs=2*((nbs jv).map λp=>mx3 1 oz oC*pG).sum:=by
  rw[<- q5V];unfold yl zBV;rw[yL]
  congr 1
  refine yJ λp _=>?_;show 2*mx3 1 oz oC*pG=_;rw[Int.mul_assoc]
 rw[e]
 congr 1
 have key:=qec Pp (λx=>mx3 1 (ovR x bs) (ovL x bs)) r g N (by rw[<- hr];exact hp) (λp hpp x h1 h2=>?_) AH (λx hx=>?_)
 ·rw[hr];exact key
 ·rw[<- hr]at hpp
  obtain⟨q1,q2,q3,q4⟩:=q6O hp p hpp;have hi:hiB bs x=true:=qcP.mpr (by
   rcases q0v.mp q2 with z|⟨b,hb,n,z⟩
   ·exfalso
    rcases q0v.mp q1 with y|⟨b,hb,n,y⟩
    ·omega
    ·have:=h b hb;omega
   ·exact⟨b,hb,n,∅⟩)
  unfold pu;rw[vH hi];have:=q9W (x:=x) (y:=p.2) (bs:=bs) h2 (λb hb n=>by
   have a1:=q4 b.1 II;have a2:=q4 b.2 IJ;omega)
  rw[this.1,this.2]
 ·rw[<- hr]at hy
  rcases q0v.mp hy with rfl|⟨b,hb,_,z⟩
  ·omega
  ·have:=hN b hb;omega
 ·unfold pu
  refine vJ λhi=>?_;obtain⟨b,hb,n,z⟩:=qcP.mp hi;rw[<- hr]at hx;have a1:=hx b.1 II;have a2:=hx b.2 IJ;omega
theorem qjh{bs:ae}(hb:kj):plL cp=true:=by
 show ((bs.map XC).all plB&&decide ((bs.map XC).length<=20))=true;rw[Ze,zA,vT hb,wm];exact yo.mpr λ_ _=>rfl
theorem qfX{g:Int}{bs:ae}(hb:kj)(h:∀b∈bs,g<=b.1/\g<=b.2):q1J RG=↥bn:=by
 rw[qjb rfl (qjh hb)];have:isYd kY cp=true:=by
  show (bs.map XC).all (zCN g)=true;rw[Ze];refine yo.mpr λb hb=>?_;show (decide (g<=b.1)&&decide (g<=b.2))=true;rw[vT (h b hb).1,vT (h b hb).2];rfl
 rw[this]
theorem zCh{g:Int}{bs:ae}(hb:kj)(h:∀b∈bs,g<=b.1/\g<=b.2):q03 RG=some DD:=by
 unfold q03 q3q;simp_arith[qfX hb h]
theorem qdw{g:Int}{bs:ae}(hb:kj):q0L RG=some (.fr oo):=by
 unfold q0L q2U;simp_arith[qY];obtain⟨ω',e,x3,x4,rfl⟩:=qK (g:=gT 2 Uo) (b:=q2a) XC bs
  (λpre ω=>∃x3 x4,ω=[↥kY,↥cp,IC,x3,x4])
  (λpre p post ω hd ⟨x3,x4,hω⟩=>by
   subst hω;refine ck;have hl:(zAg g pre).length<=1000:=by
    have:=v4 xf hd;rw[zC,zI]at this;have:=q4P g pre;omega
   unfold q2a;rw[qgY]
   by_cases z:p.1=p.2
   ·have z':(p.1==p.2)=true:=by simpa using z
    rw[gz,zk];simp_arith[z'];exact gK
   ·have z':(p.1==p.2)=false:=by simpa using z
    rw[gc];have e1:=q4r (i:=2) (ω:=[↥kY,↥cp,IC,↥ab9,↥ab8]) (ds:=(zAg g pre).map D.int) (ds':=Aj) (by rw[zA,zI,zY];omega);simp_arith[z',e1,zW];exact gK)
  (ω:=[↥kY,↥cp,some (.ow [kY]),none,none]) ⟨none,none,rfl⟩
 simp_arith[e];have hlen:(zAg g bs).length<64:=by have:=q4P g bs;omega
 have:X7 bN [↥kY,↥cp,some (.ow Db),x3,x4]=some (.fr oo):=by
  show zAT (.lst Db)=_;show (intsOf Db).bind _=_;rw[qR];exact vH (qaA hlen)
 simp_arith[this]
theorem qcl:∀(xs ys:af),zAI iy ox=(xs.zip ys).map XQ
 | x::xs,y::ys=>by show D.tup Ac::zAI iy ox=_;rw[qcl xs ys];rfl
 | [],ys=>by cases ys <;> rfl
 | x::xs,[]=>rfl
theorem qk7(ds:aZ):cutD ds Ff none=ds.drop 1:=by
 unfold cutD;have e:HT.sIx ds.length 0 Ff=min 1 ds.length:=HT.q32 ds.length 0 1;rw[e,HT.q4H];cases ds with
 | nil=>rfl
 | cons d r=>
  have:min 1 (d::r).length=1:=by rw[zI];omega
  rw[this];show List.take _ r=r;rw[zI,w9,wD]
theorem max3T(x y:Int):zCF [.tup [Jt,.int y,pF]]=↥(.int (zBZ [x,y,1])):=qi4 (ns:=[x,y,1]) (by simp)
theorem qk4(x y:Int):zBZ [x,y,1]=mx3 1 x y:=by
 show (if x<=(if y<=1 then 1 else y)then (if y<=1 then 1 else y)else x)=_;unfold mx3
 split <;> split <;> split <;> split <;> omega
theorem qeY{K:af}{bs:ae}{p:bh}(hp:p.1<p.2)(h:∀b∈bs,b.1≠b.2->(b.1<=p.1\/p.2<=b.1)/\(b.2<=p.1\/p.2<=b.2)):rts bs p=ovR p.2 bs/\lfs bs p=ovL p.2 bs:=by
 have e1:(bs.filter λb=>over b.1 b.2 p)=bs.filter λb=>decide (b.1<p.2)&&decide (p.2<=b.2):=by
  refine ZO λb hb=>?_;show (decide (b.1<=p.1)&&decide (p.2<=b.2))=_
  by_cases z:b.1=b.2
  ·rw[z];by_cases h1:b.2<=p.1 <;> by_cases h2:p.2<=b.2 <;> by_cases h3:b.2<p.2 <;> simp[h1,h2,h3] <;> omega
  ·have:=h b hb z
   by_cases h1:b.1<=p.1 <;> by_cases h2:p.2<=b.2 <;> by_cases h3:b.1<p.2 <;> simp[h1,h2,h3] <;> omega
 have e2:(bs.filter λb=>over b.2 b.1 p)=bs.filter λb=>decide (b.2<p.2)&&decide (p.2<=b.1):=by
  refine ZO λb hb=>?_;show (decide (b.2<=p.1)&&decide (p.2<=b.1))=_
  by_cases z:b.1=b.2
  ·rw[z];by_cases h1:b.2<=p.1 <;> by_cases h2:p.2<=b.2 <;> by_cases h3:b.2<p.2 <;> simp[h1,h2,h3] <;> omega
  ·have:=h b hb z
   by_cases h1:b.2<=p.1 <;> by_cases h2:p.2<=b.1 <;> by_cases h3:b.2<p.2 <;> simp[h1,h2,h3] <;> omega
 unfold rts lfs ovR ovL;rw[e1,e2,wq,wq];exact cT
theorem qgu(g:Int)(bs:ae):(knw g bs).Pairwise (· < ·):=qS
theorem qfP{g:Int}{bs:ae}{p:bh}(hb:kj)(hp:p∈nbs jv):q0u [cp,SN]=↥(.int (mx3 1 oz oC)):=by
 obtain⟨h1,h2,h3,h4⟩:=q6O (qgu g bs) p hp;obtain⟨r1,r2⟩:=qeY (K:=knw g bs) h3 (λb hb z=>⟨h4 b.1 (q0v.mpr (.inr ⟨b,hb,z,bu⟩)),h4 b.2 (q0v.mpr (.inr ⟨b,hb,z,Aq⟩))⟩);have c:=q30 (bs:=bs) (q:=p) ∅;rw[show nP=bs.map XC from rfl,r1,r2]at c;unfold q0u q2h;have ha:WC (.tup [.int oz,.int oC]) (.tup [pF])=↥(.tup [.int oz,.int oC,pF]):=rfl;simp_arith[c,ha,max3T,qk4]
theorem qeB(g:Int)(bs:ae)(hb:kj)(h:∀b∈bs,g<=b.1/\g<=b.2):q3b RG=some (.fr QO):=by
 unfold q3b q6U;simp_arith[zCh hb h,qdw hb,qdc];have hz:zAI oo (cutD oo Ff none)=(nbs jv).map XQ:=by
  rw[qk7,<- wj,qcl];rfl
 have hlen:((nbs jv).map XQ).length<=1000000:=by
  rw[zA,qbG];have h1:(knw g bs).length<=(zAg g bs).length:=q0D _;have:=q4P g bs;omega
 have cm:Xx dz Xl q3L ((nbs jv).map XQ) [none,↥cp]=some QO:=by
  unfold zBV;rw[yL];have:=qw (f:=q3L) XQ (λp:Int×Int=>tri Qp) (nbs jv) (ω:=[none,↥cp]) (i:=0) (λp hp=>by
   have t:=qfP hb hp;have ha:∀x:Int,WC SN (.tup [Jt])=↥(tri (p.1,p.2,x)):=λ_=>rfl;unfold q3L;show dOf _ [↥SN,↥cp]=_;simp_arith[t,ha])
  exact this
 simp_arith[hz,We hlen,inW,Wi,cm]
theorem zCf(F:Int×Int×Int->D){f:FD}:∀(xs:List MW),(∀x∈xs,f jR=some (F x))->∀a b c:Option W,Xx gO Xl f (xs.map tri) [a,b,c]=some Tu
 | [],_,_,_,_=>rfl
 | x::xs,h,a,b,c=>by
  have h1:=h x (by simp);have h2:=zCf F xs (λy hy=>h y (by simp[hy])) ↥(.int x.1) ↥(.int x.2.1) ↥J3;have z:Xx gO Xl f ((x::xs).map tri) [a,b,c]=(f jR).bind λd=>(Xx gO Xl f (xs.map tri) jR).map (d::·):=rfl;rw[z,h1,h2];rfl
theorem qfm(g:Int)(bs:ae)(hb:kj)(h:∀b∈bs,g<=b.1/\g<=b.2):q0z RG=↥J4:=by
 unfold q0z q3i;have hlen:((zBV jv bs).map tri).length<=1000000:=by
  rw[zA];unfold zBV;rw[zA,qbG];have h1:(knw g bs).length<=(zAg g bs).length:=q0D _;have:=q4P g bs;omega
 have hsm:∀x∈zBV (knw g bs) bs,0<=x.2.2/\x.2.2<=30:=λx hx=>by
  unfold zBV at hx;obtain⟨q,_,rfl⟩:=zz.mp hx;have l1:ovR q.2 bs<=bs.length:=Zs;have l2:ovL q.2 bs<=bs.length:=Zs;show 0<=mx3 1 _ _/\mx3 1 _ _<=30;unfold mx3
  split <;> split <;> omega
 have cm:=zCf (f:=q2P) (λx=>D.int PV) (zBV jv bs) (λx hx=>by
  have hs:=hsm x hx;have m0:zAy R6 (.int p9)=↥(.int (2*p9)):=q6S (by decide) (by decide);have m1:zAy (.int (2*p9)) J3=↥(.int PV):=by
   rw[q6v ∅ ∅,Int.mul_right_comm]
  unfold q2P;simp_arith[m0,m1]) none none none
 have hs:bSum [.lst ((zBV jv bs).map λx=>D.int PV)]=↥J4:=by
  exact qeG (λx:Int×Int×Int=>2*x.2.2*p9) (zBV jv bs)
 simp_arith[qeB g bs hb h,We hlen,inW,Wi,yR,xw,cm,hs]
structure Lev (P:List Int) (kn:List (Int×Int)) (r:Int×List (List Int)):Prop where
 ne:∀g∈r.2,g≠[]
 pm:r.2.flatten.Perm P
 tie:∀e∈kn++(XF P).filter (λq=>decide (q.2-q.1<r.1)),∃g∈r.2,e.1∈g/\e.2∈g
noncomputable def wgh(a:Int):List cO->Int
 | []=>0
 | r::rs=>Po*(pA-1)+wgh r.1 rs
def zCi(a:Int):List cO->Prop
 | []=>True
 | r::rs=>a<r.1/\zCi r.1 rs
structure Gap (h l:Int) (bs:List (Int×Int)) (g:Int×Int):Prop where
 lt:g.1<g.2
 h:h<=g.1\/g.2<=h
 l:l<=g.1\/g.2<=l
 b:∀b∈bs,(b.1<=g.1\/g.2<=b.1)/\(b.2<=g.1\/g.2<=b.2)
noncomputable def W8(c:Int):Int:=if c<0 then -c else c
theorem Cls.low{ts:af}{es:ae}{g:af}{a:Int}(c:PU):∀x∈g,a<=x:=λx hx=>by
 have h:=c.hd;have u:=c.up;cases g with
 | nil=>cases hx
 | cons b r=>
  cases h;rcases zF.mp hx with rfl|hx
  ·exact zi _
  ·exact yh ((zQ.mp u).1 x hx)
theorem GS.apart{ts:af}{es:ae}{gs:cn}{hs:af}(h:ph){i j:Nat}{g g':af}{c:Int}(e1:gs[i]?=some g)(e2:gs[j]?=some g')(h1:c∈g)(h2:c∈g'):i=j:=by
 have li:=(zj.mp e1).1;have lj:=(zj.mp e2).1;rw[h.len]at li lj;have c1:=h.cls i g _ e1 (zD li);have c2:=h.cls j g' _ e2 (zD lj);have r1:=(c1.mem c).mp h1;have r2:=(c2.mem c).mp h2;have a1:=c1.low _ ((c1.mem _).mpr (r1.trans r2.symm));have a2:=c2.low _ ((c2.mem _).mpr (r2.trans r1.symm));rcases Nat.lt_trichotomy i j with z|z|z
 ·have:=yb.mp h.up i j li lj z;omega
 ·exact z
 ·have:=yb.mp h.up j i lj li z;omega
theorem qbA:∀{gs:cn},(∀g∈gs,g.Nodup)->(∀(i j:Nat)g g' c,gs[i]?=some g->gs[j]?=some g'->c∈g->c∈g'->i=j)->gs.flatten.Nodup
 | [],_,_=>xi
 | g::gs,h1,h2=>by
  rw[yC,ym];refine⟨h1 g zE,qbA (λg hg=>h1 g (zH _ hg)) (λi j a b c e1 e2 m1 m2=>?_),λx hx y hy e=>?_⟩
  ·have:=h2 (i+1) (j+1) a b c e1 e2 m1 m2;omega
  ·subst e
   obtain⟨g',hg',hx'⟩:=wZ.mp hy;obtain⟨j,hj,rfl⟩:=zh.mp hg';have:=h2 0 (j+1) g _ x rfl (zD hj) hx hx';omega
theorem GS.flat{ts:af}{es:ae}{gs:cn}{hs:af}(ok:Kz)(h:ph)(all:∀t∈ts,∃g∈gs,t∈g):gs.flatten.Perm ts:=by
 have nd:gs.flatten.Nodup:=qbA (λg hg=>by
  obtain⟨a,_,c⟩:=h.one hg;exact c.up.imp λ{a b} h e=>∅) λi j g g' c e1 e2 m1 m2=>h.apart e1 e2 m1 m2
 refine(wz nd ok.nd).mpr λx=>⟨λhx=>?_,λhx=>?_⟩
 ·obtain⟨g,hg,hx⟩:=wZ.mp hx
  obtain⟨a,_,c⟩:=h.one hg;exact((c.mem x).mp hx).mem ok c.inn
 ·obtain⟨g,hg,hx⟩:=all x hx
  exact wZ.mpr ⟨g,hg,hx⟩
theorem qk8{P:af}{es kn:ae}{gs:cn}{hs:af}{t:Int}(ok:Ok P es)(h:GS P es gs hs)(all:∀t∈P,∃g∈gs,t∈g)(sub:∀e∈kn++(XF P).filter (λq=>decide BB),e∈es):Lev P kn (t,gs) where
 ne:=λg hg e=>by
  obtain⟨a,_,c⟩:=h.one hg;have:=c.hd;rw[e]at this;cases this
 pm:=h.flat ok all
 tie:=λe he=>by
  have he:=sub e he;obtain⟨g,hg,h1⟩:=all _ (ok.inn e he).1;obtain⟨a,_,c⟩:=h.one hg;exact⟨g,hg,h1,(c.mem _).mpr (((c.mem _).mp h1).step (.inl he))⟩
noncomputable def nmP:Nat->List af->List jT
 | _,[]=>[]
 | k,g::gs=>(k,g)::nmP (k+1) gs
noncomputable def kkP(ps:RU):List Int:=ps.flatMap (·.2)
noncomputable def vvP(ps:RU):List D:=ps.flatMap λp=>p.2.map λ_=>D.int abq
theorem q5Y:∀(k:Nat)(gs:cn),kkP TW=gs.flatten
 | _,[]=>rfl
 | k,g::gs=>by show g++kkP Mk=_;rw[q5Y];rfl
theorem qf4:∀ps:List jT,(kkP ps).length=(vvP ps).length
 | []=>rfl
 | p::ps=>by show (p.2++kkP ps).length=((p.2.map λ_=>D.int abq)++vvP ps).length;rw[zC,zC,zA,qf4 ps]
theorem qcJ{α:Type}(v:α):∀(g:af){x:Int},x∈g->Xg g acO x=some v
 | [],_,h=>by cases h
 | y::g,x,h=>by
  show (if y=x then some v else Xg g acO x)=some v
  by_cases z:y=x
  ·rw[gz]
  ·rw[gc]
   rcases zF.mp h with rfl|h
   ·exact vP rfl z
   ·exact qcJ v g h
theorem q9V{α:Type}:∀{a:af}{c:bE}{b:af}{d:bE}{x:Int},a.length=c.length->x∈a->Xg Kq (c++d) x=Xg a c x
 | [],_,_,_,_,_,h=>by cases h
 | _::_,[],_,_,_,h,_=>by simp at h
 | y::a,v::c,b,d,x,hl,h=>by
  show (if y=x then some v else Xg Kq (c++d) x)=if y=x then some v else Xg a c x
  by_cases z:y=x
  ·rw[gz,gz]
  ·rw[gc,gc]
   rcases zF.mp h with rfl|h
   ·exact vP rfl z
   ·exact q9V ⇑hl h
theorem q8A{α:Type}:∀{a:af}{c:bE}{b:af}{d:bE}{x:Int},a.length=c.length->x∉a->Xg Kq (c++d) x=Xg b d x
 | [],[],_,_,_,_,_=>rfl
 | [],_::_,_,_,_,h,_=>by simp at h
 | _::_,[],_,_,_,h,_=>by simp at h
 | y::a,v::c,b,d,x,hl,h=>by
  show (if y=x then some v else Xg Kq (c++d) x)=_;rw[vJ (λz=>h (by rw[z];exact zE))];exact q8A ⇑hl λz=>h (zH _ z)
theorem q5D:∀{gs:cn}{k:Nat},gs.flatten.Nodup->∀{j:Nat}{g:af}{x:Int},gs[j]?=some g->x∈g->Xg (kkP TW) (vvP TW) x=some (.int ((k+j:Nat):Int))
 | [],k,_,j,g,x,h,_=>by cases h
 | g'::gs,k,hn,j,g,x,h,hx=>by
  rw[yC,ym]at hn;show Xg (g'++kkP Mk) ((g'.map λ_=>D.int jE)++vvP Mk) x=_;cases j with
  | zero=>cases h;rw[q9V (by rw[zA]) hx,qcJ _ _ hx];rfl
  | succ j=>
   have hg:gs[j]?=some g:=h;have hf:x∈gs.flatten:=wZ.mpr ⟨g,yK hg,hx⟩;rw[q8A (by rw[zA]) (λz=>hn.2.2 x z x hf rfl),q5D hn.2.1 hg hx,show k+1+j=k+(j+1) by omega]
theorem qgc{gs:cn}(hn:gs.flatten.Nodup){g:af}(hg:g∈gs){p q:Int}(hp:p∈g)(hq:q∈g):∃i:Int,Xg Fh Fe p=some gU/\Xg Fh Fe q=some gU:=by
 obtain⟨k,hk,rfl⟩:=zh.mp hg;exact⟨_,q5D hn (zD hk) hp,q5D hn (zD hk) hq⟩
theorem qcw{α:Type}{ks:af}{xs:bE}{k:Int}(y:α)(h:k∉ks):Wm ks k=ks++[k]/\putA ks xs k y=xs++[y]:=by
 unfold Wm putA;rw[vJ h,vJ h];exact cT
noncomputable def zAq(r:cO):D:=.tup [.int r.1,.lst (r.2.map gD)]
noncomputable def zAB(bs:ae)(q:bh):D:=.tup [pi,GR,.int Pn,.int Ps]
noncomputable def edD(q:bh):D:=.tup [pi,GR,DX]
noncomputable def Pz(h l:Int)(bs:ae):List Int:=Xe bO
noncomputable def Kn(h l:Int)(bs:ae):List bh:=bs++rQ++(XF aG).filter λq=>! fW
theorem q5e{h l:Int}{bs:ae}(hb:bB):(XF aG).length<=1000:=by
 rw[q0B];have:=(stp h l hb).len;unfold Pz;omega
theorem q2b(h l:Int)(bs:ae):(Pz h l bs).Pairwise (· < ·):=qS
theorem q5b{h l:Int}{bs:ae}(hb:bB):(Pz h l bs).length<64:=by
 have h1:(Pz h l bs).length<=(plc h l bs).length:=q0D _;have h2:(plc h l bs).length=2*bs.length+2:=by show (flat bs).length+1+1=_;rw[q50]
 omega
theorem q5o{h l:Int}{bs:ae}(hb:bB):q0M cN=some (.fr J8):=by
 unfold q0M q3Y;have hl:((XF aG).map XQ).length<=1000000:=by rw[zA];have:=q5e (h:=h) (l:=l) hb;omega
 have cm:=qw (i:=0) (f:=q3u) XQ AI BI (ω:=[none,↥az]) (λq hq=>by
  have c:=q30 (bs:=bs) (q:=q) ∅;have ha:WC SM DT=↥aao:=rfl;unfold q3u;simp_arith[c,ha])
 have g:=q4b (h:=h) (l:=l) hb;rw[show Xe bO=Pz h l bs from rfl]at g;simp_arith[g,Jq,inW,Wi,cm]
theorem qbU(n:Int):qB [GT]=↥bn:=q1v (d:=.int n) rfl
theorem q7b(ns:af):Xx dz Xl q3o cY Eo=some (ns.map λ_=>D.bl true):=qw D.int mF ns λn _=>by
 unfold q3o;simp_arith[qbU]
theorem q5T{α:Type}(xs:bE):allB (xs.map λ_=>D.bl true)=some true:=by
 rw[q72 Bu xs];simp
theorem qfL{ns:af}(h:ns.length<=1000):q00 [.tup cY]=↥bn:=by
 unfold q00 q2v;have hl:(ns.map D.int).length<=1000000:=by rw[zA];omega
 simp_arith[Jq,inW,Wi,q7b,W7,q5T]
theorem qgT{ns:af}(h:ns.length<=1000):q00 [QJ]=↥bn:=by
 unfold q00 q2v;have hl:(ns.map D.int).length<=1000000:=by rw[zA];omega
 simp_arith[Jq,inW,Wi,q7b,W7,q5T]
theorem qiB(bs:ae)(q:bh):(zAB bs q).py.canLay0=true/\(zAB bs q).py.depth<=2:=⟨rfl,by show 1<=2;decide⟩
theorem qh1(bs gs:ae):shp J1=true:=qcs 2 (by decide) λd hd=>by
 obtain⟨q,_,rfl⟩:=zz.mp hd;exact qiB bs q
theorem q8X{bs gs:ae}(h:gs.length<=1000):q0U [J1,J1]=↥bn:=by
 unfold q0U q3H;have hl:(gs.map AI).length<=1000000:=by rw[zA];omega
 have cm:=qw (i:=0) (f:=q2S) AI mF gs (ω:=Eo) (λq hq=>by
  have w:=qfL (ns:=[q.1,q.2,Pn,Ps]) (by show 4<=1000;decide);rw[show D.tup ([q.1,q.2,Pn,Ps].map D.int)=zAB bs q from rfl]at w;unfold q2S;simp_arith[w])
 simp_arith[q3F (qh1 bs gs),Jq,inW,Wi,cm,W7,q5T]
theorem qba{g:af}(hn:g≠[])(h:g.length<=1000):q22 [gD g]=↥bn:=by
 unfold q22 q4Z gD;have w:=qgT h;have hp:DC<(g.length:Nat):=by have:=wI.mpr hn;omega
 simp_arith[w,hp,decide_true]
theorem qfD{P:af}{gs:cn}(hP:P.Pairwise (· < ·))(h:abA):Xd gs.flatten=P:=by
 have hn:P.Nodup:=hP.imp λ{a b} z=>Int.ne_of_lt z;exact q1d q0E (hP.imp λ{a b} z=>yh z) ((qx (l:=gs.flatten)).trans h)
theorem q4x(ns:af):shp QJ=true:=qcs 2 (by decide) λd hd=>by
 obtain⟨q,_,rfl⟩:=zz.mp hd;exact⟨rfl,by show 0<=2;decide⟩
theorem q6b:∀{gs:cn}{g:af},g∈gs->g.length<=gs.flatten.length
 | g'::gs,g,h=>by
  rw[yC,zC];rcases zF.mp h with rfl|h
  ·omega
  ·have:=q6b h;omega
theorem q5B:∀{gs:cn},(∀g∈gs,g≠[])->gs.length<=gs.flatten.length
 | [],_=>zN _
 | g::gs,h=>by
  rw[yC,zC,zI];have:=q5B (gs:=gs) λg hg=>h g (zH _ hg);have:=wI.mpr (h g zE);omega
theorem q90{P:af}{gs:cn}(hP:P.Pairwise (· < ·))(hl:P.length<64)(ne:∀g∈gs,g≠[])(pm:abA):q1a [bQ,mR]=↥bn:=by
 unfold q1a q3E;have fl:gs.flatten.length<64:=by rw[pm.length_eq];exact hl
 have gl:=q5B ne;have hl2:(gs.map gD).length<=1000000:=by rw[zA];omega
 have cm:=qw (i:=0) (f:=q2L) gD mF gs (ω:=Eo) (λg hg=>by
  have w:=qba (ne g hg) (by have:=q6b hg;omega);unfold q2L;simp_arith[w])
 simp_arith[OY,inW,Wi,cm,W7,q5T];obtain⟨ω',e,x3,rfl⟩:=qK (g:=gN 3) (b:=q2H) gD gs
  (λpre ω=>∃x3,ω=[↥bQ,↥mR,IB,x3])
  (λpre g post ω hd ⟨x3,hω⟩=>by
   subst hω;refine ck;have hle:(pre.flatten.map D.int).length+(g.map D.int).length<=1000000:=by
    have:=v4 (λz=>z.flatten.length) hd;simp only[wv,yC,zC]at this;rw[zA,zA];omega
   have e1:=q4r (i:=2) (ω:=kg) (ds:=pre.flatten.map D.int) (ds':=g.map D.int) hle;unfold q2H;show zBN (zCp 2 eK kg) _;simp_arith[e1];have ef:(pre++[g]).flatten=pre.flatten++g:=by rw[wv,yC,Yd,zk]
   rw[ef,zW];exact bz)
  (ω:=[↥bQ,↥mR,lL,none]) Fo
 simp_arith[e,qby fl,qfD hP pm,q3F (q4x P)]
noncomputable def nmD(p:jT):D:=.tup [.int abq,gD p.2]
theorem qck:∀(k:Nat)(gs:cn),zAE k nO=(nmP k gs).map nmD
 | _,[]=>rfl
 | k,g::gs=>by show D.tup [.int jE,gD g]::zAE (k+1) nO=_;rw[qck];rfl
theorem qdG(a b:RU):kkP Kq=kkP a++kkP b:=by unfold kkP;rw[wJ]
theorem qjI(a b:RU):vvP Kq=vvP a++vvP b:=by unfold vvP;rw[wJ]
theorem q7w{gs:cn}(nd:gs.flatten.Nodup)(fl:Ud):qO [bQ]=↥(.dic Fh Fe):=by
 unfold qO q1V;simp_arith[qck];have nd':(kkP eW).Nodup:=by rw[q5Y];exact nd
 have fl':(kkP eW).length<64:=by rw[q5Y];exact fl
 generalize nmP 0 gs=ps at nd' fl';obtain⟨ω',e,x2,x3,x4,rfl⟩:=qK (g:=gT 2 ML) (b:=q1C) nmD ps
  (λpre ω=>∃x2 x3 x4,ω=[↥bQ,KS,x2,x3,x4])
  (λpre p post ω hd ⟨x2,x3,x4,hω⟩=>by
   subst hω;refine ck;unfold q1C;obtain⟨k,g⟩:=p;rw[hd,qdG]at nd' fl';show zBN (zAC _ _ _ lM) _;simp_arith[qY];obtain⟨ω',e,y4,rfl⟩:=qK (g:=gN 4) (b:=q1A) D.int g
    (λpre' ω=>∃y4,ω=[↥bQ,some (.od (kkP pre++pre') (vvP pre++pre'.map λ_=>D.int jE)),JB,CB,y4])
    (λpre' c post' ω hd' ⟨y4,hω⟩=>by
     subst hω;refine ck;have nd2:(kkP pre++(pre'++c::post')).Nodup:=by
      have:(kkP pre++(g++kkP post)).Nodup:=nd';rw[hd',<- zO]at this;exact(ym.mp this).1
     have hnew:c∉kkP pre++pre':=λm=>by
      rw[<- zO]at nd2;exact(ym.mp nd2).2.2 c m c zE rfl
     have hlen:(kkP pre++pre').length<1000000:=by
      have:(kkP pre++(g++kkP post)).length<64:=fl';rw[hd']at this;simp only[zC,zI]at this ⊢;omega
     obtain⟨p1,p2⟩:=qcw (xs:=vvP pre++pre'.map λ_=>D.int jE) (D.int jE) hnew;unfold q1A;simp_arith[q4i hlen,p1,p2,zO];exact⟨_,by rw[zW];rfl⟩)
    (ω:=lM) ⟨x4,by rw[zk,yz,zk]⟩
   simp_arith[e];have ek:kkP acC=kkP pre++g:=by
    rw[qdG];show kkP pre++(g++[])=_;rw[zk]
   have ev:vvP acC=vvP pre++g.map λ_=>D.int jE:=by
    rw[qjI];show vvP pre++((g.map λ_=>D.int jE)++[])=_;rw[zk]
   rw[ek,ev];exact rZ)
  (ω:=[↥bQ,oM,none,none,none]) nc
 simp_arith[e]
theorem qg8{gs:cn}{ds:aZ}(nd:gs.flatten.Nodup)(fl:Ud)(hl:ds.length<=10000)(h:∀d∈ds,∃a b r,d=.tup (.int a::.int b::r)/\∃g∈gs,a∈g/\b∈g):
  q06 [bQ,eY]=↥bn:=by
 unfold q06 q1F;have hl2:ds.length<=1000000:=∅
 have cm:=q3P (i:=0) (f:=q1i) mF ds (ω:=[none,↥(.dic Fh Fe)]) (λd hd=>by
  obtain⟨a,b,r,rfl,g,hg,h1,h2⟩:=h d hd;obtain⟨i,v1,v2⟩:=qgc nd hg h1 h2;unfold q1i;have q:oEq false gU gU=↥bn:=q3F rfl;simp_arith[v1,v2,q])
 simp_arith[q7w nd fl,OY,inW,Wi,cm,W7,q5T]
theorem qiG(q:bh):q0q [edD q]=↥DX:=by
 unfold q0q q9B edD;simp_arith[qY]
theorem qb1{P:af}{kn:ae}{r:cO}(hP:P.Pairwise (· < ·))(hl:P.length<64)(hk:kn.length<=1000)(L:Lev P kn r):
  q20 [zAq r,mR,aa5,.lst ((XF P).map edD)]=↥bn:=by
 obtain⟨t,gs⟩:=r;have hPn:P.Nodup:=hP.imp λ{a b} z=>Int.ne_of_lt z;have nd:gs.flatten.Nodup:=L.pm.nodup_iff.mpr hPn;have fl:gs.flatten.length<64:=by rw[L.pm.length_eq];exact hl
 have glen:(XF P).length<=64:=by rw[q0B];omega
 unfold q20 q4U zAq;have ag:=q90 hP hl L.ne L.pm;have hl2:((XF P).map edD).length<=1000000:=by rw[zA];omega
 have cm:=q4V (i:=0) (c:=q42) (f:=q45) (λq=>decide BB) edD edD (XF P) (ω:=[none,↥(.tup [.int t,bQ])]) (λq hq=>by
  unfold q42 q45;have c:=qiG q;simp_arith[c];exact⟨trivial,λ_=>trivial⟩)
 have fil_len:((XF P).filter λq=>decide BB).length<=64:=yP (yH _ _) glen;have ad:WC aa5 (.lst (((XF P).filter λq=>decide BB).map edD))=some (.fr (kn.map XQ++((XF P).filter λq=>decide BB).map edD)):=q1M (by rw[zA,zA];omega);have ho:=qg8 (gs:=gs) (ds:=kn.map XQ++((XF P).filter λq=>decide BB).map edD) nd fl (by rw[zC,zA,zA];omega) λd hd=>by
  rcases zJ.mp hd with z|z
  ·obtain⟨q,hq,rfl⟩:=zz.mp z
   exact⟨q.1,q.2,[],rfl,L.tie q (zX _ hq)⟩
  ·obtain⟨q,hq,rfl⟩:=zz.mp z
   exact⟨q.1,q.2,[DX],rfl,L.tie q (zT _ hq)⟩
 have l2:US=true:=rfl;simp_arith[l2,qbU,ag,OY,inW,Wi,cm,ad,ho]
theorem qc4:∀(xs ys:af),zAI iy ox=(xs.zip ys).map XQ
 | x::xs,y::ys=>by show D.tup Ac::zAI iy ox=_;rw[qc4 xs ys];rfl
 | [],ys=>by cases ys <;> rfl
 | x::xs,[]=>rfl
theorem qc7:∀{rows:AO}{a:Int},zCi a rows->((a::rows.map (·.1)).zip (rows.map (·.1))).all OB=true
 | [],a,_=>rfl
 | r::rs,a,⟨h1,h2⟩=>by
  show (decide (a<r.1)&&((r.1::rs.map (·.1)).zip (rs.map (·.1))).all OB)=true;rw[vT h1,qc7 h2];rfl
theorem qje{rows:AO}(h:NG)(hl:BU):q0e [.lst Nf]=↥bn:=by
 unfold q0e q1N;have e0:Nf=(rows.map (·.1)).map D.int:=by rw[yL];rfl
 have ad:WC (.lst [Ou]) (.lst ((rows.map (·.1)).map D.int))=some (.fr ((0::rows.map (·.1)).map D.int)):=q1M (by rw[zA,zA,zY];omega);have hl2:(((0::rows.map (·.1)).zip (rows.map (·.1))).map XQ).length<=1000000:=by rw[zA,xE,zA];omega
 have cm:=q31 (g:=gT 2 gB) (c:=Xl) (f:=q1w) (λw=>∃a b,w=Cs) Bu XQ (λp=>D.bl (decide (p.1<p.2))) ((0::rows.map (·.1)).zip (rows.map (·.1))) (ω:=LE) gK (λp _ w ⟨a,b,hw⟩=>by
  subst hw;refine⟨[↥ab9,↥ab8],rfl,gK,rfl,eG⟩;unfold q1w;simp_arith[qY])
 rw[P9]at cm;rw[e0];have tz:zAI (.int 0::(rows.map (·.1)).map D.int) ((rows.map (·.1)).map D.int)=((DC::rows.map (·.1)).zip (rows.map (·.1))).map XQ:=qc4 (0::Y2 Prod.fst rows) (Y2 Prod.fst rows);simp_arith[ad,tz,OY,inW,Wi,cm,W7,q72,qc7 h]
theorem q6X{h l:Int}{bs:ae}(hb:bB):q0k cN=some (.fr V8):=by
 unfold q0k q3T;have hl:((XF aG).map XQ).length<=1000000:=by rw[zA];have:=q5e (h:=h) (l:=l) hb;omega
 have cm:=qw (i:=0) (f:=q3e) XQ edD BI (ω:=Eo) (λq hq=>by
  obtain⟨a,b⟩:=q;unfold q3e XQ edD;simp_arith[qY])
 have g:=q4b (h:=h) (l:=l) hb;rw[show Xe bO=Pz h l bs from rfl]at g;simp_arith[g,Jq,inW,Wi,cm]
theorem qjR{h l:Int}{bs:ae}(hb:bB):(Kn h l bs).length<=1000:=by
 unfold Kn;have h1:=yH (λq=>! fW) BI;have h2:(XF aG).length<=64:=by rw[q0B];have:=q5b (h:=h) (l:=l) hb;omega
 rw[zC,zC,zY];omega
theorem q8T{h l:Int}{bs:ae}{rows:AO}(hb:bB)(hr:BU)(ris:NG)(L:∀r∈rows,Lev aG EZ r):
  q0V [gW,iV,az,VX]=↥bn:=by
 unfold q0V q36;have s:=q4F (h:=h) (l:=l) hb;have k:=q6w (h:=h) (l:=l) hb;rw[show Xe bO=Pz h l bs from rfl]at s k;rw[show (bs++rQ++(XF aG).filter λq=>! fW)=Kn h l bs from rfl]at k;have ed:=q6X (h:=h) (l:=l) hb;have hl:(rows.map zAq).length<=1000000:=by rw[zA];omega
 have c1:=qw (i:=0) (f:=q2O) zAq mF rows (ω:=[none,↥(.lst ((Pz h l bs).map D.int)),↥(.lst ((Kn h l bs).map XQ)),↥(.lst V8)]) (λr hr=>by
  have il:=qb1 (q2b h l bs) (q5b hb) (qjR hb) (L r hr);unfold q2O;simp_arith[il])
 have c2:=qw (i:=0) (f:=q2M) zAq (λr=>D.int r.1) rows (ω:=Eo) (λr hr=>by
  unfold q2M zAq;simp_arith[qY])
 simp_arith[s,k,ed,Jq,inW,Wi,c1,c2,W7,q5T,qje ris hr]
theorem q9C{h l:Int}{bs:ae}{rows:AO}(hb:bB)(hr:BU)(ris:NG)(L:∀r∈rows,Lev aG EZ r):
  q1o [gW,iV,az,iN]=↥bn:=by
 unfold q1o q3U;have c:=qav (h:=h) (l:=l) (bs:=bs) ∅;have l2:US=true:=rfl;simp_arith[l2,c,q5o hb,q8X (q5e hb),q8T hb hr ris L]
theorem q6Z{D0 D1:cj}:∀(rows:AO)(tot a:Int)(x4 x5:cj),(∀r∈rows,r.2.length<=1000)->∃a' y4 y5,zAf abB q2W mh [D0,↥pF,↥(.int tot),↥bJ,x4,x5] =
  some (.nx,[D0,↥pF,↥(.int (tot+wgh a rows)),↥(.int a'),y4,y5])
 | [],tot,a,x4,x5,_=>⟨a,x4,x5,by show some _=_;rw[show tot+wgh a []=tot from YT _]⟩
 | r::rs,tot,a,x4,x5,h=>by
  obtain⟨t,gs⟩:=r;have hg:=h (t,gs) zE;obtain⟨a',y4,y5,ih⟩:=q6Z (D0:=D0) (D1:=D1) rs acx t ↥(.int t) ↥(.lst nO) λr hr=>h r (zH _ hr);refine⟨a',y4,y5,?_⟩;have mu:zAy (.int (t-a)) (.int mT)=↥(.int ((t-a)*mT)):=q6v (by simp only at hg;omega) (by simp only at hg;omega);rw[zU,zAf];show Zx (some BE) _=_;rw[yT];have st:q2W BE=some (.nx,[D0,↥pF,↥(.int acx),Fs,Fs,↥bQ]):=by
   unfold q2W;simp_arith[mu]
  rw[st];show zAf _ _ _ _=_;rw[ih,show wgh a ((t,gs)::rs)=(t-a)*mT+wgh t rs from rfl,Z9]
theorem qdh{rows:AO}(h:∀r∈rows,r.2.length<=1000):q2E [VX,pF]=↥SY:=by
 unfold q2E q5q;obtain⟨a',y4,y5,e⟩:=q6Z (D0:=↥VX) (D1:=none) rows 0 0 none none h;simp_arith[e,Int.zero_add]
theorem q5n{bs:ae}{q:bh}:0<=rts bs q/\rts bs q<=bs.length/\0<=lfs bs q/\lfs bs q<=bs.length:=by
 unfold rts lfs;have h1:=yH (λp:Int×Int=>over p.1 p.2 q) bs;have h2:=yH (λp:Int×Int=>over p.2 p.1 q) bs;omega
theorem qdt{h l:Int}{bs:ae}{q:bh}(hb:bB):-100<=XY h l bs q/\XY h l bs q<=100:=by
 unfold XY;have h1:=q5n (bs:=bs) (q:=q);have h2:=q5n (bs:=rQ) (q:=q);simp only[zY]at h2;omega
noncomputable def gwt(h l:Int)(bs:ae)(g:bh):Int:=pH*(rts bs g+lfs bs g+W8 (XY h l bs g))
theorem q8R{h l:Int}{bs:ae}{q:bh}(hb:bB):q0R A2=↥(.int acN):=by
 unfold q0R q3c zAB gwt;have h1:=q5n (bs:=bs) (q:=q);have h2:=qdt (h:=h) (l:=l) (q:=q) hb;have ha:zCv [Ik]=↥ac8:=rfl;have h3:-100<=W8 dH/\W8 dH<=100:=by unfold W8;split <;> omega
 have mu:zAy DX (.int Nd)=↥(.int ((q.2-q.1)*Nd)):=q6v ∅ ∅;have a3:∀a b c d:D,atI [a,b,c,d] 3=some d:=λ_ _ _ _=>rfl;simp_arith[ha,a3,mu]
theorem qe1(f:gP)(B:Int×Int->D):∀L:List bh,zAI (L.map B) Eb=L.map λq=>D.tup [B q,AR]
 | []=>rfl
 | q::L=>by show D.tup [B q,AR]::zAI (L.map B) Eb=_;rw[qe1 f B L];rfl
theorem qeQ{h l:Int}{bs:ae}{rows:AO}(hb:bB)(hr:BU)(ris:NG)(L:∀r∈rows,Lev aG EZ r):
  q3r [gW,iV,az,iN]=↥(.int (((XF aG).map IR).sum+2*wgh 0 rows)):=by
 unfold q3r q6o;have lk:=q6c (h:=h) (l:=l) hb;rw[show Xe bO=Pz h l bs from rfl]at lk;have hz:zAI J8 (((XF aG).map fY).map D.int)=(XF aG).map λq=>D.tup A2:=qe1 _ _ _;have hl:((XF aG).map λq=>D.tup A2).length<=1000000:=by rw[zA];have:=q5e (h:=h) (l:=l) hb;omega
 have cm:=q31 (g:=gT 2 gB) (c:=Xl) (f:=q5J) (λw=>∃a b,w=Cs) Bu (λq=>D.tup A2) (λq=>D.int acN) BI (ω:=LE) gK (λq _ w ⟨a,b,hw⟩=>by
  subst hw;refine⟨[↥aao,↥Ik],rfl,gK,rfl,eG⟩;have g:=q8R (h:=h) (l:=l) (q:=q) hb;unfold q5J;simp_arith[g])
 rw[P9]at cm;have gl:∀r∈rows,r.2.length<=1000:=λr hr=>by
  have h1:=q5B (L r hr).ne;rw[(L r hr).pm.length_eq]at h1;have:=q5b (h:=h) (l:=l) hb;omega
 have wg:=qdh gl;have mu:zAy R6 SY=↥(.int (2*wgh 0 rows)):=q6S (by decide) (by decide);simp_arith[q9C hb hr ris L,lk,hz,Jq,inW,Wi,cm,qeG,wg,mu]
theorem qI{h l:Int}{bs:ae}(p:Int):p∈Pz h l bs↔p=h\/p=l\/∃b∈bs,p=b.1\/p=b.2:=by
 unfold Pz;rw[q0T];unfold plc flat;simp only[zF,xL,zd,or_false]
theorem q9y{P:af}{g:bh}(h:g∈XF P):∃(i:Nat) (hi:Rw),g=(P[i],P[i+1]):=by
 obtain⟨i,hi,rfl⟩:=zh.mp h;have hi':=hi;rw[q0B]at hi';have e:=qgJ (P:=P) (i:=i) ∅;refine⟨i,∅,?_⟩;rw[zD hi]at e;exact zy e
theorem q0s{P:af}{g:bh}(h:g∈XF P):g.1∈P/\g.2∈P:=by
 obtain⟨i,hi,rfl⟩:=q9y h;exact⟨yk _,yk _⟩
theorem q4g{h l:Int}{bs:ae}(hb:bB):∀g∈XF (Pz h l bs),Gap h l bs g:=λg hg=>by
 have S:=stp h l hb;obtain⟨i,hi,rfl⟩:=q9y hg;have am:∀x∈Pz h l bs,x<=(Pz h l bs)[i]\/(Pz h l bs)[i+1]<=x:=λx hx=>Stp.amid (P:=Pz h l bs) S hi hx;exact⟨Stp.lt (P:=Pz h l bs) S ∅ hi ∅,am h ((qI h).mpr bu),am l ((qI l).mpr O4),λb hb=>⟨am _ E7,am _ kw⟩⟩
theorem qkP{h l:Int}{bs:ae}{e:bh}(he:e∈Kn h l bs):e.1∈Pz h l bs/\e.2∈Pz h l bs:=by
 unfold Kn at he;rcases zJ.mp he with he|he
 ·rcases zJ.mp he with he|he
  ·exact⟨(qI _).mpr (.inr (.inr ⟨e,he,bu⟩)),(qI _).mpr (.inr (.inr ⟨e,he,Aq⟩))⟩
  ·cases zR.mp he
   exact⟨(qI _).mpr bu,(qI _).mpr O4⟩
 ·exact q0s (yB.mp he).1
theorem q0Z(a b:Int)(r:af):XF (a::b::r)=(a,b)::XF (b::r):=rfl
noncomputable def xR(x p q:Int):Int:=if p<x/\x<=q then 1 else 0
noncomputable def chi(x y:Int):Int:=if x<=y then 1 else 0
theorem qfE(x p q:Int):xR x p q-xR x q p=chi x q-chi x p:=by
 unfold xR chi
 by_cases h1:x<=p <;> by_cases h2:x<=q
 ·rw[ik,ik,vH h2,OI];rfl
 ·rw[ik,kb,vJ h2,OI]
 ·rw[kb,ik,vH h2,vJ h1]
 ·rw[ik,ik,vJ h2,vJ h1]
theorem qcu{g:bh}{x p q:Int}(hp:KZ)(hq:KY)(h1:g.1<x)(h2:x<=g.2):xR x p q=if over p q g=true then 1 else 0:=by
 unfold xR over
 by_cases z1:p<=g.1 <;> by_cases z2:g.2<=q
 ·rw[kb,vH (by rw[vT z1,vT z2];rfl)]
 ·rw[ik,vJ (by rw[vX z2];simp)]
 ·rw[ik,vJ (by rw[vX z1];simp)]
 ·rw[ik,vJ (by rw[vX z1];simp)]
theorem q7H(F:Int×Int->Bool):∀bs:List bh,(bs.map λb=>if F b=true then Ap else 0).sum=((bs.filter F).length:Nat)
 | []=>rfl
 | b::bs=>by
  rw[zU,zf,q7H F bs,yQ]
  split <;> simp <;> omega
theorem qhL{h l:Int}{bs:ae}{g:bh}(G:Gap h l bs g){x:Int}(h1:g.1<x)(h2:x<=g.2):(bs.map λb=>xR x b.1 b.2).sum=rts bs g/\(bs.map λb=>xR x b.2 b.1).sum=lfs bs g:=by
 unfold rts lfs;rw[<- q7H,<- q7H];exact⟨v4 _ (yJ λb hb=>qcu (G.b b hb).1 (G.b b hb).2 h1 h2),v4 _ (yJ λb hb=>qcu (G.b b hb).2 (G.b b hb).1 h1 h2)⟩
noncomputable def WJ(p q:Int):Int:=if q-p<0 then -(q-p)else q-p
noncomputable def sts(as:ae):List Int:=as.map (·.1)
noncomputable def gls(as:ae):List Int:=as.map (·.2)
theorem q9J:∀(a b:af),PyData.eqvAll DR DQ=decide (a=b)
 | [],[]=>rfl
 | [],_::_=>rfl
 | _::_,[]=>rfl
 | x::a,y::b=>by
  show (x==y&&PyData.eqvAll DR DQ)=_;rw[q9J a b]
  by_cases z:x=y
  ·subst z
   simp
  ·have:(x==y)=false:=by simpa using z
   rw[this];simp[z]
theorem qfF(a b:af):oEq false (.lst (a.map D.int)) (.lst (b.map D.int))=↥(.bl (decide (a=b))):=by
 unfold oEq;rw[q4x,q4x];show some (R.sh (.bl (PyData.eqvAll DR DQ)))=_;rw[q9J]
theorem qhZ{as:ae}(hl:En):qH [aR]=↥VY:=by
 unfold qH q0n;have hl2:(as.map XC).length<=1000000:=by rw[zA];omega
 have c1:=qw (i:=0) (f:=q07) XC (λp=>D.int p.1) as (ω:=Eo) (λp _=>by
  unfold q07 XC;simp_arith[qY])
 have c2:=qw (i:=0) (f:=q08) XC (λp=>D.int p.2) as (ω:=Eo) (λp _=>by
  unfold q08 XC;simp_arith[qY])
 have e1:(as.map λp=>D.int p.1)=(sts as).map D.int:=by unfold sts;rw[yL];rfl
 have e2:(as.map λp=>D.int p.2)=(gls as).map D.int:=by unfold gls;rw[yL];rfl
 rw[e1]at c1;rw[e2]at c2;have s1:=q9c (ns:=sts as) (by unfold sts;rw[zA];omega);have s2:=q9c (ns:=gls as) (by unfold gls;rw[zA];omega);have q:oEq false (.lst ((Xd (sts as)).map D.int)) (.lst ((Xd (gls as)).map D.int))=↥VY:=by
  rw[qfF,decide_eq_decide.mpr (qfY (l:=sts as) (m:=gls as))]
 simp_arith[OY,inW,Wi,c1,c2,s1,s2,q]
noncomputable def Xm(as:ae)(n:Nat):Int:=(as.getD n (0,0)).1
noncomputable def Xt(as:ae)(n:Nat):Int:=(as.getD n (0,0)).2
inductive Wlk (as:List (Int×Int)):Int->List Nat->Int->Prop where
 | nil (a:Int):Wlk as a [] a
 | cons {a b:Int} {n:Nat} {r:List Nat} (h:Xm as n=a) (t:Wlk as (Xt as n) r b):Wlk as a (n::r) b
theorem Wlk.app{as:ae}{a b c:Int}{r q:bW}(h:Wlk as a r b)(h':Wlk as b q c):Wlk as a (r++q) c:=by
 induction h with
 | nil _=>exact h'
 | cons e _ ih=>exact .cons e (ih h')
theorem Wlk.snoc{as:ae}{a b:Int}{r:bW}{n:Nat}(h:Wlk as a r b)(e:Xm as n=b):Wlk as a (r++[n]) jm:=h.app (.cons e (.nil _))
theorem Wlk.last{as:ae}:∀{r:bW}{a b:Int}{n:Nat},Wlk as a (r++[n]) b->b=Xt as n/\Wlk as a r ge
 | [],a,b,n,h=>by
  cases h with
  | cons e t=>cases t;exact⟨rfl,by rw[<- e];exact .nil _⟩
 | m::r,a,b,n,h=>by
  cases h with
  | cons e t=>
   obtain⟨h1,h2⟩:=Wlk.last t;exact⟨h1,.cons e h2⟩
noncomputable def cS(as:ae)(U:bW)(v:Int):Nat:=U.countP λn=>decide (Xm as n=v)
noncomputable def cD(as:ae)(U:bW)(v:Int):Nat:=U.countP λn=>decide (Xt as n=v)
noncomputable def ind(v h:Int):Int:=if v=h then 1 else 0
def bal(as:ae)(U:bW)(h x:Int):Prop:=∀v,(cS as U v:Int)-cD as U v=ind v h-ind v x
structure HI (as:List (Int×Int)) (s:Int) (U T B:List Nat) (h:Int):Prop where
 all:(U++(T++B)).Perm (zo as.length)
 inv:∃x T0 T1,T=T0++T1/\Wlk as s T0 x/\Wlk as x T1 h/\Wlk as x B.reverse s/\bal as U h x
 shut:∀n∈B,∀m∈U,Xm as m≠Xt as n
theorem qiT{as:ae}{U U':bW}{n:Nat}(h:Of)(v:Int):cS as U v=cS as U' v+if Xm as n=v then 1 else 0:=by
 unfold cS;rw[h.countP_eq,wc];simp
theorem qiN{as:ae}{U U':bW}{n:Nat}(h:Of)(v:Int):cD as U v=cD as U' v+if Xt as n=v then 1 else 0:=by
 unfold cD;rw[h.countP_eq,wc];simp
theorem HI.start{as:ae}{s:Int}{U:bW}(hU:U.Perm dU)(hb:∀v,cS as U v=cD as U v):HI as s U [] [] s :=
 ⟨by simpa using hU,⟨s,[],[],rfl,.nil _,.nil _,.nil _,λv=>by rw[hb v];omega⟩,λn hn=>by cases hn⟩
theorem HI.push{as:ae}{s h:Int}{U U' T B:bW}{n:Nat}(I:HI as s U T B h)(hn:Of)(hs:Xm as n=h):HI as s U' (T++[n]) B jm:=by
 obtain⟨x,T0,T1,rfl,w0,w1,w2,b⟩:=I.inv;refine⟨?_,⟨x,T0,T1++[n],by rw[zO],w0,w1.snoc hs,w2,λv=>?_⟩,λk hk m hm=>I.shut k hk m (hn.mem_iff.mpr (zH _ hm))⟩
 ·refine xC ?_ I.all
  have h1:(U++BO).Perm ((n::U')++BO):=hn.append_right _;refine xC ?_ h1.symm;rw[zO (T0++T1) [n] B];have h2:(U'++((T0++T1)++([n]++B))).Perm (U'++([n]++BO)):=yW _ (by
   rw[<- zO,<- zO];exact xB _ yq)
  refine h2.trans ?_;show (U'++(n::BO)).Perm (n::(U'++BO));exact ZS
 ·have:=b v
  have e1:=qiT (as:=as) hn v;have e2:=qiN (as:=as) hn v;unfold ind at this ⊢;rw[hs]at e1
  by_cases z1:v=h <;> by_cases z2:v=Xt as n
  ·rw[vH z1.symm]at e1;rw[vH z2.symm]at e2;rw[vH z1]at this;rw[vH z2];omega
  ·rw[vH z1.symm]at e1;rw[vJ aad]at e2;rw[vH z1]at this;rw[vJ z2];omega
  ·rw[vJ aar]at e1;rw[vH z2.symm]at e2;rw[vJ z1]at this;rw[vH z2];omega
  ·rw[vJ aar]at e1;rw[vJ aad]at e2;rw[vJ z1]at this;rw[vJ z2];omega
theorem qbZ{as:ae}{U:bW}{v:Int}(h:∀m∈U,Xm as m≠v):cS as U v=0:=by
 unfold cS;rw[Z2];intro m hm;simpa using h m hm
theorem stuck{as:ae}{U:bW}{h x:Int}(b:bal as U h x)(hs:∀m∈U,Xm as m≠h):h=x:=by
 have:=b h;rw[qbZ hs]at this;unfold ind at this;rw[kT]at this
 by_cases z:h=x
 ·exact z
 ·rw[gc]at this;omega
theorem HI.pop{as:ae}{s h:Int}{U T B:bW}{n:Nat}(I:HI as s U (T++[n]) B h)(hs:∀m∈U,Xm as m≠h):HI as s U T (B++[n]) ge:=by
 obtain⟨x,T0,T1,e,w0,w1,w2,b⟩:=I.inv;have hx:=stuck b hs;subst hx;have w:Wlk as s (T++[n]) h:=by rw[e];exact w0.app w1
 obtain⟨e1,e2⟩:=w.last;refine⟨?_,⟨Xm as n,T,[],by rw[zk],e2,.nil _,?_,λv=>by have:=b v;omega⟩,λk hk m hm=>?_⟩
 ·refine xC (yW _ ?_) I.all
  rw[zO];exact yW _ yq
 ·rw[xZ]
  exact .cons rfl (by rw[<- e1];exact w2)
 ·rcases zJ.mp hk with y|y
  ·exact I.shut k y m hm
  ·cases zR.mp y
   rw[<- e1];exact hs m hm
structure Rnd (as:List (Int×Int)) (s:Int) (row U:List Nat):Prop where
 all:(U++row).Perm (zo as.length)
 walk:Wlk as s row s
 s0:∀m∈U,Xm as m≠s
 shut:∀n∈row,∀m∈U,Xm as m≠Xt as n
 even:∀v,cS as U v=cD as U v
theorem HI.done{as:ae}{s h:Int}{U B:bW}(I:HI as s U [] B h)(hs:∀m∈U,Xm as m≠h):Rnd as s B.reverse U:=by
 obtain⟨x,T0,T1,e,w0,w1,w2,b⟩:=I.inv;obtain⟨rfl,rfl⟩:=List.append_eq_nil_iff.mp e.symm;cases w0;cases w1;refine⟨?_,w2,hs,λn hn=>I.shut n (yp.mp hn),λv=>by have:=b v;omega⟩;have:=I.all;rw[yX]at this;exact(yW _ (List.reverse_perm B)).trans this
theorem Wlk.mem{as:ae}{V:Int->Prop}:∀{r:bW}{a b:Int},Wlk as a r b->V a->(∀n∈r,V jm)->∀n∈r,V ge
 | [],_,_,_,_,_,n,hn=>by cases hn
 | m::r,a,b,h,ha,hv,n,hn=>by
  cases h with
  | cons e t=>
   rcases zF.mp hn with rfl|hn
   ·rw[e];exact ha
   ·exact t.mem (hv m zE) (λk hk=>hv k OG) n hn
theorem Rnd.full{as:ae}{s:Int}{row U:bW}(R:Rnd as s row U)(hr:∀a∈as,Rch as s a.1):row.length=as.length:=by
 have hU:U=[]:=by
  cases U with
  | nil=>rfl
  | cons m U'=>
   exfalso
   let V:Int->Prop:=λv=>v=s\/∃n∈row,Xt as n=v
   have out:∀v,V v->∀k∈m::U',Xm as k≠v:=λv hv k hk=>by
    rcases hv with rfl|⟨n,hn,rfl⟩
    ·exact R.s0 k hk
    ·exact R.shut n hn k hk
   have inn:∀v,V v->∀k∈m::U',Xt as k≠v:=λv hv k hk e=>by
    have h1:=qbZ (as:=as) (out v hv);have h2:=R.even v;rw[h1]at h2;have:cD as (m::U') v=0:=h2.symm;unfold cD at this;rw[Z2]at this;exact this k hk ⇑e
   have row_of:∀(n:Nat),n<as.length->(V ge\/V jm)->n∈row:=λn hn hv=>by
    have:n∈(m::U')++row:=R.all.mem_iff.mpr (xA.mpr hn);rcases zJ.mp this with y|y
    ·rcases hv with hv|hv
     ·exact vP rfl (out _ hv n y)
     ·exact vP rfl (inn _ hv n y)
    ·exact y
   have sv:∀n∈row,V ge:=R.walk.mem (V:=V) bu λn hn=>.inr ⟨n,hn,rfl⟩;have cl:∀c,Rch as s c->V c:=λc h=>h.inv V bu λb c hb e=>by
    rcases e with e|e
    ·obtain⟨n,hn,he⟩:=zh.mp e
     have es:Xm as n=b/\Xt as n=c:=by
      unfold Xm Xt;rw[zV,zD hn,he];exact cT
     exact .inr ⟨n,row_of n hn (.inl (by rw[es.1];exact hb)),es.2⟩
    ·obtain⟨n,hn,he⟩:=zh.mp e
     have es:Xm as n=c/\Xt as n=b:=by
      unfold Xm Xt;rw[zV,zD hn,he];exact cT
     rw[<- es.1];exact sv n (row_of n hn (.inr (by rw[es.2];exact hb)))
   have hm:m<as.length:=xA.mp (R.all.mem_iff.mp (by simp));have hrm:=hr _ (yk hm);have es:Xm as m=(as[m]).1:=by unfold Xm;rw[zV,zD hm];rfl
   exact out _ (cl _ (by rw[<- es]at hrm;exact hrm)) m zE rfl
 have:=R.all.length_eq;rw[hU,yX,zx]at this;exact this
noncomputable def cst(l:bW):List Int:=l.map λ(n:Nat)=>cB
structure WT (as:List (Int×Int)) (ks:List Int) (xss:List (List Int)) (U:List Nat):Prop where
 len:ks.length=xss.length
 nd:U.Nodup
 mem:∀(v k:Int),k∈WI ks xss v↔∃n:Nat,k=n/\n∈U/\Xm as n=v
 gn:∀v,(WI ks xss v).Nodup
theorem q5g:∀{ks:af}{xss:cn}(h v:Int),ks.length=xss.length->WI ks lE v=if v=h then (WI ks xss h).dropLast else WI ks xss v
 | [],[],h,v,_=>by
  show ([]:List Int)=if v=h then ([]:List Int).dropLast else []
  split <;> rfl
 | [],_::_,_,_,hl=>by simp at hl
 | _::_,[],_,_,hl=>by simp at hl
 | k::ks,x::xss,h,v,hl=>by
  have ih:=q5g (ks:=ks) (xss:=xss) h v ⇑hl;unfold WI at ih ⊢;show (Xg Jn (if k=h then x.dropLast::xss else x::WZ ks xss h) v).getD []=if v=h then ((if k=h then some x else Xg ks xss h).getD []).dropLast else (if k=v then some x else Xg ks xss v).getD []
  by_cases z:k=h
  ·rw[gz,gz]
   show (if k=v then some x.dropLast else Xg ks xss v).getD []=_
   by_cases y:k=v
   ·rw[JI,vH (by rw[<- y,z])];rfl
   ·rw[KN,vJ (λe=>y (by rw[z,e])),KN]
  ·rw[gc,gc]
   show (if k=v then some x else Xg ks lE v).getD []=_
   by_cases y:k=v
   ·rw[JI,vJ (λe=>z (by rw[y,e])),JI]
   ·rw[KN,ih,KN]
theorem q8j:∀(ks:af)(xss:cn)(h:Int),(WZ ks xss h).length=xss.length
 | [],_,_=>rfl
 | _::_,[],_=>rfl
 | k::ks,x::xss,h=>by
  show (if k=h then x.dropLast::xss else x::WZ ks xss h).length=_
  split
  ·rfl
  ·rw[zI,q8j,zI]
theorem qaq{l:af}{k a:Int}(nd:l.Nodup)(e:l.getLast?=some k):a∈l.dropLast↔a∈l/\a≠k:=by
 have hl:l=l.dropLast++[k]:=by
  have hne:l≠[]:=λz=>by rw[z]at e;cases e
  have:=wp hne;rw[List.getLast?_eq_getLast hne]at e;rw[zy e]at this;exact this.symm
 rw[hl]at nd;have nd':=ym.mp nd
 constructor
 ·intro h
  exact⟨by rw[hl];exact zX _ h,λz=>nd'.2.2 a h k (by simp) z⟩
 ·rintro⟨h1,h2⟩
  rw[hl]at h1;rcases zJ.mp h1 with y|y
  ·exact y
  ·exact vP (zR.mp y) h2
theorem WT.pop{as:ae}{ks:af}{xss:cn}{U:bW}(W:WT as ks xss U){h:Int}{m:Nat}(e:(WI ks xss h).getLast?=some ib):WT as ks lE (U.erase m):=by
 have hm:ib∈WI ks xss h:=Zy e;obtain⟨n,en,hn,hs⟩:=(W.mem h m).mp hm;have:n=m:=∅
 subst this;refine⟨by rw[q8j];exact W.len,W.nd.erase _,λv k=>?_,λv=>?_⟩
 ·rw[q5g h v W.len]
  by_cases z:v=h
  ·rw[gz,qaq (W.gn h) e,W.mem h]
   constructor
   ·rintro⟨⟨n',rfl,h1,h2⟩,h3⟩
    exact⟨n',rfl,(W.nd.mem_erase_iff).mpr ⟨λq=>h3 (by rw[q]),h1⟩,by rw[z];exact h2⟩
   ·rintro⟨n',rfl,h1,h2⟩
    obtain⟨a,b⟩:=(W.nd.mem_erase_iff).mp h1;exact⟨⟨n',rfl,b,by rw[<- z];exact h2⟩,λq=>a ∅⟩
  ·rw[gc,W.mem v]
   constructor
   ·rintro⟨n',rfl,h1,h2⟩
    exact⟨n',rfl,(W.nd.mem_erase_iff).mpr ⟨λq=>z (by rw[<- h2,q,hs]),h1⟩,h2⟩
   ·rintro⟨n',rfl,h1,h2⟩
    exact⟨n',rfl,((W.nd.mem_erase_iff).mp h1).2,h2⟩
 ·rw[q5g h v W.len]
  split
  ·exact(W.gn h).sublist (List.dropLast_sublist _)
  ·exact W.gn v
theorem qbW{as:ae}{m:Nat}:(as.getD (ib).toNat (0,0)).1=Xm as m/\(as.getD (ib).toNat (0,0)).2=Xt as m:=by
 rw[yr];exact cT
theorem qaF{as:ae}{s:Int}(hl:En){ks:af}:∀(n:Nat)(xss:cn)(U T B:bW)(h:Int),HI as s U T B h->WT as ks xss U->2*U.length+T.length<n ->
  ∃row U',WR as ks n xss (cst T) (cst B) h=some (cst row)/\Rnd as s row U'
 | 0,_,_,_,_,_,_,_,hn=>vP hn Tz
 | n+1,xss,U,T,B,h,I,W,hn=>by
  have tot:U.length+(T.length+B.length)=as.length:=by
   have:=I.all.length_eq;rw[zC,zC,zx]at this;exact this
  unfold WR;cases e:(WI ks xss h).getLast? with
  | some k=>
   obtain⟨m,rfl,hm,hs⟩:=(W.mem h k).mp (Zy e);have hlt:m<as.length:=xA.mp (I.all.mem_iff.mp (zX _ hm));have pm:=Zz hm;have I':=I.push pm hs;have ul:U.length=(U.erase m).length+1:=by have:=pm.length_eq;rw[zI]at this;exact this
   obtain⟨row,U',r1,r2⟩:=qaF hl n lE (U.erase m) (T++[m]) B _ I' (W.pop e) (by rw[zC,zY];omega);refine aaa;show (if 0<=ib/\ib<as.length/\(cst T).length<1000000 then WR as ks n lE (cst T++[ib]) (cst B) (as.getD (ib).toNat (0,0)).2 else none)=_;rw[vH ⟨∅,∅,by unfold cst;rw[zA];omega⟩,qbW.2];rw[show cst T++[ib]=cst (T++[m]) by unfold cst;rw[zW];rfl];exact r1
  | none=>
   have hem:WI ks xss h=[]:=wG.mp e;have hs:∀m∈U,Xm as m≠h:=λm hm z=>by
    have:ib∈WI ks xss h:=(W.mem h m).mpr ⟨m,rfl,hm,z⟩;rw[hem]at this;cases this
   rcases List.eq_nil_or_concat T with rfl|⟨T0,m,rfl⟩
   ·refine⟨B.reverse,U,?_,I.done hs⟩
    show some (cst B).reverse=_;unfold cst;rw[Yb]
   ·rw[List.concat_eq_append]at I hn tot ⊢
    have hlt:m<as.length:=xA.mp (I.all.mem_iff.mp (zT _ (zX _ (by simp))));have I':=I.pop hs;rw[zC,zY]at hn tot;obtain⟨row,U',r1,r2⟩:=qaF hl n xss U T0 (B++[m]) _ I' W ∅;refine aaa;have ec:cst (T0++[m])=cst T0++[ib]:=by unfold cst;rw[zW];rfl
    rw[ec];show (match (cst T0++[ib]).getLast? with
     | some k=>if 0<=k/\k<as.length/\(cst B).length<1000000 then WR as ks n xss (cst T0++[ib]).dropLast (cst B++[k]) (as.getD k.toNat (0,0)).1 else none
     | none=>some (cst B).reverse)=_
    rw[List.getLast?_concat];show (if 0<=ib/\ib<as.length/\(cst B).length<1000000 then WR as ks n xss (cst T0++[ib]).dropLast (cst B++[ib]) (as.getD (ib).toNat (0,0)).1 else none)=_;rw[vH ⟨∅,∅,by unfold cst;rw[zA];omega⟩,qbW.1,List.dropLast_concat];rw[show cst B++[ib]=cst (B++[m]) by unfold cst;rw[zW];rfl];exact r1
theorem q6N:∀{ks:af}{xss:cn}(a b v:Int),ks.length=xss.length->a∈ks->WI ks Dx v=if v=a then WI ks xss v++[b]else WI ks xss v
 | [],_,_,_,_,_,h=>by cases h
 | _::_,[],_,_,_,hl,_=>by simp at hl
 | k::ks,x::xss,a,b,v,hl,ha=>by
  unfold WI;show (Xg Jn (if k=a then Q9::xss else x::Ww ks xss a b) v).getD []=if v=a then ((if k=v then some x else Xg ks xss v).getD [])++[b]else (if k=v then some x else Xg ks xss v).getD []
  by_cases z:k=a
  ·rw[gz]
   show (if k=v then some Q9 else Xg ks xss v).getD []=_
   by_cases y:k=v
   ·rw[JI,vH (by rw[<- y,z]),JI];rfl
   ·rw[KN,vJ (λe=>y (by rw[z,e])),KN]
  ·rw[gc]
   have ha':a∈ks:=(zF.mp ha).resolve_left λe=>z e.symm;have ih:=q6N (ks:=ks) (xss:=xss) a b v ⇑hl ha';unfold WI at ih;show (if k=v then some x else Xg ks Dx v).getD []=_
   by_cases y:k=v
   ·rw[JI,vJ (λe=>z (by rw[y,e])),JI]
   ·rw[KN,ih,KN]
theorem q9g:∀{ks:af}{xss:cn}(a v:Int),ks.length=xss.length->WI ON Q8 v=WI ks xss v
 | [],[],a,v,_=>by
  unfold WI;show (if a=v then some []else none).getD []=_
  split <;> rfl
 | [],_::_,_,_,hl=>by simp at hl
 | _::_,[],_,_,hl=>by simp at hl
 | k::ks,x::xss,a,v,hl=>by
  have ih:=q9g (ks:=ks) (xss:=xss) a v ⇑hl;unfold WI at ih ⊢;show (if k=v then some x else Xg ON Q8 v).getD []=(if k=v then some x else Xg ks xss v).getD []
  by_cases y:k=v
  ·rw[JI,JI]
  ·rw[KN,KN,ih]
theorem qhD(as:ae):∀n:Nat,n<=as.length->(byS as n).1.length=(byS as n).2.length/\∀v,WI (byS as n).1 (byS as n).2 v=cst lT
 | 0,_=>⟨rfl,λv=>rfl⟩
 | n+1,hn=>by
  obtain⟨h1,h2⟩:=qhD as n ∅;have hlt:n<as.length:=∅
  have eb:byS as (n+1)=WB Mx n ge:=by
   show (match as[n]? with|some a=>WB Mx n a.1|none=>byS as n)=_;rw[GH];unfold Xm;rw[zV,GH];rfl
  have er:∀v,cst ((zo (n+1)).filter λj=>decide Ku)=if v=Xm as n then cst lT++[cB]else cst lT:=λv=>by
   rw[Yo,wN]
   by_cases z:v=Xm as n
   ·rw[gz]
    have:([n].filter λj=>decide Ku)=[n]:=by rw[yQ,vH (vT z.symm)];rfl
    rw[this];unfold cst;rw[zW];rfl
   ·rw[gc]
    have:([n].filter λj=>decide Ku)=[]:=by rw[yQ,vJ ⇑(λe=>z e.symm)];rfl
    rw[this,zk]
  rw[eb];unfold WB
  by_cases ha:Xm as n∈(byS as n).1
  ·rw[vH ha]
   exact⟨by show (byS as n).1.length=(Ww _ _ _ _).length;rw[q6G];exact h1,λv=>by
    show WI (byS as n).1 (Ww (byS as n).1 (byS as n).2 ge n) v=_;rw[q6N _ _ v h1 ha,er v,h2 v]⟩
  ·rw[vJ ha]
   have hl':((byS as n).1++[ge]).length=((byS as n).2++[[]]).length:=by rw[zC,zC,h1];rfl
   exact⟨by show ((byS as n).1++[ge]).length=(Ww _ _ _ _).length;rw[q6G];exact hl',λv=>by
    show WI Sg (Ww Sg ((byS as n).2++[[]]) ge n) v=_;rw[q6N _ _ v hl' (by simp),q9g _ v h1,er v,h2 v]⟩
theorem qjv{l:bW}(h:l.Nodup):(cst l).Nodup:=by
 unfold cst List.Nodup;rw[YU];exact h.imp λ{a b} z e=>z ∅
theorem qgi(as:ae):WT as (byS as as.length).1 (byS as as.length).2 dU:=by
 obtain⟨h1,h2⟩:=qhD as as.length bM;refine⟨h1,ZZ,λv k=>?_,λv=>by rw[h2 v];exact qjv (ZZ.filter _)⟩;rw[h2 v];unfold cst;rw[zz]
 constructor
 ·rintro⟨n,hn,rfl⟩
  obtain⟨a,b⟩:=yB.mp hn;exact⟨n,rfl,a,of_decide_eq_true b⟩
 ·rintro⟨n,rfl,a,b⟩
  exact⟨n,yB.mpr ⟨a,vT b⟩,rfl⟩
theorem qbb{α:Type}(d:α):∀bs:List α,(zo bs.length).map Tn=bs:=λbs=>by
 apply Ye
 ·rw[zA,zx]
 ·intro i h1 h2
  rw[wE,YF,zV,zD h2];rfl
theorem q7l(as:ae)(v:Int):cS as dU v=(sts as).count v/\cD as dU v=(gls as).count v:=by
 have h:∀f:Int×Int->Int,(zo as.length).countP (λn=>decide (f VD=v))=(as.map f).count v:=λf=>by
  have e:=qbb (0,0) as;have:(as.map f)=(zo as.length).map λn=>f VD:=by
   have:=v4 (Y2 f) e;rw[yL]at this;exact this.symm
  rw[this,List.count,Zq];rfl
 exact⟨h (·.1),h (·.2)⟩
theorem qgH{as:ae}{s:Int}(hl:En)(hp:Co):∃row U,zAP s as=some (cst row)/\Rnd as s row U:=by
 have hb:∀v,cS as dU v=cD as dU v:=λv=>by
  rw[(q7l as v).1,(q7l as v).2,hp.count_eq]
 obtain⟨row,U,r1,r2⟩:=qaF (s:=s) hl 100000 (byS as as.length).2 dU [] [] s (HI.start (.refl _) hb) (qgi as) (by rw[zx,xV];omega);exact⟨row,U,by unfold zAP;rw[vH hl];exact r1,r2⟩
theorem qcm(v y:Int):(if y=v then Ap else 0)=chi v y-chi (v+1) y:=by
 unfold chi
 by_cases a:v<=y <;> by_cases b:v+1<=y <;> by_cases c:y=v <;> simp[a,b,c] <;> omega
noncomputable def flw(x:Int)(as:ae):Int:=(as.map λa=>chi x a.2-chi x a.1).sum
theorem q35(x:Int)(a b:ae):flw x Kq=flw x a+flw x b:=by unfold flw;rw[zW,xU]
theorem q3p(x:Int)(a:bh)(b:ae):flw x (a::b)=(chi x a.2-chi x a.1)+flw x b:=by unfold flw;rw[zU,zf]
theorem qct(v:Int):∀as:List bh,((as.countP λa=>decide (a.1=v):Nat):Int)-(as.countP λa=>decide (a.2=v):Nat)=flw (v+1) as-flw v as
 | []=>rfl
 | a::as=>by
  have ih:=qct v as;have i1:=qcm v a.1;have i2:=qcm v a.2;rw[q3p,q3p,wc,wc]
  by_cases z1:a.1=v <;> by_cases z2:a.2=v <;> simp only[z1,z2,decide_true,decide_false,if_true,if_false,yI,Zp,Yp,Yf,Nat.add_zero]at i1 i2 ⊢ <;> omega
theorem qd6(xs:ae):(zo xs.length).map (λk=>xs.getD k (0,0))=xs:=by
 apply yx;intro i;rw[zZ];rcases zw i xs.length with z|z
 ·rw[xW z,xD,zV,zD z];rfl
 ·rw[zn ⇑z,zn z];rfl
theorem qfi(as:ae)(v:Int):cS as dU v=(as.countP λa=>decide (a.1=v))/\cD as dU v=(as.countP λa=>decide (a.2=v)):=by
 have e:=qd6 as
 constructor
 ·conv=>rhs;rw[<- e]
  rw[Zq];rfl
 ·conv=>rhs;rw[<- e]
  rw[Zq];rfl
theorem qbn{as:ae}(h:∀x,flw x as=0)(v:Int):cS as dU v=cD as dU v:=by
 rw[(qfi as v).1,(qfi as v).2];have:=qct v as;rw[h,h]at this;omega
theorem q9L(x:Int):∀(r:af)(k:Int),(k::r).Pairwise (· < ·)->(∃g∈XF (k::r),g.1<x/\x<=g.2/\∀c:Int×Int->Int,((XF T7).map λg=>c g*eu).sum=c g)\/(∀p∈k::r,∀q∈k::r,chi x p=chi x q)
 | [],k,_=>.inr λp hp q hq=>by rw[zR.mp hp,zR.mp hq]
 | k1::r,k,h=>by
  obtain⟨h1,h2⟩:=zQ.mp h;have kk:=h1 k1 zE;have low:∀p∈k1::r,k1<=p:=λp hp=>by
   rcases zF.mp hp with rfl|hp
   ·exact zi _
   ·exact yh ((zQ.mp h2).1 p hp)
  by_cases a:x<=k
  ·refine .inr λp hp q hq=>?_
   have:∀p∈k::k1::r,chi x p=1:=λp hp=>by
    unfold chi;rcases zF.mp hp with rfl|hp
    ·rw[vH a]
    ·have:=low p hp;rw[kb]
   rw[this p hp,this q hq]
  ·by_cases b:x<=k1
   ·refine .inl ⟨(k,k1),by rw[q0Z];exact zE,by simp only;omega,b,λc=>?_⟩
    have c0:chi x k1-chi x k=1:=by unfold chi;rw[vH b,vJ a];rfl
    have z:((XF (k1::r)).map λg=>c g*eu).sum=0:=by
     have:∀g∈XF (k1::r),c g*eu=0:=λg hg=>by
      obtain⟨m1,m2⟩:=q0s hg;have:=low _ m1;have:=low _ m2;unfold chi;rw[kb,kb,Zg,wF]
     rw[yJ this];clear this
     induction XF (k1::r)with
     | nil=>rfl
     | cons g gs ih=>rw[zU,zf,ih];rfl
    rw[q0Z,zU,zf,z];simp only[c0];omega
   ·have c0:chi x k1-chi x k=0:=by unfold chi;rw[vJ b,vJ a];rfl
    rcases q9L x r k1 h2 with⟨g,hg,g1,g2,g3⟩|h3
    ·refine .inl ⟨g,by rw[q0Z];exact zH _ hg,g1,g2,λc=>?_⟩
     rw[q0Z,zU,zf,g3];simp only[c0];omega
    ·refine .inr λp hp q hq=>?_
     have e:∀p∈k::k1::r,chi x p=chi x k1:=λp hp=>by
      rcases zF.mp hp with rfl|hp
      ·omega
      ·exact h3 p hp k1 zE
     rw[e p hp,e q hq]
noncomputable def repA(c:Int)(g:bh):List bh:=zt c.toNat OQ++zt (-c).toNat OP
theorem q4l(c:Int):∀n:Nat,(zt n c).sum=n*c
 | 0=>by simp
 | n+1=>by rw[yR,zf,q4l c n];rw[show Lq=cB+1 by omega,Int.add_mul];omega
theorem qgF(x c:Int)(g:bh):flw x (repA c g)=c*eu:=by
 unfold repA;rw[q35];unfold flw;rw[xm,xm,q4l,q4l];rcases Int.le_total 0 c with z|z
 ·rw[show (-c).toNat=0 by omega,xa z];simp
 ·rw[show c.toNat=0 by omega,xa (show 0 <= -c by omega)]
  simp only[Yf,Int.zero_mul,Int.zero_add];rw[show chi x g.1-chi x g.2=-eu by omega,Int.neg_mul_neg]
theorem qge{c:Int}{g:bh}(h:g.1<g.2):((repA c g).map λa=>WJ a.1 a.2).sum=pH*W8 c:=by
 unfold repA WJ W8;rw[zW,xU,xm,xm,q4l,q4l];simp only;rw[ik,kb]
 by_cases z:c<0
 ·rw[gz,show c.toNat=0 by omega,xa (show 0 <= -c by omega)]
  simp;rw[show g.2-g.1=-(g.1-g.2) by omega,Zh]
 ·rw[gc,show (-c).toNat=0 by omega,xa (show 0<=c by omega),Zh];simp
noncomputable def Wv(c:gP)(G:ae):List bh:=G.flatMap λg=>repA (c g) g
theorem q9s(x:Int)(c:gP):∀G:List bh,flw x (Wv c G)=(G.map λg=>c g*eu).sum
 | []=>rfl
 | g::G=>by
  show flw x (repA (c g) g++Wv c G)=_;rw[q35,qgF,q9s x c G,zU,zf]
theorem q9i(c:gP):∀G:List bh,(∀g∈G,g.1<g.2)->((Wv c G).map λa=>WJ a.1 a.2).sum=(G.map λg=>pH*W8 (c g)).sum
 | [],_=>rfl
 | g::G,h=>by
  show ((repA (c g) g++Wv c G).map λa=>WJ a.1 a.2).sum=_;rw[zW,xU,qge (h g zE),q9i c G λx hx=>h x jj,zU,zf]
theorem qg7{c:gP}{G:ae}{g:bh}(hg:g∈G)(hc:c g≠0):OQ∈Wv c G\/OP∈Wv c G:=by
 unfold Wv repA;rcases Int.lt_or_gt_of_ne hc with z|z
 ·refine .inr (xL.mpr ⟨g,hg,zT _ Ph⟩)
 ·refine .inl (xL.mpr ⟨g,hg,zX _ Ph⟩)
theorem qkt{c:gP}{G:ae}{a:bh}(h:a∈Wv c G):∃g∈G,a=OQ\/a=OP:=by
 obtain⟨g,hg,h⟩:=xL.mp h;rcases zJ.mp h with h|h
 ·exact⟨g,hg,.inl (wO.mp h).2⟩
 ·exact⟨g,hg,.inr (wO.mp h).2⟩
noncomputable def twoA(F:ae):List bh:=F.flatMap λe=>Cd
theorem qaD(x:Int):∀F:List bh,flw x (twoA F)=0
 | []=>rfl
 | e::F=>by
  show flw x (Cd++twoA F)=0;rw[q35,qaD x F,q3p,q3p];unfold flw;simp only[yz,YV];omega
theorem qaw:∀F:List bh,(∀g∈F,g.1<g.2)->((twoA F).map λa=>WJ a.1 a.2).sum=2*(F.map λg=>g.2-g.1).sum
 | [],_=>rfl
 | e::F,h=>by
  show ((Cd++twoA F).map λa=>WJ a.1 a.2).sum=_;have:=h e zE;rw[zW,xU,qaw F λx hx=>h x jj,zU,zf];unfold WJ;simp only[zU,yz,zf,YV];rw[ik,kb];omega
noncomputable def bI(b:Bool):Int:=if b=true then 1 else 0
theorem q8K(φ:bX):∀(r:af)(k:Int),((XF T7).map λg=>φ g.2-φ g.1).sum=φ ((k::r).getLast (wd _ _))-φ k
 | [],k=>by show DC=φ k-φ k;omega
 | k1::r,k=>by
  rw[q0Z,zU,zf,q8K φ r k1,YW (wd k1 r)];simp only;omega
noncomputable def clp(p q y:Int):Int:=if y<=p then p else if q<=y then q else y
theorem q8z{k:Int}{r:af}(h:(k::r).Pairwise (· < ·)):∀p∈k::r,k<=p/\p<=(k::r).getLast (wd _ _):=by
 induction r generalizing k with
 | nil=>intro p hp;cases zR.mp hp;exact⟨zi _,zi _⟩
 | cons k1 r ih=>
  obtain⟨h1,h2⟩:=zQ.mp h;have:=h1 k1 zE;intro p hp;rw[YW (wd k1 r)];rcases zF.mp hp with rfl|hp
  ·exact⟨zi _,by have:=(ih h2 k1 zE).2;omega⟩
  ·exact⟨by have:=(ih h2 p hp).1;omega,(ih h2 p hp).2⟩
theorem qem{P:af}{p q:Int}(hP:P.Pairwise (· < ·))(hp:p∈P)(hq:q∈P)(h:p<=q)(G:∀g∈XF P,g.1<g.2/\KZ/\KY):((XF P).map λg=>pH*nQ).sum=q-p:=by
 have e:∀g∈XF P,pH*nQ=clp p q g.2-clp p q g.1:=λg hg=>by
  obtain⟨g0,g1,g2⟩:=G g hg;have o2:bI Pr=0:=by
   unfold bI over;rw[vJ];rw[yN,decide_eq_true_eq,decide_eq_true_eq];omega
  rw[o2,YT]
  by_cases z:p<=g.1/\g.2<=q
  ·have o1:bI IK=1:=by
    unfold bI over;rw[vH];rw[yN,decide_eq_true_eq,decide_eq_true_eq];exact z
   rw[o1,Yg];unfold clp
   split <;> split <;> (try split) <;> (try split) <;> omega
  ·have o1:bI IK=0:=by
    unfold bI over;rw[vJ];rw[yN,decide_eq_true_eq,decide_eq_true_eq];exact z
   rw[o1,wF];unfold clp
   split <;> split <;> (try split) <;> (try split) <;> omega
 rw[yJ e];cases P with
 | nil=>cases hp
 | cons k r=>
  have e1:=q8z hP p hp;have e2:=q8z hP q hq;rw[q8K (clp p q) r k];unfold clp
  split <;> split <;> (try split) <;> (try split) <;> omega
theorem qir{P:af}{p q:Int}(hP:P.Pairwise (· < ·))(hp:p∈P)(hq:q∈P)(G:∀g∈XF P,g.1<g.2/\KZ/\KY):((XF P).map λg=>pH*nQ).sum=WJ p q:=by
 unfold WJ;rcases Int.le_total p q with z|z
 ·rw[qem hP hp hq z G,ik]
 ·have:=qem hP hq hp z λg hg=>⟨(G g hg).1,(G g hg).2.2,(G g hg).2.1⟩
  rw[yJ (g:=λg=>pH*(bI Pr+bI IK)) λg _=>by rw[Int.add_comm (bI _)],this]
  split <;> omega
theorem q4W{α:Type}(f f':kM):∀xs:List α,(xs.map λx=>f x+f' x).sum=(xs.map f).sum+(xs.map f').sum
 | []=>rfl
 | x::xs=>by rw[zU,zU,zU,zf,zf,zf,q4W f f' xs];omega
theorem qa4(b:bh)(bs:ae)(g:bh):rts (b::bs) g=bI (over b.1 b.2 g)+rts bs g/\lfs (b::bs) g=bI (over b.2 b.1 g)+lfs bs g:=by
 unfold rts lfs bI;rw[yQ,yQ]
 constructor
 ·split <;> simp <;> omega
 ·split <;> simp <;> omega
theorem q8m{P:af}{h l:Int}(hP:P.Pairwise (· < ·)):∀bs:List bh,(∀b∈bs,b.1∈P/\b.2∈P)->(∀g∈XF P,Gap h l bs g)->(bs.map λb=>WJ b.1 b.2).sum=((XF P).map λg=>pH*(rts bs g+lfs bs g)).sum
 | [],_,_=>by
  have:∀g∈XF P,pH*(rts [] g+lfs [] g)=0:=λg _=>wF _;rw[yJ this];show DC=_;clear this
  induction XF P with
  | nil=>rfl
  | cons g gs ih=>rw[zU,zf,<- ih];rfl
 | b::bs,m,G=>by
  have ih:=q8m hP bs (λx hx=>m x jj) λg hg=>⟨(G g hg).lt,(G g hg).h,(G g hg).l,λx hx=>(G g hg).b x jj⟩;have w:=qir hP (m b zE).1 (m b zE).2 λg hg=>⟨(G g hg).lt,(G g hg).b b zE⟩;rw[zU,zf,ih,<- w,<- q4W]
  congr 1
  refine yJ λg _=>?_;rw[(qa4 b bs g).1,(qa4 b bs g).2,<- wP]
  congr 1;omega
theorem Cls.least{ts:af}{es:ae}{g:af}{a:Int}(c:PU):∀x∈g,a<=x:=λx hx=>by
 have hh:=c.hd;have up:=c.up;cases g with
 | nil=>cases hx
 | cons b r=>
  cases hh;rcases zF.mp hx with rfl|y
  ·exact zi _
  ·exact yh ((zQ.mp up).1 x y)
theorem GS.heads{ts:af}{es:ae}{gs:cn}{hs:af}(h:ph)(all:∀t∈ts,∃g∈gs,t∈g)(a:Int):a∈hs↔(a∈ts/\∀c,Rch es a c->a<=c):=by
 constructor
 ·intro ha
  obtain⟨j,hj,rfl⟩:=zh.mp ha;have hj2:j<gs.length:=by rw[h.len];exact hj
  have cl:=h.cls j _ _ (zD hj2) KM;exact⟨cl.inn,λc r=>cl.least c ((cl.mem c).mpr r)⟩
 ·rintro⟨h1,h2⟩
  obtain⟨g,hg,hag⟩:=all a h1;obtain⟨b,hb,cl⟩:=h.one hg;have l1:=cl.least a hag;have r:=(cl.mem a).mp hag;have l2:=h2 b r.symm;have:a=b:=∅
  rw[this];exact hb
theorem Rch.mono{es fs:ae}{a c:Int}(h:∀e∈es,e∈fs)(r:abQ):Rch fs a c:=by
 induction r with
 | refl=>exact .refl
 | step _ e ih=>exact ih.step (e.elim (λz=>.inl (h _ z)) λz=>.inr (h _ z))
noncomputable def X8(f:bX)(a b:Int):Int->Int:=λx=>if f x=b then a else f x
def Tells(ts:af)(es:ae)(f:bX):Prop:=∀x∈ts,∀y∈ts,f x=f y↔Rch es x y
theorem Tells.skip{ts:af}{es:ae}{f:bX}(h:Ie){p q:Int}(hp:p∈ts)(hq:q∈ts)(e:f p=f q):Tells ts GN f:=by
 intro x hx y hy;rw[h x hx y hy];have pq:=(h p hp q hq).mp e;refine⟨λr=>r.mono λe he=>zX _ he,λr=>?_⟩;refine Rch.inv (λz=>Rch es x z) .refl Tq r;have key:∀{u v:Int},(u,v)∈es++[(p,q)]->Rch es u v:=λ{u v} m=>by
  rcases zJ.mp m with m|m
  ·exact Rch.refl.step (.inl m)
  ·cases zR.mp m;exact pq
 rcases hbc with m|m
 ·exact hb.trans (key m)
 ·exact hb.trans (key m).symm
theorem Tells.join{ts:af}{es:ae}{f:bX}(h:Ie)(inn:∀e∈es,e.1∈ts/\e.2∈ts){p q:Int}(hp:p∈ts)(hq:q∈ts):Tells ts GN Us:=by
 intro x hx y hy;have up:∀{u v:Int},Rch es u v->Rch GN u v:=λr=>r.mono λe he=>zX _ he;have pq:Rch GN p q:=Rch.refl.step (.inl (by simp))
 constructor
 ·intro e
  unfold X8 at e
  by_cases h1:f x=f q
  ·rw[OI]at e
   by_cases h2:f y=f q
   ·exact up ((h x hx y hy).mp (by rw[h1,h2]))
   ·rw[vJ h2]at e
    exact((up ((h x hx q hq).mp h1)).trans pq.symm).trans (up ((h p hp y hy).mp e))
  ·rw[vJ h1]at e
   by_cases h2:f y=f q
   ·rw[vH h2]at e
    exact((up ((h x hx p hp).mp e)).trans pq).trans (up ((h q hq y hy).mp h2.symm))
   ·rw[vJ h2]at e
    exact up ((h x hx y hy).mp e)
 ·intro r
  have key:∀{u v:Int},(u,v)∈es++[(p,q)]->u∈ts/\v∈ts/\X8 f (f p) (f q) u=X8 f (f p) (f q) v:=λ{u v} m=>by
   rcases zJ.mp m with m|m
   ·obtain⟨a,b⟩:=inn _ m
    have e:=(h u a v b).mpr (Rch.refl.step (.inl m));exact⟨a,b,by unfold X8;rw[e]⟩
   ·cases zR.mp m
    refine⟨hp,hq,?_⟩;unfold X8;rw[kT]
    by_cases z:f p=f q
    ·rw[gz]
    ·rw[gc]
  exact(Rch.inv (λz=>z∈ts/\X8 f (f p) (f q) x=X8 f (f p) (f q) z) ⟨hx,rfl⟩ (λb c hb hbc=>by
   rcases hbc with m|m
   ·obtain⟨a1,a2,a3⟩:=key m;exact⟨a2,hb.2.trans a3⟩
   ·obtain⟨a1,a2,a3⟩:=key m;exact⟨a1,hb.2.trans a3.symm⟩) r).2
noncomputable def zDB(f:bX)(ts:af)(a:Int):Bool:=ts.all λc=>f c != f a || decide (a<=c)
noncomputable def many(f:bX)(ts:af):Nat:=(ts.filter (zDB f ts)).length
theorem q2k{f:bX}{ts:af}{a:Int}:zDB f ts a=true↔∀c∈ts,f c=f a->a<=c:=by
 unfold zDB;rw[yo]
 constructor
 ·intro h c hc e
  have:=h c hc;simp[e]at this;exact this
 ·intro h c hc
  by_cases e:f c=f a
  ·simp[h c hc e]
  ·simp[e]
theorem q4k{l m:af}(h1:l.Nodup)(h2:m.Nodup)(h:∀c,c∈l↔c∈m):l.length=m.length :=
 Nat.le_antisymm (q1e h1 λc hc=>(h c).mp hc) (q1e h2 λc hc=>(h c).mpr hc)
theorem qai{l:af}(h:l.Pairwise (· < ·)):l.Nodup:=h.imp λa b=>∅
theorem GS.many{ts:af}{es:ae}{gs:cn}{hs:af}(ok:Kz)(h:ph)(all:∀t∈ts,∃g∈gs,t∈g){f:bX}(t:Ie):gs.length=Kx.many f ts:=by
 rw[h.len];refine q4k (qai h.up) (ok.nd.filter _) λa=>?_;rw[h.heads all,yB,q2k];refine and_congr_right λha=>?_
 constructor
 ·intro k c hc e
  exact k c ((t a ha c hc).mp e.symm)
 ·intro k c r
  have hc:=r.mem ok ha;exact k c hc ((t a ha c hc).mpr r).symm
theorem qaz{ts:af}(P:Int->Prop)[DecidablePred P]{p:Int}(hp:p∈ts)(h:P p):∃a∈ts,P a/\∀c∈ts,P c->a<=c:=by
 induction ts with
 | nil=>cases hp
 | cons t r ih=>
  by_cases z:∃x∈r,P x
  ·obtain⟨x,hx,px⟩:=z
   have ih':∃a∈r,P a/\∀c∈r,P c->a<=c:=by
    clear ih hp
    induction r generalizing x with
    | nil=>cases hx
    | cons u r ih2=>
     by_cases y:∃w∈r,P w
     ·obtain⟨w,hw,pw⟩:=y
      obtain⟨a,a1,a2,a3⟩:=ih2 w hw pw
      by_cases pu:P u
      ·by_cases l:u<=a
       ·exact⟨u,zE,pu,λc hc pc=>(zF.mp hc).elim (λe=>by rw[e];exact zi _) λhc=>yg l (a3 c hc pc)⟩
       ·exact⟨a,zH _ a1,a2,λc hc pc=>(zF.mp hc).elim (λe=>by rw[e];omega) λhc=>a3 c hc pc⟩
      ·exact⟨a,zH _ a1,a2,λc hc pc=>(zF.mp hc).elim (λe=>vP (e▸pc) pu) λhc=>a3 c hc pc⟩
     ·have pu:P u:=(zF.mp hx).elim (λe=>e▸px) λhx=>vP ⟨x,hx,px⟩ y
      exact⟨u,zE,pu,λc hc pc=>(zF.mp hc).elim (λe=>by rw[e];exact zi _) λhc=>vP ⟨c,hc,pc⟩ y⟩
   obtain⟨a,a1,a2,a3⟩:=ih'
   by_cases pt:P t
   ·by_cases l:t<=a
    ·exact⟨t,zE,pt,λc hc pc=>(zF.mp hc).elim (λe=>by rw[e];exact zi _) λhc=>yg l (a3 c hc pc)⟩
    ·exact⟨a,zH _ a1,a2,λc hc pc=>(zF.mp hc).elim (λe=>by rw[e];omega) λhc=>a3 c hc pc⟩
   ·exact⟨a,zH _ a1,a2,λc hc pc=>(zF.mp hc).elim (λe=>vP (e▸pc) pt) λhc=>a3 c hc pc⟩
  ·have pt:P t:=(zF.mp hp).elim (λe=>e▸h) λhx=>vP ⟨p,hx,h⟩ z
   exact⟨t,zE,pt,λc hc pc=>(zF.mp hc).elim (λe=>by rw[e];exact zi _) λhc=>vP ⟨c,hc,pc⟩ z⟩
theorem qb5{l:af}(hn:l.Nodup){P Q:Int->Bool}{m:Int}(hm:m∈l)(pm:P m=true)(h:∀c∈l,Q c=(P c&&c != m)):(l.filter Q).length+1=(l.filter P).length:=by
 induction l with
 | nil=>cases hm
 | cons a r ih=>
  obtain⟨n1,n2⟩:=yj.mp hn;rw[yQ,yQ,h a zE]
  by_cases e:a=m
  ·subst e
   have:r.filter Q=r.filter P:=ZO λc hc=>by
    rw[h c aam];have:(c != a)=true:=by simp;intro z;exact n1 (z▸hc)
    rw[this,wm]
   simp[pm,this]
  ·have hm':m∈r:=(zF.mp hm).elim Tl id
   have ih':=ih n2 hm' λc hc=>h c aam;have e':(a != m)=true:=by simpa using e
   rw[e',wm];cases P a with
   | true=>simp;omega
   | false=>simpa using ih'
theorem qeC{ts:af}{f:bX}(hn:ts.Nodup){p q:Int}(hp:p∈ts)(hq:q∈ts)(ne:f p≠f q):many Us ts+1=many f ts:=by
 obtain⟨a,a1,a2,a3⟩:=qaz (λc=>f c=f p) hp rfl;obtain⟨b,b1,b2,b3⟩:=qaz (λc=>f c=f q) hq rfl;have ab:a≠b:=λz=>ne (by rw[<- a2,<- b2,z]);have hmax:max a b=a\/max a b=b:=∅
 have la:zDB f ts a=true:=q2k.mpr λc hc e=>a3 c hc (by rw[e,a2]);have lb:zDB f ts b=true:=q2k.mpr λc hc e=>b3 c hc (by rw[e,b2]);refine qb5 hn (m:=max a b) (hmax.elim (λz=>by rw[z];exact a1) λz=>by rw[z];exact b1) (hmax.elim (λz=>by rw[z];exact la) λz=>by rw[z];exact lb) λc hc=>?_;rw[Bool.eq_iff_iff,yN,q2k,q2k,bne_iff_ne];have jf:∀x,X8 f (f p) (f q) x=if f x=f q then f p else f x:=λ_=>rfl
 constructor
 ·intro h
  refine⟨λd hd e=>h d hd (by rw[jf,jf,e]),HP⟩;rcases hmax with y|y
  ·have:=h b b1 (by rw[jf,jf,vH b2,z,y,a2,vJ ne])
   omega
  ·have:=h a a1 (by rw[jf,jf,a2,vJ ne,z,y,vH b2])
   omega
 ·rintro⟨h1,h2⟩ d hd e
  rw[jf,jf]at e
  by_cases y1:f d=f q
  ·rw[vH y1]at e
   by_cases y2:f c=f q
   ·exact h1 d hd (by rw[y1,y2])
   ·rw[vJ y2]at e
    have c1:=h1 a a1 (by rw[a2,e]);have c2:=a3 c hc e.symm;have c3:=b3 d hd y1;omega
  ·rw[vJ y1]at e
   by_cases y2:f c=f q
   ·rw[vH y2]at e
    have c1:=h1 b b1 (by rw[b2,y2]);have c2:=b3 c hc y2;have c3:=a3 d hd e;omega
   ·rw[vJ y2]at e
    exact h1 d hd e
noncomputable abbrev Eg:=Int×Int×Int
noncomputable def WO(e:Eg):Int×Int:=(e.1,e.2.1)
noncomputable def XZ(e:Eg):Int:=e.2.2
noncomputable def zAs(s:bX×List Eg)(e:Eg):bX×List Eg:=if s.1 e.1=s.1 e.2.1 then s else (X8 s.1 (s.1 e.1) (s.1 e.2.1),s.2++[e])
noncomputable def Xu(f:bX)(es:dY):bX×List Eg:=es.foldl zAs (f,[])
theorem q2z(f:bX)(es:dY)(e:Eg):Xu f (es++[e])=zAs (Xu f es) e:=by unfold Xu;rw[ZN];rfl
theorem q1s{α:Type}{P:List α->Prop}(h0:P [])(hs:∀l a,P l->P (l++[a]))(l:bE):P l:=by
 have:∀l:List α,P l.reverse:=λl=>by
  induction l with
  | nil=>exact h0
  | cons a r ih=>rw[ZK];exact hs _ _ ih
 have:=this l.reverse
 rwa [xO]at this
theorem q7s{ts:af}{kn:ae}{f:bX}(hn:ts.Nodup)(h:Id)(inn:∀e∈kn,e.1∈ts/\e.2∈ts)(es:dY):(∀e∈es,e.1∈ts/\e.2.1∈ts)->Tells ts K0 (Xu f es).1/\many (Xu f es).1 ts+(Xu f es).2.length=many f ts:=by
 refine q1s (P:=λes=>(∀e∈es,e.1∈ts/\e.2.1∈ts)->Tells ts K0 (Xu f es).1/\many (Xu f es).1 ts+(Xu f es).2.length=many f ts) (λ_=>⟨by rw[yz,zk];exact h,rfl⟩) UU es;obtain⟨h1,h2⟩:=ih λx hx=>he x (zX _ hx);obtain⟨p1,p2⟩:=he e (by simp);have inn':∀x∈kn++l.map WO,x.1∈ts/\x.2∈ts:=λx hx=>by
  rcases zJ.mp hx with m|m
  ·exact inn x m
  ·obtain⟨y,hy,rfl⟩:=zz.mp m
   exact he y (zX _ hy)
 rw[q2z,zW,<- zO];unfold zAs
 by_cases z:(Xu f l).1 e.1=(Xu f l).1 e.2.1
 ·rw[gz]
  exact⟨h1.skip p1 p2 z,h2⟩
 ·rw[gc]
  refine⟨h1.join inn' p1 p2,?_⟩;have:=qeC hn p1 p2 z;show many (X8 _ _ _) ts+((Xu f l).2++[e]).length=_;rw[zC,zY];omega
theorem qgk(f:bX)(as bs:dY):∃r,(Xu f (as++bs)).2=(Xu f as).2++r/\∀e∈r,e∈bs:=by
 refine q1s (P:=λbs=>∃r,(Xu f (as++bs)).2=(Xu f as).2++r/\∀e∈r,e∈bs) ⟨[],by simp⟩ (λl e ⟨r,h1,h2⟩=>?_) bs;rw[<- zO,q2z];unfold zAs
 by_cases z:(Xu f (as++l)).1 e.1=(Xu f (as++l)).1 e.2.1
 ·rw[gz]
  exact⟨r,h1,λx hx=>zX _ (h2 x hx)⟩
 ·rw[gc]
  refine⟨r++[e],by show (Xu f (as++l)).2++[e]=_;rw[h1,zO],λx hx=>?_⟩;rcases zJ.mp hx with m|m
  ·exact zX _ (h2 x m)
  ·exact zT _ m
theorem q3l(f:bX)(es:dY):(Xu f es).2.Sublist es:=by
 refine q1s (P:=λes=>(Xu f es).2.Sublist es) (YX _) (λl e ih=>?_) es;rw[q2z];unfold zAs
 split
 ·exact ih.trans (List.sublist_append_left _ _)
 ·exact ih.append (YX _)
noncomputable def egD(e:Eg):D:=.tup N8
theorem q4C(e:Eg):q0q [egD e]=↥(.int (XZ e)):=rfl
theorem qeE(e:Eg):zBg q0q (egD e)=XZ e:=by unfold zBg;rw[q4C]
theorem qdf(e:Eg):keyOk q0q (egD e)=true:=by unfold keyOk;rw[q4C]
theorem qfg(es:dY):Xb (zBg q0q) (es.map egD)=(Xb XZ es).map egD:=by
 rw[q2A,q47 λx _=>qeE x]
noncomputable def zAa(f:bX)(ks:af):List D:=ks.map λk=>.int (f k)
theorem q4v{f:bX}:∀{ks:af}{x:Int},x∈ks->Xg ks LY x=some (.int (f x))
 | [],_,h=>by cases h
 | k::ks,x,h=>by
  by_cases e:k=x
  ·subst e
   show (if k=k then some (D.int (f k))else Xg ks LY k)=_;rw[kT]
  ·show (if k=x then some (D.int (f k))else Xg ks LY x)=_
   rw[vJ e];exact q4v ((zF.mp h).elim Tl id)
theorem qjj{f:bX}{ks:af}{a b:Int}(hn:ks.Nodup)(hl:ks.length<1000):qV [mw,bJ,dI]=↥(.dic ks (zAa Hz ks)):=by
 unfold qV q1j;obtain⟨ω',e,x4,rfl⟩:=qK (g:=gN 4) (b:=q18) D.int ks
  (λpre ω=>∃x4:Option W,ω=[↥mw,↥bJ,↥dI,some (.od pre (zAa Hz pre)),x4])
  (λpre k post ω hd ⟨x4,hω⟩=>by
   subst hω;refine ck;have hk:k∈ks:=by rw[hd];simp
   have hnk:k∉pre:=λz=>by
    rw[hd]at hn;exact(ym.mp hn).2.2 k z k (by simp) rfl
   have hp:pre.length<ks.length:=by rw[hd,zC,zI];omega
   have hv:=q4v (f:=f) hk;have hds:pre.length<1000000:=∅
   obtain⟨p1,p2⟩:=qcw (xs:=zAa Hz pre) (D.int (X8 f a b k)) hnk;have ev:zAa Hz (pre++[k])=zAa Hz pre++[.int (X8 f a b k)]:=by unfold zAa;rw[zW];rfl
   unfold q18
   by_cases z:f k=b
   ·have z':(f k==b)=true:=by simpa using z
    have jk:X8 f a b k=a:=vH z;rw[jk]at p2 ev;simp_arith[hv,z',q4i hds,p1,p2];exact⟨_,by rw[ev]⟩
   ·have z':(f k==b)=false:=by simpa using z
    have jk:X8 f a b k=f k:=vJ z;rw[jk]at p2 ev;simp_arith[hv,z',q4i hds,p1,p2];exact⟨_,by rw[ev]⟩)
  (ω:=[↥mw,↥bJ,↥dI,oM,none]) Fo
 simp_arith[e]
noncomputable def zBD(ks:af)(vs:aZ)(x:Int):Int:=match Xg ks vs x with
 | some (.int i)=>i
 | _=>0
theorem qci:∀{ks:af}{vs:aZ},ks.Nodup->ks.length=vs.length->(∀v∈vs,∃i:Int,v=.int i)->vs=zAa (zBD ks vs) ks
 | [],[],_,_,_=>rfl
 | [],_::_,_,h,_=>by simp at h
 | _::_,[],_,h,_=>by simp at h
 | k::ks,v::vs,hn,hl,hv=>by
  obtain⟨n1,n2⟩:=yj.mp hn;obtain⟨i,rfl⟩:=hv v zE;have ih:=qci n2 ⇑hl λu hu=>hv u (zH _ hu);have e1:zBD Jn Jd k=i:=by
   unfold zBD;show (match (if k=k then some (D.int i)else Xg ks vs k)with|some (.int i)=>i|_=>0)=i;rw[kT]
  have e2:∀x∈ks,zBD Jn Jd x=zBD ks vs x:=λx hx=>by
   unfold zBD;have:Xg Jn (D.int i::vs) x=Xg ks vs x:=vJ (λz:k=x=>by subst z;exact n1 hx);rw[this]
  show D.int i::vs=D.int (zBD Jn Jd k)::ks.map _;rw[e1]
  congr 1
  have:ks.map (λk'=>D.int (zBD Jn Jd k'))=zAa (zBD ks vs) ks:=by
   unfold zAa;exact yJ λx hx=>by rw[e2 x hx]
  rw[this];exact ih
theorem qie:∀(ps:RU),∀v∈vvP ps,∃i:Int,v=.int i:=λps v hv=>by
 unfold vvP at hv;obtain⟨p,_,h⟩:=xL.mp hv;obtain⟨_,_,rfl⟩:=zz.mp h;exact bz
theorem qg1{ts:af}{kn:ae}(ok:Oh):∃(gs:cn) (ks:af) (f:bX),q1x [aO,fE]=some (.fr nO)/\qO [bQ]=↥mw/\ks.Nodup/\(∀x,x∈ks↔x∈ts)/\ks.length<64/\Tells ts kn f:=by
 obtain⟨gs,hs,g1,g2,g3,g4⟩:=q8f ok;have pf:=g2.flat ok g3;have nd:gs.flatten.Nodup:=pf.nodup_iff.mpr ok.nd;have fl:gs.flatten.length<64:=by rw[pf.length_eq];exact ok.l1
 have nm:=q7w nd fl;have kk:=q5Y 0 gs;have lv:=qci (ks:=kkP eW) (vs:=vvP eW) (by rw[kk];exact nd) (qf4 _) (qie _);refine⟨gs,kkP eW,zBD Fh Fe,g1,by rw[<- lv];exact nm,by rw[kk];exact nd,λx=>by rw[kk];exact pf.mem_iff,by rw[kk];exact fl,λx hx y hy=>?_⟩;obtain⟨gx,mx,hxg⟩:=g3 x hx;obtain⟨gy,my,hyg⟩:=g3 y hy;obtain⟨i,hi⟩:=xJ.mp mx;obtain⟨j,hj⟩:=xJ.mp my;have vx:=q5D (k:=0) nd hi hxg;have vy:=q5D (k:=0) nd hj hyg;have fx:zBD Fh Fe x=acf:=by unfold zBD;rw[vx]
 have fy:zBD Fh Fe y=((0+j:Nat):Int):=by unfold zBD;rw[vy]
 rw[fx,fy];obtain⟨a,_,cx⟩:=g2.one mx;obtain⟨b,_,cy⟩:=g2.one my
 constructor
 ·intro e
  have:i=j:=∅
  subst this;rw[hi]at hj;cases hj;exact((cx.mem x).mp hxg).symm.trans ((cx.mem y).mp hyg)
 ·intro r
  have:y∈gx:=(cx.mem y).mpr (((cx.mem x).mp hxg).trans r);have:=g2.apart hi hj this hyg;rw[this]
theorem qen{ts:af}{kn:ae}{es:dY}(ok:Oh)(he:∀e∈es,e.1∈ts/\e.2.1∈ts)(hl:DL):∃f:Int->Int,Tells ts kn f/\q04 abE=some LO:=by
 obtain⟨gs,ks,f,g1,g2,nd,mem,lk,tl⟩:=qg1 ok;refine⟨f,tl,?_⟩;unfold q04 q6Y;have sk:=qkT (m:=q0q) (ds:=es.map egD) (by rw[zA];exact hl) (λd hd=>by obtain⟨e,_,rfl⟩:=zz.mp hd;exact qdf e);rw[qfg]at sk;have pm:=q0h (f:=XZ) (l:=es);have hS:∀e∈Xb XZ es,e.1∈ts/\e.2.1∈ts:=λe h=>he e Vi;have lS:(Xb XZ es).length=es.length:=pm.length_eq;generalize Xb XZ es=S at sk hS lS;simp_arith[g1,g2,sk];obtain⟨ω',e,x5,x6,x7,rfl⟩:=qK (g:=gN 5) (b:=q5j) egD S
  (λpre ω=>∃(x5 x6 x7:cj),ω=[↥aO,↥fE,↥ie,↥(.dic ks (zAa (Xu f pre).1 ks)),some (.ow ((Xu f pre).2.map egD)),x5,x6,x7])
  (λpre e post ω hd ⟨x5,x6,x7,hω⟩=>by
   subst hω;refine ck;obtain⟨m1,m2⟩:=hS e (by rw[hd];simp);have v1:=q4v (f:=(Xu f pre).1) ((mem e.1).mpr m1);have v2:=q4v (f:=(Xu f pre).1) ((mem e.2.1).mpr m2);have lp:((Xu f pre).2.map egD).length<1000000:=by
    have:=(q3l f pre).length_le;have:pre.length<=S.length:=by rw[hd,zC];omega
    rw[zA];omega
   have tw:=qjj (f:=(Xu f pre).1) (a:=(Xu f pre).1 e.1) (b:=(Xu f pre).1 e.2.1) nd ∅;have ed:egD e=.tup N8:=rfl;unfold q5j;rw[q2z];unfold zAs
   by_cases z:(Xu f pre).1 e.1=(Xu f pre).1 e.2.1
   ·have z':E8=true:=by simpa using z
    rw[gz];simp_arith[ed,v1,v2,z'];exact rZ
   ·have z':E8=false:=by simpa using z
    rw[gc];simp_arith[ed,v1,v2,z',zBs lp,tw];exact⟨_,_,_,by rw[zW];rfl⟩)
  (ω:=[↥aO,↥fE,↥ie,↥mw,lL,none,none,none]) nc
 simp_arith[e]
theorem Tells.same{ts:af}{es es':ae}{f:bX}(h:Ie)(s:∀e,e∈es↔e∈es'):Tells ts es' f:=λx hx y hy=>(h x hx y hy).trans ⟨λr=>r.mono λe he=>(s e).mp he,λr=>r.mono λe he=>(s e).mpr he⟩
noncomputable def blw(b:Int)(e:Eg):Bool:=decide (XZ e<b)
theorem q76{b:Int}:∀{S:dY},S.Pairwise Sv->S.filter kE++S.filter (λe=>!blw b e)=S
 | [],_=>rfl
 | e::S,h=>by
  obtain⟨h1,h2⟩:=zQ.mp h;cases hq:blw b e with
  | true=>rw[yU hq,yV (by rw[hq];decide),ZY,q76 h2]
  | false=>
   have:∀x∈S,blw b x=false:=λx hx=>by have:=h1 x hx;unfold blw at hq ⊢;simp at hq ⊢;omega
   rw[yV (by rw[hq];decide),yU (by rw[hq];rfl),wT.mpr λx hx=>by rw[this x hx];decide,yX,xX.mpr λx hx=>by rw[this x hx];rfl]
theorem qaU{f:bX}{S:dY}{b:Int}(h:S.Pairwise Sv):(Xu f GQ).2=((Xu f S).2).filter kE:=by
 obtain⟨r,e,hr⟩:=qgk f GQ (S.filter λe=>!blw b e);rw[q76 h]at e;have e1:(Xu f GQ).2.filter kE=(Xu f GQ).2:=xX.mpr λx hx=>(yB.mp ((q3l f _).subset hx)).2;have e2:r.filter kE=[]:=wT.mpr λx hx=>by have:=(yB.mp (hr x hx)).2;simpa using this
 rw[e,wN,e1,e2,zk]
theorem qcr{ts:af}{kn:ae}(ok:Oh)(hk:FP){es:dY}(he:∀e∈es,e.1∈ts/\e.2.1∈ts)(hl:DL):Ok ts K0:=⟨ok.nd,λe h=>by
 rcases zJ.mp h with m|m
 ·exact ok.inn e m
 ·obtain⟨y,hy,rfl⟩:=zz.mp m
  exact he y hy,ok.l1,by rw[zC,zA];omega⟩
theorem qfW{kn:ae}{es:dY}(hk:FP)(hl:DL):WC fE (.lst (es.map λe=>XC (WO e)))=some (.fr ((kn++es.map WO).map XC)):=by
 rw[zW,yL];exact vH (by rw[zA,zA];omega)
theorem qfN{ts:af}{kn:ae}{es:dY}(ok:Oh)(hk:FP)(he:∀e∈es,e.1∈ts/\e.2.1∈ts)(hl:DL){f:bX}(tl:Id)(b:Int):∃gs:List af,q0y [aO,fE,ie,dI]=some (.fr nO)/\gs.length+((Xu f AK).2.filter kE).length=many f ts/\gs.length<64/\(∃hs,GS ts LA gs hs/\∀t∈ts,∃g∈gs,t∈g):=by
 unfold q0y q2p;have cm:=q4V (i:=0) (c:=q1Q) (f:=q1T) kE egD (λe=>XC (WO e)) es (ω:=[none,↥dI]) (λe _=>⟨by
   have c:=q4C e;unfold q1Q;simp_arith[c];rfl,λ_=>by
   unfold q1T egD;simp_arith[qY];rfl⟩)
 have hl2:(es.map egD).length<=1000000:=by rw[zA];omega
 have fl:(es.filter kE).length<=es.length:=yH _ _;have ad:=qfW (kn:=kn) (es:=es.filter kE) hk ∅;have he':∀e∈es.filter (blw b),e.1∈ts/\e.2.1∈ts:=λe h=>he e (yB.mp h).1;have ok':=qcr ok hk he' ∅;obtain⟨gs,hs,g1,g2,g3,g4⟩:=q8f ok';refine⟨gs,by simp_arith[OY,inW,Wi,cm,ad,g1],?_,by have:=ok.l1;omega,hs,g2,g3⟩;have pm:=q0h (f:=XZ) (l:=es);have kt:=q7s ok.nd tl ok.inn P6 (λe h=>he e (pm.mem_iff.mp (yB.mp h).1));have t2:Tells ts LA (Xu f P6).1:=kt.1.same λe=>by
  rw[zJ,zJ,((pm.filter kE).map WO).mem_iff]
 rw[GS.many ok' g2 g3 t2,<- qaU q4y];exact kt.2
theorem qeT{ts:af}{kn:ae}{es:dY}(ok:Oh)(hk:FP)(he:∀e∈es,e.1∈ts/\e.2.1∈ts)(hl:DL){f:bX}(tl:Id)(hf:q04 abE=some LO):
  ∃rows:List cO,q2j abE=some (.fr mh)/\rows.map (·.1)=Xe ((Xu f AK).2.map XZ)/\∀r∈rows,r.2.length+((Xu f AK).2.filter JU).length=many f ts/\r.2.length<64/\(∃hs,GS ts (kn++(es.filter JU).map WO) r.2 hs/\∀t∈ts,∃g∈r.2,t∈g):=by
 obtain⟨G,hG⟩:=Classical.axiomOfChoice (qfN ok hk he hl tl);have lS:(Xb XZ es).length=es.length:=q5i _ _;have lF:=(q3l f AK).length_le;generalize (Xu f AK).2=F at *;refine⟨(Xe nH).map λb=>(b,G b),?_,by rw[yL];exact List.map_id _,λr hr=>?_⟩
 ·unfold q2j q6q
  have cm:=qw (i:=0) (f:=q2B) egD (λe=>D.int (XZ e)) F (ω:=Eo) (λe _=>by
   have c:=q4C e;unfold q2B;simp_arith[c])
  have hl2:(F.map egD).length<=1000000:=by rw[zA];omega
  have ss:∀ω:WSt,(Xo 1 [] PM dz Xl q2B) ω=some (.fr Bc)->X7 AX ω=some (.fr ((Xe nH).map D.int)):=λω h=>by
   unfold X7 vOf;rw[h];show (intsOf Bc).bind _=_;rw[show Bc=(F.map XZ).map D.int by rw[yL];rfl,qR];exact vH (qaA (by rw[zA];omega))
  have c1:=ss [↥aO,↥fE,↥ie,none] (by simp_arith[hf,OY,inW,Wi,cm]);have cm2:=qw (i:=0) (f:=q5k) D.int (λb=>zAq (b,G b)) (Xe nH) (ω:=[none,↥aO,↥fE,↥ie]) (λb _=>by
   have c:=(hG b).1;unfold q5k;simp_arith[c];rfl)
  have hl3:((Xe nH).map D.int).length<=1000000:=by
   have:=q0D nH;rw[zA]at this ⊢;omega
  rw[yL];simp_arith[c1,We hl3,inW,Wi,cm2];rfl
 ·obtain⟨b,_,rfl⟩:=zz.mp hr
  exact(hG b).2
noncomputable def wghK(k a:Int):List cO->Int
 | []=>0
 | r::rs=>Po*(pA-k)+wghK k r.1 rs
noncomputable def ws(c:bX)(a:Int):List Int->Int
 | []=>0
 | b::C=>(b-a)*c b+ws c b C
theorem qhJ{k:Int}{c:bX}:∀{rows:AO}{a:Int},(∀r∈rows,pA-k=c r.1)->wghK k a rows=ws c a (rows.map (·.1))
 | [],_,_=>rfl
 | r::rs,a,h=>by
  show Po*(pA-k)+wghK k r.1 rs=Po*c r.1+ws c r.1 (rs.map (·.1));rw[h r zE,qhJ λx hx=>h x jj]
theorem qe5{c d:bX}:∀{C:af}{a:Int},ws acl a C=ws c a C-ws d a C
 | [],_=>rfl
 | b::C,a=>by
  show (b-a)*(c b-d b)+ws acl b C=Si-Sh;rw[qe5,Int.mul_sub];omega
theorem qel{c d:bX}:∀{C:af}{a:Int},ws acm a C=ws c a C+ws d a C
 | [],_=>rfl
 | b::C,a=>by
  show (b-a)*(c b+d b)+ws acm b C=Si+Sh;rw[qel,wP];omega
theorem q7Y{c:bX}:∀{C:af}{a:Int},(∀b∈C,c b=0)->ws c a C=0
 | [],_,_=>rfl
 | b::C,a,h=>by
  show (b-a)*c b+ws c b C=0;rw[h b zE,q7Y λx hx=>h x jj,wF];rfl
theorem q9q{d:Int}:∀{C:af}{a:Int},ws (λ_=>d) a C=((C.getLast?).getD a-a)*d
 | [],a=>by show DC=(a-a)*d;rw[Zg,Int.zero_mul]
 | b::C,a=>by
  show (b-a)*d+ws (λ_=>d) b C=_;rw[q9q,List.getLast?_cons,Option.getD_some,<- Int.add_mul]
  congr 1;omega
theorem qdF{c:Int}:∀{C:af}{a:Int},C.Pairwise (· < ·)->c∈C->ws (λb=>if b<=c then 1 else 0) a C=c-a
 | b::C,a,h,m=>by
  obtain⟨h1,h2⟩:=zQ.mp h;show (b-a)*(if b<=c then 1 else 0)+ws (λb=>if b<=c then 1 else 0) b C=_;rcases zF.mp m with rfl|m
  ·rw[vH (zi _),q7Y λx hx=>vJ (by have:=h1 x hx;omega)];omega
  ·have:=h1 c m
   rw[kb,qdF h2 m];omega
noncomputable def zC4(L:af)(b:Int):Int:=((L.filter λc=>decide (b<=c)).length:Int)
theorem qdJ{C:af}(h:C.Pairwise (· < ·)):∀{L:af},(∀c∈L,c∈C)->ws (zC4 L) 0 C=L.sum
 | [],_=>q7Y λ_ _=>rfl
 | c::L,m=>by
  have e:zC4 (c::L)=λb=>(if b<=c then 1 else 0)+zC4 L b:=by
   funext b
   unfold zC4
   by_cases z:b<=c
   ·rw[gz,yU ⇑z,zI];omega
   ·rw[gc,yV ⇑z];omega
  rw[e,qel,qdF h (m c zE),qdJ h λx hx=>m x jj,zf];omega
theorem qju(F:dY)(b:Int):(F.length:Int)-((F.filter kE).length:Int)=zC4 nH b:=by
 unfold zC4
 induction F with
 | nil=>rfl
 | cons e F ih=>
  rw[zU]
  by_cases z:XZ e<b
  ·rw[yU (show blw b e=true by unfold blw;simpa using z),yV (by simp;omega),zI,zI,<- ih];omega
  ·rw[yV (show ¬blw b e=true by unfold blw;simpa using z),yU (by simp;omega),zI,zI]
   omega
theorem qef{rows:AO}{F:dY}{N n:Nat}{d:Int}(h1:rows.map (·.1)=Xe nH)(h2:∀r∈rows,r.2.length+(F.filter JU).length=N)(h3:n+F.length=N):wghK (cB+d) 0 rows=(F.map XZ).sum-((rows.map (·.1)).getLast?.getD 0)*d:=by
 rw[qhJ (c:=λb=>zC4 nH b-d) (λr hr=>by
  have:=h2 r hr;rw[<- qju];omega),h1,qe5,qdJ qS (λc hc=>q0T.mpr hc),q9q,Int.sub_zero]
theorem qdl{ts:af}{kn:ae}{f:bX}(h:Id)(inn:∀e∈kn,e.1∈ts/\e.2∈ts)(es:dY):(∀e∈es,e.1∈ts/\e.2.1∈ts)->Tells ts NV (Xu f es).1:=by
 refine q1s (P:=λes=>(∀e∈es,e.1∈ts/\e.2.1∈ts)->Tells ts NV (Xu f es).1) (λ_=>by show Tells ts (kn++[]) f;rw[zk];exact h) UU es;have h1:=ih λx hx=>he x (zX _ hx);obtain⟨p1,p2⟩:=he e (by simp);rw[q2z];unfold zAs
 by_cases z:(Xu f l).1 e.1=(Xu f l).1 e.2.1
 ·rw[gz];exact h1
 ·rw[gc]
  show Tells ts (kn++((Xu f l).2++[e]).map WO) _;rw[zW,<- zO];exact h1.join (λx hx=>by
   rcases zJ.mp hx with m|m
   ·exact inn x m
   ·obtain⟨y,hy,rfl⟩:=zz.mp m
    exact he y (zX _ ((q3l f l).subset hy))) p1 p2
theorem q6d:∀(r:af)(k:Int),∀p∈k::r,Rch (XF T7) k p
 | [],k,p,hp=>by cases zR.mp hp;exact .refl
 | k1::r,k,p,hp=>by
  rcases zF.mp hp with rfl|hp
  ·exact .refl
  ·rw[q0Z]
   exact(Rch.refl.step (.inl zE)).trans ((q6d r k1 p hp).mono λe he=>zH _ he)
noncomputable def egO(q:bh):Eg:=(q.1,q.2,q.2-q.1)
theorem qjg(G:ae):(G.map egO).map WO=G:=by rw[yL];exact List.map_id _
theorem qgo{ts:af}{f:bX}(hn:ts.Nodup)(hne:ts≠[])(h:∀x∈ts,∀y∈ts,f x=f y):many f ts=1:=by
 obtain⟨t,ht⟩:=List.exists_mem_of_ne_nil _ hne;obtain⟨a,a1,_,a3⟩:=qaz (λ_=>True) ht trivial;show (ts.filter (zDB f ts)).length=[a].length;refine q4k (hn.filter _) (by simp) λc=>?_;rw[yB,q2k,zR]
 constructor
 ·rintro⟨h1,h2⟩
  have:=h2 a a1 (h a a1 c h1);have:=a3 c h1 trivial;omega
 ·rintro rfl
  exact⟨a1,λc hc _=>a3 c hc trivial⟩
theorem qeh:∀{rows:AO}{a:Int},(rows.map (·.1)).Pairwise (· < ·)->(∀c∈rows.map (·.1),a<c)->zCi a rows
 | [],_,_,_=>trivial
 | r::rows,a,h,h2=>by
  rw[zU]at h h2;exact⟨h2 _ zE,qeh (zQ.mp h).2 (zQ.mp h).1⟩
theorem qht:∀(rows:AO)(a:Int),wgh a rows=wghK 1 a rows
 | [],_=>rfl
 | r::rs,a=>by show Po*(pA-1)+wgh r.1 rs=_;rw[qht];rfl
theorem q9U{l m:af}(h:l.Perm m):l.sum=m.sum:=by
 induction h with
 | nil=>rfl
 | cons x _ ih=>rw[zf,zf,ih]
 | swap x y l=>rw[zf,zf,zf,zf];omega
 | trans _ _ h1 h2=>rw[h1,h2]
theorem qeH{α:Type}(d:α):∀bs:List α,(zo bs.length).map Tn=bs:=λbs=>by
 apply Ye
 ·rw[zA,zx]
 ·intro i h1 h2
  rw[wE,YF,zV,zD h2];rfl
theorem q4X:∀{P:af},P.Pairwise (· < ·)->(XF P).Nodup
 | [],_=>xi
 | [_],_=>xi
 | a::b::r,h=>by
  show ((a,b)::XF (b::r)).Nodup;have hr:=zQ.mp h;refine yj.mpr ⟨λm=>?_,q4X hr.2⟩;have:=hr.1 a (q0s m).1;omega
structure FoA (h l:Int) (bs:List (Int×Int)) (F:List Eg):Prop where
 fo:q04 [.lst ((Pz h l bs).map D.int),.lst ((Kn h l bs).map XC),.lst (((XF (Pz h l bs)).map egO).map egD)]=some (.fr (F.map egD))
 fs:∀e∈F,∃g∈XF (Pz h l bs),e=egO g
 nd:F.Nodup
 len:F.length<=62
 con:∀x∈Pz h l bs,∀y∈Pz h l bs,Rch (Kn h l bs++F.map WO) x y
theorem qhp(h l:Int)(bs:ae):Pz h l bs≠[]:=λz=>by
 have:h∈Pz h l bs:=(qI h).mpr bu;rw[z]at this;cases this
theorem qg9{P:af}:∀p∈P,∀q∈P,Rch (XF P) p q:=by
 cases P with
 | nil=>intro p hp;cases hp
 | cons k r=>exact λp hp q hq=>(q6d r k p hp).symm.trans (q6d r k q hq)
theorem ql4{h l:Int}{bs:ae}(hb:bB):∃F,FoA h l bs F/\q4m cN=↥(.int (((XF aG).map IR).sum+2*(F.map XZ).sum)):=by
 have hP:=q2b h l bs;have hl:=q5b (h:=h) (l:=l) hb;have hG:=q4g (h:=h) (l:=l) hb;have gl:=q0B aG;have fl:=yH (λq=>! fW) BI;have kl:(Kn h l bs).length<=900:=by unfold Kn;rw[zC,zC,zY];omega
 have ok:Ok aG EZ:=⟨qai hP,λe he=>qkP he,hl,∅⟩;have he:∀e∈(XF (Pz h l bs)).map egO,e.1∈Pz h l bs/\e.2.1∈Pz h l bs:=λe he=>by
  obtain⟨g,hg,rfl⟩:=zz.mp he;exact q0s hg
 have el:((XF aG).map egO).length<64:=by rw[zA];omega
 obtain⟨f,tl,hf⟩:=qen ok he el;obtain⟨rows,r1,r2,r3⟩:=qeT ok kl he el tl hf;have pm:=q0h (f:=XZ) (l:=(XF aG).map egO);have heS:∀e∈Xb XZ ((XF (Pz h l bs)).map egO),e.1∈Pz h l bs/\e.2.1∈Pz h l bs:=λe h=>he e Vi;have kt:=q7s ok.nd tl ok.inn _ heS;have k2:=qdl tl ok.inn _ heS;have one:∀x∈Pz h l bs,∀y∈Pz h l bs,(Xu f MJ).1 x=(Xu f MJ).1 y:=λx hx y hy=>by
  refine(kt.1 x hx y hy).mpr ((qg9 x hx y hy).mono λe he=>?_);refine zT _ ((pm.map WO).mem_iff.mpr ?_);rw[qjg];exact he
 have sub:=q3l f MJ;have lF:=sub.length_le;have lS:(Xb XZ lU).length=(XF aG).length:=by rw[q5i,zA]
 have n1:=kt.2;rw[qgo ok.nd (qhp h l bs) one]at n1;have con:=λx hx y hy=>(k2 x hx y hy).mp (one x hx y hy);generalize (Xu f MJ).2=F at sub lF con n1 hf r2 r3;have fs:∀e∈F,∃g∈XF (Pz h l bs),e=egO g:=λe he=>by
  obtain⟨g,hg,e1⟩:=zz.mp (pm.mem_iff.mp (sub.subset he));exact⟨g,hg,e1.symm⟩
 have ws:=qef (d:=0) r2 (λr hr=>(r3 r hr).1) n1;rw[wF,Int.sub_zero,show ((1:Nat):Int)+0=1 from rfl,<- qht]at ws;have ris:zCi 0 rows:=qeh (by rw[r2];exact qS) λc hc=>by
  rw[r2,q0T]at hc;obtain⟨e,he,rfl⟩:=zz.mp hc;obtain⟨g,hg,rfl⟩:=fs e he;have:=(hG g hg).lt;show 0<g.2-g.1;omega
 have L:∀r∈rows,Lev aG EZ r:=λr hr=>by
  obtain⟨hs,g2,g3⟩:=(r3 r hr).2.2;have ok':=qcr ok kl (es:=((XF aG).map egO).filter JU) (λe h=>he e (yB.mp h).1) (by have:=yH JU lU;omega);refine qk8 (t:=r.1) (gs:=r.2) ok' g2 g3 λe he=>?_;rcases zJ.mp he with m|m
  ·exact zX _ m
  ·obtain⟨m1,m2⟩:=yB.mp m
   refine zT _ (zz.mpr ⟨egO e,yB.mpr ⟨zz.mpr ⟨e,m1,rfl⟩,m2⟩,rfl⟩)
 have rl:rows.length<=1000:=by
  have e1:(rows.map (·.1)).length=rows.length:=zA ..;have:=q0D nH;rw[<- r2,e1,zA]at this;omega
 have wt:=qeQ hb rl ris L;have fo:=hf;refine⟨F,⟨fo,fs,?_,∅,con⟩,?_⟩
 ·refine List.Nodup.sublist sub (pm.nodup_iff.mpr ?_)
  unfold List.Nodup;rw[YU];exact(q4X hP).imp λ{a b} z e=>z (by
   have e1:a.1=b.1:=v4 (λx=>x.1) e;have e2:a.2=b.2:=v4 (λx=>x.2.1) e;exact Prod.ext e1 e2)
 ·rw[<- ws]
  have hK:=q6w (h:=h) (l:=l) hb;have hS:=q4F (h:=h) (l:=l) hb;have hE:=q6X (h:=h) (l:=l) hb;rw[show (XF aG).map edD=((XF aG).map egO).map egD by rw[yL];rfl]at hE;have hC:=q5o (h:=h) (l:=l) hb;have rs:q3A cN=↥iN:=by
   unfold q3A q6R;have r1':q2j [Os,.lst ((bs++rQ++(XF BH).filter λq=>! fW).map XQ),J2]=some (.fr mh):=r1;simp_arith[hS,hK,hE,r1',hC]
  unfold q4m q86;simp_arith[rs,wt]
noncomputable def emA(h l:Int)(bs:ae)(F:dY):List bh:=Wv fY BI++twoA HE
noncomputable def arA(h l:Int)(bs:ae)(F:dY):List bh:=bs++emA h l bs F
theorem qkE{h l:Int}{bs:ae}{F:dY}(A:mV){a:bh}(m:a∈emA h l bs F):∃g∈XF (Pz h l bs),a=OQ\/a=OP:=by
 rcases zJ.mp m with m|m
 ·exact qkt m
 ·obtain⟨e0,he0,m⟩:=xL.mp m
  obtain⟨e,he2,rfl⟩:=zz.mp he0;obtain⟨g,hg,rfl⟩:=A.fs e he2;rcases zF.mp m with rfl|m
  ·exact⟨g,hg,bu⟩
  ·cases zR.mp m
   exact⟨g,hg,Aq⟩
theorem qjK{h l:Int}{bs:ae}{F:dY}(hb:bB)(x:Int):flw x fV=0:=by
 have hP:=q2b h l bs;have hG:=q4g (h:=h) (l:=l) hb;unfold arA emA;rw[q35,q35,q35,qaD,q9s,q3p];have inP:∀b∈bs,b.1∈Pz h l bs/\b.2∈Pz h l bs:=λb hb=>kh;have ih:h∈Pz h l bs:=(qI h).mpr bu;have il:l∈Pz h l bs:=(qI l).mpr O4;have pk:(∃g∈XF (Pz h l bs),g.1<x/\x<=g.2/\∀c:Int×Int->Int,((XF aG).map λg=>c g*eu).sum=c g)\/(∀p∈Pz h l bs,∀q∈Pz h l bs,chi x p=chi x q):=by
  have hne:=qhp h l bs;revert hP hne;generalize Pz h l bs=P;intro hP hne;cases P with
  | nil=>exact vP rfl hne
  | cons k r=>exact q9L x r k hP
 rcases pk with⟨g,hg,g1,g2,g3⟩|h3
 ·rw[g3 fY]
  obtain⟨t1,t2⟩:=qhL (hG g hg) g1 g2;have hG1:Gap h l rQ g:=⟨(hG g hg).lt,(hG g hg).h,(hG g hg).l,λb hb=>by cases zR.mp hb;exact⟨(hG g hg).h,(hG g hg).l⟩⟩;obtain⟨u1,u2⟩:=qhL hG1 g1 g2;simp only[zU,yz,zf,YV,YT]at u1 u2;have v:=qfE x h l;have fb:flw x bs=rts bs g-lfs bs g:=by
   rw[<- t1,<- t2];unfold flw;rw[yJ λb _=>(qfE x b.1 b.2).symm];clear t1 t2 hb hP hG inP ih il hg g3 hG1 u1 u2
   induction bs with
   | nil=>rfl
   | cons b bs ih=>simp only[zU,zf,ih];omega
  rw[fb];have e0:flw x []=0:=rfl;rw[e0];unfold XY;simp only;omega
 ·have e0:((XF aG).map λg=>XY h l bs g*eu).sum=0:=by
   have:∀g∈XF (Pz h l bs),XY h l bs g*eu=0:=λg hg=>by
    rw[h3 _ (q0s hg).2 _ (q0s hg).1,Zg,wF]
   rw[yJ this];clear this
   induction XF (Pz h l bs)with
   | nil=>rfl
   | cons g gs ih=>rw[zU,zf,ih];rfl
  have fb:flw x bs=0:=by
   unfold flw;have:∀b∈bs,chi x b.2-chi x b.1=0:=λb hb=>by rw[h3 _ (inP b hb).2 _ (inP b hb).1,Zg]
   rw[yJ this];clear this;generalize bs=bs'
   induction bs' with
   | nil=>rfl
   | cons g gs ih=>rw[zU,zf,ih];rfl
  have:=h3 _ ih _ il;have en:flw x []=0:=rfl;rw[e0,fb,en];simp only;omega
theorem qkS{h l:Int}{bs:ae}{F:dY}(A:mV):∀a∈arA h l bs F++[(l,h)],a.1∈Pz h l bs:=λa ha=>by
 rcases zJ.mp ha with m|m
 ·rcases zJ.mp m with m|m
  ·exact(qI _).mpr (.inr (.inr ⟨a,m,bu⟩))
  ·obtain⟨g,hg,rfl|rfl⟩:=qkE A m
   ·exact(q0s hg).1
   ·exact(q0s hg).2
 ·cases zR.mp m
  exact(qI l).mpr O4
theorem qko{h l:Int}{bs:ae}{F:dY}(A:mV):∀x∈Pz h l bs,∀y∈Pz h l bs,Rch fV x y:=λx hx y hy=>by
 refine Rch.inv (λz=>Rch fV x z) .refl Tq (A.con x hx y hy);have key:∀{u v:Int},(u,v)∈Kn h l bs++F.map WO->Rch fV u v:=λ{u v} m=>by
  have s1:∀{u v:Int},(u,v)∈arA h l bs F->Rch fV u v:=λm=>Rch.refl.step (.inl (zX _ m));rcases zJ.mp m with m|m
  ·unfold Kn at m
   rcases zJ.mp m with m|m
   ·rcases zJ.mp m with m|m
    ·exact s1 (zX _ m)
    ·cases zR.mp m
     exact Rch.refl.step (.inr UX)
   ·obtain⟨m1,m2⟩:=yB.mp m
    have hc:XY h l bs (u,v)≠0:=by simpa using m2
    rcases qg7 (c:=XY h l bs) m1 hc with z|z
    ·exact s1 (zT _ Q6)
    ·exact(s1 (zT _ Q6)).symm
  ·exact s1 (zT _ (zT _ (xL.mpr ⟨_,m,zE⟩)))
 rcases hbc with m|m
 ·exact hb.trans (key m)
 ·exact hb.trans (key m).symm
theorem qiK{h l:Int}{bs:ae}{F:dY}(hb:bB):(sts fV).Perm (gls fV):=by
 rw[List.perm_iff_count];intro v;rw[<- (q7l _ v).1,<- (q7l _ v).2];exact qbn (λx=>qjK hb x) v
theorem q6f{h l:Int}{bs:ae}(q:bh):-Dr-1<=XY h l bs q/\XY h l bs q<=bs.length+1:=by
 unfold XY rts lfs;have a1:=yH (λp:Int×Int=>over p.1 p.2 q) bs;have a2:=yH (λp:Int×Int=>over p.2 p.1 q) bs;have b1:=yH (λp:Int×Int=>over p.1 p.2 q) rQ;have b2:=yH (λp:Int×Int=>over p.2 p.1 q) rQ;simp only[zY]at b1 b2;omega
theorem q84{c:gP}{n:Nat}:∀G:List bh,(∀g∈G,-cB<=c g/\c g<=n)->(Wv c G).length<=G.length*n
 | [],_=>yF _
 | g::G,h=>by
  have ih:=q84 G λx hx=>h x jj;have hg:=h g zE;show (repA (c g) g++Wv c G).length<=_;rw[zC,zI,Nat.add_mul,Nat.one_mul];unfold repA;rw[zC,ya,ya];omega
theorem q89:∀F:List bh,(twoA F).length=2*F.length
 | []=>rfl
 | e::F=>by
  show (Cd++twoA F).length=_;rw[zC,q89 F,zI];simp only[zI,xV];omega
theorem qao{h l:Int}{bs:ae}{F:dY}(hb:bB)(A:mV):(arA h l bs F).length<=2500:=by
 have hl:=q5b (h:=h) (l:=l) hb;have gl:=q0B aG;have e1:=q84 (c:=XY h l bs) (n:=31) BI λg _=>by have:=q6f (h:=h) (l:=l) (bs:=bs) g;omega
 have:=A.len;unfold arA emA;rw[zC,zC,q89,zA];omega
structure Rg (as:List (Int×Int)):Prop where
 pm:(sts as).Perm (gls as)
 hg:∀p∈as,∀q∈as,Rch as p.1 q.1
theorem q9a{as:ae}{s:Int}{row:af}(h:zAP s as=some row):q1O [mS,aR]=some (.fr KU):=by
 show ((pairsOf EN).bind λas=>(zAP s as).map λrow=>O.fr KU)=_;rw[q40,yT,h];rfl
theorem qkp{as:ae}{s:Int}(hl:En)(hg:Rg as)(hs:∃p∈as,p.1=s):∃row:List Nat,q3D [mS,aR]=↥(.lst Ea)/\row.Perm dU/\Wlk as s row s:=by
 have hm:=qhZ (as:=as) hl;rw[vT hg.pm]at hm;obtain⟨row,U,hr,R⟩:=qgH (s:=s) hl hg.pm;have hrf:=q9a hr;obtain⟨p,hp,rfl⟩:=hs;have ha:row.length=as.length:=R.full λq hq=>hg.hg p hp q hq;have e1:((((cst row).length:Nat):Int)==K4)=true:=by
  have:(cst row).length=row.length:=by unfold cst;rw[zA]
  simp only[beq_iff_eq];omega
 have hU:U=[]:=by
  have:=R.all.length_eq;rw[zC,zx]at this;exact yw ∅
 refine⟨row,?_,by have:=R.all;rw[hU,yX]at this;exact this,R.walk⟩;unfold q3D q6C;simp_arith[hm,hrf,e1]
theorem Wlk.split{as:ae}:∀{r q:bW}{a c:Int},Wlk as a (r++q) c->∃b,Wlk as a r b/\Wlk as b q c
 | [],_,a,_,h=>⟨a,.nil _,h⟩
 | n::r,q,a,c,h=>by
  cases h with
  | cons e t=>
   obtain⟨b,h1,h2⟩:=t.split;exact⟨b,.cons e h1,h2⟩
theorem q9t{s:Int}:∀{P:af},s∈P->∃i,zCQ s P=some i/\P[i]?=some s
 | a::r,h=>by
  unfold zCQ
  by_cases z:a=s
  ·exact⟨0,vH z,by rw[z];rfl⟩
  ·obtain⟨i,h1,h2⟩:=q9t ((zF.mp h).resolve_left λe=>z e.symm)
   exact⟨i+1,by rw[gc,h1];rfl,h2⟩
theorem qk3{f g:FD}{ω:WSt}:fIdx f g ω=(f ω).bind λd=>(g ω).bind λc=>idxD d c:=rfl
theorem qfS{α:Type}{xs:bE}{k:Int}(h:VR):cutD xs none Lz=xs.take k.toNat:=by
 unfold cutD;have e:HT.sIx xs.length xs.length Lz=min k.toNat xs.length:=by
  have:=HT.q32 xs.length xs.length k.toNat;rw[show S9=k by omega]at this;exact this
 rw[HT.q4H,e,Nat.sub_zero,ZC,List.take_eq_take_iff];omega
theorem qh2{α:Type}{xs:bE}{k:Int}(h:VR):cutD xs Lz none=xs.drop k.toNat:=by
 unfold cutD;have e:HT.sIx xs.length 0 Lz=min k.toNat xs.length:=by
  have:=HT.q32 xs.length 0 k.toNat;rw[show S9=k by omega]at this;exact this
 rw[HT.q4H,e,yv (by rw[yM];omega)];rcases YN k.toNat xs.length with z|z
 ·rw[wo z]
 ·rw[Nat.min_eq_right z,ZU,List.drop_of_length_le z]
theorem q7W{α:Type}(d:α):∀n:Nat,(zt n [d]).flatten=zt n d
 | 0=>rfl
 | n+1=>by rw[yR,yC,q7W d n,yR];rfl
theorem qgU(c:gP)(G:ae)(q:bh):Wv c (G++[q])=Wv c G++repA (c q) q:=by
 unfold Wv;rw[wJ,Zi]
theorem qjq{h l:Int}{bs:ae}(hb:bB):q0x cN=some (.fr Ta):=by
 unfold q0x q2m;have hg:=q4b (h:=h) (l:=l) hb;have hk:=q6c (h:=h) (l:=l) hb;have hL:=q5e (h:=h) (l:=l) hb;rw[show Xe bO=Pz h l bs from rfl]at hg hk;generalize XF aG=L at hg hk hL ⊢;simp_arith[hg,hk,q6x];obtain⟨ω',e,x4,x5,x6,rfl⟩:=qK (g:=gT 2 l8) (b:=q23) (λq=>D.tup [SM,Ik]) L
  (λpre ω=>∃x4 x5 x6:Option W,ω=[↥gW,↥iV,↥az,some (.ow ((Wv fY pre).map XQ)),x4,x5,x6])
  (λpre q post ω hd ⟨x4,x5,x6,hω⟩=>by
   subst hω;refine ck;have la:=q6f (h:=h) (l:=l) (bs:=bs) q;have el:=q84 (c:=XY h l bs) (n:=31) pre λg _=>by have:=q6f (h:=h) (l:=l) (bs:=bs) g;omega
   have pl:pre.length<=L.length:=by rw[hd,zC];omega
   have ba:zCv [Ik]=↥ac8:=rfl;unfold q23;rw[show XQ q=D.tup [pi,GR]from rfl];simp only[qgU];generalize XY h l bs q=c at *;have ab:0<=W8 c/\W8 c<=31:=by unfold W8;split <;> omega
   by_cases hc:0<c
   ·have hr:=λd:D=>qf2 (ds:=[d]) ab.1 ∅ (show [d].length<=1000 by simp)
    have e1:(W8 c).toNat=c.toNat:=by unfold W8;rw[ik]
    have hl2:((Wv fY pre).map XQ).length+(zt c.toNat abZ).length<=1000000:=by
     rw[zA,ya];omega
    have ea:(Wv fY pre).map XQ++zt c.toNat abZ=(Wv fY pre++repA c q).map XQ:=by
     unfold repA;rw[show (-c).toNat=0 by omega,xw,zk,zW,xm];rfl
    simp_arith[hc,decide_true,ba,hr,q7W,e1,q4r hl2,ea];exact rZ
   ·have hr:=λd:D=>qf2 (ds:=[d]) ab.1 ∅ (show [d].length<=1000 by simp)
    have e1:(W8 c).toNat=(-c).toNat:=by unfold W8;split <;> omega
    have hl2:((Wv fY pre).map XQ).length+(zt (-c).toNat ab0).length<=1000000:=by
     rw[zA,ya];omega
    have ea:(Wv fY pre).map XQ++zt (-c).toNat ab0=(Wv fY pre++repA c q).map XQ:=by
     unfold repA;rw[show c.toNat=0 by omega,xw,yX,zW,xm];rfl
    simp_arith[hc,decide_false,ba,hr,q7W,e1,q4r hl2,ea];exact rZ)
  (ω:=[↥gW,↥iV,↥az,lL,none,none,none]) nc
 simp_arith[e]
theorem qgj(F:ae)(e:bh):twoA (F++[e])=twoA F++Cd:=by
 unfold twoA;rw[wJ,Zi]
theorem qkq{h l:Int}{bs:ae}{F:dY}(hb:bB)(A:mV):q0H cN=some (.fr UQ):=by
 unfold q0H q2Q;have hK:=q6w (h:=h) (l:=l) hb;have hS:=q4F (h:=h) (l:=l) hb;have hE:=q6X (h:=h) (l:=l) hb;rw[show (XF aG).map edD=((XF aG).map egO).map egD by rw[yL];rfl]at hE;have fo:=A.fo;have fl:=A.len;have fo':q04 [Os,.lst ((bs++rQ++(XF BH).filter λq=>! fW).map XQ),J2]=some (.fr (F.map egD)):=fo;simp_arith[hS,hK,hE,fo'];obtain⟨ω',e,x5,rfl⟩:=qK (g:=gN 5) (b:=q2n) egD F
  (λpre ω=>∃x5:Option W,ω=[↥gW,↥iV,↥az,some (.ow ((twoA CI).map XQ)),↥Os,x5])
  (λpre q post ω hd ⟨x5,hω⟩=>by
   subst hω;refine ck;have pl:pre.length<=F.length:=by rw[hd,zC];omega
   have tl:=q89 CI;rw[zA]at tl;have l1:((twoA CI).map XQ).length<1000000:=by rw[zA];omega
   have l2:((twoA CI).map XQ++[D.tup [pi,Ot]]).length<1000000:=by rw[zC,zA,zY];omega
   have ea:(twoA CI).map XQ++[D.tup [pi,Ot]]++[D.tup [Ot,pi]]=(twoA ((pre++[q]).map WO)).map XQ:=by
    rw[zW,zU,yz,qgj,zW,zO];rfl
   unfold q2n;rw[show egD q=D.tup [pi,Ot,.int q.2.2]from rfl];simp_arith[zBs l1,zBs l2,ea];exact bz)
  (ω:=[↥gW,↥iV,↥az,lL,↥Os,none]) Fo
 simp_arith[e]
theorem qbw{as x:ae}{n:Nat}(h:n<as.length):Xm (as++x) n=Xm as n/\Xt (as++x) n=Xt as n:=by
 unfold Xm Xt;rw[zV,zV,zg h];exact cT
theorem Wlk.low{as x:ae}:∀{r:bW}{a b:Int},Wlk (as++x) a r b->(∀n∈r,n<as.length)->Wlk as a r b
 | [],_,_,h,_=>by cases h;exact .nil _
 | n::r,a,b,h,hl=>by
  cases h with
  | cons e t=>
   have sa:=qbw (x:=x) (hl n zE);rw[sa.1]at e;rw[sa.2]at t;exact .cons e (t.low λk hk=>hl k OG)
theorem qis{row:bW}{j n:Nat}(h:(cst row)[j]?=some cB):row[j]?=some n:=by
 unfold cst at h;rw[zZ]at h;cases e:row[j]? with
 | none=>rw[e]at h;cases h
 | some m=>
  rw[e]at h;have:ib=n:=zy h;rw[show m=n by omega]
theorem qjJ{as:ae}{h l:Int}(hl:as.length<=2900)(hg:Rg GO):∃q:List Nat,q09 [gW,iV,aR]=some Nr/\q.Perm dU/\Wlk as h q l:=by
 have hs:∃p∈as++[(l,h)],p.1=h:=by
  have m:h∈gls GO:=zz.mpr ⟨(l,h),by simp,rfl⟩;obtain⟨p,hp,e⟩:=zz.mp (hg.pm.mem_iff.mpr m);exact⟨p,hp,e⟩
 have hn:(as++[(l,h)]).length=as.length+1:=by rw[zC,zY]
 obtain⟨row,hr,hp,hw⟩:=qkp (s:=h) ∅ hg hs;rw[hn]at hp;have mn:K4∈cst row:=zz.mpr ⟨as.length,hp.mem_iff.mpr (xA.mpr Ts),rfl⟩;obtain⟨j,j1,j2⟩:=q9t mn;have j3:=qis j2;obtain⟨jl,j4⟩:=zj.mp j3;have er:row=row.take j++as.length::row.drop (j+1):=by
  rw[<- j4,List.getElem_cons_drop,yG]
 have pm:(row.drop (j+1)++row.take j).Perm dU:=by
  have p1:(as.length::lC).Perm row:=by
   have:(row.take j++as.length::row.drop (j+1)).Perm (as.length::lC):=ZS.trans (List.Perm.cons _ yq);rw[<- er]at this;exact this.symm
  have p2:(zo (as.length+1)).Perm (as.length::zo as.length):=by
   rw[Yo];exact yq
  exact((p1.trans hp).trans p2).cons_inv
 have lt:∀n∈row.drop (j+1)++row.take j,n<as.length:=λn hn=>xA.mp (pm.mem_iff.mp hn);refine⟨lC,?_,pm,?_⟩
 ·unfold q09 q2J
  have ad:WC aR (.lst [.tup [iV,gW]])=some (.fr ((as++[(l,h)]).map XC)):=by
   rw[q1M (by rw[zA,zY];omega),zW];rfl
  have ix:idxD (.lst Ea) (.int K4)=↥Bd:=by
   show (intsOf Ea).bind _=_;rw[qR,yT,j1];rfl
  have cl:(cst row).length=as.length+1:=by unfold cst;rw[zA,hp.length_eq,zx]
  have c1:=qh2 (xs:=(cst row).map D.int) (k:=BC+1) ∅;have c2:=qfS (xs:=(cst row).map D.int) (k:=BC) ∅;have a2:WC (.lst (((cst row).map D.int).drop (BC+1).toNat)) (.lst (((cst row).map D.int).take (j:Int).toNat))=some (.fr ((cst lC).map D.int)):=by
   rw[q1M (by rw[yM,ze,zA];omega),show (BC+1).toNat=j+1 by omega,show (j:Int).toNat=j by omega];unfold cst;rw[zW,zW,wj,wj,Z3,Z3]
  simp_arith[ad,hr,qk3,ix,qdc,c1,c2,a2]
 ·rw[er]at hw
  obtain⟨b,w1,w2⟩:=hw.split;cases w2 with
  | cons e t=>
   have s1:Xm GO as.length=l/\Xt GO as.length=h:=by
    unfold Xm Xt;rw[zV,zb bM,wR];exact cT
   rw[s1.1]at e;rw[s1.2]at t;subst e;exact(t.app w1).low lt
noncomputable def mvN(B:Nat)(as:ae)(n:Nat):D:=if n<B then .tup [fu, Ju,Lm,Ll]else .tup [lO, Lm,Ll]
theorem qih{h l:Int}{bs:ae}{F:dY}(hb:bB)(A:mV):∃q:List Nat,q55 cN=some (.fr (q.map Aw))/\q.Perm Au/\Wlk bf h q l:=by
 have al:=qao hb A;have st:=qkS A;obtain⟨q,q1,q2,q3⟩:=qjJ (as:=arA h l bs F) (h:=h) (l:=l) ∅ ⟨qiK hb,λp hp r hr=>qko A _ (st p hp) _ (st r hr)⟩;refine⟨q,?_,q2,q3⟩;unfold q55 q9n;have h1:=qjq (h:=h) (l:=l) hb;have h2:=qkq hb A;have e1:WC (.lst Ta) (.lst UQ)=some (.fr O7):=by
  rw[q1M,<- zW];rfl;unfold arA emA at al;rw[zC,zC]at al;rw[zA,zA];omega
 have e2:WC az (.lst O7)=some (.fr nL):=by
  rw[q1M,<- zW];rfl;unfold arA at al;rw[zC]at al;rw[zA,zA];omega
 have q1':q09 [gW,iV,.lst nL]=some Nr:=q1;have hq:((cst q).map D.int).length<=1000000:=by
  unfold cst;rw[zA,zA,q2.length_eq,zx];omega
 have cm:=qw (i:=0) (f:=q7B) (λn:Nat=>D.int cB) Aw q (ω:=[none,↥az,↥(.lst nL)]) (λn hn=>by
  have hlt:n<(arA h l bs F).length:=xA.mp (q2.mem_iff.mp hn);have hi:atI nL cB=some (.tup [.int OT,.int OS]):=by
   rw[q1n ∅ (by rw[zA];omega)];have:(((arA h l bs F).map XQ)[(cB).toNat]'(by rw[zA];omega))=XQ (arA h l bs F)[n]:=by
    rw[wE];simp
   rw[this];unfold XQ Xm Xt;rw[zV,GH];rfl
  unfold q7B q1U q3n mvN
  by_cases z:n<bs.length
  ·have z':decide (cB<Dr)=true:=by simpa using z
   simp_arith[hi,z',z]
  ·have z':decide (cB<Dr)=false:=by simpa using z
   simp_arith[hi,z',z])
 have cq:(cst q).map D.int=q.map λn:Nat=>D.int cB:=by unfold cst;rw[yL];rfl
 rw[cq]at q1' hq;simp_arith[h1,h2,e1,e2,q1',We hq,inW,Wi,cm]
theorem qhG:shp lO=true:=⋯
theorem qdz:shp fu=true:=⋯
theorem qku:oEq true lO lO=some R1:=q9h qhG
theorem qkX:oEq false fu fu=some Oq:=q3F qdz
theorem qk1:oEq true fu fu=some R1:=q9h qdz
theorem qkd:oEq false lO fu=some R1:=by
 unfold oEq;rw[qhG,qdz,show eqD lO fu=false by decide +kernel];rfl
theorem q99{B:Nat}{as:ae}{n:Nat}(h:¬n<B):mvN B as n=.tup [lO, Lm,Ll]:=vJ h
theorem q7n{B:Nat}{as:ae}{n:Nat}(h:n<B):mvN B as n=.tup [fu, Ju,Lm,Ll]:=vH h
theorem wh_i(i:Int):qB [gU]=↥bn:=rfl
theorem qiy(B:Nat)(as:ae)(n:Nat):∃ds,mvN B as n=.tup ds/\atI ds (-2)=some Lm/\atI ds (-1)=some Ll:=by
 by_cases z:n<B
 ·exact⟨_,q7n z,rfl,rfl⟩
 ·exact⟨_,q99 z,rfl,rfl⟩
theorem qaI{as:ae}{B:Nat}{x0 x1 x2:cj}:∀(row:bW)(here fin:Int)(x4:cj),Wlk as here row fin ->
  ∃y4,zAf Dp q4S pR [x0,x1,x2,AU,x4]=some (.nx,[x0,x1,x2,↥(.int fin),y4])
 | [],here,fin,x4,h=>by cases h;exact⟨x4,rfl⟩
 | n::row,here,fin,x4,h=>by
  cases h with
  | cons e t=>
   obtain⟨y4,ih⟩:=qaI (as:=as) (B:=B) (x0:=x0) (x1:=x1) (x2:=x2) row jm fin ↥(mvN B as n) t;refine⟨y4,?_⟩;obtain⟨ds,e1,e2,e3⟩:=qiy B as n;have eb:q4S acS=some (.nx,[x0,x1,x2,↥Ll,lG]):=by
    unfold q4S;have eh:(Xm as n==here)=true:=by simpa using e
    rw[e1];simp_arith[e2,e3,eh]
   show Zx (some acS) _=_;rw[yT,eb];exact ih
theorem qgQ{as:ae}{B:Nat}{h l:Int}{row:bW}(w:Wlk as h row l):q4n [gW,iV,.lst pR]=↥bn:=by
 unfold q4n q7U;obtain⟨y4,e⟩:=qaI (B:=B) (x0:=↥gW) (x1:=↥iV) (x2:=↥(.lst pR)) row h l none w;simp_arith[e]
noncomputable abbrev mov(as:ae)(n:Nat):Bool:=!(Xm as n==Xt as n)
theorem Wlk.mov{as:ae}:∀{r:bW}{a b:Int},Wlk as a r b->Wlk as a (r.filter (Kx.mov as)) b
 | [],_,_,h=>h
 | n::r,a,b,h=>by
  cases h with
  | cons e t=>
   have ih:=t.mov
   by_cases z:Xm as n=Xt as n
   ·rw[yV ⇑z,<- e,z];exact ih
   ·rw[yU ⇑z];exact .cons e ih
theorem qg2{h l:Int}{bs:ae}{F:dY}{n:Nat}(ne:Xm bf n≠Xt bf n):q0Q [↥(mvN bs.length bf n),↥az]=some bn:=by
 unfold q0Q;generalize hs:Xm bf n=a at ne;generalize hd:Xt bf n=b at ne;have n1:HZ=false:=by simpa using ne
 by_cases z:n<bs.length
 ·rw[q7n z,hs,hd]
  have g1:q2r [mY]=some R1:=by
   unfold q2r q5O;simp_arith[show (Ec==3)=false from rfl]
  have s1:oSl mY Ff none=some (.sh (.tup [Ju,bJ,dI])):=rfl;have cf:q05 [mY,az]=some Oq:=by
   unfold q05 q1z;have cm:Xx dz Xl q2V [Ju,bJ,dI] Eo=some [bn,bn,bn]:=rfl;have d1:decide (0<=cB)=true:=by simp
   have d2:decide (cB<Dr)=true:=by simpa using z
   simp_arith[qk1,show (Ec==4)=true from rfl,s1,We (show [D.int cB,bJ,dI].length<=1000000 by simp),inW,Wi,cm,show W7 [.lst [bn,bn,bn]]=↥bn from rfl,d1,d2]
  have a3:atI [D.str "box", Ju,bJ,dI] 3=some dI:=rfl;have yc:q0f [mY,az]=some Oq:=by
   unfold q0f q1P;simp_arith[cf,a3,n1]
  simp_arith[g1,yc]
 ·rw[q99 z,hs,hd]
  have g1:q2r [.tup [lO, bJ,dI]]=some Oq:=by
   unfold q2r q5O;simp_arith[qku,show (Tc==3)=true from rfl,wh_i,n1]
  simp_arith[g1]
theorem q5H{as:ae}{B:Nat}{x0 x1:cj}:∀(row:bW)(L:af)(x3:cj),row.Nodup->L.length=B->(∀n∈row,n<B->L[n]?=some ge) ->
  ∃(L':af) (y3:cj),zAf Nj qL pR [x0,x1,some (.ow Oj),x3]=some (.nx,[x0,x1,some (.ow (L'.map D.int)),y3])/\L'.length=B/\∀k,k<B->L'[k]?=if k∈row then some (Xt as k)else L[k]?
 | [],L,x3,_,hl,_=>⟨L,x3,rfl,hl,λk hk=>by rw[vJ (by simp)]⟩
 | n::row,L,x3,nd,hl,hs=>by
  have nd':=yj.mp nd;have ne:∀k∈row,n≠k:=λk hk z=>nd'.1 (z▸hk)
  by_cases z:n<B
  ·have hn:=hs n zE z
   obtain⟨hnl,hn2⟩:=zj.mp hn;obtain⟨L',y3,e,l1,l2⟩:=q5H (as:=as) (B:=B) (x0:=x0) (x1:=x1) row (L.set n jm) ↥(mvN B as n) nd'.2 (by rw[yZ];exact hl) (λk hk hb=>by rw[zL (ne k hk)];exact hs k OG hb);refine LW
   ·have at':atI Oj cB=some Lm:=by
     rw[q1n ∅ (by rw[zA];omega)];simp[hn2]
    have lp:=λω=>qiM (i:=2) (ω:=ω) (ds:=L.map D.int) (d:=.int jm) (k:=cB) ∅ (by rw[zA];omega);rw[<- List.map_set]at lp;simp only[yr]at lp;have a3:∀{x y z w:D},atI [x,y,z,w] 3=some w:=rfl;have eb:qL cU=some (.nx,[x0,x1,some (.ow ((L.set n jm).map D.int)),lG]):=by
     unfold qL;rw[q7n z];simp_arith[qkX,at',lp,a3]
    show Zx (some cU) _=_;rw[yT,eb];exact e
   ·rw[l2 k hk]
    by_cases y:n=k
    ·subst y
     rw[vJ nd'.1,vH zE,ye hnl]
    ·rw[zL y]
     by_cases y2:k∈row
     ·rw[vH y2,vH (zH _ y2)]
     ·rw[vJ y2,vJ (λm=>(zF.mp m).elim (λq=>y q.symm) y2)]
  ·obtain⟨L',y3,e,l1,l2⟩:=q5H (as:=as) (B:=B) (x0:=x0) (x1:=x1) row L ↥(mvN B as n) nd'.2 hl (λk hk=>hs k OG)
   refine LW
   ·have eb:qL cU=some (.nx,cU):=by
     unfold qL;rw[q99 z];simp_arith[qkd]
    show Zx (some cU) _=_;rw[yT,eb];exact e
   ·rw[l2 k hk]
    have y:¬k=n:=λy=>z ∅
    by_cases y2:k∈row
    ·rw[vH y2,vH (zH _ y2)]
    ·rw[vJ y2,vJ (λm=>(zF.mp m).elim y y2)]
theorem qeF{h l:Int}{bs:ae}{F:dY}(hb:bB){q:bW}(q2:q.Perm Au):qX [az,Ij]=↥bn:=by
 unfold qX q1f;have hl:(bs.map XQ).length<=1000000:=by rw[zA];omega
 have c1:=qw (i:=0) (f:=q17) XQ (λb=>D.int b.1) bs (ω:=Eo) (λb _=>by unfold q17 XQ;simp_arith[qY]);have c2:=qw (i:=0) (f:=q16) XQ (λb=>D.int b.2) bs (ω:=Eo) (λb _=>by unfold q16 XQ;simp_arith[qY]);have sb:∀k,k<bs.length->(bs.map (·.1))[k]?=some (Xm bf k)/\(bs.map (·.2))[k]?=some (Xt bf k):=λk hk=>by
  have e:=qbw (as:=bs) (x:=emA h l bs F) hk;rw[show Xm bf k=Xm bs k from e.1,show Xt bf k=Xt bs k from e.2];unfold Xm Xt;rw[zZ,zZ,zV,zD hk];exact cT
 obtain⟨L',y3,e,l1,l2⟩:=q5H (as:=arA h l bs F) (B:=bs.length) (x0:=↥az) (x1:=↥Ij) (q.filter (mov bf)) (bs.map (·.1)) none ((q2.nodup_iff.mpr ZZ).filter _) (by rw[zA]) (λn _ hn=>(sb n hn).1);have eL:L'=bs.map (·.2):=by
  refine yx λk=>?_
  by_cases hk:k<bs.length
  ·rw[l2 k hk,(sb k hk).2]
   by_cases z:k∈q.filter (mov bf)
   ·rw[gz]
   ·rw[gc,(sb k hk).1]
    have hq:k∈q:=q2.mem_iff.mpr (xA.mpr (by unfold arA;rw[zC];omega));have:¬mov bf k=true:=λy=>z (yB.mpr ⟨hq,y⟩);rw[show Xm bf k=Xt bf k by simpa using this]
  ·rw[Pd,zn (by rw[zA];omega)]
 subst eL;have m1:(bs.map λb=>D.int b.1)=(bs.map (·.1)).map D.int:=by rw[yL];rfl
 have m2:(bs.map λb=>D.int b.2)=(bs.map (·.2)).map D.int:=by rw[yL];rfl
 rw[m1]at c1;rw[m2]at c2;have eq:=q3F (q4x (bs.map (·.2)));simp_arith[Jq,inW,Wi,c1,e,c2,eq]
theorem qgK{g:Int}{bs:ae}{F:dY}(hb:kj)(hy:∀b∈bs,g<=b.1/\g<=b.2)(A:RZ){q:bW}(q2:q.Perm (zo (arA g g bs F).length))(q3:Wlk bo g q g):
  q0t [kY,az,.lst ((q.filter rf).map hZ)]=↥bn:=by
 have al:=qao (show bs.length<=30 by omega) A;have c:q03 [kY,az]=some DD:=zCh hb hy;have ld:=qgQ (B:=bs.length) q3.mov;have br:=qeF (F:=F) (show bs.length<=30 by omega) q2;have fl:=yH rf q;have ql:q.length=(arA g g bs F).length:=by rw[q2.length_eq,zx]
 have hl:((q.filter rf).map hZ).length<=1000000:=by rw[zA];omega
 have cm:=qw (i:=0) (f:=q0Q) hZ mF (q.filter rf) (ω:=[none,↥az]) (λn hn=>qg2 ⇑((yB.mp hn).2));have ba:W7 [.lst ((q.filter rf).map λ_=>D.bl true)]=↥bn:=by
  show (allB _).map _=_;rw[q72 Bu];simp
 unfold q0t q2f;simp_arith[c,Jq,inW,Wi,cm,ba,ld,br]
theorem q98{h l:Int}{bs:ae}(hb:bB){g:bh}(hg:g∈XF aG):∀x∈Pz h l bs,x<=g.1\/g.2<=x:=λx hx=>by
 have S:=stp h l hb;obtain⟨i,hi,rfl⟩:=q9y hg;exact Stp.amid (P:=Pz h l bs) S hi hx
theorem qcF{h l:Int}{bs:ae}{F:dY}(A:mV){g:bh}(hg:g∈F.map WO):g∈XF aG:=by
 obtain⟨e,he,rfl⟩:=zz.mp hg;obtain⟨g,hg',rfl⟩:=A.fs e he;exact hg'
theorem qfy{α:Type}{f f':kM}:∀{xs:bE},(∀x∈xs,f x<=f' x)->(xs.map f).sum<=(xs.map f').sum
 | [],_=>zi _
 | x::xs,h=>by
  rw[zU,zU,zf,zf];have:=qfy (xs:=xs) λy hy=>h y aak;have:=h x zE;omega
theorem qaM(f:bX):∀(r:af)(k:Int),(k::r).Pairwise (· < ·)->∃N:Nat,(∀p∈k::r,p<=k+N)/\su f k N=((XF T7).map λg=>su f g.1 (g.2-g.1).toNat).sum
 | [],k,_=>⟨0,λp hp=>by cases zR.mp hp;omega,rfl⟩
 | b::r,k,h=>by
  obtain⟨N,n1,n2⟩:=qaM f r b (zQ.mp h).2;have hk:=(zQ.mp h).1 b zE;refine⟨(b-k).toNat+N,pZ,?_⟩
  ·rcases zF.mp hp with rfl|hp
   ·omega
   ·have:=n1 p hp;omega
  ·rw[q9z,q0Z,zU,zf,<- n2,show k+((b-k).toNat:Int)=b by omega]
theorem qbv{f:bX}{a c:Int}:∀{n:Nat},(∀x,a<x->x<=a+n->f x<=c)->su f a n<=c*n
 | 0,_=>by rw[su];simp
 | n+1,h=>by
  show su f a n+f VE<=c*Lq;have h1:=qbv (f:=f) (c:=c) (n:=n) λx h1 h2=>h x h1 ∅;have h2:=h VE ∅ ∅;rw[Zp,wP];simp only[Yp,Yg];omega
theorem q8a(g:Int)(bs:ae)(p:bh):XY g g bs p=lfs bs p-rts bs p:=by
 have:rts [(g,g)] p=lfs [(g,g)] p:=rfl;unfold XY;omega
theorem qg4{g:Int}{bs:ae}{F:dY}(hb:bB)(A:RZ){p:bh}(hp:p∈XF RS)(h0:iC):p∈F.map WO:=by
 refine Classical.byContradiction λno=>?_;have G:=q4g (h:=g) (l:=g) hb p hp;have lt:=G.lt;have inP:=q0s hp;have gp:∀e∈XF (Pz g g bs),e≠p->(e.1<=p.1↔e.2<=p.1):=λe he hne=>by
  have l2:=(q4g (h:=g) (l:=g) hb e he).lt;have a1:=q98 hb he _ inP.1;have a2:=q98 hb he _ inP.2;have b1:=q98 hb hp _ (q0s he).1;have b2:=q98 hb hp _ (q0s he).2;refine⟨HP,λz=>∅⟩;refine Classical.byContradiction λy=>hne (Prod.ext ?_ ?_) <;> omega
 have ties:∀e∈Kn g g bs++F.map WO,(e.1<=p.1↔e.2<=p.1):=λe he=>by
  rcases zJ.mp he with m|m
  ·unfold Kn at m
   rcases zJ.mp m with m|m
   ·rcases zJ.mp m with m|m
    ·have Gb:=G.b e m
     have n1:¬over e.1 e.2 p=true:=λy=>by
      have:=wV (yB.mpr ⟨m,y⟩:e∈bs.filter λb=>over b.1 b.2 p);have:=h0.1;unfold rts at this;omega
     have n2:¬over e.2 e.1 p=true:=λy=>by
      have:=wV (yB.mpr ⟨m,y⟩:e∈bs.filter λb=>over b.2 b.1 p);have:=h0.2;unfold lfs at this;omega
     unfold over at n1 n2;simp only[yN,decide_eq_true_eq]at n1 n2;omega
    ·cases zR.mp m;exact Iff.rfl
   ·obtain⟨m1,m2⟩:=yB.mp m
    refine gp e m1 λy=>?_;rw[y,q8a,h0.1,h0.2]at m2;cases m2
  ·exact gp e (qcF A m) λy=>no (y▸m)
 have key:=Rch.inv (λz=>z<=p.1) (zi _) (λb c hz hbc=>by
  rcases hbc with m|m
  ·exact(ties _ m).mp hz
  ·exact(ties _ m).mpr hz) (A.con p.1 inP.1 p.2 inP.2)
 omega
theorem q8p{f:gP}:∀(l m:ae),(∀x∈m,0<=f x)->l.Nodup->(∀x∈l,x∈m)->(l.map f).sum<=(m.map f).sum
 | [],m,h0,_,_=>by
  show DC<=_
  induction m with
  | nil=>exact zi _
  | cons a m ih=>
   have i1:=ih (λx hx=>h0 x jj) (λx hx=>by cases hx);have i2:=h0 a zE;rw[zU,zf];omega
 | a::l,m,h0,nd,h=>by
  have nd':=yj.mp nd;have ha:=h a zE;have ih:=q8p l (m.erase a) (λx hx=>h0 x (List.mem_of_mem_erase hx)) nd'.2 λx hx=>(Zw (λ(e:x=a)=>nd'.1 (by rw[<- e];exact hx))).mpr (h x jj);have:=q9U ((Zz ha).map f);rw[this,zU,zU,zf,zf];omega
theorem q8x(q:Int×Int->Bool)(f:gP):∀xs:List bh,(xs.map λx=>if q x=true then f x else 0).sum=((xs.filter q).map f).sum
 | []=>rfl
 | x::xs=>by
  rw[zU,zf,q8x q f xs]
  by_cases z:q x=true
  ·rw[gz,yU z,zU,zf]
  ·rw[gc,yV z];omega
theorem ql1{g:Int}{bs:ae}{F:dY}(hb:kj)(hy:∀b∈bs,g<=b.1/\g<=b.2)(A:RZ):yl g bs<=((XF RS).map (gwt g g bs)).sum+2*(F.map XZ).sum:=by
 have hb3:bs.length<=30:=∅
 have hG:=q4g (h:=g) (l:=g) hb3;obtain⟨r,er⟩:∃r,Pz g g bs=g::r:=by
  have hP:=q2b g g bs;have hg:g∈Pz g g bs:=(qI g).mpr bu;have all:∀p∈Pz g g bs,g<=p:=λp hp=>by
   rcases (qI p).mp hp with rfl|rfl|⟨b,hbm,rfl|rfl⟩
   ·exact zi _
   ·exact zi _
   ·exact(hy b hbm).1
   ·exact(hy b hbm).2
  cases e:Pz g g bs with
  | nil=>rw[e]at hg;cases hg
  | cons k r=>
   rw[e]at hP hg all;rcases zF.mp hg with z|z
   ·exact⟨r,by rw[<- z]⟩
   ·have:=(zQ.mp hP).1 g z
    have:=all k zE;omega
 obtain⟨N,n1,n2⟩:=qaM Pp r g (by rw[<- er];exact q2b g g bs);rw[<- er]at n1 n2;rw[qkI hy N λb hbm=>⟨n1 _ ((qI _).mpr (.inr (.inr ⟨b,hbm,bu⟩))),n1 _ ((qI _).mpr (.inr (.inr ⟨b,hbm,Aq⟩)))⟩,n2,<- q5V];have st:∀p∈XF (Pz g g bs),2*su Pp p.1 (p.2-p.1).toNat<=gwt g g bs p+(if decide iC=true then 2*pG else 0):=λp hp=>by
  have G:=hG p hp;have lt:=G.lt;have ro:=qeY (K:=[]) (bs:=bs) lt λb hbm _=>G.b b hbm;have up:su Pp p.1 (p.2-p.1).toNat<=mx3 1 (rts bs p) (lfs bs p)*QQ:=qbv λx h1 h2=>by
   have oc:=q9W (x:=x) (y:=p.2) (bs:=bs) ∅ λb hbm _=>by have:=G.b b hbm;omega
   unfold pu
   split
   ·rw[oc.1,oc.2,ro.1,ro.2];exact zi _
   ·unfold mx3;split <;> (try split) <;> omega
  rw[show (QQ:Int)=p.2-p.1 by omega]at up;have nn:0<=rts bs p/\0<=lfs bs p:=⟨YG _,YG _⟩;have c:2*mx3 1 (rts bs p) (lfs bs p)<=rts bs p+lfs bs p+W8 (XY g g bs p)+(if decide iC=true then 2 else 0):=by
   rw[q8a];generalize rts bs p=a at nn;generalize lfs bs p=b at nn;unfold mx3 W8
   by_cases z:a=0/\b=0
   ·obtain⟨rfl,rfl⟩:=z;decide
   ·rw[vX z,vJ (show ¬(false=true) by decide)]
    split <;> (try split) <;> (try split) <;> omega
  have m:=Int.mul_le_mul_of_nonneg_left c (show 0<=p.2-p.1 by omega);have e1:gwt g g bs p=pG*(rts bs p+lfs bs p+W8 (XY g g bs p)):=rfl;have e2:pG*(if decide iC=true then (2:Int)else 0)=if decide iC=true then 2*pG else 0:=by
   split
   ·rw[Zh]
   ·rw[wF]
  rw[wP,e2,<- e1,Zh,Int.mul_assoc]at m;omega
 have t:=qfy st;rw[q4W,q8x]at t;have nd:((XF RS).filter λp=>decide iC).Nodup:=(q4X (q2b g g bs)).filter _;have s:=q8p (f:=λp=>2*pG) _ HE (λx hx=>by have:=(hG x (qcF A hx)).lt;omega) nd λx hx=>by
  obtain⟨m1,m2⟩:=yB.mp hx;exact qg4 hb3 A m1 (of_decide_eq_true m2)
 have e6:((F.map WO).map λp=>2*pG)=F.map λe=>2*XZ e:=by
  rw[yL];exact yJ λe he=>by obtain⟨p,_,rfl⟩:=A.fs e he;rfl
 rw[e6,show (F.map λe=>2*XZ e).sum=2*(F.map XZ).sum from q5V 2 XZ F]at s;omega
theorem qg3{h l:Int}{bs:ae}{F:dY}(hb:bB)(A:mV){q:bW}(q2:q.Perm Au):(q.map λn=>WJ OT OS).sum=((XF aG).map IR).sum+2*(F.map XZ).sum:=by
 have e0:=q9U (q2.map λn=>WJ OT OS);have e1:((zo (arA h l bs F).length).map λn=>WJ OT OS)=(arA h l bs F).map λa=>WJ a.1 a.2:=by
  conv=>rhs;rw[<- qeH (0,0) bf]
  rw[yL];rfl
 have hG:=q4g (h:=h) (l:=l) hb;have wb:=q8m (h:=h) (l:=l) (q2b h l bs) bs (λb hb=>kh) hG;have we:=q9i fY BI λg hg=>(hG g hg).lt;have wt2:=qaw HE λg hg=>by
  obtain⟨e,he2,rfl⟩:=zz.mp hg;obtain⟨g2,hg2,rfl⟩:=A.fs e he2;exact(hG g2 hg2).lt
 have e6:((F.map WO).map λg=>g.2-g.1)=F.map XZ:=by
  rw[yL];exact yJ λe he=>by obtain⟨g,_,rfl⟩:=A.fs e he;rfl
 rw[e0,e1];unfold arA emA;rw[zW,xU,zW,xU,we,wt2,wb,e6,<- Z9,<- q4W];rw[show ((XF aG).map IR)=(XF aG).map λx=>(x.2-x.1)*(rts bs x+lfs bs x)+(x.2-x.1)*W8 (XY h l bs x)from yJ λg _=>by unfold gwt;rw[wP]]
theorem qdu(f:UA)(l:bW)(n:Nat):((l++[n]).map f).sum=(l.map f).sum+f n:=by
 rw[zW,xU];simp
theorem step55{as:ae}{B n:Nat}{x0 x1 x2 x3 y7 y8:cj}{L:aZ}{s:Int}(hl:L.length<1000000):∃x7 x8,q78 [x0,x1,x2,x3,some (.ow L),↥mS,lG,y7,y8]=some (.nx,[x0,x1,x2,x3,some (.ow (L++if Xm as n=Xt as n then []else [mvN B as n])),↥(.int (s+WJ ge jm)),lG,x7,x8]):=by
 unfold q78;have ba:∀a b:Int,zCv [.int (b-a)]=↥(.int (WJ a b)):=λ_ _=>rfl;have l4:Ec=4:=rfl;have l3:Tc=3:=rfl;have a3:∀{x y z w:D},atI [x,y,z,w] 3=some w:=rfl
 by_cases z:n<B
 ·rw[q7n z]
  generalize Xm as n=a;generalize Xt as n=b
  by_cases w:a=b
  ·have w':HZ=true:=by simpa using w
   simp_arith[l4,a3,ba,w',vH w,zk];exact gK
  ·have w':HZ=false:=by simpa using w
   simp_arith[l4,a3,ba,w',zBs hl,vJ w];exact gK
 ·rw[q99 z]
  generalize Xm as n=a;generalize Xt as n=b
  by_cases w:a=b
  ·have w':HZ=true:=by simpa using w
   simp_arith[l3,ba,w',vH w,zk];exact gK
  ·have w':HZ=false:=by simpa using w
   simp_arith[l3,ba,w',zBs hl,vJ w];exact gK
theorem qh3(ns:af)(hl:ns.length<=63):q5M [jn]=↥bn:=by
 obtain⟨g,ps,e1,p6,pg⟩:=qig (ns:=ns);obtain⟨bs,e2,bm,b9⟩:=qes (ns:=ns) (some':=g::ps) (by rw[zI,p6]) hl;have hy:∀b∈bs,g<=b.1/\g<=b.2:=λb hb=>by
  have al:∀x∈g::ps,g<=x:=λx hx=>(zF.mp hx).elim (λz=>∅) (pg x);exact⟨al _ (bm b hb).1,al _ (bm b hb).2⟩
 have hb2:bs.length<=20:=∅
 have hb:bs.length<=30:=∅
 obtain⟨F,A,a1⟩:=ql4 (h:=g) (l:=g) hb;obtain⟨q,q1,q2,q3⟩:=qih hb A;have yt:=qgK hb2 hy A q2 q3;have yl':=qfm g bs hb2 hy;have le:=ql1 hb2 hy A;have ls:=qg3 hb A q2;have al:=qao hb A;have ql:q.length=(arA g g bs F).length:=by rw[q2.length_eq,zx]
 rw[<- ls]at le a1;have bl:zAj [az]=some (.fr nP):=rfl;have e2':q0r [jn,.lst ((g::ps).map D.int)]=some (.fr nP):=e2;have yl2:q0z [kY,az]=↥J4:=yl';rw[zU]at e1 e2';unfold q5M qd2;simp_arith -implicitDefEqProofs [e1,e2',bl,q1];obtain⟨ω',e,x6,x7,x8,rfl⟩:=qK (g:=gN 6) (b:=q78) hZ q
  (λpre ω=>∃x6 x7 x8:Option W,ω=[↥jn,↥pE,↥kY,↥az,some (.ow ((pre.filter rf).map hZ)),↥(.int ((pre.map λn=>WJ (Xm bo n) (Xt bo n)).sum)),x6,x7,x8])
  (λpre n post ω hd ⟨x6,x7,x8,hω⟩=>by
   subst hω;refine ck;have pl:pre.length<=q.length:=by rw[hd,zC];omega
   have fl:=yH rf pre;have l1:((pre.filter rf).map hZ).length<1000000:=by rw[zA];omega
   obtain⟨x7',x8',eb⟩:=step55 (as:=arA g g bs F) (B:=bs.length) (n:=n) (x0:=↥jn) (x1:=↥pE) (x2:=↥kY) (x3:=↥az) (y7:=x7) (y8:=x8) (s:=(pre.map λn=>WJ (Xm bo n) (Xt bo n)).sum) l1;have fm:(pre.filter rf).map hZ++(if Xm bo n=Xt bo n then []else [mvN bs.length bo n])=((pre++[n]).filter rf).map hZ:=by
    rw[wN,zW]
    by_cases z:Xm bo n=Xt bo n
    ·rw[gz,yV ⇑z];rfl
    ·rw[gc,yU ⇑z];rfl
   rw[fm]at eb;rw[qdu];simp only[ZG,ZH];rw[eb];exact rZ)
  (ω:=[↥jn,↥pE,↥kY,↥az,lL,↥Ou,none,none,none]) nc
 simp_arith -implicitDefEqProofs [e,yt,yl2,le,a1,decide_true,beq_self_eq_true,bl]
theorem qjm{l:Zl}{w:vZ}{K:zB}{h:vm}{mg:bG}{fa:vG}(X:K.In h)(G:h.Ns vY mg)(hfa:mg "law" = some J0){f0:vG}{f1:vG}{f2:vG}{f3:vG}{f4:vG}{f5:vG}{f6:vG}{f7:vG}{f8:vG}{f9:vG}{f10:vG}{f11:vG}{f12:vG}{f13:vG}{f14:vG}{f15:vG}{f16:vG}{f17:vG}{f18:vG}{f19:vG}{f20:vG}{f21:vG}{f22:vG}{f23:vG}{f24:vG}{f25:vG}{f26:vG}{f27:vG}{f28:vG}{f29:vG}{f30:vG}{f31:vG}{f32:vG}{f33:vG}{f34:vG}{f35:vG}{f36:vG}{f37:vG}{f38:vG}{f39:vG}{f40:vG}{f41:vG}{f42:vG}{f43:vG}{f44:vG}{f45:vG}{f46:vG}{f47:vG}{f48:vG}{f49:vG}{f50:vG}{f51:vG}{f52:vG}{f53:vG}{f54:vG}{f55:vG}{f56:vG}{f57:vG}{f58:vG}{f59:vG}{f60:vG}(D0:Fd K "is_whole" q4K f0)(D1:Fd K "is_box" q6A f1)(D2:Fd K "is_errand" q3R f2)(D3:Fd K "check_errand" q2e f3)(D4:Fd K "stops" q7P f4)(D5:Fd K "gaps" q9Z f5)(D6:Fd K "gap_edges" q41 f6)(D7:Fd K "leads_over" q3j f7)(D8:Fd K "crossed" q5m f8)(D9:Fd K "lack" qa7 f9)(D10:Fd K "lacks" q82 f10)(D11:Fd K "is_yard" q5d f11)(D12:Fd K "check_yard" q3v f12)(D13:Fd K "yard_places" q2T f13)(D14:Fd K "times_passed" q27 f14)(D15:Fd K "passes" q6W f15)(D16:Fd K "yard_least" q3a f16)(D17:Fd K "neighbours" q3k f17)(D18:Fd K "group_of" q4L f18)(D19:Fd K "groups" q6H f19)(D20:Fd K "knots" q7z f20)(D21:Fd K "cost" q9I f21)(D22:Fd K "group_numbers" q25 f22)(D23:Fd K "with_two_joined" q1g f23)(D24:Fd K "forest" q6u f24)(D25:Fd K "groups_below" q2i f25)(D26:Fd K "levels" q6l f26)(D27:Fd K "weighed" q5C f27)(D28:Fd K "all_whole" q4a f28)(D29:Fd K "counts_of" q49 f29)(D30:Fd K "are_counts" q3C f30)(D31:Fd K "is_group" q4u f31)(D32:Fd K "are_groups" q3m f32)(D33:Fd K "holds_together" q1D f33)(D34:Fd K "is_level" q4R f34)(D35:Fd K "rise_from_one" q1S f35)(D36:Fd K "are_levels" q3z f36)(D37:Fd K "is_reason" q3Z f37)(D38:Fd K "gap_weight" q3y f38)(D39:Fd K "weight" q6i f39)(D40:Fd K "reason" q6V f40)(D41:Fd K "least" q81 f41)(D42:Fd K "numbers_by_start" q0b f42)(D43:Fd K "as_many_begin_as_end" q0m f43)(D44:Fd K "round_from" q0Y f44)(D45:Fd K "row_of" q6p f45)(D46:Fd K "row_between" q2N f46)(D47:Fd K "is_go" q87 f47)(D48:Fd K "has_carry_form" q1B f48)(D49:Fd K "leads" q7F f49)(D50:Fd K "lacking_arcs" q28 f50)(D51:Fd K "forest_arcs" q2K f51)(D52:Fd K "move_along" q3x f52)(D53:Fd K "tour" qaJ f53)(D54:Fd K "is_yard_carry" q21 f54)(D55:Fd K "brings_each_box" q1l f55)(D56:Fd K "is_yard_tour" q26 f56)(D57:Fd K "_law_cell" q44 f57)(D58:Fd K "_law_menu" q3V f58)(D59:Fd K "_law_boxes" q3t f59)(D60:Fd K "law" q5W f60)(z0:yY K vY "isinstance" = some none)(z9:yY K vY "bool" = some none)(z10:yY K vY "int" = some none)(z14:yY K vY "len" = some none)(z15:yY K vY "tuple" = some none)(z18:yY K vY "list" = some none)(z19:yY K vY "all" = some none)(z23:yY K vY "sorted" = some none)(z24:yY K vY "set" = some none)(z26:yY K vY "zip" = some none)(z31:yY K vY "min" = some none)(z33:yY K vY "max" = some none)(z38:yY K vY "sum" = some none)(z42:yY K vY "enumerate" = some none)(z60:yY K vY "abs" = some none)(z_reversed:yY K vY "reversed" = some none)(z80:yY K vY "range" = some none)(z11:IsT K .int)(z12:IsT K .bl)(z16:IsT K .tup)(z20:IsT K .lst): ∃fd:vQ,(∀(s:vC)(v:vB),sW s fd ⟨[v],[]⟩ [("script", v)])/\∀base:vm,K.In base->base.Ns vY mg->FnOk l.prog w K mg base CX0 13 fa fd Ep (spD K 1 q5M):=by
 have e:=hfa.symm.trans (ZP X G D60.1);cases e;obtain⟨d0,F0⟩:=D0.2;obtain⟨d1,F1⟩:=D1.2;obtain⟨d2,F2⟩:=D2.2;obtain⟨d3,F3⟩:=D3.2;obtain⟨d4,F4⟩:=D4.2;obtain⟨d5,F5⟩:=D5.2;obtain⟨d6,F6⟩:=D6.2;obtain⟨d7,F7⟩:=D7.2;obtain⟨d8,F8⟩:=D8.2;obtain⟨d9,F9⟩:=D9.2;obtain⟨d10,F10⟩:=D10.2;obtain⟨d11,F11⟩:=D11.2;obtain⟨d12,F12⟩:=D12.2;obtain⟨d13,F13⟩:=D13.2;obtain⟨d14,F14⟩:=D14.2;obtain⟨d15,F15⟩:=D15.2;obtain⟨d16,F16⟩:=D16.2;obtain⟨d17,F17⟩:=D17.2;obtain⟨d18,F18⟩:=D18.2;obtain⟨d19,F19⟩:=D19.2;obtain⟨d20,F20⟩:=D20.2;obtain⟨d21,F21⟩:=D21.2;obtain⟨d22,F22⟩:=D22.2;obtain⟨d23,F23⟩:=D23.2;obtain⟨d24,F24⟩:=D24.2;obtain⟨d25,F25⟩:=D25.2;obtain⟨d26,F26⟩:=D26.2;obtain⟨d27,F27⟩:=D27.2;obtain⟨d28,F28⟩:=D28.2;obtain⟨d29,F29⟩:=D29.2;obtain⟨d30,F30⟩:=D30.2;obtain⟨d31,F31⟩:=D31.2;obtain⟨d32,F32⟩:=D32.2;obtain⟨d33,F33⟩:=D33.2;obtain⟨d34,F34⟩:=D34.2;obtain⟨d35,F35⟩:=D35.2;obtain⟨d36,F36⟩:=D36.2;obtain⟨d37,F37⟩:=D37.2;obtain⟨d38,F38⟩:=D38.2;obtain⟨d39,F39⟩:=D39.2;obtain⟨d40,F40⟩:=D40.2;obtain⟨d41,F41⟩:=D41.2;obtain⟨d42,F42⟩:=D42.2;obtain⟨d43,F43⟩:=D43.2;obtain⟨d44,F44⟩:=D44.2;obtain⟨d45,F45⟩:=D45.2;obtain⟨d46,F46⟩:=D46.2;obtain⟨d47,F47⟩:=D47.2;obtain⟨d48,F48⟩:=D48.2;obtain⟨d49,F49⟩:=D49.2;obtain⟨d50,F50⟩:=D50.2;obtain⟨d51,F51⟩:=D51.2;obtain⟨d52,F52⟩:=D52.2;obtain⟨d53,F53⟩:=D53.2;obtain⟨d54,F54⟩:=D54.2;obtain⟨d55,F55⟩:=D55.2;obtain⟨d56,F56⟩:=D56.2;obtain⟨d57,F57⟩:=D57.2;obtain⟨d58,F58⟩:=D58.2;obtain⟨d59,F59⟩:=D59.2;obtain⟨_,F60⟩:=D60.2;obtain⟨_,_,kV,dc,pm,an,cd,ct,_,rfl,_,_⟩:=F60.ex;have y_isinstance:=yE X G z0;have y_bool:=yE X G z9;have y_int:=yE X G z10;have y_len:=yE X G z14;have y_tuple:=yE X G z15;have y_list:=yE X G z18;have y_all:=yE X G z19;have y_sorted:=yE X G z23;have y_set:=yE X G z24;have y_zip:=yE X G z26;have y_min:=yE X G z31;have y_max:=yE X G z33;have y_sum:=yE X G z38;have y_enumerate:=yE X G z42;have y_abs:=yE X G z60;have y_reversed:=yE X G z_reversed;have y_range:=yE X G z80;refine⟨xp "law" "law" (Wa q5W) (WE q5W) (Y9 q5W) .none kV dc pm an cd ct,λs v=>.of_eq rfl,λbase _ _=>?_⟩;have C0:=qi l.prog w base X G D0 F0 (qbk y_isinstance y_bool y_int z11 z12 F0) λ_ _ _ _ _ _ us hl=>match us,hl with|[_],_=>rfl
 have C1:=qi l.prog w base X G D1 F1 (qeM y_isinstance C0 y_len y_tuple z16 F1) λ_ _ _ _ _ _ us hl=>match us,hl with|[_],_=>rfl
 have C2:=qi l.prog w base X G D2 F2 (qaG y_isinstance C0 C1 y_list y_all z20 F2) λ_ _ _ _ _ _ us hl=>match us,hl with|[_,_,_],_=>rfl
 have C3:=qi l.prog w base X G D3 F3 (q7h C2 F3) λ_ _ _ _ _ _ us hl=>match us,hl with|[_,_,_],_=>rfl
 have C4:=qi l.prog w base X G D4 F4 (qgz C3 y_sorted y_set F4) λ_ _ _ _ _ _ us hl=>match us,hl with|[_,_,_],_=>rfl
 have C5:=qi l.prog w base X G D5 F5 (qj9 y_list C4 y_zip F5) λ_ _ _ _ _ _ us hl=>match us,hl with|[_,_,_],_=>rfl
 have C6:=qi l.prog w base X G D6 F6 (qaQ C5 F6) λ_ _ _ _ _ _ us hl=>match us,hl with|[_,_,_],_=>rfl
 have C7:=qi l.prog w base X G D7 F7 (q8S F7) λ_ _ _ _ _ _ us hl=>match us,hl with|[_,_,_],_=>rfl
 have C8:=qi l.prog w base X G D8 F8 (qdm y_len C7 F8) λ_ _ _ _ _ _ us hl=>match us,hl with|[_,_],_=>rfl
 have C9:=qi l.prog w base X G D9 F9 (qif C8 F9) λ_ _ _ _ _ _ us hl=>match us,hl with|[_,_,_,_],_=>rfl
 have C10:=qi l.prog w base X G D10 F10 (qgX C5 C9 F10) λ_ _ _ _ _ _ us hl=>match us,hl with|[_,_,_],_=>rfl
 have C11:=qi l.prog w base X G D11 F11 (qda y_all C2 y_min F11) λ_ _ _ _ _ _ us hl=>match us,hl with|[_,_],_=>rfl
 have C12:=qi l.prog w base X G D12 F12 (q92 C11 F12) λ_ _ _ _ _ _ us hl=>match us,hl with|[_,_],_=>rfl
 have C13:=qi l.prog w base X G D13 F13 (q7C y_sorted y_set F13) λ_ _ _ _ _ _ us hl=>match us,hl with|[_,_],_=>rfl
 have C14:=qi l.prog w base X G D14 F14 (q7g C8 y_max F14) λ_ _ _ _ _ _ us hl=>match us,hl with|[_,_],_=>rfl
 have C15:=qi l.prog w base X G D15 F15 (qfj y_zip C12 C13 C14 F15) λ_ _ _ _ _ _ us hl=>match us,hl with|[_,_],_=>rfl
 have C16:=qi l.prog w base X G D16 F16 (q8U C15 y_sum F16) λ_ _ _ _ _ _ us hl=>match us,hl with|[_,_],_=>rfl
 have C17:=qi l.prog w base X G D17 F17 (q91 F17) λ_ _ _ _ _ _ us hl=>match us,hl with|[_,_],_=>rfl
 have C18:=qi l.prog w base X G D18 F18 (qaS y_sorted F18) λ_ _ _ _ _ _ us hl=>match us,hl with|[_,_],_=>rfl
 have C19:=qi l.prog w base X G D19 F19 (qdD y_sorted C17 C18 F19) λ_ _ _ _ _ _ us hl=>match us,hl with|[_,_],_=>rfl
 have C20:=qi l.prog w base X G D20 F20 (qh4 y_list y_zip C5 C10 F20) λ_ _ _ _ _ _ us hl=>match us,hl with|[_,_,_],_=>rfl
 have C21:=qi l.prog w base X G D21 F21 (qj4 F21) λ_ _ _ _ _ _ us hl=>match us,hl with|[_],_=>rfl
 have C22:=qi l.prog w base X G D22 F22 (q6F y_enumerate F22) λ_ _ _ _ _ _ us hl=>match us,hl with|[_],_=>rfl
 have C23:=qi l.prog w base X G D23 F23 (q5E F23) λ_ _ _ _ _ _ us hl=>match us,hl with|[_,_,_],_=>rfl
 have C24:=qi l.prog w base X G D24 F24 (qeP y_sorted C22 C19 C21 C23 F24) λ_ _ _ _ _ _ us hl=>match us,hl with|[_,_,_],_=>rfl
 have C25:=qi l.prog w base X G D25 F25 (q7a C19 C21 F25) λ_ _ _ _ _ _ us hl=>match us,hl with|[_,_,_,_],_=>rfl
 have C26:=qi l.prog w base X G D26 F26 (qdK y_sorted y_set C21 C24 C25 F26) λ_ _ _ _ _ _ us hl=>match us,hl with|[_,_,_],_=>rfl
 have C27:=qi l.prog w base X G D27 F27 (qcW y_len F27) λ_ _ _ _ _ _ us hl=>match us,hl with|[_,_],_=>rfl
 have C28:=qi l.prog w base X G D28 F28 (qa9 C0 y_all F28) λ_ _ _ _ _ _ us hl=>match us,hl with|[_],_=>rfl
 have C29:=qi l.prog w base X G D29 F29 (q9j C5 C8 F29) λ_ _ _ _ _ _ us hl=>match us,hl with|[_,_,_],_=>rfl
 have C30:=qi l.prog w base X G D30 F30 (q95 y_all C28 F30) λ_ _ _ _ _ _ us hl=>match us,hl with|[_,_],_=>rfl
 have C31:=qi l.prog w base X G D31 F31 (qbl y_isinstance y_len y_list z20 C28 F31) λ_ _ _ _ _ _ us hl=>match us,hl with|[_],_=>rfl
 have C32:=qi l.prog w base X G D32 F32 (q94 y_isinstance y_list y_all z20 y_sorted C31 F32) λ_ _ _ _ _ _ us hl=>match us,hl with|[_,_],_=>rfl
 have C33:=qi l.prog w base X G D33 F33 (q65 y_all C22 F33) λ_ _ _ _ _ _ us hl=>match us,hl with|[_,_],_=>rfl
 have C34:=qi l.prog w base X G D34 F34 (qbd y_isinstance C0 y_len y_tuple z16 C21 C32 C33 F34) λ_ _ _ _ _ _ us hl=>match us,hl with|[_,_,_,_],_=>rfl
 have C35:=qi l.prog w base X G D35 F35 (q6D y_all y_zip F35) λ_ _ _ _ _ _ us hl=>match us,hl with|[_],_=>rfl
 have C36:=qi l.prog w base X G D36 F36 (q8P y_isinstance y_list y_all z20 C4 C20 C6 C34 C35 F36) λ_ _ _ _ _ _ us hl=>match us,hl with|[_,_,_,_],_=>rfl
 have C37:=qi l.prog w base X G D37 F37 (q9e y_isinstance y_len y_tuple z16 C3 C36 C30 C29 F37) λ_ _ _ _ _ _ us hl=>match us,hl with|[_,_,_,_],_=>rfl
 have C38:=qi l.prog w base X G D38 F38 (q8Q y_abs F38) λ_ _ _ _ _ _ us hl=>match us,hl with|[_,_],_=>rfl
 have C39:=qi l.prog w base X G D39 F39 (qfq y_zip y_sum C10 C37 C38 C27 F39) λ_ _ _ _ _ _ us hl=>match us,hl with|[_,_,_,_],_=>rfl
 have C40:=qi l.prog w base X G D40 F40 (qe2 C4 C20 C6 C29 C26 F40) λ_ _ _ _ _ _ us hl=>match us,hl with|[_,_,_],_=>rfl
 have C41:=qi l.prog w base X G D41 F41 (qgd C39 C40 F41) λ_ _ _ _ _ _ us hl=>match us,hl with|[_,_,_],_=>rfl
 have C42:=q54 (P:=l.prog) (w:=w) (mg:=mg) (base:=base) F42 y_enumerate;have C43:=qi l.prog w base X G D43 F43 (q3I y_sorted F43) λ_ _ _ _ _ _ us hl=>match us,hl with|[_],_=>rfl
 have C44:=qi l.prog w base X G D44 F44 (q8W F44 C42 (ZP X G D42.1) F42.kp (F42.binds (ps:=Ds) λ_ _ _ _ _ _ us hl=>match us,hl with|[_],_=>rfl) y_list y_reversed) λ_ _ _ _ _ _ us hl=>match us,hl with|[_,_],_=>rfl
 have C45:=qi l.prog w base X G D45 F45 (qed y_len C43 C44 F45) λ_ _ _ _ _ _ us hl=>match us,hl with|[_,_],_=>rfl
 have C46:=qi l.prog w base X G D46 F46 (q7O y_len C45 F46) λ_ _ _ _ _ _ us hl=>match us,hl with|[_,_,_],_=>rfl
 have C47:=qi l.prog w base X G D47 F47 (qgC y_isinstance C0 y_len y_tuple z16 F47) λ_ _ _ _ _ _ us hl=>match us,hl with|[_],_=>rfl
 have C48:=qi l.prog w base X G D48 F48 (q63 y_isinstance C0 y_len y_tuple z16 y_all F48) λ_ _ _ _ _ _ us hl=>match us,hl with|[_,_],_=>rfl
 have C49:=qi l.prog w base X G D49 F49 (qfZ F49) λ_ _ _ _ _ _ us hl=>match us,hl with|[_,_,_],_=>rfl
 have C50:=qi l.prog w base X G D50 F50 (q7r y_zip C5 C10 y_abs F50) λ_ _ _ _ _ _ us hl=>match us,hl with|[_,_,_],_=>rfl
 have C51:=qi l.prog w base X G D51 F51 (q7S C4 C24 C20 C6 F51) λ_ _ _ _ _ _ us hl=>match us,hl with|[_,_,_],_=>rfl
 have C52:=qi l.prog w base X G D52 F52 (q8Y y_len F52) λ_ _ _ _ _ _ us hl=>match us,hl with|[_,_,_],_=>rfl
 have C53:=qi l.prog w base X G D53 F53 (qhY C50 C51 C46 C52 F53) λ_ _ _ _ _ _ us hl=>match us,hl with|[_,_,_],_=>rfl
 have C54:=qi l.prog w base X G D54 F54 (q6h C48 F54) λ_ _ _ _ _ _ us hl=>match us,hl with|[_,_],_=>rfl
 have C55:=qi l.prog w base X G D55 F55 (q5x F55) λ_ _ _ _ _ _ us hl=>match us,hl with|[_,_],_=>rfl
 have C56:=qi l.prog w base X G D56 F56 (q77 y_isinstance y_list y_all z20 C12 C54 C47 C55 C49 F56) λ_ _ _ _ _ _ us hl=>match us,hl with|[_,_,_],_=>rfl
 have C57:=qi l.prog w base X G D57 F57 (qac y_len F57) λ_ _ _ _ _ _ us hl=>match us,hl with|[_,_],_=>rfl
 have C58:=qi l.prog w base X G D58 F58 (qag C57 y_range F58) λ_ _ _ _ _ _ us hl=>match us,hl with|[_],_=>rfl
 have C59:=qi l.prog w base X G D59 F59 (q93 C57 F59) λ_ _ _ _ _ _ us hl=>match us,hl with|[_,_],_=>rfl
 exact qjk y_len y_list y_abs C58 C59 C53 C56 C41 C16 F60
theorem walk{l:Zl}{q:vU}{loose:dJ}{XP:RC}{YP:Ra}{d:DefRec}{K:Params->zB}(hn:l.most=some 63)(hdf:FY)(hY:∀(w:vZ)(h:vm),YP w h->(K w.params).In h)(F:∀(w:vZ)(mg:bG)(fa:vG)(h:vm),(K w.params).In h->h.Ns vY mg->mg d.name=some J0 ->
   ∃fd:vQ,(∀(s:vC)(u:vB),sW s fd QZ [("script", u)])/\∀base:vm,(K w.params).In base->base.Ns vY mg->FnOk l.prog w CV mg base CX0 13 fa fd Ep (spD CV 1 q5M)) :
  Yx q loose XP YP l.row.toRowW d [] AV :=
 L2.qc8 (n:=63) (k:=13) (x := "script") (CX:=λ_=>CX0) (sp:=λw=>spD CV 1 q5M) hn (by decide) hdf ⟨rfl,by decide,by decide⟩ hY F
  (λ_ H a ns hl _ hS=>⟨H,[jn],Oq,qh3 ns hl,rfl,gr,⟨dq,[],rfl,⟨a,rfl,hS⟩,rfl⟩,λ_ _ _ _ y=>y⟩) λ_ _ _ _ _ z=>z
end Kx
end
namespace PySem.W.Fast
def tw9864261853244383123:=0
def tw12859450197778120719:=0
def tw1575803238290530598:=0
def tw12819057081818381076:=0
def tw357343916045963241:=0
def tw8536077337778551672:=0
def tw13265097039719827348:=0
def tw4187249938371926794:=0
def tw2838056079235092809:=0
def tw15018862385506782712:=0
def tw234881728435541620:=0
def tw4549264298044233346:=0
def tw6408711836426951371:=0
def tw5699688986950644966:=0
def tw12360626040144113116:=0
def tw18323788371727592461:=0
def tw17000568803998801044:=0
def tw17597062215199408640:=0
def tw7421959573773050761:=0
def tw2936294494431003495:=0
def tw1953725627331160427:=0
def tw8597858891674562211:=0
def tw5147685983500381026:=0
def tw7183323636799484039:=0
def tw16167819930694363982:=0
def tw17136368036513003161:=0
def tw11441972431581594181:=0
def tw3657487306279291724:=0
def tw5034163654724874372:=0
def tw13503877684408678743:=0
def tw984110748348545134:=0
def tw8438561053524423010:=0
def tw2651342474601045033:=0
def tw2573316425765211148:=0
def tw10569780417387956680:=0
def tw1253008014506059567:=0
def tw1674243884651992325:=0
def tw17526904165375252393:=0
def tw11276041824093061008:=0
def tw10270352450732844063:=0
def tw18011644554851346616:=0
def tw6039962686195368068:=0
def tw7242496900171211906:=0
def tw12106016016157925416:=0
def tw11687144033962303671:=0
def tw1494615947007808937:=0
def tw15428580104174822836:=0
def tw1198534530644908823:=0
def tw16993848677252335316:=0
def tw13111395459536698465:=0
def tw13246647472561574668:=0
def tw1337314807468229339:=0
def tw6195322393791294221:=0
def tw5830449102783872925:=0
def tw9440829007278511010:=0
def tw4297271984370549172:=0
def tw3207333724856855368:=0
def tw2266880335178225529:=0
def tw3987872238173429332:=0
def tw15770183157756095514:=0
def tw15472290224836014842:=0
def tw13727384764048354804:=0
def tw16060311645603145224:=0
def tw4062371150641755523:=0
def tw15888666619926950019:=0
def tw13078018155175237412:=0
def tw9253166816522113703:=0
def tw5422547462343924845:=0
def tw348929955139067141:=0
def tw15651911030184408983:=0
def tw16457641509293607727:=0
def tw13430223665826773324:=0
def tw7077426592874934841:=0
def tw12014982214699025046:=0
def tw4777743981961836725:=0
def tw1793582168735408088:=0
def tw15419906795683758015:=0
def tw1724499197302547589:=0
def tw14720995862237037852:=0
def tw10199353901732482831:=0
def tw14579228049691674694:=0
def tw17906734713477155346:=0
def tw5480217017648802936:=0
def tw18121773549034652611:=0
def tw3283208422483123239:=0
def tw9709584009364663482:=0
def tw2444019721864340167:=0
def tw13781522953937768155:=0
def tw13894465092034223063:=0
def tw3881305917270013073:=0
def tw1271591241829645099:=0
def tw2814196584512995626:=0
def tw16279703127540903945:=0
def tw7468253535990231834:=0
def tw3244875105494467479:=0
def tw15470382542754637877:=0
def tw10741392947157115452:=0
def tw13098887067768264089:=0
def tw12795001952534782332:=0
def tw17657091487647004986:=0
def tw3453434450905122431:=0
def tw12254457895042888433:=0
def tw4715314972113148900:=0
def tw8597114645311826011:=0
def tw13643845215962784232:=0
def tw11178000509896573173:=0
def tw13155097173401376883:=0
def tw10856031791756598491:=0
def tw805989184392713780:=0
def tw10107515037811486834:=0
def tw543026213095147704:=0
def tw14032421653399748666:=0
def tw6161540497395788608:=0
def tw4744993246505013214:=0
def tw8969407588974482790:=0
def tw321857842609006041:=0
def tw9692795115263609120:=0
def tw15609539454877634105:=0
def tw6781934557711084767:=0
def tw13843600539362785132:=0
def tw4211223453836611794:=0
def tw7728048042440244777:=0
def tw2137730963252498537:=0
def tw12479052321815175861:=0
def tw8985561628162451097:=0
def tw14545760878110718090:=0
def tw15513344043843838529:=0
def tw4040425388731296452:=0
def tw16058838036570389779:=0
def tw2934878362482505463:=0
def tw4482472106615424151:=0
def tw10525657754860665168:=0
def tw5001639099825220042:=0
def tw9576057414177363603:=0
def tw16383611674812304309:=0
def tw17976621475861262716:=0
def tw14140207660182324238:=0
def tw12242129112686056941:=0
def tw10605598411991060140:=0
def tw3701892513919460205:=0
def tw15061553113258684689:=0
def tw17990656101904834703:=0
def tw12344114565751949056:=0
def tw10569317611104941541:=0
def tw15633764107664628419:=0
def tw1644634200664354675:=0
def tw1535228473130860269:=0
def tw16504635089003119071:=0
def tw634430371672763134:=0
def tw7589487073649037773:=0
def tw10531275576802821447:=0
def tw5474936663535005626:=0
def tw16781755866856192865:=0
def tw72391258546715821:=0
def tw14546632429323558284:=0
def tw6048070798625800162:=0
def tw10386318083119013099:=0
def tw15154599661392768761:=0
def tw5789049779398442917:=0
def tw2655180379682026185:=0
def tw12368072460158446121:=0
def tw16365247854606661888:=0
def tw7135896169770856423:=0
def tw10849489809980052694:=0
def tw5763430683315994168:=0
def tw10422995048552243709:=0
def tw2382101969562442591:=0
def tw7239775414497227425:=0
def tw8109768654753504896:=0
def tw7639124108171758915:=0
def tw9311503349921514843:=0
def tw7430677350070556310:=0
def tw13878798557213988:=0
def tw14698589848448977132:=0
def tw8609610275096431466:=0
def tw2375260464694735872:=0
def tw4493388569360882053:=0
def tw8493095392577582692:=0
def tw2092246568535355141:=0
def tw11148331639648901478:=0
def tw570085681016052589:=0
def tw2060117543714784326:=0
def tw9833295801296394516:=0
def tw6714810478999860942:=0
def tw5950022428639581949:=0
def tw10594419796600135727:=0
def tw12553171958345771093:=0
def tw6455630626305717124:=0
def tw17563781137082283044:=0
def tw5032909903313934827:=0
def tw16456014992148633217:=0
def tw1123882427058905594:=0
def tw6055830526708216036:=0
def tw8916192578289350062:=0
def tw13139307406465849500:=0
def tw1931186807526920740:=0
def tw14223938513674692753:=0
def tw16343142726493285487:=0
def tw1607988393169993546:=0
def tw18108854714225169935:=0
def tw2524296285404736671:=0
def tw8227243496504288317:=0
def tw5727374719961386430:=0
def tw8201800727118861253:=0
def tw3088807919357468064:=0
def tw9970677735052519622:=0
def tw14042231885662651481:=0
def tw2183415150317557503:=0
def tw14503028933996966175:=0
def tw10069286790737691948:=0
def tw3660263426632966914:=0
def tw1184234864137253173:=0
def tw3525183007637900414:=0
def tw14326931417130387999:=0
def tw5463950971965230466:=0
def tw8666331546065951839:=0
def tw12616412475389543700:=0
def tw677424422850715852:=0
def tw10120023990388772730:=0
def tw17141309489813387221:=0
def tw1666914593007508151:=0
def tw3989726360605153056:=0
def tw3333509526483216649:=0
def tw8917570299088141473:=0
def tw13149062582739085968:=0
def tw16538098522584983457:=0
def tw15497184032478996637:=0
def tw6168470166938122683:=0
def tw15691392215820857984:=0
def tw373504597523046769:=0
def tw11195526742855970156:=0
def tw6517791186097285411:=0
def tw2163490970998254703:=0
def tw17744940758170425958:=0
def tw6367809739727051252:=0
def tw11634787843493139809:=0
def tw13113411066357737716:=0
def tw16484543450536585707:=0
def tw13168739182721888980:=0
def tw10026980755604903487:=0
def tw12314591726960837482:=0
def tw15365909288053414713:=0
def tw17644526447671484301:=0
def tw14491960248043527509:=0
def tw13474579457682230895:=0
def tw4173918920335587511:=0
def tw5914063136581934975:=0
def tw13990056631042711229:=0
def tw6272381484593735193:=0
def tw17534438255335964426:=0
def tw2819400423483770019:=0
def tw14131867933821677294:=0
def tw3411570354257567996:=0
def tw762172128659325838:=0
def tw14256570432704045394:=0
def tw13718987778105558101:=0
def tw16079284505693288456:=0
def tw6771984360471020836:=0
def tw1814959796824010720:=0
def tw17133326605262242622:=0
def tw12038096059880826682:=0
def tw8861733453540368735:=0
def tw14130968683574183286:=0
def tw15240048359101879741:=0
def tw678257520824157460:=0
def tw3916691913806350746:=0
def tw8287116347654347299:=0
def tw7146027939890195729:=0
def tw11220699529991156045:=0
def tw2955365051445769898:=0
def tw12165567553379229214:=0
def tw11046211585699127664:=0
def tw8028015926470747579:=0
def tw6816321891161932588:=0
def tw12158129991972602225:=0
def tw16118597202487898983:=0
def tw18005981997872075196:=0
def tw15379631891575963188:=0
def tw10867791772797198073:=0
def tw5450224235829027580:=0
def tw18380338980455897070:=0
def tw13026723252226339051:=0
def tw1994980297801431582:=0
def tw16282928790725795298:=0
def tw912653143472226653:=0
def tw13141740042367492928:=0
def tw6138662944793534150:=0
def tw14113340386322058035:=0
def tw14959344105322381099:=0
def tw944135544216234149:=0
def tw1542509673960270151:=0
def tw12478315133356891805:=0
def tw10579056497029818357:=0
def tw8333552952931598836:=0
def tw10815392788337000448:=0
def tw12555459332368100225:=0
def tw15824192510675622845:=0
def tw14791399128449835617:=0
def tw14880854690697136835:=0
def tw10989694929701560995:=0
def tw7439188057920153571:=0
def tw6158762265392718570:=0
def tw4347598182533195721:=0
def tw12628252620333024577:=0
def tw8500868664154227486:=0
def tw8415323400415548058:=0
def tw12795018150094181494:=0
def tw17321085484446367491:=0
def tw15341929507529380635:=0
def tw12728649416870509637:=0
def tw5955377316901825512:=0
def tw6277657480362751725:=0
def tw6574604316389848279:=0
def tw11549531876794165282:=0
def tw11578178450757388276:=0
def tw4080794791412294272:=0
def tw5267114697628732809:=0
def tw2220494629464869888:=0
def tw9473846625222067121:=0
def tw16296747018385962860:=0
def tw7488680644399673220:=0
def tw6148031411283011798:=0
def tw14454429040263530559:=0
def tw2044464748118609065:=0
def tw10731246833828043865:=0
def tw9589683586429052364:=0
def tw6639749049063062102:=0
def tw5268714439421437742:=0
def tw14220532211982793696:=0
def tw13231801614487818779:=0
def tw9001146240330049226:=0
def tw13895880270922506115:=0
def tw5449990990816404349:=0
def tw17944976314357407897:=0
def tw13110315827608067003:=0
def tw1080451865916782458:=0
def tw7061663394713485786:=0
def tw9625142169672378588:=0
def tw12888946966257280388:=0
def tw4353319719685121905:=0
def tw408091373984153978:=0
def tw13446467127007027834:=0
def tw6583956007731623135:=0
def tw17522362398903001276:=0
def tw15261105840309486361:=0
def tw16948429037641651437:=0
def tw2140858412458469370:=0
def tw2781868189769650900:=0
def tw10141870373698745378:=0
def tw9412007652407509809:=0
def tw17904411821509818973:=0
def tw11416686022252369195:=0
def tw3521456931322846945:=0
def tw4384908981545890140:=0
def tw10445552651898789065:=0
def tw7361274637845645906:=0
def tw211949576845526033:=0
def tw6731249618379656629:=0
def tw15906604400058645797:=0
def tw16689596835077678397:=0
def tw991121876415860965:=0
def tw5903612281008765261:=0
def tw1401138902419090372:=0
def tw1407932371868633342:=0
def tw3659904435455472808:=0
def tw2574431812709148596:=0
def tw16518837255880521078:=0
def tw14110766736869348398:=0
def tw12412310671055057829:=0
def tw8126586628297805368:=0
def tw15655275418189798222:=0
def tw17794914629443408649:=0
def tw730339187234167659:=0
def tw3799680806856859335:=0
def tw10992446359654613046:=0
def tw15142979458893135935:=0
def tw8348026708667783691:=0
def tw5225166595000122123:=0
def tw9221129969796151005:=0
def tw16664685600312004394:=0
def tw10374319933510828425:=0
def tw1950645353291732765:=0
def tw18131004799903017141:=0
def tw18166217929924979153:=0
def tw1069754487189771754:=0
def tw14759981225881854306:=0
def tw6302541040160542797:=0
def tw8666631585525495184:=0
def tw5012326995230868668:=0
def tw14845222545518702842:=0
def tw5792824312837988534:=0
def tw9900837589006578934:=0
def tw10785976062504414645:=0
def tw14837546395721934822:=0
def tw10466702967555249548:=0
def tw15732726193593184874:=0
def tw13330069569611604116:=0
def tw15285864898281792347:=0
def tw903794152937141285:=0
def tw3908888609635090973:=0
def tw17115446809508190955:=0
def tw12599971421668720160:=0
def tw10614676758325023339:=0
def tw14618826426687066618:=0
def tw6839817885961907555:=0
def tw13694968334064592784:=0
def tw8191839358432702382:=0
def tw15564459286638774619:=0
def tw4768694914700919302:=0
def tw5943216426595150581:=0
def tw2125951515765668660:=0
def tw9432209351744794472:=0
def tw12744741281976302128:=0
def tw9672661143845100777:=0
def tw10345671637208151572:=0
def tw9854137386989750403:=0
def tw7378019822626060953:=0
def tw10795412012086356410:=0
def tw13774403597410973037:=0
end PySem.W.Fast
open PySem PySem.W PyProof.Rows
set_option maxRecDepth 100000 in
set_option maxHeartbeats 0 in
theorem PySem.Challenge.cw_hookrail_k55_yards_and_rails_holds : PySem.Challenge.rw_hookrail_k55_yards_and_rails.Holds := by
 w_on;o_law;k_head;(case hw=>w_witness2)
 k_fill
 refine Kx.walk (l:=PySem.Challenge.rw_hookrail_k55_yards_and_rails) rfl rfl (λw h Y=>Yr Y) ?F
 case F =>
  intro w mg fa h KX G hmg;refine' Kx.qjm KX G hmg ?D0 ?D1 ?D2 ?D3 ?D4 ?D5 ?D6 ?D7 ?D8 ?D9 ?D10 ?D11 ?D12 ?D13 ?D14 ?D15 ?D16 ?D17 ?D18 ?D19 ?D20 ?D21 ?D22 ?D23 ?D24 ?D25 ?D26 ?D27 ?D28 ?D29 ?D30 ?D31 ?D32 ?D33 ?D34 ?D35 ?D36 ?D37 ?D38 ?D39 ?D40 ?D41 ?D42 ?D43 ?D44 ?D45 ?D46 ?D47 ?D48 ?D49 ?D50 ?D51 ?D52 ?D53 ?D54 ?D55 ?D56 ?D57 ?D58 ?D59 ?D60 ?z0 ?z9 ?z10 ?z14 ?z15 ?z18 ?z19 ?z23 ?z24 ?z26 ?z31 ?z33 ?z38 ?z42 ?z60 ?z_reversed ?z80 ?z11 ?z12 ?z16 ?z20
  (case D0|D1|D2|D3|D4|D5|D6|D7|D8|D9|D10|D11|D12|D13|D14|D15|D16|D17|D18|D19|D20|D21|D22|D23|D24|D25|D26|D27|D28|D29|D30|D31|D32|D33|D34|D35|D36|D37|D38|D39|D40|D41|D42|D43|D44|D45|D46|D47|D48|D49|D50|D51|D52|D53|D54|D55|D56|D57|D58|D59|D60=>(refine' Hk.qkR ?a ?l ?c ?k;(case a=>k_is);(case l=>k_is);(case c=>k_is);(case k=>k_is)))
  (case z0|z9|z10|z14|z15|z18|z19|z23|z24|z26|z31|z33|z38|z42|z60|z_reversed|z80=>k_is)
  (case z11=>intro t ht;cases t <;> first|(exact absurd rfl ht)|rfl|k_is)
  (case z12=>intro t ht;cases t <;> first|(exact absurd rfl ht)|rfl|k_is)
  (case z16=>intro t ht;cases t <;> first|(exact absurd rfl ht)|rfl|k_is)
  (case z20=>intro t ht;cases t <;> first|(exact absurd rfl ht)|rfl|k_is)
#print axioms PySem.Challenge.cw_hookrail_k55_yards_and_rails_holds
