import PyProof.Rows.All
import Wide.All
import OpenK.AllK
import Wide.FinOn
import Lean
import PyProof.EqAt
import PyProof.EqKinds
import PyProof.TupleCall
import PyProof.NeKinds
import PyProof.ListRange
import OpenK.KOwn
import KE.KTryMore
import KE.KSorted
import KE.KSort
import PyProof.Rows.SortWalk
import PyProof.SeqI3
import PyProof.Rows.SumAny
import PyProof.Rows.SeqMore2
import KE.KListMore
import PyProof.Rows.Range3
import PyProof.Cells
import KE.KTabLook
import PyProof.SliceStr2
import PyProof.StrBlockI
import PyProof.Rows.FStr
import PyProof.Rows.StrNews2
import PyProof.ListStr
import PyProof.Rows.StrStep
import PyProof.Rows.StrJoinStr
import PyProof.AutoSeq1
import PyProof.ListRange
import KE.KRevIter
import PyProof.CollectIter
import PyProof.FactsAll.range_iterator_1
import PyProof.Draws
import PyProof.EnumMake
import PyProof.Rows.RuleM_int
import PyProof.FactsAll.int_6
import OpenK.AllK
import PySem.Challenge.RW_braidcomb_k37_two_least_words
open PySem renaming Value→ah,World→aF,Program→aU,Addr→ae,Heap→aD,sizeLine→aI,sysModules→nP,tupleKind→xh,Within→GB,mainGlobals→eg,builtinsNs→MI,bootBuiltins→fj,Around→bu,Shared→aj,Scope→dw,wpAny→aG,storeName→MN,Expr→ao,model→aE,eval→aA,backTo→bA,starEach→ar,Stmt→aC,wpAny_mono→lQ,wpAny_Name→MO,wpAny_loadName_local→Wx,wpAny_loadName_cell→Wy,CmpOp→ui,compareOp→iI,behindInMarks→rq,wpAny_isTrue_Compare1→WD,wpAny_truthy_bool→GK,standAt→xm,holding→km,wpAny_execs_nil→GO,wpAny_execs_cons→WH,swapsWith→gk,assign→jf,assignInOrder→MR,assignEach→eu,setItem→Cq,Operator→yX,wpAny_bind→aY,wpAny_holding→Cr,wpAny_standAt→GQ,swapsWithSole→yY,swappedStores→yZ,wpAny_pure→cK,wpAny_newObj_type→GU,rule→rA,bindName→GV,PassesOwn→GW,wpAny_passesOwn→xo,letOwnedTupleGo→GX,IsRangeIter→y4,IsRange→rB,small_one→MU,rangeSize_one→Cw,foldedSetIterable→y6,binaryOp→lS,unaryOp→GY,sizeLine_eq→MZ,DictEntry→G0,getMethod→G3,codeAny→lU,attributeBase→iK,cLine→gZ,Code→uj,FuncData→aL,BindsTo→xu,bindArgs→p4,codeAny_mono→G4,wpAny_Call_Name_kw→uk,backToKw→lW,keywordEach→lY,NameKind→g5,bindL→um,bindC→uo,cellsFrom→G5,Arguments→CC,getItem→zd,seqIndex_of→Nn,seqIndex_neg→Np,subscripted→G7,slot_list_getitem→Xd,sliceBounds→xB,typeIs_int→Nt,Keyword→fU,call_meets→xC,Params→mf,callerA→xD,valueAt→xE,atKey→rE,tupleKind_room_in1→Hd,wpAny_specialOf→He,call_meetsIn→NH,compEnvC→zA,relabel→CH,wpAny_tests_nil→XO,wpAny_comprehension_free→XQ,wpAny_newFunctionEnv→XS,codeAny_compStart_list→XU,wpAny_pyIter_enum→XX,wpAny_pyIter_zip→XY,wpAny_pyIter_revIter→X0,revObj→X1,call_list_range→N6,wpAny_call_entry→YB,wpAny_of_eq→CT,Builtin→HG,wpAny_ite_split→HH,OsState→iS,treeTable→ve,importedModules→Zn
open PySem.Value renaming isInt→Wn,isStrOf→Wo,str→Cp,bool→GA,bytes→Ws,float→MG,ref→dh,type→uf
open Sum renaming inl→gX,inr→ue
open PySem.SeqAt.EqAt renaming int_str→Wq,str_int→Wr
open Option renaming some→aa,some→cA,isSome_iff_exists→W9,getD_none→Xg,map_some→p7,isSome_map→Xq
open PySem.W renaming instObj→ug,methodObj→MH,Frag→ak,lookIn→GZ,plainGet→Cy,hasDictIn→G1,findIn→eQ,handedIn→WZ,plainGet_of→M0,isFn→G2,plainOver→M4,takerIn→M5,makesIn→M6,emptyDict→rD,keepIn→ko,kitOne→M8,kia_one→kq,kitx_list→M9,kitx_tuple→W3,kitx_dict→W4,callWith_K→Nc,methodCall_KW→W6,cellsFrom_some→W8,fnOf→gE,codeIn→zc,OpenLaw→ND,WalkO→Xp,nsIn→ux,mg_of→HF,mg_none_of→j0
open PySem.Heap renaming lt_size→bM,SameBut→GH,get?_push_of_some→cZ,get?_push_size→jg,size_push→CA,get?_update_self→Xf,get?_update_other→Nq
open Nat renaming lt_of_lt_of_le→dN,lt_irrefl→uh,ne_of_lt→dO,le_trans→iF,le_of_lt→GF,ne_of_gt→Cs,le_refl→bf,zero_le→iJ,le_of_eq→zb,lt_succ_self→CB,le_succ→Nd,succ_mul→Hc,add_comm→Xm,le_of_not_lt→Ny,lt_of_le_of_lt→zk,lt_trans→NF,zero_add→jR,le_add_right→Hn,sub_zero→Og,le_total→X9,min_eq_left→HA,min_eq_right→Yb,sub_self→CQ,add_mul→Zh,mul_le_mul→OP,lt_or_ge→Ig
open List renaming range→b9,mem_filter→lP,mem_range→rn,filterMap_cons→MJ,mem_cons_self→iG,mem_cons_of_mem→bz,mem_cons→aX,mem_append→cu,mem_append_left→jK,getElem?_eq_some_iff→bG,getElem_inj→MM,getElem?_set_self→iH,getElem?_set_ne→aO,mem_filterMap→WN,mem_append_right→fK,size_toArray→cW,length_cons→bD,lookup→xp,map_cons→bw,length_map→aB,append_nil→bE,nodup_cons→fO,of_mem_zip→Ng,replicate→aZ,length_take→iM,getElem?_append_right→jh,getElem?_replicate→nS,getElem?_append_left→fu,getElem?_map→b8,mem_of_getElem?→dJ,length_append→bO,length_replicate→xw,map_nil→ji,length_drop→lZ,length_set→jP,all_cons→Ha,any_cons→zf,reverse_cons→kr,replicate_succ→gm,flatten_cons→dA,foldl→Nv,append_assoc→bQ,foldl_cons→zg,length_singleton→nT,length_dropLast→Nx,length_reverse→bH,nil_append→ky,Pairwise→Nz,find?_cons→zm,cons_append→gF,length_nil→gG,nodup_nil→Xw,getElem_of_mem→xF,getElem?_eq_getElem→bj,dropLast_eq_take→Hj,drop_zero→Hk,drop_eq_getElem_cons→NS,drop_length→Hl,lookup_cons→zy,not_mem_nil→uF,getElem?_reverse→uG,range_succ_eq_map→Hr,range'→N3,range'_succ→N4,range_eq_range'→N5,length_range→zF,map_take→Ob,map_drop→nV,map_map→eR,map_append→cj,take_length→zH,take_of_length_le→CP,take_zero→Yc,drop_eq_nil_of_le→Yd,map_set→zJ,map_reverse→mw,replicate_zero→xM,set_cons_zero→Ym,set_cons_succ→Yn,getElem_idxOf→Oi,nodup_append→Ol,mem_reverse→uJ,reverse_perm→uK,mem_singleton→dC,range_succ→Ou,flatten_append→rK,flatten_nil→xN,mem_flatten→xO,mem_map→cC,mem_of_mem_take→zQ,take_succ→CW,map→HQ,pairwise_map→HR,pairwise_lt_range→OB,Nodup→g6,Perm→HS,getElem?_eq_none→HU,idxOf_lt_length_of_mem→Y3,length_filter_le→Y5,sum_append→OD,sum_cons→qe,perm_ext_iff_of_nodup→Y7,nodup_range→Y8,filter_append→Y9,filter_cons→Za,length_zipIdx→OG,filter_cons_of_pos→Ze,filter_cons_of_neg→Zf,map_congr_left→mG,map_dropLast→C2,mem_of_getLast?→z6,getLast?_eq_some_iff→OS,getLast?_eq_getElem?→OU,getLast?_map→Zi,reverse_append→n8,takeWhile_cons_of_neg→C5,takeWhile_cons_of_pos→HX,foldl_append→uR,reverse_reverse→kJ,drop_succ_cons→O1,dropLast_concat_getLast→C7,getLast?_eq_some_getLast→O5,set_append_right→Zt,getElem_mem→Pp,mem_replicate→mZ,singleton_append→ZJ,replicate_succ'→ZK,filter_eq_nil_iff→ZL,reverse_replicate→ZM,map_replicate→PK,map_id→x8,append_eq_nil_iff→AA,append_eq_append_iff→PY,foldl_map→ZW,mem_of_mem_drop→Dl,map_singleton→ZZ,dropLast_sublist→Z1,eq_nil_of_length_eq_zero→aal
open PyProof.Rows renaming AllBare→pY,assignInOrder_nil→WK,assignInOrder_cons→MT,Call_→rC,callWith_type1→jN,kindOf→jO,envOfC→fQ,IntsAre→xy,Subscript_→Nj,subscriptTail→Nk,subscriptTail_builtinR→Xc
open PySem.Calls renaming Name_function_global→Wz,call_len_list→WY,spliced_nil→xr,spliced_cons→xt,callWith_builtin→Nu,evalArgs_plain→Xi
open PySem.CmpOp renaming NotIn→WC
open Array renaming length_toList→WE,toList→WG
open False renaming elim→jL
open Pure renaming pure→bc
open Bool renaming false_ne_true→di,eq_iff_iff→y9,or_false→Xe,and_eq_true→ur,false_eq_true→Hm,or_eq_true→Ht,true_eq_false→Yk,not_true→jZ,and_eq_true_iff→aap
open PySem.Walks renaming range→WM
open PySem.Builtin.Range renaming rangeSize→dz,small→Yu,rangeFitsLong→uI
open PyProof renaming noPylong_small→WS
open PySem.Builtin renaming bitAnd→MX,bitNot→MY,bitOr→HE
open PySem.Str renaming empty→M7,ofString→dB
open True renaming intro→nQ
open PySem.Around renaming under→Na
open PySem.Code renaming frames→W5,isFrame→Nb
open Int renaming toNat_natCast→bB,emod_nonneg→CU,emod_lt_of_pos→CV,add_mul→CY,natCast_zero→Dh,le_of_lt→ZD,le_refl→x6,add_zero→rY,zero_mul→ZS,natCast_add→P5,add_comm→ZX,neg_neg→Iu,add_assoc→Iw,zero_add→Z2
open PySem.Obj renaming mapSeq→xA
open PySem.SeqAt renaming EqAt→fR,RcAt→xG,RcNeAt→xH
open PySem.Builtin.List renaming listTooLong→zh,listLengthHint→YF,listExtendWith→HJ,listSameRef→YG,listItems→YJ
open PySem.F renaming slot_int_rmul→Xn,slot_dict_get→NI,entry_dict_get→Xx,args_dict_get_2→Xy,plainAttrs_list→kB,slot_list_append→uB,type_list_append→uC,slot_list_pop→XI,type_list_pop→XJ,slot_list_index→Ys,slot_range_reversed→Om,plain_reversed_new→YD,slot_dict_len→Y1
open Or renaming inl→aR,inr→aS
open Classical renaming propDecidable→dR,byContradiction→kH
open ForInStep renaming yield→uE
open PySem.NameKind renaming cell→Yw
open PySem.AutoSeq1 renaming wpAny_loadPart'→YC
open PySem.Builtin.Int renaming intBits→OA
open Prod renaming snd→O6,fst→O8
open PySem.PassesOwn renaming never→gO
open Function renaming comp→aag
open PySem.W (Looks typeIn mroIn kIn_of)
open List (length reverse)
open Nat (reduceAdd reduceSub reduceEqDiff ble)
set_option bootstrap.genMatcherCode false
set_option compiler.extract_closed false
set_option hygiene false
local macro_rules
|`(tactic|dsimp [$l,*] $[$c]?)=>`(tactic|simp -implicitDefEqProofs only [reduceIte,aJ,aK,bX,bY,bZ,b7,$l,*] $[$c]?)
|`(tactic|dsimp $[$c:location]?)=>`(tactic|simp -implicitDefEqProofs only [reduceIte,aJ,aK,bX,bY,bZ,b7] $[$c]?)
local macro_rules
|`(tactic|simp_all [$l,*])=>`(tactic|simp -implicitDefEqProofs only [mS,mD,mF,dH,aN,reduceAdd,reduceSub,reduceEqDiff,reduceIte,aJ,aK,bX,bY,bZ,b7,$l,*])
|`(tactic|simp_all)=>`(tactic|simp -implicitDefEqProofs only [mS,mD,mF,dH,aN,reduceAdd,reduceSub,reduceEqDiff,reduceIte,aJ,aK,bX,bY,bZ,b7])
local macro_rules|`(tactic|simp_all only [$l,*])=>`(tactic|simp -implicitDefEqProofs only [$l,*])
local macro_rules|`($a>=>$b)=>`(R.bind $a $b)
set_option hygiene true
noncomputable section
set_option Elab.async false
set_option linter.all false
set_option maxRecDepth 100000
namespace L2
open PySem PySem.Spec PyProof.Rows
abbrev Key:=Sum Int Str
def Fv:Key->ah->Bool
 |.inl k,v=>Wn k v
 |.inr x,v=>Wo x v
def aji(w:aF):Key->Int
 |.inl k=>hashInt k
 |.inr x=>hashStr w x
def gC:∀{k:Key}{v:ah},Fv k v=true->(∃i t,k=gX i/\v=ah.int i t)\/(∃x t,k=ue x/\v=Cp x t)
 |.inl i,v,h=>by
  obtain⟨t,e⟩:=ah.isInt_shape (k:=i) (v:=v) h;exact .inl ⟨i,t,rfl,e⟩
 |.inr x,v,h=>by
  obtain⟨t,e⟩:=ah.isStrOf_shape (x:=x) (v:=v) h;exact .inr ⟨x,t,rfl,e⟩
def Qm(i:Int)(t:Tok):Fv (.inl i) (.int i t)=true:=by simp[Fv,Wn]
def Qn(x:Str)(t:Tok):Fv (.inr x) (.str x t)=true:=by simp[Fv,Wo]
def ab5(a b:Int):decide ((gX a:Key)=gX b)=(a==b):=by
 by_cases e:a=b
 ·subst e;simp
 ·have h:¬(gX a:Key)=gX b:=λq=>e (gX.inj q)
  rw[decide_eq_false h];exact(beq_eq_false_iff_ne.mpr e).symm
def ab6(a b:Str):decide ((ue a:Key)=ue b)=decide (a=b):=by
 by_cases e:a=b
 ·subst e;simp
 ·have h:¬(ue a:Key)=ue b:=λq=>e (ue.inj q)
  rw[decide_eq_false h,decide_eq_false e]
def ab7(a:Int)(b:Str):decide ((gX a:Key)=ue b)=false:=decide_eq_false (λq=>nomatch q)
def ab8(a:Str)(b:Int):decide ((ue a:Key)=gX b)=false:=decide_eq_false (λq=>nomatch q)
noncomputable def gY(prog:aU)(w:aF):PySem.KeyKind prog w Key where
 is:=Fv
 hash:=aji w
 inj:=λv a b ha hb=>by
  rcases gC ha with⟨i,t,rfl,rfl⟩|⟨x,t,rfl,rfl⟩
  ·rcases gC hb with⟨j,u,rfl,e⟩|⟨y,u,rfl,e⟩
   ·injection e with e1 _;rw[e1]
   ·exact nomatch e
  ·rcases gC hb with⟨j,u,rfl,e⟩|⟨y,u,rfl,e⟩
   ·exact nomatch e
   ·injection e with e1 _;rw[e1]
 byValue:=λk v h=>by
  rcases gC h with⟨i,t,rfl,rfl⟩|⟨x,t,rfl,rfl⟩<;>rfl
 pyHash:=λhv h=>by
  rcases gC hv with⟨i,t,rfl,rfl⟩|⟨x,t,rfl,rfl⟩
  ·exact wpAny_pyHash_int h
  ·exact wpAny_pyHash_str h
 eqBool:=λhu hv h=>by
  rcases gC hu with⟨i,t,rfl,rfl⟩|⟨x,t,rfl,rfl⟩
  ·rcases gC hv with⟨j,u,rfl,rfl⟩|⟨y,u,rfl,rfl⟩
   ·rw[ab5]at h;exact wpAny_eqBool_int h
   ·rw[ab7]at h;exact Wq i t y u _ _ _ _ h
  ·rcases gC hv with⟨j,u,rfl,rfl⟩|⟨y,u,rfl,rfl⟩
   ·rw[ab8]at h;exact Wr x t j u _ _ _ _ h
   ·rw[ab6]at h;exact wpAny_eqBool_str h
 «strs»:=λk x t v h=>by
  rcases gC h with⟨i,u,rfl,e⟩|⟨y,u,rfl,e⟩
  ·exact nomatch e
  ·injection e with e1 _
   subst e1;cases v<;>rfl
def IZ(prog:aU)(w:aF)(i:Int)(t:Tok):(gY prog w).is (.inl i) (.int i t)=true:=Qm i t
def I0(prog:aU)(w:aF)(x:Str)(t:Tok):(gY prog w).is (.inr x) (.str x t)=true:=Qn x t
end L2
namespace L2
open PySem PySem.Spec PyProof.Rows
inductive V where
 |non|bl (b:Bool)|int (i:Int)|str (x:Str)|RE (b:Array UInt8)|flt (b:UInt64)|ref (a:ae)|ty (n:String)
 deriving DecidableEq
def RelV:V->ah->Prop
 |.non,u=>u=ah.none
 |.bl b,u=>u=GA b
 |.int i,u=>∃t,u=ah.int i t
 |.str x,u=>∃t,u=Cp x t
 |.RE b,u=>∃t,u=Ws b t
 |.flt b,u=>∃t,u=MG b t
 |.ref a,u=>u=dh a
 |.ty n,u=>u=uf n
abbrev Vals:List V->List ah->Prop:=Paired RelV
theorem Vals.length {xs:List V}{us:List ah}(r:Vals xs us):xs.length=us.length:=Paired.length r
theorem Vals.get:∀{xs:List V}{us:List ah}{i:Nat}{x:V},Vals xs us->xs[i]?=aa x->∃u,us[i]?=aa u/\RelV x u
 |_,_,_,_,.nil,e=>by simp at e
 |_,_,0,_,.cons r _,e=>by simp at e;subst e;exact⟨_,rfl,r⟩
 |_,_,i+1,x,.cons _ t,e=>by
  obtain⟨u,h1,h2⟩:=Vals.get (i:=i) (x:=x) t (by simpa using e);exact⟨u,by simpa using h1,h2⟩
theorem Vals.set {x:V}{u:ah}(r:RelV x u):∀{xs:List V}{us:List ah}(i:Nat),Vals xs us->Vals (xs.set i x) (us.set i u)
 |_,_,_,.nil=>.nil
 |_,_,0,.cons _ t=>.cons r t
 |_,_,i+1,.cons q t=>.cons q (Vals.set r i t)
theorem Vals.append:∀{xs ys:List V}{us ws:List ah},Vals xs us->Vals ys ws->Vals (xs++ys) (us++ws)
 |_,_,_,_,.nil,s=>s
 |_,_,_,_,.cons r t,s=>.cons r (Vals.append t s)
theorem Vals.take:∀{xs:List V}{us:List ah}(n:Nat),Vals xs us->Vals (xs.take n) (us.take n)
 |_,_,0,_=>.nil
 |_,_,_+1,.nil=>.nil
 |_,_,n+1,.cons r t=>.cons r (Vals.take n t)
theorem Vals.drop:∀{xs:List V}{us:List ah}(n:Nat),Vals xs us->Vals (xs.drop n) (us.drop n)
 |_,_,0,r=>r
 |_,_,_+1,.nil=>.nil
 |_,_,n+1,.cons _ t=>Vals.drop n t
def vK:Option V->Option ah->Prop
 |some v,aa u=>RelV v u
 |none,none=>True
 |_,_=>False
def KV{κ:Type}:List (κ×V)->List (κ×ah)->Prop:=Paired λ(p:κ×V)(q:κ×ah)=>p.1=q.1/\RelV p.2 q.2
def kV:Key->V
 |.inl i=>.int i
 |.inr x=>.str x
inductive HO where
 |lst (xs:List V)
 |tup (xs:List V)
 |dK (kvs:List (Key×V))|dT (kvs:List (List Key×V))
 |set (S:Int->Bool) (n:Nat)
 |ins (C dx:ae) (fs:List (Str×V))
 |own (x:ae)
 |xd (fs:List (Str×V))
 |met (f x:ae)
 |rng (lo hi:Int)
 |Dq (o:Obj) (u:HO)
 |tbl (ps:Array ah)
 |ext (φ:aD->Prop)
abbrev Hp:=ae->Option HO
def upd(H:Hp)(a:ae)(o:HO):Hp:=λb=>if b=a then aa o else H b
def aT{H:Hp}{a:ae}{o:HO}:upd H a o a=aa o:=by unfold upd;rw[if_pos rfl]
def aH{H:Hp}{a b:ae}{o:HO}(h:b≠a):upd H a o b=H b:=by unfold upd;rw[if_neg h]
def dZ{H:Hp}{a b:ae}{o u:HO}(h:H a=aa o)(h':H b=aa u)(d:o≠u):a≠b:=by
 intro e;subst e;rw[h]at h';exact d (cA.inj h')
def bg{H:Hp}{a b:ae}{o:HO}(h:H a=aa o)(h':H b=none):a≠b:=by
 intro e;subst e;rw[h]at h';cases h'
section
variable(P:aU)(w:aF)
noncomputable def gU(H:Hp)(h:aD)(a:ae):HO->Prop
 |.lst xs=>xs.length<=aI/\∃(its:List ah)(n:Nat),Vals xs its/\h.get? a=aa {cls:=.type "list",data:=.seq its.toArray n}
 |.tup xs=>xs.length<=aI/\∃its:List ah,Vals xs its/\IsTup h a its.toArray
 |.dK kvs=>kvs.length<=aI/\(a==nP)=false/\∃vs,KV kvs vs/\h.DictOf (gY P w) a vs
 |.dT kvs=>kvs.length<=aI/\(a==nP)=false/\∃xs:List (List Key×ae×ah),
   Paired (λ(p:List Key×V)(q:List Key×ae×ah)=>p.1=q.1/\H q.2.1=aa (.tup (p.1.map kV))/\RelV p.2 q.2.2) kvs xs/\
   ∃o es ep,h.get? a=aa o/\o.ExactDict/\o.data=.dict es ep/\es.toList=xs.map (entryOfKey (xh (gY P w)))/\(xs.map (·.1)).Nodup
 |.set S n=>h.SetOf (intKind P w) a S n
 |.ins C dx fs=>H dx=aa (.own a)/\fs.length<=1000/\dx≠a/\h.get? a=aa (ug C dx)/\
   ∃mA,h.Ns1 dx mA/\(∀f,vK (fs.lookup f) (mA f))/\GB mA (fs.map (·.1))
 |.own _=>∃o,h.get? a=aa o
 |.xd fs=>∃mA,h.Ns1 a mA/\∀f,vK (fs.lookup f) (mA f)
 |.rng lo hi=>∃t u v,h.get? a=aa {cls:=.type "range",data:=.fields #[.int lo t,.int hi u,.int 1 v]}
 |.Dq o u=>h.get? a=aa o/\gU H h a u
 |.tbl ps=>h.get? a=aa {cls:=.none,data:=.fields ps}
 |.met f x=>h.get? a=aa (MH (.ref f) (.ref x))
 |.ext φ=>φ h/\(∃o,h.get? a=aa o)/\∀h1 h2:aD,φ h1->(∀o,h1.get? a=aa o->h2.get? a=aa o)->φ h2
def ye(H:Hp)(h:aD):Prop:=∀a o,H a=aa o->gU P w H h a o
end
section
variable{P:aU}{w:aF}{H H':Hp}{h h':aD}{a:ae}{o:HO}
theorem gU.lt (x:gU P w H h a o):a<h.objs.size:=by
 cases o with
 |lst xs=>obtain⟨_,_,_,_,e⟩:=x;exact bM e
 |tup xs=>obtain⟨_,_,_,p⟩:=x;exact p.lt
 |dK kvs=>obtain⟨_,_,_,_,o,_,_,e,_⟩:=x;exact bM e
 |dT kvs=>obtain⟨_,_,_,_,o,_,_,e,_⟩:=x;exact bM e
 |set S n=>obtain⟨o,_,_,_,e,_⟩:=x;exact bM e
 |ins C dx fs=>obtain⟨_,_,_,e,_⟩:=x;exact bM e
 |own y=>obtain⟨_,e⟩:=x;exact bM e
 |xd fs=>obtain⟨_,⟨_,_,_,e,_⟩,_⟩:=x;exact bM e
 |rng lo hi=>obtain⟨_,_,_,e⟩:=x;exact bM e
 |Dq ob u=>obtain⟨e,_⟩:=x;exact bM e
 |tbl ps=>exact bM (show h.get? a=aa _ from x)
 |met f y=>exact bM (show h.get? a=aa _ from x)
 |ext φ=>obtain⟨_,⟨_,e⟩,_⟩:=x;exact bM e
theorem Paired.acb {α β:Type}{F G:α->β->Prop}:∀{l₁:List α}{l₂:List β},Paired F l₁ l₂->(∀a b,F a b->G a b)->Paired G l₁ l₂
 |_,_,.nil,_=>.nil
 |_,_,.cons r t,f=>.cons (f _ _ r) (Paired.acb t f)
def gU.Lc (x:gU P w H h a o)(k:∀b u,(b=a\/H b=aa (.own a))->h.get? b=aa u->h'.get? b=aa u)
  (ho:∀b,H b=aa (.own a)->H' b=aa (.own a))(ht:∀b xs,H b=aa (.tup xs)->H' b=aa (.tup xs)):gU P w H' h' a o:=by
 induction o with
 |lst xs=>obtain⟨z,its,n,r,e⟩:=x;exact⟨z,its,n,r,k _ _ (.inl rfl) e⟩
 |tup xs=>obtain⟨z,its,r,ob,e,c⟩:=x;exact⟨z,its,r,ob,k _ _ (.inl rfl) e,c⟩
 |dK kvs=>obtain⟨z,y,vs,r,ob,es,ep,e,c⟩:=x;exact⟨z,y,vs,r,ob,es,ep,k _ _ (.inl rfl) e,c⟩
 |dT kvs=>
  obtain⟨z,y,xs,r,ob,es,ep,e,c⟩:=x;exact⟨z,y,xs,Paired.acb r λp q z=>⟨z.1,ht _ _ z.2.1,z.2.2⟩,ob,es,ep,k _ _ (.inl rfl) e,c⟩
 |set S n=>obtain⟨ob,es,ep,t,e,c⟩:=x;exact⟨ob,es,ep,t,k _ _ (.inl rfl) e,c⟩
 |ins C dx fs=>
  obtain⟨d,z,ne,e,mA,⟨od,es,ep,e2,c⟩,r⟩:=x;exact⟨ho _ d,z,ne,k _ _ (.inl rfl) e,mA,⟨od,es,ep,k _ _ (.inr d) e2,c⟩,r⟩
 |own y=>obtain⟨ob,e⟩:=x;exact⟨ob,k _ _ (.inl rfl) e⟩
 |xd fs=>obtain⟨mA,⟨od,es,ep,e,c⟩,r⟩:=x;exact⟨mA,⟨od,es,ep,k _ _ (.inl rfl) e,c⟩,r⟩
 |rng lo hi=>obtain⟨t,u,v,e⟩:=x;exact⟨t,u,v,k _ _ (.inl rfl) e⟩
 |Dq ob u ih=>obtain⟨e,q⟩:=x;exact⟨k _ _ (.inl rfl) e,ih q⟩
 |tbl ps=>
  have e:h.get? a=aa {cls:=.none,data:=.fields ps}:=x;show h'.get? a=aa {cls:=.none,data:=.fields ps};exact k a _ (.inl rfl) e
 |met f y=>
  have e:h.get? a=aa (MH (.ref f) (.ref y)):=x;show h'.get? a=aa (MH (.ref f) (.ref y));exact k a _ (.inl rfl) e
 |ext φ=>obtain⟨p,⟨o,e⟩,st⟩:=x;exact⟨st _ _ p λo q=>k _ _ (.inl rfl) q,⟨o,k _ _ (.inl rfl) e⟩,st⟩
theorem ye.lt (x:ye P w H h)(e:H a=aa o):a<h.objs.size:=(x a o e).lt
def ye.fresh (x:ye P w H h)(e:h.objs.size<=a):H a=none:=by
 cases q:H a with
 |none=>rfl
 |some u=>exact absurd (dN (x.lt q) e) (uh _)
def ye.kept (x:ye P w H h)(k:∀b u,h.get? b=aa u->h'.get? b=aa u):ye P w H h':=λa o e=>
 (x a o e).Lc (λb u _ q=>k b u q) (λ_ q=>q) λ_ _ q=>q
def ye.laid (x:ye P w H h)(k:∀b u,h.get? b=aa u->h'.get? b=aa u)(hp:h.objs.size<=a)(new:gU P w (upd H a o) h' a o):ye P w (upd H a o) h':=λb u e=>by
 have hn:=x.fresh hp
 by_cases hb:b=a
 ·subst hb;rw[aT]at e;cases e;exact new
 ·rw[aH hb]at e
  exact(x b u e).Lc (λc v _ q=>k c v q) (λc q=>by rw[aH (bg q hn)];exact q) λc xs q=>by rw[aH (bg q hn)];exact q
end
def Rd(H:Hp)(a:ae)(u:HO):Prop:=H a=aa u\/∃o,H a=aa (.Dq o u)
def Rd.ok {P:aU}{w:aF}{H:Hp}{h:aD}{a:ae}{u:HO}(r:Rd H a u)(x:ye P w H h):gU P w H h a u:=by
 rcases r with r|⟨o,r⟩
 ·exact x a u r
 ·obtain⟨_,q⟩:=x a _ r
  exact q
def Mut:Option HO->Prop
 |some (.lst _)=>True
 |some (.dK _)=>True
 |some (.dT _)=>True
 |some (.set _ _)=>True
 |some (.ins _ _ _)=>True
 |some (.ext _)=>True
 |_=>False
section
variable{P:aU}{w:aF}{H:Hp}{h h':aD}{x e:ae}{o':HO}
def ye.write (ok:ye P w H h)(mu:Mut (H x))(he:e=x\/H e=aa (.own x))(k:∀b u,b≠e->h.get? b=aa u->h'.get? b=aa u)(heo:∃u,h'.get? e=aa u)
  (new:gU P w (upd H x o') h' x o'):ye P w (upd H x o') h':=λb u q=>by
 have afE:∀c y,H c=aa (.own y)->c≠x:=λc y r z=>by subst z;rw[r]at mu;exact mu
 have ajk:∀c xs,H c=aa (.tup xs)->c≠x:=λc xs r z=>by subst z;rw[r]at mu;exact mu
 by_cases hb:b=x
 ·subst hb;rw[aT]at q;cases q;exact new
 ·rw[aH hb]at q
  by_cases hbe:b=e
  ·have q':H b=aa (.own x):=by
    rcases he with z|z
    ·exact absurd (hbe.trans z) hb
    ·rw[hbe];exact z
   rw[q]at q';cases q';obtain⟨v,hv⟩:=heo;exact⟨v,by rw[hbe];exact hv⟩
  ·refine(ok b u q).Lc (λc v hc r=>k c v ?_ r) (λc r=>by rw[aH (afE c b r)];exact r) λc xs r=>by rw[aH (ajk c xs r)];exact r
   rcases hc with rfl|hc
   ·exact hbe
   ·rintro rfl
    rcases he with z|z
    ·exact afE c b hc z
    ·rw[hc]at z;cases z;exact hb rfl
end
structure Un(fs ex:List ae)(H H':Hp)(h h':aD):Prop where
 keep:∀b o,h.get? b=aa o->H b=none->b∉fs->b∉ex->h'.get? b=aa o
 slot:∀b o,h.get? b=aa o->H b=none->b∈fs->b∉ex->∃sl,h'.get? b=aa {o with slots:=sl}
 free:∀b o,h.get? b=aa o->H b=none->b∉ex->H' b=none
 there:∀b o,h.get? b=aa o->b∉ex->∃o',h'.get? b=aa o'
 tups:∀b xs,H b=aa (.tup xs)->H' b=aa (.tup xs)
 GC:∀b o u,H b=aa (.Dq o u)->H' b=aa (.Dq o u)
 I8:∀b ps,H b=aa (.tbl ps)->∃more,H' b=aa (.tbl (ps++more))
section
variable{fs fs' ex ex':List ae}{H H1 H2:Hp}{h h1 h2 h':aD}{a x e:ae}{o:HO}
def Un.any (u:Un fs ex H H1 h h1){b:ae}{ob:Obj}(q:h.get? b=aa ob)(n:H b=none)(hx:b∉ex):∃sl,h1.get? b=aa {ob with slots:=sl}:=by
 by_cases hb:b∈fs
 ·exact u.slot b ob q n hb hx
 ·exact⟨ob.slots,u.keep b ob q n hb hx⟩
def Un.kept (k:∀b u,h.get? b=aa u->h'.get? b=aa u):Un fs ex H H h h':=
 ⟨λb ob q _ _ _=>k b ob q,λb ob q _ _ _=>⟨ob.slots,k b ob q⟩,λ_ _ _ n _=>n,λb ob q _=>⟨ob,k b ob q⟩,λ_ _ q=>q,λ_ _ _ q=>q,λ_ ps q=>⟨#[],by rw[q];simp⟩⟩
def Un.refl:Un fs ex H H h h:=Un.kept λ_ _ q=>q
def Un.laid (k:∀b u,h.get? b=aa u->h'.get? b=aa u)(hp:h.objs.size<=a)(hn:H a=none):Un fs ex H (upd H a o) h h' where
 keep:=λb u q _ _ _=>k b u q
 slot:=λb u q _ _ _=>⟨u.slots,k b u q⟩
 free:=λb u q n _=>by rw[aH (dO (dN (bM q) hp))];exact n
 there:=λb u q _=>⟨u,k b u q⟩
 tups:=λb xs q=>by rw[aH (bg q hn)];exact q
 GC:=λb u xs q=>by rw[aH (bg q hn)];exact q
 I8:=λb ps q=>⟨#[],by rw[aH (bg q hn),q];simp⟩
def Un.write (mu:Mut (H x))(he:e=x\/H e=aa (.own x))(k:∀b u,b≠e->h.get? b=aa u->h'.get? b=aa u)(heo:∃u,h'.get? e=aa u):Un fs ex H (upd H x o) h h':=by
 have hx:∀b,H b=none->b≠x:=λb n z=>by subst z;rw[n]at mu;exact mu
 have hb:∀b,H b=none->b≠e:=λb n z=>by
  subst z;rcases he with r|r
  ·exact hx b n r
  ·rw[n]at r;cases r
 have hm:∀b u,H b=aa u->¬Mut (aa u)->b≠x:=λb u q nm z=>by subst z;rw[q]at mu;exact nm mu
 refine⟨λb u q n _ _=>k b u (hb b n) q,λb u q n _ _=>⟨u.slots,k b u (hb b n) q⟩,λb u q n _=>by rw[aH (hx b n)];exact n,λb u q _=>?_,
  λb xs q=>by rw[aH (hm b _ q λz=>z)];exact q,λb u xs q=>by rw[aH (hm b _ q λz=>z)];exact q,λb ps q=>⟨#[],by rw[aH (hm b _ q λz=>z),q];simp⟩⟩
 by_cases hbe:b=e
 ·subst hbe;exact heo
 ·exact⟨u,k b u hbe q⟩
end
def trk(h:aD)(H:Hp):List ae:=(b9 h.objs.size).filter λa=>(H a).isSome
def GD(h:aD)(H:Hp):aD:=PySem.W.hideAll h (trk h H)
def Qo(h:aD)(H:Hp):(GD h H).objs.size=h.objs.size:=PySem.W.hideAll_size _ _
def RX{h:aD}{H:Hp}{b:ae}{o:Obj}(e:h.get? b=aa o)(n:H b=none):(GD h H).get? b=aa o:=
 PySem.W.hideAll_get _ e λhm=>by
  have q:(H b).isSome=true:=(lP.mp hm).2;rw[n]at q;simp at q
def Wt{h:aD}{H:Hp}{b:ae}{o:Obj}(e:(GD h H).get? b=aa o):h.get? b=aa o/\H b=none:=by
 have e':h.get? b=aa o:=PySem.W.of_hideAll (trk h H) e;refine⟨e',?_⟩;cases q:H b with
 |none=>rfl
 |some x=>
  have hm:b∈trk h H:=lP.mpr ⟨rn.mpr (bM e'),by simp[q]⟩;have z:(GD h H).get? b=none:=PySem.W.hideAll_none (trk h H) hm;rw[z]at e;cases e
def Wu(g h:aD)(L:ae):List (ae×Obj):=(b9 h.objs.size).filterMap λa=>if a=L\/(g.get? a).isSome=true then none else(h.get? a).map λo=>(a,o)
def rest(g h:aD)(L d:ae):List (ae×Obj):=(Wu g h L).filter λp=>decide (p.1≠d)
end L2
namespace L2
open PySem PySem.Spec PyProof.Rows
structure Mod(K:ak)(mg:Str->Option ah)(base:aD):Prop where
 kin:K.In base
 glob:base.Ns eg mg
 blt:∃mb,base.Ns MI mb/\∀x:Str,x≠"__name__"->mb x=fj x
 nolimit:base.NoLimit
structure Cx where
 prog:aU
 w:aF
 K:ak
 mg:Str->Option ah
 base:aD
 A:bu
 N:List Str
 s₀:aj
 H₀:Hp
 env:Env
 outer:List Env
 stack:List Env
 ex:List ae
 fn:Str->Bool
 calm:Bool
 pn:List (ae×Obj)
 xe:ah->aj->Prop
def K8(l:List Env):List ae:=l.filterMap (·.frame)
abbrev Cx.fs (X:Cx):List ae:=K8 X.outer
def BI(sc:dw)(x:Str):Prop:=sc.names.lookup x=aa .local\/sc.names.lookup x=aa .cell\/sc.names.lookup x=aa .free
def Loc(sc:dw)(x:Str):Prop:=sc.names.lookup x=aa .local\/sc.names.lookup x=aa .cell
def Look(env:Env)(h:aD)(m:Str->Option ah)(x:Str)(u:ah):Prop:=
 (env.kindOf x=aa .local/\m x=aa u)\/((env.kindOf x=aa .cell\/env.kindOf x=aa .free)/\∃c,env.cells.lookup x=aa c/\h.IsCell c (aa u))
structure Cx.Ok (X:Cx):Prop where
 mod:Mod X.K X.mg X.base
 kind:X.env.scope.kind=.function
 glob:X.env.globals=eg
 blt:X.env.builtins=MI
 above:X.s₀.heap.objs.size<=X.env.locals
 inj:∀x y c,X.env.cells.lookup x=aa c->X.env.cells.lookup y=aa c->x=y
 has:∀x,(X.env.kindOf x=aa .cell\/X.env.kindOf x=aa .free)->∃c,X.env.cells.lookup x=aa c
 cab:∀x c,X.fn x=true->X.env.cells.lookup x=aa c->X.s₀.heap.objs.size<=c
 hd:X.calm=true->X.A.handled=none
 frames:X.A.frames=aa X.stack
 stk:X.stack=X.outer\/(X.stack=X.env::X.outer/\X.env.frame=aa X.env.locals)
 exf:∀b∈X.ex,b≠X.env.locals/\∀x c,X.env.cells.lookup x=aa c->c≠b
 bs:∀b o,X.base.get? b=aa o->X.s₀.heap.get? b=aa o/\X.H₀ b=none
 V4:X.base.objs.size<=X.s₀.heap.objs.size
 Qp:∀b o,X.base.get? b=aa o->b∉X.ex
 Ld:∀b∈X.ex,b∉X.fs
 AH:X.s₀.heap.FunFrames X.base X.outer
 frf:∀b∈X.fs,X.H₀ b=none
structure Inv(X:Cx)(pins:List (ae×Obj))(σ:List (Option V))(H:Hp)(s:aj):Prop where
 ok:X.Ok
 os:s.os=X.s₀.os
 bare:pY s.gens
 base:Un X.fs X.ex X.H₀ H X.s₀.heap s.heap
 loc:∃m,s.heap.Ns X.env.locals m/\∀(i:Nat)(x:Str)(v:V),X.N[i]?=aa x->σ[i]?=aa (aa v)->BI X.env.scope x->∃u,RelV v u/\Look X.env s.heap m x u
 cell:∀x c,X.env.cells.lookup x=aa c->∃v,s.heap.IsCell c v
 free:H X.env.locals=none
 yp:∀x c,X.env.cells.lookup x=aa c->H c=none
 pin:∀p∈X.pn++pins,s.heap.get? p.1=aa p.2/\H p.1=none/\p.1≠X.env.locals/\p.1∉X.fs/\∀v,p.2.data≠.cell v
 hok:ye X.prog X.w H s.heap
 len:σ.length=X.N.length
section
variable{X:Cx}{pins:List (ae×Obj)}{σ:List (Option V)}{H H':Hp}{s:aj}{h':aD}
def Cx.Ok.ajl (ok:X.Ok){b:ae}{o:Obj}(e:X.base.get? b=aa o):b∉X.fs:=λhb=>by
 have:=(ok.AH.mem hb).1;rw[e]at this;cases this
theorem Inv.bs (I:Inv X pins σ H s):∀b o,X.base.get? b=aa o->s.heap.get? b=aa o/\H b=none:=λb o e=>
 ⟨I.base.keep b o (I.ok.bs b o e).1 (I.ok.bs b o e).2 (I.ok.ajl e) (I.ok.Qp b o e),I.base.free b o (I.ok.bs b o e).1 (I.ok.bs b o e).2 (I.ok.Qp b o e)⟩
def Inv.bk (I:Inv X pins σ H s):∀b o,X.base.get? b=aa o->s.heap.get? b=aa o:=λb o e=>(I.bs b o e).1
theorem Inv.mod (I:Inv X pins σ H s):Mod X.K X.mg X.base:=I.ok.mod
def Inv.AI (I:Inv X pins σ H s):X.K.In s.heap:=I.ok.mod.kin.keeps I.bk
theorem Inv.lt (I:Inv X pins σ H s):X.env.locals<s.heap.objs.size:=let⟨_,hn,_⟩:=I.loc;hn.lt
def Inv.sz (I:Inv X pins σ H s):X.s₀.heap.objs.size<=s.heap.objs.size:=iF I.ok.above (GF I.lt)
def Inv.ajm (I:Inv X pins σ H s){a:ae}(h:s.heap.objs.size<=a):a∉X.fs:=λhb=>by
 obtain⟨_,o,ho,_⟩:=I.ok.AH.mem hb;exact absurd (dN (bM ho) (iF I.sz h)) (uh _)
def Inv.cne (I:Inv X pins σ H s):∀x c,X.env.cells.lookup x=aa c->c≠X.env.locals:=λx c e z=>by
 obtain⟨v,o,ho,hd⟩:=I.cell x c e;obtain⟨m,⟨o',es,ep,ho',Wv,_⟩,_⟩:=I.loc;rw[z,ho']at ho;cases ho;rw[Wv]at hd;cases hd
theorem Inv.AH (I:Inv X pins σ H s):s.heap.FunFrames X.base X.outer:=by
 have all:∀(l:List Env),(∀b∈K8 l,b∈X.fs)->X.s₀.heap.FunFrames X.base l->s.heap.FunFrames X.base l:=by
  intro l
  induction l with
  |nil=>intro _ _;trivial
  |cons env r ih=>
   intro hs hl;obtain⟨hk,⟨L,o,hf,hn,ho,hd⟩,hr⟩:=hl;have hL:L∈X.fs:=hs L (by unfold K8;rw[MJ,hf];exact iG);obtain⟨sl,e⟩:=I.base.slot L o ho (I.ok.frf L hL) hL λz=>I.ok.Ld L z hL;exact⟨hk,⟨L,_,hf,hn,e,hd⟩,ih (λb hb=>hs b (by unfold K8;rw[MJ,hf];exact bz _ hb)) hr⟩
 exact all X.outer (λ_ hb=>hb) I.ok.AH
theorem Inv.stack (I:Inv X pins σ H s):s.heap.FunFrames X.base X.stack:=by
 rcases I.ok.stk with e|⟨e,hf⟩
 ·rw[e];exact I.AH
 ·rw[e]
  obtain⟨m,hn,_⟩:=I.loc;refine .cons (by rw[I.ok.kind];decide) hf hn ?_ I.AH;exact aD.get?_none_of_le (iF I.ok.V4 I.ok.above)
def Inv.GG (I:Inv X pins σ H s):∀b∈K8 X.stack,b∈X.env.locals::X.fs:=λb hb=>by
 rcases I.ok.stk with e|⟨e,hf⟩
 ·rw[e]at hb;exact bz _ hb
 ·rw[e]at hb
  unfold K8 at hb;rw[MJ,hf]at hb;exact hb
def Inv.MK (I:Inv X pins σ H s):∀b∈K8 X.stack,H b=none:=λb hb=>by
 rcases aX.mp (I.GG b hb)with e|hb
 ·rw[e];exact I.free
 ·obtain⟨_,o,ho,_⟩:=I.ok.AH.mem hb
  exact I.base.free b o ho (I.ok.frf b hb) λz=>I.ok.Ld b z hb
def Inv.step {g':Array GenState}{t':Nat}{d':Drawn}{ch:List ae}(I:Inv X pins σ H s)
  (hch:∀b∈ch,(b∈X.ex\/X.s₀.heap.objs.size<=b)/\b≠X.env.locals/\(∀x c,X.env.cells.lookup x=aa c->c≠b)/\∀p∈X.pn++pins,p.1≠b)
  (keep:∀b o,b≠X.env.locals->b∉X.fs->b∉ch->s.heap.get? b=aa o->H b=none->h'.get? b=aa o)
  (slot:∀b o,b≠X.env.locals->b∈X.fs->b∉ch->s.heap.get? b=aa o->H b=none->∃sl,h'.get? b=aa {o with slots:=sl})(free:∀b o,b∉ch->s.heap.get? b=aa o->H b=none->H' b=none)
  (there:∀b o,b∉ch->s.heap.get? b=aa o->∃o',h'.get? b=aa o')
  (tups:∀b xs,H b=aa (.tup xs)->H' b=aa (.tup xs))(GC:∀b o u,H b=aa (.Dq o u)->H' b=aa (.Dq o u))(I8:∀b ps,H b=aa (.tbl ps)->∃more,H' b=aa (.tbl (ps++more)))
  (ns:∀m,s.heap.Ns X.env.locals m->h'.Ns X.env.locals m)(hok:ye X.prog X.w H' h')(hg:pY g'):
  Inv X pins σ H' {s with heap:=h',gens:=g',drawn:=d',toks:=t'}:=by
 have neL:∀b o,X.s₀.heap.get? b=aa o->b≠X.env.locals:=λb o e=>dO (dN (bM e) I.ok.above);have neC:∀b o,X.s₀.heap.get? b=aa o->b∉X.ex->b∉ch:=λb o e hx hb=>by
  rcases(hch b hb).1 with z|z
  ·exact hx z
  ·exact absurd (dN (bM e) z) (uh _)
 have cellK:∀x c,X.env.cells.lookup x=aa c->∀v,s.heap.IsCell c v->h'.IsCell c v:=λx c e v ⟨o,ho,hd⟩=>by
  have nch:c∉ch:=λz=>(hch c z).2.2.1 x c e rfl
  by_cases hc:c∈X.fs
  ·obtain⟨sl,q⟩:=slot c o (I.cne x c e) hc nch ho (I.yp x c e)
   exact⟨_,q,hd⟩
  ·exact⟨o,keep c o (I.cne x c e) hc nch ho (I.yp x c e),hd⟩
 refine⟨I.ok,I.os,hg,⟨λb o e n hb hx=>?_,λb o e n hb hx=>?_,λb o e n hx=>?_,λb o e hx=>?_,λb xs e=>tups b xs (I.base.tups b xs e),λb o xs e=>GC b o xs (I.base.GC b o xs e),λb ps e=>?_⟩,?_,λx c e=>?_,?_,λx c e=>?_,λp hp=>?_,hok,I.len⟩
 ·exact keep b o (neL b o e) hb (neC b o e hx) (I.base.keep b o e n hb hx) (I.base.free b o e n hx)
 ·obtain⟨sl,e1⟩:=I.base.slot b o e n hb hx
  obtain⟨sl',e2⟩:=slot b _ (neL b o e) hb (neC b o e hx) e1 (I.base.free b o e n hx);exact⟨sl',e2⟩
 ·obtain⟨o',e1⟩:=I.base.there b o e hx
  exact free b o' (neC b o e hx) e1 (I.base.free b o e n hx)
 ·obtain⟨o',e1⟩:=I.base.there b o e hx
  exact there b o' (neC b o e hx) e1
 ·obtain⟨m1,e1⟩:=I.base.I8 b ps e
  obtain⟨m2,e2⟩:=I8 b _ e1;exact⟨m1++m2,by rw[e2,Array.append_assoc]⟩
 ·obtain⟨m,hn,hl⟩:=I.loc
  refine⟨m,ns m hn,λi x v e1 e2 e3=>?_⟩;obtain⟨u,r,l⟩:=hl i x v e1 e2 e3;refine⟨u,r,?_⟩;rcases l with l|⟨k,c,e,z⟩
  ·exact .inl l
  ·exact .inr ⟨k,c,e,cellK x c e _ z⟩
 ·obtain⟨v,z⟩:=I.cell x c e
  exact⟨v,cellK x c e v z⟩
 ·obtain⟨m,⟨o,_,_,ho,_⟩,_⟩:=I.loc
  exact free _ o (λz=>(hch _ z).2.1 rfl) ho I.free
 ·obtain⟨v,o,ho,hd⟩:=I.cell x c e
  exact free c o (λz=>(hch c z).2.2.1 x c e rfl) ho (I.yp x c e)
 ·obtain⟨e,n,ne,nf,d⟩:=I.pin p hp
  have nch:p.1∉ch:=λz=>(hch p.1 z).2.2.2 p hp rfl;exact⟨keep p.1 p.2 ne nf nch e n,free p.1 p.2 nch e n,ne,nf,d⟩
def Inv.un {t':Nat}(I:Inv X pins σ H s)(u:Un X.fs [] H H' s.heap h')(hok:ye X.prog X.w H' h'):Inv X pins σ H' {s with heap:=h',toks:=t'}:=by
 obtain⟨m,⟨o,es,ep,ho,r⟩,_⟩:=id I.loc;obtain⟨sl,hL⟩:=u.any ho I.free (by simp);exact I.step (g':=s.gens) (d':=s.drawn) (ch:=[]) (λ_ z=>nomatch z) (λb o _ hb _ e n=>u.keep b o e n hb (by simp)) (λb o _ hb _ e n=>u.slot b o e n hb (by simp)) (λb o _ e n=>u.free b o e n (by simp)) (λb o _ e=>u.there b o e (by simp)) u.tups u.GC u.I8 (λm' hm=>by
  obtain⟨o',es',ep',ho',r'⟩:=hm;rw[ho]at ho';cases ho';exact⟨_,es',ep',hL,r'⟩) hok I.bare
def Inv.call {g':Array GenState}{t':Nat}{d':Drawn}{ch:List ae}(I:Inv X pins σ H s)(u:Un (K8 X.stack) ch H H' s.heap h')(hok:ye X.prog X.w H' h')(hg:pY g')
  (hch:∀b∈ch,(b∈X.ex\/X.s₀.heap.objs.size<=b)/\b≠X.env.locals/\(∀x c,X.env.cells.lookup x=aa c->c≠b)/\∀p∈X.pn++pins,p.1≠b):
  Inv X pins σ H' {s with heap:=h',gens:=g',drawn:=d',toks:=t'}:=by
 obtain⟨m,⟨o,es,ep,ho,r⟩,_⟩:=id I.loc;obtain⟨sl,hL⟩:=u.any ho I.free λz=>(hch _ z).2.1 rfl;exact I.step (ch:=ch) hch (λb o hL hb hc e n=>u.keep b o e n (λz=>(aX.mp (I.GG b z)).elim hL hb) hc) (λb o _ _ hc e n=>u.any e n hc) (λb o hc e n=>u.free b o e n hc) (λb o hc e=>u.there b o e hc) u.tups u.GC u.I8 (λm' hm=>by
  obtain⟨o',es',ep',ho',r'⟩:=hm;rw[ho]at ho';cases ho';exact⟨_,es',ep',hL,r'⟩) hok hg
def Inv.turned {t':Nat}{it:ae}(I:Inv X pins σ H s)(k:∀b o,b≠it->s.heap.get? b=aa o->h'.get? b=aa o)(hn:H it=none)(hL:it≠X.env.locals)
  (h1:it∈X.ex\/X.s₀.heap.objs.size<=it)(h2:∀x c,X.env.cells.lookup x=aa c->c≠it)(h3:∀p∈X.pn++pins,p.1≠it):Inv X pins σ H {s with heap:=h',toks:=t'}:=by
 have nit:∀b u,H b=aa u->b≠it:=λb u e z=>by rw[z,hn]at e;cases e
 refine I.step (g':=s.gens) (d':=s.drawn) (ch:=[it]) (λb hb=>?_) (λb o _ _ hc e _=>k b o (λz=>hc (by simp[z])) e) (λb o _ _ hc e _=>⟨o.slots,k b o (λz=>hc (by simp[z])) e⟩) (λ_ _ _ _ n=>n)
  (λb o hc e=>⟨o,k b o (λz=>hc (by simp[z])) e⟩) (λ_ _ e=>e) (λ_ _ _ e=>e) (λb ps e=>⟨#[],by rw[e];simp⟩) (λm hm=>?_) (λb u e=>?_) I.bare
 ·have e:b=it:=by simpa using hb
  subst e;exact⟨h1,hL,h2,h3⟩
 ·obtain⟨o,es,ep,ho,r⟩:=hm
  exact⟨o,es,ep,k _ o (Ne.symm hL) ho,r⟩
 ·refine(I.hok b u e).Lc (λc v hc q=>k c v ?_ q) (λ_ q=>q) λ_ _ q=>q
  rcases hc with z|z
  ·rw[z];exact nit b u e
  ·exact nit c _ z
def Inv.tok (I:Inv X pins σ H s)(t:Nat):Inv X pins σ H {s with toks:=t}:=I.un (h':=s.heap) (t':=t) Un.refl I.hok
theorem Inv.kept {t':Nat}(I:Inv X pins σ H s)(k:∀b u,s.heap.get? b=aa u->h'.get? b=aa u):Inv X pins σ H {s with heap:=h',toks:=t'}:=I.un (Un.kept k) (I.hok.kept k)
theorem Inv.laid {a:ae}{o:HO}{t':Nat}(I:Inv X pins σ H s)(k:∀b u,s.heap.get? b=aa u->h'.get? b=aa u)(hp:s.heap.objs.size<=a)(new:gU X.prog X.w (upd H a o) h' a o):
  Inv X pins σ (upd H a o) {s with heap:=h',toks:=t'}:=I.un (Un.laid k hp (I.hok.fresh hp)) (I.hok.laid k hp new)
theorem Inv.write {x e:ae}{o:HO}{t':Nat}(I:Inv X pins σ H s)(mu:Mut (H x))(he:e=x\/H e=aa (.own x))(k:∀b u,b≠e->s.heap.get? b=aa u->h'.get? b=aa u)(heo:∃u,h'.get? e=aa u)
  (new:gU X.prog X.w (upd H x o) h' x o):Inv X pins σ (upd H x o) {s with heap:=h',toks:=t'}:=I.un (Un.write mu he k heo) (I.hok.write mu he k heo new)
def Inv.ML {aar:List (ae×Obj)}(I:Inv X pins σ H s)(h:∀p∈aar,s.heap.get? p.1=aa p.2/\H p.1=none/\p.1≠X.env.locals/\p.1∉X.fs/\∀v,p.2.data≠.cell v):Inv X aar σ H s:=
 ⟨I.ok,I.os,I.bare,I.base,I.loc,I.cell,I.free,I.yp,λp hp=>(cu.mp hp).elim (λz=>I.pin p (jK _ z)) (h p),I.hok,I.len⟩
def I9{N:List Str}(hN:N.Nodup){i j:Nat}{x:Str}(a:N[i]?=aa x)(b:N[j]?=aa x):i=j:=by
 obtain⟨h1,e1⟩:=bG.mp a;obtain⟨h2,e2⟩:=bG.mp b;exact(MM hN).mp (e1.trans e2.symm)
def Qq{M:Model}{A:bu}{E:ah->aj->Prop}{i:Nat}{x:Str}{v:V}{u:ah}{Q:Unit->aj->Prop}(I:Inv X pins σ H s)(hN:X.N.Nodup)(hi:X.N[i]?=aa x)(hx:Loc X.env.scope x)(r:RelV v u)
  (h:∀s',Inv X pins (σ.set i (aa v)) H s'->(∃a,GH a s.heap s'.heap/\(a=X.env.locals\/X.env.cells.lookup x=aa a))->Q () s')(hf:X.fn x=true\/X.env.scope.names.lookup x=aa .local:=by first|exact .inl rfl|exact .inr rfl|assumption):aG M A (MN X.env x u) Q E s:=by
 obtain⟨m,hn,hl⟩:=id I.loc;have hcls:(X.env.scope.kind==.class||(X.env.scope.kind==.module&&X.env.locals !=X.env.globals))=false:=by rw[I.ok.kind];rfl
 have hiσ:i<σ.length:=by rw[I.len];exact(bG.mp hi).1
 have cne:=I.cne;have tracked:∀{a:ae}{h':aD},(∃o,s.heap.get? a=aa o/\H a=none)->GH a s.heap h'->ye X.prog X.w H h':=λ{a h'} ha hs b ob e=>by
  obtain⟨_,_,hfree⟩:=ha;refine(I.hok b ob e).Lc (λc w' hc q=>(hs.2 c ?_).trans q) (λ_ q=>q) λ_ _ q=>q;rintro rfl;rcases hc with rfl|hc
  ·rw[hfree]at e;cases e
  ·rw[hfree]at hc;cases hc
 rcases hx with hk|hk
 ·refine wpAny_storeName_local hk hn (λh' V5 hs=>?_) hcls
  obtain⟨oL,_,_,hoL,_⟩:=id hn;refine h _ ⟨I.ok,I.os,I.bare,⟨λb o e n hb hx=>?_,λb o e n hb hx=>?_,I.base.free,λb o e hx=>?_,I.base.tups,I.base.GC,I.base.I8⟩,⟨_,V5,λj y v' e1 e2 e3=>?_⟩,λy c e=>?_,I.free,I.yp,λp hp=>?_,tracked ⟨oL,hoL,I.free⟩ hs,by simpa using I.len⟩ ⟨_,hs,.inl rfl⟩
  ·exact(hs.2 b (dO (dN (bM e) I.ok.above))).trans (I.base.keep b o e n hb hx)
  ·obtain⟨sl,e1⟩:=I.base.slot b o e n hb hx
   exact⟨sl,(hs.2 b (dO (dN (bM e) I.ok.above))).trans e1⟩
  ·obtain⟨o',e1⟩:=I.base.there b o e hx
   exact⟨o',(hs.2 b (dO (dN (bM e) I.ok.above))).trans e1⟩
  ·by_cases hj:j=i
   ·subst hj
    rw[hi]at e1;cases e1;rw[iH hiσ]at e2;cases e2;exact⟨u,r,.inl ⟨hk,by simp⟩⟩
   ·rw[aO (Ne.symm hj)]at e2
    obtain⟨u',r',q⟩:=hl j y v' e1 e2 e3;refine⟨u',r',?_⟩;rcases q with⟨k,e⟩|⟨k,c,e,z⟩
    ·refine .inl ⟨k,?_⟩
     have:y≠x:=λe=>hj (I9 hN e1 (e▸hi));simp[this,e]
    ·exact .inr ⟨k,c,e,z.sameBut hs (cne y c e)⟩
  ·obtain⟨w',z⟩:=I.cell y c e
   exact⟨w',z.sameBut hs (cne y c e)⟩
  ·obtain⟨e,n,ne,nf,d⟩:=I.pin p hp
   exact⟨(hs.2 p.1 ne).trans e,n,ne,nf,d⟩
 ·have hfn:X.fn x=true:=by
   rcases hf with z|z
   ·exact z
   ·rw[z]at hk;cases hk
  obtain⟨c,hc⟩:=I.ok.has x (.inl hk);obtain⟨w',z⟩:=I.cell x c hc;refine wpAny_storeName_cell I.ok.kind hk hc z (λh' RY hs=>?_);obtain⟨oc,hoc,ajp⟩:=id z;refine h {s with heap:=h'} ⟨I.ok,I.os,I.bare,⟨λb o e n hb hx=>?_,λb o e n hb hx=>?_,I.base.free,λb o e hx=>?_,I.base.tups,I.base.GC,I.base.I8⟩,⟨m,hn.sameBut hs (Ne.symm (cne x c hc)),λj y v' e1 e2 e3=>?_⟩,λy c' e=>?_,I.free,I.yp,λp hp=>?_,tracked ⟨oc,hoc,I.yp x c hc⟩ hs,by simpa using I.len⟩ ⟨c,hs,.inr hc⟩
  ·exact(hs.2 b (dO (dN (bM e) (I.ok.cab x c hfn hc)))).trans (I.base.keep b o e n hb hx)
  ·obtain⟨sl,e1⟩:=I.base.slot b o e n hb hx
   exact⟨sl,(hs.2 b (dO (dN (bM e) (I.ok.cab x c hfn hc)))).trans e1⟩
  ·obtain⟨o',e1⟩:=I.base.there b o e hx
   exact⟨o',(hs.2 b (dO (dN (bM e) (I.ok.cab x c hfn hc)))).trans e1⟩
  ·by_cases hj:j=i
   ·subst hj
    rw[hi]at e1;cases e1;rw[iH hiσ]at e2;cases e2;exact⟨u,r,.inr ⟨.inl hk,c,hc,RY⟩⟩
   ·rw[aO (Ne.symm hj)]at e2
    obtain⟨u',r',q⟩:=hl j y v' e1 e2 e3;refine⟨u',r',?_⟩;rcases q with q|⟨k,c',e,z'⟩
    ·exact .inl q
    ·refine .inr ⟨k,c',e,z'.sameBut hs ?_⟩
     rintro rfl;exact hj (I9 hN e1 (I.ok.inj _ _ _ e hc▸hi))
  ·by_cases hcc:c'=c
   ·subst hcc;exact⟨_,RY⟩
   ·obtain⟨w2,z2⟩:=I.cell y c' e
    exact⟨w2,z2.sameBut hs hcc⟩
  ·obtain⟨e,n,ne,nf,d⟩:=I.pin p hp
   refine⟨(hs.2 p.1 ?_).trans e,n,ne,nf,d⟩;intro q;rw[q,hoc]at e;have q':oc=p.2:=cA.inj e;exact d w' (by rw[<-q'];exact ajp)
def vQ{M:Model}{A:bu}{E:ah->aj->Prop}{i:Nat}{x:Str}{v:V}{u:ah}{Q:Unit->aj->Prop}(I:Inv X pins σ H s)(hN:X.N.Nodup)(hi:X.N[i]?=aa x)(hx:Loc X.env.scope x)(r:RelV v u)
  (h:∀s',Inv X pins (σ.set i (aa v)) H s'->Q () s')(hf:X.fn x=true\/X.env.scope.names.lookup x=aa .local:=by first|exact .inl rfl|exact .inr rfl|assumption):aG M A (MN X.env x u) Q E s:=
 Qq I hN hi hx r (λs' I' _=>h s' I') hf
def Inv.aas {s':aj}{ch:List ae}(I:Inv X pins σ H s)(ho:s'.os=s.os)(u:Un (K8 X.stack) ch H H' s.heap s'.heap)(hok:ye X.prog X.w H' s'.heap)(hg:pY s'.gens)
  (hch:∀b∈ch,(b∈X.ex\/X.s₀.heap.objs.size<=b)/\b≠X.env.locals/\(∀x c,X.env.cells.lookup x=aa c->c≠b)/\∀p∈X.pn++pins,p.1≠b):Inv X pins σ H' s':=by
 obtain⟨h',g',d',t',o'⟩:=s';have e:o'=s.os:=ho;subst e;exact I.call (g':=g') (t':=t') (d':=d') u hok hg hch
end
abbrev XK:=ah->Option ae->Hp->Prop
abbrev St:=List (Option V)
abbrev VK:=V->Hp->Prop
abbrev TE:=St->Hp->VK->Prop
abbrev TT:=St->Hp->(Bool->Hp->Prop)->Prop
abbrev TA:=St->Hp->(List V->Hp->Prop)->Prop
structure Ends where
 nx:St->Hp->Prop
 rt:VK
 bk:St->Hp->Prop:=λ_ _=>False
 ct:St->Hp->Prop:=λ_ _=>False
abbrev TS:=Ends->St->Hp->Prop
def EP(X:Cx)(pins:List (ae×Obj))(σ:St)(Q:VK)(u:ah)(s':aj):Prop:=∃v H',Inv X pins σ H' s'/\RelV v u/\Q v H'
def TP(X:Cx)(pins:List (ae×Obj))(σ:St)(Q:Bool->Hp->Prop)(b:Bool)(s':aj):Prop:=∃H',Inv X pins σ H' s'/\Q b H'
def AP(X:Cx)(pins:List (ae×Obj))(σ:St)(Q:List V->Hp->Prop)(us:List ah)(s':aj):Prop:=∃vs H',Inv X pins σ H' s'/\Vals vs us/\Q vs H'
noncomputable def SP(X:Cx)(pins:List (ae×Obj))(D:Ends)(f:Flow)(s':aj):Prop:=
 match f with
 |.next=>∃σ' H',Inv X pins σ' H' s'/\D.nx σ' H'
 |.brk=>∃σ' H',Inv X pins σ' H' s'/\D.bk σ' H'
 |.cont=>∃σ' H',Inv X pins σ' H' s'/\D.ct σ' H'
 |.ret u=>∃v σ' H',Inv X pins σ' H' s'/\RelV v u/\D.rt v H'
def PE(X:Cx)(e:ao)(t:TE):Prop:=
 ∀(pins:List (ae×Obj))(s:aj)(σ:St)(H:Hp)(Q:VK),Inv X pins σ H s->t σ H Q->aG (aE X.prog X.w) X.A (aA e X.env) (EP X pins σ Q) X.xe s
def PT(X:Cx)(e:ao)(t:TT):Prop:=
 ∀(pins:List (ae×Obj))(s:aj)(σ:St)(H:Hp)(Q:Bool->Hp->Prop),Inv X pins σ H s->t σ H Q->aG (aE X.prog X.w) X.A (isTrue e X.env (aA e X.env)) (TP X pins σ Q) X.xe s
def PW(X:Cx)(e:ao)(t:TT):Prop:=
 ∀(whole:Sem ah)(pins:List (ae×Obj))(s:aj)(σ:St)(H:Hp)(Q:Bool->Hp->Prop),Inv X pins σ H s->t σ H Q->aG (aE X.prog X.w) X.A (isTrue e X.env whole) (TP X pins σ Q) X.xe s
def PW.pt {X:Cx}{e:ao}{t:TT}(h:PW X e t):PT X e t:=h _
def PA(X:Cx)(es:List ao)(t:TA):Prop:=
 ∀(pos:Pos)(pins:List (ae×Obj))(s:aj)(σ:St)(H:Hp)(Q:List V->Hp->Prop),Inv X pins σ H s->t σ H Q->aG (aE X.prog X.w) X.A (spliced (bA pos (ar es X.env))) (AP X pins σ Q) X.xe s
def PS(X:Cx)(st:aC)(t:TS):Prop:=
 ∀(pins:List (ae×Obj))(s:aj)(σ:St)(H:Hp)(D:Ends),Inv X pins σ H s->t D σ H->aG (aE X.prog X.w) X.A (exec st X.env) (SP X pins D) X.xe s
def xj(X:Cx)(st:List aC)(t:TS):Prop:=
 ∀(pins:List (ae×Obj))(s:aj)(σ:St)(H:Hp)(D:Ends),Inv X pins σ H s->t D σ H->aG (aE X.prog X.w) X.A (execs st X.env) (SP X pins D) X.xe s
def fJ{α:Type}{t:Sem α}{Q Q':α->aj->Prop}{M:Model}{A:bu}{E:ah->aj->Prop}{s:aj}(h:aG M A t Q E s)(hQ:∀a s,Q a s->Q' a s):aG M A t Q' E s:=lQ h hQ λ_ _ x=>x
end L2
namespace L2
open PySem PySem.Spec PyProof.Rows
section
variable{X:Cx}
def Ww(i:Nat):TE:=λσ H Q=>∃v,σ[i]?=aa (aa v)/\Q v H
def tC(v:V):TE:=λ_ H Q=>Q v H
def ju{i:Nat}{x:Str}{pos:Pos}(hN:X.N[i]?=aa x)(hv:BI X.env.scope x)(hd:(x==("__debug__":Str))=false:=by decide)(hcd:(x==("__classdict__":Str))=false:=by decide):PE X (.Name x pos) (Ww i):=by
 intro pins s σ H Q I h;obtain⟨v,e,h⟩:=h;obtain⟨m,hn,hl⟩:=I.loc;obtain⟨u,r,l⟩:=hl i x v hN e hv;have fin:EP X pins σ Q u s:=⟨v,H,I,r,h⟩
 rcases l with⟨hk,hm⟩|⟨hk,c,hc,hcell⟩
 ·exact MO (Wx I.ok.kind hk hn hm fin) hd
 ·rcases hk with hk|hk
  ·exact MO (Wy I.ok.kind hk hc hcell fin) hd
  ·exact MO (wpAny_loadName_free I.ok.kind hk hc hcell fin hcd) hd
def lR{i j pos}:PE X (.Constant (.int i) j pos) (tC (.int i)):=λ_ _ _ H _ I h=>wpAny_Constant_int ⟨.int i,H,I.tok _,⟨_,rfl⟩,h⟩
def afJ{b j pos}:PE X (.Constant (.bool b) j pos) (tC (.bl b)):=λ_ _ _ H _ I h=>Constant_bool ⟨.bl b,H,I,rfl,h⟩
def RZ{j pos}:PE X (.Constant .none j pos) (tC .non):=λ_ _ _ H _ I h=>Constant_none ⟨.non,H,I,rfl,h⟩
def Gl(X:Cx)(x:Str):Prop:=X.env.kindOf x=aa .globalImplicit
def GJ{E:ah->aj->Prop}{pins:List (ae×Obj)}{s:aj}{σ:St}{H:Hp}{x:Str}{u:ah}{pos:Pos}{Q:ah->aj->Prop}(I:Inv X pins σ H s)(hg:Gl X x)(hm:X.mg x=aa u)(h:Q u s)
  (hd:(x==("__debug__":Str))=false:=by decide):aG (aE X.prog X.w) X.A (aA (.Name x pos) X.env) Q E s:=
 Wz I.ok.kind hg (Calls.loadGlobal_global (by rw[I.ok.glob];exact I.mod.glob.keeps I.bk) hm h) hd
def j3{E:ah->aj->Prop}{pins:List (ae×Obj)}{s:aj}{σ:St}{H:Hp}{x:Str}{u:ah}{pos:Pos}{Q:ah->aj->Prop}(I:Inv X pins σ H s)(hg:Gl X x)(hm:X.mg x=none)(hv:fj x=aa u)(h:Q u s)
  (hn:x≠"__name__":=by decide)(hd:(x==("__debug__":Str))=false:=by decide):aG (aE X.prog X.w) X.A (aA (.Name x pos) X.env) Q E s:=by
 obtain⟨mb,h1,h2⟩:=I.mod.blt;exact Wz I.ok.kind hg (Calls.loadGlobal_builtin (by rw[I.ok.glob];exact I.mod.glob.keeps I.bk) hm (by rw[I.ok.blt];exact h1.keeps I.bk) ((h2 x hn).trans hv) h) hd
def WA{x:Str}{v:V}{u:ah}{pos:Pos}(hg:Gl X x)(hm:X.mg x=aa u)(r:RelV v u)(hd:(x==("__debug__":Str))=false:=by decide):PE X (.Name x pos) (tC v):=
 λ_ _ _ H _ I h=>GJ I hg hm ⟨v,H,I,r,h⟩ hd
def WB{x:Str}{v:V}{u:ah}{pos:Pos}(hg:Gl X x)(hm:X.mg x=none)(hv:fj x=aa u)(r:RelV v u)(hn:x≠"__name__":=by decide)(hd:(x==("__debug__":Str))=false:=by decide):PE X (.Name x pos) (tC v):=
 λ_ _ _ H _ I h=>j3 I hg hm hv ⟨v,H,I,r,h⟩ hn hd
variable{a b:ao}{ta tb:TE}{pos:Pos}
noncomputable def PC(X:Cx)(op:ui)(a b:ao)(t:TE):Prop:=
 ∀(pins:List (ae×Obj))(s:aj)(σ:St)(H:Hp)(Q:VK),Inv X pins σ H s->t σ H Q->
  aG (aE X.prog X.w) X.A (aA a X.env) (λv s₁=>aG (aE X.prog X.w) X.A (aA b X.env) (λu s₂=>aG (aE X.prog X.w) X.A (iI op v u) (EP X pins σ Q) X.xe s₂) X.xe s₁) X.xe s
def R0(b:ao){op:ui}(h:op≠.In)(h2:op≠.NotIn):rq op b=false:=by
 have e1:(op==CmpOp.In)=false:=by cases op<;>first|rfl|exact absurd rfl h
 have e2:(op==WC)=false:=by cases op<;>first|rfl|exact absurd rfl h2
 cases b<;>simp[rq,e1,e2]
def tB(t:TE):TT:=λσ H Q=>t σ H λx H1=>∃c,x=.bl c/\Q c H1
def Le{op:ui}{t:TE}(h:PC X op a b t)(h1:rq op b=false:=by first|exact R0 _ (by decide) (by decide)|rfl):PT X (.Compare a [op] [b] pos) (tB t):=by
 intro pins s σ H Q I hw;refine WD (fJ (h pins s σ H _ I hw) λv s1 h1=>fJ h1 λu s2 h2=>fJ h2 λc s3 ⟨x,H1,I1,r1,q1⟩=>?_) h1;obtain⟨d,rfl,q⟩:=q1;cases r1;exact GK ⟨H1,I1,q⟩
def acg{e:ao}{t:TE}(h:PE X e t)(he:∀whole,isTrue e X.env whole=(do let v<-whole;xm e.pos;km [v] (truthy v)):=by intro _;rfl):PT X e (tB t):=by
 intro pins s σ H Q I hw;refine isTrue_plain (fJ (h pins s σ H _ I hw) λv s1 ⟨x,H1,I1,r1,q1⟩=>?_) (he _);obtain⟨d,rfl,q⟩:=q1;cases r1;exact GK ⟨H1,I1,q⟩
variable{tA tB':TT}{rest:List ao}
def ajq(t u:TT):TT:=λσ H Q=>t σ H λc H1=>if c=true then u σ H1 Q else Q false H1
def tOr(t u:TT):TT:=λσ H Q=>t σ H λc H1=>if c=true then Q true H1 else u σ H1 Q
def ajr(t:TT):TT:=λσ H Q=>t σ H λc H1=>Q (!c) H1
def pw_and1(ha:PT X a tA):PW X (.BoolOp .And [a] pos) tA:=by
 intro wh pins s σ H Q I h;refine isTrue_and (fJ (ha pins s σ H Q I h) λc s1 e=>?_);cases c with
 |true=>exact isTrue_and_nil e
 |false=>exact e
def pw_or1(ha:PT X a tA):PW X (.BoolOp .Or [a] pos) tA:=by
 intro wh pins s σ H Q I h;refine isTrue_or (fJ (ha pins s σ H Q I h) λc s1 e=>?_);cases c with
 |false=>exact isTrue_or_nil e
 |true=>exact e
def pw_and(ha:PT X a tA)(hb:PW X (.BoolOp .And (b::rest) pos) tB'):PW X (.BoolOp .And (a::b::rest) pos) (ajq tA tB'):=by
 intro wh pins s σ H Q I h;refine isTrue_and (fJ (ha pins s σ H _ I h) λc s1 ⟨H1,I1,q1⟩=>?_);cases c with
 |true=>exact hb wh pins s1 σ H1 Q I1 q1
 |false=>exact⟨H1,I1,q1⟩
def pw_or(ha:PT X a tA)(hb:PW X (.BoolOp .Or (b::rest) pos) tB'):PW X (.BoolOp .Or (a::b::rest) pos) (tOr tA tB'):=by
 intro wh pins s σ H Q I h;refine isTrue_or (fJ (ha pins s σ H _ I h) λc s1 ⟨H1,I1,q1⟩=>?_);cases c with
 |true=>exact⟨H1,I1,q1⟩
 |false=>exact hb wh pins s1 σ H1 Q I1 q1
def ach(ha:PT X a tA):PT X (.UnaryOp .Not a pos) (ajr tA):=by
 intro pins s σ H Q I h;exact isTrue_not (ha pins s σ H (λc H1=>Q (!c) H1) I h)
def afK(ta tb:TE):TE:=λσ H Q=>ta σ H λx H1=>∃c,x=.bl c/\if c=true then tb σ H1 Q else Q (.bl false) H1
def aci{op}{t:TE}(h:PE X a t):PE X (.BoolOp op [a] pos) t:=λpins s σ H Q I hw=>BoolOp_one (h pins s σ H Q I hw)
def acj(ha:PE X a ta)(hb:PE X (.BoolOp .And (b::rest) pos) tb):PE X (.BoolOp .And (a::b::rest) pos) (afK ta tb):=by
 intro pins s σ H Q I h;refine BoolOp_and (fJ (ha pins s σ H _ I h) λv s1 ⟨x,H1,I1,r1,q1⟩=>?_);obtain⟨c,rfl,q1⟩:=q1;cases r1;refine GK ?_;cases c with
 |true=>exact hb pins s1 σ H1 Q I1 q1
 |false=>exact⟨.bl false,H1,I1,rfl,q1⟩
def tIf(t:TT)(ta tb:TE):TE:=λσ H Q=>t σ H λc H1=>if c=true then ta σ H1 Q else tb σ H1 Q
def R3{c:ao}(hc:PT X c tA)(ha:PE X a ta)(hb:PE X b tb):PE X (.IfExp c a b pos) (tIf tA ta tb):=by
 intro pins s σ H Q I h;refine wpAny_IfExp (fJ (hc pins s σ H _ I h) λd s1 ⟨H1,I1,q1⟩=>?_);cases d with
 |true=>exact ha pins s1 σ H1 Q I1 q1
 |false=>exact hb pins s1 σ H1 Q I1 q1
end
end L2
namespace L2
open PySem PySem.Spec PyProof.Rows
def gb(K:ak)(H:Hp)(a:ae)(xs:List V):Prop:=
 Rd H a (.lst xs)\/
  ∃(o:Obj)(its:Array ah)(n:Nat),K.lookup a=aa o/\o.cls=.type "list"/\o.dict=none/\o.data=.seq its n/\its.size<=aI/\Vals xs its.toList
def EU(K:ak)(H:Hp)(a:ae)(xs:List V):Prop:=
 Rd H a (.tup xs)\/
  ∃(o:Obj)(its:Array ah)(n:Nat),K.lookup a=aa o/\o.cls=.type "tuple"/\o.data=.seq its n/\its.size<=aI/\Vals xs its.toList
def ajs:ah->Option V
 |.none=>aa .non
 |.bool b=>aa (.bl b)
 |.int i _=>aa (.int i)
 |.str x _=>aa (.str x)
 |.bytes b _=>aa (.RE b)
 |.float b _=>aa (.flt b)
 |.ref a=>aa (.ref a)
 |.type n=>aa (.ty n)
 |_=>none
def RelV.abs {x:V}{u:ah}(r:RelV x u):ajs u=aa x:=by
 cases x with
 |non=>cases r;rfl
 |bl _=>cases r;rfl
 |int _=>obtain⟨t,rfl⟩:=r;rfl
 |str _=>obtain⟨t,rfl⟩:=r;rfl
 |RE _=>obtain⟨t,rfl⟩:=r;rfl
 |flt _=>obtain⟨t,rfl⟩:=r;rfl
 |ref _=>cases r;rfl
 |ty _=>cases r;rfl
theorem RelV.inj {x y:V}{u:ah}(r:RelV x u)(q:RelV y u):x=y:=cA.inj (r.abs.symm.trans q.abs)
theorem Vals.inj:∀{xs ys:List V}{us:List ah},Vals xs us->Vals ys us->xs=ys
 |_,_,_,.nil,.nil=>rfl
 |_,_,_,.cons r t,.cons r' t'=>by rw[r.inj r',Vals.inj t t']
section
variable{X:Cx}{pins:List (ae×Obj)}{σ:St}{H:Hp}{s:aj}{a:ae}{xs ys:List V}
def gb.of {K:ak}(h:H a=aa (.lst xs)):gb K H a xs:=.inl (.inl h)
def EU.of {K:ak}(h:H a=aa (.tup xs)):EU K H a xs:=.inl (.inl h)
def Inv.list (I:Inv X pins σ H s)(h:gb X.K H a xs):∃its:List ah,Vals xs its/\PlainL s.heap a its.toArray/\xs.length<=aI:=by
 rcases h with h|⟨o,its,n,hk,hc,hd,hs,hz,r⟩
 ·obtain⟨z,its,n,r,e⟩:=h.ok I.hok
  exact⟨its,r,⟨_,n,e,rfl,rfl,rfl⟩,z⟩
 ·refine⟨its.toList,r,⟨o,n,I.AI a o hk,hc,hd,by simpa using hs⟩,?_⟩
  have e:=r.length;simp only [WE]at e;lia
def Inv.tuple (I:Inv X pins σ H s)(h:EU X.K H a xs):∃its:List ah,Vals xs its/\IsTup s.heap a its.toArray/\xs.length<=aI:=by
 rcases h with h|⟨o,its,n,hk,hc,hs,hz,r⟩
 ·obtain⟨z,its,r,p⟩:=h.ok I.hok
  exact⟨its,r,p,z⟩
 ·refine⟨its.toList,r,⟨o,I.AI a o hk,hc,n,by simpa using hs⟩,?_⟩
  have e:=r.length;simp only [WE]at e;lia
def Inv.sS (I:Inv X pins σ H s)(h:gb X.K H a xs)(h':gb X.K H a ys):xs=ys:=by
 obtain⟨its,r,⟨o,n,e,_,_,d⟩,_⟩:=I.list h;obtain⟨its',r',⟨o',n',e',_,_,d'⟩,_⟩:=I.list h';rw[e]at e';cases e';rw[d]at d';injection d' with d1 _;have:its=its':=by simpa using congrArg WG d1
 subst this;exact r.inj r'
def Inv.Qs (I:Inv X pins σ H s)(h:EU X.K H a xs)(h':EU X.K H a ys):xs=ys:=by
 obtain⟨its,r,⟨o,e,_,n,d⟩,_⟩:=I.tuple h;obtain⟨its',r',⟨o',e',_,n',d'⟩,_⟩:=I.tuple h';rw[e]at e';cases e';rw[d]at d';injection d' with d1 _;have:its=its':=by simpa using congrArg WG d1
 subst this;exact r.inj r'
end
abbrev Cx.EV (X:Cx)(E:ah->aj->Prop):Cx:={X with xe:=E}
abbrev Cx.MP (X:Cx):Cx:=X.EV λ_ _=>False
theorem Cx.Ok.EV {X:Cx}(ok:X.Ok)(E:ah->aj->Prop):(X.EV E).Ok:=
 ⟨ok.mod,ok.kind,ok.glob,ok.blt,ok.above,ok.inj,ok.has,ok.cab,ok.hd,ok.frames,ok.stk,ok.exf,ok.bs,ok.V4,ok.Qp,ok.Ld,ok.AH,ok.frf⟩
def Cx.Ok.vR {X:Cx}{E:ah->aj->Prop}(ok:(X.EV E).Ok):X.Ok:=
 ⟨ok.mod,ok.kind,ok.glob,ok.blt,ok.above,ok.inj,ok.has,ok.cab,ok.hd,ok.frames,ok.stk,ok.exf,ok.bs,ok.V4,ok.Qp,ok.Ld,ok.AH,ok.frf⟩
section
variable{X:Cx}{pins:List (ae×Obj)}{σ:St}{H:Hp}{s:aj}{E:ah->aj->Prop}
theorem Inv.EV (I:Inv X pins σ H s)(E:ah->aj->Prop):Inv (X.EV E) pins σ H s:=⟨I.ok.EV E,I.os,I.bare,I.base,I.loc,I.cell,I.free,I.yp,I.pin,I.hok,I.len⟩
theorem Inv.vR (I:Inv (X.EV E) pins σ H s):Inv X pins σ H s:=⟨I.ok.vR,I.os,I.bare,I.base,I.loc,I.cell,I.free,I.yp,I.pin,I.hok,I.len⟩
theorem SP.vR {D:Ends}{f:Flow}{s':aj}(h:SP (X.EV E) pins D f s'):SP X pins D f s':=by
 cases f with
 |next=>obtain⟨σ',H',I,q⟩:=h;exact⟨σ',H',I.vR,q⟩
 |brk=>obtain⟨σ',H',I,q⟩:=h;exact⟨σ',H',I.vR,q⟩
 |cont=>obtain⟨σ',H',I,q⟩:=h;exact⟨σ',H',I.vR,q⟩
 |ret u=>obtain⟨v,σ',H',I,r,q⟩:=h;exact⟨v,σ',H',I.vR,r,q⟩
theorem xj.MP {st:List aC}{t:TS}(h:xj X.MP st t):xj X st t:=λpins s σ H D I hw=>
 lQ (h pins s σ H D (I.EV _) hw) (λ_ _ q=>q.vR) λ_ _ z=>jL z
end
section
variable{X:Cx}{st:aC}{rest:List aC}{t u:TS}{e:ao}{te:TE}{pos:Pos}
def afL:TS:=λD σ H=>D.nx σ H
def ajt(t u:TS):TS:=λD σ H=>t {D with nx:=u D} σ H
def rz:xj X [] afL:=λ_ _ σ H _ I h=>GO ⟨σ,H,I,h⟩
def bF(h1:PS X st t)(h2:xj X rest u):xj X (st::rest) (ajt t u):=by
 intro pins s σ H D I h;refine WH (fJ (h1 pins s σ H {D with nx:=u D} I h) λf s1 q=>?_);cases f with
 |next=>
  obtain⟨σ',H',I',q⟩:=q;exact h2 pins s1 σ' H' D I' q
 |ret v=>exact q
 |brk=>exact q
 |cont=>exact q
def fq(h1:PS X st t):xj X [st] t:=by
 intro pins s σ H D I h;refine WH (fJ (h1 pins s σ H D I h) λf s1 q=>?_);cases f with
 |next=>exact GO q
 |ret v=>exact q
 |brk=>exact q
 |cont=>exact q
def ack:TS:=λD σ H=>D.bk σ H
def R4:PS X (.Break pos) ack:=λ_ _ σ H _ I h=>wpAny_Break ⟨σ,H,I,h⟩
def Inv.quiet {pins:List (ae×Obj)}{σ:St}{H:Hp}{s:aj}(I:Inv X pins σ H s):interactive X.env=false:=by simp[interactive,I.ok.kind]
def afM(te:TE):TS:=λD σ H=>te σ H λ_ H1=>D.nx σ H1
def jM(he:PE X e te)(hs:gk e none pos.line X.env=bc false:=by rfl):PS X (.Expr e pos) (afM te):=by
 intro pins s σ H D I h;exact wpAny_Expr_any (fJ (he pins s σ H _ I h) λv s1 ⟨x,H1,I1,r1,q1⟩=>⟨σ,H1,I1,q1⟩) I.quiet hs
def aju(te:TE):TS:=λD σ H=>te σ H D.rt
def nq(he:PE X e te):PS X (.Return (aa e) pos) (aju te):=by
 intro pins s σ H D I h;exact wpAny_Return_some (fJ (he pins s σ H _ I h) λv s1 ⟨x,H1,I1,r1,q1⟩=>⟨x,σ,H1,I1,r1,q1⟩)
def ajv(c:TT)(t u:TS):TS:=λD σ H=>c σ H λb H1=>if b=true then t D σ H1 else u D σ H1
def BJ{c:ao}{a b:List aC}{tc:TT}(hc:PT X c tc)(ha:xj X a t)(hb:xj X b u):PS X (.If c a b pos) (ajv tc t u):=by
 intro pins s σ H D I h;refine wpAny_If (fJ (hc pins s σ H _ I h) λd s1 ⟨H1,I1,q1⟩=>?_);cases d with
 |true=>exact ha pins s1 σ H1 D I1 q1
 |false=>exact hb pins s1 σ H1 D I1 q1
end
abbrev TG:=V->St->Hp->(St->Hp->Prop)->Prop
abbrev WI:=List V->St->Hp->(St->Hp->Prop)->Prop
def PG(X:Cx)(target:ao)(t:TG):Prop:=
 ∀(pins:List (ae×Obj))(s:aj)(σ:St)(H:Hp)(v:V)(u:ah)(Q:St->Hp->Prop),Inv X pins σ H s->RelV v u->t v σ H Q->
  aG (aE X.prog X.w) X.A (jf target X.env u) (λ_ s'=>∃σ' H',Inv X pins σ' H' s'/\Q σ' H') X.xe s
noncomputable def MQ(X:Cx)(ts:List ao)(t:WI):Prop:=
 ∀(pins:List (ae×Obj))(s:aj)(σ:St)(H:Hp)(vs:List V)(us:List ah)(Q:St->Hp->Prop),Inv X pins σ H s->Vals vs us->t vs σ H Q->
  aG (aE X.prog X.w) X.A (MR ((eu ts X.env).map (·.2)) us) (λ_ s'=>∃σ' H',Inv X pins σ' H' s'/\Q σ' H') X.xe s
abbrev acm:=V->V->V->Hp->(Hp->Prop)->Prop
def afN(X:Cx)(t:acm):Prop:=
 ∀(pins:List (ae×Obj))(s:aj)(σ:St)(H:Hp)(o i v:V)(ov iv u:ah)(Q:Hp->Prop),Inv X pins σ H s->RelV o ov->RelV i iv->RelV v u->t o i v H Q->
  aG (aE X.prog X.w) X.A (Cq ov iv u) (λ_ s'=>∃H',Inv X pins σ H' s'/\Q H') X.xe s
abbrev TIp:=V->V->Hp->VK->Prop
def PIp(X:Cx)(op:yX)(t:TIp):Prop:=
 ∀(pins:List (ae×Obj))(s:aj)(σ:St)(H:Hp)(x y:V)(v u:ah)(Q:VK),Inv X pins σ H s->RelV x v->RelV y u->t x y H Q->
  aG (aE X.prog X.w) X.A (inplaceOp op v u) (EP X pins σ Q) X.xe s
section
variable{X:Cx}{pos:Pos}
def R5(i:Nat):TG:=λv σ H Q=>Q (σ.set i (aa v)) H
def xn{i:Nat}{x:Str}(hN:X.N.Nodup)(hi:X.N[i]?=aa x)(hx:Loc X.env.scope x)(hf:X.fn x=true\/X.env.scope.names.lookup x=aa .local:=by first|exact .inl rfl|exact .inr rfl|assumption):PG X (.Name x pos) (R5 i):=by
 intro pins s σ H v u Q I r h;exact wpAny_assign_Name (vQ I hN hi hx r (λs' I'=>⟨_,H,I',h⟩) hf)
def ajw:WI:=λvs σ H Q=>vs=[]/\Q σ H
def afO(t:TG)(u:WI):WI:=λvs σ H Q=>∃v r,vs=v::r/\t v σ H λσ' H'=>u r σ' H' Q
def MS:MQ X [] ajw:=by
 intro pins s σ H vs us Q I r h;obtain⟨e,h⟩:=h;subst e;cases r;exact WK ⟨σ,H,I,h⟩
def Dr{e:ao}{es:List ao}{t:TG}{u:WI}(h1:PG X e t)(h2:MQ X es u)
  (hs:(eu (e::es) X.env).map (·.2)=jf e X.env::(eu es X.env).map (·.2):=by rfl):MQ X (e::es) (afO t u):=by
 intro pins s σ H vs us Q I r h;obtain⟨v,vr,e1,h⟩:=h;subst e1;cases r with
 |cons r rr=>
  rw[hs];refine MT (fJ (h1 pins s σ H _ _ _ I r h) λ_ s1 ⟨σ1,H1,I1,q1⟩=>?_);exact h2 pins s1 σ1 H1 _ _ Q I1 rr q1
def ajx(K:ak)(n:Nat)(t:WI):TG:=λv σ H Q=>∃a xs,v=.ref a/\EU K H a xs/\xs.length=n/\t xs σ H Q
def R6{es:List ao}{k:Nat}{t:WI}{n:Nat}(hc:X.calm=true)(h:MQ X es t)
  (hn:(eu es X.env).length=n:=by rfl)(hst:(eu es X.env).findIdx? (·.1)=none:=by rfl):PG X (.Tuple es k pos) (ajx X.K n t):=by
 intro pins s σ H v u Q I r hw;obtain⟨a,xs,e1,hq,hl,hw⟩:=hw;subst e1;cases r;obtain⟨its,rv,ht,hz⟩:=I.tuple hq;refine assign_Tuple_tuple (I.ok.hd hc) ht (by simp[hn,<-hl,rv.length]) hst λh' hx=>?_;have I1:Inv X pins σ H {s with heap:=h'}:=I.kept (t':=s.toks) λb o e=>hx b o (dO (bM e)) e;exact h pins _ σ H xs _ Q I1 (by simpa using rv) hw
def ajy(to ti:TE)(t:acm):TG:=λv σ H Q=>to σ H λo H1=>ti σ H1 λi H2=>t o i v H2 λH3=>Q σ H3
def Lf{o i:ao}{to ti:TE}{t:acm}(ho:PE X o to)(hi:PE X i ti)(hs:afN X t)
  (ha:∀v,jf (.Subscript o i pos) X.env v=(do
   let ov<-km [v] (aA o X.env);let iv<-km [v,ov] (aA i X.env)
   xm pos
   km [v,ov,iv] (Cq ov iv v)
   release [v,ov,iv] []):=by intro _;rfl):PG X (.Subscript o i pos) (ajy to ti t):=by
 intro pins s σ H v u Q I r h;rw[ha];refine aY (Cr (fJ (ho pins s σ H _ I h) λov s1 ⟨x,H1,I1,r1,q1⟩=>?_));refine aY (Cr (fJ (hi pins s1 σ H1 _ I1 q1) λiv s2 ⟨y,H2,I2,r2,q2⟩=>?_));refine aY (GQ (aY (Cr (fJ (hs pins s2 σ H2 x y v ov iv u _ I2 r1 r2 r q2) λ_ s3 ⟨H3,I3,q3⟩=>?_))));exact wpAny_release ⟨σ,H3,I3,q3⟩
def afP(te:TE)(g:TG):TS:=λD σ H=>te σ H λx H1=>g x σ H1 D.nx
def GR{tg e:ao}{te:TE}{g:TG}(he:PE X e te)(hg:PG X tg g)(hs:yY [tg] e pos.line X.env=bc false:=by rfl)(hw:yZ [tg] e X.env=bc none:=by rfl)
  (h1:(eu [tg] X.env).map (·.2)=[jf tg X.env]:=by rfl):PS X (.Assign [tg] e pos) (afP te g):=by
 intro pins s σ H D I h;refine wpAny_Assign_stores (fJ (he pins s σ H _ I h) λv s1 ⟨x,H1,I1,r1,q1⟩=>?_) hs hw;rw[h1];exact fJ (hg pins s1 σ H1 x v _ I1 r1 q1) λ_ s2 q=>q
def gS{i:Nat}{x:Str}{e:ao}{te:TE}{pos':Pos}(hN:X.N.Nodup)(hi:X.N[i]?=aa x)(hx:Loc X.env.scope x)(he:PE X e te)(hs:gk e (aa (.Name x pos')) pos.line X.env=bc false:=by rfl)(hf:X.fn x=true\/X.env.scope.names.lookup x=aa .local:=by first|exact .inl rfl|exact .inr rfl|assumption):
  PS X (.Assign [.Name x pos'] e pos) (afP te (R5 i)):=by
 intro pins s σ H D I h;refine wpAny_Assign_Name (fJ (he pins s σ H _ I h) λv s1 ⟨y,H1,I1,r1,q1⟩=>?_) hs;exact vQ I1 hN hi hx r1 (λs2 I2=>⟨_,H1,I2,q1⟩) hf
def ajz(i j:Nat)(ta:TA):TS:=λD σ H=>ta σ H λvs H1=>∃v w,vs=[v,w]/\D.nx ((σ.set i (aa v)).set j (aa w)) H1
def acn{i j:Nat}{x y:Str}{a b:ao}{ta:TA}{px py pt:Pos}{kt k2 pt2}(hc:X.calm=true)(hN:X.N.Nodup)(hi:X.N[i]?=aa x)(hj:X.N[j]?=aa y)(hij:i≠j)
  (hx:X.env.scope.names.lookup x=aa .local)(hy:X.env.scope.names.lookup y=aa .local)(ha:PA X [a,b] ta)
  (hw:yZ [.Tuple [.Name x px,.Name y py] kt pt] (.Tuple [a,b] k2 pt2) X.env=bc (aa [x,y]))
  (hs:yY [.Tuple [.Name x px,.Name y py] kt pt] (.Tuple [a,b] k2 pt2) pos.line X.env=bc false:=by rfl):
  PS X (.Assign [.Tuple [.Name x px,.Name y py] kt pt] (.Tuple [a,b] k2 pt2) pos) (ajz i j ta):=by
 intro pins s σ H D I h;rw[exec_Assign_arm];refine aY (GQ ?_);rw[hs];refine aY (cK ?_);rw[if_neg (by decide)];refine aY (Tuple_ (fJ (ha _ pins s σ H _ I h) λus s1 ⟨vs,H1,I1,r1,q1⟩=>?_));obtain⟨v,w,e1,q1⟩:=q1;subst e1;obtain⟨u1,u2,rfl,rv,vA⟩:∃u1 u2,us=[u1,u2]/\RelV v u1/\RelV w u2:=by
  cases r1 with
  |cons p q=>
   cases q with
   |cons p' q'=>
    cases q';exact⟨_,_,rfl,p,p'⟩
 refine GU ?_ (by show 2<=aI;decide);have I2:Inv X pins σ H1 {s1 with heap:=s1.heap.push {cls:=.type "tuple",data:=.seq [u1,u2].toArray}}:=I1.kept (t':=s1.toks) λb o e=>cZ _ e;rw[hw];refine aY (cK ?_);show aG (aE X.prog X.w) X.A (do rA "assign.swapped-stores";let items<-unpackItems (.ref s1.heap.objs.size) 2 none;MR [λv=>GV X.env y v,λv=>GV X.env x v] items.reverse;bc Flow.next) _ _ _;refine aY (wpAny_rule (aY (unpackItems_tuple (items:=#[u1,u2]) (I.ok.hd hc) (IsTup.new s1.heap _) λh' yV=>?_)));have I3:=I2.kept (h':=h') (t':=s1.toks) λb o e=>yV b o (dO (bM e)) e;show aG _ _ (MR [λv=>GV X.env y v,λv=>GV X.env x v] [u2,u1]>>=λ_=>bc Flow.next) _ _ _;refine aY (MT (wpAny_bindName (vQ I3 hN hj (.inl hy) vA (λs2 I4=>?_) (.inr hy))));refine MT (wpAny_bindName (vQ I4 hN hi (.inl hx) rv (λs3 I5=>WK (cK ?_)) (.inr hx)));rw[List.set_comm _ _ (Ne.symm hij)]at I5;exact⟨_,H1,I5,q1⟩
def ajA(i:Nat)(te:TE)(ti:TIp):TS:=λD σ H=>∃x,σ[i]?=aa (aa x)/\te σ H λy H1=>ti x y H1 λz H2=>D.nx (σ.set i (aa z)) H2
def Lg{i:Nat}{x:Str}{e:ao}{te:TE}{op:yX}{ti:TIp}{pos':Pos}(hN:X.N.Nodup)(hi:X.N[i]?=aa x)(hx:Loc X.env.scope x)(he:PE X e te)(ho:PIp X op ti)(hf:X.fn x=true\/X.env.scope.names.lookup x=aa .local:=by first|exact .inl rfl|exact .inr rfl|assumption):
  PS X (.AugAssign (.Name x pos') op e pos) (ajA i te ti):=by
 intro pins s σ H D I h;obtain⟨v,e1,h⟩:=h;obtain⟨m,hn,hl⟩:=I.loc;have vis:BI X.env.scope x:=by rcases hx with k|k;exact .inl k;exact .inr (.inl k)
 obtain⟨u,r,l⟩:=hl i x v hi e1 vis;refine wpAny_AugAssign_Name ?_;have go:aG (aE X.prog X.w) X.A (aA e X.env) (λw s₂=>aG (aE X.prog X.w) X.A (inplaceOp op u w) (λr s₃=>aG (aE X.prog X.w) X.A (MN X.env x r) (λ_=>SP X pins D .next) X.xe s₃) X.xe s₂) X.xe s:=by
  refine fJ (he pins s σ H _ I h) λw s1 ⟨y,H1,I1,r1,q1⟩=>?_;refine fJ (ho pins s1 σ H1 v y u w _ I1 r r1 q1) λz s2 ⟨zv,H2,I2,r2,q2⟩=>?_;exact vQ I2 hN hi hx r2 (λs3 I3=>⟨_,H2,I3,q2⟩) hf
 rcases l with⟨hk,hm⟩|⟨hk,c,hc,hcell⟩
 ·exact Wx I.ok.kind hk hn hm go
 ·rcases hk with hk|hk
  ·exact Wy I.ok.kind hk hc hcell go
  ·rcases hx with k|k
   ·have:X.env.scope.names.lookup x=aa .free:=hk
    rw[k]at this;cases this
   ·have:X.env.scope.names.lookup x=aa .free:=hk
    rw[k]at this;cases this
def ipI(f:Int->Int->Int):TIp:=λx y H Q=>∃i j,x=.int i/\y=.int j/\Q (.int (f i j)) H
def R7:PIp X .Add (ipI λi j=>i+j):=by
 intro pins s σ H x y v u Q I r1 r2 h;obtain⟨i,j,e1,e2,q⟩:=h;subst e1;subst e2;obtain⟨t,rfl⟩:=r1;obtain⟨t',rfl⟩:=r2;exact iadd_int ⟨.int _,H,I.tok _,⟨_,rfl⟩,q⟩
def acp:PIp X .Sub (ipI λi j=>i-j):=by
 intro pins s σ H x y v u Q I r1 r2 h;obtain⟨i,j,e1,e2,q⟩:=h;subst e1;subst e2;obtain⟨t,rfl⟩:=r1;obtain⟨t',rfl⟩:=r2;exact isub_int ⟨.int _,H,I.tok _,⟨_,rfl⟩,q⟩
end
section
variable{X:Cx}{pos:Pos}
def acq(c:TT)(tb:TS):TS:=λD σ H=>∃W:Nat->St->Hp->Prop,(∃m,W m σ H)/\∀m σ H,W m σ H->
 c σ H λb H1=>if b=true then∃N:St->Hp->Prop,(∀σ' H',N σ' H'->∃m',m'<m/\W m' σ' H')/\tb {D with nx:=N,ct:=N,bk:=D.nx} σ H1 else D.nx σ H1
def y0{c:ao}{body:List aC}{tc:TT}{tb:TS}(hp:GW (aE X.prog X.w) X.A X.env X.xe)(hc:PT X c tc)(hb:xj X body tb):PS X (.While c body [] pos) (acq tc tb):=by
 intro pins s σ H D I h;obtain⟨W,⟨m0,w0⟩,turn⟩:=h;refine wpAny_While (codeAny_whileLoop (λn s'=>∃σ' H',Inv X pins σ' H' s'/\W n σ' H') ?_ m0 ⟨σ,H,I,w0⟩);rintro n s1 ⟨σ1,H1,I1,w1⟩;refine xo hp (fJ (hc pins s1 σ1 H1 _ I1 (turn n σ1 H1 w1)) λb s2 ⟨H2,I2,q2⟩=>?_);cases b with
 |true=>
  obtain⟨N,hN,q2⟩:=q2;rw[if_pos rfl];refine xo hp (fJ (hb pins s2 σ1 H2 _ I2 q2) λf s3 q3=>?_);cases f with
  |next=>
   obtain⟨σ3,H3,I3,n3⟩:=q3;obtain⟨m',hm,w3⟩:=hN σ3 H3 n3;exact⟨m',hm,σ3,H3,I3,w3⟩
  |cont=>
   obtain⟨σ3,H3,I3,n3⟩:=q3;obtain⟨m',hm,w3⟩:=hN σ3 H3 n3;exact⟨m',hm,σ3,H3,I3,w3⟩
  |brk=>exact q3
  |ret v=>exact q3
 |false=>
  rw[if_neg di];exact GO ⟨σ1,H2,I2,q2⟩
end
structure It where
 go:Nat->Hp->Prop
 yld:Nat->Hp->V->Hp->Prop
 stop:Nat->Hp->Prop
def sU(X:Cx)(pins:List (ae×Obj))(H:Hp)(b:ae):Prop:=
 H b=none/\b≠X.env.locals/\b∉X.fs/\(b∈X.ex\/X.s₀.heap.objs.size<=b)/\(∀x c,X.env.cells.lookup x=aa c->c≠b)/\∀p∈X.pn++pins,p.1≠b
def Inv.Lh {X:Cx}{pins:List (ae×Obj)}{σ:St}{H H':Hp}{s:aj}{b:ae}(I:Inv X pins σ H s)(hb:s.heap.objs.size<=b)(hn:H' b=none):sU X pins H' b:=by
 refine⟨hn,Cs (dN I.lt hb),I.ajm hb,.inr (iF I.sz hb),λx c e z=>?_,λp hp z=>?_⟩
 ·obtain⟨v,q⟩:=I.cell x c e
  exact absurd (dN q.lt (by rw[z];exact hb)) (uh _)
 ·exact absurd (dN (bM (I.pin p hp).1) (by rw[z];exact hb)) (uh _)
structure Turn(P:aU)(w:aF)(K:ak)(tg:ao)(J:It)(fp:List ae)(it:ae)(tn:Nat->aD->Prop):Prop where
 mem:it∈fp
 obj:∀i h,tn i h->∀b∈fp,∃o,h.get? b=aa o/\∀v,o.data≠.cell v
 keep:∀i h h',tn i h->(∀b∈fp,∀o,h.get? b=aa o->h'.get? b=aa o)->tn i h'
 item:∀(X:Cx),X.prog=P->X.w=w->X.K=K->X.calm=true->∀(i:Nat)(pins:List (ae×Obj))(s:aj)(σ:St)(H:Hp)(E:ah->aj->Prop),Inv X pins σ H s->(∀b∈fp,sU X pins H b)->tn i s.heap->J.go i H->
  aG (aE P w) X.A (pyNext (.ref it)) (λr s1=>∃u,r=aa u/\
   aG (aE P w) X.A (GX tg (.ref it) u) (λ_ s2=>∃x H',Inv X pins σ H' s2/\RelV x u/\J.yld i H x H'/\tn (i+1) s2.heap/\∀b∈fp,H' b=none) E s1) E s
 done:∀(X:Cx),X.prog=P->X.w=w->X.K=K->X.calm=true->∀(i:Nat)(pins:List (ae×Obj))(s:aj)(σ:St)(H:Hp)(E:ah->aj->Prop),Inv X pins σ H s->(∀b∈fp,sU X pins H b)->tn i s.heap->J.stop i H->
  aG (aE P w) X.A (pyNext (.ref it)) (λr s1=>r=none/\Inv X pins σ H s1) E s
 self:∀(A:bu)(i:Nat)(s:aj)(Q:ah->aj->Prop)(E:ah->aj->Prop),tn i s.heap->Q (.ref it) s->aG (aE P w) A (pyIter (.ref it)) Q E s
abbrev TI:=St->Hp->(It->Hp->Prop)->Prop
def PIE(X:Cx)(pins:List (ae×Obj))(σ:St)(tg:ao)(R:It->Hp->Prop)(itv:ah)(s2:aj):Prop:=
 ∃(it:ae)(fp:List ae)(tn:Nat->aD->Prop)(J:It)(H':Hp),itv=.ref it/\Inv X pins σ H' s2/\Turn X.prog X.w X.K tg J fp it tn/\tn 0 s2.heap/\(∀b∈fp,sU X pins H' b)/\R J H'
def PI(X:Cx)(tg iter:ao)(wi:TI):Prop:=
 ∀(pins:List (ae×Obj))(s:aj)(σ:St)(H:Hp)(R:It->Hp->Prop),Inv X pins σ H s->wi σ H R->
  aG (aE X.prog X.w) X.A (aA iter X.env) (λv s1=>aG (aE X.prog X.w) X.A (pyIter v) (PIE X pins σ tg R) X.xe s1) X.xe s
def R8{M:Model}{A:bu}{E:ah->aj->Prop}{s:aj}{tg:ao}{it:ae}{u:ah}{o:Obj}{n:String}{vs:Array ah}{Q:Unit->aj->Prop}(ho:s.heap.get? it=aa o)(hc:o.cls=.type n)(hd:o.data=.fields vs)
  (hn:["enumerate","zip","dict_itemiterator","dict_reverseitemiterator","odict_iterator","itertools.zip_longest","itertools.pairwise"].contains n=false)(hQ:Q () s):aG M A (GX tg (.ref it) u) Q E s:=by
 unfold GX;cases tg<;>first
  |exact cK hQ
  |(cases u<;>first
    |exact cK hQ
    |(refine aY (wpAny_load ho ?_)
      rw[hc,hd];show aG M A (if(["enumerate","zip","dict_itemiterator","dict_reverseitemiterator","odict_iterator","itertools.zip_longest","itertools.pairwise"].contains n&&vs[0]?==aa (rawInt _))=true then _ else _) Q E s;rw[if_neg (by intro h;rw[hn,Bool.false_and]at h;cases h)];exact cK hQ))
def Itl(K:ak)(a:ae):It:=
 ⟨λi H=>∃xs x,gb K H a xs/\xs[i]?=aa x,λi H x H'=>H'=H/\∀xs,gb K H a xs->xs[i]?=aa x,λi H=>∃xs,gb K H a xs/\xs.length<=i⟩
def Itr(lo:Int)(n:Nat):It:=⟨λi _=>i<n,λi H x H'=>H'=H/\x=.int (lo+i),λi _=>n<=i⟩
def Qt{P:aU}{w:aF}{K:ak}{tg:ao}(a it:ae):Turn P w K tg (Itl K a) [it] it (λi h=>h.IsListIter it a i) where
 mem:=by simp
 obj:=λi h st b hb=>by
  have e:b=it:=by simpa using hb
  subst e;obtain⟨o,e,c,d⟩:=st;exact⟨o,e,λv z=>by rw[d]at z;cases z⟩
 keep:=λi h h' st k=>st.at λo e=>k it (by simp) o e
 item:=by
  intro X hP hw hK hc i pins s σ H E I hf st hg;subst hP hw hK;obtain⟨xs,x,hq,hx⟩:=hg;obtain⟨its,rv,p,hz⟩:=I.list hq;obtain⟨u,hu,ru⟩:=rv.get hx;obtain⟨f0,f1,f2,f3,f4,f5⟩:=hf it (by simp);refine wpAny_pyNext_list_item st p.isList (x:=u) (by simpa using hu) λh' WL sb=>?_;have I1:Inv X pins σ H {s with heap:=h'}:=I.turned (t':=s.toks) (λb o hb e=>(sb.2 b hb).trans e) f0 f1 f3 f4 f5;obtain⟨o,e,c,d⟩:=id WL;exact⟨u,rfl,R8 (s:={s with heap:=h'}) e c d (by decide) ⟨x,H,I1,ru,⟨rfl,λys hy=>by rw[I.sS hy hq];exact hx⟩,WL,λb hb=>(hf b hb).1⟩⟩
 done:=by
  intro X hP hw hK hc i pins s σ H E I hf st hg;subst hP hw hK;obtain⟨xs,hq,hx⟩:=hg;obtain⟨its,rv,p,hz⟩:=I.list hq;obtain⟨f0,f1,f2,f3,f4,f5⟩:=hf it (by simp);have hl:=rv.length;exact wpAny_pyNext_list_end (I.ok.hd hc) st p.isList (by simp;lia) λh' eb=>⟨rfl,I.turned (t':=s.toks) (λb o hb e=>eb b o hb e) f0 f1 f3 f4 f5⟩
 self:=λ_ _ _ _ _ st h=>wpAny_pyIter_listiter st h
def Li{P:aU}{w:aF}{K:ak}{tg:ao}(it:ae)(lo:Int)(n:Nat):Turn P w K tg (Itr lo n) [it] it (λi h=>y4 h it (lo+(i:Nat)*1) ((n:Int)-(i:Nat)) 1) where
 mem:=by simp
 obj:=λi h st b hb=>by
  have e:b=it:=by simpa using hb
  subst e;exact⟨_,st,λv z=>by
   have z':Data.fields _=Data.cell v:=z;cases z'⟩
 keep:=λi h h' st k=>k it (by simp) _ st
 item:=by
  intro X hP hw hK hc i pins s σ H E I hf st hg;subst hP hw hK;obtain⟨f0,f1,f2,f3,f4,f5⟩:=hf it (by simp);have W:=WM (prog:=X.prog) (w:=X.w) (I.ok.hd hc) it lo 1 n;refine W.item i s _ _ hg st λv h' tk hv WL kk=>?_;obtain⟨t,rfl⟩:=hv;have I1:Inv X pins σ H {s with heap:=h',toks:=tk}:=I.turned (λb o hb e=>kk b o (by simpa using hb) e) f0 f1 f3 f4 f5;refine⟨_,rfl,R8 (s:={s with heap:=h',toks:=tk}) (n:="range_iterator") WL rfl rfl (by decide) ⟨.int (lo+i),H,I1,⟨t,?_⟩,⟨rfl,rfl⟩,WL,λb hb=>(hf b hb).1⟩⟩;rw[Int.mul_one]
 done:=by
  intro X hP hw hK hc i pins s σ H E I hf st hg;subst hP hw hK;obtain⟨f0,f1,f2,f3,f4,f5⟩:=hf it (by simp);exact wpAny_pyNext_range_end (I.ok.hd hc) st (by have:n<=i:=hg;lia) λh' eb=>⟨rfl,I.turned (t':=s.toks) (λb o hb e=>eb b o hb e) f0 f1 f3 f4 f5⟩
 self:=λ_ _ _ _ _ st h=>wpAny_pyIter_rangeiter st h
end L2
namespace L2
open PySem PySem.Spec PyProof.Rows
section
variable{X:Cx}{tg:ao}
def R9(K:ak)(tl:TE):TI:=λσ H R=>tl σ H λx H1=>∃a,x=.ref a/\(∃xs,gb K H1 a xs)/\R (Itl K a) H1
def Cu{l:ao}{tl:TE}(hl:PE X l tl):PI X tg l (R9 X.K tl):=by
 intro pins s σ H R I h;refine fJ (hl pins s σ H _ I h) λv s1 ⟨x,H1,I1,r1,q1⟩=>?_;obtain⟨a,e,⟨xs,hq⟩,q⟩:=q1;subst e;cases r1;obtain⟨its,rv,p,hz⟩:=I1.list hq;refine wpAny_pyIter_list p.isList ?_;refine⟨s1.heap.objs.size,[s1.heap.objs.size],_,_,H1,rfl,I1.kept (t':=s1.toks) λb o e=>cZ _ e,Qt a _,⟨_,jg _ rfl,rfl,rfl⟩,λb hb=>?_,q⟩;have e:b=s1.heap.objs.size:=by simpa using hb
 subst e;exact I1.Lh (bf _) (I1.hok.fresh (bf _))
def Sd{pins:List (ae×Obj)}{σ:St}{H:Hp}{s:aj}{R:It->Hp->Prop}{E:ah->aj->Prop}{lo hi:Int}{t u v:Tok}{tk:Nat}(I:Inv X pins σ H s)(h1: -(2^62)<=lo)(h2:lo<2^62)(h3: -(2^62)<=hi)(h4:hi<2^62)
  (q:R (Itr lo (hi-lo).toNat) H):aG (aE X.prog X.w) X.A (pyIter (.ref s.heap.objs.size)) (PIE X pins σ tg R) E {s with heap:=s.heap.push {cls:=.type "range",data:=.fields #[.int lo t,.int hi u,.int 1 v]},toks:=tk}:=by
 refine wpAny_pyIter_range (rB.new ..) (MU h1 h2 h3 h4) ?_;have I1:Inv X pins σ H {s with heap:=s.heap.push {cls:=.type "range",data:=.fields #[.int lo t,.int hi u,.int 1 v]},toks:=tk}:=I.kept λb o e=>cZ _ e;refine⟨(s.heap.push {cls:=.type "range",data:=.fields #[.int lo t,.int hi u,.int 1 v]}).objs.size,[(s.heap.push {cls:=.type "range",data:=.fields #[.int lo t,.int hi u,.int 1 v]}).objs.size],_,_,H,rfl,
  I1.kept (t':=tk) λb o e=>cZ _ e,Li _ lo (hi-lo).toNat,?_,λb hb=>?_,q⟩
 ·have e1:lo+((0:Nat):Int)*1=lo:=by simp
  have e2:(((hi-lo).toNat:Nat):Int)-((0:Nat):Int)=dz lo hi 1:=by rw[Cw];split<;>lia
  show y4 _ _ (lo+((0:Nat):Int)*1) ((((hi-lo).toNat:Nat):Int)-((0:Nat):Int)) 1;rw[e1,e2];exact jg _ rfl
 ·have e:b=(s.heap.push {cls:=.type "range",data:=.fields #[.int lo t,.int hi u,.int 1 v]}).objs.size:=by simpa using hb
  subst e;exact I1.Lh (bf _) (I1.hok.fresh (bf _))
def afS(ta:TA):TI:=λσ H R=>ta σ H λvs H1=>∃i j:Int,vs=[.int i,.int j]/\(-(2^62)<=i/\i<2^62/\ -(2^62)<=j/\j<2^62)/\R (Itr i (j-i).toNat) H1
def Qu{a b:ao}{ta:TA}{p pos:Pos}(hg:Gl X "range")(hm:X.mg "range"=none)(ha:PA X [a,b] ta)(hs:ar [a,b] X.env=[(false,aA a X.env),(false,aA b X.env)]:=by rfl)(hs2:ar [b] X.env=[(false,aA b X.env)]:=by rfl):
  PI X tg (.Call (.Name "range" p) [a,b] [] pos) (afS ta):=by
 intro pins s σ H R I h;refine rC (j3 I hg hm boot_range (jN (fJ (ha pos pins s σ H _ I h) λus s1 ⟨vs,H1,I1,r1,q1⟩=>?_) (by rw[hs,hs2]) (by rw[hs2];rfl)));obtain⟨i,j,e,⟨q1,q2,q3,q4⟩,q⟩:=q1;subst e;cases r1 with
 |cons r rr=>
  cases rr with
  |cons r' rr=>
   cases rr;obtain⟨t,rfl⟩:=r;obtain⟨t',rfl⟩:=r';exact call_range_2 (Sd I1 q1 q2 q3 q4 q)
noncomputable def ajB(wi:TI)(g:TG)(tb:TS):TS:=λD σ H=>wi σ H λJ H1=>∃W:Nat->Nat->St->Hp->Prop,(∃m,W 0 m σ H1)/\∀i m σ H,W i m σ H->
 (J.stop i H/\D.nx σ H)\/(J.go i H/\∃N:St->Hp->Prop,(∀σ' H',N σ' H'->∃m',m'<m/\W (i+1) m' σ' H')/\∀x H',J.yld i H x H'->g x σ H' λσ2 H2=>tb {D with nx:=N,ct:=N,bk:=D.nx} σ2 H2)
def AJ(fp:List ae)(h:aD):List (ae×Obj):=fp.filterMap λb=>(h.get? b).map λo=>(b,o)
def kQ{fp:List ae}{h:aD}{b:ae}{o:Obj}(hb:b∈fp)(e:h.get? b=aa o):(b,o)∈AJ fp h:=WN.mpr ⟨b,hb,by rw[e];rfl⟩
def Qw{fp:List ae}{h:aD}{p:ae×Obj}(hp:p∈AJ fp h):p.1∈fp/\h.get? p.1=aa p.2:=by
 obtain⟨b,hb,e⟩:=WN.mp hp;cases q:h.get? b with
 |none=>rw[q]at e;cases e
 |some o=>
  rw[q]at e;have e':(b,o)=p:=cA.inj e;subst e';exact⟨hb,q⟩
def Inv.pinned {pins:List (ae×Obj)}{σ:St}{H:Hp}{s:aj}{fp:List ae}(I:Inv X pins σ H s)(hf:∀b∈fp,sU X pins H b)(ho:∀b∈fp,∃o,s.heap.get? b=aa o/\∀v,o.data≠.cell v):Inv X (pins++AJ fp s.heap) σ H s:=
 I.ML λp hp=>(cu.mp hp).elim (λz=>I.pin p (fK _ z)) λz=>by
  obtain⟨hb,e⟩:=Qw z;obtain⟨f0,f1,f2,_⟩:=hf p.1 hb;obtain⟨o,e',d⟩:=ho p.1 hb;rw[e]at e';cases e';exact⟨e,f0,f1,f2,d⟩
def Inv.qy {pins pl:List (ae×Obj)}{σ:St}{H:Hp}{s:aj}(I:Inv X (pins++pl) σ H s):Inv X pins σ H s:=I.ML λp hp=>I.pin p (fK _ (jK _ hp))
def Se{iter:ao}{body:List aC}{wi:TI}{g:TG}{tb:TS}{pos:Pos}(hp:GW (aE X.prog X.w) X.A X.env X.xe)(hc:X.calm=true)(hi:PI X tg iter wi)(hg:PG X tg g)(hb:xj X body tb)
  (hs:∀x,y6 iter X.env x=bc x:=by intro _;rfl):PS X (.For tg iter body [] pos) (ajB wi g tb):=by
 intro pins s σ H D I h;refine wpAny_For (fJ (hi pins s σ H _ I h) λv s1 h1=>fJ h1 λitv s2 h2=>?_) hs;obtain⟨it,fp,tn,J,H2,e,I2,T,V6,f2,W,⟨m0,w0⟩,turn⟩:=h2;subst e;have acs:∀{H':Hp},(∀b∈fp,H' b=none)->∀b∈fp,sU X pins H' b:=λhn b hb=>⟨hn b hb,(f2 b hb).2⟩
 refine codeAny_forLoop_any (λn s'=>∃i σ' H',Inv X pins σ' H' s'/\tn i s'.heap/\(∀b∈fp,H' b=none)/\W i n σ' H') ?_ m0 ⟨0,σ,H2,I2,V6,λb hb=>(f2 b hb).1,w0⟩;rintro n s3 ⟨i,σ3,H3,I3,st3,AK,w3⟩;rcases turn i n σ3 H3 w3 with⟨stop,qn⟩|⟨go,N,hN,step⟩
 ·refine xo hp (fJ (T.done X rfl rfl rfl hc i pins s3 σ3 H3 X.xe I3 (acs AK) st3 stop) λr s4 ⟨hr,I4⟩=>?_)
  subst hr;exact GO ⟨σ3,H3,I4,qn⟩
 ·refine xo hp (fJ (T.item X rfl rfl rfl hc i pins s3 σ3 H3 X.xe I3 (acs AK) st3 go) λr s4 ⟨u,hr,h4⟩=>?_)
  subst hr;refine xo hp (fJ h4 λ_ s5 ⟨x,H5,I5,r5,y5,WO,V7⟩=>?_);have I5':=I5.pinned (acs V7) (T.obj _ _ WO);refine xo hp (fJ (hg _ s5 σ3 H5 x u _ I5' r5 (step x H5 y5)) λ_ s6 ⟨σ6,H6,I6,q6⟩=>?_);refine xo hp (fJ (hb _ s6 σ6 H6 _ I6 q6) λf s7 q7=>?_);have again:∀{σ7:St}{H7:Hp},Inv X (pins++AJ fp s5.heap) σ7 H7 s7->N σ7 H7->∃m,m<n/\∃i σ' H',Inv X pins σ' H' s7/\tn i s7.heap/\(∀b∈fp,H' b=none)/\W i m σ' H':=λ{σ7 H7} I7 n7=>by
   obtain⟨m',hm,w7⟩:=hN σ7 H7 n7;refine⟨m',hm,i+1,σ7,H7,I7.qy,T.keep _ _ _ WO λb hb o e=>(I7.pin (b,o) (fK _ (fK _ (kQ hb e)))).1,λb hb=>?_,w7⟩;obtain⟨o,e,d⟩:=T.obj _ _ WO b hb;exact(I7.pin (b,o) (fK _ (fK _ (kQ hb e)))).2.1
  cases f with
  |next=>obtain⟨σ7,H7,I7,n7⟩:=q7;exact again I7 n7
  |cont=>obtain⟨σ7,H7,I7,n7⟩:=q7;exact again I7 n7
  |brk=>obtain⟨σ7,H7,I7,q7⟩:=q7;exact⟨σ7,H7,I7.qy,q7⟩
  |ret v=>obtain⟨x7,σ7,H7,I7,r7,q7⟩:=q7;exact⟨x7,σ7,H7,I7.qy,r7,q7⟩
end
def Sf{K:ak}{a:ae}{xs:List V}{g:TG}{tb:TS}{D:Ends}{σ:St}{H:Hp}(Pv:Nat->St->Hp->Prop)(h0:Pv 0 σ H)(hl:∀i σ H,i<=xs.length->Pv i σ H->gb K H a xs)
  (hs:∀i x σ H,xs[i]?=aa x->Pv i σ H->g x σ H λσ2 H2=>tb {D with nx:=Pv (i+1),ct:=Pv (i+1),bk:=D.nx} σ2 H2)(hd:∀σ H,Pv xs.length σ H->D.nx σ H):
  ∃W:Nat->Nat->St->Hp->Prop,(∃m,W 0 m σ H)/\∀i m σ H,W i m σ H->
   ((Itl K a).stop i H/\D.nx σ H)\/((Itl K a).go i H/\∃N:St->Hp->Prop,(∀σ' H',N σ' H'->∃m',m'<m/\W (i+1) m' σ' H')/\∀x H',(Itl K a).yld i H x H'->g x σ H' λσ2 H2=>tb {D with nx:=N,ct:=N,bk:=D.nx} σ2 H2):=by
 refine⟨λi m σ H=>m=xs.length-i/\i<=xs.length/\Pv i σ H,⟨xs.length,by simp,iJ _,h0⟩,?_⟩;rintro i m σ H ⟨rfl,hi,p⟩;have q:=hl i σ H hi p
 by_cases hlt:i<xs.length
 ·refine .inr ⟨⟨xs,xs[i],q,by simp[hlt]⟩,Pv (i+1),λσ' H' p'=>⟨xs.length-(i+1),by lia,rfl,hlt,p'⟩,λx H' y=>?_⟩
  obtain⟨e,y⟩:=y;subst e;exact hs i x σ _ (y xs q) p
 ·have e:i=xs.length:=by lia
  subst e;exact .inl ⟨⟨xs,q,bf _⟩,hd σ H p⟩
end L2
namespace L2
open PySem PySem.Spec PyProof.Rows
abbrev R2:=V->V->Hp->VK->Prop
def y7(X:Cx)(f:ah->ah->Sem ah)(r:R2):Prop:=
 ∀(pins:List (ae×Obj))(s:aj)(σ:St)(H:Hp)(x y:V)(v u:ah)(Q:VK),Inv X pins σ H s->RelV x v->RelV y u->r x y H Q->
  aG (aE X.prog X.w) X.A (f v u) (EP X pins σ Q) X.xe s
def UnR(X:Cx)(f:ah->Sem ah)(r:V->Hp->VK->Prop):Prop:=
 ∀(pins:List (ae×Obj))(s:aj)(σ:St)(H:Hp)(x:V)(v:ah)(Q:VK),Inv X pins σ H s->RelV x v->r x H Q->
  aG (aE X.prog X.w) X.A (f v) (EP X pins σ Q) X.xe s
def yq(X:Cx)(f:ah)(r:List V->Hp->VK->Prop):Prop:=
 ∀(pins:List (ae×Obj))(s:aj)(σ:St)(H:Hp)(xs:List V)(us:List ah)(Q:VK),Inv X pins σ H s->Vals xs us->r xs H Q->
  aG (aE X.prog X.w) X.A (call f us) (EP X pins σ Q) X.xe s
def tOp(r:R2)(ta tb:TE):TE:=λσ H Q=>ta σ H λx H1=>tb σ H1 λy H2=>r x y H2 Q
def tUn(r:V->Hp->VK->Prop)(ta:TE):TE:=λσ H Q=>ta σ H λx H1=>r x H1 Q
def rI(C:Int->Int->Prop)(g:Int->Int->V):R2:=λx y H Q=>∃i j,x=.int i/\y=.int j/\C i j/\Q (g i j) H
def K9(g:Int->Int->V):R2:=λx y H Q=>∃i j,x=.int i/\y=.int j/\Q (g i j) H
def rU(g:Int->V):V->Hp->VK->Prop:=λx H Q=>∃i,x=.int i/\Q (g i) H
section
variable{X:Cx}{a b c:ao}{ta tb tc:TE}{pos:Pos}
def acu(ha:PE X a ta)(hb:PE X b tb){pins:List (ae×Obj)}{s:aj}{σ:St}{H:Hp}{R:V->V->Hp->Prop}(I:Inv X pins σ H s)
  (h:ta σ H λx H1=>tb σ H1 λy H2=>R x y H2){Q:ah->aj->Prop}{f:ah->ah->Sem ah}
  (hf:∀v u s2 x y H2,Inv X pins σ H2 s2->RelV x v->RelV y u->R x y H2->aG (aE X.prog X.w) X.A (f v u) Q X.xe s2):
  aG (aE X.prog X.w) X.A (aA a X.env) (λv s₁=>aG (aE X.prog X.w) X.A (aA b X.env) (λu s₂=>aG (aE X.prog X.w) X.A (f v u) Q X.xe s₂) X.xe s₁) X.xe s:=by
 refine fJ (ha pins s σ H _ I h) λv s1 ⟨x,H1,I1,r1,q1⟩=>?_;refine fJ (hb pins s1 σ H1 _ I1 q1) λu s2 ⟨y,H2,I2,r2,q2⟩=>?_;exact hf v u s2 x y H2 I2 r1 r2 q2
def yr{op:yX}{r:R2}(ho:y7 X (lS op) r)(ha:PE X a ta)(hb:PE X b tb):PE X (.BinOp a op b pos) (tOp r ta tb):=by
 intro pins s σ H Q I h;exact wpAny_BinOp (acu ha hb I h λv u s2 x y H2 I2 rx ry q=>ho pins s2 σ H2 x y v u Q I2 rx ry q)
def MV{op:UnaryOp}{r:V->Hp->VK->Prop}(ho:UnR X (GY op) r)(ha:PE X a ta):PE X (.UnaryOp op a pos) (tUn r ta):=by
 intro pins s σ H Q I h;exact UnaryOp_ (fJ (ha pins s σ H _ I h) λv s1 ⟨x,H1,I1,r1,q1⟩=>ho pins s1 σ H1 x v Q I1 r1 q1)
def opI{f:ah->ah->Sem ah}{C:Int->Int->Prop}{g:Int->Int->Int}
  (rA:∀(i j:Int)(t u:Tok)(s:aj)(Q:ah->aj->Prop)(E:ah->aj->Prop),C i j->Q (.int (g i j) s.toks) {s with toks:=s.toks+1}->aG (aE X.prog X.w) X.A (f (.int i t) (.int j u)) Q E s):
  y7 X f (rI C λi j=>.int (g i j)):=by
 intro pins s σ H x y v u Q I rx ry h;obtain⟨i,j,rfl,rfl,hc,q⟩:=h;obtain⟨t,rfl⟩:=rx;obtain⟨t',rfl⟩:=ry;exact rA i j t t' s _ _ hc ⟨.int (g i j),H,I.tok _,⟨_,rfl⟩,q⟩
def acv{f:ah->ah->Sem ah}{g:Int->Int->Int}
  (rA:∀(i j:Int)(t u:Tok)(s:aj)(Q:ah->aj->Prop)(E:ah->aj->Prop),Q (.int (g i j) s.toks) {s with toks:=s.toks+1}->aG (aE X.prog X.w) X.A (f (.int i t) (.int j u)) Q E s):
  y7 X f (K9 λi j=>.int (g i j)):=by
 intro pins s σ H x y v u Q I rx ry h;obtain⟨i,j,rfl,rfl,q⟩:=h;obtain⟨t,rfl⟩:=rx;obtain⟨t',rfl⟩:=ry;exact rA i j t t' s _ _ ⟨.int (g i j),H,I.tok _,⟨_,rfl⟩,q⟩
def WQ{f:ah->ah->Sem ah}{g:Int->Int->Bool}
  (rA:∀(i j:Int)(t u:Tok)(s:aj)(Q:ah->aj->Prop)(E:ah->aj->Prop),Q (.bool (g i j)) s->aG (aE X.prog X.w) X.A (f (.int i t) (.int j u)) Q E s):
  y7 X f (K9 λi j=>.bl (g i j)):=by
 intro pins s σ H x y v u Q I rx ry h;obtain⟨i,j,rfl,rfl,q⟩:=h;obtain⟨t,rfl⟩:=rx;obtain⟨t',rfl⟩:=ry;exact rA i j t t' s _ _ ⟨.bl (g i j),H,I,rfl,q⟩
def afW(i j:Int):Prop:=0<j/\j<1073741824
def Qx(i j:Int):Prop:=0<=j/\j<=1000000/\i.natAbs<2^64
def WR(i j:Int):Prop:=(-(2^64)<i/\i<2^64)\/(-(2^64)<j/\j<2^64)
def WR.ok {i j:Int}(h:WR i j):IntMulOk i j:=by
 rcases h with⟨h1,h2⟩|⟨h1,h2⟩
 ·exact .of_left (intBits_le_64 h1 h2)
 ·exact .of_right (intBits_le_64 h1 h2)
def nv:y7 X (lS .Add) (K9 λi j=>.int (i+j)):=acv λ_ _ _ _ _ _ _ q=>add_int q
def eJ:y7 X (lS .Sub) (K9 λi j=>.int (i-j)):=acv λ_ _ _ _ _ _ _ q=>sub_int q
def Lj:y7 X (lS .Mult) (rI WR λi j=>.int (i*j)):=opI λ_ _ _ _ _ _ _ hc q=>mul_int q hc.ok
def y8:y7 X (lS .FloorDiv) (rI afW λi j=>.int (i/j)):=opI λi j _ _ _ _ _ hc q=>by
 have h1:(0:Int)<j:=hc.1;have h2:j<1073741824:=hc.2;exact floordiv_int (by lia) (by rw[Int.fdiv_eq_ediv_of_nonneg i (by lia)];exact q) (.inl (WS (by lia)))
def qz:y7 X (lS .Mod) (rI (λ_ j=>0<j) λi j=>.int (i%j)):=opI λi j _ _ _ _ _ hc q=>by
 have h1:(0:Int)<j:=hc;exact mod_int' (by lia) (by rw[Int.fmod_eq_emod_of_nonneg i (by lia)];exact q)
def acw:y7 X (lS .Pow) (rI Qx λi j=>.int (i^j.toNat)):=opI λ_ _ _ _ _ _ _ hc q=>pow_int_small hc.1 hc.2.1 hc.2.2 q
def acx:y7 X (lS .LShift) (rI Qx λi j=>.int (i*2^j.toNat)):=opI λ_ _ _ _ _ _ _ hc q=>lshift_int_small hc.1 hc.2.1 hc.2.2 q
def Sg:y7 X (lS .BitAnd) (K9 λi j=>.int (MX i j)):=acv λ_ _ _ _ _ _ _ q=>and_int q
def unI{f:ah->Sem ah}{g:Int->Int}
  (rA:∀(i:Int)(t:Tok)(s:aj)(Q:ah->aj->Prop)(E:ah->aj->Prop),Q (.int (g i) s.toks) {s with toks:=s.toks+1}->aG (aE X.prog X.w) X.A (f (.int i t)) Q E s):
  UnR X f (rU λi=>.int (g i)):=by
 intro pins s σ H x v Q I rx h;obtain⟨i,rfl,q⟩:=h;obtain⟨t,rfl⟩:=rx;exact rA i t s _ _ ⟨.int (g i),H,I.tok _,⟨_,rfl⟩,q⟩
def kR:UnR X (GY .USub) (rU λi=>.int (-i)):=unI λ_ _ _ _ _ q=>neg_int q
def Sh:UnR X (GY .Invert) (rU λi=>.int (MY i)):=unI λ_ _ _ _ _ q=>invert_int q
end
noncomputable def Si:V->V->Bool
 |.non,.non=>true|.non,.int _=>true|.int _,.non=>true|.non,.bl _=>true|.bl _,.non=>true|.non,.str _=>true|.str _,.non=>true
 |.int _,.int _=>true|.bl _,.bl _=>true|.str _,.str _=>true|.RE _,.RE _=>true
 |.int _,.str _=>true|.str _,.int _=>true|.bl _,.str _=>true|.str _,.bl _=>true
 |_,_=>false
def rEq:R2:=λx y H Q=>Si x y=true/\Q (.bl (decide (x=y))) H
def WT{i j:Int}:decide (V.int i=V.int j)=(i==j):=by
 rw[y9];simp
def acy{i j:Bool}:decide (V.bl i=V.bl j)=(i==j):=by
 rw[y9];simp
def WU{i j:Str}:decide (V.str i=V.str j)=(i==j):=by
 rw[y9];simp
def WV{i j:Array UInt8}:decide (V.RE i=V.RE j)=(i.toList==j.toList):=by
 rw[y9];cases i;cases j;simp
section
variable{X:Cx}{a b c:ao}{ta tb tc:TE}{pos:Pos}
def jv{pins:List (ae×Obj)}{σ:St}{H:Hp}{s:aj}{Q:VK}{k k':Bool}(I:Inv X pins σ H s)(q:Q (.bl k) H)(e:k=k'):EP X pins σ Q (.bool k') s:=by
 subst e;exact⟨.bl k,H,I,rfl,q⟩
def Sn:y7 X (iI .Eq) rEq:=by
 intro pins s σ H x y v u Q I rx ry h;obtain⟨hs,q⟩:=h;cases x with
 |non=>
  cases rx;cases y with
  |non=>cases ry;exact PySem.EqNone.eq_none_none (jv I q (by simp))
  |bl j=>cases ry;exact PySem.EqNone.eq_none_bool (jv I q (by simp))
  |int j=>obtain⟨t',rfl⟩:=ry;exact PySem.EqNone.eq_none_int (jv I q (by simp))
  |str j=>obtain⟨t',rfl⟩:=ry;exact PySem.EqNone.eq_none_str (jv I q (by simp))
  |_=>exact absurd (show false=true from hs) di
 |bl i=>
  cases rx;cases y with
  |non=>cases ry;exact PySem.EqNone.eq_bool_none (jv I q (by simp))
  |bl j=>cases ry;exact eq_bool (jv I q acy)
  |str j=>obtain⟨t',rfl⟩:=ry;exact PySem.EqMixed.eq_bool_str (jv I q (by simp))
  |_=>exact absurd (show false=true from hs) di
 |int i=>
  obtain⟨t,rfl⟩:=rx;cases y with
  |non=>cases ry;exact PySem.EqNone.eq_int_none (jv I q (by simp))
  |int j=>obtain⟨t',rfl⟩:=ry;exact eq_int (jv I q WT)
  |str j=>obtain⟨t',rfl⟩:=ry;exact PySem.EqMixed.eq_int_str (jv I q (by simp))
  |_=>exact absurd (show false=true from hs) di
 |str i=>
  obtain⟨t,rfl⟩:=rx;cases y with
  |non=>cases ry;exact PySem.EqNone.eq_str_none (jv I q (by simp))
  |bl j=>cases ry;exact PySem.EqMixed.eq_str_bool (jv I q (by simp))
  |int j=>obtain⟨t',rfl⟩:=ry;exact PySem.EqMixed.eq_str_int (jv I q (by simp))
  |str j=>obtain⟨t',rfl⟩:=ry;exact eq_str (jv I q WU)
  |_=>exact absurd (show false=true from hs) di
 |RE i=>
  obtain⟨t,rfl⟩:=rx;cases y with
  |RE j=>obtain⟨t',rfl⟩:=ry;exact PySem.W.eq_bytes (jv I q WV)
  |_=>exact absurd (show false=true from hs) di
 |_=>cases y<;>exact absurd (show false=true from hs) di
def za:y7 X (iI .Lt) (K9 λi j=>.bl (decide (i<j))):=WQ λ_ _ _ _ _ _ _ q=>lt_int q
def afX:y7 X (iI .LtE) (K9 λi j=>.bl (decide (i<=j))):=WQ λ_ _ _ _ _ _ _ q=>le_int q
def oQ:y7 X (iI .Gt) (K9 λi j=>.bl (decide (j<i))):=WQ λ_ _ _ _ _ _ _ q=>gt_int q
def afY:y7 X (iI .GtE) (K9 λi j=>.bl (decide (j<=i))):=WQ λ_ _ _ _ _ _ _ q=>ge_int q
def acz:y7 X (iI .Is) (λx y H Q=>y=.non/\Q (.bl (decide (x=.non))) H):=by
 intro pins s σ H x y v u Q I rx ry h;obtain⟨rfl,q⟩:=h;cases ry;refine is_none_gen (jv I q ?_);cases x<;>first
  |(cases rx;rfl)
  |(obtain⟨t,rfl⟩:=rx;rfl)
def WW:y7 X (iI .IsNot) (λx y H Q=>y=.non/\Q (.bl (!decide (x=.non))) H):=by
 intro pins s σ H x y v u Q I rx ry h;obtain⟨rfl,q⟩:=h;cases ry;refine isnot_none_gen (jv I q ?_);cases x<;>first
  |(cases rx;rfl)
  |(obtain⟨t,rfl⟩:=rx;rfl)
def bJ(b:ao){op:ui}(h:op≠.In:=by decide)(h2:op≠.NotIn:=by decide):rq op b=false:=by
 have e1:(op==CmpOp.In)=false:=by cases op<;>first|rfl|exact absurd rfl h
 have e2:(op==WC)=false:=by cases op<;>first|rfl|exact absurd rfl h2
 cases b<;>simp[rq,e1,e2]
def WX{op:ui}{r:R2}(ho:y7 X (iI op) r)(ha:PE X a ta)(hb:PE X b tb)(hm:rq op b=false):PE X (.Compare a [op] [b] pos) (tOp r ta tb):=by
 intro pins s σ H Q I h;exact wpAny_Compare1 (acu ha hb I h λv u s2 x y H2 I2 rx ry q=>ho pins s2 σ H2 x y v u Q I2 rx ry q) hm
def afZ(t:TE):TT:=λσ H Q=>t σ H λx H'=>∃k,x=.bl k/\Q k H'
def pZ{op:ui}{r:R2}(ho:y7 X (iI op) r)(ha:PE X a ta)(hb:PE X b tb)(hm:rq op b=false):PT X (.Compare a [op] [b] pos) (afZ (tOp r ta tb)):=by
 intro pins s σ H Q I h;refine WD (fJ (ha pins s σ H _ I h) λv s1 ⟨x,H1,I1,r1,q1⟩=>fJ (hb pins s1 σ H1 _ I1 q1) λu s2 ⟨y,H2,I2,r2,q2⟩=>
  fJ (ho pins s2 σ H2 x y v u _ I2 r1 r2 q2) λc s3 ⟨z,H3,I3,r3,k,e,q3⟩=>?_) hm
 subst e;cases r3;exact GK ⟨H3,I3,q3⟩
def yK:(aI:Nat)<2^63:=by rw[MZ];decide
def vals1{x:V}{us:List ah}(r:Vals [x] us):∃u,us=[u]/\RelV x u:=by
 cases r with
 |cons r1 r2=>cases r2;exact⟨_,rfl,r1⟩
def vals2{x y:V}{us:List ah}(r:Vals [x,y] us):∃u w',us=[u,w']/\RelV x u/\RelV y w':=by
 cases r with
 |cons r1 r2=>
  cases r2 with
  |cons r3 r4=>cases r4;exact⟨_,_,rfl,r1,r3⟩
def Ds:yq X (.builtin "abs") (λxs H Q=>∃i,xs=[.int i]/\Q (.int (if i<0 then-i else i)) H):=by
 intro pins s σ H xs us Q I r h;obtain⟨i,rfl,q⟩:=h;obtain⟨u,rfl,t,rfl⟩:=vals1 r;exact call_abs_int λu tk=>⟨.int (if i<0 then-i else i),H,I.tok _,⟨_,rfl⟩,q⟩
def Qy(hc:X.calm=true):yq X (.builtin "max") (λxs H Q=>∃i j,xs=[.int i,.int j]/\Q (.int (if j>i then j else i)) H):=by
 intro pins s σ H xs us Q I r h;obtain⟨i,j,rfl,q⟩:=h;obtain⟨u,w',rfl,⟨t,rfl⟩,⟨t',rfl⟩⟩:=vals2 r;refine max_two_ints (I.ok.hd hc) λh' tk k=>⟨_,H,I.kept k,?_,q⟩
 by_cases hj:j>i
 ·rw[if_pos hj,if_pos hj];exact⟨_,rfl⟩
 ·rw[if_neg hj,if_neg hj];exact⟨_,rfl⟩
def af0(K:ak)(x:V)(H:Hp)(n:Nat):Prop:=
 match x with
 |.str y=>y.length<=aI/\n=y.length
 |.RE y=>y.size<=aI/\n=y.size
 |.ref p=>(∃xs,gb K H p xs/\n=xs.length)\/∃xs,EU K H p xs/\n=xs.length
 |_=>False
def gD:yq X (.builtin "len") (λxs H Q=>∃x n,xs=[x]/\af0 X.K x H n/\Q (.int n) H):=by
 intro pins s σ H xs us Q I r h;obtain⟨x,n,rfl,e,q⟩:=h;obtain⟨u,rfl,rx⟩:=vals1 r;have hl:=yK;have hs:aI=16777216:=MZ;cases x with
 |str y=>
  obtain⟨t,rfl⟩:=rx;obtain⟨hy,e'⟩:y.length<=aI/\n=y.length:=e;subst e';exact len_str (by lia) ⟨.int _,H,I.tok _,⟨_,rfl⟩,q⟩
 |RE y=>
  obtain⟨t,rfl⟩:=rx;obtain⟨hy,e'⟩:y.size<=aI/\n=y.size:=e;subst e';exact PySem.W.len_bytes (by lia) ⟨.int _,H,I.tok _,⟨_,rfl⟩,q⟩
 |ref p=>
  cases rx;have e':(∃xs,gb X.K H p xs/\n=xs.length)\/∃xs,EU X.K H p xs/\n=xs.length:=e;rcases e' with⟨xs,hx,e'⟩|⟨xs,hx,e'⟩
  ·subst e'
   obtain⟨its,r',pl,hz⟩:=I.list hx;have hlen:=r'.length;exact WY pl.isList (by simp only [cW];lia) ⟨.int xs.length,H,I.tok _,⟨_,by simp only [cW];rw[hlen]⟩,q⟩
  ·subst e'
   obtain⟨its,r',pl,hz⟩:=I.tuple hx;have hlen:=r'.length;exact len_tuple pl (by simp only [cW];lia) ⟨.int xs.length,H,I.tok _,⟨_,by simp only [cW];rw[hlen]⟩,q⟩
 |_=>exact(show False from e).elim
end
end L2
namespace L2
open PySem PySem.Spec PyProof.Rows
structure Ll(h:aD)(x dx C:ae)(mA:Str->Option ah):Prop where
 obj:h.get? x=aa (ug C dx)
 ns:h.Ns1 dx mA
 ne:dx≠x
def Qz{h:aD}{dx:ae}{mA:Str->Option ah}(n:h.Ns1 dx mA):∃od,h.get? dx=aa od/\∀name,GZ name od=aa (mA name):=by
 obtain⟨o,es,ep,ho,hd,hk,_,hm⟩:=n;refine⟨o,ho,λname=>?_⟩;have e:=hm name;unfold nsFind findBy at e;rw[<-Array.find?_toList]at e;unfold GZ;rw[hd];dsimp only;split
 ·rename_i y q
  rw[q]at e;exact congrArg aa e
 ·rename_i q
  rw[q]at e;have a:es.toList.any (·.refKey)=false:=by
   rw[List.any_eq_false];intro y hy;obtain⟨z,t,hkey⟩:=hk y (Array.mem_toList_iff.mp hy);simp[G0.refKey,hkey]
  have a':¬es.toList.any (·.refKey)=true:=by rw[a];exact di
  rw[if_neg a'];exact congrArg aa e
def Ll.look {h:aD}{x dx C:ae}{mA:Str->Option ah}(I:Ll h x dx C mA):∃od,PySem.W.InstAt h x (ug C dx) C (aa od)/\∀name,GZ name od=aa (mA name):=
 let⟨od,ho,hl⟩:=Qz I.ns
 ⟨od,⟨I.obj,rfl,rfl,ho⟩,hl⟩
section
variable{prog:aU}{w:aF}{A:bu}{E:ah->aj->Prop}{s:aj}{K:ak}{x dx C f:ae}{mA:Str->Option ah}{name:Str}{v:ah}
def get_map{expr:Bool}{Q:ah->aj->Prop}(X:K.In s.heap)(I:Ll s.heap x dx C mA)(hg:Cy K C name=true)(hh:G1 K C=true)
  (ha:eQ K (.ref C) name=aa none)(hv:mA name=aa v)(hv':WZ v=true)(h:Q v {s with toks:=s.toks+1}):
  aG (aE prog w) A (getAttr (.ref x) name expr) Q E s:=by
 obtain⟨od,J,hl⟩:=I.look;exact PySem.W.get_value X J (M0 hg).1 (PySem.W.findObj_own hh ha rfl (by rw[hl,hv])) hv' h
def So{pl:Sem Bool}{Q:ah×List ah->aj->Prop}(X:K.In s.heap)(I:Ll s.heap x dx C mA)(hg:Cy K C name=true)
  (hf:eQ K (.ref C) name=aa (aa (.ref f)))(ht:G2 K (.ref f)=true)(hv:mA name=none)(h:Q (.ref f,[.ref x]) s):
  aG (aE prog w) A (G3 (.ref x) name pl) Q E s:=by
 obtain⟨od,J,hl⟩:=I.look;exact PySem.W.method_fn X J (M0 hg).1 (M0 hg).2 hf (beq_iff_eq.mp ht) (by show(GZ name od).map (·.isSome)=aa false;rw[hl,hv];rfl) h
def W0{ns:List Str}{Q:Unit->aj->Prop}(X:K.In s.heap)(I:Ll s.heap x dx C mA)
  (hs:eQ K (.ref C) "__setattr__"=aa (aa (.builtin "object.__setattr__")))(hp:M4 K C=true)(ht:M5 K C name=aa none)(hh:G1 K C=true)
  (hw:GB mA ns)(hsz:ns.length<=aI)
  (h:∀h',Ll h' x dx C (λy=>if y=name then aa v else mA y)->GH dx s.heap h'->Q () {s with heap:=h',toks:=s.toks+2}):
  aG (aE prog w) A (setAttr (.ref x) name v) Q E s:=by
 obtain⟨od,J,hl⟩:=I.look;refine PySem.W.set_plain X J hs (PySem.W.osa_open (s:={s with toks:=s.toks+1}) (r:=none) X J hp ht λb=>?_);obtain⟨cd,hc,Wv⟩:=PySem.W.any_some hh;have hx:s.heap.get? x=aa ⟨.ref C,aa dx,.plain,#[]⟩:=I.obj;refine aY (cK (aY (aY (wpAny_loadPart hx (aY (Looks.here (s:={s with toks:=s.toks+1}) (PySem.W.looks_clsIn X hc) ?_))))));rw[Wv];refine cK (a:=aa dx) (aY (cK (aY ?_)));refine wpAny_nsSet1 (s:={s with toks:=s.toks+1}) I.ns λh' hn2 hs2=>?_;obtain⟨oD,esD,epD,hoD,hdD,hcD⟩:=hn2.count (GB.cons name v hw);refine aY (wpAny_lookBehind hoD (by rw[hdD];exact pastItsLine_dict (iF hcD (by rw[bD];lia))) ?_);exact cK (h _ ⟨(hs2.2 _ (Ne.symm I.ne)).trans I.obj,hn2,I.ne⟩ hs2)
def Sq{R:Result->aj->Prop}{vs:List ah}{kw:List (Str×ah)}(X:K.In s.heap)(hm:M6 K C=true)
  (hi:eQ K (.ref C) "__init__"=aa (aa (.ref f)))(hf:typeIn K (.ref f)=aa (.type "function"))
  (h:lU (aE prog w) (A.under (.builtin "type.__call__" ⟨.ref C::vs,kw⟩)) (.call (.ref f) ⟨.ref (s.heap.objs.size+1)::vs,kw⟩) (PySem.W.InitBack (s.heap.objs.size+1) R)
   {s with heap:=(s.heap.push rD).push (ug C s.heap.objs.size)}):
  lU (aE prog w) A (.call (.ref C) ⟨vs,kw⟩) R s:=by
 obtain⟨hh,g,d,t,os⟩:=s;exact PySem.W.make_core (PySem.W.makes_of X hm) (PySem.W.looks_findIn X hi) (λself=>PySem.W.bind_fn X self hf) (.inl rfl) h
end
def qA(f:Str)(v:V):List (Str×V)->List (Str×V)
 |[]=>[(f,v)]
 |(g,x)::r=>if g=f then(g,v)::r else(g,x)::qA f v r
theorem BK(f g:Str)(v:V):∀fs:List (Str×V),(qA f v fs).lookup g=if g=f then aa v else fs.lookup g
 |[]=>by
  show xp g [(f,v)]=_
  by_cases h:g=f
  ·have hb:(g==f)=true:=beq_iff_eq.mpr h
   simp only [xp,hb,if_pos h]
  ·have hb:(g==f)=false:=beq_eq_false_iff_ne.mpr h
   simp only [xp,hb,if_neg h]
 |(k,x)::r=>by
  have ih:=BK f g v r;rw[show qA f v ((k,x)::r)=(if k=f then(k,v)::r else(k,x)::qA f v r)from rfl]
  by_cases hk:k=f
  ·rw[if_pos hk]
   by_cases h:g=k
   ·have hb:(g==k)=true:=beq_iff_eq.mpr h
    simp only [xp,hb,if_pos (h.trans hk)]
   ·have hb:(g==k)=false:=beq_eq_false_iff_ne.mpr h
    simp only [xp,hb,if_neg (λe:g=f=>h (e.trans hk.symm))]
  ·rw[if_neg hk]
   by_cases h:g=k
   ·have hb:(g==k)=true:=beq_iff_eq.mpr h
    simp only [xp,hb,if_neg (λe:g=f=>hk (h.symm.trans e))]
   ·have hb:(g==k)=false:=beq_eq_false_iff_ne.mpr h
    simp only [xp,hb];exact ih
theorem AL(f:Str)(v:V):∀fs:List (Str×V),f∈(qA f v fs).map (·.1)/\∀g,g∈fs.map (·.1)->g∈(qA f v fs).map (·.1)
 |[]=>⟨by simp[qA],λg h=>by simp at h⟩
 |(k,x)::r=>by
  obtain⟨i1,i2⟩:=AL f v r;rw[show qA f v ((k,x)::r)=(if k=f then(k,v)::r else(k,x)::qA f v r)from rfl]
  by_cases hk:k=f
  ·rw[if_pos hk]
   subst hk;exact⟨by simp,λg h=>by simpa using h⟩
  ·rw[if_neg hk]
   refine⟨?_,λg h=>?_⟩
   ·rw[bw]
    exact bz _ i1
   ·rw[bw]at h⊢
    rcases aX.mp h with e|e
    ·exact aX.mpr (.inl e)
    ·exact bz _ (i2 g e)
theorem BL(f:Str)(v:V):∀fs:List (Str×V),(qA f v fs).length<=fs.length+1
 |[]=>by simp[qA]
 |(k,x)::r=>by
  have ih:=BL f v r;rw[show qA f v ((k,x)::r)=(if k=f then(k,v)::r else(k,x)::qA f v r)from rfl]
  by_cases hk:k=f
  ·rw[if_pos hk,bD,bD];lia
  ·rw[if_neg hk,bD,bD];lia
def vK.some_of {v:V}{o:Option ah}(r:vK (aa v) o):∃u,o=aa u/\RelV v u:=by
 cases o with
 |none=>exact(show False from r).elim
 |some u=>exact⟨u,rfl,r⟩
def vK.none_of {o:Option ah}(r:vK none o):o=none:=by
 cases o with
 |none=>rfl
 |some u=>exact(show False from r).elim
def QA{v:V}{u:ah}(r:RelV v u):WZ u=true:=by
 cases v with
 |non=>cases (show u=ah.none from r);rfl
 |bl b=>cases (show u=GA b from r);rfl
 |int i=>obtain⟨t,e⟩:=(show∃t,u=ah.int i t from r);cases e;rfl
 |str x=>obtain⟨t,e⟩:=(show∃t,u=Cp x t from r);cases e;rfl
 |RE b=>obtain⟨t,e⟩:=(show∃t,u=Ws b t from r);cases e;rfl
 |flt b=>obtain⟨t,e⟩:=(show∃t,u=MG b t from r);cases e;rfl
 |ref a=>cases (show u=dh a from r);rfl
 |ty n=>cases (show u=uf n from r);rfl
section
variable{P:aU}{w:aF}{H H':Hp}{h h':aD}{a C dx:ae}{fs fs':List (Str×V)}
def Cz(hok:ye P w H h)(e:H a=aa (.ins C dx fs)):∃mA,Ll h a dx C mA/\(∀f,vK (fs.lookup f) (mA f))/\GB mA (fs.map (·.1))/\fs.length<=1000/\H dx=aa (.own a):=by
 obtain⟨d,z,ne,ob,mA,n,r,q⟩:=(show gU P w H h a (.ins C dx fs)from hok a _ e)
 exact⟨mA,⟨ob,n,ne⟩,r,q,z,d⟩
end
structure Ss(K:ak)(C:ae):Prop where
 pg:Cy K C M7=true
 hd:G1 K C=true
 po:M4 K C=true
 sa:eQ K (.ref C) "__setattr__"=aa (aa (.builtin "object.__setattr__"))
def Ss.get {K:ak}{C:ae}(c:Ss K C)(f:Str):Cy K C f=true:=c.pg
def j5(K:ak)(C:ae)(f:Str):Prop:=eQ K (.ref C) f=aa none
def j5.af1 {K:ak}{C:ae}{f:Str}(n:j5 K C f):M5 K C f=aa none:=by
 unfold M5;rw[show eQ K (.ref C) f=aa none from n];rfl
structure Meth(K:ak)(C:ae)(m:Str)(f:ae):Prop where
 at_:eQ K (.ref C) m=aa (aa (.ref f))
 fn:G2 K (.ref f)=true
 kp:ko K (.ref f)=true
section
variable{X:Cx}{pins:List (ae×Obj)}{σ:St}{H:Hp}{s:aj}{a C dx:ae}{fs:List (Str×V)}{f:Str}{v:V}{A:bu}{E:ah->aj->Prop}
def Ln{b:Bool}{Q:ah->aj->Prop}(I:Inv X pins σ H s)(e:H a=aa (.ins C dx fs))(c:Ss X.K C)(n:j5 X.K C f)(l:fs.lookup f=aa v)
  (h:∀u s',Inv X pins σ H s'->RelV v u->Q u s'):aG (aE X.prog X.w) A (getAttr (.ref a) f b) Q E s:=by
 obtain⟨mA,O,r,_,_,_⟩:=Cz I.hok e;obtain⟨u,hu,ru⟩:=vK.some_of (v:=v) (o:=mA f) (by rw[<-l];exact r f);exact get_map I.AI O (c.get f) c.hd n hu (QA ru) (h u _ (I.tok _) ru)
def Dt{m:Str}{g:ae}{pl:Sem Bool}{Q:ah×List ah->aj->Prop}(I:Inv X pins σ H s)(e:H a=aa (.ins C dx fs))(c:Ss X.K C)(k:Meth X.K C m g)(l:fs.lookup m=none)
  (h:Q (.ref g,[.ref a]) s):aG (aE X.prog X.w) A (G3 (.ref a) m pl) Q E s:=by
 obtain⟨mA,O,r,_,_,_⟩:=Cz I.hok e;have hn:mA m=none:=vK.none_of (by rw[<-l];exact r m);exact So I.AI O (c.get m) k.at_ k.fn hn h
def Lo{y:V}{u:ah}{Q:Unit->aj->Prop}(I:Inv X pins σ H s)(e:H a=aa (.ins C dx fs))(c:Ss X.K C)(n:j5 X.K C f)(hl:fs.length<1000)(ry:RelV y u)
  (h:∀s',Inv X pins σ (upd H a (.ins C dx (qA f y fs))) s'->Q () s'):aG (aE X.prog X.w) A (setAttr (.ref a) f u) Q E s:=by
 obtain⟨mA,O,r,wi,_,ho⟩:=Cz I.hok e;have hz:(fs.map (·.1)).length<=aI:=by rw[aB,MZ];lia
 refine W0 I.AI O c.sa c.po n.af1 c.hd wi hz λh' O' sb=>h _ ?_;have hd:∃o,h'.get? dx=aa o:=let⟨o,_,_,e',_⟩:=O'.ns;⟨o,e'⟩
 refine I.write (x:=a) (e:=dx) (by rw[e];exact nQ) (.inr ho) (λb q hb z=>(sb.2 b hb).trans z) hd ?_;refine⟨by rw[aH O.ne];exact ho,?_,O.ne,O'.obj,_,O'.ns,λg=>?_,λg hg=>?_⟩
 ·have:=BL f y fs;lia
 ·show vK ((qA f y fs).lookup g) (if g=f then aa u else mA g)
  rw[BK]
  by_cases q:g=f
  ·rw[if_pos q,if_pos q];exact ry
  ·rw[if_neg q,if_neg q];exact r g
 ·by_cases q:g=f
  ·rw[q];exact(AL f y fs).1
  ·refine(AL f y fs).2 g (wi g λz=>hg ?_)
   show(if g=f then aa u else mA g)=none;rw[if_neg q];exact z
def Inv.made (I:Inv X pins σ H s):Inv X pins σ (upd (upd H s.heap.objs.size (.own (s.heap.objs.size+1))) (s.heap.objs.size+1) (.ins C s.heap.objs.size []))
  {s with heap:=(s.heap.push rD).push (ug C s.heap.objs.size)}:=by
 have e1:(s.heap.push rD).get? s.heap.objs.size=aa rD:=jg s.heap rfl;have e2:((s.heap.push rD).push (ug C s.heap.objs.size)).get? (s.heap.objs.size+1)=aa (ug C s.heap.objs.size):=by
  have:=jg (s.heap.push rD) (o:=ug C s.heap.objs.size) rfl
  rwa [CA]at this
 have e3:(s.heap.push rD).Ns s.heap.objs.size (λ_=>none):=⟨rD,#[],_,e1,rfl,(λe he=>absurd he (by simp)),λ_=>rfl⟩
 have I1:=I.laid (a:=s.heap.objs.size) (o:=.own (s.heap.objs.size+1)) (h':=s.heap.push rD) (t':=s.toks) (λb u q=>cZ _ q) (bf _) ⟨_,e1⟩;refine I1.laid (a:=s.heap.objs.size+1) (o:=.ins C s.heap.objs.size []) (t':=s.toks) (λb u q=>cZ _ q) (zb (CA _ _)) ?_;have ne:s.heap.objs.size≠s.heap.objs.size+1:=dO (CB _);refine⟨by rw[aH ne,aT],iJ _,ne,e2,λ_=>none,(aD.Ns1.of_empty e3).at λo q=>cZ _ q,λ_=>nQ,λy hy=>absurd rfl hy⟩
def W2{prog:aU}{w:aF}{env:Env}{e:ao}{f:Str}{pos:Pos}{s:aj}{Q:ah->aj->Prop}(hb:iK e f env (aA e env)=aA e env)
  (h:aG (aE prog w) A (aA e env) (λo s₁=>aG (aE prog w) A (getAttr o f true) Q E s₁) E s):aG (aE prog w) A (aA (.Attribute e f pos) env) Q E s:=
 Attribute_any_ h (by rw[arm_eval_Attribute,hb])
end
def af2(K:ak)(ta:TE)(f:Str):TE:=λσ H Q=>ta σ H λx H1=>∃a C dx fs v,x=.ref a/\H1 a=aa (.ins C dx fs)/\Ss K C/\j5 K C f/\fs.lookup f=aa v/\Q v H1
def ajC(K:ak)(ta tv:TE)(f:Str):TS:=λD σ H=>tv σ H λy H1=>ta σ H1 λx H2=>∃a C dx fs,x=.ref a/\H2 a=aa (.ins C dx fs)/\Ss K C/\j5 K C f/\fs.length<1000/\
 D.nx σ (upd H2 a (.ins C dx (qA f y fs)))
section
variable{X:Cx}{o e value:ao}{f:Str}{pos pos' ajD:Pos}{ta tv:TE}
def dU(he:PE X e ta)(hb:iK e f X.env (aA e X.env)=aA e X.env):PE X (.Attribute e f pos) (af2 X.K ta f):=by
 intro pins s σ H Q I h;refine W2 hb (fJ (he pins s σ H _ I h) λu s1 ⟨x,H1,I1,rx,a,C,dx,fs,v,ex,ea,c,n,l,q⟩=>?_);subst ex;obtain rfl:u=dh a:=rx;exact Ln I1 ea c n l λu' s2 I2 ru=>⟨v,H1,I2,ru,q⟩
def r9(ha:PE X o ta)(hv:PE X value tv)(hs:gk value (aa (.Attribute o f pos')) pos.line X.env=bc false):PS X (.Assign [.Attribute o f pos'] value pos) (ajC X.K ta tv f):=by
 intro pins s σ H D I h;refine plainObj_wpAny_Assign_Attribute (fJ (hv pins s σ H _ I h) λu s1 ⟨y,H1,I1,ry,q⟩=>fJ (ha pins s1 σ H1 _ I1 q) λov s2 ⟨x,H2,I2,rx,a,C,dx,fs,ex,ea,c,n,l,q2⟩=>?_) hs;subst ex;obtain rfl:ov=dh a:=rx;exact Lo I2 ea c n l ry λs3 I3=>⟨σ,_,I3,q2⟩
end
section
variable{X:Cx}{pins:List (ae×Obj)}{σ:St}{H:Hp}{s:aj}{A:bu}{E:ah->aj->Prop}{Q:ah->aj->Prop}{c:ah}{b:Bool}
inductive B7 (K:ak) (H:Hp):V->ah->Prop where
 |non:B7 K H .non (.type "NoneType")
 |bl (x:Bool):B7 K H (.bl x) (.type "bool")
 |int (i:Int):B7 K H (.int i) (.type "int")
 |str (x:Str):B7 K H (.str x) (.type "str")
 |flt (x:UInt64):B7 K H (.flt x) (.type "float")
 |lst {a:ae} {xs:List V} (e:H a=aa (.lst xs)):B7 K H (.ref a) (.type "list")
 |Dq {a:ae} {o:Obj} {xs:List V} (e:H a=aa (.Dq o (.lst xs))):B7 K H (.ref a) (.type "list")
 |tup {a:ae} {xs:List V} (e:H a=aa (.tup xs)):B7 K H (.ref a) (.type "tuple")
 |dK {a:ae} {kvs:List (Key×V)} (e:H a=aa (.dK kvs)):B7 K H (.ref a) (.type "dict")
 |dT {a:ae} {kvs:List (List Key×V)} (e:H a=aa (.dT kvs)):B7 K H (.ref a) (.type "dict")
 |ins {a C dx:ae} {fs:List (Str×V)} (e:H a=aa (.ins C dx fs)) (cl:Ss K C) (ha:eQ K (.ref C) "__class__"=aa (aa (.builtin "object.__class__")))
   (hn:PySem.W.specialIn K (.builtin "object.__class__") "__get__"=aa (aa (.builtin "getset_descriptor.__get__"))) (htk:PySem.W.takesIn K (.builtin "object.__class__")=aa true)
   (hm:mroIn K C (.type "object")=aa true):B7 K H (.ref a) (.ref C)
def xq{x:V}{u t:ah}(I:Inv X pins σ H s)(rx:RelV x u)(ty:B7 X.K H x t)(e:M8 X.K t c=aa b)(h:∀tk,Q (.bool b) {s with toks:=tk}):
  aG (aE X.prog X.w) A (call (.builtin "isinstance") [u,c]) Q E s:=by
 cases ty with
 |non=>cases (show u=ah.none from rx);exact kq PySem.W.kitx_none I.AI nQ e (λz=>nomatch z) h
 |bl y=>cases (show u=GA y from rx);exact kq PySem.W.kitx_bool I.AI nQ e (λz=>nomatch z) h
 |int i=>obtain⟨t,q⟩:=(show∃t,u=ah.int i t from rx);cases q;exact kq PySem.W.kitx_int I.AI nQ e (λz=>nomatch z) h
 |str y=>obtain⟨t,q⟩:=(show∃t,u=Cp y t from rx);cases q;exact kq PySem.W.kitx_str I.AI nQ e (λz=>nomatch z) h
 |flt y=>obtain⟨t,q⟩:=(show∃t,u=MG y t from rx);cases q;exact kq PySem.W.kitx_float I.AI nQ e (λz=>nomatch z) h
 | @lst a xs ea=>
  cases (show u=dh a from rx);obtain⟨_,_,n,_,h1⟩:=(show gU X.prog X.w H s.heap a (.lst xs)from I.hok a _ ea)
  exact kq M9 I.AI ⟨_,h1,rfl⟩ e (λz=>nomatch z) h
 | @Dq a ob xs ea=>
  cases (show u=dh a from rx);obtain⟨_,_,_,n,_,h1⟩:=(show gU X.prog X.w H s.heap a (.Dq ob (.lst xs))from I.hok a _ ea)
  exact kq M9 I.AI ⟨_,h1,rfl⟩ e (λz=>nomatch z) h
 | @tup a xs ea=>
  cases (show u=dh a from rx);obtain⟨_,_,_,p⟩:=(show gU X.prog X.w H s.heap a (.tup xs)from I.hok a _ ea)
  obtain⟨o,h1,h2,_⟩:=p;exact kq W3 I.AI ⟨o,h1,h2⟩ e (λz=>nomatch z) h
 | @dK a kvs ea=>
  cases (show u=dh a from rx);obtain⟨_,_,vs,_,p⟩:=(show gU X.prog X.w H s.heap a (.dK kvs)from I.hok a _ ea)
  obtain⟨o,es,ep,h1,h2,_⟩:=p;exact kq W4 I.AI ⟨o,h1,h2.1⟩ e (λz=>nomatch z) h
 | @dT a kvs ea=>
  cases (show u=dh a from rx);obtain⟨_,_,xs,_,o,es,ep,h1,h2,_⟩:=(show gU X.prog X.w H s.heap a (.dT kvs)from I.hok a _ ea)
  exact kq W4 I.AI ⟨o,h1,h2.1⟩ e (λz=>nomatch z) h
 | @ins a C dx fs ea cl ha hn htk hm=>
  cases (show u=dh a from rx);obtain⟨mA,O,_⟩:=Cz I.hok ea;obtain⟨od,J,_⟩:=O.look;exact kq (PySem.W.kitx_own (cl.get _) cl.hd ha hn htk hm) I.AI J e (λz=>nomatch z) h
end
end L2
namespace L2
open PySem PySem.Spec PyProof.Rows
structure cV(k:Nat)(A:bu):Prop where
 hd:A.handled=none
 dp:A.depth+3*k+5<recursionLimit
 un:A.units+16*k+200<gZ
def cV.mono {j k:Nat}{A:bu}(r:cV k A)(h:j<=k):cV j A:=⟨r.hd,by have:=r.dp;lia,by have:=r.un;lia⟩
theorem cV.deeper {k:Nat}{A:bu}(r:cV (k+1) A)(env:Env):cV k (A.deeper env):=
 ⟨r.hd,by have:=r.dp;show A.depth+1+3*k+5<_;lia,by have:=r.un;show A.units+3+16*k+200<_;lia⟩
def Lp{A:bu}{C:ae}{us:List ah}{kw:List (Str×ah)}:(A.under (.builtin "type.__call__" ⟨.ref C::us,kw⟩)).depth=A.depth+1:=by
 first|rfl|simp[Na,uj.weight,uj.isCreation,uj.isGuard,uj.isCaller,W5,Nb,guardIds]
def Lq{A:bu}{C:ae}{us:List ah}{kw:List (Str×ah)}:(A.under (.builtin "type.__call__" ⟨.ref C::us,kw⟩)).units=A.units+1:=by
 first|rfl|simp[Na,uj.cUnits,W5,Nb]
def cV.make {k:Nat}{A:bu}(r:cV (k+1) A)(C:ae)(us:List ah)(kw:List (Str×ah)):cV k (A.under (.builtin "type.__call__" ⟨.ref C::us,kw⟩)):=
 ⟨r.hd,by have:=r.dp;rw[Lp];lia,by have:=r.un;rw[Lq];lia⟩
theorem cV.depth {k:Nat}{A:bu}(r:cV k A):A.depth<recursionLimit:=by have:=r.dp;lia
theorem cV.units {k:Nat}{A:bu}(r:cV k A):A.units+64<gZ:=by have:=r.un;lia
def acA:TA:=λ_ H Q=>Q [] H
def aat(ta:TE)(tr:TA):TA:=λσ H Q=>ta σ H λx H1=>tr σ H1 λxs H2=>Q (x::xs) H2
section
variable{X:Cx}{e:ao}{es:List ao}{te:TE}{t:TA}{pos:Pos}
def bV:PA X [] acA:=λ_ _ _ _ H Q I h=>xr ⟨[],H,I,.nil,h⟩
def bh(ha:PE X e te)(hr:PA X es t)(hs:ar (e::es) X.env=(false,aA e X.env)::ar es X.env:=by rfl):PA X (e::es) (aat te t):=by
 intro pos pins s σ H Q I h;rw[hs];show aG _ _ (spliced ((false,aA e X.env)::bA pos (ar es X.env))) _ _ s;refine xt (fJ (ha pins s σ H _ I h) λu s1 ⟨x,H1,I1,r1,q1⟩=>?_);exact fJ (hr pos pins s1 σ H1 _ I1 q1) λus s2 ⟨xs,H2,I2,r2,q2⟩=>⟨x::xs,H2,I2,.cons r1 r2,q2⟩
def ajE(t:TA):TE:=λσ H Q=>t σ H λxs H1=>xs.length<=aI/\∀p,H1 p=none->Q (.ref p) (upd H1 p (.tup xs))
def ajF(t:TA):TE:=λσ H Q=>t σ H λxs H1=>xs.length<=aI/\∀p,H1 p=none->Q (.ref p) (upd H1 p (.lst xs))
def vU{x1}(h:PA X es t):PE X (.Tuple es x1 pos) (ajE t):=by
 intro pins s σ H Q I hq;refine wpAny_Tuple_spliced (fJ (h pos pins s σ H _ I hq) λus s1 ⟨xs,H1,I1,r,z,q⟩=>⟨by rw[<-r.length];exact z,?_⟩);have hf:H1 s1.heap.objs.size=none:=I1.hok.fresh (bf _);refine⟨.ref s1.heap.objs.size,upd H1 s1.heap.objs.size (.tup xs),I1.laid (t':=s1.toks) (λb u e=>cZ _ e) (bf _) ?_,rfl,q _ hf⟩;exact⟨z,us,r,⟨_,jg _ rfl,rfl,_,rfl⟩⟩
def AM(h:PA X es t):PE X (.List es pos) (ajF t):=by
 intro pins s σ H Q I hq;refine wpAny_List_spliced (fJ (h pos pins s σ H _ I hq) λus s1 ⟨xs,H1,I1,r,z,q⟩=>⟨by rw[<-r.length];exact z,?_⟩);have hf:H1 s1.heap.objs.size=none:=I1.hok.fresh (bf _);refine⟨.ref s1.heap.objs.size,upd H1 s1.heap.objs.size (.lst xs),I1.laid (t':=s1.toks) (λb u e=>cZ _ e) (bf _) ?_,rfl,q _ hf⟩;exact⟨z,us,0,r,jg _ rfl⟩
end
abbrev Sp:=List V->Hp->VK->XK->Prop
abbrev RG:=List Env->Hp->aj->XK->ah->aj->Prop
structure Lr(P:aU)(w:aF)(K:ak)(mg:Str->Option ah)(base:aD)(A:bu)(outer:List Env)(s:aj)(H:Hp):Prop where
 frames:A.frames=aa outer
 mod:Mod K mg base
 bs:∀b o,base.get? b=aa o->s.heap.get? b=aa o/\H b=none
 V4:base.objs.size<=s.heap.objs.size
 AH:s.heap.FunFrames base outer
 frf:∀b∈K8 outer,H b=none
 hok:ye P w H s.heap
 bare:pY s.gens
def CE(outer:List Env)(P:aU)(w:aF)(H:Hp)(s:aj)(Q:VK)(u:ah)(s':aj):Prop:=
 ∃v H',s'.os=s.os/\pY s'.gens/\Un (K8 outer) [] H H' s.heap s'.heap/\ye P w H' s'.heap/\RelV v u/\Q v H'
def CR(CX:RG)(outer:List Env)(P:aU)(w:aF)(H:Hp)(s:aj)(Q:VK)(E:XK)(r:Result)(s':aj):Prop:=
 match r with
 |.ok (.ret u)=>CE outer P w H s Q u s'
 |.ok _=>False
 |.error e=>CX outer H s E e s'
structure fM(P:aU)(w:aF)(K:ak)(mg:Str->Option ah)(base:aD)(CX:RG)(k:Nat)(f:ae)(fd:aL)(ps:List Str)(sp:Sp):Prop where
 len:∀vs H Q E,sp vs H Q E->vs.length=ps.length
 run:∀(A:bu)(outer:List Env)(s:aj)(H:Hp)(args:Args)(us:List ah)(vs:List V)(Q:VK)(E:XK),cV k A->Lr P w K mg base A outer s H->xu s fd args (ps.zip us)->Vals vs us->sp vs H Q E->
  lU (aE P w) A (.call (.ref f) args) (CR CX outer P w H s Q E) s
def Lr.make {P:aU}{w:aF}{K:ak}{mg:Str->Option ah}{base:aD}{A:bu}{outer:List Env}{s:aj}{H:Hp}(e:Lr P w K mg base A outer s H)(C:ae)(us:List ah)(kw:List (Str×ah)):
  Lr P w K mg base (A.under (.builtin "type.__call__" ⟨.ref C::us,kw⟩)) outer s H:=⟨by first|exact e.frames|(simpa[Na,uj.envs,Nb,pushEnvs]using e.frames),e.mod,e.bs,e.V4,e.AH,e.frf,e.hok,e.bare⟩
section
variable{X:Cx}{pins:List (ae×Obj)}{σ:St}{H:Hp}{s s':aj}
def Inv.af3 (I:Inv X pins σ H s):Lr X.prog X.w X.K X.mg X.base X.A X.stack s H:=
 ⟨I.ok.frames,I.ok.mod,I.bs,iF I.ok.V4 I.sz,I.stack,I.MK,I.hok,I.bare⟩
def Inv.after {Q:VK}{u:ah}(I:Inv X pins σ H s)(h:CE X.stack X.prog X.w H s Q u s'):EP X pins σ Q u s':=by
 obtain⟨v,H',os,bare,un,hok,r,q⟩:=h;obtain⟨hh,g,d,t,os'⟩:=s';obtain rfl:os'=s.os:=os;exact⟨v,H',I.call (h':=hh) (g':=g) (d':=d) (t':=t) (ch:=[]) un hok bare (λb z=>absurd z (by simp)),r,q⟩
end
def af4(sp:Sp)(EY:List V)(E:XK)(t:TA):TE:=λσ H Q=>t σ H λvs H1=>sp (vs++EY) H1 Q E
def aau(C:ae)(m:Str)(sp:Sp)(EY:List V)(E:XK)(ta:TE)(t:TA):TE:=λσ H Q=>ta σ H λx H1=>∃a dx fs,x=.ref a/\H1 a=aa (.ins C dx fs)/\fs.lookup m=none/\
 t σ H1 λvs H2=>sp (x::(vs++EY)) H2 Q E
def af5(C:ae)(sp:Sp)(EY:List V)(E:XK)(t:TA):TE:=λσ H Q=>t σ H λvs H1=>∀x dx,H1 x=none->H1 dx=none->dx≠x->
 sp (.ref x::(vs++EY)) (upd (upd H1 dx (.own x)) x (.ins C dx [])) (λv H2=>v=.non/\Q (.ref x) H2) E
def Binds(K:ak)(fd:aL)(ps:List Str)(ds:List ah):Prop:=
 ∀(s:aj)(us:List ah),K.In s.heap->(us++ds).length=ps.length->xu s fd ⟨us,[]⟩ (ps.zip (us++ds))
def Binds.all {K:ak}{fd:aL}{ps:List Str}(h:∀us:List ah,us.length=ps.length->p4 fd ⟨us,[]⟩=bc (ps.zip us)):Binds K fd ps []:=λs us _ hl=>by
 rw[bE]at hl⊢;exact .of_eq (h us hl)
def Passes(CX:RG)(X:Cx)(E:XK):Prop:=∀(pins:List (ae×Obj))(σ:St)(H:Hp)(s:aj)(e:ah)(s':aj),Inv X pins σ H s->CX X.stack H s E e s'->X.xe e s'
section
variable{X:Cx}{CX:RG}{k:Nat}{f C:ae}{fd:aL}{ps:List Str}{sp:Sp}{EY:List V}{ds:List ah}{E:XK}{x m:Str}{p pos apos:Pos}{e o:ao}{es:List ao}{ta:TE}{t:TA}
def Ls{pins:List (ae×Obj)}{σ:St}{H:Hp}{s:aj}{Q:VK}{us:List ah}{vs:List V}(F:fM X.prog X.w X.K X.mg X.base CX k f fd ps sp)(hr:cV k X.A)(hb:Binds X.K fd ps ds)(hd:Vals EY ds)(hx:Passes CX X E)
  (I:Inv X pins σ H s)(r:Vals vs us)(h:sp (vs++EY) H Q E):aG (aE X.prog X.w) X.A (call (.ref f) us) (EP X pins σ Q) X.xe s:=by
 have r2:Vals (vs++EY) (us++ds):=r.append hd;have hl:(us++ds).length=ps.length:=by rw[<-r2.length];exact F.len _ _ _ _ h
 refine wpAny_call (G4 (F.run X.A X.stack s H ⟨us,[]⟩ (us++ds) (vs++EY) Q E hr I.af3 (hb s us I.AI hl) r2 h) λr s' hq=>?_);cases r with
 |error e=>exact hx pins σ H s e s' I hq
 |ok fl=>
  cases fl with
  |ret u=>exact I.after hq
  |next=>exact jL hq
  |brk=>exact jL hq
  |cont=>exact jL hq
def g4(F:fM X.prog X.w X.K X.mg X.base CX k f fd ps sp)(hr:cV k X.A)(hg:Gl X x)(hm:X.mg x=aa (.ref f))(hk:ko X.K (.ref f)=true)(hb:Binds X.K fd ps ds)(hd:Vals EY ds)(hx:Passes CX X E)
  (ha:PA X (e::es) t)(hdb:(x==("__debug__":Str))=false:=by decide)(he:ar (e::es) X.env=(false,aA e X.env)::ar es X.env:=by rfl)(hpl:(bA pos (ar es X.env)).any (·.1)=false:=by rfl):
  PE X (.Call (.Name x p) (e::es) [] pos) (af4 sp EY E t):=by
 intro pins s σ H Q I h;refine uk (GJ I hg hm ?_ hdb);refine Nc (h₀:=X.base) I.ok.mod.kin hk (fJ (ha pos pins s σ H _ I h) λus s1 ⟨vs,H1,I1,r,q⟩=>⟨I1.AI,?_⟩) he hpl;exact Ls F hr hb hd hx I1 r q
def nR{pl:Sem Bool}(he:PE X o ta)(c:Ss X.K C)(hm:Meth X.K C m f)(F:fM X.prog X.w X.K X.mg X.base CX k f fd ps sp)(hr:cV k X.A)(hb:Binds X.K fd ps ds)(hd:Vals EY ds)(hx:Passes CX X E)(ha:PA X (e::es) t)
  (hst:ar (e::es) X.env=(false,aA e X.env)::ar es X.env:=by rfl)(hpl:(bA pos (ar es X.env)).any (·.1)=false:=by rfl)
  (ht:aA (.Call (.Attribute o m apos) (e::es) [] pos) X.env=(do
   let ov<-aA o X.env
   xm apos.atName
   let(f,first)<-km [ov] (G3 ov m pl)
   callWith pos f first (bA pos (ar (e::es) X.env)) (lW pos (lY [] X.env))):=by rfl):
  PE X (.Call (.Attribute o m apos) (e::es) [] pos) (aau C m sp EY E ta t):=by
 intro pins s σ H Q I h;refine W6 (pl:=pl) (fJ (he pins s σ H _ I h) λu s1 ⟨x,H1,I1,rx,a,dx,fs,ex,ea,l,q⟩=>?_) ht;subst ex;obtain rfl:u=dh a:=rx;refine Dt I1 ea c hm l ?_;refine Nc (first:=[.ref a]) (h₀:=X.base) I.ok.mod.kin hm.kp (fJ (ha pos pins s1 σ H1 _ I1 q) λus s2 ⟨vs,H2,I2,r,q2⟩=>⟨I2.AI,?_⟩) hst hpl;exact Ls (us:=.ref a::us) (vs:=.ref a::vs) F hr hb hd hx I2 (.cons rfl r) q2
def Su{pl:Sem Bool}(he:PE X o ta)(c:Ss X.K C)(hm:Meth X.K C m f)(F:fM X.prog X.w X.K X.mg X.base CX k f fd ps sp)(hr:cV k X.A)(hb:Binds X.K fd ps ds)(hd:Vals EY ds)(hx:Passes CX X E)
  (ht:aA (.Call (.Attribute o m apos) [] [] pos) X.env=(do
   let ov<-aA o X.env
   xm apos.atName
   let(f,first)<-km [ov] (G3 ov m pl)
   callWith pos f first (bA pos (ar [] X.env)) (lW pos (lY [] X.env))):=by rfl):
  PE X (.Call (.Attribute o m apos) [] [] pos) (aau C m sp EY E ta acA):=by
 intro pins s σ H Q I h;refine W6 (pl:=pl) (fJ (he pins s σ H _ I h) λu s1 ⟨x,H1,I1,rx,a,dx,fs,ex,ea,l,q⟩=>?_) ht;subst ex;obtain rfl:u=dh a:=rx;refine Dt I1 ea c hm l ?_;exact PySem.W.callWith_K0 (first:=[.ref a]) I1.AI hm.kp (Ls (us:=[.ref a]) (vs:=[.ref a]) F hr hb hd hx I1 (.cons rfl .nil) q)
structure Mk(K:ak)(C f:ae):Prop where
 makes:M6 K C=true
 init:eQ K (.ref C) "__init__"=aa (aa (.ref f))
 fn:G2 K (.ref f)=true
 kp:ko K (.ref C)=true
def Sv{pins:List (ae×Obj)}{σ:St}{H:Hp}{s:aj}{Q:VK}{us:List ah}{vs:List V}(M:Mk X.K C f)(F:fM X.prog X.w X.K X.mg X.base CX k f fd ps sp)(hr:cV (k+1) X.A)(hb:Binds X.K fd ps ds)(hd:Vals EY ds)
  (hx:Passes CX X E)(I:Inv X pins σ H s)(r:Vals vs us)
  (h:∀x dx,H x=none->H dx=none->dx≠x->sp (.ref x::(vs++EY)) (upd (upd H dx (.own x)) x (.ins C dx [])) (λv H2=>v=.non/\Q (.ref x) H2) E):
  aG (aE X.prog X.w) X.A (call (.ref C) us) (EP X pins σ Q) X.xe s:=by
 have hq:=h (s.heap.objs.size+1) s.heap.objs.size (I.hok.fresh (Nd _)) (I.hok.fresh (bf _)) (dO (CB _));have I2:=Inv.made (C:=C) I;have r2:Vals (V.ref (s.heap.objs.size+1)::(vs++EY)) (dh (s.heap.objs.size+1)::(us++ds)):=.cons rfl (r.append hd);have hl:(dh (s.heap.objs.size+1)::us++ds).length=ps.length:=by
  have e:=r2.length;rw[F.len _ _ _ _ hq]at e;exact e.symm
 refine wpAny_call (Sq (f:=f) I.AI M.makes M.init (beq_iff_eq.mp M.fn) (G4 (F.run _ X.stack _ _ ⟨dh (s.heap.objs.size+1)::us,[]⟩ (dh (s.heap.objs.size+1)::(us++ds)) _ _ E (hr.make C us [])
  (I2.af3.make C us []) (hb _ (dh (s.heap.objs.size+1)::us) I2.AI hl) r2 hq) λr s' RH=>?_))
 cases r with
 |error e=>exact hx pins σ _ _ e s' I2 RH
 |ok fl=>
  cases fl with
  |ret u=>
   obtain⟨v,H',I3,rv,ev,q3⟩:=I2.after RH;subst ev;exact⟨rv,⟨V.ref (s.heap.objs.size+1),H',I3,rfl,q3⟩⟩
  |next=>exact jL RH
  |brk=>exact jL RH
  |cont=>exact jL RH
def W7(M:Mk X.K C f)(F:fM X.prog X.w X.K X.mg X.base CX k f fd ps sp)(hr:cV (k+1) X.A)(hg:Gl X x)(hm:X.mg x=aa (.ref C))(hb:Binds X.K fd ps ds)(hd:Vals EY ds)(hx:Passes CX X E)
  (ha:PA X (e::es) t)(hdb:(x==("__debug__":Str))=false:=by decide)(he:ar (e::es) X.env=(false,aA e X.env)::ar es X.env:=by rfl)(hpl:(bA pos (ar es X.env)).any (·.1)=false:=by rfl):
  PE X (.Call (.Name x p) (e::es) [] pos) (af5 C sp EY E t):=by
 intro pins s σ H Q I h;refine uk (GJ I hg hm ?_ hdb);refine Nc (h₀:=X.base) I.ok.mod.kin M.kp (fJ (ha pos pins s σ H _ I h) λus s1 ⟨vs,H1,I1,r,q⟩=>⟨I1.AI,?_⟩) he hpl;exact Sv M F hr hb hd hx I1 r q
end
structure bp(N P:List Str)(sc:dw):Prop where
 kind:sc.kind=.function
 co:sc.isCoroutine=false
 gen:sc.isGenerator=false
 nd:N.Nodup
 pre:N.take P.length=P
 par:∀x∈P,sc.names.lookup x=aa .local\/sc.names.lookup x=aa .cell
 acB:∀y∈sc.names,y.2≠.free
theorem Fz{jO:Str->Option g5}{x:Str}:∀{binds:List (Str×ah)}{m:Str->Option ah},(∀v,(x,v)∉binds)->um jO binds m x=m x
 |[],_,_=>rfl
 |(n,v)::r,m,h=>by
  unfold um;rw[Fz λw hw=>h w (bz _ hw)];split
  ·have:x≠n:=by rintro rfl;exact h v iG
   simp[this]
  ·rfl
theorem FA{jO:Str->Option g5}{x:Str}:∀{binds:List (Str×ah)}{m:Str->Option ah},(∀v,(x,v)∉binds)->uo jO binds m x=m x
 |[],_,_=>rfl
 |(n,v)::r,m,h=>by
  unfold uo;rw[FA λw hw=>h w (bz _ hw)];split
  ·rfl
  ·have:x≠n:=by rintro rfl;exact h v iG
   simp[this]
theorem FD{jO:Str->Option g5}{x:Str}{v:ah}:∀{P:List Str}{vs:List ah}{i:Nat}{m:Str->Option ah},P.Nodup->P[i]?=aa x->vs[i]?=aa v->jO x=aa .local->
  um jO (P.zip vs) m x=aa v
 |[],_,_,_,_,h,_,_=>by simp at h
 |_::_,[],_,_,_,_,h,_=>by simp at h
 |p::P,w::vs,0,m,nd,h1,h2,hk=>by
  simp at h1 h2;subst h1;subst h2;show um jO ((p,w)::P.zip vs) m p=_;unfold um;rw[Fz λv hv=>(fO.mp nd).1 (Ng hv).1,if_pos hk];simp
 |p::P,w::vs,i+1,m,nd,h1,h2,hk=>by
  show um jO ((p,w)::P.zip vs) m x=_;unfold um;exact FD (i:=i) (fO.mp nd).2 (by simpa using h1) (by simpa using h2) hk
theorem FE{jO:Str->Option g5}{x:Str}{v:ah}:∀{P:List Str}{vs:List ah}{i:Nat}{m:Str->Option ah},P.Nodup->P[i]?=aa x->vs[i]?=aa v->jO x≠aa .local->
  uo jO (P.zip vs) m x=aa v
 |[],_,_,_,_,h,_,_=>by simp at h
 |_::_,[],_,_,_,_,h,_=>by simp at h
 |p::P,w::vs,0,m,nd,h1,h2,hk=>by
  simp at h1 h2;subst h1;subst h2;show uo jO ((p,w)::P.zip vs) m p=_;unfold uo;rw[FA λv hv=>(fO.mp nd).1 (Ng hv).1,if_neg hk];simp
 |p::P,w::vs,i+1,m,nd,h1,h2,hk=>by
  show uo jO ((p,w)::P.zip vs) m x=_;unfold uo;exact FE (i:=i) (fO.mp nd).2 (by simpa using h1) (by simpa using h2) hk
def start(N:List Str)(vs:List V):St:=vs.map aa++aZ (N.length-vs.length) none
noncomputable def vV(CX:RG)(P:aU)(w:aF)(K:ak)(mg:Str->Option ah)(base:aD)(N:List Str)(qual:Str)(scope:dw)(f:ae)(cd:ah)(A:bu)(outer:List Env)(s:aj)(H:Hp)(E:XK):Cx where
 prog:=P
 w:=w
 K:=K
 mg:=mg
 base:=base
 A:=A.deeper (fQ qual scope s.heap.objs.size f cd)
 N:=N
 s₀:=s
 H₀:=H
 env:=fQ qual scope s.heap.objs.size f cd
 outer:=outer
 stack:=fQ qual scope s.heap.objs.size f cd::outer
 ex:=[]
 calm:=true
 fn:=λ_=>true
 pn:=[]
 xe:=λe s'=>aG (aE P w) (A.deeper (fQ qual scope s.heap.objs.size f cd)) (leaving (fQ qual scope s.heap.objs.size f cd) e) (λ_ s''=>CX outer H s E e s'') (λe' s''=>CX outer H s E e' s'') s'
def Ja{sc:dw}{n:Nat}{x:Str}(h:sc.names.lookup x=aa .cell):∃c,(G5 n sc.names []).lookup x=aa c:=by
 have q:=W8 sc.names n [] (.inl h);exact W9.mp q
def QB{CX:RG}{P:aU}{w:aF}{K:ak}{mg:Str->Option ah}{base:aD}{N ps:List Str}{qual:Str}{scope:dw}{f:ae}{cd:ah}{A:bu}{outer:List Env}{s s1:aj}{H:Hp}{E:XK}{us:List ah}{vs:List V}
  (S:bp N ps scope)(hd:A.handled=none)(e0:Lr P w K mg base A outer s H)(hl:vs.length=ps.length)(r:Vals vs us)
  (x:InCallC s s.heap.objs.size (um (fQ qual scope s.heap.objs.size f cd).kindOf (ps.zip us) λ_=>none) (G5 (s.heap.objs.size+1) scope.names []) (uo (fQ qual scope s.heap.objs.size f cd).kindOf (ps.zip us) λ_=>none) s1):
  Inv (vV CX P w K mg base N qual scope f cd A outer s H E) [] (start N vs) H s1:=by
 have hpl:ps.length<=N.length:=by have:=congrArg length S.pre;rw[iM]at this;lia
 obtain⟨h1,tk,rfl,hk⟩:=x.done;have noA:∀b:ae,b∉(vV CX P w K mg base N qual scope f cd A outer s H E).ex:=λb z=>absurd (show b∈([]:List ae)from z) (by simp);refine⟨⟨e0.mod,S.kind,rfl,rfl,bf _,λy z c h1 h2=>?_,λy hy=>?_,λy c _ h=>?_,λ_=>hd,bu.frames_deeper e0.frames,.inr ⟨rfl,rfl⟩,λb z=>absurd z (noA b),e0.bs,e0.V4,λb _ _=>noA b,λb z=>absurd z (noA b),e0.AH,e0.frf⟩,
  rfl,e0.bare,Un.kept hk,⟨_,x.toInCall.ns,λi y v h1 h2 h3=>?_⟩,λy c h=>⟨_,x.cell y c h⟩,e0.hok.fresh (bf _),λy c h=>?_,λp hp=>absurd (show p∈([]:List (ae×Obj))from hp) (by simp),e0.hok.kept hk,?_⟩
 ·exact name_of_addr x.apart (PySem.mem_of_lookup h1) (PySem.mem_of_lookup h2)
 ·have hy:scope.names.lookup y=aa .cell\/scope.names.lookup y=aa .free:=hy
  rcases hy with hy|hy
  ·exact Ja hy
  ·exact absurd rfl (S.acB _ (PySem.mem_of_lookup hy))
 ·exact GF (x.above y c (PySem.mem_of_lookup h))
 ·have hi:i<vs.length:=by
   unfold start at h2
   by_cases hi:i<vs.length
   ·exact hi
   ·rw[jh (by simpa using hi)]at h2
    rw[nS]at h2;split at h2<;>cases h2
  have ha:vs[i]?=aa v:=by
   unfold start at h2;rw[fu (by simpa using hi),b8]at h2;cases e:vs[i]? with
   |none=>rw[e]at h2;cases h2
   |some a=>rw[e]at h2;cases h2;rfl
  obtain⟨u,hu,rv⟩:=r.get ha;have hp:ps[i]?=aa y:=by
   rw[<-S.pre,List.getElem?_take_of_lt (by lia)];exact h1
  have ndP:ps.Nodup:=by rw[<-S.pre];exact S.nd.sublist (List.take_sublist _ _)
  refine⟨u,rv,?_⟩;rcases S.par y (dJ hp)with k|k
  ·exact .inl ⟨k,FD ndP hp hu k⟩
  ·obtain⟨c,e⟩:=Ja (n:=s.heap.objs.size+1) k
   refine .inr ⟨.inl k,c,e,?_⟩;have q:=x.cell y c e;rw[FE ndP hp hu (by show scope.names.lookup y≠_;rw[k];decide)]at q;exact q
 ·exact e0.hok.fresh (GF (x.above y c (PySem.mem_of_lookup h)))
 ·unfold start
  show _=N.length;rw[bO,aB,xw];lia
def af7{CX:RG}{P:aU}{w:aF}{K:ak}{mg:Str->Option ah}{base:aD}{k:Nat}{f:ae}{name qual:Str}{params:CC}{body:List aC}{scope:dw}{dV kV doc pm cdv ct oc:ah}{an od:Option ae}
  {RJ:Array (Option ah)}{N ps:List Str}{sp:Sp}(lk:K.lookup f=aa ⟨oc,od,.func (gE name qual params body scope dV kV doc pm an cdv ct),RJ⟩)(hcd:zc K cdv qual=true)(S:bp N ps scope)
  (len:∀vs H Q E,sp vs H Q E->vs.length=ps.length)
  (hbody:∀(A:bu)(outer:List Env)(s:aj)(H:Hp)(vs:List V)(Q:VK)(E:XK),cV k (A.deeper (fQ qual scope s.heap.objs.size f cdv))->sp vs H Q E->
   ∃t,xj (vV CX P w K mg base N qual scope f cdv A outer s H E) body t/\t {nx:=λ_ H'=>Q .non H',rt:=Q} (start N vs) H):
  fM P w K mg base CX (k+1) f (gE name qual params body scope dV kV doc pm an cdv ct) ps sp:=by
 refine⟨len,λA outer s H args us vs Q E hr e0 hb r BN=>?_⟩;have hl:=len _ _ _ _ BN;have KX:K.In s.heap:=e0.mod.kin.keeps λb o e=>(e0.bs b o e).1;have lim:s.heap.NoLimit:=e0.mod.nolimit.keeps λb o e=>(e0.bs b o e).1;have hkind:∀y∈ps.zip us,scope.names.lookup y.1=aa .local\/(scope.names.lookup y.1=aa .cell/\((G5 (s.heap.objs.size+1) scope.names []).lookup y.1).isSome=true):=λ⟨n,v⟩ hy=>by
  rcases S.par n (Ng hy).1 with q|q
  ·exact .inl q
  ·exact .inr ⟨q,W8 _ _ _ (.inl q)⟩
 refine codeAny_call_function hr.depth (KX _ _ lk) rfl S.co S.gen rfl (PySem.W.codeRec_of KX hcd) (hb _ _ _ _ ?_);refine wpAny_newFunctionEnv_cells S.kind hkind λenv he s1 x=>?_;subst he;refine⟨lim.keeps x.toInCall.keep,codeAny_func ?_⟩;obtain⟨t,ht,hq⟩:=hbody A outer s H vs Q E (hr.deeper _) BN;have I:Inv (vV CX P w K mg base N qual scope f cdv A outer s H E) [] (start N vs) H s1:=QB S hr.hd e0 hl r x;refine lQ (ht [] s1 (start N vs) H _ I hq) (λfl s' hs=>?_) λe s' hs=>hs;have fin:∀{σ':St}{H':Hp}{v:V}{u:ah},Inv (vV CX P w K mg base N qual scope f cdv A outer s H E) [] σ' H' s'->RelV v u->Q v H'->CE outer P w H s Q u s':=
  λ{σ' H' v u} J rv q=>⟨v,H',J.os,J.bare,J.base,J.hok,rv,q⟩
 cases fl with
 |ret u=>
  obtain⟨v,σ',H',J,rv,q⟩:=hs;exact fin J rv q
 |next=>
  obtain⟨σ',H',J,q⟩:=hs;exact fin (v:=V.non) (u:=ah.none) J rfl q
 |brk=>
  obtain⟨_,_,_,q⟩:=hs;exact jL q
 |cont=>
  obtain⟨_,_,_,q⟩:=hs;exact jL q
end L2
namespace L2
open PySem PySem.Spec PyProof.Rows
section
variable{X:Cx}{x:Str}{p pos:Pos}{e:ao}{es:List ao}{t:TA}{id T:String}{r:List V->Hp->VK->Prop}
def tCB(r:List V->Hp->VK->Prop)(t:TA):TE:=λσ H Q=>t σ H λvs H1=>r vs H1 Q
def oU(hc:yq X (.builtin id) r)(hg:Gl X x)(hm:X.mg x=none)(hv:fj x=aa (.builtin id))(ha:PA X (e::es) t)(hn:x≠"__name__":=by decide)(hdb:(x==("__debug__":Str))=false:=by decide)
  (he:ar (e::es) X.env=(false,aA e X.env)::ar es X.env:=by rfl)(hpl:(bA pos (ar es X.env)).any (·.1)=false:=by rfl):PE X (.Call (.Name x p) (e::es) [] pos) (tCB r t):=by
 intro pins s σ H Q I h;refine uk (j3 I hg hm hv ?_ hn hdb);exact PyProof.Rows.callWith_builtin1 (fJ (ha pos pins s σ H _ I h) λus s1 ⟨vs,H1,I1,r1,q1⟩=>hc pins s1 σ H1 vs us Q I1 r1 q1) he hpl
def xx(hc:yq X (.type T) r)(hg:Gl X x)(hm:X.mg x=none)(hv:fj x=aa (.type T))(ha:PA X (e::es) t)(hn:x≠"__name__":=by decide)(hdb:(x==("__debug__":Str))=false:=by decide)
  (he:ar (e::es) X.env=(false,aA e X.env)::ar es X.env:=by rfl)(hpl:(bA pos (ar es X.env)).any (·.1)=false:=by rfl):PE X (.Call (.Name x p) (e::es) [] pos) (tCB r t):=by
 intro pins s σ H Q I h;refine uk (j3 I hg hm hv ?_ hn hdb);exact jN (fJ (ha pos pins s σ H _ I h) λus s1 ⟨vs,H1,I1,r1,q1⟩=>hc pins s1 σ H1 vs us Q I1 r1 q1) he hpl
end
end L2
namespace HT
open PySem PyProof.Rows
section
open PySem.SeqAt
open PySem.AutoSeq1 (wpAny_loadPart')
open PySem.MeetsSeq PySem.MeetsSeq2 PySem.MeetsSeq3
end
section
variable{prog:aU}{w:aF}{A:bu}{E:ah->aj->Prop}{s:aj}
def Du(n d:Nat):Option Int->Nat
 |none=>d
 |some v=>if v<0 then(v+(n:Int)).toNat else min v.toNat n
def vW(n d:Nat):Du n d none=d:=rfl
def p6(n d k:Nat):Du n d (aa (k:Int))=min k n:=by
 show(if(k:Int)<0 then((k:Int)+(n:Int)).toNat else min (k:Int).toNat n)=min k n;rw[if_neg (by lia),bB]
end
end HT
namespace L2
open PySem PySem.Spec PyProof.Rows
abbrev TO:=St->Hp->(Option Int->Hp->Prop)->Prop
def PO(X:Cx)(e:Option ao)(t:TO):Prop:=
 ∀(pins:List (ae×Obj))(s:aj)(σ:St)(H:Hp)(Q:Option Int->Hp->Prop),Inv X pins σ H s->t σ H Q->
  aG (aE X.prog X.w) X.A (evalPart e X.env) (λu s'=>∃o H',Inv X pins σ H' s'/\IsPart u o/\Q o H') X.xe s
def Xa:TO:=λ_ H Q=>Q none H
def af8(t:TE):TO:=λσ H Q=>t σ H λx H1=>∃i,x=.int i/\Q (aa i) H1
def intsAre_of{ns:List Int}:∀{us:List ah},Vals (ns.map V.int) us->xy us ns:=by
 induction ns with
 |nil=>intro us r;rw[ji]at r;cases r;exact .nil
 |cons n ns ih=>
  intro us r;rw[bw]at r;cases r with
  |cons r1 r2=>
   obtain⟨t,e⟩:=r1;subst e;exact .cons n t (ih r2)
section
variable{X:Cx}{e:ao}{te:TE}{lo hi:Option ao}{tl th:TO}{pos p2:Pos}
def Nh:PO X none Xa:=by
 intro pins s σ H Q I h;rw[evalPart_none];exact cK ⟨none,H,I,.none,h⟩
def Ni(h:PE X e te):PO X (aa e) (af8 te):=by
 intro pins s σ H Q I hw;rw[evalPart_some];refine fJ (h pins s σ H _ I hw) λu s1 ⟨x,H1,I1,r1,q1⟩=>?_;obtain⟨i,rfl,q⟩:=q1;obtain⟨t,rfl⟩:=r1;exact⟨aa i,H1,I1,.int i t,q⟩
noncomputable def SlR(X:Cx)(r:V->Option Int->Option Int->Hp->VK->Prop):Prop:=
 ∀(pins:List (ae×Obj))(s:aj)(σ:St)(H:Hp)(x:V)(v vl vu:ah)(lo hi:Option Int)(sl:ae)(Q:VK),Inv X pins σ H s->RelV x v->s.heap.IsSliceOf sl vl vu .none->IsPart vl lo->IsPart vu hi->r x lo hi H Q->
  ∃T id,typeLookup (.type T) "__getitem__"=bc (aa (.builtin id))/\s.TypeIs v T/\aG (aE X.prog X.w) X.A (zd v (.ref sl)) (EP X pins σ Q) X.xe s
def tSl(r:V->Option Int->Option Int->Hp->VK->Prop)(te:TE)(tl th:TO):TE:=λσ H Q=>te σ H λx H1=>tl σ H1 λl H2=>th σ H2 λu H3=>r x l u H3 Q
def Jb{r:V->Option Int->Option Int->Hp->VK->Prop}(hr:SlR X r)(he:PE X e te)(hl:PO X lo tl)(hu:PO X hi th):PE X (.Subscript e (.Slice lo hi none p2) pos) (tSl r te tl th):=by
 intro pins s σ H Q I h;refine Nj (fJ (he pins s σ H _ I h) λv s1 ⟨x,H1,I1,r1,q1⟩=>?_);refine wpAny_Slice (fJ (hl pins s1 σ H1 _ I1 q1) λvl s2 ⟨l,H2,I2,pl,q2⟩=>fJ (hu pins s2 σ H2 _ I2 q2) λvu s3 ⟨u,H3,I3,pu,q3⟩=>?_);rw[evalPart_none];refine cK ?_;have I4:Inv X pins σ H3 {s3 with heap:=s3.heap.push {cls:=.type "slice",data:=.fields #[vl,vu,.none]}}:=I3.kept (t':=s3.toks) λb ob q=>cZ _ q;obtain⟨T,id,hT,ht,hg⟩:=hr pins {s3 with heap:=s3.heap.push {cls:=.type "slice",data:=.fields #[vl,vu,.none]}} σ H3 x v vl vu l u s3.heap.objs.size Q I4 r1 (aD.IsSliceOf.new ..) pl pu q3;show aG (aE X.prog X.w) X.A (Nk e (.Slice lo hi none p2) v (.ref s3.heap.objs.size)) (EP X pins σ Q) X.xe {s3 with heap:=s3.heap.push {cls:=.type "slice",data:=.fields #[vl,vu,.none]}};exact tail_any (ops:=[.ref s3.heap.objs.size,v]) ht hT hg (by with_unfolding_all rfl)
def EZ(xs:List V)(lo hi:Option Int):List V:=(xs.drop (HT.Du xs.length 0 lo)).take (HT.Du xs.length xs.length hi-HT.Du xs.length 0 lo)
def Jc(xs:List V)(lo hi:Option Int):(EZ xs lo hi).length<=xs.length:=by
 unfold EZ;rw[iM,lZ];lia
end
end L2
namespace L2
open PySem PySem.Spec PyProof.Rows
def yW(n:Nat)(i:Int):Option Nat:=if 0<=i then(if i<n then aa i.toNat else none)else if-(n:Int)<=i then aa (i+n).toNat else none
def jJ{α:Type}(xs:List α)(i:Int):Option α:=(yW xs.length i).bind λj=>xs[j]?
def Nm{n:Nat}{i:Int}{j:Nat}(h:yW n i=aa j):seqIndex? i n=aa j/\j<n/\ -(n:Int)<=i/\i<n:=by
 unfold yW at h
 by_cases h0:0<=i
 ·rw[if_pos h0]at h
  by_cases h1:i<n
  ·rw[if_pos h1]at h
   have e:i.toNat=j:=cA.inj h;exact⟨by rw[Nn h0 h1,e],by lia,by lia,h1⟩
  ·rw[if_neg h1]at h;cases h
 ·rw[if_neg h0]at h
  by_cases h1: -(n:Int)<=i
  ·rw[if_pos h1]at h
   have e:(i+n).toNat=j:=cA.inj h;exact⟨by rw[Np (by lia) h1,e],by lia,h1,by lia⟩
  ·rw[if_neg h1]at h;cases h
def G6{α:Type}{xs:List α}{i:Int}{v:α}(h:jJ xs i=aa v):∃j,seqIndex? i xs.length=aa j/\xs[j]?=aa v/\j<xs.length/\ -(xs.length:Int)<=i/\i<xs.length:=by
 unfold jJ at h;cases e:yW xs.length i with
 |none=>rw[e]at h;cases h
 |some j=>
  rw[e]at h;obtain⟨h1,h2,h3,h4⟩:=Nm e;exact⟨j,h1,h,h2,h3,h4⟩
def l9{α:Type}{xs:List α}{j:Nat}{v:α}(h:xs[j]?=aa v):jJ xs (j:Int)=aa v:=by
 have hj:j<xs.length:=(bG.mp h).1;have e:yW xs.length (j:Int)=aa j:=by
  unfold yW;rw[if_pos (by lia),if_pos (by lia)];simp
 unfold jJ;rw[e];exact h
def Dv{α:Type}(xs:List α)(v:α):jJ (xs++[v]) (-1)=aa v:=by
 have hl:(xs++[v]).length=xs.length+1:=by simp
 have e:yW (xs++[v]).length (-1)=aa xs.length:=by
  unfold yW;rw[hl,if_neg (by decide),if_pos (by lia)];congr 1;lia
 unfold jJ;rw[e];show(xs++[v])[xs.length]?=aa v;simp
def uq(b:ao):Prop:=∀o i,G7 b false o i=operate [o,i] (zd o i)
noncomputable def Xb(X:Cx)(r:R2):Prop:=
 ∀(value slice:ao)(pins:List (ae×Obj))(s:aj)(σ:St)(H:Hp)(x y:V)(v u:ah)(Q:VK),Inv X pins σ H s->RelV x v->RelV y u->r x y H Q->
  G7 slice false v u=operate [v,u] (zd v u)->aG (aE X.prog X.w) X.A (Nk value slice v u) (EP X pins σ Q) X.xe s
noncomputable def MtR(X:Cx)(id:String)(r:V->List V->Hp->VK->Prop):Prop:=
 ∀(pins:List (ae×Obj))(s:aj)(σ:St)(H:Hp)(x:V)(xs:List V)(v:ah)(us:List ah)(Q:VK),Inv X pins σ H s->RelV x v->Vals xs us->r x xs H Q->
  aG (aE X.prog X.w) X.A (call (.builtin id) (v::us)) (EP X pins σ Q) X.xe s
section
variable{X:Cx}{a b:ao}{ta tb:TE}{pos:Pos}
def Xb.or {r r':R2}(h:Xb X r)(h':Xb X r'):Xb X (λx y H Q=>r x y H Q\/r' x y H Q):=by
 intro value slice pins s σ H x y v u Q I rx ry q hs;rcases q with q|q
 ·exact h value slice pins s σ H x y v u Q I rx ry q hs
 ·exact h' value slice pins s σ H x y v u Q I rx ry q hs
def j7{r:R2}(hr:Xb X r)(ha:PE X a ta)(hb:PE X b tb)(hs:uq b):PE X (.Subscript a b pos) (tOp r ta tb):=by
 intro pins s σ H Q I h;exact Nj (acu ha hb I h λv u s2 x y H2 I2 rx ry q=>hr a b pins s2 σ H2 x y v u Q I2 rx ry q (hs _ _))
def acC(K:ak):R2:=λx y H Q=>∃p xs i v,x=.ref p/\y=.int i/\gb K H p xs/\jJ xs i=aa v/\Q v H
def af9(K:ak):R2:=λx y H Q=>∃p xs i v,x=.ref p/\y=.int i/\EU K H p xs/\jJ xs i=aa v/\Q v H
def aga:R2:=λx y H Q=>∃z i c,x=.str z/\y=.int i/\z.length<=aI/\jJ z.cps.toList i=aa c/\Q (.str ⟨#[c]⟩) H
def iN:Xb X (acC X.K):=by
 intro value slice pins s σ H x y v u Q I rx ry h hs;obtain⟨p,xs,i,z,rfl,rfl,hq,he,q⟩:=h;cases rx;obtain⟨t,rfl⟩:=ry;obtain⟨its,r,pl,hz⟩:=I.list hq;obtain⟨j,h1,h2,h3,h4,h5⟩:=G6 he;obtain⟨w,ew,vA⟩:=r.get h2;have hl:=r.length;have hn:=yK;have fin:EP X pins σ Q w s:=⟨z,H,I,vA,q⟩
 by_cases h0:0<=i
 ·have hj:i.toNat=j:=by
   rw[Nn h0 h5]at h1;exact cA.inj h1
  exact item_listR pl.isList h0 (by lia) (by rw[hj];simpa using ew) fin hs
 ·have hj:(i+(its.toArray.size:Int)).toNat=j:=by
   rw[Np (by lia) h4]at h1;rw[cW,<-hl];exact cA.inj h1
  exact Xc (x:=w) pl.isList.typeIs Xd.lookup
   (wpAny_getItem_list_neg (Q:=λr s'=>r=w/\EP X pins σ Q r s') pl.isList (by lia) (by rw[cW]<;>lia) (by lia) (by rw[hj];simpa using ew) ⟨rfl,fin⟩) hs
def AO:Xb X (af9 X.K):=by
 intro value slice pins s σ H x y v u Q I rx ry h hs;obtain⟨p,xs,i,z,rfl,rfl,hq,he,q⟩:=h;cases rx;obtain⟨t,rfl⟩:=ry;obtain⟨its,r,pl,hz⟩:=I.tuple hq;obtain⟨j,h1,h2,h3,h4,h5⟩:=G6 he;obtain⟨w,ew,vA⟩:=r.get h2;have hl:=r.length;have hn:=yK;have fin:EP X pins σ Q w s:=⟨z,H,I,vA,q⟩
 exact Xc (x:=w) pl.typeIs slot_tuple_getitem.lookup
  (getItem_tuple (j:=j) (Q:=λr s'=>r=w/\EP X pins σ Q r s') pl (by lia) (by lia) (by rw[cW,<-hl];exact h1) (by simpa using ew) ⟨rfl,fin⟩) hs
def acD:Xb X aga:=by
 intro value slice pins s σ H x y v u Q I rx ry h hs;obtain⟨z,i,c,rfl,rfl,hz,he,q⟩:=h;obtain⟨t,rfl⟩:=rx;obtain⟨t',rfl⟩:=ry;obtain⟨j,h1,h2,h3,h4,h5⟩:=G6 he;have hl:z.cps.toList.length=z.length:=by simp[Str.length]
 rw[hl]at h1 h4 h5;have hn:=yK;exact tail_any (typeIs_str s z t) slot_str_getitem.lookup (getItem_str (c:=c) (by
  have e1:decide (i< -(2^63:Int))=false:=decide_eq_false (by lia);have e2:decide (i>=2^63)=false:=decide_eq_false (by lia);rw[e1,e2,Xe]) (by rw[h1];simpa using h2) ⟨.str ⟨#[c]⟩,H,I.tok _,⟨_,rfl⟩,q⟩) hs
def rIx(K:ak):R2:=λx y H Q=>acC K x y H Q\/af9 K x y H Q\/aga x y H Q
def Sw:Xb X (rIx X.K):=iN.or (AO.or acD)
def Lu(its:List ah)(n j:Nat)(u:ah):xA (·.setIfInBounds j u) {cls:=.type "list",data:=.seq its.toArray n}={cls:=.type "list",data:=.seq (its.set j u).toArray n}:=by
 simp[xA]
theorem Inv.lst {pins:List (ae×Obj)}{σ:St}{H:Hp}{s:aj}{p:ae}{xs:List V}(I:Inv X pins σ H s)(h:H p=aa (.lst xs)):
  ∃(its:List ah)(n:Nat),Vals xs its/\s.heap.get? p=aa {cls:=.type "list",data:=.seq its.toArray n}/\xs.length<=aI:=by
 obtain⟨z,its,n,r,e⟩:=I.hok p _ h;exact⟨its,n,r,e,z⟩
def Inv.acE {pins:List (ae×Obj)}{σ:St}{H:Hp}{s:aj}{p:ae}{xs ys:List V}{its its':List ah}{n n':Nat}{f:Obj->Obj}(I:Inv X pins σ H s)(h:H p=aa (.lst xs))
  (ho:s.heap.get? p=aa {cls:=.type "list",data:=.seq its.toArray n})(hf:f {cls:=.type "list",data:=.seq its.toArray n}={cls:=.type "list",data:=.seq its'.toArray n'})(r:Vals ys its')(hz:ys.length<=aI)(t:Nat):
  Inv X pins σ (upd H p (.lst ys)) {s with heap:=s.heap.update p f,toks:=t}:=by
 have e:(s.heap.update p f).get? p=aa {cls:=.type "list",data:=.seq its'.toArray n'}:=by
  rw[Xf f ho (by rw[hf]<;>rfl),hf]
 refine I.write (x:=p) (e:=p) (by rw[h];trivial) (.inl rfl) (λb u hb q=>(Nq _ _ (Ne.symm hb)).trans q) ⟨_,e⟩ ?_;exact⟨hz,its',n',r,e⟩
def agb:V->V->V->Hp->(Hp->Prop)->Prop:=λo i v H Q=>∃p xs k j,o=.ref p/\i=.int k/\H p=aa (.lst xs)/\yW xs.length k=aa j/\Q (upd H p (.lst (xs.set j v)))
def set_list:afN X agb:=by
 intro pins s σ H o i v ov iv u Q I ro ri rv h;obtain⟨p,xs,k,j,rfl,rfl,hp,hj,q⟩:=h;cases ro;obtain⟨t,rfl⟩:=ri;obtain⟨its,n,r,ho,hz⟩:=I.lst hp;obtain⟨h1,h2,h3,h4⟩:=Nm hj;have hl:=r.length;have hn:=yK;have I':Inv X pins σ (upd H p (.lst (xs.set j v))) {s with heap:=s.heap.update p (xA (·.setIfInBounds j u))}:=
  I.acE hp ho (Lu its n j u) (r.set rv j) (by rw[jP];exact hz) s.toks
 by_cases h0:0<=k
 ·have hk:k.toNat=j:=by
   rw[Nn h0 h4]at h1;exact cA.inj h1
  exact PySem.W.ki_setAt ho h0 (by lia) (by rw[cW,<-hl];exact h4) (by rw[hk];exact⟨_,I',q⟩)
 ·have hk:(k+(its.toArray.size:Int)).toNat=j:=by
   rw[Np (by lia) h3]at h1;rw[cW,<-hl];exact cA.inj h1
  exact PySem.W.ki_setBack ho (by lia) (by rw[cW,<-hl];exact h3) (by lia) (by rw[hk];exact⟨_,I',q⟩)
def G8(lo hi:Option Int)(n:Nat):(xB lo hi none n).1=((HT.Du n 0 lo:Nat):Int)/\(xB lo hi none n).2.1=((HT.Du n n hi:Nat):Int)/\(xB lo hi none n).2.2=1:=by
 refine⟨?_,?_,rfl⟩
 ·cases lo with
  |none=>simp[xB,HT.Du]
  |some i=>
   simp only [xB,HT.Du,Xg,show(1:Int)>0 by decide,if_true]
   by_cases h:i<0
   ·simp only [h,if_true]<;>lia
   ·simp only [h,if_false]<;>lia
 ·cases hi with
  |none=>simp[xB,HT.Du]
  |some i=>
   simp only [xB,HT.Du,Xg,show(1:Int)>0 by decide,if_true]
   by_cases h:i<0
   ·simp only [h,if_true]<;>lia
   ·simp only [h,if_false]<;>lia
def E3(its:List ah)(lo hi:Option Int):slicePick its.toArray lo hi none=((its.drop (HT.Du its.length 0 lo)).take (HT.Du its.length its.length hi-HT.Du its.length 0 lo)).toArray:=by
 obtain⟨h1,h2,h3⟩:=G8 lo hi its.toArray.size;unfold slicePick;rw[h1,h2,h3];simp only [sliceRange_one,pick_run,cW]<;>rfl
def ajI(K:ak):V->Option Int->Option Int->Hp->VK->Prop:=λx lo hi H Q=>∃a xs,x=.ref a/\gb K H a xs/\∀p,H p=none->Q (.ref p) (upd H p (.lst (EZ xs lo hi)))
def Nr:SlR X (ajI X.K):=by
 intro pins s σ H x v vl vu lo hi sl Q I rx hs pl pu h;obtain⟨a,xs,rfl,hx,q⟩:=h;cases rx;obtain⟨its,r,ht,hz⟩:=I.list hx;have hlen:=r.length;refine⟨"list",_,Xd.lookup,ht.isList.typeIs,?_⟩;refine wpAny_getItem_list_slice ht.isList hs pl pu .none (by simp) ?_ (by rw[cW]<;>lia);rw[E3,<-hlen];refine⟨.ref s.heap.objs.size,_,I.laid (t':=s.toks) (o:=.lst (EZ xs lo hi)) (λb ob q=>cZ _ q) (bf _) ?_,rfl,q _ (I.hok.fresh (bf _))⟩;exact⟨iF (Jc xs lo hi) hz,_,0,(r.drop (HT.Du xs.length 0 lo)).take (HT.Du xs.length xs.length hi-HT.Du xs.length 0 lo),jg _ rfl⟩
def ze:V->Bool
 |.non=>true
 |.bl _=>true
 |.int _=>true
 |.str _=>true
 |_=>false
def V8:V->V->Bool
 |.non,.non=>true
 |.bl a,.bl b=>a==b
 |.bl a,.int b=>(if a then 1 else 0)==b
 |.int a,.bl b=>a==(if b then 1 else 0)
 |.int a,.int b=>a==b
 |.str a,.str b=>a==b
 |_,_=>false
def acF{A:bu}{s:aj}{y x:V}{u v:ah}(ry:RelV y u)(rx:RelV x v)(fy:ze y=true)(fx:ze x=true):fR A s u v (V8 y x):=by
 cases y with
 |non=>
  cases ry;cases x with
  |non=>cases rx;exact fR.same _
  |bl b=>cases rx;exact fR.none_bool b
  |int b=>obtain⟨t,rfl⟩:=rx;exact fR.none_int b t
  |str b=>obtain⟨t,rfl⟩:=rx;exact fR.none_str b t
  |_=>exact absurd (show false=true from fx) di
 |bl a=>
  cases ry;cases x with
  |non=>cases rx;exact fR.bool_none a
  |bl b=>cases rx;exact fR.bool_bool a b
  |int b=>obtain⟨t,rfl⟩:=rx;exact fR.bool_int a b t
  |str b=>obtain⟨t,rfl⟩:=rx;exact fR.bool_str a b t
  |_=>exact absurd (show false=true from fx) di
 |int a=>
  obtain⟨t',rfl⟩:=ry;cases x with
  |non=>cases rx;exact fR.int_none a t'
  |bl b=>cases rx;exact fR.int_bool a t' b
  |int b=>obtain⟨t,rfl⟩:=rx;exact fR.int_int a t' b t
  |str b=>obtain⟨t,rfl⟩:=rx;exact Wq a t' b t
  |_=>exact absurd (show false=true from fx) di
 |str a=>
  obtain⟨t',rfl⟩:=ry;cases x with
  |non=>cases rx;exact fR.str_none a t'
  |bl b=>cases rx;exact fR.str_bool a t' b
  |int b=>obtain⟨t,rfl⟩:=rx;exact Wr a t' b t
  |str b=>obtain⟨t,rfl⟩:=rx;exact fR.str_str a t' b t
  |_=>exact absurd (show false=true from fx) di
 |_=>exact absurd (show false=true from fy) di
def Xh(x:V)(u:ah):Bool:=match u with
 |.none=>V8 .non x
 |.bool b=>V8 (.bl b) x
 |.int i _=>V8 (.int i) x
 |.str z _=>V8 (.str z) x
 |_=>false
def Sx{x y:V}{u:ah}(r:RelV y u)(f:ze y=true):Xh x u=V8 y x:=by
 cases y with
 |non=>cases r;rfl
 |bl b=>cases r;rfl
 |int i=>obtain⟨t,rfl⟩:=r;rfl
 |str z=>obtain⟨t,rfl⟩:=r;rfl
 |_=>exact absurd (show false=true from f) di
theorem G9{x:V}:∀{xs:List V}{us:List ah},Vals xs us->xs.all ze=true->us.any (Xh x)=xs.any λy=>V8 y x
 |_,_,.nil,_=>rfl
 |y::xs,u::us,.cons r t,f=>by
  rw[Ha,ur]at f;rw[zf,zf,Sx r f.1,G9 t f.2]
theorem Dw{A:bu}{s:aj}{x:V}{v:ah}(rx:RelV x v)(fx:ze x=true):∀{xs:List V}{us:List ah},Vals xs us->xs.all ze=true->∀u∈us,fR A s u v (Xh x u)
 |_,_,.nil,_=>λu hu=>by cases hu
 |y::xs,u::us,.cons r t,f=>λu' hu=>by
  rw[Ha,ur]at f;rcases aX.mp hu with rfl|hu
  ·rw[Sx r f.1];exact acF r rx f.1 fx
  ·exact Dw rx fx t f.2 u' hu
def inV(x:V)(xs:List V):Bool:=xs.any λy=>V8 y x
def rIn(K:ak)(neg:Bool):R2:=λx y H Q=>∃p xs,y=.ref p/\(gb K H p xs\/EU K H p xs)/\ze x=true/\xs.all ze=true/\Q (.bl (if neg then !inV x xs else inV x xs)) H
def QC:y7 X (iI .In) (rIn X.K false):=by
 intro pins s σ H x y v u Q I rx ry h;obtain⟨p,xs,rfl,hq,fx,fs,q⟩:=h;cases ry;rcases hq with hq|hq
 ·obtain⟨its,r,pl,hz⟩:=I.list hq
  refine SeqAt.in_listAt (Xh x) pl.isList (λw hw=>Dw rx fx r fs w (by simpa using hw)) ⟨.bl _,H,I,rfl,?_⟩;rw[show its.toArray.any (Xh x)=its.any (Xh x)by simp,G9 r fs];exact q
 ·obtain⟨its,r,pl,hz⟩:=I.tuple hq
  refine SeqAt.in_tupleAt (Xh x) pl (λw hw=>Dw rx fx r fs w (by simpa using hw)) ⟨.bl _,H,I,rfl,?_⟩;rw[show its.toArray.any (Xh x)=its.any (Xh x)by simp,G9 r fs];exact q
def uu:yq X (.builtin "len") (λxs H Q=>∃p ys,xs=[.ref p]/\(gb X.K H p ys\/EU X.K H p ys)/\Q (.int ys.length) H):=by
 intro pins s σ H xs us Q I r h;obtain⟨p,ys,rfl,hq,q⟩:=h;obtain⟨u,rfl,rx⟩:=vals1 r;cases rx;have hn:=yK;rcases hq with hq|hq
 ·obtain⟨its,r',pl,hz⟩:=I.list hq
  have hlen:=r'.length;exact WY pl.isList (by simp only [cW]<;>lia) ⟨.int ys.length,H,I.tok _,⟨s.toks+1,by rw[cW,hlen]⟩,q⟩
 ·obtain⟨its,r',pl,hz⟩:=I.tuple hq
  have hlen:=r'.length;exact len_tuple pl (by simp only [cW]<;>lia) ⟨.int ys.length,H,I.tok _,⟨s.toks+1,by rw[cW,hlen]⟩,q⟩
def uv:yq X (.type "list") (λxs H Q=>∃p ys,xs=[.ref p]/\(gb X.K H p ys\/EU X.K H p ys)/\∀l,H l=none->Q (.ref l) (upd H l (.lst ys))):=by
 intro pins s σ H xs us Q I r h;obtain⟨p,ys,rfl,hq,q⟩:=h;obtain⟨u,rfl,rx⟩:=vals1 r;cases rx;have fin:∀(its:List ah),Vals ys its->ys.length<=aI->∀(h':aD)(c':Nat),(∀b o',s.heap.get? b=aa o'->h'.get? b=aa o')->
   h'.get? s.heap.objs.size=aa {cls:=.type "list",dict:=none,data:=.seq its.toArray c',slots:=#[]}->EP X pins σ Q (.ref s.heap.objs.size) {s with heap:=h'}:=λits r' hz h' c' kp e=>
  ⟨.ref s.heap.objs.size,_,I.laid (t':=s.toks) kp (bf _) (show gU X.prog X.w _ h' _ (.lst ys)from⟨hz,its,c',r',e⟩),rfl,q _ (I.hok.fresh (bf _))⟩
 rcases hq with hq|hq
 ·obtain⟨its,r',pl,hz⟩:=I.list hq
  have hlen:=r'.length;obtain⟨o,ho,hc,n,hd⟩:=pl.isList;exact call_list_seq p (.inl rfl) ho hc hd (λh' c' kp e=>fin its r' hz h' c' kp e) (by simp only [cW]<;>lia)
 ·obtain⟨its,r',pl,hz⟩:=I.tuple hq
  have hlen:=r'.length;obtain⟨o,ho,hc,n,hd⟩:=pl;exact call_list_seq p (.inr rfl) ho hc hd (λh' c' kp e=>fin its r' hz h' c' kp e) (by simp only [cW]<;>lia)
def E4:yq X (.type "tuple") (λxs H Q=>∃p ys,xs=[.ref p]/\((gb X.K H p ys/\∀l,H l=none->Q (.ref l) (upd H l (.tup ys)))\/(EU X.K H p ys/\Q (.ref p) H))):=by
 intro pins s σ H xs us Q I r h;obtain⟨p,ys,rfl,h⟩:=h;obtain⟨u,rfl,rx⟩:=vals1 r;cases rx;rcases h with⟨hq,q⟩|⟨hq,q⟩
 ·obtain⟨its,r',pl,hz⟩:=I.list hq
  have hlen:=r'.length;refine call_tuple_list pl.isList (λh' kp=>?_) (by simp only [cW]<;>lia);have I1:Inv X pins σ H {s with heap:=h'}:=I.kept (t':=s.toks) kp;have I2:Inv X pins σ (upd H h'.objs.size (.tup ys)) {s with heap:=h'.push {cls:=.type "tuple",data:=.seq its.toArray}}:=
   I1.laid (t':=s.toks) (λb o e=>cZ _ e) (bf _) (show gU X.prog X.w _ _ _ (.tup ys)from⟨hz,its,r',IsTup.new _ _⟩)
  exact⟨.ref h'.objs.size,_,I2,rfl,q _ (I1.hok.fresh (bf _))⟩
 ·obtain⟨its,r',pl,hz⟩:=I.tuple hq
  exact call_tuple_same pl ⟨.ref p,H,I,rfl,q⟩
noncomputable def tyV(K:ak)(T:String)(x:V)(H:Hp):Prop:=match x with
 |.str _=>T="str"
 |.int _=>T="int"
 |.ref p=>(T="list"/\∃xs,gb K H p xs)\/(T="tuple"/\∃o,K.lookup p=aa o/\o.cls=.type "tuple"/\o.dict=none)\/
   (T="dict"/\((∃kvs,H p=aa (.dK kvs))\/∃kvs,H p=aa (.dT kvs)))\/(T="set"/\∃S n,H p=aa (.set S n))
 |_=>False
def Sy{pins:List (ae×Obj)}{σ:St}{H:Hp}{s:aj}{T:String}{x:V}{v:ah}(I:Inv X pins σ H s)(r:RelV x v)(ty:tyV X.K T x H):
  s.TypeIs v T/\∀a,v=.ref a->∃ob,s.heap.get? a=aa ob/\ob.dict=none:=by
 cases x with
 |str z=>
  obtain⟨t,rfl⟩:=r;cases (show T="str" from ty);exact⟨typeIs_str s z t,λ_ e=>nomatch e⟩
 |int i=>
  obtain⟨t,rfl⟩:=r;cases (show T="int" from ty);exact⟨Nt s i t,λ_ e=>nomatch e⟩
 |ref p=>
  cases r;rcases ty with⟨rfl,xs,hq⟩|⟨rfl,o,hk,hc,hd⟩|⟨rfl,hk⟩|⟨rfl,S,n,hk⟩
  ·obtain⟨its,_,pl,_⟩:=I.list hq
   refine⟨pl.isList.typeIs,λa e=>?_⟩;cases e;obtain⟨o,n,e,c,hd,_⟩:=pl;exact⟨o,e,hd⟩
  ·refine⟨⟨o,I.AI p o hk,hc⟩,λa e=>?_⟩
   cases e;exact⟨o,I.AI _ o hk,hd⟩
  ·have z:∃o,s.heap.get? p=aa o/\o.ExactDict:=by
    rcases hk with⟨kvs,hk⟩|⟨kvs,hk⟩
    ·obtain⟨_,_,_,_,o,_,_,e,ex,_⟩:=I.hok p _ hk
     exact⟨o,e,ex⟩
    ·obtain⟨_,_,_,_,o,_,_,e,ex,_⟩:=I.hok p _ hk
     exact⟨o,e,ex⟩
   obtain⟨o,e,ex⟩:=z;refine⟨⟨o,e,ex.1⟩,λa e2=>?_⟩;cases e2;exact⟨o,e,ex.2.1⟩
  ·obtain⟨o,_,_,_,e,ex,_⟩:=I.hok p _ hk
   refine⟨⟨o,e,ex.1⟩,λa e2=>?_⟩;cases e2;exact⟨o,e,ex.2.1⟩
 |_=>exact jL ty
def ajK(K:ak)(T:String)(r:V->List V->Hp->VK->Prop)(to:TE):TE:=λσ H Q=>to σ H λx H1=>tyV K T x H1/\r x [] H1 Q
def tBM(K:ak)(T:String)(r:V->List V->Hp->VK->Prop)(to:TE)(t:TA):TE:=λσ H Q=>to σ H λx H1=>tyV K T x H1/\t σ H1 λxs H2=>r x xs H2 Q
variable{o e:ao}{es:List ao}{to:TE}{t:TA}{name:Str}{apos cL:Pos}{T id:String}{r:V->List V->Hp->VK->Prop}
def Hb(pa:PlainAttrs T)(slot:Slot T name id)(hty:typeOf (.builtin id)=bc (.type "method_descriptor"))(hm:MtR X id r)(ho:PE X o to)
  (hbase:iK o name X.env (aA o X.env)=aA o X.env:=by rfl)(hline:(apos.endLine==cL.line)=true:=by rfl):PE X (.Call (.Attribute o name apos) [] [] cL) (ajK X.K T r to):=by
 intro pins s σ H Q I h;refine wpAny_Call_method0_late hbase hline (fJ (ho pins s σ H _ I h) λv s1 ⟨x,H1,I1,r1,ty,q1⟩=>?_);obtain⟨h1,h2⟩:=Sy I1 r1 ty;exact⟨T,id,pa,slot,hty,h1,h2,Nu rfl (PySem.evalArgs_none (hm pins s1 σ H1 x [] v [] Q I1 r1 .nil q1))⟩
def yt(pa:PlainAttrs T)(slot:Slot T name id)(hty:typeOf (.builtin id)=bc (.type "method_descriptor"))(hm:MtR X id r)(ho:PE X o to)(ha:PA X (e::es) t)
  (hbase:iK o name X.env (aA o X.env)=aA o X.env:=by rfl)
  (hfew:((bA cL (ar (e::es) X.env)).all (λx=> !x.1)&&(lW cL (lY [] X.env)).all (λx=>x.1.isSome)
   &&decide ((e::es).length+([]:List fU).length+(if([]:List fU).isEmpty then 0 else 1)<30))=true:=by rfl)
  (hline:(apos.endLine==cL.line)=true:=by rfl)(hs:ar (e::es) X.env=(false,aA e X.env)::ar es X.env:=by rfl)(hplain:(bA cL (ar es X.env)).any (·.1)=false:=by rfl):
  PE X (.Call (.Attribute o name apos) (e::es) [] cL) (tBM X.K T r to t):=by
 intro pins s σ H Q I h;refine wpAny_Call_method_late hbase hfew hline rfl (fJ (ho pins s σ H _ I h) λv s1 ⟨x,H1,I1,r1,ty,q1⟩=>?_);obtain⟨h1,h2⟩:=Sy I1 r1 ty;refine⟨T,id,pa,slot,hty,h1,h2,?_⟩;have hA:=ha cL pins s1 σ H1 _ I1 q1;rw[hs]at hA⊢;refine Nu (by show(false||(bA cL (ar es X.env)).any (·.1))=false;rw[hplain]<;>rfl) (Xi ?_);exact fJ hA λus s2 ⟨vs,H2,I2,r2,q2⟩=>hm pins s2 σ H2 x vs v us Q I2 r1 r2 q2
end
end L2
namespace L2
open PySem PySem.Spec PyProof.Rows
noncomputable def MtM(X:Cx)(id:String)(r:V->List V->Hp->VK->Prop):Prop:=
 ∀(pins:List (ae×Obj))(s:aj)(σ:St)(H:Hp)(x:V)(xs:List V)(v:ah)(us:List ah)(Q:VK),Inv X pins σ H s->RelV x v->Vals xs us->r x xs H Q->
  aG (aE X.prog X.w) X.A (call (.builtin id) (v::us)) (EP X pins σ Q) X.xe s
def Vals.one:∀{x:V}{us:List ah},Vals [x] us->∃u,us=[u]/\RelV x u
 |_,_,.cons r .nil=>⟨_,rfl,r⟩
def Vals.zero:∀{us:List ah},Vals [] us->us=[]
 |_,.nil=>rfl
theorem Vals.dropLast {xs:List V}{us:List ah}(h:Vals xs us):Vals xs.dropLast us.dropLast:=by
 induction h with
 |nil=>exact .nil
 |cons r t ih=>
  cases t with
  |nil=>exact .nil
  |cons q t'=>exact .cons r ih
theorem Vals.reverse {xs:List V}{us:List ah}(h:Vals xs us):Vals xs.reverse us.reverse:=by
 induction h with
 |nil=>exact .nil
 |cons r t ih=>rw[kr,kr];exact Vals.append ih (.cons r .nil)
theorem Vals.rep {xs:List V}{us:List ah}(h:Vals xs us):∀k:Nat,Vals (aZ k xs).flatten (aZ k us).flatten
 |0=>.nil
 |k+1=>by
  rw[gm,gm,dA,dA];exact Vals.append h (Vals.rep h k)
def Lv{α:Type}(l:List α):l.eraseIdx (l.length-1)=l.dropLast:=by
 induction l with
 |nil=>rfl
 |cons a r ih=>
  cases r with
  |nil=>rfl
  |cons b r=>
   have e:(a::b::r).length-1=((b::r).length-1)+1:=by
    have h1:(a::b::r).length=r.length+2:=rfl;have h2:(b::r).length=r.length+1:=rfl;lia
   rw[e,List.eraseIdx_cons_succ,ih]
   all_goals rfl
theorem foldl_rep(its:List ah):∀(k:Nat)(acc:List ah),
  Nv (λx1 x2=>x1++x2) acc.toArray (aZ k its.toArray)=(acc++(aZ k its).flatten).toArray
 |0,acc=>by simp
 |k+1,acc=>by
  have e:acc.toArray++its.toArray=(acc++its).toArray:=by simp
  have e2:(acc++its)++(aZ k its).flatten=acc++(aZ (k+1) its).flatten:=by
   rw[gm,dA,bQ]
  rw[<-e2,<-foldl_rep its k (acc++its),<-e,gm,zg]
section
variable{X:Cx}{pins:List (ae×Obj)}{σ:St}{H:Hp}{s:aj}{l b:ae}{xs ys zs:List V}
def Inv.Xj {its its':List ah}{n:Nat}{f:Array ah->Array ah}{t':Nat}(I:Inv X pins σ H s)(hH:H l=aa (.lst xs))
  (e:s.heap.get? l=aa {cls:=.type "list",data:=.seq its.toArray n})(hf:f its.toArray=its'.toArray)(hv:Vals ys its')(hz:ys.length<=aI):
  Inv X pins σ (upd H l (.lst ys)) {s with heap:=s.heap.update l (xA f),toks:=t'}:=by
 have q:=PySem.IsL.update e f;rw[hf]at q;refine I.write (x:=l) (e:=l) (by rw[hH];exact trivial) (.inl rfl) (λb' u hb hu=>(Nq s.heap (xA f) (Ne.symm hb)).trans hu) ⟨_,q⟩ ?_;exact⟨hz,its',_,hv,q⟩
def Inv.agc {its:List ah}{t':Nat}(I:Inv X pins σ H s)(hv:Vals ys its)(hz:ys.length<=aI):
  Inv X pins σ (upd H s.heap.objs.size (.lst ys)) {s with heap:=s.heap.push {cls:=.type "list",data:=.seq its.toArray},toks:=t'}:=
 I.laid (λ_ _ q=>cZ _ q) (bf _) ⟨hz,its,0,hv,jg _ rfl⟩
theorem Inv.fresh (I:Inv X pins σ H s):H s.heap.objs.size=none:=I.hok.fresh (bf _)
def Inv.QD (I:Inv X pins σ H s)(hH:H l=aa (.lst xs)):xs.length<=aI/\∃(its:List ah)(n:Nat),Vals xs its/\xs.length=its.length/\s.heap.get? l=aa {cls:=.type "list",data:=.seq its.toArray n}:=by
 obtain⟨z,its,n,r,e⟩:=I.hok l _ hH;exact⟨z,its,n,r,r.length,e⟩
def Jd{n:Nat}(h:n<=aI):zh n=false:=by
 unfold zh;exact decide_eq_false (by lia)
end
section
variable{X:Cx}
def Xk:V->List V->Hp->VK->Prop:=λx vs H Q=>∃l xs y,x=.ref l/\vs=[y]/\H l=aa (.lst xs)/\xs.length<aI/\Q .non (upd H l (.lst (xs++[y])))
def i7:MtM X "list.append" Xk:=by
 intro pins s σ H x vs v us Q I rx rv h;obtain⟨l,xs,y,rfl,rfl,hH,hz,q⟩:=h;cases rx;obtain⟨u,rfl,ru⟩:=rv.one;obtain⟨z,its,n,r,hl,e⟩:=I.QD hH;refine xC F.slot_list_append ⟨_,e,rfl⟩ F.entry_list_append (F.args_list_append_2 _ _) (PySem.list_append l its.toArray n u (by rw[cW];lia)) ⟨e,?_⟩;refine⟨.non,_,I.Xj (its':=its++[u]) hH e (by simp) (r.append (.cons ru .nil)) ?_,rfl,q⟩;rw[bO,nT];lia
def Xl:V->List V->Hp->VK->Prop:=λx vs H Q=>∃l b xs zs,x=.ref l/\vs=[.ref b]/\H l=aa (.lst xs)/\H b=aa (.lst zs)/\xs.length+zs.length<=aI/\Q .non (upd H l (.lst (xs++zs)))
def QE:MtM X "list.extend" Xl:=by
 intro pins s σ H x vs v us Q I rx rv h;obtain⟨l,b,xs,zs,rfl,rfl,hH,hB,hz,q⟩:=h;cases rx;obtain⟨u,rfl,ru⟩:=rv.one;cases ru;obtain⟨z,its,n,r,hl,e⟩:=I.QD hH;obtain⟨z2,its2,n2,r2,hl2,e2⟩:=I.QD hB;have hsz:its.toArray.size+its2.toArray.size<=aI:=by rw[cW,cW];lia
 have Sz:¬(!its.toArray.isEmpty&&zh (its.toArray.size+its2.toArray.size))=true:=by
  rw[Jd hsz,Bool.and_false];exact di
 refine xC F.slot_list_extend ⟨_,e,rfl⟩ F.entry_list_extend (F.args_list_extend_2 _ _)
  (AutoSeq1.list_extend_list_list_0 l its.toArray n b its2.toArray n2 Sz (by rw[cW];lia) (by lia)) ⟨e,e2,?_⟩
 refine⟨.non,_,I.Xj (its':=its++its2) hH e (by simp) (r.append r2) ?_,rfl,q⟩;rw[bO];lia
def ajL:V->List V->Hp->VK->Prop:=λx vs H Q=>∃l xs y,x=.ref l/\vs=[]/\H l=aa (.lst xs)/\xs[xs.length-1]?=aa y/\Q y (upd H l (.lst xs.dropLast))
def SA:MtM X "list.pop" ajL:=by
 intro pins s σ H x vs v us Q I rx rv h;obtain⟨l,xs,y,rfl,rfl,hH,hy,q⟩:=h;cases rx;have hus:=rv.zero;subst hus;obtain⟨z,its,n,r,hl,e⟩:=I.QD hH;obtain⟨u,hu,ru⟩:=r.get hy;have hy':its.toArray[its.toArray.size-1]?=aa u:=by
  show its.toArray[its.length-1]?=aa u;rw[<-Array.getElem?_toList,<-hl];exact hu
 refine xC F.slot_list_pop ⟨_,e,rfl⟩ F.entry_list_pop (F.args_list_pop_1 _) (MeetsSeq.list_pop_last l its.toArray n u hy' (by rw[cW];lia)) ⟨e,?_⟩;refine⟨y,_,I.Xj (its':=its.dropLast) hH e ?_ r.dropLast ?_,ru,q⟩
 ·show its.toArray.eraseIdxIfInBounds (its.toArray.size-1)=its.dropLast.toArray
  rw[cW,List.eraseIdxIfInBounds_toArray,Lv]
 ·rw[Nx]
  lia
def SD:V->List V->Hp->VK->Prop:=λx vs H Q=>∃l xs,x=.ref l/\vs=[]/\H l=aa (.lst xs)/\Q .non (upd H l (.lst xs.reverse))
def Lw:MtM X "list.reverse" SD:=by
 intro pins s σ H x vs v us Q I rx rv h;obtain⟨l,xs,rfl,rfl,hH,q⟩:=h;cases rx;have hus:=rv.zero;subst hus;obtain⟨z,its,n,r,hl,e⟩:=I.QD hH;refine xC F.slot_list_reverse ⟨_,e,rfl⟩ F.entry_list_reverse (F.args_list_reverse_1 _) (AutoSeq1.list_reverse_list_0 l its.toArray n (by rw[cW];lia)) ⟨e,?_⟩;refine⟨.non,_,I.Xj (its':=its.reverse) hH e (by simp) r.reverse ?_,rfl,q⟩;rw[bH];lia
def ajN:R2:=λx y H Q=>∃l k xs,x=.ref l/\y=.int k/\H l=aa (.lst xs)/\ -(2^63)<=k/\k<2^63/\xs.length*k.toNat<=aI/\
 ∀p,H p=none->Q (.ref p) (upd H p (.lst (aZ k.toNat xs).flatten))
def len_rep{α:Type}(xs:List α)(k:Nat):(aZ k xs).flatten.length=k*xs.length:=by
 induction k with
 |zero=>simp
 |succ k ih=>rw[gm,dA,bO,ih,Hc,Xm]
def SE:y7 X (lS .Mult) ajN:=by
 intro pins s σ H x y v u Q I rx ry h;obtain⟨l,k,xs,rfl,rfl,hH,h1,h2,hz,q⟩:=h;cases rx;obtain⟨t,rfl⟩:=ry;obtain⟨z,its,n,r,hl,e⟩:=I.QD hH;have hlen:its.toArray.size*k.toNat<=aI:=by rw[cW,<-hl];exact hz
 have ajO:¬its.toArray.size*k.toNat>(2^63-1)/8:=by
  have:(aI:Nat)<=(2^63-1)/8:=by decide
  lia
 have hfit:¬(!Builtin.List.listFitsIndex k)=true:=by
  rw[fitsIndex_both h1 h2];exact di
 have Sz:¬zh (its.toArray.size*k.toNat)=true:=by
  rw[Jd hlen];exact di
 have hnew:Nv (λx1 x2=>x1++x2) #[] (aZ (if its.toArray.isEmpty=true then 0 else k.toNat) its.toArray)=(aZ k.toNat its).flatten.toArray:=by
  have f0:∀m:Nat,Nv (λx1 x2=>x1++x2) #[] (aZ m its.toArray)=(aZ m its).flatten.toArray:=λm=>by
   have:=foldl_rep its m [];rw[ky]at this;exact this
  rw[f0];cases its with
  |nil=>simp
  |cons a r'=>rw[if_neg (by simp)]
 refine wpAny_binaryOp_repeat_ref (T:="list") (U:="int") (by decide) ⟨_,e,rfl⟩ (λs'=>Nt s' k t) noFill_list_mul F.fills_int_mul Xn repeat_list F.slot_int_index.lookup
  (xC Xn (Nt s k t) F.entry_int_rmul (F.args_int_rmul_2 _ _) (int___rmul___int_list k t l its.toArray n)
   ⟨e,rfl,⟨_,e,rfl⟩,xC F.slot_list_mul ⟨_,e,rfl⟩ F.entry_list_mul (F.args_list_mul_2 _ _) (AutoListH.list___mul___list_int_3 l its.toArray n k t hfit ajO Sz) ⟨e,?_⟩⟩)
 rw[hnew];exact⟨.ref _,_,I.agc (t':=s.toks) (r.rep k.toNat) (by rw[len_rep,Nat.mul_comm];exact hz),rfl,q _ I.fresh⟩
end
section
variable{prog:aU}{w:aF}{A:bu}{E:ah->aj->Prop}{s:aj}
set_option maxRecDepth 100000 in
end
end L2
namespace Att
open PySem PySem.W PySem.Calls PyProof.Rows
def B8{P:mf}{h:aD}:∀(ns:List Int)(vs:List ah),WellAll P h vs (ns.map WData.int)->xy vs ns:=by
 intro ns
 induction ns with
 |nil=>
  intro vs w;rw[ji]at w;cases w;exact .nil
 |cons n ns ih=>
  intro vs w;rw[bw]at w;cases w with
  |cons a b=>
   cases a;exact .cons _ _ (ih _ b)
def QF{l:OpenLaw}{n:Nat}(hn:l.most=aa n){P:mf}{h:aD}{args:List WData}{vals:List ah}
  (hpre:l.row.toRowW.claim.pre args=true)(hwl:WellAll P h vals args):
  ∃a vs ns,vals=[dh a]/\args=[WData.list (ns.map WData.int)]/\h.get? a=aa {cls:=.type "list",data:=.seq vs.toArray}/\xy vs ns/\ns.length<=n:=by
 have hsh:WShape.hasAll [] args [.list .int]=true:=(pre_splitW hpre).1;have hc:l.pre.holds [] {args:=args}=true:=(pre_splitW hpre).2;obtain⟨d,r,rfl,h1,h2⟩:=hasAllW_cons hsh;obtain rfl:=hasAllW_nil h2;obtain⟨xs,rfl,h3⟩:=hasW_list h1;obtain⟨ns,rfl⟩:=items_int h3;have hlen:ns.length<=n:=by
  unfold OpenLaw.pre at hc;have h4:(WTm.not (.lt (.lit (.int (n:Int))) (.len (.arg 0)))).holds [] {args:=[.list (ns.map .int)]}=true:=by
   have h4:=(holds_andW hc).1;rw[hn]at h4;exact h4
  have h5:=condW_of h4 (w_not (w_lt w_lit (w_len_list (w_arg rfl))));rw[aB]at h5;refine Ny λq=>?_;have q':(n:Int)<((ns.length:Nat):Int):=by lia
  first
   |(rw[decide_eq_true q']at h5;exact absurd h5 (by decide))
   |(simp at h5;lia)
 cases hwl with
 |cons w1 w2=>
  cases w2;cases w1 with
  |list ho hall=>exact⟨_,_,ns,rfl,rfl,ho,B8 ns _ hall,hlen⟩
def QG(l:OpenLaw)(args:List WData):l.row.toRowW.claim.post args (.bool true) args=true:=
 postW_of (r:=l.row.toRowW) (X:=(true==true))
  (show WShape.has [] (.bool true) .bool=true by first|rfl|decide|simp[WShape.has,WShape.arms,WShape.armsAll])
  (show(WTm.eq .res (.lit (.bool true))).value [] {args:=args,res:=aa (.bool true),after:=args}=aa (.bool (true==true))from w_eq_bool (w_res rfl) w_lit) rfl
def Je{l:OpenLaw}{n:Nat}{q:aU}{loose:List Str}{XP:(Str->Option ah)->aD->Prop}{YP:aF->aD->Prop}{d:DefRec}
  (hn:l.most=aa n)(hdf:d.params.defaults=[])
  (call:∀(w:aF)(s₀ s₁:aj)(mg mb:Str->Option ah)(fa:ae)(o:Obj)(pm cd doc:ah)(a:ae)(vs:List ah)(ns:List Int),
   Ground q loose [] XP w s₀ mg mb s₁.heap->YP w s₁.heap->
   s₁.heap.get? fa=aa o->o.data=.func (docDef d.name d.params d.body d.scope pm cd doc)->s₁.heap.CodeRec cd d.name->mg d.name=aa (.ref fa)->
   s₁.heap.get? a=aa {cls:=.type "list",data:=.seq vs.toArray}->xy vs ns->ns.length<=n->s₁.gens=#[]->
   lU (aE l.prog w) xD (.call (.ref fa) ⟨[.ref a],[]⟩) (λr s'=>r=.ok (.ret (.bool true))/\OldK s₁.heap s'.heap/\s'.os=s₁.os/\pY s'.gens) s₁):
  WalkO q loose XP YP l.row.toRowW d [] (λf vs=>PySem.call f vs):=by
 intro w s₀ s₁ mg mb G Y fa o pm cd doc dV kV ho hd hcd hD hmg hg args vals as hpre hlay hrd hwl hlo;obtain rfl:dV=.none:=Dflts.none hD hdf;obtain rfl:kV=.none:=Dflts.noKw hD;obtain⟨a,vs,ns,rfl,rfl,hobj,hints,hlen⟩:=QF hn hpre hwl;refine enter_call (G4 (call w s₀ s₁ mg mb fa o pm cd doc a vs ns G Y ho (fd_plain hd) hcd hmg hobj hints hlen hg) λr s' hq=>?_);obtain⟨rfl,h2,h3,h4⟩:=hq;exact⟨.inl ⟨.bool true,.bool true,[],rfl,λ_=>rfl,.bool true,QG l _,λ_=>⟨Nz.nil,λ_ hm=>(nomatch hm)⟩⟩,h2,h3,h4⟩
section
variable{prog:aU}{w:aF}{A:bu}{E:ah->aj->Prop}{s:aj}{K:Frag}
def ledger(h:aD)(L d:ae):List (ae×Obj):=(b9 h.objs.size).filterMap λa=>if a=L\/a=d then none else(h.get? a).map λo=>(a,o)
end
end Att
namespace L2
open PySem PySem.Spec PyProof.Rows
theorem AQ:∀{vs:List ah}{ns:List Int},xy vs ns->Vals (ns.map V.int) vs
 |_,_,.nil=>.nil
 |_,_,.cons n t h=>.cons ⟨t,rfl⟩ (AQ h)
def acG(H:Hp):Prop:=∀b,H b=none\/∃o xs,H b=aa (.Dq o (.lst xs))
def SG{P:aU}{w:aF}{K:ak}{mg mb:Str->Option ah}{CX:RG}{k:Nat}{fa a:ae}{fd:aL}{x:Str}{sp:Sp}{s₁:aj}{vs:List ah}{ns:List Int}
  (KX:K.In s₁.heap)(hns:s₁.heap.Ns eg mg)(hb:s₁.heap.Ns MI mb)(hbb:∀x:Str,x≠"__name__"->mb x=fj x)(hlim:s₁.heap.NoLimit)(hg:s₁.gens=#[])
  (ha:s₁.heap.get? a=aa {cls:=.type "list",data:=.seq vs.toArray})(hi:xy vs ns)(hl:ns.length<=aI)(hr:cV k xD)
  (F:∀base:aD,K.In base->base.Ns eg mg->fM P w K mg base CX k fa fd [x] sp)(hbind:∀(s:aj)(u:ah),xu s fd ⟨[u],[]⟩ [(x,u)])
  (BN:∀H:Hp,acG H->gb K H a (ns.map V.int)->sp [.ref a] H (λv _=>v=.bl true) λ_ _ _=>False)
  (hCX:∀H e s',CX [] H s₁ (λ_ _ _=>False) e s'->False):
  lU (aE P w) xD (.call (.ref fa) ⟨[.ref a],[]⟩) (λr s'=>r=.ok (.ret (.bool true))/\OldK s₁.heap s'.heap/\s'.os=s₁.os/\pY s'.gens) s₁:=by
 have rv:=AQ hi;have ajR:=hi.length;have core:∀H:Hp,acG H->gb K H a (ns.map V.int)->ye P w H s₁.heap->(∀b,H b≠none->b=a)->(H a≠none->K.lookup a=none)->
   lU (aE P w) xD (.call (.ref fa) ⟨[.ref a],[]⟩) (λr s'=>r=.ok (.ret (.bool true))/\OldK s₁.heap s'.heap/\s'.os=s₁.os/\pY s'.gens) s₁:=by
  intro H hO hS hok hA hK;have NB:∀{b:ae}{o:Obj},s₁.heap.get? b=aa o->H b=none->(GD s₁.heap H).get? b=aa o:=λe n=>RX e n;have noA:∀{b:ae}{o:Obj}{es:Array G0}{ep:Nat},s₁.heap.get? b=aa o->o.data=.dict es ep->H b=none:=λ{b o es ep} e d=>by
   cases q:H b with
   |none=>rfl
   |some u=>
    have e':b=a:=hA b (by rw[q];simp);subst e';rw[ha]at e;cases e;have d':Data.seq vs.toArray _=Data.dict es ep:=d;cases d'
  have nsK:∀{b:ae}{m:Str->Option ah},s₁.heap.Ns b m->(GD s₁.heap H).Ns b m:=λ{b m}⟨o,es,ep,e,d,r⟩=>⟨o,es,ep,NB e (noA e d),d,r⟩
  have hKb:K.In (GD s₁.heap H):=λb o e=>NB (KX b o e) (by
   cases q:H b with
   |none=>rfl
   |some u=>
    have e':b=a:=hA b (by rw[q];simp);subst e';rw[hK (by rw[q];simp)]at e;cases e)
  have hM:Mod K mg (GD s₁.heap H):=⟨hKb,nsK hns,⟨mb,nsK hb,hbb⟩,let⟨mc,h1,h2⟩:=hlim;⟨mc,nsK h1,h2⟩⟩
  have e0:Lr P w K mg (GD s₁.heap H) xD [] s₁ H:=⟨rfl,hM,λb o e=>Wt e,zb (Qo _ _),trivial,λb hb=>absurd (show b∈([]:List ae)from hb) (by simp),hok,.of_eq hg⟩
  refine G4 ((F _ hKb (nsK hns)).run xD [] s₁ H ⟨[.ref a],[]⟩ [.ref a] [.ref a] _ _ hr e0 (hbind s₁ (.ref a)) (.cons rfl .nil) (BN H hO hS)) λr s' h=>?_;cases r with
  |error e=>exact(hCX H e s' h).elim
  |ok fl=>
   cases fl with
   |next=>exact jL h
   |brk=>exact jL h
   |cont=>exact jL h
   |ret u=>
    obtain⟨v,H',os,bare,un,ajS,r',q⟩:=h;have q':v=.bl true:=q;subst q';obtain rfl:u=GA true:=r';refine⟨rfl,OldK.of_keep λb o e=>?_,os,bare⟩;cases q:H b with
    |none=>exact un.keep b o e q (by intro z;exact absurd (show b∈([]:List ae)from z) (by simp)) (by simp)
    |some u=>
     rcases hO b with z|⟨ob,xs,z⟩
     ·rw[q]at z;cases z
     ·have z2:=un.GC b ob _ z
      obtain⟨e1,_⟩:=hok b _ z;obtain⟨e2,_⟩:=ajS b _ z2;rw[e]at e1;cases e1;exact e2
 cases hk:K.lookup a with
 |some o=>
  have e:=KX a o hk;rw[ha]at e;cases e;refine core (λ_=>none) (λ_=>.inl rfl) (.inr ⟨_,vs.toArray,_,hk,rfl,rfl,rfl,by rw[cW,ajR];exact hl,by simpa using rv⟩) (λb u z=>by have z':(none:Option HO)=aa u:=z;cases z') (λb z=>absurd rfl z) λz=>absurd rfl z
 |none=>
  refine core (λb=>if b=a then aa (.Dq {cls:=.type "list",data:=.seq vs.toArray} (.lst (ns.map V.int)))else none) (λb=>?_) (.inl (.inr ⟨{cls:=.type "list",data:=.seq vs.toArray},if_pos rfl⟩)) (λb u z=>?_) (λb z=>?_) λ_=>hk
  ·by_cases hb:b=a
   ·exact .inr ⟨_,_,if_pos hb⟩
   ·exact .inl (if_neg hb)
  ·by_cases hb:b=a
   ·have z':=(if_pos hb).symm.trans z
    cases z';subst hb;exact⟨ha,by rw[aB];exact hl,vs,_,rv,ha⟩
   ·have z':=(if_neg hb).symm.trans z
    cases z'
  ·by_cases hb:b=a
   ·exact hb
   ·exact absurd (if_neg hb) z
end L2
namespace L2
open PySem PySem.Spec PyProof.Rows
abbrev KOf{K:ak}{h:aD}(_:K.In h):ak:=K
def Xo{l:ND}{n k:Nat}{q:aU}{loose:List Str}{XP:(Str->Option ah)->aD->Prop}{YP:aF->aD->Prop}{d:DefRec}{K:mf->ak}{CX:aF->RG}{sp:aF->Sp}{x:Str}
  (hn:l.most=aa n)(hn2:n<=aI)(hdf:d.params.defaults=[])(hr:cV k xD)
  (hY:∀(w:aF)(h:aD),YP w h->(K w.params).In h)
  (F:∀(w:aF)(mg:Str->Option ah)(fa:ae)(h:aD),(K w.params).In h->h.Ns eg mg->mg d.name=aa (.ref fa)->
   ∃fd:aL,(∀(s:aj)(u:ah),xu s fd ⟨[u],[]⟩ [(x,u)])/\
    ∀base:aD,(K w.params).In base->base.Ns eg mg->fM l.prog w (K w.params) mg base (CX w) k fa fd [x] (sp w))
  (BN:∀(w:aF)(H:Hp)(a:ae)(ns:List Int),ns.length<=n->acG H->gb (K w.params) H a (ns.map V.int)->sp w [.ref a] H (λv _=>v=.bl true) λ_ _ _=>False)
  (hCX:∀(w:aF)(H:Hp)(s:aj)(e:ah)(s':aj),CX w [] H s (λ_ _ _=>False) e s'->False):
  Xp q loose XP YP l.row.toRowW d [] (λf vs=>PySem.call f vs):=by
 refine Att.Je hn hdf λw s₀ s₁ mg mb fa o pm cd doc a vs ns G Y ho hd hcd hmg hobj hints hlen hg=>?_;have KX:=hY w _ Y;obtain⟨fd,hb,hF⟩:=F w mg fa _ KX G.T.g hmg;exact SG KX G.T.g G.T.b G.T.builtins G.T.nolimit hg hobj hints (iF hlen hn2) hr hF hb (λH hO hS=>BN w H a ns hlen hO hS) λH e s'=>hCX w H s₁ e s'
end L2
namespace L2
open PySem PySem.Spec PyProof.Rows
def inClass(s:aC)(j:Nat):aC:=match s with
 |.ClassDef _ _ _ body _ _ _ _ _ _ _=>body.getD j (.Pass ⟨0,0,0,0⟩)
 |_=>.Pass ⟨0,0,0,0⟩
def jj(s:aC):CC:=match s with
 |.FunctionDef _ a _ _ _ _ _ _ _ _=>a
 |_=>{posonlyargs:=[],args:=[],vararg:=none,kwonlyargs:=[],kw_defaults:=[],kwarg:=none,defaults:=[]}
def dQ(s:aC):List aC:=match s with
 |.FunctionDef _ _ b _ _ _ _ _ _ _=>b
 |_=>[]
def az(s:aC):dw:=match s with
 |.FunctionDef _ _ _ _ _ _ sc _ _ _=>sc
 |_=>{kind:=.function,names:=[],isGenerator:=false,isCoroutine:=false}
abbrev qv:RG:=λ_ _ _ _ _ _=>False
abbrev E0:XK:=λ_ _ _=>False
def vB{X:Cx}:Passes qv X E0:=λ_ _ _ _ _ _ _ h=>h.elim
structure Jf(K:ak)(x qual:Str)(st:aC)(f:ae)(fd:aL):Prop where
 ex:∃(oc:ah)(od:Option ae)(kV doc pm:ah)(an:Option ae)(cdv ct:ah)(RJ:Array (Option ah)),
  fd=gE x qual (jj st) (dQ st) (az st) .none kV doc pm an cdv ct/\K.lookup f=aa ⟨oc,od,.func fd,RJ⟩/\zc K cdv qual=true
 kp:ko K (.ref f)=true
section
variable{P:aU}{w:aF}{K:ak}{mg:Str->Option ah}{base:aD}
def Jf.ok {x qual:Str}{st:aC}{f:ae}{fd:aL}{N ps:List Str}{k:Nat}{sp:Sp}(F:Jf K x qual st f fd)(S:bp N ps (az st))(len:∀vs H Q E,sp vs H Q E->vs.length=ps.length)
  (hbody:∀(cdv:ah)(A:bu)(outer:List Env)(s:aj)(H:Hp)(vs:List V)(Q:VK)(E:XK),cV k (A.deeper (fQ qual (az st) s.heap.objs.size f cdv))->sp vs H Q E->
   ∃t,xj (vV qv P w K mg base N qual (az st) f cdv A outer s H E).MP (dQ st) t/\t {nx:=λ_ H'=>Q .non H',rt:=Q} (start N vs) H):fM P w K mg base qv (k+1) f fd ps sp:=by
 obtain⟨oc,od,kV,doc,pm,an,cdv,ct,RJ,rfl,lk,hcd⟩:=F.ex;refine af7 lk hcd S len λA outer s H vs Q E hr BN=>?_;obtain⟨t,h,q⟩:=hbody cdv A outer s H vs Q E hr BN;exact⟨t,h.MP,q⟩
def Jf.binds {x qual:Str}{st:aC}{f:ae}{fd:aL}{ps:List Str}(F:Jf K x qual st f fd)
  (h:∀(kV doc pm:ah)(an:Option ae)(cdv ct:ah)(us:List ah),us.length=ps.length->p4 (gE x qual (jj st) (dQ st) (az st) .none kV doc pm an cdv ct) ⟨us,[]⟩=bc (ps.zip us)):Binds K fd ps []:=by
 obtain⟨oc,od,kV,doc,pm,an,cdv,ct,RJ,rfl,lk,hcd⟩:=F.ex;exact .all (h kV doc pm an cdv ct)
def Lx{x qual:Str}{st:aC}{f:ae}{oc:ah}{od an:Option ae}{RJ:Array (Option ah)}{kV doc pm cdv ct:ah}(l:K.lookup f=aa ⟨oc,od,.func (gE x qual (jj st) (dQ st) (az st) .none kV doc pm an cdv ct),RJ⟩)
  (c:zc K cdv qual=true)(k:ko K (.ref f)=true):Jf K x qual st f (gE x qual (jj st) (dQ st) (az st) .none kV doc pm an cdv ct):=⟨⟨oc,od,kV,doc,pm,an,cdv,ct,RJ,rfl,l,c⟩,k⟩
end
def zj{A:bu}{k:Nat}(hr:cV k A):A.units+1<gZ:=zk (Nat.add_le_add_left (by decide:1<=64) _) hr.units
section
variable{X:Cx}
def pv(i:Nat){x:Str}{pos:Pos}(hN:X.N[i]?=aa x:=by rfl)(hv:BI X.env.scope x:=by first|exact aR rfl|exact aS (aR rfl)|exact aS (aS rfl))(hd:(x==("__debug__":Str))=false:=by decide)
  (hcd:(x==("__classdict__":Str))=false:=by decide):PE X (.Name x pos) (Ww i):=ju hN hv hd hcd
end
def AR{A B:Prop}(h:B):if false=true then A else B:=by
 rw[if_neg di];exact h
def B9{A B:Prop}(h:A):if true=true then A else B:=by
 rw[if_pos rfl];exact h
def bK(H H':Hp):Prop:=∀b o,H b=aa o->H' b=aa o
def bK.refl (H:Hp):bK H H:=λ_ _ h=>h
def bK.trans {H H1 H2:Hp}(a:bK H H1)(b:bK H1 H2):bK H H2:=λc o h=>b c o (a c o h)
def bK.free {H H':Hp}(e:bK H H'){l:ae}(h:H' l=Option.none):H l=Option.none:=by
 cases q:H l with
 |none=>rfl
 |some o=>
  rw[e l o q]at h;cases h
def bK.seq {K:ak}{H H':Hp}{a:ae}{xs:List V}(e:bK H H')(h:gb K H a xs):gb K H' a xs:=by
 rcases h with(h|⟨o,h⟩)|h
 ·exact .inl (.inl (e _ _ h))
 ·exact .inl (.inr ⟨o,e _ _ h⟩)
 ·exact .inr h
end L2
set_option maxHeartbeats 4000000
namespace L2
open PySem PySem.Spec PyProof.Rows
section
variable{κ:Type}[DecidableEq κ]
def g9(kvs:List (κ×V))(k:κ):Option V:=(kvs.find? λkv=>decide (kv.1=k)).map (·.2)
def putK(kvs:List (κ×V))(k:κ)(v:V):List (κ×V):=
 if(kvs.any λkv=>decide (kv.1=k))=true then kvs.map (λkv=>if kv.1=k then(kv.1,v)else kv)else kvs++[(k,v)]
def aoi(kvs:List (κ×V))(k:κ):List (κ×V):=kvs.filter λkv=>decide (kv.1≠k)
def jw{p:κ×V}{r:List (κ×V)}{k:κ}(e:p.1=k):g9 (p::r) k=aa p.2:=by simp[g9,zm,e]
def jx{p:κ×V}{r:List (κ×V)}{k:κ}(e:¬p.1=k):g9 (p::r) k=g9 r k:=by simp[g9,zm,e]
theorem zo(k:κ):∀kvs:List (κ×V),(kvs.any λkv=>decide (kv.1=k))=(g9 kvs k).isSome
 |[]=>rfl
 |p::r=>by
  rw[zf]
  by_cases e:p.1=k
  ·simp only [jw e,decide_eq_true e,Bool.true_or,Option.isSome_some]
  ·rw[jx e,decide_eq_false e,Bool.false_or];exact zo k r
theorem Jg(k j:κ)(y:V):∀kvs:List (κ×V),g9 (kvs.map λkv=>if kv.1=k then(kv.1,y)else kv) j=(g9 kvs j).map λx=>if j=k then y else x
 |[]=>rfl
 |p::r=>by
  have ih:=Jg k j y r;rw[bw]
  by_cases h:p.1=k
  ·rw[if_pos h]
   by_cases e:p.1=j
   ·rw[jw (p:=(p.1,y)) e,jw e,p7,if_pos (e.symm.trans h)]
   ·rw[jx (p:=(p.1,y)) e,jx e,ih]
  ·rw[if_neg h]
   by_cases e:p.1=j
   ·rw[jw (p:=p) e,jw e,p7,if_neg (λz=>h (e.trans z))]
   ·rw[jx (p:=p) e,jx e,ih]
theorem FG(k j:κ)(y:V):∀kvs:List (κ×V),g9 kvs k=none->g9 (kvs++[(k,y)]) j=if j=k then aa y else g9 kvs j
 |[],_=>by
  by_cases e:k=j
  ·rw[if_pos e.symm];exact jw (p:=(k,y)) e
  ·rw[if_neg (λz=>e z.symm)];exact jx (p:=(k,y)) e
 |p::r,hn=>by
  rw[gF];have hk:¬p.1=k:=λz=>by rw[jw z]at hn;cases hn
  rw[jx hk]at hn;have ih:=FG k j y r hn
  by_cases e:p.1=j
  ·rw[jw e,jw e,if_neg (λz=>hk (e.trans z))]
  ·rw[jx e,jx e,ih]
def qB(kvs:List (κ×V))(k j:κ)(y:V):g9 (putK kvs k y) j=if j=k then aa y else g9 kvs j:=by
 unfold putK
 by_cases a:(kvs.any λkv=>decide (kv.1=k))=true
 ·rw[if_pos a,Jg]
  rw[zo]at a
  by_cases e:j=k
  ·obtain⟨x,hx⟩:=W9.mp a
   rw[if_pos e,e,hx,p7,if_pos rfl]
  ·rw[if_neg e]
   cases g9 kvs j with
   |none=>rfl
   |some x=>rw[p7,if_neg e]
 ·rw[if_neg a]
  refine FG k j y kvs ?_;rw[zo]at a;cases q:g9 kvs k with
  |none=>rfl
  |some x=>rw[q]at a;exact(a rfl).elim
def lD(kvs:List (κ×V))(k:κ)(v:V):(putK kvs k v).length<=kvs.length+1:=by
 unfold putK;split
 ·rw[aB];lia
 ·rw[bO,bD,gG];lia
def vK.AS {o:Option V}{u:Option ah}(r:vK o u):o.isSome=u.isSome:=by
 cases o with
 |none=>cases u with
  |none=>rfl
  |some _=>exact(show False from r).elim
 |some _=>cases u with
  |none=>exact(show False from r).elim
  |some _=>rfl
theorem vK.getD {o:Option V}{u:Option ah}{d:V}{d':ah}(r:vK o u)(rd:RelV d d'):RelV (o.getD d) (u.getD d'):=by
 cases o with
 |none=>cases u with
  |none=>exact rd
  |some _=>exact(show False from r).elim
 |some _=>cases u with
  |none=>exact(show False from r).elim
  |some _=>exact r
def KV.val {kvs:List (κ×V)}{vs:List (κ×ah)}(r:KV kvs vs)(k:κ):vK (g9 kvs k) (xE vs k):=by
 unfold KV at r
 induction r with
 |nil=>exact nQ
 | @cons p q ps qs h t ih=>
  obtain⟨h1,h2⟩:=h
  by_cases e:p.1=k
  ·have e':q.1=k:=h1.symm.trans e
   have b:xE (q::qs) k=aa q.2:=by simp[xE,zm,e']
   rw[jw e,b];exact h2
  ·have e':¬q.1=k:=λz=>e (h1.trans z)
   have b:xE (q::qs) k=xE qs k:=by simp[xE,zm,e']
   rw[jx e,b];exact ih
theorem KV.any {kvs:List (κ×V)}{vs:List (κ×ah)}(r:KV kvs vs)(k:κ):(kvs.any λkv=>decide (kv.1=k))=vs.any λkv=>decide (kv.1=k):=by
 unfold KV at r
 induction r with
 |nil=>rfl
 |cons h t ih=>rw[zf,zf,ih,h.1]
def KV.acH {kvs:List (κ×V)}{vs:List (κ×ah)}(r:KV kvs vs)(k:κ){y:V}{u:ah}(ry:RelV y u):
  KV (kvs.map λkv=>if kv.1=k then(kv.1,y)else kv) (vs.map λkv=>if kv.1=k then(kv.1,u)else kv):=by
 unfold KV at r⊢
 induction r with
 |nil=>exact .nil
 | @cons p q ps qs h t ih=>
  rw[bw,bw];refine .cons ?_ ih;obtain⟨h1,h2⟩:=h
  by_cases e:p.1=k
  ·rw[if_pos e,if_pos (h1.symm.trans e)];exact⟨h1,ry⟩
  ·rw[if_neg e,if_neg (λz=>e (h1.trans z))];exact⟨h1,h2⟩
def KV.put {kvs:List (κ×V)}{vs:List (κ×ah)}(r:KV kvs vs)(k:κ){y:V}{u:ah}(ry:RelV y u):KV (putK kvs k y) (stored vs k u):=by
 unfold putK stored;rw[r.any k]
 by_cases e:(vs.any λkv=>decide (kv.1=k))=true
 ·rw[if_pos e,if_pos e];exact r.acH k ry
 ·rw[if_neg e,if_neg e];exact Paired.snoc r ⟨rfl,ry⟩
theorem KV.length {kvs:List (κ×V)}{vs:List (κ×ah)}(r:KV kvs vs):kvs.length=vs.length:=Paired.length r
end
def Jh{P:aU}{w:aF}{k:Key}{u:ah}(r:RelV (kV k) u):(gY P w).is k u=true:=by
 cases k with
 |inl i=>obtain⟨t,e⟩:=(show∃t,u=ah.int i t from r);subst e;exact IZ P w i t
 |inr x=>obtain⟨t,e⟩:=(show∃t,u=Cp x t from r);subst e;exact I0 P w x t
theorem FH{P:aU}{w:aF}:∀{ks:List Key}{us:List ah},Vals (ks.map kV) us->ItemsAre (gY P w) ks us
 |[],_,r=>by rw[ji]at r;cases r;exact .nil
 |k::ks,_,r=>by
  rw[bw]at r;cases r with
  |cons h t=>exact .cons (Jh h) (FH t)
abbrev KT(H:Hp):List (List Key×V)->List (List Key×ae×ah)->Prop:=Paired λp q=>p.1=q.1/\H q.2.1=aa (.tup (p.1.map kV))/\RelV p.2 q.2.2
def KT.val {H:Hp}{kvs:List (List Key×V)}{xs:List (List Key×ae×ah)}(r:KT H kvs xs)(k:List Key):vK (g9 kvs k) ((rE xs k).map (·.2)):=by
 induction r with
 |nil=>exact nQ
 | @cons p q ps qs h t ih=>
  obtain⟨h1,_,h2⟩:=h
  by_cases e:p.1=k
  ·have e':q.1=k:=h1.symm.trans e
   have b:rE (q::qs) k=aa q.2:=by simp[rE,zm,e']
   rw[jw e,b];exact h2
  ·have e':¬q.1=k:=λz=>e (h1.trans z)
   have b:rE (q::qs) k=rE qs k:=by simp[rE,zm,e']
   rw[jx e,b];exact ih
def KT.acH {H:Hp}{kvs:List (List Key×V)}{xs:List (List Key×ae×ah)}(r:KT H kvs xs)(k:List Key){y:V}{u:ah}(ry:RelV y u):
  KT H (kvs.map λkv=>if kv.1=k then(kv.1,y)else kv) (xs.map (putAt k u)):=by
 induction r with
 |nil=>exact .nil
 | @cons p q ps qs h t ih=>
  rw[bw,bw];refine .cons ?_ ih;obtain⟨h1,h2,h3⟩:=h;unfold putAt
  by_cases e:p.1=k
  ·rw[if_pos e,if_pos (h1.symm.trans e)];exact⟨h1,h2,ry⟩
  ·rw[if_neg e,if_neg (λz=>e (h1.trans z))];exact⟨h1,h2,h3⟩
def KT.put {H:Hp}{kvs:List (List Key×V)}{xs:List (List Key×ae×ah)}(r:KT H kvs xs)(k:List Key){b:ae}{y:V}{u:ah}(hb:H b=aa (.tup (k.map kV)))(ry:RelV y u):
  KT H (putK kvs k y) (storedH xs k b u):=by
 have e:(kvs.any λkv=>decide (kv.1=k))=(rE xs k).isSome:=by
  rw[zo,(r.val k).AS,Xq]
 unfold putK storedH;rw[e]
 by_cases q:(rE xs k).isSome=true
 ·rw[if_pos q,if_pos q];exact r.acH k ry
 ·rw[if_neg q,if_neg q];exact Paired.snoc r ⟨rfl,hb,ry⟩
def KT.keeps {H H':Hp}{kvs:List (List Key×V)}{xs:List (List Key×ae×ah)}(r:KT H kvs xs)(ht:∀b ys,H b=aa (.tup ys)->H' b=aa (.tup ys)):KT H' kvs xs:=
 Paired.acb r λ_ _ z=>⟨z.1,ht _ _ z.2.1,z.2.2⟩
section
variable{P:aU}{w:aF}{H:Hp}{h:aD}{a:ae}
def aav{u:HO}(ok:ye P w H h)(e:Rd H a u):gU P w H h a u:=e.ok ok
def FI{kvs:List (Key×V)}(ok:ye P w H h)(e:Rd H a (.dK kvs)):kvs.length<=aI/\(a==nP)=false/\∃vs,KV kvs vs/\h.DictOf (gY P w) a vs:=
 show gU P w H h a (.dK kvs)from aav ok e
def agf{kvs:List (Key×V)}(ok:ye P w H h)(e:H a=aa (.dK kvs)):kvs.length<=aI/\(a==nP)=false/\∃vs,KV kvs vs/\h.DictOf (gY P w) a vs:=FI ok (.inl e)
def Dy{ks:List Key}(ok:ye P w H h)(e:H a=aa (.tup (ks.map kV))):(xh (gY P w)).is h ks a:=by
 obtain⟨_,its,r,o,h1,h2,n,h3⟩:=(show gU P w H h a (.tup (ks.map kV))from ok a _ e)
 exact⟨o,its.toArray,n,h1,h2,h3,by simpa using FH r⟩
def DA{kvs:List (List Key×V)}(ok:ye P w H h)(e:Rd H a (.dT kvs)):kvs.length<=aI/\(a==nP)=false/\
  ∃xs,KT H kvs xs/\h.DictOfH (xh (gY P w)) a xs:=by
 obtain⟨z,y,xs,r,o,es,ep,h1,h2,h3,h4,h5⟩:=(show gU P w H h a (.dT kvs)from aav ok e)
 refine⟨z,y,xs,r,o,es,ep,h1,h2,h3,h4,λx hx=>?_,h5⟩;have all:∀{l:List (List Key×V)}{m:List (List Key×ae×ah)},KT H l m->∀x∈m,(xh (gY P w)).is h x.1 x.2.1:=by
  intro l m q
  induction q with
  |nil=>intro x hx;exact nomatch hx
  | @cons p q ps qs hq t ih=>
   intro x hx;rcases aX.mp hx with e|hx
   ·subst e
    exact Dy ok (by rw[<-hq.1];exact hq.2.1)
   ·exact ih x hx
 exact all r x hx
def agg{kvs:List (List Key×V)}(ok:ye P w H h)(e:H a=aa (.dT kvs)):kvs.length<=aI/\(a==nP)=false/\
  ∃xs,KT H kvs xs/\h.DictOfH (xh (gY P w)) a xs:=DA ok (.inl e)
end
def uw(H:Hp)(a:ae)(y:V)(r:Option V):Prop:=
 (∃kvs k,Rd H a (.dK kvs)/\y=kV k/\r=g9 kvs k)\/∃kvs k b,Rd H a (.dT kvs)/\y=.ref b/\H b=aa (.tup (k.map kV))/\r=g9 kvs k
def Ji(H:Hp)(a:ae)(y v:V)(H':Hp):Prop:=
 (∃kvs k,H a=aa (.dK kvs)/\y=kV k/\kvs.length<aI/\H'=upd H a (.dK (putK kvs k v)))\/
 ∃kvs k b,H a=aa (.dT kvs)/\y=.ref b/\H b=aa (.tup (k.map kV))/\kvs.length<aI/\H'=upd H a (.dT (putK kvs k v))
def uw.t {H:Hp}{a b:ae}{kvs:List (List Key×V)}{k:List Key}(e:H a=aa (.dT kvs))(eb:H b=aa (.tup (k.map kV))):uw H a (.ref b) (g9 kvs k):=.inr ⟨kvs,k,b,.inl e,rfl,eb,rfl⟩
def Ji.t {H:Hp}{a b:ae}{kvs:List (List Key×V)}{k:List Key}{v:V}(e:H a=aa (.dT kvs))(eb:H b=aa (.tup (k.map kV)))(hl:kvs.length<aI):
  Ji H a (.ref b) v (upd H a (.dT (putK kvs k v))):=.inr ⟨kvs,k,b,e,rfl,eb,hl,rfl⟩
section
variable{X:Cx}{pins:List (ae×Obj)}{σ:St}{H:Hp}{s:aj}{a:ae}{y v:V}{u r:ah}{o:Option V}{A:bu}{E:ah->aj->Prop}
def Inv.big (I:Inv X pins σ H s):nP<s.heap.objs.size:=by
 have h:eg<s.heap.objs.size:=(I.mod.glob.keeps I.bk).lt;exact NF (by decide) h
def QH{Q:ah->aj->Prop}(hu:A.units+1<gZ)(I:Inv X pins σ H s)(g:uw H a y (aa v))(ry:RelV y u)(h:∀w' s',Inv X pins σ H s'->RelV v w'->Q w' s'):
  aG (aE X.prog X.w) A (zd (.ref a) u) Q E s:=by
 rcases g with⟨kvs,k,e,ey,l⟩|⟨kvs,k,b,e,ey,eb,l⟩
 ·subst ey
  obtain⟨z,hd,vs,rel,dd⟩:=FI I.hok e;obtain⟨w',hw,vA⟩:=vK.some_of (v:=v) (o:=xE vs k) (by rw[l];exact rel.val k);exact wpAny_getItem_of (Jh ry) dd.mapOf hw (h w' _ (I.tok _) vA)
 ·subst ey
  cases (show u=dh b from ry);obtain⟨z,hd,xs,rel,dd⟩:=DA I.hok e;obtain⟨w',hw,vA⟩:=vK.some_of (v:=v) (o:=(rE xs k).map (·.2)) (by rw[l];exact rel.val k);obtain⟨p,hp,hp2⟩:=Option.map_eq_some_iff.mp hw;refine wpAny_getItem_heap (Hd hu) (Dy I.hok eb) dd hp ?_;rw[hp2];exact h w' _ (I.tok _) vA
def Xs{Q:ah->aj->Prop}(hu:A.units+1<gZ)(I:Inv X pins σ H s)(g:uw H a y o)(ry:RelV y u)(h:∀s',Inv X pins σ H s'->Q (.bool (!o.isSome)) s'):
  aG (aE X.prog X.w) A (iI .NotIn u (.ref a)) Q E s:=by
 rcases g with⟨kvs,k,e,ey,l⟩|⟨kvs,k,b,e,ey,eb,l⟩
 ·subst ey
  obtain⟨z,hd,vs,rel,dd⟩:=FI I.hok e;refine wpAny_notIn_of (Jh ry) hd dd.mapOf ?_;rw[<-(rel.val k).AS,<-l];exact h _ (I.tok _)
 ·subst ey
  cases (show u=dh b from ry);obtain⟨z,hd,xs,rel,dd⟩:=DA I.hok e;refine wpAny_notIn_heap (Hd hu) (Dy I.hok eb) hd dd ?_;have q:=(rel.val k).AS;rw[Xq]at q;rw[<-q,<-l];exact h _ (I.tok _)
def NG{h':aD}{t':Nat}{ob:HO}(I:Inv X pins σ H s)(mu:Mut (H a))(hs:GH a s.heap h')(he:∃q,h'.get? a=aa q)(new:gU X.prog X.w (upd H a ob) h' a ob):
  Inv X pins σ (upd H a ob) {s with heap:=h',toks:=t'}:=
 I.write (x:=a) (e:=a) mu (.inl rfl) (λb q hb z=>(hs.2 b hb).trans z) he new
def acI{P:aU}{w:aF}{H':Hp}{h':aD}{kvs:List (Key×V)}{vs:List (Key×ah)}(z:kvs.length<=aI)(hd:(a==nP)=false)(rel:KV kvs vs)(dd:h'.DictOf (gY P w) a vs):
  gU P w H' h' a (.dK kvs):=⟨z,hd,vs,rel,dd⟩
def QI{H':Hp}{Q:Unit->aj->Prop}(hu:A.units+1<gZ)(I:Inv X pins σ H s)(g:Ji H a y v H')(ry:RelV y u)(rv:RelV v r)(h:∀s',Inv X pins σ H' s'->Q () s'):
  aG (aE X.prog X.w) A (Cq (.ref a) u r) Q E s:=by
 rcases g with⟨kvs,k,e,ey,l,eH⟩|⟨kvs,k,b,e,ey,eb,l,eH⟩
 ·subst ey eH
  obtain⟨z,hd,vs,rel,dd⟩:=agf I.hok e;have hz:vs.length<=aI:=by rw[<-rel.length];exact z
  have hl:(putK kvs k v).length<=aI:=by have:=lD kvs k v;lia
  refine wpAny_setItem_pairs (hsz:=hz) (Jh ry) dd λh' dd' hs=>h _ ?_;have he:∃q,h'.get? a=aa q:=let⟨q,_,_,hq,_⟩:=dd';⟨q,hq⟩
  exact NG I (by rw[e];exact nQ) hs he (acI hl hd (rel.put k rv) dd')
 ·subst ey eH
  cases (show u=dh b from ry);obtain⟨z,hd,xs,rel,dd⟩:=agg I.hok e;have hz:xs.length<=aI:=by rw[<-Paired.length rel];exact z
  have hl:(putK kvs k v).length<=aI:=by have:=lD kvs k v;lia
  refine wpAny_setItem_heap (hsz:=hz) (Hd hu) (Dy I.hok eb) dd λh' dd' hs=>h _ ?_;obtain⟨q,es,ep,hq,h2,h3,h4,_,h5⟩:=dd';refine NG I (by rw[e];exact nQ) hs ⟨q,hq⟩ ⟨hl,hd,_,(rel.put k eb rv).keeps λc ys ec=>?_,q,es,ep,hq,h2,h3,h4,h5⟩;rw[aH (dZ ec e (λz=>nomatch z))];exact ec
end
def agh(i:ao):Prop:=∀ov iv,G7 i false ov iv=operate [ov,iv] (zd ov iv)
def Xu{prog:aU}{w:aF}{A:bu}{E:ah->aj->Prop}{s:aj}{env:Env}{value slice:ao}{pos:Pos}{T id:String}{Q:ah->aj->Prop}
  (hl:typeLookup (.type T) "__getitem__"=bc (aa (.builtin id)))(hs:agh slice)
  (h:aG (aE prog w) A (aA value env) (λo s₁=>aG (aE prog w) A (aA slice env) (λi s₂=>s₂.TypeIs o T/\aG (aE prog w) A (zd o i) Q E s₂) E s₁) E s):
  aG (aE prog w) A (aA (.Subscript value slice pos) env) Q E s:=by
 refine Nj (lQ h (λo s₁ h₁=>lQ h₁ (λi s₂ h₂=>?_) λ_ _ x=>x) λ_ _ x=>x);obtain⟨hT,h₂⟩:=h₂;unfold Nk;refine aY ?_;rw[getitemInPython_of_ne hT.not_modules];refine aY (He hT hl ?_);have fin:aG (aE prog w) A (G7 slice false o i) (λr s₃=>aG (aE prog w) A (letTemporaryGo value o r>>=λ_=>bc r) Q E s₃) E s₂:=by
  rw[hs o i];exact wpAny_operating (lQ h₂ (λr s₃ h₃=>aY (wpAny_letTemporaryGo (cK h₃))) λ_ _ x=>x)
 first
  |exact cK (aY fin)
  |exact aY (cK (aY fin))
  |exact aY fin
def Jj{X:Cx}{pins:List (ae×Obj)}{σ:St}{H:Hp}{s:aj}{a:ae}{y:V}{o:Option V}(I:Inv X pins σ H s)(g:uw H a y o):s.TypeIs (.ref a) "dict":=by
 rcases g with⟨kvs,k,e,_,_⟩|⟨kvs,k,b,e,_,_,_⟩
 ·obtain⟨_,_,vs,_,dd⟩:=FI I.hok e
  exact dd.typeIs
 ·obtain⟨_,_,xs,_,dd⟩:=DA I.hok e
  exact dd.typeIs
def agi(td ty:TE):TE:=λσ H Q=>td σ H λx H1=>ty σ H1 λy H2=>∃a v,x=.ref a/\uw H2 a y (aa v)/\Q v H2
def Xv(ty td:TE):TE:=λσ H Q=>ty σ H λy H1=>td σ H1 λx H2=>∃a o,x=.ref a/\uw H2 a y o/\Q (.bl (!o.isSome)) H2
def agj(td ty tv:TE):TS:=λD σ H=>tv σ H λv H1=>td σ H1 λx H2=>ty σ H2 λy H3=>∃a H4,x=.ref a/\Ji H3 a y v H4/\D.nx σ H4
section
variable{X:Cx}{o i e value:ao}{pos pos' ajD:Pos}{td ty tv:TE}
def Hf(hu:X.A.units+1<gZ)(ho:PE X o td)(hi:PE X i ty)(hs:agh i):PE X (.Subscript o i pos) (agi td ty):=by
 intro pins s σ H Q I h;refine Xu PySem.F.slot_dict_getitem.lookup hs (fJ (ho pins s σ H _ I h) λu s1 ⟨x,H1,I1,rx,q1⟩=>fJ (hi pins s1 σ H1 _ I1 q1) λiv s2 ⟨y,H2,I2,ry,a,v,ex,g,q2⟩=>?_);subst ex;obtain rfl:u=dh a:=rx;exact⟨Jj I2 g,QH hu I2 g ry λw' s3 I3 vA=>⟨v,H2,I3,vA,q2⟩⟩
def AU(hu:X.A.units+1<gZ)(hi:PE X i ty)(ho:PE X o td):PC X .NotIn i o (Xv ty td):=by
 intro pins s σ H Q I h;refine fJ (hi pins s σ H _ I h) λiv s1 ⟨y,H1,I1,ry,q1⟩=>fJ (ho pins s1 σ H1 _ I1 q1) λu s2 ⟨x,H2,I2,rx,a,ov,ex,g,q2⟩=>?_;subst ex;obtain rfl:u=dh a:=rx;exact Xs hu I2 g ry λs3 I3=>⟨.bl (!ov.isSome),H2,I3,rfl,q2⟩
def CD(hu:X.A.units+1<gZ)(ho:PE X o td)(hi:PE X i ty)(hv:PE X value tv)(hs:gk value (aa (.Subscript o i pos')) pos.line X.env=bc false):
  PS X (.Assign [.Subscript o i pos'] value pos) (agj td ty tv):=by
 intro pins s σ H D I h;refine wpAny_Assign_Subscript (fJ (hv pins s σ H _ I h) λr s1 ⟨v,H1,I1,rv,q1⟩=>fJ (ho pins s1 σ H1 _ I1 q1) λu s2 ⟨x,H2,I2,rx,q2⟩=>fJ (hi pins s2 σ H2 _ I2 q2) λiv s3 ⟨y,H3,I3,ry,a,H4,ex,g,q3⟩=>?_) hs;subst ex;obtain rfl:u=dh a:=rx;exact QI hu I3 g ry rv λs4 I4=>⟨σ,H4,I4,q3⟩
end
def SH{P:aU}{w:aF}{H:Hp}(h:aD)(hb:nP<h.objs.size):gU P w H (h.push {cls:=.type "dict",data:=.dict #[]}) h.objs.size (.dT []):=
 ⟨iJ _,beq_eq_false_iff_ne.mpr (Ne.symm (dO hb)),[],.nil,_,#[],0,jg _ rfl,⟨rfl,rfl,rfl⟩,rfl,rfl,Xw⟩
def acJ:TE:=λ_ H Q=>∀p,H p=none->Q (.ref p) (upd H p (.dT []))
section
variable{X:Cx}{pos:Pos}
def zp:PE X (.Dict [] [] pos) acJ:=λpins s σ H Q I h=>
 wpAny_Dict_empty ⟨.ref s.heap.objs.size,_,I.laid (a:=s.heap.objs.size) (o:=.dT []) (t':=s.toks) (λ_ _ q=>cZ _ q) (bf _) (SH s.heap I.big),rfl,h _ (I.hok.fresh (bf _))⟩
end
end L2
namespace L2
open PySem PySem.Spec PyProof.Rows
variable{X:Cx}
structure M1(X:Cx)(o:ao)(m:Str)(apos:Pos)(e:ao)(cL:Pos):Prop where
 base:iK o m X.env (aA o X.env)=aA o X.env
 few:((bA cL (ar [e] X.env)).all (λx=> !x.1)&&(lW cL (lY [] X.env)).all (λx=>x.1.isSome)
  &&decide (([e]:List ao).length+([]:List fU).length+(if([]:List fU).isEmpty then 0 else 1)<30))=true
 line:(apos.endLine==cL.line)=true
 trees:bA cL (ar [e] X.env)=[(false,aA e X.env)]
def IsD(H:Hp)(a:ae):Prop:=(∃kvs,Rd H a (.dK kvs))\/∃kvs,Rd H a (.dT kvs)
def acK{X:Cx}{pins:List (ae×Obj)}{σ:St}{H:Hp}{s:aj}{a:ae}(I:Inv X pins σ H s)(d:IsD H a):
  s.TypeIs (.ref a) "dict"/\(∀b,dh a=.ref b->∃ob,s.heap.get? b=aa ob/\ob.dict=none)/\(a==nP)=false:=by
 rcases d with⟨kvs,e⟩|⟨kvs,e⟩
 ·obtain⟨_,hd,vs,_,dd⟩:=FI I.hok e
  refine⟨dd.typeIs,λb q=>?_,hd⟩;cases q;obtain⟨ob,_,_,h1,h2,_⟩:=dd;exact⟨ob,h1,h2.2.1⟩
 ·obtain⟨_,hd,xs,_,dd⟩:=DA I.hok e
  refine⟨dd.typeIs,λb q=>?_,hd⟩;cases q;obtain⟨ob,_,_,h1,h2,_⟩:=dd;exact⟨ob,h1,h2.2.1⟩
section
variable{X:Cx}{pins:List (ae×Obj)}{σ:St}{H:Hp}{s:aj}{a:ae}{y d:V}{u r:ah}{o:Option V}{A:bu}{E:ah->aj->Prop}
def acL{Q:ah->aj->Prop}(hu:A.units+1<gZ)(I:Inv X pins σ H s)(g:uw H a y o)(ry:RelV y u)(h:∀w' s',Inv X pins σ H s'->RelV (o.getD .non) w'->Q w' s'):
  aG (aE X.prog X.w) A (call (.builtin "dict.get") [.ref a,u]) Q E s:=by
 rcases g with⟨kvs,k,e,ey,l⟩|⟨kvs,k,b,e,ey,eb,l⟩
 ·subst ey
  obtain⟨z,hd,vs,rel,dd⟩:=FI I.hok e;refine NH NI dd.typeIs Xx (Xy _ _) (meets_dict_get (gY X.prog X.w) a (Jh ry) hd) ⟨_,dd.mapOf,h _ _ (I.tok _) ?_⟩;rw[l];exact(rel.val k).getD rfl
 ·subst ey
  cases (show u=dh b from ry);obtain⟨z,hd,xs,rel,dd⟩:=DA I.hok e;refine NH NI dd.typeIs Xx (Xy _ _) (meetsH_dict_get (xh (gY X.prog X.w)) a b hd) ⟨Hd hu,k,xs,Dy I.hok eb,dd,h _ _ (I.tok _) ?_⟩;rw[l];exact(rel.val k).getD rfl
end
def acM(td ty:TE):TE:=λσ H Q=>td σ H λx H1=>∃a,x=.ref a/\IsD H1 a/\ty σ H1 λy H2=>∃o,uw H2 a y o/\Q (o.getD .non) H2
section
variable{X:Cx}{o e f:ao}{apos cL:Pos}{td ty tx:TE}
def SJ(hu:X.A.units+1<gZ)(ho:PE X o td)(he:PE X e ty)(m:M1 X o "get" apos e cL):PE X (.Call (.Attribute o "get" apos) [e] [] cL) (acM td ty):=by
 intro pins s σ H Q I h;refine wpAny_Call_method m.base m.few m.line PySem.F.plainAttrs_dict NI PySem.F.type_dict_get (fJ (ho pins s σ H _ I h) λu s1 ⟨x,H1,I1,rx,a,ex,d,q1⟩=>?_);subst ex;obtain rfl:u=dh a:=rx;obtain⟨t1,t2,_⟩:=acK I1 d;refine⟨t1,t2,?_⟩;rw[m.trees];refine Nu rfl (Xi (xt (fJ (he pins s1 σ H1 _ I1 q1) λiv s2 ⟨y,H2,I2,ry,ov,g,q2⟩=>xr ?_)));exact acL hu I2 g ry λw' s3 I3 vA=>⟨_,H2,I3,vA,q2⟩
end
end L2
namespace DL
open PySem PySem.Spec PyProof.Rows L2
abbrev St:=L2.St
inductive D where
 |non|bl (b:Bool)|int (i:Int)|str (x:Str)|lst (xs:List D)|tup (xs:List D)|exc (n:Str)|fn (n:Str)
 deriving Inhabited
inductive R (α:Type) where
 |ok (a:α)|err (c:Str)|bad
def R.bind {α β:Type}(r:R α)(f:α->R β):R β:=match r with
 |.ok a=>f a
 |.err c=>.err c
 |.bad=>.bad
def R.of {α:Type}:Option α->R α
 |some a=>.ok a
 |none=>.bad
def R.cB {α β:Type}(a:α)(f:α->R β):(R.ok a).bind f=f a:=rfl
def R.rF {α:Type}(a:α):R.of (aa a)=.ok a:=rfl
def Good{α:Type}(E:Str->Hp->Prop)(H₀:Hp)(r:R α)(post:α->Prop):Prop:=match r with
 |.ok a=>post a
 |.err c=>∀H',bK H₀ H'->E c H'
 |.bad=>False
theorem Good.bind {α β:Type}{E:Str->Hp->Prop}{H₀:Hp}{r:R α}{k:α->R β}{post:β->Prop}(h:Good E H₀ (r.bind k) post):Good E H₀ r (λa=>Good E H₀ (k a) post):=by
 cases r with
 |ok a=>exact h
 |err c=>exact h
 |bad=>exact h
def Good.mono {α:Type}{E:Str->Hp->Prop}{H₀:Hp}{r:R α}{p q:α->Prop}(h:Good E H₀ r p)(w:∀a,r=.ok a->p a->q a):Good E H₀ r q:=by
 cases r with
 |ok a=>exact w a rfl h
 |err c=>exact h
 |bad=>exact h
def Good.NJ {α β:Type}{E:Str->Hp->Prop}{H₀:Hp}{r:R α}{k:α->R β}{p:α->Prop}{q:β->Prop}(h:Good E H₀ r p)(w:∀a,r=.ok a->p a->Good E H₀ (k a) q):Good E H₀ (r.bind k) q:=by
 cases r with
 |ok a=>exact w a rfl h
 |err c=>exact h
 |bad=>exact h
theorem Good.of {α:Type}{E:Str->Hp->Prop}{H₀:Hp}{o:Option α}{p:α->Prop}(h:Good E H₀ (R.of o) p):∃a,o=aa a/\p a:=by
 cases o with
 |none=>exact jL h
 |some a=>exact⟨a,rfl,h⟩
def KL(K:ak)(a:ae)(xs:List V):Prop:=∃(o:Obj)(its:Array ah)(n:Nat),K.lookup a=aa o/\o.cls=.type "list"/\o.dict=none/\o.data=.seq its n/\its.size<=aI/\Vals xs its.toList
def KT(K:ak)(a:ae)(xs:List V):Prop:=∃(o:Obj)(its:Array ah)(n:Nat),K.lookup a=aa o/\o.cls=.type "tuple"/\o.data=.seq its n/\its.size<=aI/\Vals xs its.toList
def Ca(K:ak)(P:ae->Prop)(H:Hp)(a:ae)(vs:List V):Prop:=(P a/\Rd H a (.lst vs))\/KL K a vs
def QJ(K:ak)(P:ae->Prop)(H:Hp)(a:ae)(vs:List V):Prop:=(P a/\Rd H a (.tup vs))\/KT K a vs
def Ca.sq {K:ak}{P:ae->Prop}{H:Hp}{a:ae}{vs:List V}(h:Ca K P H a vs):gb K H a vs:=h.elim (λz=>.inl z.2) .inr
def QJ.sq {K:ak}{P:ae->Prop}{H:Hp}{a:ae}{vs:List V}(h:QJ K P H a vs):EU K H a vs:=h.elim (λz=>.inl z.2) .inr
def Ca.any {K:ak}{H:Hp}{a:ae}{vs:List V}(h:gb K H a vs):Ca K (λ_=>True) H a vs:=h.elim (λz=>.inl ⟨trivial,z⟩) .inr
def ajT(a C:ae):aD->Prop:=λh=>∃vs,h.get? a=aa {cls:=.ref C,data:=.fields vs}
noncomputable def Is(K:ak)(P:ae->Prop)(H:Hp):D->V->Prop
 |.non,v=>v=.non
 |.bl b,v=>v=.bl b
 |.int i,v=>v=.int i
 |.str x,v=>v=.str x
 |.lst ds,v=>∃a vs,v=.ref a/\Ca K P H a vs/\IsL ds vs
 |.tup ds,v=>∃a vs,v=.ref a/\QJ K P H a vs/\IsL ds vs
 |.exc n,v=>∃a C,v=.ref a/\P a/\ux K eg n=aa (aa (.ref C))/\H a=aa (.ext (ajT a C))
 |.fn n,v=>∃a,v=.ref a/\ux K eg n=aa (aa (.ref a))
where
 IsL:List D->List V->Prop
 |[],vs=>vs=[]
 |d::ds,vs=>∃v r,vs=v::r/\Is K P H d v/\IsL ds r
abbrev IsL(K:ak)(P:ae->Prop)(H:Hp):List D->List V->Prop:=Is.IsL K P H
section
variable{K:ak}{P P':ae->Prop}{H H':Hp}
structure Ext(P P':ae->Prop)(H H':Hp):Prop where
 p:∀a o,P a->H a=aa o->P' a
 h:∀a o,P a->H a=aa o->H' a=aa o
def Ext.rd (e:Ext P P' H H'){a:ae}{u:HO}(p:P a)(r:Rd H a u):P' a/\Rd H' a u:=by
 rcases r with r|⟨o,r⟩
 ·exact⟨e.p a _ p r,.inl (e.h a _ p r)⟩
 ·exact⟨e.p a _ p r,.inr ⟨o,e.h a _ p r⟩⟩
def Ca.ext (e:Ext P P' H H'){a:ae}{vs:List V}(h:Ca K P H a vs):Ca K P' H' a vs:=h.elim (λz=>.inl (e.rd z.1 z.2)) .inr
def QJ.ext (e:Ext P P' H H'){a:ae}{vs:List V}(h:QJ K P H a vs):QJ K P' H' a vs:=h.elim (λz=>.inl (e.rd z.1 z.2)) .inr
mutual
theorem Is.ext (e:Ext P P' H H'):∀(d:D)(v:V),Is K P H d v->Is K P' H' d v
 |.non,_,h=>h
 |.bl _,_,h=>h
 |.int _,_,h=>h
 |.str _,_,h=>h
 |.lst ds,_,⟨a,vs,e1,l,q⟩=>⟨a,vs,e1,l.ext e,IsL.ext e ds vs q⟩
 |.tup ds,_,⟨a,vs,e1,l,q⟩=>⟨a,vs,e1,l.ext e,IsL.ext e ds vs q⟩
 |.exc n,_,⟨a,C,e1,p,c,q⟩=>⟨a,C,e1,e.p a _ p q,c,e.h a _ p q⟩
 |.fn _,_,h=>h
theorem IsL.ext (e:Ext P P' H H'):∀(ds:List D)(vs:List V),IsL K P H ds vs->IsL K P' H' ds vs
 |[],_,h=>h
 |d::ds,_,⟨v,r,e1,p,q⟩=>⟨v,r,e1,Is.ext e d v p,IsL.ext e ds r q⟩
end
def Ext.same (s:bK H H'):Ext P P H H':=⟨λ_ _ p _=>p,λa o _ h=>s a o h⟩
theorem Is.same (s:bK H H'){d:D}{v:V}(h:Is K P H d v):Is K P H' d v:=Is.ext (.same s) d v h
theorem IsL.same (s:bK H H'){d:List D}{v:List V}(h:IsL K P H d v):IsL K P H' d v:=IsL.ext (.same s) d v h
def Is.weak {d:D}{v:V}(h:Is K P H d v):Is K (λ_=>True) H d v:=Is.ext ⟨λ_ _ _ _=>trivial,λ_ _ _ q=>q⟩ d v h
def IsL.weak {d:List D}{v:List V}(h:IsL K P H d v):IsL K (λ_=>True) H d v:=IsL.ext ⟨λ_ _ _ _=>trivial,λ_ _ _ q=>q⟩ d v h
def toV:D->Option V
 |.non=>aa .non
 |.bl b=>aa (.bl b)
 |.int i=>aa (.int i)
 |.str x=>aa (.str x)
 |_=>none
def Is.sc {d:D}{z:V}(h:toV d=aa z):Is K P H d z:=by
 cases d with
 |non=>cases h;rfl
 |bl b=>cases h;rfl
 |int b=>cases h;rfl
 |str b=>cases h;rfl
 |lst b=>cases h
 |exc _=>cases h
 |fn _=>cases h
 |tup b=>cases h
def Is.aaw {d:D}{z v:V}(h:toV d=aa z)(i:Is K P H d v):v=z:=by
 cases d with
 |non=>cases h;exact i
 |bl b=>cases h;exact i
 |int b=>cases h;exact i
 |str b=>cases h;exact i
 |lst b=>cases h
 |exc _=>cases h
 |fn _=>cases h
 |tup b=>cases h
theorem IsL.length:∀{ds:List D}{vs:List V},IsL K P H ds vs->vs.length=ds.length
 |[],_,h=>by subst h;rfl
 |d::ds,_,⟨v,r,e,_,q⟩=>by subst e;simp[IsL.length q]
theorem IsL.get:∀{ds:List D}{vs:List V}{i:Nat}{d:D},IsL K P H ds vs->ds[i]?=aa d->∃v,vs[i]?=aa v/\Is K P H d v
 |[],_,_,_,_,e=>by simp at e
 |d::ds,_,0,_,⟨v,r,e,p,q⟩,e2=>by subst e;simp at e2;subst e2;exact⟨v,rfl,p⟩
 |d::ds,_,i+1,_,⟨v,r,e,p,q⟩,e2=>by
  subst e;obtain⟨v',h1,h2⟩:=IsL.get (i:=i) q (by simpa using e2);exact⟨v',by simpa using h1,h2⟩
theorem IsL.app:∀{ds es:List D}{vs ws:List V},IsL K P H ds vs->IsL K P H es ws->IsL K P H (ds++es) (vs++ws)
 |[],_,_,_,h,q=>by
  have h':_=[]:=h;subst h';exact q
 |d::ds,_,_,_,⟨v,r,e,p,q⟩,q2=>by subst e;exact⟨v,_,rfl,p,IsL.app q q2⟩
def IsL.one {d:D}{v:V}(h:Is K P H d v):IsL K P H [d] [v]:=⟨v,[],rfl,h,rfl⟩
def IsL.cons {d:D}{v:V}{ds:List D}{vs:List V}(h:Is K P H d v)(q:IsL K P H ds vs):IsL K P H (d::ds) (v::vs):=⟨v,vs,rfl,h,q⟩
theorem IsL.drop:∀{ds:List D}{vs:List V}(n:Nat),IsL K P H ds vs->IsL K P H (ds.drop n) (vs.drop n)
 |_,_,0,h=>h
 |[],_,n+1,h=>by
  have h':_=[]:=h;subst h';exact rfl
 |d::ds,_,n+1,⟨v,r,e,p,q⟩=>by subst e;exact IsL.drop n q
theorem IsL.take:∀{ds:List D}{vs:List V}(n:Nat),IsL K P H ds vs->IsL K P H (ds.take n) (vs.take n)
 |_,_,0,_=>rfl
 |[],_,n+1,h=>by
  have h':_=[]:=h;subst h';exact rfl
 |d::ds,_,n+1,⟨v,r,e,p,q⟩=>by subst e;exact⟨v,_,rfl,p,IsL.take n q⟩
theorem IsL.set:∀{ds:List D}{vs:List V}{d:D}{v:V}(i:Nat),IsL K P H ds vs->Is K P H d v->IsL K P H (ds.set i d) (vs.set i v)
 |[],_,_,_,_,h,_=>by
  have h':_=[]:=h;subst h';exact rfl
 |d::ds,_,_,_,0,⟨v,r,e,p,q⟩,h=>by subst e;exact⟨_,_,rfl,h,q⟩
 |d::ds,_,_,_,i+1,⟨v,r,e,p,q⟩,h=>by subst e;exact⟨v,_,rfl,p,IsL.set i q h⟩
end
abbrev Xz:=Int×Int×List Int
inductive Ct where
 |ls (nss:List (List Int))|tp (nss:List (List Int))|dk (ks:List Int)|tq (n:Int) (ns:List Int)|tr (ts:List Xz)|tv (ds:List D) (ns:List Int)|tf (h:Int) (nss:List (List Int))
instance:Coe (List (List Int)) Ct:=⟨Ct.ls⟩
inductive Sl where
 |no|val (d:D)|own (xs:List D)|raw (v:V)|deep (c:Ct)
abbrev DE:=List Sl
structure Gh where
 P₀:ae->Prop
 H₀:Hp
def Gh.P (g:Gh)(os:List ae)(a:ae):Prop:=(g.P₀ a\/g.H₀ a=none)/\a∉os
structure BO(hd:List V->HO)(H:Hp)(os:List ae)(a:ae)(as:List ae)(nss:List (List Int)):Prop where
 ma:a∈os
 ha:H a=aa (hd (as.map V.ref))
 len:as.length=nss.length
 nd:(a::as).Nodup
 it:∀(k:Nat)(b:ae)(ns:List Int),as[k]?=aa b->nss[k]?=aa ns->b∈os/\H b=aa (.lst (ns.map V.int))
def BO.mem {hd:List V->HO}{H:Hp}{os:List ae}{a:ae}{as:List ae}{nss:List (List Int)}(d:BO hd H os a as nss):∀x∈a::as,x∈os/\∃o,H x=aa o:=λx hx=>by
 rcases aX.mp hx with rfl|hx
 ·exact⟨d.ma,_,d.ha⟩
 ·obtain⟨k,hk,rfl⟩:=xF hx
  have XA:k<nss.length:=by rw[<-d.len];exact hk
  have q:=d.it k _ _ (bj hk) (bj XA);exact⟨q.1,_,q.2⟩
def BO.to {hd:List V->HO}{H H':Hp}{os os':List ae}{a:ae}{as:List ae}{nss:List (List Int)}(d:BO hd H os a as nss)(h:∀x∈a::as,x∈os'/\H' x=H x):BO hd H' os' a as nss:=
 ⟨(h a (by simp)).1,by rw[(h a (by simp)).2];exact d.ha,d.len,d.nd,λk b ns e1 e2=>by
  have q:=d.it k b ns e1 e2;have hb:=h b (bz _ (dJ e1));exact⟨hb.1,by rw[hb.2];exact q.2⟩⟩
def TrI(H:Hp)(as:List ae)(t:Xz)(v:V):Prop:=∃b c,v=.ref b/\b∈as/\c∈as/\H b=aa (.tup [.int t.1,.int t.2.1,.ref c])/\H c=aa (.lst (t.2.2.map V.int))
structure DpR(H:Hp)(os:List ae)(a:ae)(as:List ae)(ts:List Xz):Prop where
 ma:a∈os
 na:a∉as
 mem:∀x∈as,x∈os/\∃o,H x=aa o
 at_:∃vs,H a=aa (.lst vs)/\vs.length=ts.length/\∀(k:Nat)(t:Xz)(v:V),ts[k]?=aa t->vs[k]?=aa v->TrI H as t v
def TrI.to {H H':Hp}{as as':List ae}{t:Xz}{v:V}(d:TrI H as t v)(h:∀x∈as,x∈as'/\H' x=H x):TrI H' as' t v:=by
 obtain⟨b,c,e,h1,h2,h3,h4⟩:=d;exact⟨b,c,e,(h b h1).1,(h c h2).1,by rw[(h b h1).2];exact h3,by rw[(h c h2).2];exact h4⟩
theorem DpR.to {H H':Hp}{os os':List ae}{a:ae}{as:List ae}{ts:List Xz}(d:DpR H os a as ts)(h:∀x∈a::as,x∈os'/\H' x=H x):DpR H' os' a as ts:=by
 obtain⟨vs,h1,h2,h3⟩:=d.at_
 refine⟨(h a (by simp)).1,d.na,λx hx=>?_,vs,by rw[(h a (by simp)).2];exact h1,h2,λk t v e1 e2=>(h3 k t v e1 e2).to λx hx=>⟨hx,(h x (bz _ hx)).2⟩⟩;obtain⟨q1,o,q2⟩:=d.mem x hx;have q:=h x (bz _ hx);exact⟨q.1,o,by rw[q.2];exact q2⟩
def kvT(ks:List Int):List (Key×V):=ks.map λk=>(gX k,V.bl true)
abbrev Dp(K:ak)(H:Hp)(os:List ae)(a:ae)(as:List ae)(c:Ct):Prop:=match c with
 |.ls nss=>BO HO.lst H os a as nss
 |.tp nss=>BO HO.tup H os a as nss
 |.dk ks=>a∈os/\as=[]/\H a=aa (.dK (kvT ks))
 |.tq n ns=>∃b,as=[b]/\a∈os/\b∈os/\a≠b/\H a=aa (.tup [.int n,.ref b])/\H b=aa (.lst (ns.map V.int))
 |.tr ts=>DpR H os a as ts
 |.tf h nss=>∃m bs,as=m::bs/\a∈os/\a∉as/\H a=aa (.tup [.int h,.ref m])/\BO HO.lst H os m bs nss
 |.tv ds ns=>∃b m ws,b∈as/\m∈as/\m≠b/\a∉as/\(∀x∈a::as,x∈os/\∃o,H x=aa o)/\H a=aa (.tup [.ref m,.ref b])/\H b=aa (.lst (ns.map V.int))/\H m=aa (.lst ws)/\IsL K (λc=>c∈as/\c≠b/\c≠m) H ds ws
theorem Dp.mem {K:ak}{H:Hp}{os:List ae}{a:ae}{as:List ae}{c:Ct}(d:Dp K H os a as c):∀x∈a::as,x∈os/\∃o,H x=aa o:=by
 cases c with
 |ls nss=>exact BO.mem d
 |tp nss=>exact BO.mem d
 |dk ks=>
  obtain⟨h1,rfl,h2⟩:=d;intro x hx;rcases aX.mp hx with rfl|hx
  ·exact⟨h1,_,h2⟩
  ·cases hx
 |tq n ns=>
  obtain⟨b,rfl,h1,h2,h3,h4,h5⟩:=d;intro x hx;rcases aX.mp hx with rfl|hx
  ·exact⟨h1,_,h4⟩
  ·rcases aX.mp hx with rfl|hx
   ·exact⟨h2,_,h5⟩
   ·cases hx
 |tr ts=>
  have d':DpR H os a as ts:=d;intro x hx;rcases aX.mp hx with rfl|hx
  ·obtain⟨vs,h1,_⟩:=d'.at_
   exact⟨d'.ma,_,h1⟩
  ·exact d'.mem x hx
 |tv ds ns=>
  obtain⟨b,m,ws,_,_,_,_,h,_⟩:=d;exact h
 |tf h nss=>
  obtain⟨m,bs,rfl,h1,_,h3,h4⟩:=d;intro x hx;rcases aX.mp hx with rfl|hx
  ·exact⟨h1,_,h3⟩
  ·exact BO.mem h4 x hx
theorem Dp.to {K:ak}{H H':Hp}{os os':List ae}{a:ae}{as:List ae}{c:Ct}(d:Dp K H os a as c)(h:∀x∈a::as,x∈os'/\H' x=H x):Dp K H' os' a as c:=by
 cases c with
 |ls nss=>exact BO.to d h
 |tp nss=>exact BO.to d h
 |dk ks=>
  obtain⟨h1,rfl,h2⟩:=d;exact⟨(h a (by simp)).1,rfl,by rw[(h a (by simp)).2];exact h2⟩
 |tq n ns=>
  obtain⟨b,rfl,h1,h2,h3,h4,h5⟩:=d;exact⟨b,rfl,(h a (by simp)).1,(h b (by simp)).1,h3,by rw[(h a (by simp)).2];exact h4,by rw[(h b (by simp)).2];exact h5⟩
 |tr ts=>exact DpR.to d h
 |tf k nss=>
  obtain⟨m,bs,rfl,h1,h2,h3,h4⟩:=d;exact⟨m,bs,rfl,(h a (by simp)).1,h2,by rw[(h a (by simp)).2];exact h3,h4.to λx hx=>h x (bz _ hx)⟩
 |tv ds ns=>
  obtain⟨b,m,ws,h1,h2,h3,h4,h5,h6,h7,h8,h9⟩:=d;have hb:=h b (bz _ h1);have hm:=h m (bz _ h2);refine⟨b,m,ws,h1,h2,h3,h4,λx hx=>?_,by rw[(h a (by simp)).2];exact h6,by rw[hb.2];exact h7,by rw[hm.2];exact h8,IsL.ext ⟨λc o p _=>p,λc o p q=>by rw[(h c (bz _ p.1)).2];exact q⟩ _ _ h9⟩;obtain⟨_,o,q⟩:=h5 x hx;exact⟨(h x hx).1,o,by rw[(h x hx).2];exact q⟩
theorem Dp.ma {K:ak}{H:Hp}{os:List ae}{a:ae}{as:List ae}{nss:List (List Int)}(d:Dp K H os a as (.ls nss)):a∈os:=BO.ma d
theorem Dp.ha {K:ak}{H:Hp}{os:List ae}{a:ae}{as:List ae}{nss:List (List Int)}(d:Dp K H os a as (.ls nss)):H a=aa (.lst (as.map V.ref)):=BO.ha d
theorem Dp.len {K:ak}{H:Hp}{os:List ae}{a:ae}{as:List ae}{nss:List (List Int)}(d:Dp K H os a as (.ls nss)):as.length=nss.length:=BO.len d
theorem Dp.nd {K:ak}{H:Hp}{os:List ae}{a:ae}{as:List ae}{nss:List (List Int)}(d:Dp K H os a as (.ls nss)):(a::as).Nodup:=BO.nd d
theorem Dp.it {K:ak}{H:Hp}{os:List ae}{a:ae}{as:List ae}{nss:List (List Int)}(d:Dp K H os a as (.ls nss)):∀(k:Nat)(b:ae)(ns:List Int),as[k]?=aa b->nss[k]?=aa ns->b∈os/\H b=aa (.lst (ns.map V.int)):=BO.it d
structure Dps(K:ak)(A:Nat->List ae)(env:DE)(σ:St)(H:Hp)(os:List ae):Prop where
 dp:∀(i:Nat)(nss:Ct),env[i]?=aa (.deep nss)->∃a as,A i=a::as/\σ[i]?=aa (aa (.ref a))/\Dp K H os a as nss
 ow:∀(i:Nat)(nss:Ct)(j:Nat)(xs:List D)(b:ae),env[i]?=aa (.deep nss)->env[j]?=aa (.own xs)->σ[j]?=aa (aa (.ref b))->b∉A i
 dj:∀(i j:Nat)(nss qw:Ct),i≠j->env[i]?=aa (.deep nss)->env[j]?=aa (.deep qw)->∀x∈A i,x∉A j
theorem Dps.mem {K:ak}{A:Nat->List ae}{env:DE}{σ:St}{H:Hp}{os:List ae}(d:Dps K A env σ H os){i:Nat}{nss:Ct}(e:env[i]?=aa (.deep nss)):∀x∈A i,x∈os/\∃o,H x=aa o:=λx hx=>by
 obtain⟨a,as,h1,_,h3⟩:=d.dp i nss e;rw[h1]at hx;exact h3.mem x hx
theorem Dps.to {K:ak}{A:Nat->List ae}{env uy:DE}{σ σ':St}{H H':Hp}{os os':List ae}(d:Dps K A env σ H os)
  (hd:∀(j:Nat)(nss:Ct),uy[j]?=aa (.deep nss)->env[j]?=aa (.deep nss)/\σ'[j]?=σ[j]?)
  (ho:∀(j:Nat)(xs:List D)(b:ae),uy[j]?=aa (.own xs)->σ'[j]?=aa (aa (.ref b))->(∃ys,env[j]?=aa (.own ys)/\σ[j]?=aa (aa (.ref b)))\/b∉os)
  (hH:∀(i:Nat)(nss:Ct),env[i]?=aa (.deep nss)->∀x∈A i,x∈os'/\H' x=H x):Dps K A uy σ' H' os' where
 dp i nss e:=by
  obtain⟨e',q⟩:=hd i nss e;obtain⟨a,as,h1,h2,h3⟩:=d.dp i nss e';exact⟨a,as,h1,by rw[q];exact h2,h3.to λx hx=>hH i nss e' x (by rw[h1];exact hx)⟩
 ow i nss j xs b e1 e2 e3:=by
  obtain⟨XC,_⟩:=hd i nss e1;rcases ho j xs b e2 e3 with⟨ys,q1,q2⟩|q
  ·exact d.ow i nss j ys b XC q1 q2
  ·exact λz=>q (d.mem XC b z).1
 dj i j nss qw hij e1 e2:=d.dj i j nss qw hij (hd i nss e1).1 (hd j qw e2).1
def Ly(K:ak)(env:DE)(σ:St)(H:Hp)(os:List ae):Prop:=∃A,Dps K A env σ H os
def Ly.none {K:ak}{env:DE}{σ:St}{H:Hp}{os:List ae}(h:∀(i:Nat)(nss:Ct),env[i]?≠aa (.deep nss)):Ly K env σ H os:=
 ⟨λ_=>[],λi nss e=>(h i nss e).elim,λi nss _ _ _ e=>(h i nss e).elim,λi _ nss _ _ e=>(h i nss e).elim⟩
structure Rel(K:ak)(g:Gh)(env:DE)(σ:St)(H:Hp)(os:List ae):Prop where
 len:σ.length=env.length
 ext:bK g.H₀ H
 val:∀(i:Nat)(d:D),env[i]?=aa (.val d)->∃v,σ[i]?=aa (aa v)/\Is K (g.P os) H d v
 own:∀(i:Nat)(xs:List D),env[i]?=aa (.own xs)->∃a vs,σ[i]?=aa (aa (.ref a))/\a∈os/\H a=aa (.lst vs)/\IsL K (g.P os) H xs vs
 inj:∀(i j:Nat)(xs ys:List D)(a:ae),env[i]?=aa (.own xs)->env[j]?=aa (.own ys)->σ[i]?=aa (aa (.ref a))->σ[j]?=aa (aa (.ref a))->i=j
 new:∀a∈os,g.H₀ a=none/\∃o,H a=aa o
 raw:∀(i:Nat)(v:V),env[i]?=aa (.raw v)->σ[i]?=aa (aa v)
 Jk:Ly K env σ H os
section
variable{K:ak}{g:Gh}{env:DE}{σ:St}{H H':Hp}{os:List ae}
theorem Rel.same (r:Rel K g env σ H os)(s:bK H H'):Rel K g env σ H' os:=
 ⟨r.len,r.ext.trans s,λi d e=>let⟨v,h1,h2⟩:=r.val i d e;⟨v,h1,h2.same s⟩,
  λi xs e=>let⟨a,vs,h1,h2,h3,h4⟩:=r.own i xs e;⟨a,vs,h1,h2,s a _ h3,h4.same s⟩,r.inj,λa ha=>⟨(r.new a ha).1,let⟨o,h⟩:=(r.new a ha).2;⟨o,s a o h⟩⟩,r.raw,by
  obtain⟨A,d⟩:=r.Jk;exact⟨A,d.to (λj nss e=>⟨e,rfl⟩) (λj xs b e q=>.inl ⟨xs,e,q⟩) λi nss e x hx=>by
   obtain⟨q1,o,q2⟩:=d.mem e x hx;exact⟨q1,by rw[s x o q2,q2]⟩⟩⟩
def Rel.fresh (r:Rel K g env σ H os){a:ae}(h:H a=none):g.P os a:=by
 refine⟨.inr (r.ext.free h),λhm=>?_⟩;obtain⟨o,e⟩:=(r.new a hm).2;rw[h]at e;cases e
def bR{p:ae}(h:H p=none)(o:HO):bK H (upd H p o):=λb u q=>by rw[aH (bg q h)];exact q
theorem Rel.set (r:Rel K g env σ H os)(i:Nat){d:D}{v:V}(h:Is K (g.P os) H d v):Rel K g (env.set i (.val d)) (σ.set i (aa v)) H os:=by
 refine⟨by simp[r.len],r.ext,λj d' e=>?_,λj xs e=>?_,λj k xs ys a e1 e2 e3 e4=>?_,r.new,λj w e=>?_,?_⟩
 ·by_cases hj:i=j
  ·subst hj
   have hi:i<env.length:=by
    have:=(bG.mp e).1;simpa using this
   rw[iH hi]at e;cases e;exact⟨v,by rw[iH (by rw[r.len];exact hi)],h⟩
  ·rw[aO hj]at e
   obtain⟨v',h1,h2⟩:=r.val j d' e;exact⟨v',by rw[aO hj];exact h1,h2⟩
 ·by_cases hj:i=j
  ·subst hj
   have hi:i<env.length:=by
    have:=(bG.mp e).1;simpa using this
   rw[iH hi]at e;cases e
  ·rw[aO hj]at e
   obtain⟨a,vs,h1,h2⟩:=r.own j xs e;exact⟨a,vs,by rw[aO hj];exact h1,h2⟩
 ·have f:∀(j:Nat)(xs:List D),(env.set i (Sl.val d))[j]?=aa (.own xs)->i≠j:=λj xs e hj=>by
   subst hj;have hi:i<env.length:=by
    have:=(bG.mp e).1;simpa using this
   rw[iH hi]at e;cases e
  have hj:=f j xs e1;have hk:=f k ys e2;rw[aO hj]at e1 e3;rw[aO hk]at e2 e4;exact r.inj j k xs ys a e1 e2 e3 e4
 ·by_cases hj:i=j
  ·subst hj
   have hi:i<env.length:=by
    have:=(bG.mp e).1;simpa using this
   rw[iH hi]at e;cases e
  ·rw[aO hj]at e⊢
   exact r.raw j w e
 ·obtain⟨A,dd⟩:=r.Jk
  have f:∀(j:Nat)(sl:Sl),(env.set i (Sl.val d))[j]?=aa sl->(∀d',sl≠.val d')->i≠j/\env[j]?=aa sl:=λj sl q hn=>by
   by_cases hj:i=j
   ·subst hj
    have hi:i<env.length:=by
     have:=(bG.mp q).1;simpa using this
    rw[iH hi]at q;exact(hn d (cA.inj q).symm).elim
   ·rw[aO hj]at q
    exact⟨hj,q⟩
  refine⟨A,dd.to (λj nss q=>?_) (λj xs b q z=>?_) λj nss q x hx=>⟨(dd.mem q x hx).1,rfl⟩⟩
  ·obtain⟨hj,q⟩:=f j _ q (λ_ z=>nomatch z)
   exact⟨q,by rw[aO hj]⟩
  ·obtain⟨hj,q⟩:=f j _ q (λ_ z=>nomatch z)
   rw[aO hj]at z;exact .inl ⟨xs,q,z⟩
def Rel.apart (r:Rel K g env σ H os){a:ae}(s:bK H H')(hn:H a=none):Ext (g.P os) (g.P (a::os)) H H':=
 ⟨λb o p e=>⟨p.1,λhm=>by
  rcases aX.mp hm with z|z
  ·rw[z,hn]at e;cases e
  ·exact p.2 z⟩,λb o _ e=>s b o e⟩
def bW{α:Type}{l:List α}{i:Nat}{x y:α}(e:(l.set i x)[i]?=aa y):y=x:=by
 have hi:i<l.length:=by
  have:=(bG.mp e).1;simpa using this
 rw[iH hi]at e;cases e;rfl
def AV{α:Type}{l:List α}{i j:Nat}{x y:α}(e:(l.set i x)[j]?=aa y):j<l.length:=by
 have:=(bG.mp e).1;simpa using this
def Rel.agl (r:Rel K g env σ H os)(s:bK H H')(i:Nat){xs:List D}{vs:List V}{a:ae}(hn:H a=none)(hH:H' a=aa (.lst vs))(h:IsL K (g.P (a::os)) H' xs vs):
  Rel K g (env.set i (.own xs)) (σ.set i (aa (.ref a))) H' (a::os):=by
 have ap:=r.apart s hn;have old:∀(j:Nat)(ys:List D),env[j]?=aa (.own ys)->σ[j]?=aa (aa (.ref a))->False:=λj ys e q=>by
  obtain⟨b,ws,h1,h2,h3,_⟩:=r.own j ys e;rw[q]at h1;cases h1;rw[hn]at h3;cases h3
 refine⟨by simp[r.len],r.ext.trans s,λj d' e=>?_,λj ys e=>?_,λj k ys zs b e1 e2 e3 e4=>?_,λb hb=>?_,λj w e=>?_,?_⟩
 ·by_cases hj:i=j
  ·subst hj
   exact nomatch bW e
  ·rw[aO hj]at e
   obtain⟨v,h1,h2⟩:=r.val j d' e;exact⟨v,by rw[aO hj];exact h1,Is.ext ap _ _ h2⟩
 ·by_cases hj:i=j
  ·subst hj
   have hi:=AV e;have e':=bW e;cases e';exact⟨a,vs,by rw[iH (by rw[r.len];exact hi)],by simp,hH,h⟩
  ·rw[aO hj]at e
   obtain⟨b,ws,h1,h2,h3,h4⟩:=r.own j ys e;exact⟨b,ws,by rw[aO hj];exact h1,bz _ h2,s _ _ h3,IsL.ext ap _ _ h4⟩
 ·by_cases hj:i=j
  ·subst hj
   by_cases hk:i=k
   ·exact hk
   ·have e3':=bW e3
    cases e3';rw[aO hk]at e2 e4;exact(old k zs e2 e4).elim
  ·by_cases hk:i=k
   ·subst hk
    have e4':=bW e4;cases e4';rw[aO hj]at e1 e3;exact(old j ys e1 e3).elim
   ·rw[aO hj]at e1 e3
    rw[aO hk]at e2 e4;exact r.inj j k ys zs b e1 e2 e3 e4
 ·rcases aX.mp hb with rfl|hb
  ·exact⟨r.ext.free hn,_,hH⟩
  ·obtain⟨h1,o,h2⟩:=r.new b hb
   exact⟨h1,o,s _ _ h2⟩
 ·by_cases hj:i=j
  ·subst hj
   exact nomatch bW e
  ·rw[aO hj]at e⊢
   exact r.raw j w e
 ·obtain⟨A,dd⟩:=r.Jk
  have f:∀(j:Nat)(sl:Sl),(env.set i (Sl.own xs))[j]?=aa sl->i≠j->env[j]?=aa sl:=λj sl q hj=>by
   rwa [aO hj]at q
  refine⟨A,dd.to (λj nss q=>?_) (λj ys b q z=>?_) λj nss q x hx=>?_⟩
  ·by_cases hj:i=j
   ·subst hj
    exact nomatch bW q
   ·exact⟨f j _ q hj,by rw[aO hj]⟩
  ·by_cases hj:i=j
   ·subst hj
    have z':=bW z;cases z';exact .inr λhm=>by
     obtain⟨o,ho⟩:=(r.new a hm).2;rw[hn]at ho;cases ho
   ·rw[aO hj]at z
    exact .inl ⟨ys,f j _ q hj,z⟩
  ·obtain⟨q1,o,q2⟩:=dd.mem q x hx
   exact⟨bz _ q1,by rw[s x o q2,q2]⟩
def Rel.mut (r:Rel K g env σ H os){i:Nat}{xs xs':List D}{NK:List V}{a:ae}(e:env[i]?=aa (.own xs))(hσ:σ[i]?=aa (aa (.ref a)))(ha:a∈os)(h:IsL K (g.P os) H xs' NK):
  Rel K g (env.set i (.own xs')) σ (upd H a (.lst NK)) os:=by
 have ex:Ext (g.P os) (g.P os) H (upd H a (.lst NK)):=⟨λ_ _ p _=>p,λb o p q=>by rw[aH (λz=>p.2 (by rw[z];exact ha))];exact q⟩
 refine⟨by simp[r.len],λb o q=>?_,λj d' e'=>?_,λj ys e'=>?_,λj k ys zs b e1 e2 e3 e4=>?_,λb hb=>?_,λj w e'=>?_,?_⟩
 ·rw[aH (λz=>by rw[z,(r.new a ha).1]at q;cases q)]
  exact r.ext b o q
 ·by_cases hj:i=j
  ·subst hj
   exact nomatch bW e'
  ·rw[aO hj]at e'
   obtain⟨v,h1,h2⟩:=r.val j d' e';exact⟨v,h1,Is.ext ex _ _ h2⟩
 ·by_cases hj:i=j
  ·subst hj
   have e2:=bW e';cases e2;exact⟨a,NK,hσ,ha,aT,IsL.ext ex _ _ h⟩
  ·rw[aO hj]at e'
   obtain⟨b,ws,h1,h2,h3,h4⟩:=r.own j ys e';have hb:b≠a:=λz=>by
    subst z;exact hj (r.inj i j xs ys b e e' hσ h1)
   exact⟨b,ws,h1,h2,by rw[aH hb];exact h3,IsL.ext ex _ _ h4⟩
 ·have f:∀(j:Nat)(ys:List D),(env.set i (Sl.own xs'))[j]?=aa (.own ys)->∃ys',env[j]?=aa (.own ys'):=λj ys q=>by
   by_cases hj:i=j
   ·subst hj;exact⟨xs,e⟩
   ·rw[aO hj]at q;exact⟨ys,q⟩
  obtain⟨y1,f1⟩:=f j ys e1;obtain⟨y2,f2⟩:=f k zs e2;exact r.inj j k y1 y2 b f1 f2 e3 e4
 ·obtain⟨h1,o,h2⟩:=r.new b hb
  refine⟨h1,?_⟩
  by_cases z:b=a
  ·exact⟨_,by rw[z];exact aT⟩
  ·exact⟨o,by rw[aH z];exact h2⟩
 ·by_cases hj:i=j
  ·subst hj
   exact nomatch bW e'
  ·rw[aO hj]at e'
   exact r.raw j w e'
 ·obtain⟨A,dd⟩:=r.Jk
  refine⟨A,dd.to (λj nss q=>?_) (λj ys b q z=>?_) λj nss q x hx=>⟨(dd.mem q x hx).1,?_⟩⟩
  ·by_cases hj:i=j
   ·subst hj
    exact nomatch bW q
   ·rw[aO hj]at q
    exact⟨q,rfl⟩
  ·by_cases hj:i=j
   ·subst hj
    exact .inl ⟨xs,e,z⟩
   ·rw[aO hj]at q
    exact .inl ⟨ys,q,z⟩
  ·have hxa:x≠a:=λz=>dd.ow j nss i xs a q e hσ (by rw[<-z];exact hx)
   rw[aH hxa]
def Rel.XD (r:Rel K g env σ H os){i:Nat}{xs:List D}(e:env[i]?=aa (.own xs)):∃os',Rel K g (env.set i (.val (.lst xs))) σ H os'/\∀a∈os',a∈os:=by
 obtain⟨a,vs,h1,h2,h3,h4⟩:=r.own i xs e;have ex:Ext (g.P os) (g.P (os.filter (·≠a))) H H:=⟨λb o p _=>⟨p.1,λz=>p.2 (lP.mp z).1⟩,λ_ _ _ q=>q⟩
 refine⟨os.filter (·≠a),⟨by simp[r.len],r.ext,λj d' e'=>?_,λj ys e'=>?_,λj k ys zs b e1 e2 e3 e4=>?_,λb hb=>r.new b (lP.mp hb).1,λj w e'=>?_,?_⟩,λb hb=>(lP.mp hb).1⟩
 ·by_cases hj:i=j
  ·subst hj
   have e2:=bW e';cases e2;exact⟨.ref a,h1,a,vs,rfl,.inl ⟨⟨.inr (r.new a h2).1,λz=>by simpa using(lP.mp z).2⟩,.inl h3⟩,IsL.ext ex _ _ h4⟩
  ·rw[aO hj]at e'
   obtain⟨v,q1,q2⟩:=r.val j d' e';exact⟨v,q1,Is.ext ex _ _ q2⟩
 ·by_cases hj:i=j
  ·subst hj
   exact nomatch bW e'
  ·rw[aO hj]at e'
   obtain⟨b,ws,q1,q2,q3,q4⟩:=r.own j ys e';have hb:b≠a:=λz=>by
    subst z;exact hj (r.inj i j xs ys b e e' h1 q1)
   exact⟨b,ws,q1,lP.mpr ⟨q2,by simpa using hb⟩,q3,IsL.ext ex _ _ q4⟩
 ·have f:∀(j:Nat)(ys:List D),(env.set i (Sl.val (.lst xs)))[j]?=aa (.own ys)->env[j]?=aa (.own ys):=λj ys q=>by
   by_cases hj:i=j
   ·subst hj;exact nomatch bW q
   ·rw[aO hj]at q;exact q
  exact r.inj j k ys zs b (f j ys e1) (f k zs e2) e3 e4
 ·by_cases hj:i=j
  ·subst hj;exact nomatch bW e'
  ·rw[aO hj]at e'
   exact r.raw j w e'
 ·obtain⟨A,dd⟩:=r.Jk
  refine⟨A,dd.to (λj nss q=>?_) (λj ys b q z=>?_) λj nss q x hx=>⟨lP.mpr ⟨(dd.mem q x hx).1,?_⟩,rfl⟩⟩
  ·by_cases hj:i=j
   ·subst hj
    exact nomatch bW q
   ·rw[aO hj]at q
    exact⟨q,rfl⟩
  ·by_cases hj:i=j
   ·subst hj
    exact nomatch bW q
   ·rw[aO hj]at q
    exact .inl ⟨ys,q,z⟩
  ·have:x≠a:=λz=>dd.ow j nss i xs a q e h1 (z▸hx)
   simpa using this
end
section
variable(K:ak)(E:Str->Hp->Prop)
def tD(f:DE->R D):TE:=λσ H Q=>∃g env os,Rel K g env σ H os/\Good E g.H₀ (f env) λd=>∀v H',bK H H'->Is K (g.P os) H' d v->Q v H'
def tB(f:DE->R D):TE:=λσ H Q=>∃g env os,Rel K g env σ H os/\Good E g.H₀ (f env) λd=>∀v H',bK H H'->Is K (λ_=>True) H' d v->Q v H'
def tF(f:DE->R (List D)):TE:=λσ H Q=>∃g env os,Rel K g env σ H os/\Good E g.H₀ (f env) λxs=>∀a vs H',bK H H'->H a=none->H' a=aa (.lst vs)->IsL K (g.P (a::os)) H' xs vs->Q (.ref a) H'
def tL(f:DE->R (List D)):TE:=λσ H Q=>∃g env os,Rel K g env σ H os/\Good E g.H₀ (f env) λxs=>∀a vs H',bK H H'->gb K H' a vs->IsL K (g.P os) H' xs vs->Q (.ref a) H'
def tT(f:DE->R Bool):TT:=λσ H Q=>∃g env os,Rel K g env σ H os/\Good E g.H₀ (f env) λb=>∀H',bK H H'->Q b H'
def QK(f:DE->R (List D)):TA:=λσ H Q=>∃g env os,Rel K g env σ H os/\Good E g.H₀ (f env) λds=>∀vs H',bK H H'->IsL K (g.P os) H' ds vs->Q vs H'
def yf(f:DE->R (List D)):TA:=λσ H Q=>∃g env os,Rel K g env σ H os/\Good E g.H₀ (f env) λds=>∀vs H',bK H H'->IsL K (λ_=>True) H' ds vs->Q vs H'
end
inductive Out where
 |nx (e:DE)|bk (e:DE)|ct (e:DE)|rt (d:D)|uz (xs:List D)|FJ (nss:List (List Int))|FN (nss:List (List Int))|Lz (q:Int×List Int)|CF (c:Ct)
structure yu(H:Hp)(os:List ae)(H':Hp)(os':List ae):Prop where
 own:∀a∈os',a∈os\/H a=none
 grow:∀a,H' a=none->H a=none
 keep:∀a o,a∉os->H a=aa o->H' a=aa o
def yu.refl (H:Hp)(os:List ae):yu H os H os:=⟨λ_ h=>.inl h,λ_ h=>h,λ_ _ _ h=>h⟩
def yu.same {H H':Hp}(s:bK H H')(os:List ae):yu H os H' os:=⟨λ_ h=>.inl h,λ_ h=>s.free h,λ_ _ _ h=>s _ _ h⟩
def yu.trans {H H1 H2:Hp}{os os1 SK:List ae}(a:yu H os H1 os1)(b:yu H1 os1 H2 SK):yu H os H2 SK where
 own:=λx h=>(b.own x h).elim (λz=>a.own x z) λz=>.inr (a.grow x z)
 grow:=λx h=>a.grow x (b.grow x h)
 keep:=λx o hn h=>b.keep x o (λz=>(a.own x z).elim hn λq=>by rw[h]at q;cases q) (a.keep x o hn h)
def yu.ext {g:Gh}{H H':Hp}{os os':List ae}(s:yu H os H' os'):Ext (g.P os) (g.P os') H H':=
 ⟨λa o p h=>⟨p.1,λz=>(s.own a z).elim p.2 λq=>by rw[h]at q;cases q⟩,λa o p h=>s.keep a o p.2 h⟩
structure SM(hd:List V->HO)(H₀ H:Hp)(a:ae)(as:List ae)(nss:List (List Int)):Prop where
 fr:∀b∈a::as,H₀ b=none
 nd:(a::as).Nodup
 len:as.length=nss.length
 ha:H a=aa (hd (as.map V.ref))
 it:∀(k:Nat)(b:ae)(ns:List Int),as[k]?=aa b->nss[k]?=aa ns->H b=aa (.lst (ns.map V.int))
def SM.back {hd:List V->HO}{H₀ H1 H:Hp}{a:ae}{as:List ae}{nss:List (List Int)}(d:SM hd H1 H a as nss)(s:bK H₀ H1):SM hd H₀ H a as nss:=⟨λb hb=>s.free (d.fr b hb),d.nd,d.len,d.ha,d.it⟩
abbrev acO:=SM HO.lst
abbrev acP:=SM HO.tup
structure ajV(H₀ H:Hp)(a b:ae)(q:Int×List Int):Prop where
 fa:H₀ a=none
 fb:H₀ b=none
 ne:a≠b
 ha:H a=aa (.tup [.int q.1,.ref b])
 hb:H b=aa (.lst (q.2.map V.int))
def E5(K:ak)(H₀ H:Hp)(a:ae)(c:Ct):Prop:=∃as,(∀x∈a::as,H₀ x=none)/\Dp K H (a::as) a as c
def E5.back {K:ak}{H₀ H1 H:Hp}{a:ae}{c:Ct}(d:E5 K H1 H a c)(s:bK H₀ H1):E5 K H₀ H a c:=by
 obtain⟨as,h1,h2⟩:=d;exact⟨as,λx hx=>s.free (h1 x hx),h2⟩
def ajW(K:ak)(g:Gh)(H:Hp)(a:ae)(ds:List D)(ns:List Int):Prop:=∃b m ws,g.H₀ a=none/\g.H₀ b=none/\g.H₀ m=none/\a≠b/\a≠m/\m≠b/\H a=aa (.tup [.ref m,.ref b])/\H b=aa (.lst (ns.map V.int))/\H m=aa (.lst ws)/\IsL K (g.P [a,b,m]) H ds ws
def ajX(K:ak)(g:Gh)(H:Hp)(a:ae):Ct->Prop
 |.tv ds ns=>ajW K g H a ds ns
 |c=>E5 K g.H₀ H a c
noncomputable def gy(K:ak)(g:Gh)(H:Hp)(os:List ae)(De:Ends):Out->Prop
 |.nx e=>∀σ' H' os',Rel K g e σ' H' os'->yu H os H' os'->De.nx σ' H'
 |.bk e=>∀σ' H' os',Rel K g e σ' H' os'->yu H os H' os'->De.bk σ' H'
 |.ct e=>∀σ' H' os',Rel K g e σ' H' os'->yu H os H' os'->De.ct σ' H'
 |.rt d=>∀v H',bK g.H₀ H'->Is K (g.P []) H' d v->De.rt v H'
 |.uz xs=>∀a vs H',bK g.H₀ H'->g.H₀ a=none->H' a=aa (.lst vs)->IsL K (g.P [a]) H' xs vs->De.rt (.ref a) H'
 |.FN nss=>∀(a:ae)(as:List ae)(H':Hp),bK g.H₀ H'->acP g.H₀ H' a as nss->De.rt (.ref a) H'
 |.Lz q=>∀(a b:ae)(H':Hp),bK g.H₀ H'->ajV g.H₀ H' a b q->De.rt (.ref a) H'
 |.FJ nss=>∀(a:ae)(as:List ae)(H':Hp),bK g.H₀ H'->acO g.H₀ H' a as nss->De.rt (.ref a) H'
 |.CF c=>∀(a:ae)(H':Hp),bK g.H₀ H'->ajX K g H' a c->De.rt (.ref a) H'
def gy.step {K:ak}{g:Gh}{H H1:Hp}{os os1:List ae}{De:Ends}(s:yu H os H1 os1):∀{o:Out},gy K g H os De o->gy K g H1 os1 De o
 |.nx e,h=>λσ' H' os' r z=>h σ' H' os' r (s.trans z)
 |.bk e,h=>λσ' H' os' r z=>h σ' H' os' r (s.trans z)
 |.ct e,h=>λσ' H' os' r z=>h σ' H' os' r (s.trans z)
 |.rt d,h=>h
 |.uz xs,h=>h
 |.FN xs,h=>h
 |.Lz xs,h=>h
 |.FJ xs,h=>h
 |.CF xs,h=>h
def tS(K:ak)(E:Str->Hp->Prop)(f:DE->R Out):TS:=λDe σ H=>∃g env os,Rel K g env σ H os/\Good E g.H₀ (f env) (gy K g H os De)
section
variable{X:Cx}{E:Str->Hp->Prop}{pos:Pos}
def imp{e:ao}{t t':TE}(h:PE X e t)(w:∀σ H Q,t' σ H Q->t σ H Q):PE X e t':=λpins s σ H Q I q=>h pins s σ H Q I (w σ H Q q)
def acQ{e:ao}{t t':TT}(h:PT X e t)(w:∀σ H Q,t' σ H Q->t σ H Q):PT X e t':=λpins s σ H Q I q=>h pins s σ H Q I (w σ H Q q)
def agn{e:ao}{t t':TT}(h:PW X e t)(w:∀σ H Q,t' σ H Q->t σ H Q):PW X e t':=λwh pins s σ H Q I q=>h wh pins s σ H Q I (w σ H Q q)
def SN{e:List ao}{t t':TA}(h:PA X e t)(w:∀σ H Q,t' σ H Q->t σ H Q):PA X e t':=λpos pins s σ H Q I q=>h pos pins s σ H Q I (w σ H Q q)
def oV{e:aC}{t t':TS}(h:PS X e t)(w:∀De σ H,t' De σ H->t De σ H):PS X e t':=λpins s σ H Q I q=>h pins s σ H Q I (w Q σ H q)
def aax{e:List aC}{t t':TS}(h:xj X e t)(w:∀De σ H,t' De σ H->t De σ H):xj X e t':=λpins s σ H Q I q=>h pins s σ H Q I (w Q σ H q)
def dG(i:Nat)(env:DE):R D:=match env[i]? with
 |some (.val d)=>.ok d
 |_=>.bad
def dT(t:Xz):D:=.tup [.int t.1,.int t.2.1,.lst (t.2.2.map .int)]
noncomputable def cy(i:Nat)(env:DE):R D:=match env[i]? with
 |some (.val d)=>.ok d
 |some (.own xs)=>.ok (.lst xs)
 |some (.deep (.ls nss))=>.ok (.lst (nss.map λns=>.lst (ns.map .int)))
 |some (.deep (.tp nss))=>.ok (.tup (nss.map λns=>.lst (ns.map .int)))
 |some (.deep (.tq n ns))=>.ok (.tup [.int n,.lst (ns.map .int)])
 |some (.deep (.tr ts))=>.ok (.lst (ts.map dT))
 |some (.deep (.tf h nss))=>.ok (.tup [.int h,.lst (nss.map λns=>.lst (ns.map .int))])
 |some (.deep (.tv ds ns))=>.ok (.tup [.lst ds,.lst (ns.map .int)])
 |_=>.bad
theorem eU{K:ak}{P:ae->Prop}{H:Hp}:∀(ns:List Int),IsL K P H (ns.map D.int) (ns.map V.int)
 |[]=>rfl
 |n::ns=>⟨_,_,rfl,rfl,eU ns⟩
theorem zq{K:ak}{H:Hp}{os:List ae}:∀{as:List ae}{nss:List (List Int)},as.length=nss.length->(∀(k:Nat)(b:ae)(ns:List Int),as[k]?=aa b->nss[k]?=aa ns->b∈os/\H b=aa (.lst (ns.map V.int)))->IsL K (λ_=>True) H (nss.map λns=>.lst (ns.map D.int)) (as.map V.ref)
 |[],[],_,_=>rfl
 |[],_::_,h,_=>by simp at h
 |_::_,[],h,_=>by simp at h
 |a::as,ns::nss,h,hi=>⟨_,_,rfl,⟨a,_,rfl,.inl ⟨trivial,.inl (hi 0 a ns rfl rfl).2⟩,eU ns⟩,zq (by simpa using h) λk b ms e1 e2=>hi (k+1) b ms e1 e2⟩
theorem Jl{K:ak}{P:ae->Prop}{H:Hp}{as:List ae}(hp:∀x∈as,P x):∀{ts:List Xz}{vs:List V},vs.length=ts.length->(∀(k:Nat)(t:Xz)(v:V),ts[k]?=aa t->vs[k]?=aa v->TrI H as t v)->IsL K P H (ts.map dT) vs
 |[],[],_,_=>rfl
 |[],_::_,h,_=>by simp at h
 |_::_,[],h,_=>by simp at h
 |t::ts,v::vs,h,hi=>by
  obtain⟨b,c,rfl,h1,h2,h3,h4⟩:=hi 0 t v rfl rfl;exact⟨_,_,rfl,⟨b,_,rfl,.inl ⟨hp b h1,.inl h3⟩,⟨_,_,rfl,rfl,⟨_,_,rfl,rfl,⟨_,_,rfl,⟨c,_,rfl,.inl ⟨hp c h2,.inl h4⟩,eU t.2.2⟩,rfl⟩⟩⟩⟩,Jl hp (by simpa using h) λk t v e1 e2=>hi (k+1) t v e1 e2⟩
def rg(i:Nat)(env:DE):R (List D):=match env[i]? with
 |some (.val (.lst xs))=>.ok xs
 |some (.own xs)=>.ok xs
 |_=>.bad
def nD(i:Nat){x:Str}(hN:X.N[i]?=aa x:=by rfl)(hv:BI X.env.scope x:=by first|exact aR rfl|exact aS (aR rfl)|exact aS (aS rfl))(hd:(x==("__debug__":Str))=false:=by decide)
  (hcd:(x==("__classdict__":Str))=false:=by decide):PE X (.Name x pos) (tD X.K E (dG i)):=imp (ju hN hv hd hcd) λσ H Q ⟨g,env,os,r,m⟩=>by
 unfold dG at m;cases e:env[i]? with
 |none=>rw[e]at m;exact m.elim
 |some sl=>
  cases sl with
  |no=>rw[e]at m;exact m.elim
  |raw _=>rw[e]at m;exact m.elim
  |deep _=>rw[e]at m;exact m.elim
  |own xs=>rw[e]at m;exact m.elim
  |val d=>
   rw[e]at m;obtain⟨v,h1,h2⟩:=r.val i d e;exact⟨v,h1,m v H (bK.refl H) h2⟩
def nB(i:Nat){x:Str}(hN:X.N[i]?=aa x:=by rfl)(hv:BI X.env.scope x:=by first|exact aR rfl|exact aS (aR rfl)|exact aS (aS rfl))(hd:(x==("__debug__":Str))=false:=by decide)
  (hcd:(x==("__classdict__":Str))=false:=by decide):PE X (.Name x pos) (tB X.K E (cy i)):=imp (ju hN hv hd hcd) λσ H Q ⟨g,env,os,r,m⟩=>by
 unfold cy at m;cases e:env[i]? with
 |none=>rw[e]at m;exact m.elim
 |some sl=>
  cases sl with
  |no=>rw[e]at m;exact m.elim
  |raw _=>rw[e]at m;exact m.elim
  |own xs=>
   rw[e]at m;obtain⟨a,vs,h1,_,h3,h4⟩:=r.own i xs e;exact⟨.ref a,h1,m _ H (bK.refl H) ⟨a,vs,rfl,.inl ⟨trivial,.inl h3⟩,h4.weak⟩⟩
  |deep c=>
   obtain⟨A,dd⟩:=r.Jk;obtain⟨a,as,_,h1,h3⟩:=dd.dp i c e;cases c with
   |ls nss=>
    rw[e]at m;exact⟨.ref a,h1,m _ H (bK.refl H) ⟨a,_,rfl,.inl ⟨trivial,.inl h3.ha⟩,zq h3.len h3.it⟩⟩
   |tp nss=>
    rw[e]at m;have h4:BO HO.tup H os a as nss:=h3;exact⟨.ref a,h1,m _ H (bK.refl H) ⟨a,_,rfl,.inl ⟨trivial,.inl h4.ha⟩,zq h4.len h4.it⟩⟩
   |dk ks=>rw[e]at m;exact m.elim
   |tq n ns=>
    rw[e]at m;obtain⟨b,_,_,_,_,h4,h5⟩:=h3;exact⟨.ref a,h1,m _ H (bK.refl H) ⟨a,_,rfl,.inl ⟨trivial,.inl h4⟩,⟨_,_,rfl,rfl,⟨_,_,rfl,⟨b,_,rfl,.inl ⟨trivial,.inl h5⟩,eU ns⟩,rfl⟩⟩⟩⟩
   |tr ts=>
    rw[e]at m;have h4:DpR H os a as ts:=h3;obtain⟨vs,q1,q2,q3⟩:=h4.at_
    exact⟨.ref a,h1,m _ H (bK.refl H) ⟨a,_,rfl,.inl ⟨trivial,.inl q1⟩,Jl (λ_ _=>trivial) q2 q3⟩⟩
   |tf k nss=>
    rw[e]at m;obtain⟨b,bs,_,_,_,h4,h5⟩:=h3;exact⟨.ref a,h1,m _ H (bK.refl H) ⟨a,_,rfl,.inl ⟨trivial,.inl h4⟩,⟨_,_,rfl,rfl,⟨_,_,rfl,⟨b,_,rfl,.inl ⟨trivial,.inl h5.ha⟩,zq h5.len h5.it⟩,rfl⟩⟩⟩⟩
   |tv ds ns=>
    rw[e]at m;obtain⟨b,c,ws,_,_,_,_,_,h4,h5,h6,h7⟩:=h3;exact⟨.ref a,h1,m _ H (bK.refl H) ⟨a,_,rfl,.inl ⟨trivial,.inl h4⟩,⟨_,_,rfl,⟨c,ws,rfl,.inl ⟨trivial,.inl h6⟩,IsL.ext ⟨λ_ _ _ _=>trivial,λ_ _ _ q=>q⟩ _ _ h7⟩,⟨_,_,rfl,⟨b,_,rfl,.inl ⟨trivial,.inl h5⟩,eU ns⟩,rfl⟩⟩⟩⟩
  |val d=>
   rw[e]at m;obtain⟨v,h1,h2⟩:=r.val i d e;exact⟨v,h1,m v H (bK.refl H) h2.weak⟩
def nL(i:Nat){x:Str}(hN:X.N[i]?=aa x:=by rfl)(hv:BI X.env.scope x:=by first|exact aR rfl|exact aS (aR rfl)|exact aS (aS rfl))(hd:(x==("__debug__":Str))=false:=by decide)
  (hcd:(x==("__classdict__":Str))=false:=by decide):PE X (.Name x pos) (tL X.K E (rg i)):=imp (ju hN hv hd hcd) λσ H Q ⟨g,env,os,r,m⟩=>by
 unfold rg at m;cases e:env[i]? with
 |none=>rw[e]at m;exact m.elim
 |some sl=>
  cases sl with
  |no=>rw[e]at m;exact m.elim
  |raw _=>rw[e]at m;exact m.elim
  |deep _=>rw[e]at m;exact m.elim
  |own xs=>
   rw[e]at m;obtain⟨a,vs,h1,_,h3,h4⟩:=r.own i xs e;exact⟨.ref a,h1,m _ _ H (bK.refl H) (gb.of h3) h4⟩
  |val d=>
   cases d with
   |lst xs=>
    rw[e]at m;obtain⟨v,h1,a,vs,rfl,h3,h4⟩:=r.val i _ e;exact⟨_,h1,m _ _ H (bK.refl H) h3.sq h4⟩
   |non=>rw[e]at m;exact m.elim
   |bl _=>rw[e]at m;exact m.elim
   |int _=>rw[e]at m;exact m.elim
   |str _=>rw[e]at m;exact m.elim
   |exc _=>rw[e]at m;exact m.elim
   |fn _=>rw[e]at m;exact m.elim
   |tup _=>rw[e]at m;exact m.elim
def cI{i j}:PE X (.Constant (.int i) j pos) (tD X.K E λ_=>.ok (.int i)):=imp lR λσ H Q ⟨g,env,os,r,m⟩=>m _ H (bK.refl H) rfl
def FO{i j}:PE X (.Constant (.bool i) j pos) (tD X.K E λ_=>.ok (.bl i)):=imp afJ λσ H Q ⟨g,env,os,r,m⟩=>m _ H (bK.refl H) rfl
def cN{j}:PE X (.Constant .none j pos) (tD X.K E λ_=>.ok .non):=imp RZ λσ H Q ⟨g,env,os,r,m⟩=>m _ H (bK.refl H) rfl
def PE.bC {e:ao}{f:DE->R D}(h:PE X e (tD X.K E f)):PE X e (tB X.K E f):=imp h λσ H Q ⟨g,env,os,r,m⟩=>⟨g,env,os,r,m.mono λd _ q v H' s i=>q v H' s i.weak⟩
def PE.fH {e:ao}{f:DE->R (List D)}(h:PE X e (tF X.K E f)):PE X e (tD X.K E λenv=>(f env).bind λxs=>.ok (.lst xs)):=imp h λσ H Q ⟨g,env,os,r,m⟩=>⟨g,env,os,r,m.bind.mono λd _ q a vs H' s hn hH i=>by
 refine q _ H' s ⟨a,vs,rfl,.inl ⟨r.fresh hn,.inl hH⟩,IsL.ext ⟨λb o p _=>⟨p.1,λz=>p.2 (bz _ z)⟩,λ_ _ _ q=>q⟩ _ _ i⟩⟩
def PE.zr {e:ao}{f:DE->R (List D)}(h:PE X e (tF X.K E f)):PE X e (tL X.K E f):=imp h λσ H Q ⟨g,env,os,r,m⟩=>⟨g,env,os,r,m.mono λd _ q a vs H' s hn hH i=>
 q _ vs H' s (gb.of hH) (IsL.ext ⟨λb o p _=>⟨p.1,λz=>p.2 (bz _ z)⟩,λ_ _ _ q=>q⟩ _ _ i)⟩
def zt:D->R (List D)
 |.lst xs=>.ok xs
 |_=>.bad
def PE.ajY {e:ao}{f:DE->R D}(h:PE X e (tD X.K E f)):PE X e (tL X.K E λenv=>(f env).bind zt):=imp h λσ H Q ⟨g,env,os,r,m⟩=>⟨g,env,os,r,m.bind.mono λd _ q v H' s i=>by
 cases d with
 |lst xs=>
  obtain⟨a,vs,rfl,h3,h4⟩:=i;exact q a vs H' s h3.sq h4
 |non=>exact q.elim
 |bl _=>exact q.elim
 |int _=>exact q.elim
 |str _=>exact q.elim
 |exc _=>exact q.elim
 |fn _=>exact q.elim
 |tup _=>exact q.elim⟩
abbrev Tr:ae->Prop:=λ_=>True
def sV(X:Cx)(r:R2)(k:D->D->Option D):Prop:=∀x y d,k x y=aa d->∃z,toV d=aa z/\∀H v w (Q:VK),Is X.K Tr H x v->Is X.K Tr H y w->Q z H->r v w H Q
def ee{op:yX}{r:R2}{a b:ao}{fa fb:DE->R D}{k:D->D->Option D}(ho:y7 X (lS op) r)(hk:sV X r k)(ha:PE X a (tB X.K E fa))(hb:PE X b (tB X.K E fb)):
  PE X (.BinOp a op b pos) (tD X.K E λenv=>(fa env).bind λx=>(fb env).bind λy=>R.of (k x y)):=
 imp (yr ho ha hb) λσ H Q ⟨g,env,os,r,m⟩=>⟨g,env,os,r,m.bind.mono λx _ m1 v H1 s1 i1=>⟨g,env,os,r.same s1,m1.bind.mono λy _ m2 w H2 s2 i2=>by
  obtain⟨d,e,q⟩:=m2.of;obtain⟨z,hz,hk⟩:=hk x y d e;exact hk H2 v w Q (i1.same s2) i2 (q z H2 (s1.trans s2) (Is.sc hz))⟩⟩
def XE{op:ui}{r:R2}{a b:ao}{fa fb:DE->R D}{k:D->D->Option D}(ho:y7 X (iI op) r)(hk:sV X r k)(ha:PE X a (tB X.K E fa))(hb:PE X b (tB X.K E fb))(hm:rq op b=false):
  PE X (.Compare a [op] [b] pos) (tD X.K E λenv=>(fa env).bind λx=>(fb env).bind λy=>R.of (k x y)):=
 imp (WX ho ha hb hm) λσ H Q ⟨g,env,os,r,m⟩=>⟨g,env,os,r,m.bind.mono λx _ m1 v H1 s1 i1=>⟨g,env,os,r.same s1,m1.bind.mono λy _ m2 w H2 s2 i2=>by
  obtain⟨d,e,q⟩:=m2.of;obtain⟨z,hz,hk⟩:=hk x y d e;exact hk H2 v w Q (i1.same s2) i2 (q z H2 (s1.trans s2) (Is.sc hz))⟩⟩
def jk:D->R Bool
 |.bl b=>.ok b
 |_=>.bad
def cY{op:ui}{r:R2}{a b:ao}{fa fb:DE->R D}{k:D->D->Option D}(ho:y7 X (iI op) r)(hk:sV X r k)(ha:PE X a (tB X.K E fa))(hb:PE X b (tB X.K E fb))(hm:rq op b=false):
  PT X (.Compare a [op] [b] pos) (tT X.K E λenv=>(fa env).bind λx=>(fb env).bind λy=>(R.of (k x y)).bind jk):=
 acQ (pZ ho ha hb hm) λσ H Q ⟨g,env,os,r,m⟩=>⟨g,env,os,r,m.bind.mono λx _ m1 v H1 s1 i1=>⟨g,env,os,r.same s1,m1.bind.mono λy _ m2 w H2 s2 i2=>by
  obtain⟨d,e,q⟩:=m2.bind.of;obtain⟨z,hz,hk⟩:=hk x y d e;refine hk H2 v w _ (i1.same s2) i2 ?_;cases d with
  |bl b=>
   cases hz;exact⟨b,rfl,q H2 (s1.trans s2)⟩
  |non=>exact q.elim
  |lst _=>exact q.elim
  |int _=>exact q.elim
  |str _=>exact q.elim
  |exc _=>exact q.elim
  |fn _=>exact q.elim
  |tup _=>exact q.elim⟩⟩
def ago(X:Cx)(r:V->Hp->VK->Prop)(k:D->Option D):Prop:=∀x d,k x=aa d->∃z,toV d=aa z/\∀H v (Q:VK),Is X.K Tr H x v->Q z H->r v H Q
def NN{op:UnaryOp}{r:V->Hp->VK->Prop}{a:ao}{fa:DE->R D}{k:D->Option D}(ho:UnR X (GY op) r)(hk:ago X r k)(ha:PE X a (tB X.K E fa)):
  PE X (.UnaryOp op a pos) (tD X.K E λenv=>(fa env).bind λx=>R.of (k x)):=
 imp (MV ho ha) λσ H Q ⟨g,env,os,r,m⟩=>⟨g,env,os,r,m.bind.mono λx _ m1 v H1 s1 i1=>by
  obtain⟨d,e,q⟩:=m1.of;obtain⟨z,hz,hk⟩:=hk x d e;exact hk H1 v Q i1 (q z H1 s1 (Is.sc hz))⟩
def oW:D->D->Option D
 |.int i,.int j=>aa (.int (i-j))
 |_,_=>none
def QL:D->D->Option D
 |.int i,.int j=> @ite _ ((-(2^64)<i/\i<2^64)\/(-(2^64)<j/\j<2^64)) (dR _) (aa (.int (i*j))) (none)
 |_,_=>none
def Jm:D->D->Option D
 |.int i,.int j=> @ite _ (0<j/\j<1073741824) (dR _) (aa (.int (i/j))) (none)
 |_,_=>none
def zu:D->D->Option D
 |.int i,.int j=> @ite _ (0<j) (dR _) (aa (.int (i%j))) (none)
 |_,_=>none
def SQ:D->D->Option D
 |.int i,.int j=> @ite _ (0<=j/\j<=1000000/\i.natAbs<2^64) (dR _) (aa (.int (i^j.toNat))) (none)
 |_,_=>none
def vX:D->Option D
 |.int i=>aa (.int (-i))
 |_=>none
def V9:D->D->Option D
 |.int i,.int j=>aa (.bl (decide (i<j)))
 |_,_=>none
def kLe:D->D->Option D
 |.int i,.int j=>aa (.bl (decide (i<=j)))
 |_,_=>none
def IQ:D->D->Option D
 |.int i,.int j=>aa (.bl (decide (j<i)))
 |_,_=>none
def kGe:D->D->Option D
 |.int i,.int j=>aa (.bl (decide (j<=i)))
 |_,_=>none
def sW{g:Int->Int->V}{h:Int->Int->D}{k:D->D->Option D}(hg:∀i j,toV (h i j)=aa (g i j))(hk:∀x y d,k x y=aa d->∃i j,x=.int i/\y=.int j/\d=h i j):sV X (K9 g) k:=λx y d e=>by
 obtain⟨i,j,rfl,rfl,rfl⟩:=hk x y d e;refine⟨g i j,hg i j,λH v w Q h1 h2 q=>⟨i,j,h1,h2,q⟩⟩
def zw{C:Int->Int->Prop}{g:Int->Int->V}{h:Int->Int->D}{k:D->D->Option D}(hg:∀i j,toV (h i j)=aa (g i j))(hk:∀x y d,k x y=aa d->∃i j,x=.int i/\y=.int j/\C i j/\d=h i j):sV X (rI C g) k:=λx y d e=>by
 obtain⟨i,j,rfl,rfl,c,rfl⟩:=hk x y d e;refine⟨g i j,hg i j,λH v w Q h1 h2 q=>⟨i,j,h1,h2,c,q⟩⟩
def dW:sV X (K9 λi j=>.int (i-j)) oW:=sW (h:=λi j=>.int (i-j)) (λ_ _=>rfl) λx y d e=>by
 unfold oW at e;split at e<;>cases e;exact⟨_,_,rfl,rfl,rfl⟩
def yL:sV X (K9 λi j=>.bl (decide (i<j))) V9:=sW (h:=λi j=>.bl (decide (i<j))) (λ_ _=>rfl) λx y d e=>by
 unfold V9 at e;split at e<;>cases e;exact⟨_,_,rfl,rfl,rfl⟩
def acR:sV X (K9 λi j=>.bl (decide (i<=j))) kLe:=sW (h:=λi j=>.bl (decide (i<=j))) (λ_ _=>rfl) λx y d e=>by
 unfold kLe at e;split at e<;>cases e;exact⟨_,_,rfl,rfl,rfl⟩
def kT:sV X (K9 λi j=>.bl (decide (j<i))) IQ:=sW (h:=λi j=>.bl (decide (j<i))) (λ_ _=>rfl) λx y d e=>by
 unfold IQ at e;split at e<;>cases e;exact⟨_,_,rfl,rfl,rfl⟩
def acS:sV X (K9 λi j=>.bl (decide (j<=i))) kGe:=sW (h:=λi j=>.bl (decide (j<=i))) (λ_ _=>rfl) λx y d e=>by
 unfold kGe at e;split at e<;>cases e;exact⟨_,_,rfl,rfl,rfl⟩
def Hg:sV X (rI WR λi j=>.int (i*j)) QL:=zw (h:=λi j=>.int (i*j)) (λ_ _=>rfl) λx y d e=>by
 unfold QL at e;split at e
 ·split at e
  ·rename_i i j c
   cases e;exact⟨i,j,rfl,rfl,c,rfl⟩
  ·cases e
 ·cases e
def zx:sV X (rI afW λi j=>.int (i/j)) Jm:=zw (h:=λi j=>.int (i/j)) (λ_ _=>rfl) λx y d e=>by
 unfold Jm at e;split at e
 ·split at e
  ·rename_i i j c
   cases e;exact⟨i,j,rfl,rfl,c,rfl⟩
  ·cases e
 ·cases e
def mh:sV X (rI (λ_ j=>0<j) λi j=>.int (i%j)) zu:=zw (h:=λi j=>.int (i%j)) (λ_ _=>rfl) λx y d e=>by
 unfold zu at e;split at e
 ·split at e
  ·rename_i i j c
   cases e;exact⟨i,j,rfl,rfl,c,rfl⟩
  ·cases e
 ·cases e
def XF:sV X (rI Qx λi j=>.int (i^j.toNat)) SQ:=zw (h:=λi j=>.int (i^j.toNat)) (λ_ _=>rfl) λx y d e=>by
 unfold SQ at e;split at e
 ·split at e
  ·rename_i i j c
   cases e;exact⟨i,j,rfl,rfl,c,rfl⟩
  ·cases e
 ·cases e
def jl:ago X (rU λi=>.int (-i)) vX:=λx d e=>by
 unfold vX at e;split at e<;>cases e;exact⟨_,rfl,λH v Q h1 q=>⟨_,h1,q⟩⟩
def pR{a:ao}{f:DE->R Bool}(h:PT X a (tT X.K E f)):PT X (.UnaryOp .Not a pos) (tT X.K E λenv=>(f env).bind λb=>.ok (!b)):=
 acQ (ach h) λσ H Q ⟨g,env,os,r,m⟩=>⟨g,env,os,r,m.bind.mono λb _ q H' s=>q H' s⟩
def Jo{a:ao}{f:DE->R Bool}(h:PT X a (tT X.K E f)):PW X (.BoolOp .And [a] pos) (tT X.K E f):=pw_and1 h
def yg{a:ao}{f:DE->R Bool}(h:PT X a (tT X.K E f)):PW X (.BoolOp .Or [a] pos) (tT X.K E f):=pw_or1 h
def FP{a b:ao}{rest:List ao}{f k:DE->R Bool}(h:PT X a (tT X.K E f))(h2:PW X (.BoolOp .And (b::rest) pos) (tT X.K E k)):PW X (.BoolOp .And (a::b::rest) pos) (tT X.K E λenv=>(f env).bind λt=>if t=true then k env else .ok false):=
 agn (pw_and h h2) λσ H Q ⟨g,env,os,r,m⟩=>⟨g,env,os,r,m.bind.mono λt _ q H' s=>by
  cases t with
  |true=>exact⟨g,env,os,r.same s,Good.mono (show Good E g.H₀ (k env) _ from q) λb _ q2 H2 s2=>q2 H2 (s.trans s2)⟩
  |false=>exact q H' s⟩
def p8{a b:ao}{rest:List ao}{f k:DE->R Bool}(h:PT X a (tT X.K E f))(h2:PW X (.BoolOp .Or (b::rest) pos) (tT X.K E k)):PW X (.BoolOp .Or (a::b::rest) pos) (tT X.K E λenv=>(f env).bind λt=>if t=true then .ok true else k env):=
 agn (pw_or h h2) λσ H Q ⟨g,env,os,r,m⟩=>⟨g,env,os,r,m.bind.mono λt _ q H' s=>by
  cases t with
  |false=>exact⟨g,env,os,r.same s,Good.mono (show Good E g.H₀ (k env) _ from q) λb _ q2 H2 s2=>q2 H2 (s.trans s2)⟩
  |true=>exact q H' s⟩
def sX{e:ao}{f:DE->R D}(h:PE X e (tB X.K E f))(he:∀whole,isTrue e X.env whole=(do let v<-whole;xm e.pos;km [v] (truthy v)):=by intro _;rfl):PT X e (tT X.K E λenv=>(f env).bind jk):=
 acQ (acg h he) λσ H Q ⟨g,env,os,r,m⟩=>⟨g,env,os,r,m.bind.mono λd _ q v H' s i=>by
  cases d with
  |bl b=>exact⟨b,i,q H' s⟩
  |non=>exact q.elim
  |lst _=>exact q.elim
  |int _=>exact q.elim
  |str _=>exact q.elim
  |exc _=>exact q.elim
  |fn _=>exact q.elim
  |tup _=>exact q.elim⟩
def ajZ{op}{a:ao}{f:DE->R D}(h:PE X a (tD X.K E f)):PE X (.BoolOp op [a] pos) (tD X.K E f):=aci h
def aj0{a b:ao}{rest:List ao}{f k:DE->R D}(h:PE X a (tB X.K E f))(h2:PE X (.BoolOp .And (b::rest) pos) (tD X.K E k)):PE X (.BoolOp .And (a::b::rest) pos) (tD X.K E λenv=>(f env).bind λx=>(jk x).bind λt=>if t=true then k env else .ok (.bl false)):=
 imp (acj h h2) λσ H Q ⟨g,env,os,r,m⟩=>⟨g,env,os,r,m.bind.mono λd _ q v H' s i=>by
  cases d with
  |bl b=>
   refine⟨b,i,?_⟩;cases b with
   |true=>
    rw[if_pos rfl];exact⟨g,env,os,r.same s,Good.mono (show Good E g.H₀ (k env) _ from q) λb _ q2 v2 H2 s2 i2=>q2 v2 H2 (s.trans s2) i2⟩
   |false=>
    rw[if_neg di];exact q _ H' s rfl
  |non=>exact q.elim
  |lst _=>exact q.elim
  |int _=>exact q.elim
  |str _=>exact q.elim
  |exc _=>exact q.elim
  |fn _=>exact q.elim
  |tup _=>exact q.elim⟩
def vIf{c a b:ao}{fc:DE->R Bool}{fa fb:DE->R D}(hc:PT X c (tT X.K E fc))(ha:PE X a (tD X.K E fa))(hb:PE X b (tD X.K E fb)):PE X (.IfExp c a b pos) (tD X.K E λenv=>(fc env).bind λt=>if t=true then fa env else fb env):=
 imp (R3 hc ha hb) λσ H Q ⟨g,env,os,r,m⟩=>⟨g,env,os,r,m.bind.mono λt _ q H' s=>by
  cases t with
  |true=>
   rw[if_pos rfl];exact⟨g,env,os,r.same s,Good.mono (show Good E g.H₀ (fa env) _ from q) λb _ q2 v2 H2 s2 i2=>q2 v2 H2 (s.trans s2) i2⟩
  |false=>
   rw[if_neg di];exact⟨g,env,os,r.same s,Good.mono (show Good E g.H₀ (fb env) _ from q) λb _ q2 v2 H2 s2 i2=>q2 v2 H2 (s.trans s2) i2⟩⟩
def dm:PA X [] (QK X.K E λ_=>.ok []):=SN bV λσ H Q ⟨g,env,os,r,m⟩=>m [] H (bK.refl H) rfl
def cP:PA X [] (yf X.K E λ_=>.ok []):=SN bV λσ H Q ⟨g,env,os,r,m⟩=>m [] H (bK.refl H) rfl
def bq{e:ao}{es:List ao}{f:DE->R D}{k:DE->R (List D)}(ha:PE X e (tD X.K E f))(hr:PA X es (QK X.K E k))(hs:ar (e::es) X.env=(false,aA e X.env)::ar es X.env:=by rfl):
  PA X (e::es) (QK X.K E λenv=>(f env).bind λx=>(k env).bind λxs=>.ok (x::xs)):=
 SN (bh ha hr hs) λσ H Q ⟨g,env,os,r,m⟩=>⟨g,env,os,r,m.bind.mono λx _ m1 v H1 s1 i1=>⟨g,env,os,r.same s1,m1.bind.mono λxs _ m2 vs H2 s2 i2=>m2 (v::vs) H2 (s1.trans s2) (.cons (i1.same s2) i2)⟩⟩
def aV{e:ao}{es:List ao}{f:DE->R D}{k:DE->R (List D)}(ha:PE X e (tB X.K E f))(hr:PA X es (yf X.K E k))(hs:ar (e::es) X.env=(false,aA e X.env)::ar es X.env:=by rfl):
  PA X (e::es) (yf X.K E λenv=>(f env).bind λx=>(k env).bind λxs=>.ok (x::xs)):=
 SN (bh ha hr hs) λσ H Q ⟨g,env,os,r,m⟩=>⟨g,env,os,r,m.bind.mono λx _ m1 v H1 s1 i1=>⟨g,env,os,r.same s1,m1.bind.mono λxs _ m2 vs H2 s2 i2=>m2 (v::vs) H2 (s1.trans s2) (.cons (i1.same s2) i2)⟩⟩
def fit{α:Type}(xs:List α):R (List α):= @ite _ (xs.length<=aI) (dR _) (.ok xs) (.bad)
theorem Good.fit {α:Type}{H₀:Hp}{xs:List α}{p:List α->Prop}(h:Good E H₀ (fit xs) p):xs.length<=aI/\p xs:=by
 unfold DL.fit at h;split at h
 ·rename_i c
  exact⟨c,h⟩
 ·exact h.elim
def LA{K:ak}{g:Gh}{env:DE}{σ:St}{H H1:Hp}{os:List ae}{ds:List D}{vs:List V}{p:ae}(r:Rel K g env σ H os)(s1:bK H H1)(hp:H1 p=none)(i:IsL K (g.P os) H1 ds vs):
  bK H (upd H1 p (.lst vs))/\H p=none/\upd H1 p (.lst vs) p=aa (.lst vs)/\IsL K (g.P (p::os)) (upd H1 p (.lst vs)) ds vs:=
 ⟨s1.trans (bR hp _),s1.free hp,aT,IsL.ext ((r.same s1).apart (bR hp _) hp) _ _ i⟩
def se{es:List ao}{f:DE->R (List D)}(h:PA X es (QK X.K E f)):PE X (.List es pos) (tF X.K E λenv=>(f env).bind fit):=
 imp (AM h) λσ H Q ⟨g,env,os,r,m⟩=>⟨g,env,os,r,m.bind.mono λds _ m1 vs H1 s1 i1=>by
  obtain⟨z,q⟩:=m1.fit;refine⟨by rw[i1.length];exact z,λp hp=>?_⟩;obtain⟨a1,a2,a3,a4⟩:=LA r s1 hp i1;exact q p vs _ a1 a2 a3 a4⟩
def SR{es:List ao}{x1}{f:DE->R (List D)}(h:PA X es (QK X.K E f)):PE X (.Tuple es x1 pos) (tD X.K E λenv=>((f env).bind fit).bind λds=>.ok (.tup ds)):=
 imp (vU h) λσ H Q ⟨g,env,os,r,m⟩=>⟨g,env,os,r,m.bind.bind.mono λds _ m1 vs H1 s1 i1=>by
  obtain⟨z,q⟩:=m1.fit;refine⟨by rw[i1.length];exact z,λp hp=>?_⟩;exact q _ _ (s1.trans (bR hp _)) ⟨p,vs,rfl,.inl ⟨(r.same s1).fresh hp,.inl aT⟩,i1.same (bR hp _)⟩⟩
end
section
variable{X:Cx}{E:Str->Hp->Prop}{pos:Pos}
def agp(K:ak):R2:=λx y H Q=>∃l b xs zs,x=.ref l/\y=.ref b/\gb K H l xs/\gb K H b zs/\xs.length+zs.length<=aI/\∀p,H p=none->Q (.ref p) (upd H p (.lst (xs++zs)))
def XG:y7 X (lS .Add) (agp X.K):=by
 intro pins s σ H x y v u Q I rx ry h;obtain⟨l,b,xs,zs,rfl,rfl,hH,hB,hz,q⟩:=h;cases rx;cases ry;obtain⟨its,r,p1,z1⟩:=I.list hH;obtain⟨its2,r2,p2,z2⟩:=I.list hB;have hl:=r.length;have hl2:=r2.length;obtain⟨o1,n1,e1,c1,d1,t1⟩:=p1;obtain⟨o2,n2,e2,c2,d2,t2⟩:=p2;obtain⟨oc,od,oda,RJ⟩:=o1;obtain⟨oc2,od2,aj1,aj2⟩:=o2;have c1':oc=_:=c1;have d1':od=_:=d1;have t1':oda=_:=t1;have c2':oc2=_:=c2;have d2':od2=_:=d2;have t2':aj1=_:=t2;subst c1' d1' t1' c2' d2' t2';have ea:its.toArray++its2.toArray=(its++its2).toArray:=by simp
 refine concat_meets ⟨_,e1,rfl⟩ ⟨_,e2,rfl⟩ noFill_list_add seq_list_add PySem.F.slot_list_add PySem.F.entry_list_add (PySem.F.args_list_add_2 _ _) (list_addW l b its.toArray its2.toArray n1 n2 none none RJ aj2 (by rw[cW,cW];lia)) ⟨e1,e2,?_⟩;rw[ea];exact⟨.ref _,_,I.agc (t':=s.toks) (r.append r2) (by rw[bO];lia),rfl,q _ I.fresh⟩
def Jp{a b:ao}{fa fb:DE->R (List D)}(ha:PE X a (tL X.K E fa))(hb:PE X b (tL X.K E fb)):PE X (.BinOp a .Add b pos) (tF X.K E λenv=>(fa env).bind λx=>(fb env).bind λy=>fit (x++y)):=
 imp (yr XG ha hb) λσ H Q ⟨g,env,os,r,m⟩=>⟨g,env,os,r,m.bind.mono λx _ m1 a1 v1 H1 s1 q1 i1=>⟨g,env,os,r.same s1,m1.bind.mono λy _ m2 a2 v2 H2 s2 q2 i2=>by
  obtain⟨z,q⟩:=m2.fit;rw[bO]at z;refine⟨a1,a2,v1,v2,rfl,rfl,s2.seq q1,q2,by rw[i1.length,i2.length];exact z,λp hp=>?_⟩;obtain⟨b1,b2,b3,b4⟩:=LA r (s1.trans s2) hp ((i1.same s2).app i2);exact q p _ _ b1 b2 b3 b4⟩⟩
def tO(K:ak)(E:Str->Hp->Prop)(f:DE->R (Option Int)):TO:=λσ H Q=>∃g env os,Rel K g env σ H os/\Good E g.H₀ (f env) λo=>∀H',bK H H'->Q o H'
def agq{e:Option ao}{t t':TO}(h:L2.PO X e t)(w:∀σ H Q,t' σ H Q->t σ H Q):L2.PO X e t':=λpins s σ H Q I q=>h pins s σ H Q I (w σ H Q q)
def oNo:L2.PO X none (tO X.K E λ_=>.ok none):=agq Nh λσ H Q ⟨g,env,os,r,m⟩=>m H (bK.refl H)
def RK:D->R (Option Int)
 |.int i=>.ok (aa i)
 |_=>.bad
def E6{e:ao}{f:DE->R D}(h:PE X e (tB X.K E f)):L2.PO X (aa e) (tO X.K E λenv=>(f env).bind RK):=agq (Ni h) λσ H Q ⟨g,env,os,r,m⟩=>⟨g,env,os,r,m.bind.mono λd _ q v H' s i=>by
 cases d with
 |int k=>exact⟨k,i,q H' s⟩
 |non=>exact q.elim
 |bl _=>exact q.elim
 |lst _=>exact q.elim
 |str _=>exact q.elim
 |exc _=>exact q.elim
 |fn _=>exact q.elim
 |tup _=>exact q.elim⟩
def cut{α:Type}(xs:List α)(lo hi:Option Int):List α:=(xs.drop (HT.Du xs.length 0 lo)).take (HT.Du xs.length xs.length hi-HT.Du xs.length 0 lo)
theorem IsL.cut {K:ak}{P:ae->Prop}{H:Hp}{ds:List D}{vs:List V}(h:IsL K P H ds vs)(lo hi:Option Int):IsL K P H (DL.cut ds lo hi) (EZ vs lo hi):=by
 unfold DL.cut EZ;rw[h.length];exact(h.drop _).take _
def uA{e:ao}{lo hi:Option ao}{f:DE->R (List D)}{fl fh:DE->R (Option Int)}{p2:Pos}(he:PE X e (tL X.K E f))(hl:L2.PO X lo (tO X.K E fl))(hh:L2.PO X hi (tO X.K E fh)):
  PE X (.Subscript e (.Slice lo hi none p2) pos) (tF X.K E λenv=>(f env).bind λx=>(fl env).bind λl=>(fh env).bind λh=>.ok (cut x l h)):=
 imp (Jb Nr he hl hh) λσ H Q ⟨g,env,os,r,m⟩=>⟨g,env,os,r,m.bind.mono λx _ m1 a1 v1 H1 s1 q1 i1=>⟨g,env,os,r.same s1,m1.bind.mono λl _ m2 H2 s2=>⟨g,env,os,r.same (s1.trans s2),m2.bind.mono λh _ m3 H3 s3=>by
  refine⟨a1,v1,rfl,s3.seq (s2.seq q1),λp hp=>?_⟩;obtain⟨b1,b2,b3,b4⟩:=LA r (s1.trans (s2.trans s3)) hp (((i1.same s2).same s3).cut l h);exact m3 p _ _ b1 b2 b3 b4⟩⟩⟩
theorem IsL.jJ {K:ak}{P:ae->Prop}{H:Hp}{ds:List D}{vs:List V}{i:Int}{d:D}(h:IsL K P H ds vs)(e:L2.jJ ds i=aa d):∃v,L2.jJ vs i=aa v/\Is K P H d v:=by
 unfold L2.jJ at e⊢;rw[h.length];cases q:yW ds.length i with
 |none=>rw[q]at e;cases e
 |some j=>
  rw[q]at e;exact h.get e
def yh:D->D->R D
 |.lst xs,.int i=>R.of (jJ xs i)
 |.tup xs,.int i=>R.of (jJ xs i)
 |_,_=>.bad
def EL{a b:ao}{fa fb:DE->R D}(ha:PE X a (tD X.K E fa))(hb:PE X b (tB X.K E fb))(hs:uq b:=by exact λ_ _=>rfl):PE X (.Subscript a b pos) (tD X.K E λenv=>(fa env).bind λx=>(fb env).bind λy=>yh x y):=
 imp (j7 Sw ha hb hs) λσ H Q ⟨g,env,os,r,m⟩=>⟨g,env,os,r,m.bind.mono λx _ m1 v H1 s1 i1=>⟨g,env,os,r.same s1,m1.bind.mono λy _ m2 w H2 s2 i2=>by
  unfold yh at m2;split at m2
  ·rename_i xs i _ _
   obtain⟨d,e,q⟩:=m2.of;have Wa:=i1.same s2;obtain⟨a,vs,rfl,h1,h2⟩:=Wa;obtain⟨z,e2,h3⟩:=IsL.jJ h2 e;exact .inl ⟨a,vs,i,z,rfl,i2,h1.sq,e2,q z H2 (s1.trans s2) h3⟩
  ·rename_i xs i _ _
   obtain⟨d,e,q⟩:=m2.of;have Wa:=i1.same s2;obtain⟨a,vs,rfl,h1,h2⟩:=Wa;obtain⟨z,e2,h3⟩:=IsL.jJ h2 e;exact .inr (.inl ⟨a,vs,i,z,rfl,i2,h1.sq,e2,q z H2 (s1.trans s2) h3⟩)
  ·exact m2.elim⟩⟩
def bIx{a b:ao}{fa fb:DE->R D}(ha:PE X a (tB X.K E fa))(hb:PE X b (tB X.K E fb))(hs:uq b:=by exact λ_ _=>rfl):PE X (.Subscript a b pos) (tB X.K E λenv=>(fa env).bind λx=>(fb env).bind λy=>yh x y):=
 imp (j7 Sw ha hb hs) λσ H Q ⟨g,env,os,r,m⟩=>⟨g,env,os,r,m.bind.mono λx _ m1 v H1 s1 i1=>⟨g,env,os,r.same s1,m1.bind.mono λy _ m2 w H2 s2 i2=>by
  unfold yh at m2;split at m2
  ·rename_i xs i _ _
   obtain⟨d,e,q⟩:=m2.of;have Wa:=i1.same s2;obtain⟨a,vs,rfl,h1,h2⟩:=Wa;obtain⟨z,e2,h3⟩:=IsL.jJ h2 e;exact .inl ⟨a,vs,i,z,rfl,i2,h1.sq,e2,q z H2 (s1.trans s2) h3⟩
  ·rename_i xs i _ _
   obtain⟨d,e,q⟩:=m2.of;have Wa:=i1.same s2;obtain⟨a,vs,rfl,h1,h2⟩:=Wa;obtain⟨z,e2,h3⟩:=IsL.jJ h2 e;exact .inr (.inl ⟨a,vs,i,z,rfl,i2,h1.sq,e2,q z H2 (s1.trans s2) h3⟩)
  ·exact m2.elim⟩⟩
def E7(xs:List D):D->R D
 |.int i=>R.of (jJ xs i)
 |_=>.bad
def IS{a b:ao}{fa:DE->R (List D)}{fb:DE->R D}(ha:PE X a (tL X.K E fa))(hb:PE X b (tB X.K E fb))(hs:uq b:=by exact λ_ _=>rfl):PE X (.Subscript a b pos) (tD X.K E λenv=>(fa env).bind λx=>(fb env).bind λy=>E7 x y):=
 imp (j7 iN ha hb hs) λσ H Q ⟨g,env,os,r,m⟩=>⟨g,env,os,r,m.bind.mono λx _ m1 a1 v1 H1 s1 q1 i1=>⟨g,env,os,r.same s1,m1.bind.mono λy _ m2 w H2 s2 i2=>by
  unfold E7 at m2;split at m2
  ·rename_i i _
   obtain⟨d,e,q⟩:=m2.of;obtain⟨z,e2,h3⟩:=(i1.same s2).jJ e;exact⟨a1,v1,i,z,rfl,i2,s2.seq q1,e2,q z H2 (s1.trans s2) h3⟩
  ·exact m2.elim⟩⟩
def XH(X:Cx)(r:List V->Hp->VK->Prop)(k:List D->Option D):Prop:=∀ds d,k ds=aa d->∃z,toV d=aa z/\∀H vs (Q:VK),IsL X.K Tr H ds vs->Q z H->r vs H Q
def ng{id:String}{x:Str}{p:Pos}{e:ao}{es:List ao}{f:DE->R (List D)}{r:List V->Hp->VK->Prop}{k:List D->Option D}(hc:yq X (.builtin id) r)(hk:XH X r k)(hm:X.mg x=none)(hv:fj x=aa (.builtin id))(ha:PA X (e::es) (yf X.K E f))
  (hg:Gl X x:=by rfl)(hn:x≠"__name__":=by decide)(hdb:(x==("__debug__":Str))=false:=by decide)
  (he:ar (e::es) X.env=(false,aA e X.env)::ar es X.env:=by rfl)(hpl:(bA pos (ar es X.env)).any (·.1)=false:=by rfl):PE X (.Call (.Name x p) (e::es) [] pos) (tD X.K E λenv=>(f env).bind λds=>R.of (k ds)):=
 imp (oU hc hg hm hv ha hn hdb he hpl) λσ H Q ⟨g,env,os,r,m⟩=>⟨g,env,os,r,m.bind.mono λds _ m1 vs H1 s1 i1=>by
  obtain⟨d,e,q⟩:=m1.of;obtain⟨z,hz,hk⟩:=hk ds d e;exact hk H1 vs Q i1 (q z H1 s1 (Is.sc hz))⟩
def IsL.Hh {K:ak}{P:ae->Prop}{H:Hp}{d:D}{vs:List V}(h:IsL K P H [d] vs):∃v,vs=[v]/\Is K P H d v:=by
 obtain⟨v,r,rfl,p,q⟩:=h;have q':r=[]:=q;subst q';exact⟨v,rfl,p⟩
def IsL.QM {K:ak}{P:ae->Prop}{H:Hp}{d d2:D}{vs:List V}(h:IsL K P H [d,d2] vs):∃v w,vs=[v,w]/\Is K P H d v/\Is K P H d2 w:=by
 obtain⟨v,r,rfl,p,q⟩:=h;obtain⟨w,rfl,p2⟩:=IsL.Hh q;exact⟨v,w,rfl,p,p2⟩
def vL:List D->Option D
 |[.lst xs]=>aa (.int xs.length)
 |[.tup xs]=>aa (.int xs.length)
 |[.str x]=> @ite _ (x.length<=aI) (dR _) (aa (.int x.length)) (none)
 |_=>none
def jm:XH X (λxs H Q=>∃x n,xs=[x]/\af0 X.K x H n/\Q (.int n) H) vL:=λds d e=>by
 unfold vL at e;split at e
 ·rename_i xs
  cases e;refine⟨_,rfl,λH vs Q i q=>?_⟩;obtain⟨v,rfl,a,ws,rfl,h1,h2⟩:=IsL.Hh i;exact⟨_,_,rfl,.inl ⟨ws,h1.sq,(IsL.length h2).symm⟩,q⟩
 ·rename_i xs
  cases e;refine⟨_,rfl,λH vs Q i q=>?_⟩;obtain⟨v,rfl,a,ws,rfl,h1,h2⟩:=IsL.Hh i;exact⟨_,_,rfl,.inr ⟨ws,h1.sq,(IsL.length h2).symm⟩,q⟩
 ·split at e
  ·rename_i x c
   cases e;refine⟨_,rfl,λH vs Q i q=>?_⟩;obtain⟨v,rfl,i2⟩:=IsL.Hh i;have i':v=.str x:=i2;subst i';exact⟨_,_,rfl,⟨c,rfl⟩,q⟩
  ·cases e
 ·cases e
def QN:List D->Option D
 |[.int i]=>aa (.int (if i<0 then-i else i))
 |_=>none
def Hi:XH X (λxs H Q=>∃i,xs=[.int i]/\Q (.int (if i<0 then-i else i)) H) QN:=λds d e=>by
 unfold QN at e;split at e
 ·rename_i i
  cases e;refine⟨_,rfl,λH vs Q h q=>?_⟩;obtain⟨v,rfl,h1⟩:=IsL.Hh h;have h':v=.int i:=h1;subst h';exact⟨i,rfl,q⟩
 ·cases e
def NP:List D->Option D
 |[.int i,.int j]=>aa (.int (if j>i then j else i))
 |_=>none
def SS:XH X (λxs H Q=>∃i j,xs=[.int i,.int j]/\Q (.int (if j>i then j else i)) H) NP:=λds d e=>by
 unfold NP at e;split at e
 ·rename_i i j
  cases e;refine⟨_,rfl,λH vs Q h q=>?_⟩;obtain⟨v,w,rfl,h1,h2⟩:=IsL.QM h;have h':v=.int i:=h1;have h2':w=.int j:=h2;subst h' h2';exact⟨i,j,rfl,q⟩
 ·cases e
def NQ{p:Pos}{a:ao}{f:DE->R (List D)}(hm:X.mg "list"=none)(ha:PE X a (tL X.K E f))(hg:Gl X "list":=by rfl)
  (he:ar [a] X.env=(false,aA a X.env)::ar [] X.env:=by rfl)(hpl:(bA pos (ar [] X.env)).any (·.1)=false:=by rfl):PE X (.Call (.Name "list" p) [a] [] pos) (tF X.K E f):=
 imp (xx uv hg hm (by decide +kernel) (bh ha bV he) (by decide) (by decide) he hpl) λσ H Q ⟨g,env,os,r,m⟩=>⟨g,env,os,r,m.mono λx _ m1 a1 v1 H1 s1 q1 i1=>
  ⟨a1,v1,rfl,.inl q1,λp hp=>by
   obtain⟨b1,b2,b3,b4⟩:=LA r s1 hp i1;exact m1 p _ _ b1 b2 b3 b4⟩⟩
def NR(K:ak)(xc:Str->ah)(m:List D->R D):Sp:=λvs H Q E=>∃P ds,IsL K P H ds vs/\(match m ds with
 |.ok d=>∀v H',bK H H'->Is K (λa=>P a\/H a=none) H' d v->Q v H'
 |.err c=>∀H',bK H H'->E (xc c) none H'
 |.bad=>False)
noncomputable def Wb(K:ak)(xc:Str->ah)(m:List D->R (List D)):Sp:=λvs H Q E=>∃P ds,IsL K P H ds vs/\(match m ds with
 |.ok xs=>∀a ws H',bK H H'->H a=none->H' a=aa (.lst ws)->IsL K (λb=>(P b\/H b=none)/\b≠a) H' xs ws->Q (.ref a) H'
 |.err c=>∀H',bK H H'->E (xc c) none H'
 |.bad=>False)
def EX(xc:Str->ah)(E:Str->Hp->Prop):XK:=λc _ H'=>∃n,c=xc n/\E n H'
def pS{E:XK}:Passes qv X E:=λ_ _ _ _ _ _ _ h=>h.elim
variable{CX:RG}{k:Nat}{fa:ae}{fd:aL}{ps:List Str}{xc:Str->ah}{x:Str}{p:Pos}{e:ao}{es:List ao}{f:DE->R (List D)}
def fD{m:List D->R D}(F:fM X.prog X.w X.K X.mg X.base CX k fa fd ps (NR X.K xc m))(hm:X.mg x=aa (.ref fa))(hk:ko X.K (.ref fa)=true)(hb:Binds X.K fd ps [])(hr:cV k X.A)(hx:Passes CX X (EX xc E))
  (ha:PA X (e::es) (QK X.K E f))(hg:Gl X x:=by rfl)(hdb:(x==("__debug__":Str))=false:=by decide)(he:ar (e::es) X.env=(false,aA e X.env)::ar es X.env:=by rfl)(hpl:(bA pos (ar es X.env)).any (·.1)=false:=by rfl):
  PE X (.Call (.Name x p) (e::es) [] pos) (tD X.K E λenv=>(f env).bind m):=
 imp (g4 F hr hg hm hk hb .nil hx ha hdb he hpl) λσ H Q ⟨g,env,os,r,q⟩=>⟨g,env,os,r,q.bind.mono λds _ q1 vs H1 s1 i1=>by
  show NR X.K xc m (vs++[]) H1 Q _;rw[bE];refine⟨g.P os,ds,i1,?_⟩;cases em:m ds with
  |ok d=>
   rw[em]at q1;intro v H' s' i';exact q1 v H' (s1.trans s') (Is.ext ⟨λa o pa _=>pa.elim (λz=>z) λz=>(r.same s1).fresh z,λ_ _ _ z=>z⟩ _ _ i')
  |err c=>
   rw[em]at q1;intro H' s';exact⟨c,rfl,q1 H' (r.ext.trans (s1.trans s'))⟩
  |bad=>rw[em]at q1;exact q1⟩
def fB{m:List D->R D}(F:fM X.prog X.w X.K X.mg X.base CX k fa fd ps (NR X.K xc m))(hsc:∀ds d,m ds=.ok d->∃z,toV d=aa z)(hm:X.mg x=aa (.ref fa))(hk:ko X.K (.ref fa)=true)(hb:Binds X.K fd ps [])(hr:cV k X.A)(hx:Passes CX X (EX xc E))
  (ha:PA X (e::es) (yf X.K E f))(hg:Gl X x:=by rfl)(hdb:(x==("__debug__":Str))=false:=by decide)(he:ar (e::es) X.env=(false,aA e X.env)::ar es X.env:=by rfl)(hpl:(bA pos (ar es X.env)).any (·.1)=false:=by rfl):
  PE X (.Call (.Name x p) (e::es) [] pos) (tD X.K E λenv=>(f env).bind m):=
 imp (g4 F hr hg hm hk hb .nil hx ha hdb he hpl) λσ H Q ⟨g,env,os,r,q⟩=>⟨g,env,os,r,q.bind.mono λds _ q1 vs H1 s1 i1=>by
  show NR X.K xc m (vs++[]) H1 Q _;rw[bE];refine⟨Tr,ds,i1,?_⟩;cases em:m ds with
  |ok d=>
   rw[em]at q1;intro v H' s' i';obtain⟨z,hz⟩:=hsc ds d em;have e2:=Is.aaw hz i';subst e2;exact q1 _ H' (s1.trans s') (Is.sc hz)
  |err c=>
   rw[em]at q1;intro H' s';exact⟨c,rfl,q1 H' (r.ext.trans (s1.trans s'))⟩
  |bad=>rw[em]at q1;exact q1⟩
def fF{m:List D->R (List D)}(F:fM X.prog X.w X.K X.mg X.base CX k fa fd ps (Wb X.K xc m))(hm:X.mg x=aa (.ref fa))(hk:ko X.K (.ref fa)=true)(hb:Binds X.K fd ps [])(hr:cV k X.A)(hx:Passes CX X (EX xc E))
  (ha:PA X (e::es) (QK X.K E f))(hg:Gl X x:=by rfl)(hdb:(x==("__debug__":Str))=false:=by decide)(he:ar (e::es) X.env=(false,aA e X.env)::ar es X.env:=by rfl)(hpl:(bA pos (ar es X.env)).any (·.1)=false:=by rfl):
  PE X (.Call (.Name x p) (e::es) [] pos) (tF X.K E λenv=>(f env).bind m):=
 imp (g4 F hr hg hm hk hb .nil hx ha hdb he hpl) λσ H Q ⟨g,env,os,r,q⟩=>⟨g,env,os,r,q.bind.mono λds _ q1 vs H1 s1 i1=>by
  show Wb X.K xc m (vs++[]) H1 Q _;rw[bE];refine⟨g.P os,ds,i1,?_⟩;cases em:m ds with
  |ok d=>
   rw[em]at q1;intro a ws H' s' hn hH i';exact q1 a ws H' (s1.trans s') (s1.free hn) hH (IsL.ext ⟨λb o pb _=>by
    have z:g.P os b:=pb.1.elim (λz=>z) λz=>(r.same s1).fresh z;exact⟨z.1,λhm=>(aX.mp hm).elim pb.2 z.2⟩,λ_ _ _ z=>z⟩ _ _ i')
  |err c=>
   rw[em]at q1;intro H' s';exact⟨c,rfl,q1 H' (r.ext.trans (s1.trans s'))⟩
  |bad=>rw[em]at q1;exact q1⟩
theorem scs{K:ak}{P P':ae->Prop}{H:Hp}:∀{ds:List D}{vs:List V},(∀d∈ds,∃z,toV d=aa z)->IsL K P H ds vs->IsL K P' H ds vs
 |[],_,_,h=>h
 |d::ds,_,hs,⟨v,r,e,p,q⟩=>by
  obtain⟨z,hz⟩:=hs d (by simp);have e2:=Is.aaw hz p;exact⟨v,r,e,by rw[e2];exact Is.sc hz,scs (λd hd=>hs d (by simp[hd])) q⟩
def fFB{m:List D->R (List D)}(F:fM X.prog X.w X.K X.mg X.base CX k fa fd ps (Wb X.K xc m))(hsc:∀ds xs,m ds=.ok xs->∀d∈xs,∃z,toV d=aa z)(hm:X.mg x=aa (.ref fa))(hk:ko X.K (.ref fa)=true)(hb:Binds X.K fd ps [])(hr:cV k X.A)(hx:Passes CX X (EX xc E))
  (ha:PA X (e::es) (yf X.K E f))(hg:Gl X x:=by rfl)(hdb:(x==("__debug__":Str))=false:=by decide)(he:ar (e::es) X.env=(false,aA e X.env)::ar es X.env:=by rfl)(hpl:(bA pos (ar es X.env)).any (·.1)=false:=by rfl):
  PE X (.Call (.Name x p) (e::es) [] pos) (tF X.K E λenv=>(f env).bind m):=
 imp (g4 F hr hg hm hk hb .nil hx ha hdb he hpl) λσ H Q ⟨g,env,os,r,q⟩=>⟨g,env,os,r,q.bind.mono λds _ q1 vs H1 s1 i1=>by
  show Wb X.K xc m (vs++[]) H1 Q _;rw[bE];refine⟨Tr,ds,i1,?_⟩;cases em:m ds with
  |ok d=>
   rw[em]at q1;intro a ws H' s' hn hH i';exact q1 a ws H' (s1.trans s') (s1.free hn) hH (scs (hsc ds d em) i')
  |err c=>
   rw[em]at q1;intro H' s';exact⟨c,rfl,q1 H' (r.ext.trans (s1.trans s'))⟩
  |bad=>rw[em]at q1;exact q1⟩
end
def cg(r:R Out)(k:DE->R Out):R Out:=r.bind λo=>match o with
 |.nx e=>k e
 |o=>.ok o
noncomputable def iO(b:D->DE->R Out):List D->DE->R Out
 |[],e=>.ok (.nx e)
 |x::xs,e=>(b x e).bind λo=>match o with
  |.nx e'=>iO b xs e'
  |.ct e'=>iO b xs e'
  |.bk e'=>.ok (.nx e')
  |.rt d=>.ok (.rt d)
  |.uz ys=>.ok (.uz ys)
  |.CF ys=>.ok (.CF ys)
  |.FN ys=>.ok (.FN ys)
  |.Lz ys=>.ok (.Lz ys)
  |.FJ ys=>.ok (.FJ ys)
noncomputable def sy(c:DE->R Bool)(b:DE->R Out):Nat->DE->R Out
 |0,_=>.bad
 |n+1,e=>(c e).bind λt=>if t=true then(b e).bind λo=>match o with
  |.nx e'=>sy c b n e'
  |.ct e'=>sy c b n e'
  |.bk e'=>.ok (.nx e')
  |.rt d=>.ok (.rt d)
  |.uz ys=>.ok (.uz ys)
  |.CF ys=>.ok (.CF ys)
  |.FN ys=>.ok (.FN ys)
  |.Lz ys=>.ok (.Lz ys)
  |.FJ ys=>.ok (.FJ ys)else .ok (.nx e)
section
variable{X:Cx}{E:Str->Hp->Prop}{pos:Pos}
def lL:xj X [] (tS X.K E λe=>.ok (.nx e)):=aax rz λDe σ H ⟨g,env,os,r,m⟩=>m σ H os r (.refl H os)
def br{st:aC}{rest:List aC}{f k:DE->R Out}(h1:PS X st (tS X.K E f))(h2:xj X rest (tS X.K E k)):xj X (st::rest) (tS X.K E λe=>cg (f e) k):=
 aax (bF h1 h2) λDe σ H ⟨g,env,os,r,m⟩=>⟨g,env,os,r,(show Good E g.H₀ ((f env).bind _) _ from m).bind.mono λo _ q=>by
  cases o with
  |nx e'=>exact λσ' H' os' r' z=>⟨g,e',os',r',Good.mono (show Good E g.H₀ (k e') _ from q) λo _ q=>gy.step z q⟩
  |bk e'=>exact q
  |ct e'=>exact q
  |rt d=>exact q
  |uz xs=>exact q
  |CF xs=>exact q
  |FN xs=>exact q
  |Lz xs=>exact q
  |FJ xs=>exact q⟩
def cG{st:aC}{f:DE->R Out}(h1:PS X st (tS X.K E f)):xj X [st] (tS X.K E f):=fq h1
def agr{g:Gh}{os:List ae}{K:ak}{H:Hp}{d:D}{v:V}(h:Is K (g.P os) H d v):Is K (g.P []) H d v:=Is.ext ⟨λ_ _ p _=>⟨p.1,by simp⟩,λ_ _ _ q=>q⟩ _ _ h
def iC{e:ao}{f:DE->R D}(he:PE X e (tD X.K E f)):PS X (.Return (aa e) pos) (tS X.K E λenv=>(f env).bind λd=>.ok (.rt d)):=
 oV (nq he) λDe σ H ⟨g,env,os,r,m⟩=>⟨g,env,os,r,m.bind.mono λd _ q v H' s i=>q v H' (r.ext.trans s) (agr i)⟩
def sY{e:ao}{f:DE->R (List D)}(he:PE X e (tF X.K E f)):PS X (.Return (aa e) pos) (tS X.K E λenv=>(f env).bind λd=>.ok (.uz d)):=
 oV (nq he) λDe σ H ⟨g,env,os,r,m⟩=>⟨g,env,os,r,m.bind.mono λxs _ q a vs H' s hn hH i=>
  q a vs H' (r.ext.trans s) (r.ext.free hn) hH (IsL.ext ⟨λb o p _=>⟨p.1,λz=>p.2 (by simp at z;simp[z])⟩,λ_ _ _ q=>q⟩ _ _ i)⟩
def ownAt(i:Nat)(env:DE):R (List D):=match env[i]? with
 |some (.own xs)=>.ok xs
 |_=>.bad
theorem Good.own {H₀:Hp}{i:Nat}{env:DE}{p:List D->Prop}(h:Good E H₀ (ownAt i env) p):∃xs,env[i]?=aa (.own xs)/\p xs:=by
 unfold ownAt at h;split at h
 ·rename_i xs e
  exact⟨xs,e,h⟩
 ·exact h.elim
def Jq(i:Nat){x:Str}{p:Pos}(hN:X.N[i]?=aa x:=by rfl)(hv:BI X.env.scope x:=by first|exact aR rfl|exact aS (aR rfl)|exact aS (aS rfl))(hd:(x==("__debug__":Str))=false:=by decide)
  (hcd:(x==("__classdict__":Str))=false:=by decide):PS X (.Return (aa (.Name x p)) pos) (tS X.K E λenv=>(ownAt i env).bind λxs=>.ok (.uz xs)):=
 oV (nq (ju hN hv hd hcd)) λDe σ H ⟨g,env,os,r,m⟩=>by
  obtain⟨xs,e,q⟩:=m.bind.own;obtain⟨a,vs,h1,h2,h3,h4⟩:=r.own i xs e;exact⟨.ref a,h1,q a vs H r.ext (r.new a h2).1 h3 (IsL.ext ⟨λb o p _=>⟨p.1,λz=>p.2 (by simp at z;rw[z];exact h2)⟩,λ_ _ _ q=>q⟩ _ _ h4)⟩
def yv{c:ao}{a b:List aC}{fc:DE->R Bool}{fa fb:DE->R Out}(hc:PT X c (tT X.K E fc))(ha:xj X a (tS X.K E fa))(hb:xj X b (tS X.K E fb)):PS X (.If c a b pos) (tS X.K E λenv=>(fc env).bind λt=>if t=true then fa env else fb env):=
 oV (BJ hc ha hb) λDe σ H ⟨g,env,os,r,m⟩=>⟨g,env,os,r,m.bind.mono λt _ q H' s=>by
  cases t with
  |true=>
   rw[if_pos rfl];exact⟨g,env,os,r.same s,Good.mono (show Good E g.H₀ (fa env) _ from q) λo _ q2=>gy.step (.same s os) q2⟩
  |false=>
   rw[if_neg di];exact⟨g,env,os,r.same s,Good.mono (show Good E g.H₀ (fb env) _ from q) λo _ q2=>gy.step (.same s os) q2⟩⟩
def jy(i:Nat){x:Str}{e:ao}{f:DE->R D}{pos':Pos}(he:PE X e (tD X.K E f))(hN:X.N.Nodup)(hi:X.N[i]?=aa x:=by rfl)(hx:Loc X.env.scope x:=by first|exact aR rfl|exact aS rfl)(hs:gk e (aa (.Name x pos')) pos.line X.env=bc false:=by rfl)
  (hf:X.fn x=true\/X.env.scope.names.lookup x=aa .local:=by first|exact .inl rfl|exact .inr rfl|assumption):PS X (.Assign [.Name x pos'] e pos) (tS X.K E λenv=>(f env).bind λd=>.ok (.nx (env.set i (.val d)))):=
 oV (gS hN hi hx he hs hf) λDe σ H ⟨g,env,os,r,m⟩=>⟨g,env,os,r,m.bind.mono λd _ q v H' s h=>q _ H' os ((r.same s).set i h) (.same s os)⟩
def yu.new {H H':Hp}{os:List ae}{a:ae}(s:bK H H')(hn:H a=none):yu H os H' (a::os):=
 ⟨λb hb=>(aX.mp hb).elim (λz=>.inr (by rw[z];exact hn)) .inl,λ_ h=>s.free h,λ_ _ _ h=>s _ _ h⟩
def yw(i:Nat){x:Str}{e:ao}{f:DE->R (List D)}{pos':Pos}(he:PE X e (tF X.K E f))(hN:X.N.Nodup)(hi:X.N[i]?=aa x:=by rfl)(hx:Loc X.env.scope x:=by first|exact aR rfl|exact aS rfl)(hs:gk e (aa (.Name x pos')) pos.line X.env=bc false:=by rfl)
  (hf:X.fn x=true\/X.env.scope.names.lookup x=aa .local:=by first|exact .inl rfl|exact .inr rfl|assumption):PS X (.Assign [.Name x pos'] e pos) (tS X.K E λenv=>(f env).bind λd=>.ok (.nx (env.set i (.own d)))):=
 oV (gS hN hi hx he hs hf) λDe σ H ⟨g,env,os,r,m⟩=>⟨g,env,os,r,m.bind.mono λd _ q a vs H' s hn hH h=>q _ H' (a::os) (r.agl s i hn hH h) (.new s hn)⟩
def yu.mut {H:Hp}{os:List ae}{a:ae}{o:HO}(ha:a∈os):yu H os (upd H a o) os:=
 ⟨λb hb=>.inl hb,λb h=>by
  by_cases z:b=a
  ·subst z;rw[aT]at h;cases h
  ·rw[aH z]at h;exact h,λb u hb h=>by rw[aH (λz=>hb (by rw[z];exact ha))];exact h⟩
def Dq(i:Nat)(env:DE):DE:=match env[i]? with
 |some (.own xs)=>env.set i (.val (.lst xs))
 |_=>env
def aj5(i:Nat){x:Str}{e:ao}{f:DE->R D}{p apos cL:Pos}(he:PE X e (tD X.K E f))(hN:X.N[i]?=aa x:=by rfl)(hv:BI X.env.scope x:=by first|exact aR rfl|exact aS (aR rfl)|exact aS (aS rfl))(hd:(x==("__debug__":Str))=false:=by decide)
  (hcd:(x==("__classdict__":Str))=false:=by decide)
  (hbase:iK (.Name x p) "append" X.env (aA (.Name x p) X.env)=aA (.Name x p) X.env:=by rfl)
  (hfew:((bA cL (ar [e] X.env)).all (λx=> !x.1)&&(lW cL (lY [] X.env)).all (λx=>x.1.isSome)
   &&decide ([e].length+([]:List fU).length+(if([]:List fU).isEmpty then 0 else 1)<30))=true:=by rfl)
  (hline:(apos.endLine==cL.line)=true:=by rfl)(hst:ar [e] X.env=(false,aA e X.env)::ar [] X.env:=by rfl)(hplain:(bA cL (ar [] X.env)).any (·.1)=false:=by rfl)
  (hs:gk (.Call (.Attribute (.Name x p) "append" apos) [e] [] cL) none pos.line X.env=bc false:=by rfl):
  PS X (.Expr (.Call (.Attribute (.Name x p) "append" apos) [e] [] cL) pos) (tS X.K E λenv=>(ownAt i env).bind λxs=>(f env).bind λd=> @ite _ (xs.length<aI) (dR _) (.ok (.nx (env.set i (.own (xs++[d]))))) (.bad)):=
 oV (jM (yt kB uB uC i7 (ju hN hv hd hcd) (bh he bV hst) hbase hfew hline hst hplain) hs) λDe σ H ⟨g,env,os,r,m⟩=>by
  obtain⟨xs,e,m1⟩:=m.bind.own;obtain⟨a,vs,h1,h2,h3,h4⟩:=r.own i xs e;refine⟨.ref a,h1,.inl ⟨rfl,vs,gb.of h3⟩,g,env,os,r,m1.bind.mono λd _ q v H' s hi=>?_⟩;split at q
  ·rename_i c
   refine⟨a,vs,v,rfl,rfl,s _ _ h3,by rw[h4.length];exact c,?_⟩;exact q σ _ os ((r.same s).mut e h1 h2 ((h4.same s).app (.one hi))) ((yu.same s os).trans (.mut h2))
  ·exact q.elim
def aj6(i:Nat){x:Str}{p apos cL:Pos}(hN:X.N[i]?=aa x:=by rfl)(hv:BI X.env.scope x:=by first|exact aR rfl|exact aS (aR rfl)|exact aS (aS rfl))(hd:(x==("__debug__":Str))=false:=by decide)
  (hcd:(x==("__classdict__":Str))=false:=by decide)
  (hbase:iK (.Name x p) "pop" X.env (aA (.Name x p) X.env)=aA (.Name x p) X.env:=by rfl)(hline:(apos.endLine==cL.line)=true:=by rfl)
  (hs:gk (.Call (.Attribute (.Name x p) "pop" apos) [] [] cL) none pos.line X.env=bc false:=by rfl):
  PS X (.Expr (.Call (.Attribute (.Name x p) "pop" apos) [] [] cL) pos) (tS X.K E λenv=>(ownAt i env).bind λxs=>if 0<xs.length then .ok (.nx (env.set i (.own xs.dropLast)))else .bad):=
 oV (jM (Hb kB XI XJ SA (ju hN hv hd hcd) hbase hline) hs) λDe σ H ⟨g,env,os,r,m⟩=>by
  obtain⟨xs,e,m1⟩:=m.bind.own;obtain⟨a,vs,h1,h2,h3,h4⟩:=r.own i xs e;split at m1
  ·rename_i c
   have hl:=h4.length;refine⟨.ref a,h1,.inl ⟨rfl,vs,gb.of h3⟩,a,vs,vs[vs.length-1],rfl,rfl,h3,by rw[bj (by lia)],?_⟩;refine m1 σ _ os (r.mut e h1 h2 ?_) (.mut h2);rw[Hj,Hj,hl];exact h4.take _
  ·exact m1.elim
def aj7(i:Nat){x:Str}{e:ao}{f:DE->R (List D)}{p apos cL:Pos}(he:PE X e (tF X.K E f))(hN:X.N[i]?=aa x:=by rfl)(hv:BI X.env.scope x:=by first|exact aR rfl|exact aS (aR rfl)|exact aS (aS rfl))(hd:(x==("__debug__":Str))=false:=by decide)
  (hcd:(x==("__classdict__":Str))=false:=by decide)
  (hbase:iK (.Name x p) "extend" X.env (aA (.Name x p) X.env)=aA (.Name x p) X.env:=by rfl)
  (hfew:((bA cL (ar [e] X.env)).all (λx=> !x.1)&&(lW cL (lY [] X.env)).all (λx=>x.1.isSome)
   &&decide ([e].length+([]:List fU).length+(if([]:List fU).isEmpty then 0 else 1)<30))=true:=by rfl)
  (hline:(apos.endLine==cL.line)=true:=by rfl)(hst:ar [e] X.env=(false,aA e X.env)::ar [] X.env:=by rfl)(hplain:(bA cL (ar [] X.env)).any (·.1)=false:=by rfl)
  (hs:gk (.Call (.Attribute (.Name x p) "extend" apos) [e] [] cL) none pos.line X.env=bc false:=by rfl):
  PS X (.Expr (.Call (.Attribute (.Name x p) "extend" apos) [e] [] cL) pos) (tS X.K E λenv=>(ownAt i env).bind λxs=>(f env).bind λys=> @ite _ (xs.length+ys.length<=aI) (dR _) (.ok (.nx (env.set i (.own (xs++ys))))) (.bad)):=
 oV (jM (yt kB PySem.F.slot_list_extend PySem.F.type_list_extend QE (ju hN hv hd hcd) (bh he bV hst) hbase hfew hline hst hplain) hs) λDe σ H ⟨g,env,os,r,m⟩=>by
  obtain⟨xs,e,m1⟩:=m.bind.own;obtain⟨a,vs,h1,h2,h3,h4⟩:=r.own i xs e;refine⟨.ref a,h1,.inl ⟨rfl,vs,gb.of h3⟩,g,env,os,r,m1.bind.mono λys _ q b ws H' s hn hH hi=>?_⟩;split at q
  ·rename_i c
   refine⟨a,b,vs,ws,rfl,rfl,s _ _ h3,hH,by rw[h4.length,hi.length];exact c,?_⟩;have DB:IsL X.K (g.P os) H' ys ws:=IsL.ext ⟨λb o p _=>⟨p.1,λz=>p.2 (bz _ z)⟩,λ_ _ _ q=>q⟩ _ _ hi;exact q σ _ os ((r.same s).mut e h1 h2 ((h4.same s).app DB)) ((yu.same s os).trans (.mut h2))
  ·exact q.elim
def acT(i:Nat){x:Str}{ek e:ao}{fk f:DE->R D}{p tp:Pos}(hk:PE X ek (tB X.K E fk))(he:PE X e (tD X.K E f))(hN:X.N[i]?=aa x:=by rfl)(hv:BI X.env.scope x:=by first|exact aR rfl|exact aS (aR rfl)|exact aS (aS rfl))(hd:(x==("__debug__":Str))=false:=by decide)
  (hcd:(x==("__classdict__":Str))=false:=by decide)
  (ha:∀v,jf (.Subscript (.Name x p) ek tp) X.env v=(do
   let ov<-km [v] (aA (.Name x p) X.env);let iv<-km [v,ov] (aA ek X.env)
   xm tp
   km [v,ov,iv] (Cq ov iv v)
   release [v,ov,iv] []):=by intro _;rfl)
  (hs:yY [.Subscript (.Name x p) ek tp] e pos.line X.env=bc false:=by rfl)(hw:yZ [.Subscript (.Name x p) ek tp] e X.env=bc none:=by rfl)
  (h1:(eu [.Subscript (.Name x p) ek tp] X.env).map (·.2)=[jf (.Subscript (.Name x p) ek tp) X.env]:=by rfl):
  PS X (.Assign [.Subscript (.Name x p) ek tp] e pos) (tS X.K E λenv=>(f env).bind λd=>(ownAt i env).bind λxs=>(fk env).bind λkd=>match kd with
   |.int j=>(match yW xs.length j with
    |some n=>.ok (.nx (env.set i (.own (xs.set n d))))
    |none=>.bad)
   |_=>.bad):=
 oV (GR he (Lf (ju hN hv hd hcd) hk set_list ha) hs hw h1) λDe σ H ⟨g,env,os,r,m⟩=>⟨g,env,os,r,m.bind.mono λd _ m1 v H1 s1 i1=>by
  obtain⟨xs,e,m2⟩:=m1.bind.own;obtain⟨a,vs,h1,h2,h3,h4⟩:=(r.same s1).own i xs e;refine⟨.ref a,h1,g,env,os,r.same s1,m2.bind.mono λkd _ m3 w H2 s2 i2=>?_⟩;cases kd with
  |int j=>
   cases q:yW xs.length j with
   |none=>
    simp only [q]at m3;exact m3.elim
   |some n=>
    simp only [q]at m3;refine⟨a,vs,j,n,rfl,i2,s2 _ _ h3,by rw[h4.length];exact q,?_⟩;exact m3 σ _ os ((r.same (s1.trans s2)).mut e h1 h2 ((h4.same s2).set n (i1.same s2))) ((yu.same (s1.trans s2) os).trans (.mut h2))
  |non=>exact m3.elim
  |bl _=>exact m3.elim
  |lst _=>exact m3.elim
  |str _=>exact m3.elim
  |exc _=>exact m3.elim
  |fn _=>exact m3.elim
  |tup _=>exact m3.elim⟩
def aj8(i:Nat){x:Str}{e:ao}{op:yX}{h:Int->Int->Int}{f:DE->R D}{pos':Pos}(ho:PIp X op (ipI h))(he:PE X e (tB X.K E f))(hN:X.N.Nodup)(hi:X.N[i]?=aa x:=by rfl)(hx:Loc X.env.scope x:=by first|exact aR rfl|exact aS rfl)
  (hf:X.fn x=true\/X.env.scope.names.lookup x=aa .local:=by first|exact .inl rfl|exact .inr rfl|assumption):
  PS X (.AugAssign (.Name x pos') op e pos) (tS X.K E λenv=>(dG i env).bind λa=>(f env).bind λb=>match a,b with
   |.int u,.int w=>.ok (.nx (env.set i (.val (.int (h u w)))))
   |_,_=>.bad):=
 oV (Lg hN hi hx he ho hf) λDe σ H ⟨g,env,os,r,m⟩=>by
  dsimp only [dG]at m;cases q:env[i]? with
  |none=>rw[q]at m;exact m.elim
  |some sl=>
   cases sl with
   |no=>rw[q]at m;exact m.elim
   |raw _=>rw[q]at m;exact m.elim
   |deep _=>rw[q]at m;exact m.elim
   |own _=>rw[q]at m;exact m.elim
   |val a=>
    rw[q]at m;obtain⟨v,h1,h2⟩:=r.val i a q;have m':Good E g.H₀ ((f env).bind _) _:=m;refine⟨v,h1,g,env,os,r,m'.bind.mono λb _ m2 w H' s i2=>?_⟩;cases a with
    |int u=>
     cases b with
     |int w'=>exact⟨u,w',h2,i2,m2 _ H' os ((r.same s).set i rfl) (.same s os)⟩
     |non=>exact m2.elim
     |bl _=>exact m2.elim
     |lst _=>exact m2.elim
     |str _=>exact m2.elim
     |exc _=>exact m2.elim
     |fn _=>exact m2.elim
     |tup _=>exact m2.elim
    |non=>exact m2.elim
    |bl _=>exact m2.elim
    |lst _=>exact m2.elim
    |str _=>exact m2.elim
    |exc _=>exact m2.elim
    |fn _=>exact m2.elim
    |tup _=>exact m2.elim
def Yl(K:ak)(P:ae->Prop)(J:It)(H:Hp)(xs:List D):Prop:=
 ∀(i:Nat)(H':Hp)(P':ae->Prop),Ext P P' H H'->(∀d,xs[i]?=aa d->J.go i H'/\∀x H'',J.yld i H' x H''->bK H' H''/\Is K (λa=>P' a\/H' a=none) H'' d x)/\(xs.length=i->J.stop i H')
def tI(K:ak)(E:Str->Hp->Prop)(f:DE->R (List D)):TI:=λσ H Rr=>∃g env os,Rel K g env σ H os/\Good E g.H₀ (f env) λxs=>∀J H1,bK H H1->Yl K (g.P os) J H1 xs->Rr J H1
def XM{tg e:ao}{t t':TI}(h:PI X tg e t)(w:∀σ H Q,t' σ H Q->t σ H Q):PI X tg e t':=λpins s σ H Q I q=>h pins s σ H Q I (w σ H Q q)
def Yls(K:ak)(P:ae->Prop)(J:It)(H:Hp)(xs:List D):Prop:=
 ∀(i:Nat)(H':Hp)(P':ae->Prop),bK H H'->Ext P P' H H'->(∀d,xs[i]?=aa d->J.go i H'/\∀x H'',J.yld i H' x H''->bK H' H''/\Is K (λa=>P' a\/H' a=none) H'' d x)/\(xs.length=i->J.stop i H')
def tIS(K:ak)(E:Str->Hp->Prop)(f:DE->R (List D)):TI:=λσ H Rr=>∃g env os,Rel K g env σ H os/\Good E g.H₀ (f env) λxs=>∀J H1,bK H H1->Yls K (g.P os) J H1 xs->Rr J H1
def DC{tg e:ao}{f:DE->R (List D)}(h:PI X tg e (tI X.K E f)):PI X tg e (tIS X.K E f):=XM h λσ H Q ⟨g,env,os,r,m⟩=>⟨g,env,os,r,m.mono λxs _ q J H1 s1 yl=>q J H1 s1 λi H' P' _ ex=>yl i H' P' ex⟩
def iLS{tg e:ao}{f:DE->R (List D)}(he:PE X e (tL X.K E f)):PI X tg e (tIS X.K E f):=
 XM (Cu he) λσ H Q ⟨g,env,os,r,m⟩=>⟨g,env,os,r,m.mono λxs _ q a vs H' s h1 h2=>by
  refine⟨a,rfl,⟨vs,h1⟩,q _ H' s λj H2 P' ss ex=>⟨λd hd=>?_,λhj=>?_⟩⟩
  ·obtain⟨x,hx,hi⟩:=(IsL.ext ex _ _ h2).get hd
   refine⟨⟨vs,x,ss.seq h1,hx⟩,λy H3 hy=>?_⟩;obtain⟨rfl,hy⟩:=hy;have e2:=hy vs (ss.seq h1);rw[hx]at e2;cases e2;exact⟨bK.refl _,Is.ext ⟨λ_ _ p _=>.inl p,λ_ _ _ z=>z⟩ _ _ hi⟩
  ·exact⟨vs,ss.seq h1,by rw[IsL.length h2];exact zb hj⟩⟩
def iL{tg e:ao}{f:DE->R D}(he:PE X e (tD X.K E f)):PI X tg e (tI X.K E λenv=>(f env).bind zt):=
 XM (Cu he) λσ H Q ⟨g,env,os,r,m⟩=>⟨g,env,os,r,m.bind.mono λd _ q v H' s i=>by
  cases d with
  |lst xs=>
   obtain⟨a,vs,rfl,h1,h2⟩:=i;refine⟨a,rfl,⟨vs,h1.sq⟩,q _ H' s λj H2 P' ex=>⟨λd hd=>?_,λhj=>?_⟩⟩
   ·obtain⟨x,hx,hi⟩:=(IsL.ext ex _ _ h2).get hd
    refine⟨⟨vs,x,(h1.ext ex).sq,hx⟩,λy H3 hy=>?_⟩;obtain⟨rfl,hy⟩:=hy;have e2:=hy vs (h1.ext ex).sq;rw[hx]at e2;cases e2;exact⟨bK.refl _,Is.ext ⟨λ_ _ p _=>.inl p,λ_ _ _ z=>z⟩ _ _ hi⟩
   ·exact⟨vs,(h1.ext ex).sq,by rw[IsL.length h2];exact zb hj⟩
  |non=>exact q.elim
  |bl _=>exact q.elim
  |int _=>exact q.elim
  |str _=>exact q.elim
  |exc _=>exact q.elim
  |fn _=>exact q.elim
  |tup _=>exact q.elim⟩
def uD(lo:Int)(n:Nat):List D:=(b9 n).map λi=>.int (lo+(i:Nat))
def LB:List D->R (List D)
 |[.int i,.int j]=> @ite _ (-(2^62)<=i/\i<2^62/\ -(2^62)<=j/\j<2^62) (dR _) (.ok (uD i (j-i).toNat)) (.bad)
 |_=>.bad
def acV{K:ak}{P:ae->Prop}{H:Hp}(lo:Int)(n:Nat):Yl K P (Itr lo n) H (uD lo n):=λi H' P' ex=>⟨λd hd=>by
 unfold uD at hd;rw[b8]at hd;have hi:i<n:=by
  cases q:(b9 n)[i]? with
  |none=>rw[q]at hd;cases hd
  |some j=>simpa using(bG.mp q).1
 rw[List.getElem?_range hi]at hd;cases hd;refine⟨hi,λx H2 hy=>?_⟩;obtain⟨rfl,rfl⟩:=hy;exact⟨bK.refl _,rfl⟩,λh=>by
 unfold uD at h;exact zb (by simpa using h)⟩
def iR2{tg a b:ao}{p:Pos}{f:DE->R (List D)}(hm:X.mg "range"=none)(ha:PA X [a,b] (yf X.K E f))(hg:Gl X "range":=by rfl)(hs:ar [a,b] X.env=[(false,aA a X.env),(false,aA b X.env)]:=by rfl)(hs2:ar [b] X.env=[(false,aA b X.env)]:=by rfl):
  PI X tg (.Call (.Name "range" p) [a,b] [] pos) (tI X.K E λenv=>(f env).bind LB):=
 XM (Qu hg hm ha hs hs2) λσ H Q ⟨g,env,os,r,m⟩=>⟨g,env,os,r,m.bind.mono λds _ q vs H' s i=>by
  unfold LB at q;split at q
  ·rename_i u j _
   split at q
   ·rename_i c
    obtain⟨v,w,rfl,h1,h2⟩:=IsL.QM i;have h':v=.int u:=h1;have h2':w=.int j:=h2;subst h' h2';exact⟨u,j,rfl,c,q _ H' s (acV u _)⟩
   ·exact q.elim
  ·exact q.elim⟩
def tG(K:ak)(E:Str->Hp->Prop)(b:D->DE->R DE):TG:=λv σ H Q=>∃g env os d,Rel K g env σ H os/\Is K (g.P os) H d v/\Good E g.H₀ (b d env) λe'=>∀σ',Rel K g e' σ' H os->Q σ' H
def tGs(K:ak)(E:Str->Hp->Prop)(b:List D->DE->R DE):WI:=λvs σ H Q=>∃g env os ds,Rel K g env σ H os/\IsL K (g.P os) H ds vs/\Good E g.H₀ (b ds env) λe'=>∀σ',Rel K g e' σ' H os->Q σ' H
def agt{e:ao}{t t':TG}(h:PG X e t)(w:∀v σ H Q,t' v σ H Q->t v σ H Q):PG X e t':=λpins s σ H v u Q I r q=>h pins s σ H v u Q I r (w v σ H Q q)
def aaA{e:List ao}{t t':WI}(h:MQ X e t)(w:∀v σ H Q,t' v σ H Q->t v σ H Q):MQ X e t':=λpins s σ H v u Q I r q=>h pins s σ H v u Q I r (w v σ H Q q)
def gN(i:Nat){x:Str}(hN:X.N.Nodup)(hi:X.N[i]?=aa x:=by rfl)(hx:Loc X.env.scope x:=by first|exact aR rfl|exact aS rfl)(hf:X.fn x=true\/X.env.scope.names.lookup x=aa .local:=by first|exact .inl rfl|exact .inr rfl|assumption):
  PG X (.Name x pos) (tG X.K E λd env=>.ok (env.set i (.val d))):=agt (xn hN hi hx hf) λv σ H Q ⟨g,env,os,d,r,h,m⟩=>m _ (r.set i h)
def agu:MQ X [] (tGs X.K E λds env=>match ds with
  |[]=>.ok env
  |_=>.bad):=aaA MS λvs σ H Q ⟨g,env,os,ds,r,h,m⟩=>by
 cases ds with
 |nil=>exact⟨h,m σ r⟩
 |cons _ _=>exact m.elim
def acW{e:ao}{es:List ao}{b:D->DE->R DE}{k:List D->DE->R DE}(h1:PG X e (tG X.K E b))(h2:MQ X es (tGs X.K E k))(hs:(eu (e::es) X.env).map (·.2)=jf e X.env::(eu es X.env).map (·.2):=by rfl):
  MQ X (e::es) (tGs X.K E λds env=>match ds with
   |d::r=>(b d env).bind λe'=>k r e'
   |_=>.bad):=aaA (Dr h1 h2 hs) λvs σ H Q ⟨g,env,os,ds,r,h,m⟩=>by
 cases ds with
 |nil=>exact m.elim
 |cons d rest=>
  obtain⟨v,vr,rfl,p,q⟩:=h;have m':Good E g.H₀ ((b d env).bind λe'=>k rest e') _:=m;exact⟨v,vr,rfl,g,env,os,d,r,p,m'.bind.mono λe' _ m2 σ' r'=>⟨g,e',os,rest,r',q,m2⟩⟩
def gT{es:List ao}{kk:Nat}{b:List D->DE->R DE}{n:Nat}(hc:X.calm=true)(h:MQ X es (tGs X.K E b))(hn:(eu es X.env).length=n:=by rfl)(hst:(eu es X.env).findIdx? (·.1)=none:=by rfl):
  PG X (.Tuple es kk pos) (tG X.K E λd env=>match d with
   |.tup ds=>if ds.length=n then b ds env else .bad
   |_=>.bad):=agt (R6 hc h hn hst) λv σ H Q ⟨g,env,os,d,r,h,m⟩=>by
 cases d with
 |tup ds=>
  obtain⟨a,vs,rfl,h1,h2⟩:=h;have m':Good E g.H₀ (if ds.length=n then b ds env else .bad) _:=m;split at m'
  ·rename_i c
   exact⟨a,vs,rfl,h1.sq,by rw[IsL.length h2];exact c,g,env,os,ds,r,h2,m'⟩
  ·exact m'.elim
 |non=>exact m.elim
 |bl _=>exact m.elim
 |int _=>exact m.elim
 |str _=>exact m.elim
 |lst _=>exact m.elim
 |exc _=>exact m.elim
 |fn _=>exact m.elim
def AW{tg iter:ao}{body:List aC}{f:DE->R (List D)}{b:D->DE->R DE}{k:DE->R Out}(hp:GW (aE X.prog X.w) X.A X.env X.xe)(hc:X.calm=true)(hi:PI X tg iter (tI X.K E f))(hg:PG X tg (tG X.K E b))(hb:xj X body (tS X.K E k))
  (hs:∀x,y6 iter X.env x=bc x:=by intro _;rfl):PS X (.For tg iter body [] pos) (tS X.K E λenv=>(f env).bind λxs=>iO (λd e=>(b d e).bind k) xs env):=
 oV (Se hp hc hi hg hb hs) λDe σ H ⟨g,env,os,r,m⟩=>⟨g,env,os,r,m.bind.mono λxs _ m1 J H1 s1 yl=>by
  refine⟨λi n σ' H'=>n=xs.length-i/\i<=xs.length/\∃uy os',Rel X.K g uy σ' H' os'/\yu H1 os H' os'/\Good E g.H₀ (iO (λd e=>(b d e).bind k) (xs.drop i) uy) (gy X.K g H' os' De),
   ⟨xs.length,by simp,iJ _,env,os,r.same s1,.refl _ _,by rw[Hk];exact m1.mono λo _ q=>gy.step (.same s1 os) q⟩,?_⟩
  rintro i n σ' H' ⟨rfl,hi,uy,os',r',st,m2⟩;obtain⟨y1,y2⟩:=yl i H' (g.P os') st.ext
  by_cases hlt:i<xs.length
  ·have hx:xs[i]?=aa xs[i]:=bj hlt
   obtain⟨go,y3⟩:=y1 _ hx;rw[NS hlt]at m2;refine .inr ⟨go,λσ2 H2=>∃SV SK,Rel X.K g SV σ2 H2 SK/\yu H1 os H2 SK/\Good E g.H₀ (iO (λd e=>(b d e).bind k) (xs.drop (i+1)) SV) (gy X.K g H2 SK De),λσ2 H2 ⟨e2,o2,r2,t2,g2⟩=>⟨xs.length-(i+1),by lia,rfl,hlt,e2,o2,r2,t2,g2⟩,λx H2 hy=>?_⟩;obtain⟨s2,hx2⟩:=y3 x H2 hy;have r2:=r'.same s2;have ix:Is X.K (g.P os') H2 xs[i] x:=Is.ext ⟨λa o p _=>p.elim (λz=>z) λz=>r'.fresh z,λ_ _ _ z=>z⟩ _ _ hx2;have m3:Good E g.H₀ (((b xs[i] uy).bind k).bind _) _:=m2;refine⟨g,uy,os',xs[i],r2,ix,m3.bind.bind.mono λe3 _ m4 σ3 r3=>⟨g,e3,os',r3,Good.mono m4 λo _ q=>?_⟩⟩;have V6:=st.trans (yu.same s2 os');cases o with
   |nx e4=>exact λσ4 H4 SW r4 z=>⟨e4,SW,r4,V6.trans z,Good.mono (show Good E g.H₀ (iO _ _ e4) _ from q) λo _ q=>gy.step ((yu.same s2 os').trans z) q⟩
   |ct e4=>exact λσ4 H4 SW r4 z=>⟨e4,SW,r4,V6.trans z,Good.mono (show Good E g.H₀ (iO _ _ e4) _ from q) λo _ q=>gy.step ((yu.same s2 os').trans z) q⟩
   |bk e4=>exact λσ4 H4 SW r4 z=>(show gy X.K g H' os' De (.nx e4)from q) σ4 H4 SW r4 ((yu.same s2 os').trans z)
   |rt d=>exact q
   |uz ys=>exact q
   |CF ys=>exact q
   |FN ys=>exact q
   |Lz ys=>exact q
   |FJ ys=>exact q
  ·have e:i=xs.length:=by lia
   subst e;rw[Hl]at m2;exact .inl ⟨y2 rfl,(show gy X.K g H' os' De (.nx uy)from m2) σ' H' os' r' (.refl _ _)⟩⟩
def acX{c:ao}{body:List aC}{fc:DE->R Bool}{k:DE->R Out}(fuel:DE->Nat)(hp:GW (aE X.prog X.w) X.A X.env X.xe)(hc:PT X c (tT X.K E fc))(hb:xj X body (tS X.K E k)):
  PS X (.While c body [] pos) (tS X.K E λenv=>sy fc k (fuel env) env):=
 oV (y0 hp hc hb) λDe σ H ⟨g,env,os,r,m⟩=>by
  refine⟨λn σ' H'=>∃uy os',Rel X.K g uy σ' H' os'/\Good E g.H₀ (sy fc k n uy) (gy X.K g H' os' De),⟨fuel env,env,os,r,m⟩,?_⟩;rintro n σ' H' ⟨uy,os',r',m2⟩;cases n with
  |zero=>exact m2.elim
  |succ n=>
   have m3:Good E g.H₀ ((fc uy).bind _) _:=m2;refine⟨g,uy,os',r',m3.bind.mono λt _ m4 H2 s2=>?_⟩;cases t with
   |false=>
    rw[if_neg di];exact(show gy X.K g H' os' De (.nx uy)from m4) σ' H2 os' (r'.same s2) (.same s2 os')
   |true=>
    rw[if_pos rfl];have m5:Good E g.H₀ ((k uy).bind _) _:=m4;refine⟨λσ2 H2'=>∃SV SK,Rel X.K g SV σ2 H2' SK/\Good E g.H₀ (sy fc k n SV) (gy X.K g H2' SK De),λσ2 H3 q=>⟨n,CB n,q⟩,g,uy,os',r'.same s2,m5.bind.mono λo _ q=>?_⟩;cases o with
    |nx e4=>exact λσ4 H4 SW r4 z=>⟨e4,SW,r4,Good.mono (show Good E g.H₀ (sy _ _ n e4) _ from q) λo _ q=>gy.step ((yu.same s2 os').trans z) q⟩
    |ct e4=>exact λσ4 H4 SW r4 z=>⟨e4,SW,r4,Good.mono (show Good E g.H₀ (sy _ _ n e4) _ from q) λo _ q=>gy.step ((yu.same s2 os').trans z) q⟩
    |bk e4=>exact λσ4 H4 SW r4 z=>(show gy X.K g H' os' De (.nx e4)from q) σ4 H4 SW r4 ((yu.same s2 os').trans z)
    |rt d=>exact q
    |uz ys=>exact q
    |CF ys=>exact q
    |FN ys=>exact q
    |Lz ys=>exact q
    |FJ ys=>exact q
end
def aN(n:Nat)(ds:List D):DE:=ds.map .val++aZ (n-ds.length) .no
def sZ{K:ak}{N:List Str}{P:ae->Prop}{H:Hp}{ds:List D}{vs:List V}(h:IsL K P H ds vs):Rel K ⟨P,H⟩ (aN N.length ds) (L2.start N vs) H []:=by
 have hl:=h.length;refine⟨by simp[aN,L2.start,hl],bK.refl H,λi d e=>?_,λi xs e=>?_,λi j xs ys a e=>?_,(λa ha=>nomatch ha),λi v e=>?_,Ly.none λi v e=>?_⟩
 ·unfold aN at e
  by_cases hi:i<ds.length
  ·rw[fu (by simpa using hi),b8,bj hi]at e
   have e':Sl.val ds[i]=Sl.val d:=cA.inj e;cases e';obtain⟨v,h1,h2⟩:=h.get (bj hi);refine⟨v,?_,Is.ext ⟨λa o p _=>⟨.inl p,by simp⟩,λ_ _ _ z=>z⟩ _ _ h2⟩;unfold L2.start;rw[fu (by simp;lia),b8,h1]<;>rfl
  ·rw[jh (by simp;lia)]at e
   have:=nS (n:=N.length-ds.length) (a:=Sl.no) (i:=i-(ds.map Sl.val).length);rw[this]at e;split at e<;>cases e
 ·exfalso
  unfold aN at e
  by_cases hi:i<ds.length
  ·rw[fu (by simpa using hi),b8,bj hi]at e
   cases e
  ·rw[jh (by simp;lia)]at e
   have:=nS (n:=N.length-ds.length) (a:=Sl.no) (i:=i-(ds.map Sl.val).length);rw[this]at e;split at e<;>cases e
 ·exfalso
  unfold aN at e
  by_cases hi:i<ds.length
  ·rw[fu (by simpa using hi),b8,bj hi]at e
   cases e
  ·rw[jh (by simp;lia)]at e
   have:=nS (n:=N.length-ds.length) (a:=Sl.no) (i:=i-(ds.map Sl.val).length);rw[this]at e;split at e<;>cases e
 ·exfalso
  unfold aN at e
  by_cases hi:i<ds.length
  ·rw[fu (by simpa using hi),b8,bj hi]at e
   cases e
  ·rw[jh (by simp;lia)]at e
   have:=nS (n:=N.length-ds.length) (a:=Sl.no) (i:=i-(ds.map Sl.val).length);rw[this]at e;split at e<;>cases e
 ·exfalso
  unfold aN at e
  by_cases hi:i<ds.length
  ·rw[fu (by simpa using hi),b8,bj hi]at e
   cases e
  ·rw[jh (by simp;lia)]at e
   have:=nS (n:=N.length-ds.length) (a:=Sl.no) (i:=i-(ds.map Sl.val).length);rw[this]at e;split at e<;>cases e
def aJ:Out->R D
 |.rt d=>.ok d
 |.uz xs=>.ok (.lst xs)
 |.nx _=>.ok .non
 |_=>.bad
def aK:Out->R (List D)
 |.uz xs=>.ok xs
 |_=>.bad
abbrev EN:Str->Hp->Prop:=λ_ _=>False
section
variable{P:aU}{w:aF}{K:ak}{mg:Str->Option ah}{base:aD}
def Is.P0 {Q:ae->Prop}{H H':Hp}{d:D}{v:V}(h:Is K ((⟨Q,H⟩:Gh).P []) H' d v):Is K (λa=>Q a\/H a=none) H' d v:=Is.ext ⟨λ_ _ p _=>p.1,λ_ _ _ z=>z⟩ _ _ h
def aka{x qual:Str}{st:aC}{f:ae}{fd:aL}{N ps:List Str}{k:Nat}{xc:Str->ah}{m:List D->R D}{b:DE->R Out}(F:Jf K x qual st f fd)(S:bp N ps (az st))
  (hm:∀ds d,m ds=.ok d->ds.length=ps.length/\(b (aN N.length ds)).bind aJ=.ok d)(hne:∀ds c,m ds≠.err c)
  (hb:∀(cdv:ah)(A:bu)(outer:List Env)(s:aj)(H:Hp)(E:XK),cV k (A.deeper (fQ qual (az st) s.heap.objs.size f cdv))->xj (vV qv P w K mg base N qual (az st) f cdv A outer s H E).MP (dQ st) (tS K EN b)):
  fM P w K mg base qv (k+1) f fd ps (NR K xc m):=by
 refine F.ok S (λvs H Q E h=>?_) (λcdv A outer s H vs Q E hr h=>?_)
 ·obtain⟨Pa,ds,i,h⟩:=h
  cases e:m ds with
  |ok d=>rw[i.length];exact(hm ds d e).1
  |err c=>exact(hne ds c e).elim
  |bad=>rw[e]at h;exact h.elim
 ·obtain⟨Pa,ds,i,h⟩:=h
  refine⟨_,hb cdv A outer s H E hr,⟨⟨Pa,H⟩,aN N.length ds,[],sZ i,?_⟩⟩;cases e:m ds with
  |err c=>exact(hne ds c e).elim
  |bad=>rw[e]at h;exact h.elim
  |ok d=>
   rw[e]at h;obtain⟨_,q⟩:=hm ds d e;cases eb:b (aN N.length ds)with
   |bad=>rw[eb]at q;cases q
   |err c=>rw[eb]at q;cases q
   |ok o=>
    rw[eb]at q;cases o with
    |rt d'=>
     cases q;exact λv H' s' i'=>h v H' s' i'.P0
    |uz xs=>
     cases q;intro a NK H' s' hn hH i';exact h _ H' s' ⟨a,NK,rfl,.inl ⟨.inr hn,.inl hH⟩,IsL.ext ⟨λb o p _=>p.1,λ_ _ _ z=>z⟩ _ _ i'⟩
    |nx e'=>
     cases q;exact λσ' H' os' r' _=>h _ H' r'.ext rfl
    |CF _=>cases q
    |FN _=>cases q
    |Lz _=>cases q
    |FJ _=>cases q
    |bk _=>cases q
    |ct _=>cases q
def akb{x qual:Str}{st:aC}{f:ae}{fd:aL}{N ps:List Str}{k:Nat}{xc:Str->ah}{m:List D->R (List D)}{b:DE->R Out}(F:Jf K x qual st f fd)(S:bp N ps (az st))
  (hm:∀ds d,m ds=.ok d->ds.length=ps.length/\(b (aN N.length ds)).bind aK=.ok d)(hne:∀ds c,m ds≠.err c)
  (hb:∀(cdv:ah)(A:bu)(outer:List Env)(s:aj)(H:Hp)(E:XK),cV k (A.deeper (fQ qual (az st) s.heap.objs.size f cdv))->xj (vV qv P w K mg base N qual (az st) f cdv A outer s H E).MP (dQ st) (tS K EN b)):
  fM P w K mg base qv (k+1) f fd ps (Wb K xc m):=by
 refine F.ok S (λvs H Q E h=>?_) (λcdv A outer s H vs Q E hr h=>?_)
 ·obtain⟨Pa,ds,i,h⟩:=h
  cases e:m ds with
  |ok d=>rw[i.length];exact(hm ds d e).1
  |err c=>exact(hne ds c e).elim
  |bad=>rw[e]at h;exact h.elim
 ·obtain⟨Pa,ds,i,h⟩:=h
  refine⟨_,hb cdv A outer s H E hr,⟨⟨Pa,H⟩,aN N.length ds,[],sZ i,?_⟩⟩;cases e:m ds with
  |err c=>exact(hne ds c e).elim
  |bad=>rw[e]at h;exact h.elim
  |ok d=>
   rw[e]at h;obtain⟨_,q⟩:=hm ds d e;cases eb:b (aN N.length ds)with
   |bad=>rw[eb]at q;cases q
   |err c=>rw[eb]at q;cases q
   |ok o=>
    rw[eb]at q;cases o with
    |rt d'=>cases q
    |uz xs=>
     cases q;intro a NK H' s' hn hH i';exact h a NK H' s' hn hH (IsL.ext ⟨λb o p _=>⟨p.1,λz=>p.2 (by simp[z])⟩,λ_ _ _ z=>z⟩ _ _ i')
    |nx e'=>cases q
    |CF _=>cases q
    |FN _=>cases q
    |Lz _=>cases q
    |FJ _=>cases q
    |bk _=>cases q
    |ct _=>cases q
end
def IU(cells:List (Str×ae)):List (Str×g5)->List (Str×ae)->List (Str×ae)
 |[],acc=>acc
 |(n,k)::r,acc=>if(k==g5.free)=true then IU cells r ((n,(cells.lookup n).getD 0)::acc)else IU cells r acc
def yx{scope:dw}{env:Env}(h:∀y∈scope.names,y.2=.free->∃c,env.cells.lookup y.1=aa c):closureFor scope env=bc (IU env.cells scope.names []):=by
 have gen:∀(l:List (Str×g5))(acc:List (Str×ae)),(∀y∈l,y.2=.free->∃c,env.cells.lookup y.1=aa c)->
   (forIn l acc λ(x:Str×g5)(r:List (Str×ae))=>(if(x.2==g5.free)=true then(do let a<-cellOf env x.1;bc (uE ((x.1,a)::r)))else bc (uE r):Sem (ForInStep (List (Str×ae)))))=bc (IU env.cells l acc):=by
  intro l
  induction l with
  |nil=>intro acc _;rfl
  |cons y r ih=>
   intro acc hy;obtain⟨n,k⟩:=y;rw[List.forIn_cons];have hr:∀y∈r,y.2=.free->∃c,env.cells.lookup y.1=aa c:=λy h=>hy y (bz _ h)
   by_cases hk:(k==g5.free)=true
   ·obtain⟨c,hc⟩:=hy (n,k) iG (by simpa using hk)
    have RY:env.cells.lookup n=aa c:=hc;simp only [hk,if_true,IU,cellOf,RY,Option.getD_some];exact ih _ hr
   ·simp only [hk,IU]
    exact ih _ hr
 show((forIn scope.names ([]:List (Str×ae)) λ(x:Str×g5)(r:List (Str×ae))=>(if(x.2==g5.free)=true then(do let a<-cellOf env x.1;bc (uE ((x.1,a)::r)))else bc (uE r):Sem (ForInStep (List (Str×ae)))))>>=λs=>bc s)=_;rw[gen scope.names [] h];rfl
theorem yM{cells:List (Str×ae)}{x:Str}:∀(l:List (Str×g5))(acc:List (Str×ae)),(∀y∈l,y.2=.free->∃c,cells.lookup y.1=aa c)->(∀c,acc.lookup x=aa c->cells.lookup x=aa c)->
  ∀c,(IU cells l acc).lookup x=aa c->cells.lookup x=aa c
 |[],acc,_,h,c,e=>h c e
 |(n,k)::r,acc,hy,h,c,e=>by
  unfold IU at e;have hr:∀y∈r,y.2=.free->∃c,cells.lookup y.1=aa c:=λy h=>hy y (bz _ h);split at e
  ·rename_i hk
   refine yM r _ hr (λc' e'=>?_) c e;rw[zy]at e';obtain⟨c0,hc0⟩:=hy (n,k) iG (by simpa using hk);have agw:cells.lookup n=aa c0:=hc0;cases hx:x==n with
   |true=>
    rw[hx]at e';have ex:x=n:=by simpa using hx
    rw[agw]at e';cases e';rw[ex];exact agw
   |false=>
    rw[hx]at e';exact h c' e'
  ·exact yM r _ hr h c e
theorem CG{cells:List (Str×ae)}{x:Str}:∀(l:List (Str×g5))(acc:List (Str×ae)),((∃c,acc.lookup x=aa c)\/(x,g5.free)∈l)->∃c,(IU cells l acc).lookup x=aa c
 |[],acc,h=>h.elim (λz=>z) λz=>nomatch z
 |(n,k)::r,acc,h=>by
  unfold IU;split
  ·rename_i hk
   refine CG r _ ?_
   by_cases hx:x=n
   ·exact .inl ⟨_,by rw[zy,beq_iff_eq.mpr hx]⟩
   ·rcases h with⟨c,h⟩|h
    ·refine .inl ⟨c,?_⟩
     rw[zy,beq_eq_false_iff_ne.mpr hx];exact h
    ·rcases aX.mp h with z|z
     ·cases z;exact absurd rfl hx
     ·exact .inr z
  ·rename_i hk
   refine CG r _ ?_;rcases h with h|h
   ·exact .inl h
   ·rcases aX.mp h with z|z
    ·cases z;exact absurd (by simp) hk
    ·exact .inr z
noncomputable def yi(X:Cx)(scope:dw)(N:List Str)(s:aj)(H:Hp)(fp:List ae)(C:ae)(pl:List (ae×Obj)):Cx where
 prog:=X.prog
 w:=X.w
 K:=X.K
 mg:=X.mg
 base:=X.base
 A:=X.A
 N:=N
 s₀:=s
 H₀:=H
 env:=zA scope (IU X.env.cells scope.names []) C X.env
 outer:=X.stack
 stack:=X.stack
 ex:=fp
 fn:=λ_=>false
 calm:=X.calm
 pn:=pl
 xe:=λ_ _=>False
structure mm(X:Cx)(scope:dw)(N:List Str)(nt:Nat)(caps:List Nat):Prop where
 kind:scope.kind=.function
 cell:∀y∈scope.names,y.2≠.cell
 names:∀y∈scope.names,y.2=.local->scope.names.lookup y.1=aa .local
 free:∀y∈scope.names,y.2=.free->X.env.kindOf y.1=aa .cell\/X.env.kindOf y.1=aa .free
 len:N.length=nt+caps.length
 nd:N.Nodup
 caps:∀(j i:Nat),caps[j]?=aa i->∃x,N[nt+j]?=aa x/\X.N[i]?=aa x/\scope.names.lookup x=aa .free/\BI X.env.scope x
def kU{scope:dw}{env:Env}{x:Str}{k:g5}(h:(CH scope env).names.lookup x=aa k):∃k',scope.names.lookup x=aa k'/\(k=k'\/(k'=.free/\k=.cell)):=by
 unfold CH at h;dsimp only at h;generalize scope.names=l at h
 induction l with
 |nil=>cases h
 |cons y r ih=>
  obtain⟨n,kk⟩:=y;rw[bw]at h
  by_cases hc:(kk==g5.free&&env.scope.kind==.function&&env.kindOf n==aa .cell)=true
  ·simp only [hc,if_true]at h
   rw[zy]at h⊢;cases hx:x==n with
   |true=>
    rw[hx]at h;cases h;simp only [ur]at hc;exact⟨kk,rfl,.inr ⟨by simpa using hc.1.1,rfl⟩⟩
   |false=>
    rw[hx]at h;exact ih h
  ·simp only [hc,Hm,if_false]at h
   rw[zy]at h⊢;cases hx:x==n with
   |true=>
    rw[hx]at h;exact⟨kk,rfl,.inl (cA.inj h).symm⟩
   |false=>
    rw[hx]at h;exact ih h
def mem_of_lookup{α:Type}{l:List (Str×α)}{x:Str}{k:α}(h:l.lookup x=aa k):(x,k)∈l:=by
 induction l with
 |nil=>cases h
 |cons y r ih=>
  obtain⟨n,kk⟩:=y;rw[zy]at h;cases hx:x==n with
  |true=>
   rw[hx]at h;cases h;have ex:x=n:=by simpa using hx
   rw[ex];exact iG
  |false=>
   rw[hx]at h;exact bz _ (ih h)
section
variable{X:Cx}{scope:dw}{N:List Str}{nt:Nat}{caps:List Nat}{pins:List (ae×Obj)}{σ:St}{H:Hp}{s:aj}
theorem mm.cells (S:mm X scope N nt caps)(I:Inv X pins σ H s):∀y∈scope.names,y.2=.free->∃c,X.env.cells.lookup y.1=aa c:=λy hy hf=>I.ok.has y.1 (S.free y hy hf)
def mm.lk (S:mm X scope N nt caps)(I:Inv X pins σ H s){x:Str}{c:ae}(h:(IU X.env.cells scope.names []).lookup x=aa c):X.env.cells.lookup x=aa c:=
 yM scope.names [] (S.cells I) (λc e=>by cases e) c h
def mm.start (S:mm X scope N nt caps)(I:Inv X pins σ H s){fp:List ae}(hf:∀b∈fp,sU X pins H b){C:ae}{h':aD}{m:Str->Option ah}{t':Nat}(hC:s.heap.objs.size<=C)(hn:h'.Ns C m)(k:∀b o,s.heap.get? b=aa o->h'.get? b=aa o)
  (hpin:∀b∈fp,∃o,s.heap.get? b=aa o)
  {vs:List V}(hv:vs.length=caps.length)(hvs:∀(j i:Nat)(v:V),caps[j]?=aa i->vs[j]?=aa v->σ[i]?=aa (aa v))(σ':St)(hσ:σ'=aZ nt none++vs.map aa):
  Inv (yi X scope N s H fp C (X.pn++pins)) [] σ' H {s with heap:=h',toks:=t'}:=by
 subst hσ;have hH:∀b,s.heap.objs.size<=b->H b=none:=λb hb=>I.hok.fresh hb;have lk:=λ{x c}(h:(IU X.env.cells scope.names []).lookup x=aa c)=>S.lk I h;have ok:(yi X scope N s H fp C (X.pn++pins)).Ok:={
  mod:=I.ok.mod
  kind:=S.kind
  glob:=I.ok.glob
  blt:=I.ok.blt
  above:=hC
  inj:=λx y c h1 h2=>I.ok.inj x y c (lk h1) (lk h2)
  has:=λx h=>by
   have h':(CH scope X.env).names.lookup x=aa .cell\/(CH scope X.env).names.lookup x=aa .free:=h;have hfree:scope.names.lookup x=aa .free:=by
    rcases h' with h'|h'
    ·obtain⟨k',e,q⟩:=kU h'
     rcases q with rfl|⟨rfl,_⟩
     ·exact absurd rfl (S.cell _ (mem_of_lookup e))
     ·exact e
    ·obtain⟨k',e,q⟩:=kU h'
     rcases q with rfl|⟨rfl,q⟩
     ·exact e
     ·exact e
   exact CG scope.names [] (.inr (mem_of_lookup hfree))
  cab:=λx c h=>nomatch h
  hd:=I.ok.hd
  frames:=I.ok.frames
  stk:=.inl rfl
  exf:=λb hb=>by
   obtain⟨o,e⟩:=hpin b hb;exact⟨λz=>absurd (dN (bM e) (by rw[z];exact hC)) (uh _),λx c h=>(hf b hb).2.2.2.2.1 x c (lk h)⟩
  bs:=I.bs
  V4:=iF I.ok.V4 I.sz
  Qp:=λb o e hb=>by
   rcases(hf b hb).2.2.2.1 with z|z
   ·exact I.ok.Qp b o e z
   ·exact absurd (dN (bM e) (iF I.ok.V4 z)) (uh _)
  Ld:=λb hb z=>by
   rcases aX.mp (I.GG b z)with q|q
   ·exact(hf b hb).2.1 q
   ·exact(hf b hb).2.2.1 q
  AH:=I.stack
  frf:=I.MK}
 refine⟨ok,rfl,I.bare,Un.kept k,⟨m,hn,λi x v e1 e2 e3=>?_⟩,λx c e=>?_,hH C hC,λx c e=>I.yp x c (lk e),λp hp=>?_,I.hok.kept k,?_⟩
 ·have hi:nt<=i:=by
   refine Ny λz=>?_;rw[fu (by simpa using z),nS]at e2;split at e2<;>cases e2
  rw[jh (by simpa using hi),b8]at e2;have e2':(vs[i-nt]?).map aa=aa (aa v):=by simpa using e2
  cases q:vs[i-nt]? with
  |none=>rw[q]at e2';cases e2'
  |some v'=>
   rw[q]at e2';cases e2';have hj:i-nt<caps.length:=by rw[<-hv];exact(bG.mp q).1
   obtain⟨x',h1,h2,h3,h4⟩:=S.caps (i-nt) caps[i-nt] (bj hj);have ex:x'=x:=by
    have XC:N[i]?=aa x:=e1;rw[show nt+(i-nt)=i by lia,XC]at h1;exact(cA.inj h1).symm
   subst ex;have hs:=hvs (i-nt) _ v (bj hj) q;obtain⟨m0,hn0,hl0⟩:=I.loc;obtain⟨u,r,l⟩:=hl0 _ x' v h2 hs h4;refine⟨u,r,?_⟩;have hkx:=S.free _ (mem_of_lookup h3) rfl;rcases l with⟨k1,_⟩|⟨k1,c,hc,hcell⟩
   ·have k1':X.env.kindOf x'=aa .local:=k1
    rcases hkx with z|z
    ·have z':X.env.kindOf x'=aa .cell:=z
     rw[k1']at z';cases z'
    ·have z':X.env.kindOf x'=aa .free:=z
     rw[k1']at z';cases z'
   ·obtain⟨c',RY⟩:=CG (cells:=X.env.cells) (x:=x') scope.names [] (.inr (mem_of_lookup h3))
    have:=lk RY;rw[hc]at this;cases this;refine .inr ⟨?_,c,RY,let⟨o,ho,hd⟩:=hcell;⟨o,k _ o ho,hd⟩⟩;rcases e3 with z|z|z
    ·exfalso
     obtain⟨k',e,q⟩:=kU (show(CH scope X.env).names.lookup x'=aa .local from z);rcases q with rfl|⟨_,q⟩
     ·rw[h3]at e;cases e
     ·cases q
    ·exact .inl z
    ·exact .inr z
 ·obtain⟨v,z⟩:=I.cell x c (lk e)
  exact⟨v,let⟨o,ho,hd⟩:=z;⟨o,k _ o ho,hd⟩⟩
 ·have hp':p∈X.pn++pins:=by simpa[yi]using hp
  obtain⟨e,n,ne,nf,d⟩:=I.pin p hp';refine⟨k _ _ e,n,λz=>absurd (dN (bM e) (by rw[z];exact hC)) (uh _),λz=>?_,d⟩;rcases aX.mp (I.GG _ z)with q|q
  ·exact ne q
  ·exact nf q
 ·show(aZ nt none++vs.map aa).length=N.length
  rw[S.len];simp[hv]
end
section
variable{prog:aU}{w:aF}{A:bu}{E:ah->aj->Prop}{R:Result->aj->Prop}{s:aj}
def BP{elt target iter:ao}{ifs:List ao}{scope:dw}{pos:Pos}{it acc:ah}{env:Env}(I:Nat->aj->Prop)
  (turn:∀n s,I n s->aG (aE prog w) A (pyNext it) (λr s₁=>match r with
   |none=>R (.ok .next) s₁
   |some v=>aG (aE prog w) A (GX target it v) (λ_ s₁'=>aG (aE prog w) A (jf target env v) (λ_ s₂=>
     aG (aE prog w) A (forIn ifs true λc r=>if r=true then do let ok<-isTrue c env (aA c env);bc (uE ok)else bc (uE r)) (λok s₃=>
      if ok=true then aG (aE prog w) A (aA elt env) (λx s₄=>
       aG (aE prog w) A (call (.builtin "list.append") [acc,x]) (λ_ s₅=>∃m,m<n/\I m s₅) (λ_ _=>False) s₄) (λ_ _=>False) s₃
      else∃m,m<n/\I m s₃) (λ_ _=>False) s₂) (λ_ _=>False) s₁') (λ_ _=>False) s₁) (λ_ _=>False) s)
  (n:Nat)(h:I n s):
  lU (aE prog w) A (.compLoop (.ListComp elt [⟨target,iter,ifs,0⟩] scope pos) 0 it acc env) R s:=by
 refine codeAny_loop rfl I (λn s hI=>?_) n h;show aG _ A ((compTurn (.ListComp elt [⟨target,iter,ifs,0⟩] scope pos) 0 it acc env).onRaise (λx=>do noteFrame x env;theTreesLotGoes x)) _ _ s;refine wpAny_noted ?_;rw[compTurn_list];refine aY (GQ (aY (lQ (turn n s hI) (λr s₁ h₁=>?_) λ_ _ h'=>h'.elim)));cases r with
 |none=>exact cK h₁
 |some v=>
  refine aY (lQ h₁ (λ_ s₁' h₁'=>?_) λ_ _ h'=>h'.elim);refine aY (lQ h₁' (λ_ s₂ h₂=>aY (lQ h₂ (λok s₃ h₃=>?_) λ_ _ h'=>h'.elim)) λ_ _ h'=>h'.elim);cases ok with
  |false=>exact cK ⟨rfl,h₃⟩
  |true=>
   exact aY (aY (lQ h₃ (λx s₄ h₄=>aY (lQ h₄ (λ_ s₅ h₅=>cK (cK ⟨rfl,h₅⟩)) λ_ _ h'=>h'.elim)) λ_ _ h'=>h'.elim))
end
noncomputable def PTs(X:Cx)(ifs:List ao)(t:TT):Prop:=
 ∀(pins:List (ae×Obj))(s:aj)(σ:St)(H:Hp)(Q:Bool->Hp->Prop),Inv X pins σ H s->t σ H Q->
  aG (aE X.prog X.w) X.A (forIn ifs true λc r=>if r=true then do let ok<-isTrue c X.env (aA c X.env);bc (uE ok)else bc (uE r)) (TP X pins σ Q) X.xe s
def ts0{X:Cx}{E:Str->Hp->Prop}:PTs X [] (tT X.K E λ_=>.ok true):=λpins s σ H Q I ⟨g,env,os,r,m⟩=>XO ⟨H,I,m H (bK.refl H)⟩
def ts1{X:Cx}{E:Str->Hp->Prop}{c:ao}{f:DE->R Bool}(h:PT X c (tT X.K E f)):PTs X [c] (tT X.K E f):=λpins s σ H Q I q=>wpAny_tests_one (h pins s σ H Q I q)
def ed(b:D->DE->R DE)(ct:DE->R Bool)(fe:DE->R D)(e₀:DE):List D->R (List D)
 |[]=>.ok []
 |x::xs=>(b x e₀).bind λe=>(ct e).bind λt=>if t=true then(fe e).bind λd=>(ed b ct fe e₀ xs).bind λds=>.ok (d::ds)else ed b ct fe e₀ xs
def iW(env:DE):List Nat->R (List D)
 |[]=>.ok []
 |i::r=>(dG i env).bind λd=>(iW env r).bind λds=>.ok (d::ds)
theorem Good.iW {K:ak}{E:Str->Hp->Prop}{H₀ H:Hp}{g:Gh}{σ:St}{os:List ae}{env:DE}(r:Rel K g env σ H os):∀{caps:List Nat}{p:List D->Prop},Good E H₀ (iW env caps) p->
  ∃ds vs,p ds/\vs.length=caps.length/\ds.length=caps.length/\IsL K (g.P os) H ds vs/\∀(j i:Nat)(v:V),caps[j]?=aa i->vs[j]?=aa v->σ[i]?=aa (aa v)
 |[],p,h=>⟨[],[],h,rfl,rfl,rfl,λj i v e=>by simp at e⟩
 |i::rest,p,h=>by
  have h1:=h.bind;unfold dG at h1;split at h1
  ·rename_i d e
   have h2:Good E H₀ ((DL.iW env rest).bind λds=>.ok (d::ds)) p:=h1;obtain⟨ds,vs,q1,q2,q3,q4,q5⟩:=Good.iW r h2.bind;obtain⟨v,s1,s2⟩:=r.val i d e;refine⟨d::ds,v::vs,q1,by simp[q2],by simp[q3],.cons s2 q4,λj i' v' e1 e2=>?_⟩;cases j with
   |zero=>simp at e1 e2;subst e1 e2;exact s1
   |succ j=>exact q5 j i' v' (by simpa using e1) (by simpa using e2)
  ·exact h1.elim
def ni(nt:Nat)(ds:List D):DE:=aZ nt Sl.no++ds.map .val
def NT{nt:Nat}{ds:List D}{i:Nat}{d:D}(h:(ni nt ds)[i]?=aa (.val d)):nt<=i/\ds[i-nt]?=aa d:=by
 unfold ni at h;have hi:nt<=i:=by
  refine Ny λz=>?_;rw[fu (by simpa using z),nS]at h;split at h<;>cases h
 rw[jh (by simpa using hi),b8]at h;refine⟨hi,?_⟩;simp only [xw]at h;cases q:ds[i-nt]? with
 |none=>rw[q]at h;cases h
 |some d'=>rw[q]at h;cases h;rfl
def CI{nt:Nat}{ds:List D}{i:Nat}{xs:List D}(h:(ni nt ds)[i]?=aa (.own xs)):False:=by
 unfold ni at h
 by_cases hi:i<nt
 ·rw[fu (by simpa using hi),nS]at h
  split at h<;>cases h
 ·rw[jh (by simp;lia),b8]at h
  cases q:ds[i-(aZ nt Sl.no).length]? with
  |none=>rw[q]at h;cases h
  |some d'=>rw[q]at h;cases h
def Jr{nt:Nat}{ds:List D}{i:Nat}{w:Ct}(h:(ni nt ds)[i]?=aa (.deep w)):False:=by
 unfold ni at h
 by_cases hi:i<nt
 ·rw[fu (by simpa using hi),nS]at h
  split at h<;>cases h
 ·rw[jh (by simp;lia),b8]at h
  cases q:ds[i-(aZ nt Sl.no).length]? with
  |none=>rw[q]at h;cases h
  |some d'=>rw[q]at h;cases h
def NU{nt:Nat}{ds:List D}{i:Nat}{w:V}(h:(ni nt ds)[i]?=aa (.raw w)):False:=by
 unfold ni at h
 by_cases hi:i<nt
 ·rw[fu (by simpa using hi),nS]at h
  split at h<;>cases h
 ·rw[jh (by simp;lia),b8]at h
  cases q:ds[i-(aZ nt Sl.no).length]? with
  |none=>rw[q]at h;cases h
  |some d'=>rw[q]at h;cases h
section
variable{X:Cx}{pins:List (ae×Obj)}{σ:St}{H:Hp}{s:aj}{h':aD}
def DD{fp:List ae}{t':Nat}(I:Inv X pins σ H s)(hf:∀b∈fp,sU X pins H b)(k:∀b u,b∉fp->s.heap.get? b=aa u->h'.get? b=aa u):Inv X pins σ H {s with heap:=h',toks:=t'}:=by
 have nfp:∀b u,H b=aa u->b∉fp:=λb u e z=>by rw[(hf b z).1]at e;cases e
 refine I.step (g':=s.gens) (d':=s.drawn) (ch:=fp) (λb hb=>⟨(hf b hb).2.2.2.1,(hf b hb).2.1,(hf b hb).2.2.2.2.1,(hf b hb).2.2.2.2.2⟩) (λb u _ _ hc e _=>k b u hc e) (λb u _ _ hc e _=>⟨u.slots,k b u hc e⟩)
  (λb u _ e n=>n) (λb u hc e=>⟨u,k b u hc e⟩) (λb xs e=>e) (λb u xs e=>e) (λb ps e=>⟨#[],by rw[e];simp⟩) (λm hm=>?_) (λb u e=>?_) I.bare
 ·obtain⟨ob,es,ep,ho,r⟩:=hm
  exact⟨ob,es,ep,k _ ob (λz=>(hf _ z).2.1 rfl) ho,r⟩
 ·refine(I.hok b u e).Lc (λc v hc q=>k c v ?_ q) (λc q=>q) λc xs q=>q
  rcases hc with z|z
  ·rw[z];exact nfp b u e
  ·exact nfp c _ z
end
def R.ne {α:Type}:R α->R α
 |.ok a=>.ok a
 |_=>.bad
def R.SX {α:Type}(a:α):(R.ok a).ne=.ok a:=rfl
def R.jQ {α β:Type}{r:R α}{k:α->R β}{y:β}(h:r.bind k=.ok y):∃a,r=.ok a/\k a=.ok y:=by
 cases r with
 |ok a=>exact⟨a,rfl,h⟩
 |err c=>cases h
 |bad=>cases h
def CJ{α:Type}{E:Str->Hp->Prop}{H₀:Hp}{r:R α}{a:α}{p:α->Prop}(e:r=.ok a)(h:p a):Good E H₀ r p:=by rw[e];exact h
section
variable{X:Cx}{E:Str->Hp->Prop}{pos:Pos}{scope:dw}{N:List Str}{nt:Nat}{caps:List Nat}
def NV{K:ak}{g:Gh}{e:DE}{σ:St}{H H':Hp}{a:ae}{ds:List D}{ts:DE}(r:Rel K g e σ H [a])(he:e=ts++ds.map .val)(hl:ts.length=nt)(x:Ext (g.P [a]) (g.P [a]) H H')(s:bK g.H₀ H')(hn:∃o,H' a=aa o):
  Rel K g (ni nt ds) σ H' [a]:=by
 subst he;refine⟨by rw[r.len];simp[ni,hl],s,λi d e=>?_,λi xs e=>(CI e).elim,λi j xs ys b e=>(CI e).elim,λb hb=>?_,λi w e=>(NU e).elim,Ly.none λi w e=>Jr e⟩
 ·obtain⟨h1,h2⟩:=NT e
  obtain⟨v,q1,q2⟩:=r.val i d (by rw[jh (by lia),hl,b8,h2];rfl);exact⟨v,q1,Is.ext x _ _ q2⟩
 ·have e:b=a:=by simpa using hb
  subst e;exact⟨(r.new b hb).1,hn⟩
noncomputable def akc(X:Cx)(pins:List (ae×Obj))(σ:St)(g:Gh)(os:List ae)(H:Hp)(use:Option (ah->Sem Unit))(Qv:ah->aj->Prop)(ys:List D):Prop:=
 ∀(Dd C:ae)(acc:List V)(Hx:Hp)(s6:aj),Inv X pins σ Hx s6->(∃m,s6.heap.Ns C m)->sU X pins Hx C->bK H Hx->H Dd=none->Hx Dd=aa (.lst acc)->IsL X.K (g.P (Dd::os)) Hx ys acc->
  compPost (aE X.prog X.w) X.A X.xe use Qv (.ref Dd) C (.ok .next) s6
def NW{elt tg iter:ao}{ifs:List ao}{fi:DE->R (List D)}{b:D->DE->R DE}{ct:DE->R Bool}{fe:DE->R D}(S:mm X scope N nt caps)(DF:X.calm=true)(hi:PI X tg iter (tIS X.K E fi))
  (hb1:∀ds d e,b d (ni nt ds)=.ok e->∃ts,e=ts++ds.map .val/\ts.length=nt)
  (hg:∀s H fp C pl,PG (yi X scope N s H fp C pl) tg (tG X.K EN b))(ht:∀s H fp C pl,PTs (yi X scope N s H fp C pl) ifs (tT X.K EN ct))(he:∀s H fp C pl,PE (yi X scope N s H fp C pl) elt (tD X.K EN fe))
  (hs:∀x,y6 iter X.env x=bc x){use:Option (ah->Sem Unit)}{Qv:ah->aj->Prop}{pins:List (ae×Obj)}{s:aj}{σ:St}{H:Hp}{env:DE}{os:List ae}{g:Gh}(I:Inv X pins σ H s)(r:Rel X.K g env σ H os)
  (m:Good E g.H₀ ((fi env).bind λxs=>(iW env caps).bind λds=>(ed b ct fe (ni nt ds) xs).ne.bind fit) (akc X pins σ g os H use Qv)){ps:Pos}:
  aG (aE X.prog X.w) X.A (comprehension (.ListComp elt [⟨tg,iter,ifs,0⟩] scope pos) scope X.env ps (newList []) false (aA iter X.env) use) Qv X.xe s:=by
 refine XQ (use:=use) rfl hs (yx (S.cells I)) S.kind S.names ?_;refine fJ (hi pins s σ H (λJ H1=>∃xs,bK H H1/\Yls X.K (g.P os) J H1 xs/\Good E g.H₀ ((iW env caps).bind λds=>(ed b ct fe (ni nt ds) xs).ne.bind fit) _) I ⟨g,env,os,r,m.bind.mono λxs _ m1 J H1 s1 yl=>⟨xs,s1,yl,m1⟩⟩) λv s1 h1=>fJ h1 λitv s2 h2=>?_;obtain⟨it,fp,tn,J,H2,rfl,I2,T,V6,f2,xs,XR,yl,m1⟩:=h2;have r2:=r.same XR;obtain⟨ds,vs,m2,hvl,hdl,hds,hvs⟩:=m1.bind.iW r2;cases ec:ed b ct fe (ni nt ds) xs with
 |bad=>rw[ec]at m2;exact m2.elim
 |err c=>rw[ec]at m2;exact m2.elim
 |ok ys=>
 rw[ec]at m2;obtain⟨hz,q⟩:=(show Good E g.H₀ (fit ys) _ from m2).fit;refine GU (XS S.cell (by intro y hy;simp at hy) (λh₁ LC hsb₁=>?_) S.kind);dsimp only at LC hsb₁⊢;have hDn:H2 s2.heap.objs.size=none:=I2.hok.fresh (bf _);have I3:Inv X pins σ (upd H2 s2.heap.objs.size (.lst [])) {s2 with heap:=s2.heap.push {cls:=.type "list",dict:=none,data:=.seq ([]:List ah).toArray}}:=
  I2.laid (t':=s2.toks) (λb u e=>cZ _ e) (bf _) ⟨iJ _,[],0,.nil,jg _ rfl⟩
 generalize hs3:({s2 with heap:=s2.heap.push {cls:=.type "list",dict:=none,data:=.seq ([]:List ah).toArray}}:aj)=s3 at I3;have hh3:s3.heap=s2.heap.push {cls:=.type "list",dict:=none,data:=.seq ([]:List ah).toArray}:=by rw[<-hs3]
 rw[<-hh3]at LC hsb₁⊢;generalize hDd:s2.heap.objs.size=Dd at*;have k3:∀b o,s3.heap.get? b=aa o->h₁.get? b=aa o:=λb o e=>hsb₁.extBut b o (dO (bM e)) (cZ _ e);have SY:∀b∈fp,∃o,s2.heap.get? b=aa o:=λb hb=>let⟨o,e,_⟩:=T.obj 0 _ V6 b hb;⟨o,e⟩
 have ac0:∀b∈fp,∃o,s3.heap.get? b=aa o:=λb hb=>let⟨o,e⟩:=SY b hb;⟨o,by rw[hh3];exact cZ _ e⟩
 have hfD:∀b∈fp,b≠Dd:=λb hb=>let⟨o,e⟩:=SY b hb;by rw[<-hDd];exact dO (bM e)
 have f3:∀b∈fp,sU X pins (upd H2 Dd (.lst [])) b:=λb hb=>⟨by rw[aH (hfD b hb)];exact(f2 b hb).1,(f2 b hb).2⟩
 have sD:bK H2 (upd H2 Dd (.lst [])):=bR hDn _;have I4:=S.start (t':=s2.toks+([]:List (Str×ah)).length) I3 f3 (bf _) LC k3 ac0 hvl (λj i v e1 e2=>hvs j i v e1 e2) _ rfl;generalize hX:yi X scope N s3 (upd H2 Dd (.lst [])) fp s3.heap.objs.size (X.pn++pins)=X' at I4;have hg':=hg s3 (upd H2 Dd (.lst [])) fp s3.heap.objs.size (X.pn++pins);have RL:=ht s3 (upd H2 Dd (.lst [])) fp s3.heap.objs.size (X.pn++pins);have he':=he s3 (upd H2 Dd (.lst [])) fp s3.heap.objs.size (X.pn++pins);rw[hX]at hg' RL he';have eK:X'.K=X.K:=by rw[<-hX];rfl
 have eP:X'.prog=X.prog:=by rw[<-hX];rfl
 have eW:X'.w=X.w:=by rw[<-hX];rfl
 have eA:X'.A=X.A:=by rw[<-hX];rfl
 have eE:X'.xe=λ_ _=>False:=by rw[<-hX];rfl
 have eC:X'.calm=true:=by rw[<-hX];exact DF
 have eL:X'.env.locals=s3.heap.objs.size:=by rw[<-hX];rfl
 have eS:X'.s₀=s3:=by rw[<-hX];rfl
 have eX:X'.ex=fp:=by rw[<-hX];rfl
 have eF:X'.fs=K8 X.stack:=by rw[<-hX];rfl
 have eN:X'.pn=X.pn++pins:=by rw[<-hX];rfl
 have eH:X'.H₀=upd H2 Dd (.lst []):=by rw[<-hX];rfl
 have eV:X'.env=zA scope (IU X.env.cells scope.names []) s3.heap.objs.size X.env:=by rw[<-hX];rfl
 have fpX:∀{Hx:Hp},(∀b∈fp,Hx b=none)->∀b∈fp,sU X' [] Hx b:=λ{Hx} hn b hb=>by
  obtain⟨_,c1,c2,c3,c4,c5⟩:=f3 b hb;have q:=I4.ok.exf b (by rw[eX];exact hb);refine⟨hn b hb,q.1,I4.ok.Ld b (by rw[eX];exact hb),.inl (by rw[eX];exact hb),q.2,λp hp=>?_⟩;rw[eN,bE]at hp;exact c5 p hp
 let g':Gh:=⟨g.P os,H2⟩
 have exP:∀{Hx:Hp},bK H2 Hx->Ext (g.P os) (g'.P [Dd]) H2 Hx:=λsx=>⟨λa o p e=>⟨.inl p,λz=>by
  have z':a=Dd:=by simpa using z
  rw[z',hDn]at e;cases e⟩,λa o _ e=>sx a o e⟩
 have akf:Rel X.K g' (ni nt ds) (aZ nt none++vs.map aa) (upd H2 Dd (.lst [])) [Dd]:=by
  refine⟨by simp[ni,hvl,hdl],sD,λi d e=>?_,λi xs e=>(CI e).elim,λi j xs ys b e=>(CI e).elim,λb hb=>?_,λi w e=>(NU e).elim,Ly.none λi w e=>Jr e⟩
  ·obtain⟨h1,h2⟩:=NT e
   obtain⟨v,q1,q2⟩:=hds.get h2;refine⟨v,?_,Is.ext (exP sD) _ _ q2⟩;rw[jh (by simpa using h1),b8,xw,q1]<;>rfl
  ·have e:b=Dd:=by simpa using hb
   subst e;exact⟨hDn,_,aT⟩
 have loop:∀s4:aj,Inv X' [] (aZ nt none++vs.map aa) (upd H2 Dd (.lst [])) s4->tn 0 s4.heap->
   lU (aE X.prog X.w) X.A (.compLoop (.ListComp elt [⟨tg,iter,ifs,0⟩] scope pos) 0 (.ref it) (.ref Dd) (zA scope (IU X.env.cells scope.names []) s3.heap.objs.size X.env))
    (compPost (aE X.prog X.w) X.A X.xe use Qv (.ref Dd) s3.heap.objs.size) s4:=by
  intro s4 J4 S2;refine BP (λn s'=>∃i acc as rest Hx σ',n=xs.length-i/\i<=xs.length/\Inv X' [] σ' Hx s'/\tn i s'.heap/\(∀b∈fp,Hx b=none)/\Hx Dd=aa (.lst acc)/\IsL X.K (g'.P [Dd]) Hx as acc/\
   ed b ct fe (ni nt ds) (xs.drop i)=.ok rest/\as++rest=ys/\Rel X.K g' (ni nt ds) σ' Hx [Dd]) ?_ xs.length
   ⟨0,[],[],ys,_,_,by simp,iJ _,J4,S2,λb hb=>(f3 b hb).1,aT,rfl,by rw[Hk];exact ec,rfl,akf⟩
  rintro n s5 ⟨i,acc,as,rest,Hx,σ5,rfl,hi5,J5,WO,V7,hD5,ia5,c5,e5,r5⟩;obtain⟨y1,y2⟩:=yl i Hx (g'.P [Dd]) r5.ext (exP r5.ext)
  by_cases hlt:i<xs.length
  ·have hx:xs[i]?=aa xs[i]:=bj hlt
   obtain⟨go,y3⟩:=y1 _ hx;rw[NS hlt]at c5;obtain⟨e1,hb5,c6⟩:=R.jQ (show(b xs[i] (ni nt ds)).bind _=.ok rest from c5);obtain⟨t,ht5,c7⟩:=R.jQ c6;have TI:=T.item X' eP eW eK eC i [] s5 σ5 Hx (λ_ _=>False) J5 (fpX V7) WO go;rw[eA]at TI;refine fJ TI λr s6 h6=>?_;obtain⟨u,rfl,h6⟩:=h6;refine fJ h6 λ_ s7 h7=>?_;obtain⟨x,H7,J7,rx,hy,st7,fr7⟩:=h7;obtain⟨s57,hix⟩:=y3 x H7 hy;have ix:Is X.K (g'.P [Dd]) H7 xs[i] x:=Is.ext ⟨λa o p _=>p.elim (λz=>z) λz=>r5.fresh z,λ_ _ _ z=>z⟩ _ _ hix;have J7':=J7.pinned (fpX fr7) (T.obj _ _ st7);have TG:=hg' _ s7 σ5 H7 x u (λσ8 H8=>∃e8,b xs[i] (ni nt ds)=.ok e8/\Rel X.K g' e8 σ8 H8 [Dd]/\H8=H7) J7' rx ⟨g',ni nt ds,[Dd],xs[i],r5.same s57,ix,CJ hb5 λσ8 r8=>⟨e1,hb5,r8,rfl⟩⟩;rw[eP,eW,eA,eE,eV]at TG;refine fJ TG λ_ s8 h8=>?_;obtain⟨σ8,H8,J8,e8,hb8,r8,hH8⟩:=h8;rw[hH8]at J8 r8;rw[hb5]at hb8;cases hb8;have TT:=RL _ s8 σ8 H7 (λt' H9=>t'=t/\bK H7 H9) J8 ⟨g',e1,[Dd],r8,CJ ht5 λH9 s9=>⟨rfl,s9⟩⟩;rw[eP,eW,eA,eE,eV]at TT;refine fJ TT λok s9 h9=>?_;obtain⟨H9,J9,rfl,Wc⟩:=h9;obtain⟨ts,hts,htl⟩:=hb1 ds _ _ hb5;have NX:∀{σx:St}{Hy:Hp}{sx:aj},Inv X' ([]++AJ fp s7.heap) σx Hy sx->tn (i+1) sx.heap/\∀b∈fp,Hy b=none:=λ{σx Hy sx} Jx=>
    ⟨T.keep _ _ _ st7 λb hb o e=>(Jx.pin (b,o) (fK _ (fK _ (kQ hb e)))).1,λb hb=>by
     obtain⟨o,e,d⟩:=T.obj _ _ st7 b hb;exact(Jx.pin (b,o) (fK _ (fK _ (kQ hb e)))).2.1⟩
   cases ok with
   |false=>
    rw[if_neg di];have c8:ed b ct fe (ni nt ds) (xs.drop (i+1))=.ok rest:=c7;obtain⟨k1,k2⟩:=NX J9;exact⟨xs.length-(i+1),by lia,i+1,acc,as,rest,H9,σ8,rfl,hlt,J9.qy,k1,k2,Wc _ _ (s57 _ _ hD5),(ia5.same s57).same Wc,c8,e5,
     NV r8 hts htl (.same Wc) (r8.ext.trans Wc) ⟨_,Wc _ _ (s57 _ _ hD5)⟩⟩
   |true=>
    rw[if_pos rfl];obtain⟨d,he5,c8⟩:=R.jQ (show(fe e1).bind _=.ok rest from c7);obtain⟨S3,hr5,c9⟩:=R.jQ c8;have c9':rest=d::S3:=by cases c9;rfl
    subst c9';have TE:=he' _ s9 σ8 H9 (λv Js=>bK H9 Js/\Is X.K (g'.P [Dd]) Js d v) J9 ⟨g',e1,[Dd],r8.same Wc,CJ he5 λv Js s10 i10=>⟨s10,i10⟩⟩;rw[eP,eW,eA,eE,eV]at TE;refine fJ TE λy s10 h10=>?_;obtain⟨v,Js,J10,rv,XT,iv⟩:=h10;have ac3:Js Dd=aa (.lst acc):=XT _ _ (Wc _ _ (s57 _ _ hD5));have agE:IsL X.K (g'.P [Dd]) Js as acc:=((ia5.same s57).same Wc).same XT;have TM:=i7 (X:=X') _ s10 σ8 Js (.ref Dd) [v] (.ref Dd) [y] (λ_ H11=>H11=upd Js Dd (.lst (acc++[v]))) J10 rfl (.cons rv .nil) ⟨Dd,acc,v,rfl,rfl,ac3,by
     rw[agE.length];have:(as++d::S3).length<=aI:=by rw[e5];exact hz
     rw[bO,bD]at this;lia,rfl⟩
    rw[eP,eW,eA,eE]at TM;refine fJ TM λ_ s11 h11=>?_;obtain⟨v',H11,J11,_,rfl⟩:=h11;obtain⟨k1,k2⟩:=NX J11;have exD:Ext (g'.P [Dd]) (g'.P [Dd]) Js (upd Js Dd (.lst (acc++[v]))):=⟨λ_ _ p _=>p,λa o p e=>by rw[aH (λz=>p.2 (by simp[z]))];exact e⟩
    have akl:bK H2 Js:=(r8.ext.trans Wc).trans XT;refine⟨xs.length-(i+1),by lia,i+1,acc++[v],as++[d],S3,_,σ8,rfl,hlt,J11.qy,k1,k2,aT,IsL.ext exD _ _ (agE.app (.one iv)),hr5,by rw[bQ];exact e5,?_⟩;exact NV (r8.same (Wc.trans XT)) hts htl exD (λa o e=>by rw[aH (bg (show H2 a=aa o from e) hDn)];exact akl a o e) ⟨_,aT⟩
  ·have e:i=xs.length:=by lia
   subst e;rw[Hl]at c5;have c5':rest=[]:=by cases c5;rfl
   subst c5';rw[bE]at e5;subst e5;have TD:=T.done X' eP eW eK eC xs.length [] s5 σ5 Hx (λ_ _=>False) J5 (fpX V7) WO (y2 rfl);rw[eA]at TD;refine fJ TD λr s6 h6=>?_;obtain⟨rfl,J6⟩:=h6;obtain⟨m6,hn6,_⟩:=J6.loc;rw[eL]at hn6;have un6:Un (K8 X.stack) fp (upd H2 Dd (.lst [])) Hx s3.heap s6.heap:=by
    have u:=J6.base;rw[eF,eX,eH,eS]at u;exact u
   have hxC:Hx s3.heap.objs.size=none:=by have:=J6.free;rw[eL]at this;exact this
   have ac5:ye X.prog X.w Hx s6.heap:=by
    have z:=J6.hok;rw[eP,eW]at z;exact z
   have os6:s6.os=s3.os:=by have:=J6.os;rw[eS]at this;exact this
   have I6:Inv X pins σ Hx s6:=I3.aas (s':=s6) os6 un6 ac5 J6.bare λb hb=>by
    obtain⟨_,c1,c2,c3,c4,c5⟩:=f3 b hb;exact⟨c3,c1,c4,c5⟩
   have fC:sU X pins Hx s3.heap.objs.size:=⟨hxC,(I3.Lh (bf _) (I3.hok.fresh (bf _))).2⟩
   refine q Dd s3.heap.objs.size acc Hx s6 I6 ⟨m6,hn6⟩ fC (XR.trans r5.ext) (XR.free hDn) hD5 (IsL.ext ⟨λa o p _=>?_,λ_ _ _ z=>z⟩ _ _ ia5);have z:g.P os a:=p.1.elim (λz=>z) λz=>r2.fresh z;exact⟨z.1,λhm=>(aX.mp hm).elim (λz=>p.2 (by simp[z])) z.2⟩
 have S2:tn 0 h₁:=T.keep _ _ _ V6 λb hb o e=>k3 b o (by rw[hh3];exact cZ _ e);have eG:({heap:=h₁,gens:=s3.gens,drawn:=s3.drawn,toks:=s2.toks+([]:List (Str×ah)).length,os:=s3.os}:aj)={heap:=h₁,gens:=s2.gens,drawn:=s2.drawn,toks:=s2.toks+([]:List (Str×ah)).length,os:=s2.os}:=by rw[<-hs3]
 rw[eG]at I4;exact XU (loop _ I4 S2) (T.self _ 0 _ _ _ S2 (loop _ I4 S2))
variable{elt tg iter:ao}{ifs:List ao}{fi:DE->R (List D)}{b:D->DE->R DE}{ct:DE->R Bool}{fe:DE->R D}
def vY(S:mm X scope N nt caps)(DF:X.calm=true)(hi:PI X tg iter (tIS X.K E fi))
  (hb1:∀ds d e,b d (ni nt ds)=.ok e->∃ts,e=ts++ds.map .val/\ts.length=nt)
  (hg:∀s H fp C pl,PG (yi X scope N s H fp C pl) tg (tG X.K EN b))(ht:∀s H fp C pl,PTs (yi X scope N s H fp C pl) ifs (tT X.K EN ct))(he:∀s H fp C pl,PE (yi X scope N s H fp C pl) elt (tD X.K EN fe))
  (hs:∀x,y6 iter X.env x=bc x:=by intro _;rfl):
  PE X (.ListComp elt [⟨tg,iter,ifs,0⟩] scope pos) (tF X.K E λenv=>(fi env).bind λxs=>(iW env caps).bind λds=>(ed b ct fe (ni nt ds) xs).ne.bind fit):=by
 intro pins s σ H Q I h;obtain⟨g,env,os,r,m⟩:=h;rw[eval_ListComp];refine NW S DF hi hb1 hg ht he hs I r (m.mono λys _ q Dd C acc Hx s6 I6 hn fC sm hD hx ia=>?_);obtain⟨m6,hn6⟩:=hn;refine⟨m6,hn6,λh7 hs7=>⟨.ref Dd,Hx,DD (fp:=[C]) (t':=s6.toks) I6 (λb hb=>by
  have z:b=C:=by simpa using hb
  rw[z];exact fC) (λb u hb e=>(hs7.2 b (λz=>hb (by simp[z]))).trans e),rfl,q Dd acc Hx sm hD hx ia⟩⟩
def agG(i:Nat){x:Str}{pos' p:Pos}(S:mm X scope N nt caps)(DF:X.calm=true)(hi:PI X tg iter (tIS X.K E fi))
  (hb1:∀ds d e,b d (ni nt ds)=.ok e->∃ts,e=ts++ds.map .val/\ts.length=nt)
  (hg:∀s H fp C pl,PG (yi X scope N s H fp C pl) tg (tG X.K EN b))(ht:∀s H fp C pl,PTs (yi X scope N s H fp C pl) ifs (tT X.K EN ct))(he:∀s H fp C pl,PE (yi X scope N s H fp C pl) elt (tD X.K EN fe))(hN:X.N.Nodup)
  (hs:∀x,y6 iter X.env x=bc x:=by intro _;rfl)(hii:X.N[i]?=aa x:=by rfl)(hx:Loc X.env.scope x:=by first|exact aR rfl|exact aS rfl)
  (hf:X.fn x=true\/X.env.scope.names.lookup x=aa .local:=by first|exact .inl rfl|exact .inr rfl|assumption)
  (hsw:gk (.ListComp elt [⟨tg,iter,ifs,0⟩] scope p) (aa (.Name x pos')) pos.line X.env=bc true:=by rfl):
  PS X (.Assign [.Name x pos'] (.ListComp elt [⟨tg,iter,ifs,0⟩] scope p) pos) (tS X.K E λenv=>((fi env).bind λxs=>(iW env caps).bind λds=>(ed b ct fe (ni nt ds) xs).ne.bind fit).bind λys=>.ok (.nx (env.set i (.own ys)))):=by
 intro pins s σ H De I h;obtain⟨g,env,os,r,m⟩:=h;rw[exec_Assign_Name_used _ _ _ _ hsw,arm_evalThenUse_ListComp];refine aY (GQ (aY (aY ?_)));refine NW (use:=aa (jf (.Name x pos') X.env)) S DF hi hb1 hg ht he hs I r (m.bind.mono λys _ q Dd C acc Hx s6 I6 hn fC sm hD yV ia=>?_);obtain⟨m6,o6,es6,ep6,ho6,hd6,hk6⟩:=hn;have fC':∀b∈[C],sU X pins Hx b:=λb hb=>by
  have z:b=C:=by simpa using hb
  rw[z];exact fC
 have J6:=I6.pinned fC' λb hb=>by
  have z:b=C:=by simpa using hb
  subst z;exact⟨o6,ho6,λv z=>by rw[hd6]at z;cases z⟩
 have TG:=xn (pos:=pos') hN hii hx hf _ s6 σ Hx (.ref Dd) (.ref Dd) (λσ7 H7=>σ7=σ.set i (aa (.ref Dd))/\H7=Hx) J6 rfl ⟨rfl,rfl⟩;refine fJ TG λ_ s7 h7=>?_;obtain⟨σ7,H7,J7,rfl,rfl⟩:=h7;have e7:s7.heap.get? C=aa o6:=(J7.pin (C,o6) (fK _ (fK _ (kQ (by simp) ho6)))).1;refine⟨m6,⟨o6,es6,ep6,e7,hd6,hk6⟩,λh8 hs8=>cK (cK ?_)⟩;refine⟨_,H7,DD (fp:=[C]) (t':=s7.toks) J7.qy fC' (λb u hb e=>(hs8.2 b (λz=>hb (by simp[z]))).trans e),?_⟩;exact q _ H7 (Dd::os) (r.agl sm i hD yV ia) (.new sm hD)
end
section
variable{X:Cx}{pins:List (ae×Obj)}{σ:St}{H:Hp}{s:aj}{h':aD}
def NY{fp:List ae}{t:ae}{o:HO}{t':Nat}(I:Inv X pins σ H s)(hf:∀b∈fp,sU X pins H b)(k:∀b u,b∉fp->s.heap.get? b=aa u->h'.get? b=aa u)(hex:∀b∈fp,∀u,s.heap.get? b=aa u->∃u',h'.get? b=aa u')(ht:s.heap.objs.size<=t)
  (new:gU X.prog X.w (upd H t o) h' t o):Inv X pins σ (upd H t o) {s with heap:=h',toks:=t'}:=by
 have hn:H t=none:=I.hok.fresh ht;have nfp:∀b u,H b=aa u->b∉fp:=λb u e z=>by rw[(hf b z).1]at e;cases e
 refine I.step (g':=s.gens) (d':=s.drawn) (ch:=fp) (λb hb=>⟨(hf b hb).2.2.2.1,(hf b hb).2.1,(hf b hb).2.2.2.2.1,(hf b hb).2.2.2.2.2⟩) (λb u _ _ hc e _=>k b u hc e) (λb u _ _ hc e _=>⟨u.slots,k b u hc e⟩)
  (λb u _ e n=>by rw[aH (dO (dN (bM e) ht))];exact n) (λb u hc e=>⟨u,k b u hc e⟩)
  (λb xs e=>by rw[aH (bg e hn)];exact e) (λb u xs e=>by rw[aH (bg e hn)];exact e) (λb ps e=>⟨#[],by rw[aH (bg e hn),e];simp⟩)
  (λm hm=>?_) (λb u e=>?_) I.bare
 ·obtain⟨ob,es,ep,ho,r⟩:=hm
  exact⟨ob,es,ep,k _ ob (λz=>(hf _ z).2.1 rfl) ho,r⟩
 ·by_cases hb:b=t
  ·subst hb;rw[aT]at e;cases e;exact new
  ·rw[aH hb]at e
   refine(I.hok b u e).Lc (λc v hc q=>k c v ?_ q) (λc q=>by rw[aH (bg q hn)];exact q) λc xs q=>by rw[aH (bg q hn)];exact q
   rcases hc with z|z
   ·rw[z];exact nfp b u e
   ·exact nfp c _ z
end
def Ite(K:ak)(l:ae):It:=
 ⟨λi H=>∃xs x,gb K H l xs/\xs[i]?=aa x,λi H x H'=>∃t y,H t=none/\H'=upd H t (.tup [.int (i:Nat),y])/\x=.ref t/\∀xs,gb K H l xs->xs[i]?=aa y,λi H=>∃xs,gb K H l xs/\xs.length<=i⟩
def QO{P:aU}{w:aF}{K:ak}{elts:List ao}{kk:Nat}{pp:Pos}(l e it:ae)(hei:e≠it):
  Turn P w K (.Tuple elts kk pp) (Ite K l) [e,it] e (λi h=>(∃old,IsEnum h e it (i:Nat) old)/\h.IsListIter it l i) where
 mem:=by simp
 obj:=λi h st b hb=>by
  obtain⟨⟨old,he⟩,o,e2,c,d⟩:=st;rcases aX.mp hb with rfl|hb
  ·exact⟨_,he,λv z=>by cases z⟩
  ·have z:b=it:=by simpa using hb
   subst z;exact⟨o,e2,λv z=>by rw[d]at z;cases z⟩
 keep:=λi h h' st k=>by
  obtain⟨⟨old,he⟩,hit⟩:=st;exact⟨⟨old,k e (by simp) _ he⟩,hit.at λo q=>k it (by simp) o q⟩
 item:=by
  intro X hP hw hK hc i pins s σ H E I hf st hg;subst hP hw hK;obtain⟨xs,x,hq,hx⟩:=hg;obtain⟨its,rv,p,hz⟩:=I.list hq;obtain⟨u,hu,ru⟩:=rv.get hx;obtain⟨⟨old,he⟩,hit⟩:=st;refine wpAny_pyNext_enum_item he hit p.isList (x:=u) (by simpa using hu) hei λh' ho agH hT hsz hk=>?_;refine⟨_,rfl,wpAny_letOwnedTupleGo_enum ho λXW agI DG=>?_⟩;have hlt:e<s.heap.objs.size:=bM he;have akq:it<s.heap.objs.size:=by obtain⟨_,z,_⟩:=hit;exact bM z
  have kk:∀b o,b∉[e,it]->s.heap.get? b=aa o->XW.get? b=aa o:=λb o hb q=>by
   have h1:b≠e:=λz=>hb (by simp[z]);have h2:b≠it:=λz=>hb (by simp[z]);exact(DG.2 b h1).trans (hk b o h1 h2 q)
  have ac6:XW.get? s.heap.objs.size=aa {cls:=.type "tuple",data:=.seq #[.int i s.toks,u]}:=(DG.2 _ (Cs hlt)).trans hT;have hn:H s.heap.objs.size=none:=I.hok.fresh (bf _);refine⟨.ref s.heap.objs.size,upd H s.heap.objs.size (.tup [.int (i:Nat),x]),?_,rfl,⟨_,x,hn,rfl,rfl,λys hy=>by rw[I.sS hy hq];exact hx⟩,⟨⟨u,by simpa using agI⟩,agH.at λo q=>(DG.2 it hei.symm).trans q⟩,λb hb=>?_⟩
  ·refine NY (s:=s) I hf kk (λb hb u hu=>?_) (bf _) ⟨(by show 2<=aI;decide),[.int i s.toks,u],.cons ⟨_,rfl⟩ (.cons ru .nil),⟨_,ac6,rfl,_,rfl⟩⟩
   rcases aX.mp hb with rfl|hb
   ·exact⟨_,agI⟩
   ·have z:b=it:=by simpa using hb
    subst z;obtain⟨o,q,_⟩:=agH;exact⟨o,(DG.2 b hei.symm).trans q⟩
  ·rw[aH]
   ·exact(hf b hb).1
   ·rcases aX.mp hb with rfl|hb
    ·exact dO hlt
    ·have z:b=it:=by simpa using hb
     subst z;exact dO akq
 done:=by
  intro X hP hw hK hc i pins s σ H E I hf st hg;subst hP hw hK;obtain⟨xs,hq,hx⟩:=hg;obtain⟨its,rv,p,hz⟩:=I.list hq;obtain⟨⟨old,he⟩,hit⟩:=st;have hl:=rv.length;refine wpAny_pyNext_enum_end (I.ok.hd hc) he hit p.isList (by simp;lia) λh' eb=>⟨rfl,?_⟩
  exact DD (fp:=[e,it]) (t':=s.toks) I hf λb o hb q=>eb b o (λz=>hb (by simp[z])) q
 self:=λ_ _ _ _ _ st h=>by
  obtain⟨⟨old,he⟩,_⟩:=st;exact XX he h
noncomputable def Itz(K:ak)(l1 l2:ae):It:=
 ⟨λi H=>∃xs ys x y,gb K H l1 xs/\gb K H l2 ys/\xs[i]?=aa x/\ys[i]?=aa y,λi H x H'=>∃t y z,H t=none/\H'=upd H t (.tup [y,z])/\x=.ref t/\(∀xs,gb K H l1 xs->xs[i]?=aa y)/\∀xs,gb K H l2 xs->xs[i]?=aa z,
  λi H=>∃xs ys,gb K H l1 xs/\gb K H l2 ys/\(xs.length<=i\/ys.length<=i)⟩
def S4{P:aU}{w:aF}{K:ak}{elts:List ao}{kk:Nat}{pp:Pos}(z TI TO i1 i2 l1 l2:ae)(Dz:ZipApart z TI TO i1 i2 l1 l2):
  Turn P w K (.Tuple elts kk pp) (Itz K l1 l2) [z,TI,TO,i1,i2] z (λi h=>IsZip h z TI TO .none/\IsPair h TI (.ref i1) (.ref i2)/\(∃a b,IsPair h TO a b)/\h.IsListIter i1 l1 i/\h.IsListIter i2 l2 i) where
 mem:=by simp
 obj:=λi h st b hb=>by
  obtain⟨hz,hTI,⟨a,c,hTO⟩,⟨o1,e1,c1,d1⟩,⟨o2,e2,c2,d2⟩⟩:=st;simp only [aX,uF,or_false]at hb;rcases hb with rfl|rfl|rfl|rfl|rfl
  ·exact⟨_,hz,λv q=>by cases q⟩
  ·exact⟨_,hTI,λv q=>by cases q⟩
  ·exact⟨_,hTO,λv q=>by cases q⟩
  ·exact⟨o1,e1,λv q=>by rw[d1]at q;cases q⟩
  ·exact⟨o2,e2,λv q=>by rw[d2]at q;cases q⟩
 keep:=λi h h' st k=>by
  obtain⟨hz,hTI,⟨a,c,hTO⟩,h1,h2⟩:=st;exact⟨k z (by simp) _ hz,k TI (by simp) _ hTI,⟨a,c,k TO (by simp) _ hTO⟩,h1.at λo q=>k i1 (by simp) o q,h2.at λo q=>k i2 (by simp) o q⟩
 item:=by
  intro X hP hw hK hc i pins s σ H E I hf st hg;subst hP hw hK;obtain⟨xs,ys,x,y,hq1,hq2,hx,hy⟩:=hg;obtain⟨its,rv,p,hzz⟩:=I.list hq1;obtain⟨its2,rv2,p2,akr⟩:=I.list hq2;obtain⟨u,hu,ru⟩:=rv.get hx;obtain⟨u2,hu2,ru2⟩:=rv2.get hy;obtain⟨hz,hTI,⟨a,c,hTO⟩,h1,h2⟩:=st;refine wpAny_pyNext_zip_item Dz hz hTI hTO h1 h2 p.isList p2.isList (x:=u) (y:=u2) (by simpa using hu) (by simpa using hu2) λh' a1 a2 a3 a4 a5 a6 hk=>?_;refine⟨_,rfl,wpAny_letOwnedTupleGo_zip a1 λXW agJ DG=>?_⟩;have lz:z<s.heap.objs.size:=bM hz;have lTI:TI<s.heap.objs.size:=bM hTI;have lTO:TO<s.heap.objs.size:=bM hTO;have l1':i1<s.heap.objs.size:=by obtain⟨_,q,_⟩:=h1;exact bM q
  have l2':i2<s.heap.objs.size:=by obtain⟨_,q,_⟩:=h2;exact bM q
  have kk:∀b o,b∉[z,TI,TO,i1,i2]->s.heap.get? b=aa o->XW.get? b=aa o:=λb o hb q=>by
   have e1:b≠z:=λq=>hb (by simp[q]);have e2:b≠TO:=λq=>hb (by simp[q]);have e3:b≠i1:=λq=>hb (by simp[q]);have e4:b≠i2:=λq=>hb (by simp[q]);exact(DG.2 b e1).trans (hk b o e1 e2 e3 e4 q)
  have ac6:XW.get? s.heap.objs.size=aa {cls:=.type "tuple",data:=.seq #[u,u2]}:=(DG.2 _ (Cs lz)).trans a5;have hn:H s.heap.objs.size=none:=I.hok.fresh (bf _);have tTI:IsPair XW TI (.ref i1) (.ref i2):=(DG.2 _ Dz.TIz).trans (hk _ _ Dz.TIz Dz.TITO Dz.TIi1 Dz.TIi2 hTI);have tTO:IsPair XW TO u u2:=(DG.2 _ Dz.TOz).trans a2;have t1:XW.IsListIter i1 l1 (i+1):=a3.at λo q=>(DG.2 i1 Dz.i1z).trans q;have t2:XW.IsListIter i2 l2 (i+1):=a4.at λo q=>(DG.2 i2 Dz.i2z).trans q;refine⟨.ref s.heap.objs.size,upd H s.heap.objs.size (.tup [x,y]),?_,rfl,⟨_,x,y,hn,rfl,rfl,(λzs hz=>by rw[I.sS hz hq1];exact hx),λzs hz=>by rw[I.sS hz hq2];exact hy⟩,
   ⟨agJ,tTI,⟨_,_,tTO⟩,t1,t2⟩,λb hb=>?_⟩
  ·refine NY (s:=s) I hf kk (λb hb w hw=>?_) (bf _) ⟨(by show 2<=aI;decide),[u,u2],.cons ru (.cons ru2 .nil),⟨_,ac6,rfl,_,rfl⟩⟩
   simp only [aX,uF,or_false]at hb;rcases hb with rfl|rfl|rfl|rfl|rfl
   ·exact⟨_,agJ⟩
   ·exact⟨_,tTI⟩
   ·exact⟨_,tTO⟩
   ·obtain⟨o,q,_⟩:=t1;exact⟨o,q⟩
   ·obtain⟨o,q,_⟩:=t2;exact⟨o,q⟩
  ·rw[aH]
   ·exact(hf b hb).1
   ·simp only [aX,uF,or_false]at hb
    rcases hb with rfl|rfl|rfl|rfl|rfl<;>exact dO (by assumption)
 done:=by
  intro X hP hw hK hc i pins s σ H E I hf st hg;subst hP hw hK;obtain⟨xs,ys,hq1,hq2,hx⟩:=hg;obtain⟨its,rv,p,hzz⟩:=I.list hq1;obtain⟨its2,rv2,p2,akr⟩:=I.list hq2;obtain⟨hz,hTI,⟨a,c,hTO⟩,h1,h2⟩:=st;have hl:=rv.length;have hl2:=rv2.length;refine wpAny_pyNext_zip_end (I.ok.hd hc) Dz hz hTI hTO h1 h2 p.isList p2.isList (hx.elim (λq=>.inl (by simp;lia)) λq=>.inr (by simp;lia)) λh' eb=>⟨rfl,?_⟩
  exact DD (fp:=[z,TI,TO,i1,i2]) (t':=s.toks) I hf λb o hb q=>eb b o (λz=>hb (by simp[z])) (λz=>hb (by simp[z])) (λz=>hb (by simp[z])) (λz=>hb (by simp[z])) q
 self:=λ_ _ _ _ _ st h=>XY st.1 h
def Itv(K:ak)(l:ae)(n:Nat):It:=
 ⟨λi H=>i<n/\∃xs x,gb K H l xs/\xs.length=n/\xs[n-1-i]?=aa x,λi H x H'=>H'=H/\∀xs,gb K H l xs->xs[n-1-i]?=aa x,λi H=>i=n/\∃xs,gb K H l xs⟩
def S5{P:aU}{w:aF}{K:ak}{tg:ao}(l it:ae)(n:Nat):Turn P w K tg (Itv K l n) [it] it (λi h=>h.IsRevIter it l ((n:Int)-1-(i:Nat))) where
 mem:=by simp
 obj:=λi h st b hb=>by
  have z:b=it:=by simpa using hb
  subst z;obtain⟨o,e,c,d⟩:=st;exact⟨o,e,λv z=>by rw[d]at z;cases z⟩
 keep:=λi h h' st k=>st.at λo e=>k it (by simp) o e
 item:=by
  intro X hP hw hK hc i pins s σ H E I hf st hg;subst hP hw hK;obtain⟨hin,xs,x,hq,hl,hx⟩:=hg;obtain⟨its,rv,p,hz⟩:=I.list hq;obtain⟨u,hu,ru⟩:=rv.get hx;have e1:(n:Int)-1-(i:Nat)=((n-1-i:Nat):Int):=by lia
  rw[e1]at st;refine wpAny_pyNext_rev_item st p.isList (x:=u) (by simpa using hu) λh' WL sb=>?_;have I1:Inv X pins σ H {s with heap:=h'}:=DD (fp:=[it]) (t':=s.toks) I hf λb o hb q=>(sb.2 b (λz=>hb (by simp[z]))).trans q;obtain⟨o,e,c,d⟩:=id WL;have e2:((n-1-i:Nat):Int)-1=(n:Int)-1-((i+1:Nat):Int):=by lia
  rw[e2]at WL;exact⟨u,rfl,R8 (s:={s with heap:=h'}) e c d (by decide) ⟨x,H,I1,ru,⟨rfl,λys hy=>by rw[I.sS hy hq];exact hx⟩,WL,λb hb=>(hf b hb).1⟩⟩
 done:=by
  intro X hP hw hK hc i pins s σ H E I hf st hg;subst hP hw hK;obtain⟨rfl,xs,hq⟩:=hg;have e1:(i:Int)-1-(i:Nat)= -1:=by lia
  rw[e1]at st;exact wpAny_pyNext_rev_end (I.ok.hd hc) st λh' eb=>⟨rfl,DD (fp:=[it]) (t':=s.toks) I hf λb o hb q=>eb b o (λz=>hb (by simp[z])) q⟩
 self:=λ_ _ _ _ _ st h=>X0 st h
section
variable{X:Cx}{E:Str->Hp->Prop}{pos:Pos}
def jz(xs:List D):List D:=xs.zipIdx.map λp=>.tup [.int (p.2:Nat),p.1]
def AX{xs:List D}{i:Nat}{d:D}(h:(jz xs)[i]?=aa d):∃x,xs[i]?=aa x/\d=.tup [.int (i:Nat),x]:=by
 unfold jz at h;rw[b8,List.getElem?_zipIdx]at h;cases q:xs[i]? with
 |none=>rw[q]at h;cases h
 |some x=>
  rw[q]at h;refine⟨x,rfl,?_⟩;have h':aa (D.tup [.int ((0+i:Nat):Int),x])=aa d:=h;rw[jR]at h';exact(cA.inj h').symm
def iE{a:ao}{elts:List ao}{kk:Nat}{pp p:Pos}{f:DE->R D}(hm:X.mg "enumerate"=none)(ha:PE X a (tD X.K E f))(hg:Gl X "enumerate":=by rfl)(hs:ar [a] X.env=[(false,aA a X.env)]:=by rfl):
  PI X (.Tuple elts kk pp) (.Call (.Name "enumerate" p) [a] [] pos) (tI X.K E λenv=>(f env).bind λd=>(zt d).bind λxs=>.ok (jz xs)):=by
 intro pins s σ H Rr I h;obtain⟨g,env,os,r,m⟩:=h;have hpa:PA X [a] (QK X.K E λenv=>(f env).bind λx=>(R.ok []).bind λxs=>.ok (x::xs)):=bq ha dm hs;refine rC (j3 I hg hm boot_enumerate (jN (fJ (hpa pos pins s σ H (λvs H1=>bK H H1/\∃d,f env=.ok d/\∃v,vs=[v]/\Is X.K (g.P os) H1 d v/\Good E g.H₀ ((zt d).bind λxs=>.ok (jz xs)) (λxs=>∀J H1,bK H H1->Yl X.K (g.P os) J H1 xs->Rr J H1)) I
  ⟨g,env,os,r,?_⟩) λus s1 ⟨vs,H1,I1,r1,q1⟩=>?_) hs rfl))
 ·exact Good.NJ m.bind (λd e q=>by
   show Good E g.H₀ (R.ok [d]) _;exact λvs H' s' i'=>by
    obtain⟨v,rfl,iv⟩:=IsL.Hh i';exact⟨s',d,e,v,rfl,iv,q⟩)
 ·obtain⟨s1',d,_,v,rfl,iv,q⟩:=q1
  cases d with
  |lst xs=>
   obtain⟨l,ws,rfl,h1,h2⟩:=iv;obtain⟨u,rfl,ru⟩:=vals1 r1;cases ru;obtain⟨its,rv,pl,hz⟩:=I1.list h1.sq;refine call_enumerate_list pl.isList λh' he hit hsz hk=>?_;refine XX he ?_;have I2:Inv X pins σ H1 {s1 with heap:=h'}:=I1.kept (t':=s1.toks) hk;have f1:∀b∈[s1.heap.objs.size+1,s1.heap.objs.size],sU X pins H1 b:=λb hb=>by
    have QP:s1.heap.objs.size<=b:=by
     simp only [aX,uF,or_false]at hb;rcases hb with rfl|rfl<;>lia
    exact I1.Lh QP (I1.hok.fresh QP)
   refine⟨s1.heap.objs.size+1,[s1.heap.objs.size+1,s1.heap.objs.size],_,Ite X.K l,H1,rfl,I2,QO l _ _ (Cs (CB _)),⟨⟨_,he⟩,hit⟩,f1,?_⟩;refine(show∀J H1,bK H H1->Yl X.K (g.P os) J H1 (jz xs)->Rr J H1 from q) _ H1 s1' λi H' P' ex=>⟨λd hd=>?_,λhi=>?_⟩
   ·obtain⟨x,hx,rfl⟩:=AX hd
    obtain⟨y,hy,iy⟩:=(IsL.ext ex _ _ h2).get hx;refine⟨⟨ws,y,(h1.ext ex).sq,hy⟩,λz H2 hyl=>?_⟩;obtain⟨t,y',ht,rfl,rfl,hall⟩:=hyl;have e2:=hall ws (h1.ext ex).sq;rw[hy]at e2;cases e2;refine⟨bR ht _,t,_,rfl,.inl ⟨.inr ht,.inl aT⟩,IsL.cons rfl (IsL.one (Is.ext ⟨λ_ _ p _=>.inl p,λa o _ e=>bR ht _ a o e⟩ _ _ iy))⟩
   ·refine⟨ws,(h1.ext ex).sq,?_⟩
    rw[IsL.length h2];refine zb ?_;have:(jz xs).length=xs.length:=by simp[jz]
    lia
  |non=>exact q.elim
  |bl _=>exact q.elim
  |int _=>exact q.elim
  |str _=>exact q.elim
  |exc _=>exact q.elim
  |fn _=>exact q.elim
  |tup _=>exact q.elim
def E8(xs ys:List D):List D:=(xs.zip ys).map λp=>.tup [p.1,p.2]
def S6{xs ys:List D}{i:Nat}{d:D}(h:(E8 xs ys)[i]?=aa d):∃x y,xs[i]?=aa x/\ys[i]?=aa y/\d=.tup [x,y]:=by
 unfold E8 at h;rw[b8]at h;cases q:(xs.zip ys)[i]? with
 |none=>rw[q]at h;cases h
 |some p=>
  rw[q]at h;rw[List.getElem?_zip_eq_some]at q;exact⟨p.1,p.2,q.1,q.2,(cA.inj h).symm⟩
def zip2:List D->R (List D)
 |[.lst xs,.lst ys]=>.ok (E8 xs ys)
 |_=>.bad
def ac8:fj "zip"=aa (.type "zip"):=by decide +kernel
def BQ:fj "reversed"=aa (.type "reversed"):=by decide +kernel
def iZ{a b:ao}{elts:List ao}{kk:Nat}{pp p:Pos}{f:DE->R (List D)}(hm:X.mg "zip"=none)(ha:PA X [a,b] (QK X.K E f))(hg:Gl X "zip":=by rfl)(hs:ar [a,b] X.env=[(false,aA a X.env),(false,aA b X.env)]:=by rfl)(hs2:ar [b] X.env=[(false,aA b X.env)]:=by rfl):
  PI X (.Tuple elts kk pp) (.Call (.Name "zip" p) [a,b] [] pos) (tI X.K E λenv=>(f env).bind zip2):=by
 intro pins s σ H Rr I h;obtain⟨g,env,os,r,m⟩:=h;refine rC (j3 I hg hm ac8 (jN (fJ (ha pos pins s σ H (λvs H1=>bK H H1/\∃ds,IsL X.K (g.P os) H1 ds vs/\Good E g.H₀ (zip2 ds) (λxs=>∀J H1,bK H H1->Yl X.K (g.P os) J H1 xs->Rr J H1)) I
  ⟨g,env,os,r,m.bind.mono λds _ q vs H' s' i'=>⟨s',ds,i',q⟩⟩) λus s1 ⟨vs,H1,I1,r1,q1⟩=>?_) (by rw[hs,hs2]) (by rw[hs2];rfl)))
 obtain⟨s1',ds,iv,q⟩:=q1;unfold zip2 at q;split at q
 ·rename_i xs ys
  obtain⟨v,v2,rfl,RM,RN⟩:=IsL.QM iv;obtain⟨l1,ws1,rfl,h1,g1⟩:=RM;obtain⟨l2,ws2,rfl,h2,g2⟩:=RN;obtain⟨u,u2,rfl,ru,ru2⟩:=vals2 r1;cases ru;cases ru2;obtain⟨its,rv,pl,hz⟩:=I1.list h1.sq;obtain⟨its2,rv2,pl2,hz2⟩:=I1.list h2.sq;refine call_zip_2 pl.isList pl2.isList λh' z1 z2 z3 z4 z5 hsz hk=>?_;refine XY z1 ?_;have I2:Inv X pins σ H1 {s1 with heap:=h'}:=I1.kept (t':=s1.toks) hk;have lt1:l1<s1.heap.objs.size:=by obtain⟨o,_,e,_⟩:=pl;exact bM e
  have lt2:l2<s1.heap.objs.size:=by obtain⟨o,_,e,_⟩:=pl2;exact bM e
  have f1:∀b∈[s1.heap.objs.size+4,s1.heap.objs.size+2,s1.heap.objs.size+3,s1.heap.objs.size,s1.heap.objs.size+1],sU X pins H1 b:=λb hb=>by
   have QP:s1.heap.objs.size<=b:=by
    simp only [aX,uF,or_false]at hb;rcases hb with rfl|rfl|rfl|rfl|rfl
    ·exact Hn _ _
    ·exact Hn _ _
    ·exact Hn _ _
    ·exact bf _
    ·exact Hn _ _
   exact I1.Lh QP (I1.hok.fresh QP)
  refine⟨_,_,_,Itz X.K l1 l2,H1,rfl,I2,S4 (s1.heap.objs.size+4) (s1.heap.objs.size+2) (s1.heap.objs.size+3) s1.heap.objs.size (s1.heap.objs.size+1) l1 l2 (zipApart_new lt1 lt2),⟨z1,z2,⟨_,_,z3⟩,z4,z5⟩,f1,?_⟩;refine(show∀J H1,bK H H1->Yl X.K (g.P os) J H1 (E8 xs ys)->Rr J H1 from q) _ H1 s1' λi H' P' ex=>⟨λd hd=>?_,λhi=>?_⟩
  ·obtain⟨x,y,hx,hy,rfl⟩:=S6 hd
   obtain⟨x',yV,ix⟩:=(IsL.ext ex _ _ g1).get hx;obtain⟨y',hy',iy⟩:=(IsL.ext ex _ _ g2).get hy;refine⟨⟨ws1,ws2,x',y',(h1.ext ex).sq,(h2.ext ex).sq,yV,hy'⟩,λz H2 hyl=>?_⟩;obtain⟨t,a1,a2,ht,rfl,rfl,hall,agN⟩:=hyl;have e1:=hall ws1 (h1.ext ex).sq;have e2:=agN ws2 (h2.ext ex).sq;rw[yV]at e1;rw[hy']at e2;cases e1;cases e2;have ext2:Ext P' (λa=>P' a\/H' a=none) H' (upd H' t (.tup [x',y'])):=⟨λ_ _ p _=>.inl p,λa o _ e=>bR ht _ a o e⟩
   exact⟨bR ht _,t,_,rfl,.inl ⟨.inr ht,.inl aT⟩,IsL.cons (Is.ext ext2 _ _ ix) (IsL.one (Is.ext ext2 _ _ iy))⟩
  ·refine⟨ws1,ws2,(h1.ext ex).sq,(h2.ext ex).sq,?_⟩
   rw[IsL.length g1,IsL.length g2];have:(E8 xs ys).length=min xs.length ys.length:=by simp[E8]
   lia
 ·exact q.elim
def iV{a tg:ao}{p:Pos}{f:DE->R D}(hm:X.mg "reversed"=none)(ha:PE X a (tD X.K E f))(hg:Gl X "reversed":=by rfl)(hs:ar [a] X.env=[(false,aA a X.env)]:=by rfl):
  PI X tg (.Call (.Name "reversed" p) [a] [] pos) (tI X.K E λenv=>(f env).bind λd=>(zt d).bind λxs=>.ok xs.reverse):=by
 intro pins s σ H Rr I h;obtain⟨g,env,os,r,m⟩:=h;have hpa:PA X [a] (QK X.K E λenv=>(f env).bind λx=>(R.ok []).bind λxs=>.ok (x::xs)):=bq ha dm hs;refine rC (j3 I hg hm BQ (jN (fJ (hpa pos pins s σ H (λvs H1=>bK H H1/\∃d,f env=.ok d/\∃v,vs=[v]/\Is X.K (g.P os) H1 d v/\Good E g.H₀ ((zt d).bind λxs=>.ok xs.reverse) (λxs=>∀J H1,bK H H1->Yl X.K (g.P os) J H1 xs->Rr J H1)) I
  ⟨g,env,os,r,?_⟩) λus s1 ⟨vs,H1,I1,r1,q1⟩=>?_) hs rfl))
 ·exact Good.NJ m.bind (λd e q=>by
   show Good E g.H₀ (R.ok [d]) _;exact λvs H' s' i'=>by
    obtain⟨v,rfl,iv⟩:=IsL.Hh i';exact⟨s',d,e,v,rfl,iv,q⟩)
 ·obtain⟨s1',d,_,v,rfl,iv,q⟩:=q1
  cases d with
  |lst xs=>
   obtain⟨l,ws,rfl,h1,h2⟩:=iv;obtain⟨u,rfl,ru⟩:=vals1 r1;cases ru;obtain⟨its,rv,pl,hz⟩:=I1.list h1.sq;have hl:=rv.length;have hl2:ws.length=xs.length:=IsL.length h2;refine call_reversed_list pl.isList ?_;have e0:((its.toArray.size:Nat):Int)-1=(xs.length:Int)-1:=by rw[cW];lia
   rw[e0];have hit:({s1 with heap:=s1.heap.push (X1 l ((xs.length:Int)-1))}:aj).heap.IsRevIter s1.heap.objs.size l ((xs.length:Int)-1):=⟨_,jg _ rfl,rfl,rfl⟩
   refine X0 hit ?_;have I2:Inv X pins σ H1 {s1 with heap:=s1.heap.push (X1 l ((xs.length:Int)-1))}:=I1.kept (t':=s1.toks) λb o e=>cZ _ e;have f1:∀b∈[s1.heap.objs.size],sU X pins H1 b:=λb hb=>by
    have z:b=s1.heap.objs.size:=by simpa using hb
    subst z;exact I1.Lh (bf _) (I1.hok.fresh (bf _))
   refine⟨_,[s1.heap.objs.size],_,Itv X.K l xs.length,H1,rfl,I2,S5 l _ xs.length,?_,f1,?_⟩
   ·have e1:(xs.length:Int)-1-((0:Nat):Int)=(xs.length:Int)-1:=by lia
    rw[e1];exact hit
   refine(show∀J H1,bK H H1->Yl X.K (g.P os) J H1 xs.reverse->Rr J H1 from q) _ H1 s1' λi H' P' ex=>⟨λd hd=>?_,λhi=>?_⟩
   ·have hi:i<xs.length:=by
     have:=(bG.mp hd).1;simpa using this
    rw[uG hi]at hd;obtain⟨y,hy,iy⟩:=(IsL.ext ex _ _ h2).get hd;refine⟨⟨hi,ws,y,(h1.ext ex).sq,hl2,hy⟩,λz H2 hyl=>?_⟩;obtain⟨rfl,hall⟩:=hyl;have e2:=hall ws (h1.ext ex).sq;rw[hy]at e2;cases e2;exact⟨bK.refl _,Is.ext ⟨λ_ _ p _=>.inl p,λ_ _ _ e=>e⟩ _ _ iy⟩
   ·exact⟨by simpa using hi.symm,ws,(h1.ext ex).sq⟩
  |non=>exact q.elim
  |bl _=>exact q.elim
  |int _=>exact q.elim
  |str _=>exact q.elim
  |exc _=>exact q.elim
  |fn _=>exact q.elim
  |tup _=>exact q.elim
end
def BR:D->String
 |.non=>"NoneType"
 |.bl _=>"bool"
 |.int _=>"int"
 |.str _=>"str"
 |.lst _=>"list"
 |.tup _=>"tuple"
 |.exc _=>"tuple"
 |.fn _=>"tuple"
def lM(t T:String):Bool:=t==T||(t=="bool"&&T=="int")
def Jt(t T:String):Option Bool:=if((uf t)==(uf T))=true then aa true else if PySem.W.kitMeta T=true then(fastBuiltinMro t).map (·.contains (.type T))else none
def X2(K:ak)(t T:String):M8 K (.type t) (.type T)=Jt t T:=rfl
def LD(T:String):Prop:=∀d:D,Jt (BR d) T=aa (lM (BR d) T)
def CK{T:String}(h:Jt "NoneType" T=aa (lM "NoneType" T)/\Jt "bool" T=aa (lM "bool" T)/\Jt "int" T=aa (lM "int" T)/\Jt "str" T=aa (lM "str" T)/\Jt "list" T=aa (lM "list" T)/\Jt "tuple" T=aa (lM "tuple" T)):LD T:=λd=>by
 cases d with
 |non=>exact h.1
 |bl _=>exact h.2.1
 |int _=>exact h.2.2.1
 |str _=>exact h.2.2.2.1
 |lst _=>exact h.2.2.2.2.1
 |tup _=>exact h.2.2.2.2.2
 |exc _=>exact h.2.2.2.2.2
 |fn _=>exact h.2.2.2.2.2
def Ho:LD "int":=CK (by decide +kernel)
def CL:LD "bool":=CK (by decide +kernel)
def CM:LD "list":=CK (by decide +kernel)
def Ju:LD "tuple":=CK (by decide +kernel)
section
variable{X:Cx}{E:Str->Hp->Prop}{pos:Pos}
def ac9{pins:List (ae×Obj)}{σ:St}{H:Hp}{s:aj}{A:bu}{E:ah->aj->Prop}{Q:ah->aj->Prop}{d:D}{x:V}{u:ah}{T:String}{P:ae->Prop}(I:Inv X pins σ H s)(rx:RelV x u)(hd:Is X.K P H d x)(hne:∀n,d≠.exc n/\d≠.fn n)(kt:LD T)(h:∀tk,Q (.bool (lM (BR d) T)) {s with toks:=tk}):
  aG (aE X.prog X.w) A (call (.builtin "isinstance") [u,.type T]) Q E s:=by
 have e:M8 X.K (.type (BR d)) (.type T)=aa (lM (BR d) T):=(X2 _ _ _).trans (kt d);cases d with
 |non=>cases hd;exact xq I rx .non e h
 |bl b=>cases hd;exact xq I rx (.bl b) e h
 |int b=>cases hd;exact xq I rx (.int b) e h
 |str b=>cases hd;exact xq I rx (.str b) e h
 |lst ds=>
  obtain⟨a,vs,rfl,h1,h2⟩:=hd;cases rx;obtain⟨its,rv,⟨o,n,e1,c1,d1,t1⟩,hz⟩:=I.list h1.sq;exact kq M9 I.AI ⟨o,e1,c1⟩ e (λz=>nomatch z) h
 |tup ds=>
  obtain⟨a,vs,rfl,h1,h2⟩:=hd;cases rx;obtain⟨its,rv,⟨o,e1,c1,d1⟩,hz⟩:=I.tuple h1.sq;exact kq W3 I.AI ⟨o,e1,c1⟩ e (λz=>nomatch z) h
 |exc n=>exact((hne n).1 rfl).elim
 |fn n=>exact((hne n).2 rfl).elim
def EO(T:String)(d:D):R D:=match d with
 |.exc _=>.bad
 |.fn _=>.bad
 |d=>.ok (.bl (lM (BR d) T))
def ada{T:String}{d:D}(h:∀n,d≠.exc n/\d≠.fn n):EO T d=.ok (.bl (lM (BR d) T)):=by
 cases d with
 |exc n=>exact((h n).1 rfl).elim
 |fn n=>exact((h n).2 rfl).elim
 |_=>rfl
def E9:fj "isinstance"=aa (.builtin "isinstance"):=by decide +kernel
def Hq:fj "int"=aa (.type "int"):=by decide +kernel
def CN:fj "bool"=aa (.type "bool"):=by decide +kernel
def nU:fj "list"=aa (.type "list"):=by decide +kernel
def DH:fj "tuple"=aa (.type "tuple"):=by decide +kernel
def jb:fj "len"=aa (.builtin "len"):=by decide +kernel
def LG:fj "abs"=aa (.builtin "abs"):=by decide +kernel
def adb:fj "max"=aa (.builtin "max"):=by decide +kernel
def zB{T:String}{x:Str}{p p2:Pos}{a:ao}{f:DE->R D}(kt:LD T)(hv:fj x=aa (.type T))(hm:X.mg "isinstance"=none)(hmt:X.mg x=none)(ha:PE X a (tB X.K E f))(hg:Gl X "isinstance":=by rfl)(hgt:Gl X x:=by rfl)
  (hn:x≠"__name__":=by decide)(hdb:(x==("__debug__":Str))=false:=by decide)
  (hs:ar [a,.Name x p2] X.env=(false,aA a X.env)::ar [.Name x p2] X.env:=by rfl)(hpl:(bA pos (ar [.Name x p2] X.env)).any (·.1)=false:=by rfl)(hs2:ar [.Name x p2] X.env=(false,aA (.Name x p2) X.env)::ar [] X.env:=by rfl):
  PE X (.Call (.Name "isinstance" p) [a,.Name x p2] [] pos) (tD X.K E λenv=>(f env).bind (EO T)):=by
 have hty:PE X (.Name x p2) (tC (.ty T)):=WB hgt hmt hv rfl hn hdb;refine imp (oU (r:=λxs H Q=>∃d v,xs=[v,.ty T]/\(∀n,d≠.exc n/\d≠.fn n)/\Is X.K Tr H d v/\Q (.bl (lM (BR d) T)) H) ?_ hg hm E9 (bh ha (bh hty bV hs2) hs) (by decide) (by decide) hs hpl) λσ H Q ⟨g,env,os,r,m⟩=>⟨g,env,os,r,m.bind.mono λd _ q v H' s i=>?_⟩
 ·intro pins s σ H xs us Q I r h
  obtain⟨d,v,rfl,hne,hd,q⟩:=h;obtain⟨u,w,rfl,ru,vA⟩:=vals2 r;have e:w=.type T:=vA;subst e;exact ac9 I ru hd hne kt λtk=>⟨.bl _,H,I.tok _,rfl,q⟩
 ·by_cases hne:∀n,d≠.exc n/\d≠.fn n
  ·rw[ada hne]at q
   exact⟨d,v,rfl,hne,i,q _ H' s rfl⟩
  ·cases d with
   |exc n=>exact q.elim
   |fn n=>exact q.elim
   |_=>exact(hne λn=>⟨λz=>(nomatch z),λz=>(nomatch z)⟩).elim
def bools:List D->Option (List Bool)
 |[]=>aa []
 |.bl b::r=>(bools r).map (b::·)
 |_::_=>none
end
noncomputable def eqA:D->D->Option Bool
 |.non,.non=>aa true
 |.bl a,.bl b=>aa (a==b)
 |.int a,.int b=>aa (a==b)
 |.str a,.str b=>aa (a==b)
 |.bl a,.int b=>aa ((if a then 1 else 0)==b)
 |.int a,.bl b=>aa (a==(if b then 1 else 0))
 |.non,.bl _=>aa false
 |.non,.int _=>aa false
 |.non,.str _=>aa false
 |.bl _,.non=>aa false
 |.bl _,.str _=>aa false
 |.int _,.non=>aa false
 |.int _,.str _=>aa false
 |.str _,.non=>aa false
 |.str _,.bl _=>aa false
 |.str _,.int _=>aa false
 |_,_=>none
def yj(f:D->D->Option Bool):List D->List D->Option Bool
 |x::xs,y::ys=>(f x y).bind λb=>(yj f xs ys).map (b&&·)
 |_,_=>aa true
def AY:Nat->D->D->Option Bool
 |0,x,y=>eqA x y
 |n+1,x,y=>match x,y with
  |.lst xs,.lst ys=>if xs.length=ys.length then yj (AY n) xs ys else aa false
  |.tup xs,.tup ys=>(yj (AY n) xs ys).map (·&&xs.length==ys.length)
  |x,y=>eqA x y
def eqJ(f:D->D->Option Bool)(xs ys:List D)(j:Nat):Bool:=((xs[j]?).bind λx=>(ys[j]?).bind λy=>f x y).getD false
def DI(n:Nat)(e:Nat->Bool):(b9 (n+1)).all e=(e 0&&(b9 n).all λj=>e (j+1)):=by
 rw[Hr,Ha,List.all_map];rfl
theorem AZ{f:D->D->Option Bool}:∀{xs ys:List D}{b:Bool},yj f xs ys=aa b->(∀(j:Nat)(x y:D),xs[j]?=aa x->ys[j]?=aa y->f x y=aa (eqJ f xs ys j))/\b=(b9 (min xs.length ys.length)).all (eqJ f xs ys)
 |[],ys,b,h=>by
  have h':aa true=aa b:=by cases ys<;>exact h
  cases h';exact⟨λj x y e=>by simp at e,by simp⟩
 |x::xs,[],b,h=>by
  cases h;exact⟨λj x y _ e=>by simp at e,by simp⟩
 |x::xs,y::ys,b,h=>by
  unfold yj at h;cases e1:f x y with
  |none=>rw[e1]at h;cases h
  |some c=>
   cases e2:yj f xs ys with
   |none=>rw[e1,e2]at h;cases h
   |some d=>
    rw[e1,e2]at h;have h':(c&&d)=b:=cA.inj h;obtain⟨q1,q2⟩:=AZ e2;refine⟨λj x' y' h1 h2=>?_,?_⟩
    ·cases j with
     |zero=>
      simp at h1 h2;subst h1 h2;show f x y=aa (((aa x).bind λx=>(aa y).bind λy=>f x y).getD false);simp[e1]
     |succ j=>exact q1 j x' y' (by simpa using h1) (by simpa using h2)
    ·have e3:min (x::xs).length (y::ys).length=min xs.length ys.length+1:=by simp[Nat.succ_min_succ]
     rw[e3,DI,<-h',q2];have e4:eqJ f (x::xs) (y::ys) 0=c:=by
      show(((aa x).bind λx=>(aa y).bind λy=>f x y).getD false)=c;simp[e1]
     rw[e4];rfl
section
variable{X:Cx}{pins:List (ae×Obj)}{σ:St}{H:Hp}{s:aj}
def S7{A:bu}{P:ae->Prop}{x y:D}{v w:V}{u u':ah}{b:Bool}(hx:Is X.K P H x v)(hy:Is X.K P H y w)(rv:RelV v u)(vA:RelV w u')(e:eqA x y=aa b):fR A s u u' b/\xG A s u u' b/\xH A s u u' (!b):=by
 unfold eqA at e;split at e<;>first|cases e|skip
 ·cases hx;cases hy;cases rv;cases vA;exact⟨.same _,.none_none,.none_none⟩
 ·cases hx;cases hy;cases rv;cases vA;exact⟨.bool_bool _ _,.bool_bool _ _,.bool_bool _ _⟩
 ·cases hx;cases hy;obtain⟨t,rfl⟩:=rv;obtain⟨t',rfl⟩:=vA;exact⟨.int_int _ _ _ _,.int_int _ _ _ _,.int_int _ _ _ _⟩
 ·cases hx;cases hy;obtain⟨t,rfl⟩:=rv;obtain⟨t',rfl⟩:=vA;exact⟨.str_str _ _ _ _,.str_str _ _ _ _,.str_str _ _ _ _⟩
 ·cases hx;cases hy;cases rv;obtain⟨t',rfl⟩:=vA;exact⟨.bool_int _ _ _,.bool_int _ _ _,.bool_int _ _ _⟩
 ·cases hx;cases hy;obtain⟨t,rfl⟩:=rv;cases vA;exact⟨.int_bool _ _ _,.int_bool _ _ _,.int_bool _ _ _⟩
 ·cases hx;cases hy;cases rv;cases vA;exact⟨.none_bool _,.none_bool _,.none_bool _⟩
 ·cases hx;cases hy;cases rv;obtain⟨t',rfl⟩:=vA;exact⟨.none_int _ _,.none_int _ _,.none_int _ _⟩
 ·cases hx;cases hy;cases rv;obtain⟨t',rfl⟩:=vA;exact⟨.none_str _ _,.none_str _ _,.none_str _ _⟩
 ·cases hx;cases hy;cases rv;cases vA;exact⟨.bool_none _,.bool_none _,.bool_none _⟩
 ·cases hx;cases hy;cases rv;obtain⟨t',rfl⟩:=vA;exact⟨.bool_str _ _ _,.bool_str _ _ _,.bool_str _ _ _⟩
 ·cases hx;cases hy;obtain⟨t,rfl⟩:=rv;cases vA;exact⟨.int_none _ _,.int_none _ _,.int_none _ _⟩
 ·cases hx;cases hy;obtain⟨t,rfl⟩:=rv;obtain⟨t',rfl⟩:=vA;exact⟨.int_str _ _ _ _,.int_str _ _ _ _,.int_str _ _ _ _⟩
 ·cases hx;cases hy;obtain⟨t,rfl⟩:=rv;cases vA;exact⟨.str_none _ _,.str_none _ _,.str_none _ _⟩
 ·cases hx;cases hy;obtain⟨t,rfl⟩:=rv;cases vA;exact⟨.str_bool _ _ _,.str_bool _ _ _,.str_bool _ _ _⟩
 ·cases hx;cases hy;obtain⟨t,rfl⟩:=rv;obtain⟨t',rfl⟩:=vA;exact⟨.str_int _ _ _ _,.str_int _ _ _ _,.str_int _ _ _ _⟩
def Jv{P:ae->Prop}{x y:D}{v:V}{b:Bool}(hx:Is X.K P H x v)(hy:Is X.K P H y v)(e:eqA x y=aa b):b=true:=by
 unfold eqA at e;split at e<;>first|cases e|skip
 all_goals cases hx
 all_goals cases hy
 all_goals simp
theorem DJ{P:ae->Prop}{f:D->D->Option Bool}:∀{xs ys:List D}{vs:List V}{b:Bool},(∀x y v b,Is X.K P H x v->Is X.K P H y v->f x y=aa b->b=true)->IsL X.K P H xs vs->IsL X.K P H ys vs->yj f xs ys=aa b->b=true/\xs.length=ys.length
 |[],ys,vs,b,_,hx,hy,e=>by
  have e':vs=[]:=hx;subst e';have:=IsL.length hy;cases ys with
  |nil=>cases e;exact⟨rfl,rfl⟩
  |cons _ _=>simp at this
 |x::xs,[],vs,b,_,hx,hy,e=>by
  have:=IsL.length hx;have e':vs=[]:=hy;subst e';simp at this
 |x::xs,y::ys,vs,b,hf,⟨v,r,e1,p1,q1⟩,⟨v',r',e2,p2,q2⟩,e=>by
  subst e1;cases e2;unfold yj at e;cases h1:f x y with
  |none=>rw[h1]at e;cases e
  |some c=>
   cases h2:yj f xs ys with
   |none=>rw[h1,h2]at e;cases e
   |some d=>
    rw[h1,h2]at e;have e':(c&&d)=b:=cA.inj e;obtain⟨z1,z2⟩:=DJ hf q1 q2 h2;have z3:=hf x y v c p1 p2 h1;subst z1 z3 e';exact⟨rfl,by simp[z2]⟩
theorem zC(I:Inv X pins σ H s){P:ae->Prop}:∀(n:Nat)(x y:D)(v:V)(b:Bool),Is X.K P H x v->Is X.K P H y v->AY n x y=aa b->b=true
 |0,x,y,v,b,hx,hy,e=>Jv hx hy e
 |n+1,x,y,v,b,hx,hy,e=>by
  unfold AY at e;split at e
  ·rename_i xs ys
   obtain⟨a,vs,rfl,h1,h2⟩:=hx;obtain⟨a',NK,ea,h3,h4⟩:=hy;cases ea;have ev:=I.sS h1.sq h3.sq;subst ev;split at e
   ·exact(DJ (zC I n) h2 h4 e).1
   ·rename_i c
    exact absurd ((IsL.length h2).symm.trans (IsL.length h4)) c
  ·rename_i xs ys
   obtain⟨a,vs,rfl,h1,h2⟩:=hx;obtain⟨a',NK,ea,h3,h4⟩:=hy;cases ea;have ev:=I.Qs h1.sq h3.sq;subst ev;cases ez:yj (AY n) xs ys with
   |none=>rw[ez]at e;cases e
   |some c=>
    rw[ez]at e;obtain⟨z1,z2⟩:=DJ (zC I n) h2 h4 ez;subst z1;have e':(true&&(xs.length==ys.length))=b:=cA.inj e;rw[<-e',z2];simp
  ·exact Jv hx hy e
def in1_units(A:bu):A.in1.units=A.units+1:=rfl
theorem NZ(I:Inv X pins σ H s){P:ae->Prop}:∀(n:Nat)(A:bu)(x y:D)(v w:V)(u u':ah)(b:Bool),A.units+n<gZ->Is X.K P H x v->Is X.K P H y w->RelV v u->RelV w u'->AY n x y=aa b->fR A s u u' b/\xG A s u u' b/\xH A s u u' (!b)
 |0,A,x,y,v,w,u,u',b,hu,hx,hy,rv,vA,e=>S7 hx hy rv vA e
 |n+1,A,x,y,v,w,u,u',b,hu,hx,hy,rv,vA,e=>by
  have e0:=e;unfold AY at e;have hu1:A.in1.units+n<gZ:=by rw[in1_units];lia
  have hu0:A.units<gZ:=by lia
  split at e
  ·rename_i xs ys
   have hx0:=hx;have hy0:=hy;obtain⟨a,vs,rfl,h1,h2⟩:=hx;obtain⟨a',NK,rfl,h3,h4⟩:=hy;cases rv;cases vA;obtain⟨its,rvs,pl,hz⟩:=I.list h1.sq;obtain⟨its',S8,pl',hz'⟩:=I.list h3.sq;have l1:=rvs.length;have l2:=S8.length;have l3:vs.length=xs.length:=IsL.length h2;have l4:NK.length=ys.length:=IsL.length h4;have main:xG A s (.ref a) (.ref a') b/\xH A s (.ref a) (.ref a') (!b):=by
    split at e
    ·rename_i c
     obtain⟨q1,q2⟩:=AZ e;have hsz:its.toArray.size=its'.toArray.size:=by simp;lia
     have akv:min xs.length ys.length=its.toArray.size:=by simp;lia
     rw[akv]at q2;subst q2;have he:∀j (g1:j<its.toArray.size)(g2:j<its'.toArray.size),fR A.in1 s its.toArray[j] its'.toArray[j] (eqJ (AY n) xs ys j):=λj g1 g2=>by
      have j1:j<xs.length:=by simp at g1;lia
      have j2:j<ys.length:=by simp at g2;lia
      have f:=q1 j _ _ (bj j1) (bj j2);obtain⟨v1,hv1,RM⟩:=IsL.get h2 (bj j1);obtain⟨v2,hv2,RN⟩:=IsL.get h4 (bj j2);obtain⟨u1,adg,ru1⟩:=rvs.get hv1;obtain⟨u2,adh,ru2⟩:=S8.get hv2;have E1:its.toArray[j]=u1:=by
       have:=bG.mp adg;obtain⟨_,h⟩:=this;simpa using h
      have E2:its'.toArray[j]=u2:=by
       have:=bG.mp adh;obtain⟨_,h⟩:=this;simpa using h
      rw[E1,E2];exact(NZ I n A.in1 _ _ _ _ _ _ _ hu1 RM RN ru1 ru2 f).1
     exact⟨xG.lists pl.isList pl'.isList hsz hu0 he,xH.lists pl.isList pl'.isList hsz hu0 he⟩
    ·rename_i c
     cases e;have hsz:(its.toArray.size !=its'.toArray.size)=true:=by simp;lia
     exact⟨xG.lists_lengths pl.isList pl'.isList hsz hu0,xH.lists_lengths pl.isList pl'.isList hsz hu0⟩
   refine⟨?_,main⟩
   by_cases ha:a=a'
   ·subst ha
    have:=zC I (n+1) _ _ _ _ hx0 hy0 e0;subst this;exact .same _
   ·exact .of_refs ha main.1
  ·rename_i xs ys
   have hx0:=hx;have hy0:=hy;obtain⟨a,vs,rfl,h1,h2⟩:=hx;obtain⟨a',NK,rfl,h3,h4⟩:=hy;cases rv;cases vA;obtain⟨its,rvs,pl,hz⟩:=I.tuple h1.sq;obtain⟨its',S8,pl',hz'⟩:=I.tuple h3.sq;have l1:=rvs.length;have l2:=S8.length;have l3:vs.length=xs.length:=IsL.length h2;have l4:NK.length=ys.length:=IsL.length h4;have main:xG A s (.ref a) (.ref a') b/\xH A s (.ref a) (.ref a') (!b):=by
    cases ez:yj (AY n) xs ys with
    |none=>rw[ez]at e;cases e
    |some c=>
     rw[ez]at e;obtain⟨q1,q2⟩:=AZ ez;have s1:xs.length=its.toArray.size:=by simp;lia
     have s2:ys.length=its'.toArray.size:=by simp;lia
     have e':(c&&(xs.length==ys.length))=b:=cA.inj e;rw[q2]at e';have he:∀j (g1:j<its.toArray.size)(g2:j<its'.toArray.size),fR A.in1 s its.toArray[j] its'.toArray[j] (eqJ (AY n) xs ys j):=λj g1 g2=>by
      have j1:j<xs.length:=by simp at g1;lia
      have j2:j<ys.length:=by simp at g2;lia
      have f:=q1 j _ _ (bj j1) (bj j2);obtain⟨v1,hv1,RM⟩:=IsL.get h2 (bj j1);obtain⟨v2,hv2,RN⟩:=IsL.get h4 (bj j2);obtain⟨u1,adg,ru1⟩:=rvs.get hv1;obtain⟨u2,adh,ru2⟩:=S8.get hv2;have E1:its.toArray[j]=u1:=by
       have:=bG.mp adg;obtain⟨_,h⟩:=this;simpa using h
      have E2:its'.toArray[j]=u2:=by
       have:=bG.mp adh;obtain⟨_,h⟩:=this;simpa using h
      rw[E1,E2];exact(NZ I n A.in1 _ _ _ _ _ _ _ hu1 RM RN ru1 ru2 f).1
     subst e';have R1:=xG.tuples (A:=A) (e:=eqJ (AY n) xs ys) pl pl' hu0 he;have R2:=xH.tuples (A:=A) (e:=eqJ (AY n) xs ys) pl pl' hu0 he;rw[<-s1,<-s2]at R1 R2;exact⟨R1,R2⟩
   refine⟨?_,main⟩
   by_cases ha:a=a'
   ·subst ha
    have:=zC I (n+1) _ _ _ _ hx0 hy0 e0;subst this;exact .same _
   ·exact .of_refs ha main.1
  ·exact S7 hx hy rv vA e
end
section
variable{X:Cx}{E:Str->Hp->Prop}{pos:Pos}
def X3(K:ak)(ne:Bool):R2:=λv w H Q=>∃x y b,Is K Tr H x v/\Is K Tr H y w/\AY 6 x y=aa b/\Q (.bl (if ne=true then !b else b)) H
def pC(hu:X.A.units+6<gZ):y7 X (iI .Eq) (X3 X.K false):=by
 intro pins s σ H v w u u' Q I rx ry h;obtain⟨x,y,b,hx,hy,e,q⟩:=h;exact(NZ I 6 X.A x y v w u u' b hu hx hy rx ry e).2.1 X.prog X.w _ _ ⟨.bl b,H,I,rfl,q⟩
def kW(hu:X.A.units+6<gZ):y7 X (iI .NotEq) (X3 X.K true):=by
 intro pins s σ H v w u u' Q I rx ry h;obtain⟨x,y,b,hx,hy,e,q⟩:=h;exact(NZ I 6 X.A x y v w u u' b hu hx hy rx ry e).2.2 X.prog X.w _ _ ⟨.bl (!b),H,I,rfl,q⟩
def FQ(x y:D):Option D:=(AY 6 x y).map .bl
def BU(x y:D):Option D:=(AY 6 x y).map λb=>.bl (!b)
def kC:sV X (X3 X.K false) FQ:=λx y d e=>by
 unfold FQ at e;cases h:AY 6 x y with
 |none=>rw[h]at e;cases e
 |some b=>
  rw[h]at e;cases e;exact⟨_,rfl,λH v w Q i1 i2 q=>⟨x,y,b,i1,i2,h,q⟩⟩
def iP:sV X (X3 X.K true) BU:=λx y d e=>by
 unfold BU at e;cases h:AY 6 x y with
 |none=>rw[h]at e;cases e
 |some b=>
  rw[h]at e;cases e;exact⟨_,rfl,λH v w Q i1 i2 q=>⟨x,y,b,i1,i2,h,q⟩⟩
def cV.u6 {k:Nat}{A:bu}(r:cV k A):A.units+6<gZ:=by have:=r.un;lia
end
def Kp(nt:Nat)(b:D->DE->R DE):Prop:=∀(d:D)(r ts e':DE),ts.length=nt->b d (ts++r)=.ok e'->∃ts',e'=ts'++r/\ts'.length=nt
def KpL(nt:Nat)(b:List D->DE->R DE):Prop:=∀(d:List D)(r ts e':DE),ts.length=nt->b d (ts++r)=.ok e'->∃ts',e'=ts'++r/\ts'.length=nt
def kpN{nt:Nat}(i:Nat)(hi:i<nt:=by decide):Kp nt λd env=>.ok (env.set i (.val d)):=λd r ts e' hl h=>by
 cases h;exact⟨ts.set i (.val d),by rw[List.set_append_left _ _ (by lia)],by simp[hl]⟩
def agQ{nt:Nat}:KpL nt λds env=>match ds with
  |[]=>.ok env
  |_=>.bad:=λd r ts e' hl h=>by
 cases d with
 |nil=>cases h;exact⟨ts,rfl,hl⟩
 |cons _ _=>cases h
def adi{nt:Nat}{b:D->DE->R DE}{k:List D->DE->R DE}(hb:Kp nt b)(hk:KpL nt k):KpL nt λds env=>match ds with
   |d::r=>(b d env).bind λe'=>k r e'
   |_=>.bad:=λd r ts e' hl h=>by
 cases d with
 |nil=>cases h
 |cons x xs=>
  obtain⟨e1,h1,h2⟩:=R.jQ (show(b x (ts++r)).bind (λe'=>k xs e')=.ok e' from h);obtain⟨t1,rfl,l1⟩:=hb x r ts e1 hl h1;exact hk xs r t1 e' l1 h2
def kpT{nt n:Nat}{b:List D->DE->R DE}(hb:KpL nt b):Kp nt λd env=>match d with
   |.tup ds=>if ds.length=n then b ds env else .bad
   |_=>.bad:=λd r ts e' hl h=>by
 cases d with
 |tup ds=>
  have h':(if ds.length=n then b ds (ts++r)else .bad)=.ok e':=h;split at h'
  ·exact hb ds r ts e' hl h'
  ·cases h'
 |non=>cases h
 |bl _=>cases h
 |int _=>cases h
 |str _=>cases h
 |lst _=>cases h
 |exc _=>cases h
 |fn _=>cases h
theorem Kp.ok {nt:Nat}{b:D->DE->R DE}(h:Kp nt b):∀ds d e,b d (ni nt ds)=.ok e->∃ts,e=ts++ds.map Sl.val/\ts.length=nt:=λds d e q=>h d _ _ e (by simp) q
structure Df(K:ak)(mg:Str->Option ah)(x:Str)(st:aC)(ps:List Str)(f:ae)(fd:aL):Prop where
 F:Jf K x x st f fd
 b:Binds K fd ps []
 m:mg x=aa (.ref f)
 ns:ux K eg x=aa (aa (.ref f))
abbrev RO:Str->ah:=λ_=>.none
section
variable{X:Cx}{E:Str->Hp->Prop}{pos:Pos}{k:Nat}{fa:ae}{fd:aL}{st:aC}{ps:List Str}{x:Str}{p:Pos}{e:ao}{es:List ao}{f:DE->R (List D)}
def Wd{m:List D->R D}(d:Df X.K X.mg x st ps fa fd)(F:fM X.prog X.w X.K X.mg X.base qv k fa fd ps (NR X.K RO m))(hr:cV k X.A)
  (ha:PA X (e::es) (QK X.K E f))(hg:Gl X x:=by rfl)(hdb:(x==("__debug__":Str))=false:=by decide)(he:ar (e::es) X.env=(false,aA e X.env)::ar es X.env:=by rfl)(hpl:(bA pos (ar es X.env)).any (·.1)=false:=by rfl):
  PE X (.Call (.Name x p) (e::es) [] pos) (tD X.K E λenv=>(f env).bind m):=fD F d.m d.F.kp d.b hr pS ha hg hdb he hpl
def ScD(m:List D->R D):Prop:=∀ds d,m ds=.ok d->∃z,toV d=aa z
def ScL(m:List D->R (List D)):Prop:=∀ds xs,m ds=.ok xs->∀d∈xs,∃z,toV d=aa z
def S9{m:List D->R D}(hsc:ScD m)(d:Df X.K X.mg x st ps fa fd)(F:fM X.prog X.w X.K X.mg X.base qv k fa fd ps (NR X.K RO m))(hr:cV k X.A)
  (ha:PA X (e::es) (yf X.K E f))(hg:Gl X x:=by rfl)(hdb:(x==("__debug__":Str))=false:=by decide)(he:ar (e::es) X.env=(false,aA e X.env)::ar es X.env:=by rfl)(hpl:(bA pos (ar es X.env)).any (·.1)=false:=by rfl):
  PE X (.Call (.Name x p) (e::es) [] pos) (tD X.K E λenv=>(f env).bind m):=fB F hsc d.m d.F.kp d.b hr pS ha hg hdb he hpl
def zD{m:List D->R (List D)}(d:Df X.K X.mg x st ps fa fd)(F:fM X.prog X.w X.K X.mg X.base qv k fa fd ps (Wb X.K RO m))(hr:cV k X.A)
  (ha:PA X (e::es) (QK X.K E f))(hg:Gl X x:=by rfl)(hdb:(x==("__debug__":Str))=false:=by decide)(he:ar (e::es) X.env=(false,aA e X.env)::ar es X.env:=by rfl)(hpl:(bA pos (ar es X.env)).any (·.1)=false:=by rfl):
  PE X (.Call (.Name x p) (e::es) [] pos) (tF X.K E λenv=>(f env).bind m):=fF F d.m d.F.kp d.b hr pS ha hg hdb he hpl
def adj{m:List D->R (List D)}(hsc:ScL m)(d:Df X.K X.mg x st ps fa fd)(F:fM X.prog X.w X.K X.mg X.base qv k fa fd ps (Wb X.K RO m))(hr:cV k X.A)
  (ha:PA X (e::es) (yf X.K E f))(hg:Gl X x:=by rfl)(hdb:(x==("__debug__":Str))=false:=by decide)(he:ar (e::es) X.env=(false,aA e X.env)::ar es X.env:=by rfl)(hpl:(bA pos (ar es X.env)).any (·.1)=false:=by rfl):
  PE X (.Call (.Name x p) (e::es) [] pos) (tF X.K E λenv=>(f env).bind m):=fFB F hsc d.m d.F.kp d.b hr pS ha hg hdb he hpl
end
abbrev Ok(P:aU)(w:aF)(K:ak)(mg:Str->Option ah)(base:aD)(k:Nat)(f:ae)(fd:aL)(ps:List Str)(m:List D->R D):Prop:=fM P w K mg base qv k f fd ps (NR K RO m)
abbrev p9(P:aU)(w:aF)(K:ak)(mg:Str->Option ah)(base:aD)(k:Nat)(f:ae)(fd:aL)(ps:List Str)(m:List D->R (List D)):Prop:=fM P w K mg base qv k f fd ps (Wb K RO m)
section
variable{P:aU}{w:aF}{K:ak}{mg:Str->Option ah}{base:aD}
def mkD{x:Str}{st:aC}{f:ae}{fd:aL}{N ps:List Str}{k:Nat}{m:List D->R D}{b:DE->R Out}(S:bp N ps (az st))(d:Df K mg x st ps f fd)
  (hb:∀(cdv:ah)(A:bu)(outer:List Env)(s:aj)(H:Hp)(E:XK),cV k (A.deeper (fQ x (az st) s.heap.objs.size f cdv))->xj (vV qv P w K mg base N x (az st) f cdv A outer s H E).MP (dQ st) (tS K EN b))
  (hm:∀ds d,m ds=.ok d->ds.length=ps.length/\(b (aN N.length ds)).bind aJ=.ok d)(hne:∀ds c,m ds≠.err c):
  Ok P w K mg base (k+1) f fd ps m:=aka d.F S hm hne hb
def mkF{x:Str}{st:aC}{f:ae}{fd:aL}{N ps:List Str}{k:Nat}{m:List D->R (List D)}{b:DE->R Out}(S:bp N ps (az st))(d:Df K mg x st ps f fd)
  (hb:∀(cdv:ah)(A:bu)(outer:List Env)(s:aj)(H:Hp)(E:XK),cV k (A.deeper (fQ x (az st) s.heap.objs.size f cdv))->xj (vV qv P w K mg base N x (az st) f cdv A outer s H E).MP (dQ st) (tS K EN b))
  (hm:∀ds d,m ds=.ok d->ds.length=ps.length/\(b (aN N.length ds)).bind aK=.ok d)(hne:∀ds c,m ds≠.err c):
  p9 P w K mg base (k+1) f fd ps m:=akb d.F S hm hne hb
end
section
variable{X:Cx}{E:Str->Hp->Prop}{pos:Pos}
def Jw(x y:D):Option D:=match y with
 |.non=>aa (.bl (match x with
  |.non=>false
  |_=>true))
 |_=>none
def X4{K:ak}{P:ae->Prop}{H:Hp}{x:D}{v:V}(h:Is K P H x v):decide (v=V.non)=(match x with
  |.non=>true
  |_=>false):=by
 cases x with
 |non=>cases h;rfl
 |bl _=>cases h;rfl
 |int _=>cases h;rfl
 |str _=>cases h;rfl
 |lst _=>obtain⟨a,vs,rfl,_⟩:=h;rfl
 |tup _=>obtain⟨a,vs,rfl,_⟩:=h;rfl
 |exc _=>obtain⟨a,vs,rfl,_⟩:=h;rfl
 |fn _=>obtain⟨a,rfl,_⟩:=h;rfl
def Tc:sV X (λx y H Q=>y=.non/\Q (.bl (!decide (x=.non))) H) Jw:=λx y d e=>by
 unfold Jw at e;split at e
 ·cases e
  refine⟨_,rfl,λH v w Q h1 h2 q=>⟨h2,?_⟩⟩;rw[X4 h1];cases x<;>exact q
 ·cases e
def Jy(xs:List D):D->R (List D)
 |.int k=> @ite _ (-(2^63)<=k/\k<2^63/\xs.length*k.toNat<=aI) (dR _) (.ok (aZ k.toNat xs).flatten) .bad
 |_=>.bad
theorem IsL.rep {K:ak}{P:ae->Prop}{H:Hp}{ds:List D}{vs:List V}(h:IsL K P H ds vs):∀n:Nat,IsL K P H (aZ n ds).flatten (aZ n vs).flatten
 |0=>rfl
 |n+1=>by
  rw[gm,gm,dA,dA];exact h.app (IsL.rep h n)
def agR{a b:ao}{fa:DE->R (List D)}{fb:DE->R D}(ha:PE X a (tF X.K E fa))(hb:PE X b (tB X.K E fb)):PE X (.BinOp a .Mult b pos) (tF X.K E λenv=>(fa env).bind λx=>(fb env).bind λy=>Jy x y):=
 imp (yr SE ha hb) λσ H Q ⟨g,env,os,r,m⟩=>⟨g,env,os,r,m.bind.mono λx _ m1 a1 v1 H1 s1 hn hH i1=>⟨g,env,os,r.same s1,m1.bind.mono λy _ m2 w H2 s2 i2=>by
  unfold Jy at m2;split at m2
  ·rename_i k _
   split at m2
   ·rename_i c
    have Wa:IsL X.K (g.P os) H1 x v1:=IsL.ext ⟨λb o p _=>⟨p.1,λz=>p.2 (bz _ z)⟩,λ_ _ _ q=>q⟩ _ _ i1;refine⟨a1,k,v1,rfl,i2,s2 _ _ hH,c.1,c.2.1,by rw[Wa.length];exact c.2.2,λp hp=>?_⟩;obtain⟨b1,b2,b3,b4⟩:=LA r (s1.trans s2) hp ((Wa.same s2).rep k.toNat);exact m2 p _ _ b1 b2 b3 b4
   ·exact m2.elim
  ·exact m2.elim⟩⟩
def zE:fj "range"=aa (.type "range"):=by decide +kernel
def rG:List D->R (List D)
 |[.int j]=> @ite _ (0<=j/\j<=1000000) (dR _) (.ok (uD 0 j.toNat)) .bad
 |_=>.bad
def X5{K:ak}{P:ae->Prop}{H:Hp}{n:Nat}:IsL K P H (uD 0 n) ((b9 n).map λi=>V.int (0+(i:Nat))):=by
 unfold uD
 induction (b9 n)with
 |nil=>rfl
 |cons x r ih=>exact⟨_,_,rfl,rfl,ih⟩
def Fb{acc:List ah}{n:Nat}(h1:acc.length=n)(h2:∀(j:Nat)(v:ah),acc[j]?=aa v->∃t,v=.int (0+(j:Nat)) t):Vals ((b9 n).map λi=>V.int (0+(i:Nat))) acc:=by
 have gen:∀(l:List ah)(k:Nat),(∀(j:Nat)(v:ah),l[j]?=aa v->∃t,v=.int (0+((k+j:Nat):Int)) t)->Vals ((N3 k l.length).map λi=>V.int (0+(i:Nat))) l:=by
  intro l
  induction l with
  |nil=>intro k _;exact .nil
  |cons x r ih=>
   intro k hk;rw[bD,N4,bw];refine .cons ?_ (ih (k+1) λj v e=>?_)
   ·obtain⟨t,e⟩:=hk 0 x (by simp)
    exact⟨t,e⟩
   ·obtain⟨t,e⟩:=hk (j+1) v (by simpa using e)
    exact⟨t,by rw[e];congr 2;lia⟩
 subst h1;rw[N5];exact gen acc 0 λj v e=>by
  obtain⟨t,q⟩:=h2 j v e;exact⟨t,by rw[q];congr 2;lia⟩
def Hs{a:ao}{p p2 sC:Pos}{f:DE->R (List D)}(hc:X.calm=true)(LH:X.mg "list"=none)(hmr:X.mg "range"=none)(ha:PA X [a] (yf X.K E f))(hgl:Gl X "list":=by rfl)(hgr:Gl X "range":=by rfl)
  (hs:ar [a] X.env=[(false,aA a X.env)]:=by rfl)(he:ar [.Call (.Name "range" p2) [a] [] sC] X.env=(false,aA (.Call (.Name "range" p2) [a] [] sC) X.env)::ar [] X.env:=by rfl)(hpl:(bA pos (ar [] X.env)).any (·.1)=false:=by rfl):
  PE X (.Call (.Name "list" p) [.Call (.Name "range" p2) [a] [] sC] [] pos) (tF X.K E λenv=>(f env).bind rG):=by
 intro pins s σ H Q I h;obtain⟨g,env,os,r,m⟩:=h;refine uk (j3 I hgl LH nU ?_);refine jN ?_ he hpl;rw[he];refine xt ?_;refine rC (j3 I hgr hmr zE (jN (fJ (ha sC pins s σ H _ I ⟨g,env,os,r,m.bind.mono λds _ q vs H1 s1 i1=>(⟨ds,s1,i1,q⟩:∃ds,bK H H1/\IsL X.K Tr H1 ds vs/\Good E g.H₀ (rG ds) _)⟩) λus s1 ⟨vs,H1,I1,r1,ds,sm,i1,q⟩=>?_) hs rfl));unfold rG at q;split at q
 ·rename_i j
  split at q
  ·rename_i c
   obtain⟨v,rfl,iv⟩:=IsL.Hh i1;have iv':v=.int j:=iv;subst iv';obtain⟨u,rfl,t,rfl⟩:=vals1 r1;refine call_range_1 ?_;have I2:Inv X pins σ H1 {s1 with heap:=s1.heap.push {cls:=.type "range",data:=.fields #[.int 0 s1.toks,.int j t,.int 1 (s1.toks+1)]},toks:=s1.toks+1+1}:=I1.kept λb o e=>cZ _ e;refine xr ?_;have hd:X.A.handled=none:=I.ok.hd hc;have hsz:dz 0 j 1=(j.toNat:Nat):=by rw[Cw];split<;>lia
   refine N6 hd (rB.new ..) (MU (by lia) (by lia) (by lia) (by lia)) hsz (by lia) λh' tk sE c' hk hl hit=>?_;obtain⟨hi1,hi2⟩:=hit;have hv:Vals ((b9 j.toNat).map λi=>V.int (0+(i:Nat))) sE.toList:=Fb (by simpa using hi1) λi v e=>by
    obtain⟨t,q⟩:=hi2 i v (by simpa using e);exact⟨t,by rw[q];congr 1;lia⟩
   have hlen:((b9 j.toNat).map λi=>V.int (0+(i:Nat))).length<=aI:=by
    rw[aB,zF];exact iF (show j.toNat<=1000000 by lia) (by decide)
   refine⟨.ref _,upd H1 _ (.lst ((b9 j.toNat).map λi=>V.int (0+(i:Nat)))),I2.laid (a:=_) hk (bf _) ⟨hlen,sE.toList,c',hv,by simpa using hl⟩,rfl,?_⟩;have hn:H1 (s1.heap.push {cls:=.type "range",data:=.fields #[.int 0 s1.toks,.int j t,.int 1 (s1.toks+1)]}).objs.size=none:=I2.hok.fresh (bf _);exact q _ _ _ (sm.trans (bR hn _)) (sm.free hn) aT X5
  ·exact q.elim
 ·exact q.elim
end
def oX:D->D->Option D
 |.int i,.int j=>aa (.int (i+j))
 |_,_=>none
def hU{X:Cx}:sV X (K9 λi j=>.int (i+j)) oX:=sW (h:=λi j=>.int (i+j)) (λ_ _=>rfl) λx y d e=>by
 unfold oX at e;split at e<;>cases e;exact⟨_,_,rfl,rfl,rfl⟩
noncomputable def aaF(osc sc:dw)(XN N:List Str)(nt:Nat)(caps:List Nat):Bool:=
 sc.kind==.function&&sc.names.all (λy=>y.2 !=.cell&&(y.2 !=.local||sc.names.lookup y.1==aa .local)&&(y.2 !=.free||osc.names.lookup y.1==aa .cell||osc.names.lookup y.1==aa .free))&&
 N.length==nt+caps.length&&decide N.Nodup&&(b9 caps.length).all λj=>match caps[j]?,N[nt+j]? with
  |some i,aa x=>XN[i]?==aa x&&sc.names.lookup x==aa .free&&(osc.names.lookup x==aa .local||osc.names.lookup x==aa .cell||osc.names.lookup x==aa .free)
  |_,_=>false
def QQ{X:Cx}{sc:dw}{N:List Str}{nt:Nat}{caps:List Nat}(osc:dw)(XN:List Str)(h:aaF osc sc XN N nt caps=true)(hsc:X.env.scope=osc:=by rfl)(hN:X.N=XN:=by rfl):mm X sc N nt caps:=by
 subst hsc hN;unfold aaF at h;simp only [ur,List.all_eq_true,Ht,decide_eq_true_eq,beq_iff_eq,bne_iff_ne,ne_eq]at h;obtain⟨⟨⟨⟨h1,h2⟩,h3⟩,h4⟩,h5⟩:=h;refine⟨by simpa using h1,λy hy=>(h2 y hy).1.1,λy hy e=>?_,λy hy e=>?_,h3,h4,λj i e=>?_⟩
 ·rcases(h2 y hy).1.2 with q|q
  ·exact absurd e q
  ·exact q
 ·rcases(h2 y hy).2 with(q|q)|q
  ·exact absurd e q
  ·exact .inl q
  ·exact .inr q
 ·have hj:j<caps.length:=(bG.mp e).1
  have q:=h5 j (by simpa using hj);rw[e]at q;cases hx:N[nt+j]? with
  |none=>rw[hx]at q;exact absurd q (by simp)
  |some x=>
   rw[hx]at q;simp only [ur,Ht,beq_iff_eq]at q;obtain⟨⟨q1,q2⟩,q3⟩:=q;refine⟨x,rfl,q1,q2,?_⟩;rcases q3 with(q3|q3)|q3
   ·exact .inl q3
   ·exact .inr (.inl q3)
   ·exact .inr (.inr q3)
def adm(i:Nat):Out->R Out
 |.nx e=>.ok (.nx (Dq i e))
 |o=>.ok o
def agS{X:Cx}{E:Str->Hp->Prop}(i:Nat){st:aC}{f:DE->R Out}(h:PS X st (tS X.K E f)):PS X st (tS X.K E λenv=>(f env).bind (adm i)):=oV h λDe σ H ⟨g,env,os,r,m⟩=>
 ⟨g,env,os,r,m.bind.mono λo _ q=>by
  cases o with
  |nx e=>
   intro σ' H' os' r' z;have q':gy X.K g H os De (.nx (Dq i e)):=q;unfold Dq at q';split at q'
   ·rename_i xs he
    obtain⟨SK,r2,hs⟩:=r'.XD he;exact q' σ' H' SK r2 (z.trans ⟨λa ha=>.inl (hs a ha),λ_ h=>h,λ_ _ _ h=>h⟩)
   ·exact q' σ' H' os' r' z
  |bk e=>exact q
  |ct e=>exact q
  |rt d=>exact q
  |uz xs=>exact q
  |CF xs=>exact q
  |FN xs=>exact q
  |Lz xs=>exact q
  |FJ xs=>exact q⟩
def Hu(i j:Int):oX (.int i) (.int j)=aa (.int (i+j)):=rfl
def Td(i j:Int):oW (.int i) (.int j)=aa (.int (i-j)):=rfl
def Te(i:Int):vX (.int i)=aa (.int (-i)):=rfl
def aaH(i j:Int):V9 (.int i) (.int j)=aa (.bl (decide (i<j))):=rfl
def aaI(i j:Int):kLe (.int i) (.int j)=aa (.bl (decide (i<=j))):=rfl
def aaJ(i j:Int):IQ (.int i) (.int j)=aa (.bl (decide (j<i))):=rfl
def aaK(i j:Int):kGe (.int i) (.int j)=aa (.bl (decide (j<=i))):=rfl
def aaL(i j:Int):FQ (.int i) (.int j)=aa (.bl (i==j)):=rfl
def aaM(i j:Int):BU (.int i) (.int j)=aa (.bl (!(i==j))):=rfl
def aaN(i j:Str):FQ (.str i) (.str j)=aa (.bl (i==j)):=rfl
def aaO(i j:Str):BU (.str i) (.str j)=aa (.bl (!(i==j))):=rfl
def LJ(i j:Int)(h:(-(2^64)<i/\i<2^64)\/(-(2^64)<j/\j<2^64)):QL (.int i) (.int j)=aa (.int (i*j)):=if_pos h
def DK(i j:Int)(h:0<j/\j<1073741824):Jm (.int i) (.int j)=aa (.int (i/j)):=if_pos h
def pD(i j:Int)(h:0<j):zu (.int i) (.int j)=aa (.int (i%j)):=if_pos h
def adn(i j:Int)(h:0<=j/\j<=1000000/\i.natAbs<2^64):SQ (.int i) (.int j)=aa (.int (i^j.toNat)):=if_pos h
def aky:(10:Int)^(9:Nat)=1000000000:=by
 rw[show(10:Int)=((10:Nat):Int)from rfl,<-Int.natCast_pow];rfl
def agT:(10:Int)^(9:Int).toNat=1000000000:=aky
def Tf:SQ (.int 10) (.int 9)=aa (.int 1000000000):=(adn 10 9 (by decide)).trans (by rw[agT])
def Tg(i:Int):QN [.int i]=aa (.int (if i<0 then-i else i)):=rfl
def N7(i j:Int):NP [.int i,.int j]=aa (.int (if j>i then j else i)):=rfl
def Th(xs:List D):vL [.lst xs]=aa (.int xs.length):=rfl
def Ti(xs:List D):vL [.tup xs]=aa (.int xs.length):=rfl
def aaP(b:Bool):jk (.bl b)=.ok b:=rfl
def aaQ(xs:List D):zt (.lst xs)=.ok xs:=rfl
def aaR(i:Int):RK (.int i)=.ok (aa i):=rfl
def aaS(xs:List D)(i:Int):E7 xs (.int i)=R.of (jJ xs i):=rfl
def aaT(xs:List D)(i:Int):yh (.lst xs) (.int i)=R.of (jJ xs i):=rfl
def aaU(xs:List D)(i:Int):yh (.tup xs) (.int i)=R.of (jJ xs i):=rfl
def uH{α:Type}{xs:List α}(h:xs.length<=aI):fit xs=.ok xs:=if_pos h
def big{n:Nat}(h:n<=1000000):n<=aI:=iF h (by decide)
def agU{α:Type}:fit ([]:List α)=.ok []:=uH (big (by simp))
def agV{α:Type}(a:α):fit [a]=.ok [a]:=uH (big (by simp))
def agW{α:Type}(a b:α):fit [a,b]=.ok [a,b]:=uH (big (by simp))
def agX{α:Type}(a b c:α):fit [a,b,c]=.ok [a,b,c]:=uH (big (by simp))
def agY{α:Type}(a b c d:α):fit [a,b,c,d]=.ok [a,b,c,d]:=uH (big (by simp))
def LK(i j:Int)(h: -(2^62)<=i/\i<2^62/\ -(2^62)<=j/\j<2^62):LB [.int i,.int j]=.ok (uD i (j-i).toNat):=if_pos h
def A0(j:Int)(h:0<=j/\j<=1000000):rG [.int j]=.ok (uD 0 j.toNat):=if_pos h
def LL(xs:List D)(k:Int)(h: -(2^63)<=k/\k<2^63/\xs.length*k.toNat<=aI):Jy xs (.int k)=.ok (aZ k.toNat xs).flatten:=if_pos h
def ado(xs ys:List D):zip2 [.lst xs,.lst ys]=.ok (E8 xs ys):=rfl
def N8(e:DE)(k:DE->R Out):cg (.ok (.nx e)) k=k e:=rfl
def N9(d:D)(k:DE->R Out):cg (.ok (.rt d)) k=.ok (.rt d):=rfl
def Jz(d:List D)(k:DE->R Out):cg (.ok (.uz d)) k=.ok (.uz d):=rfl
def Oa(i:Nat)(e:DE):adm i (.nx e)=.ok (.nx (Dq i e)):=rfl
theorem A5{S:Type}{b:D->DE->R Out}(J:Nat->S->Prop)(Ev:S->DE):∀(xs:List D)(i:Nat)(s:S),J i s->(∀(j:Nat)(s:S)(x:D),J (i+j) s->xs[j]?=aa x->∃s',b x (Ev s)=.ok (.nx (Ev s'))/\J (i+j+1) s')->∃s',iO b xs (Ev s)=.ok (.nx (Ev s'))/\J (i+xs.length) s'
 |[],i,s,hI,h=>⟨s,rfl,hI⟩
 |x::xs,i,s,hI,h=>by
  obtain⟨s1,h1,h2⟩:=h 0 s x hI rfl;obtain⟨s2,h3,h4⟩:=A5 J Ev xs (i+1) s1 (by simpa using h2) λj s y hs hy=>by
   have e:i+1+j=i+(j+1):=by lia
   rw[e]at hs⊢;exact h (j+1) s y hs (by simpa using hy)
  refine⟨s2,?_,by rw[bD,show i+(xs.length+1)=i+1+xs.length by lia];exact h4⟩;unfold iO;rw[h1];exact h3
theorem xJ{b:D->DE->R DE}{ct:DE->R Bool}{fe:DE->R D}{e₀:DE}(g:D->D):∀(xs:List D),(∀x∈xs,∃e,b x e₀=.ok e/\ct e=.ok true/\fe e=.ok (g x))->ed b ct fe e₀ xs=.ok (xs.map g)
 |[],_=>rfl
 |x::xs,h=>by
  obtain⟨e,h1,h2,h3⟩:=h x (by simp);have ih:=xJ g xs λy hy=>h y (by simp[hy]);unfold ed;rw[h1,R.cB,h2,R.cB,if_pos rfl,h3,R.cB,ih];rfl
def aW(ns:List Int):List D:=ns.map .int
def cM(ns:List Int):(aW ns).length=ns.length:=aB _
def X6{a b:List Int}(h:aW a=aW b):a=b:=by
 induction a generalizing b with
 |nil=>cases b with
  |nil=>rfl
  |cons _ _=>cases h
 |cons x r ih=>cases b with
  |nil=>cases h
  |cons y s=>
   simp only [aW,bw,List.cons.injEq,D.int.injEq]at h;rw[h.1,ih h.2]
def CO:List D->Option (List Int)
 |[]=>aa []
 |.int i::r=>(CO r).map (i::·)
 |_::_=>none
def qC(ns:List Int):CO (aW ns)=aa ns:=by
 induction ns with
 |nil=>rfl
 |cons x r ih=>show(CO (aW r)).map (x::·)=_;rw[ih];rfl
theorem yN:∀{xs:List D}{ns:List Int},CO xs=aa ns->xs=aW ns
 |[],ns,h=>by cases h;rfl
 |.int i::r,ns,h=>by
  unfold CO at h;cases e:CO r with
  |none=>rw[e]at h;cases h
  |some ms=>rw[e]at h;cases h;rw[yN e];rfl
 |.non::r,_,h=>by cases h
 |.bl _::r,_,h=>by cases h
 |.str _::r,_,h=>by cases h
 |.lst _::r,_,h=>by cases h
 |.tup _::r,_,h=>by cases h
theorem FT(n:Nat):∀(a b:List Int),a.length=b.length->yj (AY n) (aW a) (aW b)=aa (decide (a=b))
 |[],[],_=>rfl
 |[],_::_,h=>by simp at h
 |_::_,[],h=>by simp at h
 |x::a,y::b,h=>by
  have ih:=FT n a b (by simpa using h);show(AY n (.int x) (.int y)).bind _=_;have e:AY n (.int x) (.int y)=aa (x==y):=by cases n<;>rfl
  rw[e];show(yj (AY n) (aW a) (aW b)).map ((x==y)&&·)=_;rw[ih];show aa ((x==y)&&decide (a=b))=aa (decide (x::a=y::b));congr 1;rw[y9];simp
def JA(n:Nat)(a b:List Int):AY (n+1) (.lst (aW a)) (.lst (aW b))=aa (decide (a=b)):=by
 show(if(aW a).length=(aW b).length then yj (AY n) (aW a) (aW b)else aa false)=_;split
 ·rename_i h
  exact FT n a b (by simpa[cM]using h)
 ·rename_i h
  congr 1
  symm
  rw[decide_eq_false_iff_not];rintro rfl;exact h rfl
def Tj(a b:List Int):FQ (.lst (aW a)) (.lst (aW b))=aa (.bl (decide (a=b))):=by unfold FQ;rw[JA];rfl
def Tn(a b:List Int):BU (.lst (aW a)) (.lst (aW b))=aa (.bl (!decide (a=b))):=by unfold BU;rw[JA];rfl
def Hv(ns:List Int)(i:Int):jJ (aW ns) i=(jJ ns i).map .int:=by
 unfold L2.jJ;rw[cM];cases yW ns.length i with
 |none=>rfl
 |some j=>exact b8
def rH(ns:List Int)(lo hi:Option Int):cut (aW ns) lo hi=aW (cut ns lo hi):=by
 unfold cut;rw[cM];simp only [aW,Ob,nV]
def xK(lo:Int)(n:Nat):uD lo n=aW ((b9 n).map λi=>lo+(i:Nat)):=by
 unfold uD aW;rw[eR];rfl
def bN(i:Nat)(d:D)(env:DE):R DE:=.ok (env.set i (.val d))
def Fc:List D->DE->R DE
 |[],env=>.ok env
 |_::_,_=>.bad
def pT(b:D->DE->R DE)(k:List D->DE->R DE):List D->DE->R DE
 |d::r,env=>(b d env).bind λe'=>k r e'
 |[],_=>.bad
def bT(n:Nat)(b:List D->DE->R DE):D->DE->R DE
 |.tup ds,env=>if ds.length=n then b ds env else .bad
 |_,_=>.bad
def QR(i:Nat)(env:DE)(xs:List D)(d:D):R Out:= @ite _ (xs.length<aI) (dR _) (.ok (.nx (env.set i (.own (xs++[d]))))) (.bad)
def adp(i:Nat)(env:DE)(xs ys:List D):R Out:= @ite _ (xs.length+ys.length<=aI) (dR _) (.ok (.nx (env.set i (.own (xs++ys))))) (.bad)
def adq(i:Nat)(env:DE)(xs:List D):R Out:=if 0<xs.length then .ok (.nx (env.set i (.own xs.dropLast)))else .bad
def JB(i:Nat)(env:DE)(d:D)(xs:List D):D->R Out
 |.int j=>(match yW xs.length j with
  |some n=>.ok (.nx (env.set i (.own (xs.set n d))))
  |none=>.bad)
 |_=>.bad
def QS(h:Int->Int->Int)(i:Nat)(env:DE):D->D->R Out
 |.int u,.int w=>.ok (.nx (env.set i (.val (.int (h u w)))))
 |_,_=>.bad
section
variable{X:Cx}{E:Str->Hp->Prop}{pos:Pos}
def zG(i:Nat){x:Str}(hN:X.N.Nodup)(hi:X.N[i]?=aa x:=by rfl)(hx:Loc X.env.scope x:=by first|exact aR rfl|exact aS rfl)(hf:X.fn x=true\/X.env.scope.names.lookup x=aa .local:=by first|exact .inl rfl|exact .inr rfl|assumption):
  PG X (.Name x pos) (tG X.K E (bN i)):=gN i hN hi hx hf
def Hw:MQ X [] (tGs X.K E Fc):=by
 have e:Fc=λds env=>match ds with
  |[]=>.ok env
  |_=>.bad:=by funext ds env;cases ds<;>rfl
 rw[e];exact agu
def rJ{e:ao}{es:List ao}{b:D->DE->R DE}{k:List D->DE->R DE}(h1:PG X e (tG X.K E b))(h2:MQ X es (tGs X.K E k))(hs:(eu (e::es) X.env).map (·.2)=jf e X.env::(eu es X.env).map (·.2):=by rfl):
  MQ X (e::es) (tGs X.K E (pT b k)):=by
 have e':pT b k=λds env=>match ds with
   |d::r=>(b d env).bind λe'=>k r e'
   |_=>.bad:=by funext ds env;cases ds<;>rfl
 rw[e'];exact acW h1 h2 hs
def gT2{es:List ao}{kk:Nat}{b:List D->DE->R DE}(n:Nat)(hc:X.calm=true)(h:MQ X es (tGs X.K E b))(hn:(eu es X.env).length=n:=by rfl)(hst:(eu es X.env).findIdx? (·.1)=none:=by rfl):
  PG X (.Tuple es kk pos) (tG X.K E (bT n b)):=by
 have e':bT n b=λd env=>match d with
   |.tup ds=>if ds.length=n then b ds env else .bad
   |_=>.bad:=by funext d env;cases d<;>rfl
 rw[e'];exact gT hc h hn hst
def A6{nt:Nat}(i:Nat)(hi:i<nt:=by decide):Kp nt (bN i):=kpN i hi
def adt{nt:Nat}:KpL nt Fc:=by
 have e:Fc=λds env=>match ds with
  |[]=>.ok env
  |_=>.bad:=by funext ds env;cases ds<;>rfl
 rw[e];exact agQ
def Oc{nt:Nat}{b:D->DE->R DE}{k:List D->DE->R DE}(hb:Kp nt b)(hk:KpL nt k):KpL nt (pT b k):=by
 have e':pT b k=λds env=>match ds with
   |d::r=>(b d env).bind λe'=>k r e'
   |_=>.bad:=by funext ds env;cases ds<;>rfl
 rw[e'];exact adi hb hk
def akz{nt:Nat}{b:List D->DE->R DE}(n:Nat)(hb:KpL nt b):Kp nt (bT n b):=by
 have e':bT n b=λd env=>match d with
   |.tup ds=>if ds.length=n then b ds env else .bad
   |_=>.bad:=by funext d env;cases d<;>rfl
 rw[e'];exact kpT hb
def Oe(i:Nat){x:Str}{e:ao}{f:DE->R D}{p apos cL:Pos}(he:PE X e (tD X.K E f))(hN:X.N[i]?=aa x:=by rfl)(hv:BI X.env.scope x:=by first|exact aR rfl|exact aS (aR rfl)|exact aS (aS rfl))(hd:(x==("__debug__":Str))=false:=by decide)
  (hcd:(x==("__classdict__":Str))=false:=by decide)
  (hbase:iK (.Name x p) "append" X.env (aA (.Name x p) X.env)=aA (.Name x p) X.env:=by rfl)
  (hfew:((bA cL (ar [e] X.env)).all (λx=> !x.1)&&(lW cL (lY [] X.env)).all (λx=>x.1.isSome)
   &&decide ([e].length+([]:List fU).length+(if([]:List fU).isEmpty then 0 else 1)<30))=true:=by rfl)
  (hline:(apos.endLine==cL.line)=true:=by rfl)(hst:ar [e] X.env=(false,aA e X.env)::ar [] X.env:=by rfl)(hplain:(bA cL (ar [] X.env)).any (·.1)=false:=by rfl)
  (hs:gk (.Call (.Attribute (.Name x p) "append" apos) [e] [] cL) none pos.line X.env=bc false:=by rfl):
  PS X (.Expr (.Call (.Attribute (.Name x p) "append" apos) [e] [] cL) pos) (tS X.K E λenv=>(ownAt i env).bind λxs=>(f env).bind λd=>QR i env xs d):=aj5 i he hN hv hd hcd hbase hfew hline hst hplain hs
def agZ(i:Nat){x:Str}{p apos cL:Pos}(hN:X.N[i]?=aa x:=by rfl)(hv:BI X.env.scope x:=by first|exact aR rfl|exact aS (aR rfl)|exact aS (aS rfl))(hd:(x==("__debug__":Str))=false:=by decide)
  (hcd:(x==("__classdict__":Str))=false:=by decide)
  (hbase:iK (.Name x p) "pop" X.env (aA (.Name x p) X.env)=aA (.Name x p) X.env:=by rfl)(hline:(apos.endLine==cL.line)=true:=by rfl)
  (hs:gk (.Call (.Attribute (.Name x p) "pop" apos) [] [] cL) none pos.line X.env=bc false:=by rfl):
  PS X (.Expr (.Call (.Attribute (.Name x p) "pop" apos) [] [] cL) pos) (tS X.K E λenv=>(ownAt i env).bind λxs=>adq i env xs):=aj6 i hN hv hd hcd hbase hline hs
def ag0(i:Nat){x:Str}{e:ao}{f:DE->R (List D)}{p apos cL:Pos}(he:PE X e (tF X.K E f))(hN:X.N[i]?=aa x:=by rfl)(hv:BI X.env.scope x:=by first|exact aR rfl|exact aS (aR rfl)|exact aS (aS rfl))(hd:(x==("__debug__":Str))=false:=by decide)
  (hcd:(x==("__classdict__":Str))=false:=by decide)
  (hbase:iK (.Name x p) "extend" X.env (aA (.Name x p) X.env)=aA (.Name x p) X.env:=by rfl)
  (hfew:((bA cL (ar [e] X.env)).all (λx=> !x.1)&&(lW cL (lY [] X.env)).all (λx=>x.1.isSome)
   &&decide ([e].length+([]:List fU).length+(if([]:List fU).isEmpty then 0 else 1)<30))=true:=by rfl)
  (hline:(apos.endLine==cL.line)=true:=by rfl)(hst:ar [e] X.env=(false,aA e X.env)::ar [] X.env:=by rfl)(hplain:(bA cL (ar [] X.env)).any (·.1)=false:=by rfl)
  (hs:gk (.Call (.Attribute (.Name x p) "extend" apos) [e] [] cL) none pos.line X.env=bc false:=by rfl):
  PS X (.Expr (.Call (.Attribute (.Name x p) "extend" apos) [e] [] cL) pos) (tS X.K E λenv=>(ownAt i env).bind λxs=>(f env).bind λys=>adp i env xs ys):=aj7 i he hN hv hd hcd hbase hfew hline hst hplain hs
def Hz(i:Nat){x:Str}{ek e:ao}{fk f:DE->R D}{p tp:Pos}(hk:PE X ek (tB X.K E fk))(he:PE X e (tD X.K E f))(hN:X.N[i]?=aa x:=by rfl)(hv:BI X.env.scope x:=by first|exact aR rfl|exact aS (aR rfl)|exact aS (aS rfl))(hd:(x==("__debug__":Str))=false:=by decide)
  (hcd:(x==("__classdict__":Str))=false:=by decide)
  (ha:∀v,jf (.Subscript (.Name x p) ek tp) X.env v=(do
   let ov<-km [v] (aA (.Name x p) X.env);let iv<-km [v,ov] (aA ek X.env)
   xm tp
   km [v,ov,iv] (Cq ov iv v)
   release [v,ov,iv] []):=by intro _;rfl)
  (hs:yY [.Subscript (.Name x p) ek tp] e pos.line X.env=bc false:=by rfl)(hw:yZ [.Subscript (.Name x p) ek tp] e X.env=bc none:=by rfl)
  (h1:(eu [.Subscript (.Name x p) ek tp] X.env).map (·.2)=[jf (.Subscript (.Name x p) ek tp) X.env]:=by rfl):
  PS X (.Assign [.Subscript (.Name x p) ek tp] e pos) (tS X.K E λenv=>(f env).bind λd=>(ownAt i env).bind λxs=>(fk env).bind λkd=>JB i env d xs kd):=by
 have h:=acT (pos:=pos) i hk he hN hv hd hcd ha hs hw h1;have e':(λenv:DE=>(f env).bind λd=>(ownAt i env).bind λxs=>(fk env).bind λkd=>JB i env d xs kd)=(λenv=>(f env).bind λd=>(ownAt i env).bind λxs=>(fk env).bind λkd=>match kd with
   |.int j=>(match yW xs.length j with
    |some n=>.ok (.nx (env.set i (.own (xs.set n d))))
    |none=>.bad)
   |_=>.bad):=by
  funext env;refine congrArg (R.bind (f env)) (funext λd=>congrArg (R.bind _) (funext λxs=>congrArg (R.bind _) (funext λkd=>?_)));cases kd<;>rfl
 rw[e'];exact h
def aaV(i:Nat){x:Str}{e:ao}{op:yX}{h:Int->Int->Int}{f:DE->R D}{pos':Pos}(ho:PIp X op (ipI h))(he:PE X e (tB X.K E f))(hN:X.N.Nodup)(hi:X.N[i]?=aa x:=by rfl)(hx:Loc X.env.scope x:=by first|exact aR rfl|exact aS rfl)
  (hf:X.fn x=true\/X.env.scope.names.lookup x=aa .local:=by first|exact .inl rfl|exact .inr rfl|assumption):
  PS X (.AugAssign (.Name x pos') op e pos) (tS X.K E λenv=>(dG i env).bind λa=>(f env).bind λb=>QS h i env a b):=by
 have h':=aj8 (pos:=pos) (pos':=pos') i ho he hN hi hx hf;have e':(λenv:DE=>(dG i env).bind λa=>(f env).bind λb=>QS h i env a b)=(λenv=>(dG i env).bind λa=>(f env).bind λb=>match a,b with
   |.int u,.int w=>.ok (.nx (env.set i (.val (.int (h u w)))))
   |_,_=>.bad):=by
  funext env;refine congrArg (R.bind _) (funext λa=>congrArg (R.bind _) (funext λb=>?_));cases a<;>cases b<;>rfl
 rw[e'];exact h'
end
def X7(d:D):R D:=match toV d with
 |some _=>.ok d
 |none=>.bad
def LM{x d:D}(h:X7 x=.ok d):x=d/\∃z,toV d=aa z:=by
 unfold X7 at h;cases e:toV x with
 |none=>rw[e]at h;cases h
 |some z=>rw[e]at h;cases h;exact⟨rfl,z,e⟩
def scL:List D->R (List D)
 |[]=>.ok []
 |x::r=>(X7 x).bind λy=>(scL r).bind λys=>.ok (y::ys)
theorem LN:∀{xs ys:List D},scL xs=.ok ys->xs=ys/\∀d∈ys,∃z,toV d=aa z
 |[],ys,h=>by cases h;exact⟨rfl,λd hd=>nomatch hd⟩
 |x::r,ys,h=>by
  unfold scL at h;obtain⟨y,h1,h2⟩:=R.jQ h;obtain⟨zs,h3,h4⟩:=R.jQ h2;cases h4;obtain⟨rfl,hz⟩:=LM h1;obtain⟨rfl,hs⟩:=LN h3;exact⟨rfl,λd hd=>(aX.mp hd).elim (λe=>by rw[e];exact hz) (hs d)⟩
def aaW(i:Int):X7 (.int i)=.ok (.int i):=rfl
def aaX(i:Bool):X7 (.bl i)=.ok (.bl i):=rfl
def aaY(i:Str):X7 (.str i)=.ok (.str i):=rfl
def aaZ:X7 .non=.ok .non:=rfl
def mr(ns:List Int):scL (aW ns)=.ok (aW ns):=by
 induction ns with
 |nil=>rfl
 |cons x r ih=>show(X7 (.int x)).bind (λy=>(scL (aW r)).bind λys=>.ok (y::ys))=_;rw[ih];rfl
def mD(n N:Nat)(b:DE->R Out)(ds:List D):R D:=if ds.length=n then((b (aN N ds)).bind aJ).ne else .bad
def mS(n N:Nat)(b:DE->R Out)(ds:List D):R D:=if ds.length=n then(((b (aN N ds)).bind aJ).bind X7).ne else .bad
def mF(n N:Nat)(b:DE->R Out)(ds:List D):R (List D):=if ds.length=n then((b (aN N ds)).bind aK).ne else .bad
def dH(n N:Nat)(b:DE->R Out)(ds:List D):R (List D):=if ds.length=n then(((b (aN N ds)).bind aK).bind scL).ne else .bad
def R.dZ {α:Type}{r:R α}{a:α}(h:r.ne=.ok a):r=.ok a:=by
 cases r with
 |ok b=>exact h
 |err c=>cases h
 |bad=>cases h
def R.To {α:Type}{r:R α}{c:Str}:r.ne≠.err c:=by
 cases r<;>intro h<;>cases h
def Tp{n N:Nat}{b:DE->R Out}:ScD (mS n N b):=λds d h=>by
 unfold mS at h;split at h
 ·obtain⟨x,_,h2⟩:=R.jQ (R.dZ h)
  exact(LM h2).2
 ·cases h
def scl{n N:Nat}{b:DE->R Out}:ScL (dH n N b):=λds d h=>by
 unfold dH at h;split at h
 ·obtain⟨x,_,h2⟩:=R.jQ (R.dZ h)
  exact(LN h2).2
 ·cases h
section
variable{P:aU}{w:aF}{K:ak}{mg:Str->Option ah}{base:aD}
variable{x:Str}{st:aC}{f:ae}{fd:aL}{N ps:List Str}{k:Nat}{b:DE->R Out}
def okD(S:bp N ps (az st))(d:Df K mg x st ps f fd)
  (hb:∀(cdv:ah)(A:bu)(outer:List Env)(s:aj)(H:Hp)(E:XK),cV k (A.deeper (fQ x (az st) s.heap.objs.size f cdv))->xj (vV qv P w K mg base N x (az st) f cdv A outer s H E).MP (dQ st) (tS K EN b)):
  Ok P w K mg base (k+1) f fd ps (mD ps.length N.length b):=mkD S d hb (λds e h=>by
 unfold mD at h;split at h
 ·rename_i c
  exact⟨c,R.dZ h⟩
 ·cases h) λds c h=>by
 unfold mD at h;split at h
 ·exact R.To h
 ·cases h
def X8(S:bp N ps (az st))(d:Df K mg x st ps f fd)
  (hb:∀(cdv:ah)(A:bu)(outer:List Env)(s:aj)(H:Hp)(E:XK),cV k (A.deeper (fQ x (az st) s.heap.objs.size f cdv))->xj (vV qv P w K mg base N x (az st) f cdv A outer s H E).MP (dQ st) (tS K EN b)):
  Ok P w K mg base (k+1) f fd ps (mS ps.length N.length b):=mkD S d hb (λds e h=>by
 unfold mS at h;split at h
 ·rename_i c
  obtain⟨y,h1,h2⟩:=R.jQ (R.dZ h);obtain⟨rfl,_⟩:=LM h2;exact⟨c,h1⟩
 ·cases h) λds c h=>by
 unfold mS at h;split at h
 ·exact R.To h
 ·cases h
def vZ(S:bp N ps (az st))(d:Df K mg x st ps f fd)
  (hb:∀(cdv:ah)(A:bu)(outer:List Env)(s:aj)(H:Hp)(E:XK),cV k (A.deeper (fQ x (az st) s.heap.objs.size f cdv))->xj (vV qv P w K mg base N x (az st) f cdv A outer s H E).MP (dQ st) (tS K EN b)):
  p9 P w K mg base (k+1) f fd ps (dH ps.length N.length b):=mkF S d hb (λds e h=>by
 unfold dH at h;split at h
 ·rename_i c
  obtain⟨y,h1,h2⟩:=R.jQ (R.dZ h);obtain⟨rfl,_⟩:=LN h2;exact⟨c,h1⟩
 ·cases h) λds c h=>by
 unfold dH at h;split at h
 ·exact R.To h
 ·cases h
end
section
variable{d:D}{xs:List D}{r:DE}{a:Sl}{i:Nat}
def aa0:dG 0 (.val d::r)=.ok d:=rfl
def aa1:dG (i+1) (a::r)=dG i r:=rfl
def aa2:cy 0 (.val d::r)=.ok d:=rfl
def Tq:cy 0 (.own xs::r)=.ok (.lst xs):=rfl
def aa3:cy (i+1) (a::r)=cy i r:=rfl
def aa4:rg 0 (.val (.lst xs)::r)=.ok xs:=rfl
def Tt:rg 0 (.own xs::r)=.ok xs:=rfl
def aa5:rg (i+1) (a::r)=rg i r:=rfl
def aa6:ownAt 0 (.own xs::r)=.ok xs:=rfl
def aa7:ownAt (i+1) (a::r)=ownAt i r:=rfl
def aa8:Dq 0 (.own xs::r)=.val (.lst xs)::r:=rfl
def aa9:Dq (i+1) (a::r)=a::Dq i r:=by
 unfold Dq;rw[List.getElem?_cons_succ];cases e:r[i]? with
 |none=>rfl
 |some sl=>cases sl<;>rfl
end
def bT2(i j:Nat)(a b:D)(env:DE):bT 2 (pT (bN i) (pT (bN j) Fc)) (.tup [a,b]) env=.ok ((env.set i (.val a)).set j (.val b)):=rfl
def j8(i:Nat)(a:D)(env:DE):bN i a env=.ok (env.set i (.val a)):=rfl
def gq{ns:List Int}(h:ns.length<=1000000):fit (aW ns)=.ok (aW ns):=uH (by rw[cM];exact big h)
def qc(a b:List Int):aW a++aW b=aW (a++b):=(cj ..).symm
def vW(n d:Nat):HT.Du n d none=d:=rfl
def p6(n d:Nat)(i:Int)(h:0<=i):HT.Du n d (aa i)=min i.toNat n:=by
 unfold HT.Du;dsimp only;split<;>lia
def A7{α:Type}(xs:List α)(m:Int)(h:0<=m):cut xs none (aa m)=xs.take m.toNat:=by
 unfold cut;rw[vW,p6 _ _ _ h,Hk,Og];rcases X9 m.toNat xs.length with q|q
 ·rw[HA q]
 ·rw[Yb q,zH,CP q]
def DM{α:Type}(xs:List α)(m:Int)(h:0<=m):cut xs (aa m) none=xs.drop m.toNat:=by
 unfold cut;rw[vW,p6 _ _ _ h];rcases X9 m.toNat xs.length with q|q
 ·rw[HA q,CP (by rw[lZ];exact bf _)]
 ·rw[Yb q,CQ,Yc,Yd q]
def FU{cells:List Int}{j:Nat}{x:D}(h:(jz (aW cells))[j]?=aa x):∃c,cells[j]?=aa c/\x=.tup [.int (j:Nat),.int c]:=by
 obtain⟨d,hd,rfl⟩:=AX h;unfold aW at hd;rw[b8]at hd;cases q:cells[j]? with
 |none=>rw[q]at hd;cases hd
 |some c=>rw[q]at hd;cases hd;exact⟨c,rfl,rfl⟩
def QT(xs:List D):(jz xs).length=xs.length:=by simp[jz]
def zI{i:Nat}{env:DE}{xs:List D}{d:D}(h:xs.length<1000000):QR i env xs d=.ok (.nx (env.set i (.own (xs++[d])))):=if_pos (dN h (by decide))
def Ye{i:Nat}{env:DE}{xs ys:List D}(h:xs.length+ys.length<=1000000):adp i env xs ys=.ok (.nx (env.set i (.own (xs++ys)))):=if_pos (big h)
def Yg{i:Nat}{env:DE}{xs:List D}(h:0<xs.length):adq i env xs=.ok (.nx (env.set i (.own xs.dropLast))):=if_pos h
def JC{i:Nat}{env:DE}{d:D}{xs:List D}{j:Int}(h:0<=j)(h2:j<xs.length):JB i env d xs (.int j)=.ok (.nx (env.set i (.own (xs.set j.toNat d)))):=by
 unfold JB;have:yW xs.length j=aa j.toNat:=by unfold L2.yW;rw[if_pos h,if_pos h2]
 simp only [this]
def Oh{α:Type}{xs:List α}{j:Int}(h:0<=j):jJ xs j=xs[j.toNat]?:=by
 unfold L2.jJ L2.yW;rw[if_pos h];split
 ·rfl
 ·rename_i c
  symm
  show _=none;rw[List.getElem?_eq_none_iff];lia
def Yh(ns:List Int)(j:Nat)(x:Int):(aW ns).set j (.int x)=aW (ns.set j x):=zJ.symm
def Yi(ns:List Int)(j:Nat):(aW ns)[j]?=(ns[j]?).map .int:=b8
def HB(ns:List Int):(aW ns).reverse=aW ns.reverse:=mw.symm
def tj(a:Int)(ns:List Int):D.int a::aW ns=aW (a::ns):=rfl
def Yj:([]:List D)=aW []:=rfl
def aba(T:String)(i:Int):EO T (.int i)=.ok (.bl (lM (BR (.int i)) T)):=rfl
def abb(T:String)(i:Bool):EO T (.bl i)=.ok (.bl (lM (BR (.bl i)) T)):=rfl
def abd(T:String)(i:Str):EO T (.str i)=.ok (.bl (lM (BR (.str i)) T)):=rfl
def abe(T:String):EO T .non=.ok (.bl (lM (BR .non) T)):=rfl
def abf(T:String)(i:List D):EO T (.lst i)=.ok (.bl (lM (BR (.lst i)) T)):=rfl
def abg(T:String)(i:List D):EO T (.tup i)=.ok (.bl (lM (BR (.tup i)) T)):=rfl
def bX:(type_of% @bD.{0})/\(type_of% @gG.{0})/\(type_of% @bw.{0,0})/\(type_of% @ji.{0,0})/\(type_of% @gF.{0})/\(type_of% @ky.{0})/\(type_of% @xM.{0})/\(type_of% @gm.{0})/\(type_of% @if_true.{1})/\(type_of% @ite_true.{1})/\(type_of% @Hm)/\(type_of% @Yk)/\(type_of% @aa0)/\(type_of% @aa1)/\(type_of% @aa2)/\(type_of% @Tq)/\(type_of% @aa3)/\(type_of% @aa4)/\(type_of% @Tt)/\(type_of% @aa5):=⟨@bD.{0},@gG.{0},@bw.{0,0},@ji.{0,0},@gF.{0},@ky.{0},@xM.{0},@gm.{0},@if_true.{1},@ite_true.{1},@Hm,@Yk,@aa0,@aa1,@aa2,@Tq,@aa3,@aa4,@Tt,@aa5⟩
def bY:(type_of% @aa6)/\(type_of% @aa7)/\(type_of% @aa8)/\(type_of% @aa9)/\(type_of% @Ym.{0})/\(type_of% @Yn.{0})/\(type_of% @R.cB)/\(type_of% @R.rF)/\(type_of% @R.SX)/\(type_of% @aaP)/\(type_of% @aaQ)/\(type_of% @aaR)/\(type_of% @Hu)/\(type_of% @Td)/\(type_of% @Te)/\(type_of% @aaH)/\(type_of% @aaI)/\(type_of% @aaJ)/\(type_of% @aaK)/\(type_of% @aaL):=⟨@aa6,@aa7,@aa8,@aa9,@Ym.{0},@Yn.{0},@R.cB,@R.rF,@R.SX,@aaP,@aaQ,@aaR,@Hu,@Td,@Te,@aaH,@aaI,@aaJ,@aaK,@aaL⟩
def bZ:(type_of% @aaM)/\(type_of% @aaN)/\(type_of% @aaO)/\(type_of% @Tg)/\(type_of% @N7)/\(type_of% @Th)/\(type_of% @Ti)/\(type_of% @aaS)/\(type_of% @aaT)/\(type_of% @aaU)/\(type_of% @agU)/\(type_of% @agV)/\(type_of% @agW)/\(type_of% @agX)/\(type_of% @agY)/\(type_of% @N8)/\(type_of% @N9)/\(type_of% @Jz)/\(type_of% @aaW)/\(type_of% @aaX):=⟨@aaM,@aaN,@aaO,@Tg,@N7,@Th,@Ti,@aaS,@aaT,@aaU,@agU,@agV,@agW,@agX,@agY,@N8,@N9,@Jz,@aaW,@aaX⟩
def b7:(type_of% @aaY)/\(type_of% @aaZ)/\(type_of% @Oa)/\(type_of% @aba)/\(type_of% @abb)/\(type_of% @abd)/\(type_of% @abe)/\(type_of% @abf)/\(type_of% @abg):=⟨@aaY,@aaZ,@Oa,@aba,@abb,@abd,@abe,@abf,@abg⟩
section
variable{X:Cx}{E:Str->Hp->Prop}{pos:Pos}
def ag1{st:aC}:PS X st (tS X.K E λ_=>.bad):=λpins s σ H De I ⟨g,env,os,r,m⟩=>m.elim
end
def Yo:Jw .non .non=aa (.bl false):=rfl
def Kep(fs xs:List ae)(h h':aD):Prop:=∀b o,h.get? b=aa o->b∉xs->(b∉fs->h'.get? b=aa o)/\∃sl,h'.get? b=aa {o with slots:=sl}
structure Exc(h:aD)(e T C:ae)(fl:ah):Prop where
 at_:∃vs,h.get? e=aa {cls:=.ref C,data:=.fields vs}/\vs[1]?=aa (.ref T)
 ne:T≠e
 tb:∃oT ts,h.get? T=aa oT/\oT.data=.fields ts/\ts[3]?=aa fl
section
variable{P:aU}{w:aF}{H H':Hp}{h h1 h2:aD}{fs fs' xs:List ae}
def CXF(P:aU)(w:aF):RG:=λouter H s E ev s'=>∃e T C H',ev=.ref e/\Exc s'.heap e T C .none/\s.heap.get? e=none/\s.heap.get? T=none/\H' e=none/\H' T=none/\s'.os=s.os/\pY s'.gens/\
 Un (K8 outer) [] H H' s.heap s'.heap/\ye P w H' s'.heap/\E (.ref C) none H'
end
def xcK(K:ak)(n:Str):ah:=match ux K eg n with
 |some (aa v)=>v
 |_=>.none
section
variable{P:aU}{w:aF}{K:ak}{mg:Str->Option ah}{base:aD}{N:List Str}{qual:Str}{scope:dw}{f:ae}{cd:ah}{A:bu}{outer:List Env}{s:aj}{H:Hp}{E:XK}
abbrev EW(K:ak)(E:XK):Str->Hp->Prop:=λn H'=>E (xcK K n) none H'
end
abbrev OkX(P:aU)(w:aF)(K:ak)(mg:Str->Option ah)(base:aD)(k:Nat)(f:ae)(fd:aL)(ps:List Str)(m:List D->R D):Prop:=fM P w K mg base (CXF P w) k f fd ps (NR K (xcK K) m)
abbrev aqP(P:aU)(w:aF)(K:ak)(mg:Str->Option ah)(base:aD)(k:Nat)(f:ae)(fd:aL)(ps:List Str)(m:List D->R (List D)):Prop:=fM P w K mg base (CXF P w) k f fd ps (Wb K (xcK K) m)
section
variable{P:aU}{w:aF}{K:ak}{mg:Str->Option ah}{base:aD}
variable{x:Str}{st:aC}{f:ae}{fd:aL}{N ps:List Str}{k:Nat}{b:DE->R Out}
variable(S:bp N ps (az st))(d:Df K mg x st ps f fd)
  (hb:∀(cdv:ah)(A:bu)(outer:List Env)(s:aj)(H:Hp)(E:XK),cV k (A.deeper (fQ x (az st) s.heap.objs.size f cdv))->xj (vV (CXF P w) P w K mg base N x (az st) f cdv A outer s H E) (dQ st) (tS K (EW K E) b))
include S d hb
end
abbrev hdl(X:Cx)(e:ae):Cx:={X with A:=X.A.mark (aa (.ref e)),calm:=false,xe:=λ_ _=>False}
section
variable{X:Cx}{E:Str->Hp->Prop}{pos:Pos}
def Yp(i j:Nat)(env:DE):List D->R Out
 |[a,b]=>.ok (.nx ((env.set i (.val a)).set j (.val b)))
 |_=>.bad
def akE(i j:Nat){x y:Str}{a b:ao}{f:DE->R (List D)}{px py pt:Pos}{kt k2 pt2}(hc:X.calm=true)(hN:X.N.Nodup)(ha:PA X [a,b] (QK X.K E f))(hi:X.N[i]?=aa x:=by rfl)(hj:X.N[j]?=aa y:=by rfl)(hij:i≠j:=by decide)
  (hx:X.env.scope.names.lookup x=aa .local:=by rfl)(hy:X.env.scope.names.lookup y=aa .local:=by rfl)
  (hw:yZ [.Tuple [.Name x px,.Name y py] kt pt] (.Tuple [a,b] k2 pt2) X.env=bc (aa [x,y]):=by rfl)
  (hs:yY [.Tuple [.Name x px,.Name y py] kt pt] (.Tuple [a,b] k2 pt2) pos.line X.env=bc false:=by rfl):
  PS X (.Assign [.Tuple [.Name x px,.Name y py] kt pt] (.Tuple [a,b] k2 pt2) pos) (tS X.K E λenv=>(f env).bind (Yp i j env)):=
 oV (acn hc hN hi hj hij hx hy ha hw hs) λDe σ H ⟨g,env,os,r,m⟩=>⟨g,env,os,r,m.bind.mono λds _ q vs H' s h=>by
  unfold Yp at q;split at q
  ·rename_i a b
   obtain⟨v,w,rfl,h1,h2⟩:=IsL.QM h;exact⟨v,w,rfl,q _ H' os (((r.same s).set i h1).set j h2) (.same s os)⟩
  ·exact q.elim⟩
end
theorem iQ{K:ak}{P:ae->Prop}{H:Hp}:∀{ns:List Int}{vs:List V},IsL K P H (aW ns) vs->vs=ns.map V.int
 |[],_,h=>h
 |n::ns,_,⟨v,r,e,p,q⟩=>by
  have p':v=.int n:=p;rw[e,p',iQ q];rfl
theorem CS{K:ak}{P:ae->Prop}{H:Hp}:∀(ns:List Int),IsL K P H (aW ns) (ns.map V.int)
 |[]=>rfl
 |n::ns=>⟨_,_,rfl,rfl,CS ns⟩
def yy(xs:List D):Option D:=(CO xs).map λns=>.int ns.sum
def sortI(ns:List Int):List Int:=ns.mergeSort (λa b=>decide (a<=b))
def JD(xs:List D):R (List D):=match CO xs with
 |some ns=>if ns.length<64 then .ok (aW (sortI ns))else .bad
 |none=>.bad
def pF(xs:List D):D->R D
 |.int k=>match CO xs with
  |some ns=>if k∈ns then .ok (.int (ns.idxOf k:Nat))else .bad
  |none=>.bad
 |_=>.bad
def adv:fj "sum"=aa (.builtin "sum"):=by decide +kernel
def QU:fj "sorted"=aa (.builtin "sorted"):=by decide +kernel
def JE{a b:List Int}(p:a.Perm b)(o:a.Pairwise (·<=·)):a=sortI b:=by
 refine PySem.W.lks_uniq (p.trans (List.mergeSort_perm b _).symm) o ?_;have h:=List.pairwise_mergeSort (le:=λa b:Int=>decide (a<=b)) (λa b c h1 h2=>by simp only [decide_eq_true_eq]at h1 h2⊢;lia) (λa b=>by simp only [Ht,decide_eq_true_eq];lia) b;exact h.imp λh=>by simpa using h
section
variable{X:Cx}{E:Str->Hp->Prop}{pos:Pos}
def ag2{p:Pos}{a:ao}{f:DE->R (List D)}(hc:X.calm=true)(hm:X.mg "sum"=none)(ha:PE X a (tL X.K E f))(hg:Gl X "sum":=by rfl)
  (he:ar [a] X.env=(false,aA a X.env)::ar [] X.env:=by rfl)(hpl:(bA pos (ar [] X.env)).any (·.1)=false:=by rfl):PE X (.Call (.Name "sum" p) [a] [] pos) (tD X.K E λenv=>(f env).bind λxs=>R.of (yy xs)):=by
 refine imp (oU (r:=λxs H Q=>∃(l:ae)(ns:List Int),xs=[.ref l]/\gb X.K H l (ns.map V.int)/\Q (.int ns.sum) H) ?_ hg hm adv (bh ha bV he) (by decide) (by decide) he hpl) λσ H Q ⟨g,env,os,r,m⟩=>⟨g,env,os,r,m.bind.mono λxs _ q l vs H' s hl i=>?_⟩
 ·intro pins s σ H xs us Q I r h
  obtain⟨l,ns,rfl,hl,q⟩:=h;obtain⟨u,rfl,ru⟩:=vals1 r;have e:u=.ref l:=ru;subst e;obtain⟨its,rv,pl,hz⟩:=I.list hl;have ia:=intsAre_of rv;obtain⟨ys,hx⟩:=ia.allInts.items;have Yq:s.heap.IsList l (intItems ys):=hx▸pl.isList;have hh:X.A.handled=none:=I.ok.hd hc;have e1:ns=ys.toList.map (·.1):=by
   rw[<-nums_intItems,<-hx];exact(show numsOf its.toArray.toList=ns from ia.numsOf).symm
  refine sum_intListG hh Yq λh' tk t' hk=>?_;have e2:preSum (numAt ys) ys.size=ns.sum:=by
   rw[preSum_eq,CP (by simp),e1]
  rw[e2];exact⟨.int _,H,I.kept (s:=s) (t':=tk) hk,⟨_,rfl⟩,q⟩
 ·obtain⟨d,e,q2⟩:=q.of
  unfold yy at e;cases z:CO xs with
  |none=>rw[z]at e;cases e
  |some ns=>
   rw[z]at e;have ex:=yN z;subst ex;have ev:=iQ i;subst ev;cases e;exact⟨l,ns,rfl,hl,q2 _ H' s rfl⟩
def Yr{p:Pos}{a:ao}{f:DE->R (List D)}(hm:X.mg "sorted"=none)(ha:PE X a (tL X.K E f))(hg:Gl X "sorted":=by rfl)
  (he:ar [a] X.env=(false,aA a X.env)::ar [] X.env:=by rfl)(hpl:(bA pos (ar [] X.env)).any (·.1)=false:=by rfl):PE X (.Call (.Name "sorted" p) [a] [] pos) (tF X.K E λenv=>(f env).bind JD):=by
 refine imp (oU (r:=λxs H Q=>∃(l:ae)(ns:List Int),xs=[.ref l]/\gb X.K H l (ns.map V.int)/\ns.length<64/\∀p,H p=none->Q (.ref p) (upd H p (.lst ((sortI ns).map V.int)))) ?_ hg hm QU (bh ha bV he) (by decide) (by decide) he hpl) λσ H Q ⟨g,env,os,r,m⟩=>⟨g,env,os,r,m.bind.mono λxs _ q l vs H' s hl i=>?_⟩
 ·intro pins s σ H xs us Q I r h
  obtain⟨l,ns,rfl,hl,h64,q⟩:=h;obtain⟨u,rfl,ru⟩:=vals1 r;have e:u=.ref l:=ru;subst e;obtain⟨its,rv,pl,hz⟩:=I.list hl;have ia:=intsAre_of rv;refine PyProof.Rows.sorted_ints pl.isList ia (by rw[xy.length ia];exact h64) λout RQ a1 a2 a3=>?_;have es:=JE a2 a3;subst es;obtain⟨n,hn⟩:=sortedAll_at s.heap its out;refine⟨.ref _,_,I.laid (a:=s.heap.objs.size+1) (o:=.lst ((sortI ns).map V.int)) (t':=s.toks) (λ_ _=>sortedAll_old) (Nd _) ⟨?_,out.toList,n,AQ a1,?_⟩,rfl,q _ (I.hok.fresh (Nd _))⟩
  ·rw[aB,a2.length_eq]
   exact GF (NF h64 (by decide))
  ·rw[hn]
 ·unfold JD at q
  split at q
  ·rename_i ns z
   split at q
   ·rename_i c
    have ex:=yN z;subst ex;have ev:=iQ i;subst ev;refine⟨l,ns,rfl,hl,c,λp hp=>?_⟩;obtain⟨b1,b2,b3,b4⟩:=LA r s hp (CS (K:=X.K) (P:=g.P os) (H:=H') (sortI ns));exact q p _ _ b1 b2 b3 b4
   ·exact q.elim
  ·exact q.elim
def adw(K:ak):V->List V->Hp->VK->Prop:=λx xs H Q=>∃(l:ae)(ns:List Int)(k:Int),x=.ref l/\xs=[.int k]/\gb K H l (ns.map V.int)/\k∈ns/\Q (.int (ns.idxOf k:Nat)) H
def Tu:MtR X "list.index" (adw X.K):=by
 intro pins s σ H x xs v us Q I rx r h;obtain⟨l,ns,k,rfl,rfl,hl,hk,q⟩:=h;obtain⟨u,rfl,t,ru⟩:=vals1 r;subst ru;cases rx;obtain⟨its,rv,pl,hz⟩:=I.list hl;have ia:=intsAre_of rv;obtain⟨o,n,h1,h2,h3,h4⟩:=pl;cases o;simp only at h2 h3 h4;subst h2 h3 h4;have hlen:=ia.length;have hj:ns.idxOf k<ns.length:=List.idxOf_lt_length_iff.mpr hk;have hz2:ns.length<=aI:=by simpa using hz
 refine xC Ys ⟨_,h1,rfl⟩ PySem.F.entry_list_index (PySem.F.args_list_index_2 _ _)
  (SeqAt.list_indexAt l its.toArray n none _ (.int k t) (isInt k) (ns.idxOf k) (by simpa[hlen]using hj) (by have h63:=yK;lia) ?_ ?_) ⟨h1,λy hy=>(eq_isInt k t ia y (by simpa using hy)).at _ _,⟨.int _,H,I.tok _,⟨_,rfl⟩,q⟩⟩
 ·show isInt k its[ns.idxOf k]=true
  rw[isInt_at k ia _ (by lia) hj];simpa using Oi hj
 ·intro j hjs hlt
  show isInt k its[j]=false;rw[isInt_at k ia j (by simpa using hjs) (by simp at hjs;lia)];exact ne_of_lt_idxOf hlt _
def HC{o e:ao}{apos cL:Pos}{fo:DE->R (List D)}{f:DE->R D}(ho:PE X o (tL X.K E fo))(he:PE X e (tB X.K E f))
  (hbase:iK o "index" X.env (aA o X.env)=aA o X.env:=by rfl)
  (hfew:((bA cL (ar [e] X.env)).all (λx=> !x.1)&&(lW cL (lY [] X.env)).all (λx=>x.1.isSome)
   &&decide ([e].length+([]:List fU).length+(if([]:List fU).isEmpty then 0 else 1)<30))=true:=by rfl)
  (hline:(apos.endLine==cL.line)=true:=by rfl)(hst:ar [e] X.env=(false,aA e X.env)::ar [] X.env:=by rfl)(hplain:(bA cL (ar [] X.env)).any (·.1)=false:=by rfl):
  PE X (.Call (.Attribute o "index" apos) [e] [] cL) (tD X.K E λenv=>(fo env).bind λxs=>(f env).bind λk=>pF xs k):=
 imp (yt kB Ys PySem.F.type_list_index Tu ho (bh he bV hst) hbase hfew hline hst hplain) λσ H Q ⟨g,env,os,r,m⟩=>⟨g,env,os,r,m.bind.mono λxs _ m1 l vs H1 s1 hl i=>⟨.inl ⟨rfl,vs,hl⟩,g,env,os,r.same s1,m1.bind.mono λk _ q v H2 s2 i2=>by
  unfold pF at q;split at q
  ·rename_i kk _
   split at q
   ·rename_i ns z
    split at q
    ·rename_i c
     have ex:=yN z;subst ex;have ev:=iQ i;subst ev;have e2:v=.int kk:=i2;subst e2;exact⟨l,ns,kk,rfl,rfl,s2.seq hl,c,q _ H2 (s1.trans s2) rfl⟩
    ·exact q.elim
   ·exact q.elim
  ·exact q.elim⟩⟩
end
def JF(lo c:Int)(n:Nat):List D:=(b9 n).map λi=>.int (lo+(i:Nat)*c)
abbrev RC(a b c:Int):Prop:= -1000000<=a/\a<=1000000/\ -1000000<=b/\b<=1000000/\c≠0/\ -1000000<=c/\c<=1000000
def Tv:List D->R (List D)
 |[.int a,.int b,.int c]=> @ite _ (RC a b c) (dR _) (.ok (JF a c (dz a b c).toNat)) .bad
 |_=>.bad
def zK{a b c:Int}(h:RC a b c):0<=dz a b c/\dz a b c<=2000000:=by
 unfold dz;have e:∀x y:Int,0<=x->x<2000000->1<=y->0<=x/y/\x/y<2000000:=λx y h1 h2 h3=>⟨Int.ediv_nonneg h1 (by lia),Int.lt_of_le_of_lt (Int.ediv_le_self _ h1) h2⟩
 split
 ·split
  ·have:=e (b-a-1) c (by lia) (by lia) (by lia)
   lia
  ·lia
 ·split
  ·have:=e (a-b-1) (-c) (by lia) (by lia) (by lia)
   lia
  ·lia
def Yt{a b c:Int}(h:RC a b c):Yu a b c=true:=by
 have hs:=zK h;unfold Yu;simp only [uI,ur,Ht,decide_eq_true_eq,beq_iff_eq];refine⟨by lia,.inr ?_⟩;split<;>simp only [ur,decide_eq_true_eq]<;>lia
section
variable{X:Cx}{E:Str->Hp->Prop}{pos:Pos}{tg:ao}
def IsL.adx {K:ak}{P:ae->Prop}{H:Hp}{d d2 d3:D}{vs:List V}(h:IsL K P H [d,d2,d3] vs):∃v w z,vs=[v,w,z]/\Is K P H d v/\Is K P H d2 w/\Is K P H d3 z:=by
 obtain⟨v,r,rfl,p,q⟩:=h;obtain⟨w,z,rfl,p2,p3⟩:=IsL.QM q;exact⟨v,w,z,rfl,p,p2,p3⟩
def vals3{x y z:V}{us:List ah}(r:Vals [x,y,z] us):∃u v w,us=[u,v,w]/\RelV x u/\RelV y v/\RelV z w:=by
 cases r with
 |cons p q=>
  obtain⟨v,w,rfl,p2,p3⟩:=vals2 q;exact⟨_,v,w,rfl,p,p2,p3⟩
def Oj{K:ak}{P:ae->Prop}{H:Hp}{lo c:Int}{n:Nat}:IsL K P H (JF lo c n) ((b9 n).map λi=>V.int (lo+(i:Nat)*c)):=by
 unfold JF
 induction (b9 n)with
 |nil=>rfl
 |cons x r ih=>exact⟨_,_,rfl,rfl,ih⟩
def wb{acc:List ah}{lo c:Int}{n:Nat}(h1:acc.length=n)(h2:∀(j:Nat)(v:ah),acc[j]?=aa v->∃t,v=.int (lo+(j:Nat)*c) t):Vals ((b9 n).map λi=>V.int (lo+(i:Nat)*c)) acc:=by
 have gen:∀(l:List ah)(k:Nat),(∀(j:Nat)(v:ah),l[j]?=aa v->∃t,v=.int (lo+((k+j:Nat):Int)*c) t)->Vals ((N3 k l.length).map λi=>V.int (lo+(i:Nat)*c)) l:=by
  intro l
  induction l with
  |nil=>intro k _;exact .nil
  |cons x r ih=>
   intro k hk;rw[bD,N4,bw];refine .cons ?_ (ih (k+1) λj v e=>?_)
   ·obtain⟨t,e⟩:=hk 0 x (by simp)
    exact⟨t,e⟩
   ·obtain⟨t,e⟩:=hk (j+1) v (by simpa using e)
    exact⟨t,by rw[e,show k+(j+1)=k+1+j by lia]⟩
 subst h1;rw[N5];exact gen acc 0 λj v e=>by
  obtain⟨t,q⟩:=h2 j v e;exact⟨t,by rw[q,jR]⟩
def Yv{a b c:ao}{p p2 sC:Pos}{f:DE->R (List D)}(hc:X.calm=true)(LH:X.mg "list"=none)(hmr:X.mg "range"=none)(ha:PA X [a,b,c] (yf X.K E f))(hgl:Gl X "list":=by rfl)(hgr:Gl X "range":=by rfl)
  (hs:ar [a,b,c] X.env=(false,aA a X.env)::ar [b,c] X.env:=by rfl)(Tw:(bA sC (ar [b,c] X.env)).any (·.1)=false:=by rfl)(he:ar [.Call (.Name "range" p2) [a,b,c] [] sC] X.env=(false,aA (.Call (.Name "range" p2) [a,b,c] [] sC) X.env)::ar [] X.env:=by rfl)(hpl:(bA pos (ar [] X.env)).any (·.1)=false:=by rfl):
  PE X (.Call (.Name "list" p) [.Call (.Name "range" p2) [a,b,c] [] sC] [] pos) (tF X.K E λenv=>(f env).bind Tv):=by
 intro pins s σ H Q I h;obtain⟨g,env,os,r,m⟩:=h;refine uk (j3 I hgl LH nU ?_);refine jN ?_ he hpl;rw[he];refine xt ?_;refine rC (j3 I hgr hmr zE (jN (fJ (ha sC pins s σ H _ I ⟨g,env,os,r,m.bind.mono λds _ q vs H1 s1 i1=>(⟨ds,s1,i1,q⟩:∃ds,bK H H1/\IsL X.K Tr H1 ds vs/\Good E g.H₀ (Tv ds) _)⟩) λus s1 ⟨vs,H1,I1,r1,ds,sm,i1,q⟩=>?_) hs Tw));unfold Tv at q;split at q
 ·rename_i x y z
  split at q
  ·rename_i h
   obtain⟨v1,v2,v3,rfl,k1,k2,k3⟩:=IsL.adx i1;have k1':v1=.int x:=k1;have k2':v2=.int y:=k2;have k3':v3=.int z:=k3;subst k1' k2' k3';obtain⟨u1,u2,u3,rfl,⟨t1,rfl⟩,⟨t2,rfl⟩,⟨t3,rfl⟩⟩:=vals3 r1;refine call_range_3 h.2.2.2.2.1 ?_ (.inl (WS (by lia)));have I2:Inv X pins σ H1 {s1 with heap:=s1.heap.push {cls:=.type "range",data:=.fields #[.int x t1,.int y t2,.int z t3]},toks:=s1.toks}:=I1.kept λb o e=>cZ _ e;refine xr ?_;have hd:X.A.handled=none:=I.ok.hd hc;have hn2:=zK h;have hsz:dz x y z=((dz x y z).toNat:Nat):=by lia
   refine N6 hd (rB.new ..) (Yt h) hsz (by lia) λh' tk sE c' hk hl hit=>?_;obtain⟨hi1,hi2⟩:=hit;have hv:Vals ((b9 (dz x y z).toNat).map λi=>V.int (x+(i:Nat)*z)) sE.toList:=wb (by simpa using hi1) λi v e=>hi2 i v (by simpa using e);have hlen:((b9 (dz x y z).toNat).map λi=>V.int (x+(i:Nat)*z)).length<=aI:=by
    rw[aB,zF];exact iF (show(dz x y z).toNat<=2000000 by lia) (by decide)
   refine⟨.ref _,upd H1 _ (.lst ((b9 (dz x y z).toNat).map λi=>V.int (x+(i:Nat)*z))),I2.laid (a:=_) hk (bf _) ⟨hlen,sE.toList,c',hv,by simpa using hl⟩,rfl,?_⟩;have hn:H1 (s1.heap.push {cls:=.type "range",data:=.fields #[.int x t1,.int y t2,.int z t3]}).objs.size=none:=I2.hok.fresh (bf _);exact q _ _ _ (sm.trans (bR hn _)) (sm.free hn) aT Oj
  ·exact q.elim
 ·exact q.elim
end
def cl2(X:Cx)(scope:dw)(C:ae):List (Str×ae):=G5 (C+1) scope.names (IU X.env.cells scope.names [])
noncomputable def aoI(X:Cx)(scope:dw)(N:List Str)(s:aj)(H:Hp)(fp:List ae)(C:ae)(pl:List (ae×Obj)):Cx where
 prog:=X.prog
 w:=X.w
 K:=X.K
 mg:=X.mg
 base:=X.base
 A:=X.A
 N:=N
 s₀:=s
 H₀:=H
 env:=zA scope (cl2 X scope C) C X.env
 outer:=X.stack
 stack:=X.stack
 ex:=fp
 fn:=λx=>scope.names.lookup x==aa Yw
 calm:=X.calm
 pn:=pl
 xe:=λ_ _=>False
structure ag3(X:Cx)(scope:dw)(N:List Str)(nt:Nat)(caps:List Nat):Prop where
 kind:scope.kind=.function
 apart:∀x,scope.names.lookup x=aa .free->(x,Yw)∉scope.names
 names:∀y∈scope.names,y.2=.local->scope.names.lookup y.1=aa .local
 free:∀y∈scope.names,y.2=.free->X.env.kindOf y.1=aa .cell\/X.env.kindOf y.1=aa .free
 len:N.length=nt+caps.length
 nd:N.Nodup
 caps:∀(j i:Nat),caps[j]?=aa i->∃x,N[nt+j]?=aa x/\X.N[i]?=aa x/\scope.names.lookup x=aa .free/\BI X.env.scope x
section
variable{K:ak}{g:Gh}{env:DE}{σ:St}{H H':Hp}{os:List ae}
def lE{α:Type}{l:List α}{i j:Nat}{x y:α}(e:(l.set i x)[j]?=aa y)(h:y≠x):i≠j/\l[j]?=aa y:=by
 by_cases hj:i=j
 ·subst hj
  exact(h (bW e)).elim
 ·rw[aO hj]at e
  exact⟨hj,e⟩
theorem lF:∀{a b:List ae},a.map V.ref=b.map V.ref->a=b
 |[],[],_=>rfl
 |[],_::_,h=>by cases h
 |_::_,[],h=>by cases h
 |x::a,y::b,h=>by
  injection h with h1 h2;injection h1 with h1;rw[h1,lF h2]
def Rel.Tz (r:Rel K g env σ H os){l:List ae}(s:bK H H')(hn:∀a∈l,H a=none):Ext (g.P os) (g.P (l++os)) H H':=
 ⟨λb o p e=>⟨p.1,λhm=>by
  rcases cu.mp hm with z|z
  ·rw[hn b z]at e;cases e
  ·exact p.2 z⟩,λb o _ e=>s b o e⟩
def Rel.akG (r:Rel K g env σ H os)(s:bK H H')(i:Nat){nss:List (List Int)}{a:ae}{as:List ae}(hn:∀b∈a::as,H b=none)(nd:(a::as).Nodup)(hl:as.length=nss.length)(hH:H' a=aa (.lst (as.map V.ref)))
  (hi:∀(k:Nat)(b:ae)(ns:List Int),as[k]?=aa b->nss[k]?=aa ns->H' b=aa (.lst (ns.map V.int))):
  Rel K g (env.set i (.deep nss)) (σ.set i (aa (.ref a))) H' ((a::as)++os):=by
 have ap:=r.Tz s hn;have f:∀(j:Nat)(sl:Sl),(env.set i (Sl.deep nss))[j]?=aa sl->sl≠.deep nss->i≠j/\env[j]?=aa sl:=λj sl q hn=>lE q hn;have dp:Dp K H' ((a::as)++os) a as nss:=⟨by simp,hH,hl,nd,λk b ns e1 e2=>⟨jK _ (bz _ (dJ e1)),hi k b ns e1 e2⟩⟩
 have hnew:∀x∈a::as,x∉os:=λx hx hm=>by
  obtain⟨o,ho⟩:=(r.new x hm).2;rw[hn x hx]at ho;cases ho
 refine⟨by simp[r.len],r.ext.trans s,λj d q=>?_,λj xs q=>?_,λj k xs ys b q1 q2 q3 q4=>?_,λb hb=>?_,λj v q=>?_,?_⟩
 ·obtain⟨hj,q⟩:=f j _ q (λz=>nomatch z)
  obtain⟨v,h1,h2⟩:=r.val j d q;exact⟨v,by rw[aO hj];exact h1,Is.ext ap _ _ h2⟩
 ·obtain⟨hj,q⟩:=f j _ q (λz=>nomatch z)
  obtain⟨b,vs,h1,h2,h3,h4⟩:=r.own j xs q;exact⟨b,vs,by rw[aO hj];exact h1,fK _ h2,s _ _ h3,IsL.ext ap _ _ h4⟩
 ·obtain⟨hj,q1⟩:=f j _ q1 (λz=>nomatch z)
  obtain⟨hk,q2⟩:=f k _ q2 (λz=>nomatch z);rw[aO hj]at q3;rw[aO hk]at q4;exact r.inj j k xs ys b q1 q2 q3 q4
 ·rcases cu.mp hb with z|z
  ·exact⟨r.ext.free (hn b z),(dp.mem b z).2⟩
  ·obtain⟨h1,o,h2⟩:=r.new b z
   exact⟨h1,o,s _ _ h2⟩
 ·obtain⟨hj,q⟩:=f j _ q (λz=>nomatch z)
  rw[aO hj];exact r.raw j v q
 ·obtain⟨A,dd⟩:=r.Jk
  refine⟨λj=>if j=i then a::as else A j,λj qw q=>?_,λj qw k xs b q1 q2 q3=>?_,λj k qw TF hjk q1 q2 x hx=>?_⟩
  ·by_cases hj:j=i
   ·subst hj
    have z:=bW q;cases z;exact⟨a,as,if_pos rfl,by rw[iH (by rw[r.len];exact AV q)],dp⟩
   ·have q':=q
    rw[aO (Ne.symm hj)]at q';obtain⟨b,bs,h1,h2,h3⟩:=dd.dp j qw q';refine⟨b,bs,by rw[if_neg hj];exact h1,by rw[aO (Ne.symm hj)];exact h2,h3.to λx hx=>?_⟩;obtain⟨z1,o,z2⟩:=h3.mem x hx;exact⟨fK _ z1,by rw[s x o z2,z2]⟩
  ·obtain⟨hk,q2⟩:=f k _ q2 (λz=>nomatch z)
   rw[aO hk]at q3;show b∉if j=i then a::as else A j
   by_cases hj:j=i
   ·rw[if_pos hj]
    obtain⟨c,vs,h1,h2,_⟩:=r.own k xs q2;rw[q3]at h1;cases h1;exact λz=>hnew b z h2
   ·rw[if_neg hj]
    rw[aO (Ne.symm hj)]at q1;exact dd.ow j qw k xs b q1 q2 q3
  ·show x∉if k=i then a::as else A k
   have yV:x∈if j=i then a::as else A j:=hx
   by_cases hj:j=i
   ·have hk:k≠i:=λz=>hjk (by rw[hj,z])
    rw[if_pos hj]at yV;rw[if_neg hk];rw[aO (Ne.symm hk)]at q2;exact λz=>hnew x yV (dd.mem q2 x z).1
   ·rw[if_neg hj]at yV
    rw[aO (Ne.symm hj)]at q1
    by_cases hk:k=i
    ·rw[if_pos hk]
     exact λz=>hnew x z (dd.mem q1 x yV).1
    ·rw[if_neg hk]
     rw[aO (Ne.symm hk)]at q2;exact dd.dj j k qw TF hjk q1 q2 x yV
def Rel.akH (r:Rel K g env σ H os){i:Nat}{nss:List (List Int)}(e:env[i]?=aa (.deep nss)){a:ae}{as:List ae}(hσ:σ[i]?=aa (aa (.ref a)))(ha:H a=aa (.lst (as.map V.ref))){k:Nat}{b:ae}{ns:List Int}(hk:as[k]?=aa b)(hns:k<nss.length)(RQ:List Int):
  b∈os/\Rel K g (env.set i (.deep (nss.set k RQ))) σ (upd H b (.lst (RQ.map V.int))) os:=by
 obtain⟨A,dd⟩:=r.Jk;obtain⟨a0,yz,hA,h1,h3⟩:=dd.dp i nss e;rw[hσ]at h1;cases h1;have has:yz=as:=by
  have z:=h3.ha;rw[ha]at z;have z2:as.map V.ref=yz.map V.ref:=by injection z with z;injection z
  exact(lF z2).symm
 subst has;have rh:b∈os:=(h3.it k b nss[k] hk (bj hns)).1;have RT:b∈A i:=by rw[hA];exact bz _ (dJ hk)
 refine⟨rh,?_⟩;have ex:Ext (g.P os) (g.P os) H (upd H b (.lst (RQ.map V.int))):=⟨λ_ _ p _=>p,λc o p q=>by rw[aH (λz=>p.2 (by rw[z];exact rh))];exact q⟩
 have f:∀(j:Nat)(sl:Sl),(env.set i (Sl.deep (nss.set k RQ)))[j]?=aa sl->sl≠.deep (nss.set k RQ)->i≠j/\env[j]?=aa sl:=λj sl q hn=>lE q hn;have hba:b≠a:=λz=>(fO.mp h3.nd).1 (by rw[<-z];exact dJ hk);refine⟨by simp[r.len],λc o q=>?_,λj d q=>?_,λj xs q=>?_,λj k xs ys c q1 q2 q3 q4=>?_,λc hc=>?_,λj v q=>?_,?_⟩
 ·rw[aH (λz=>by rw[z,(r.new b rh).1]at q;cases q)]
  exact r.ext c o q
 ·obtain⟨hj,q⟩:=f j _ q (λz=>nomatch z)
  obtain⟨v,h1,h2⟩:=r.val j d q;exact⟨v,h1,Is.ext ex _ _ h2⟩
 ·obtain⟨hj,q⟩:=f j _ q (λz=>nomatch z)
  obtain⟨c,vs,h1,h2,h3',h4⟩:=r.own j xs q;have hcb:c≠b:=λz=>dd.ow i nss j xs c e q h1 (by rw[z];exact RT);exact⟨c,vs,h1,h2,by rw[aH hcb];exact h3',IsL.ext ex _ _ h4⟩
 ·obtain⟨hj,q1⟩:=f j _ q1 (λz=>nomatch z)
  obtain⟨hk,q2⟩:=f k _ q2 (λz=>nomatch z);exact r.inj j k xs ys c q1 q2 q3 q4
 ·obtain⟨z1,o,z2⟩:=r.new c hc
  refine⟨z1,?_⟩
  by_cases z:c=b
  ·exact⟨_,by rw[z];exact aT⟩
  ·exact⟨o,by rw[aH z];exact z2⟩
 ·obtain⟨hj,q⟩:=f j _ q (λz=>nomatch z)
  exact r.raw j v q
 ·have h3k:∀(m:Nat),yz[m]?=aa b->m=k:=λm hm=>by
   have adz:=(fO.mp h3.nd).2;have hm1:=(bG.mp hm).1;have hk1:=(bG.mp hk).1;exact(MM adz).mp (by rw[(bG.mp hm).2,(bG.mp hk).2])
  refine⟨A,λj qw q=>?_,λj qw m xs c q1 q2 q3=>?_,λj m qw TF hjm q1 q2 x hx=>?_⟩
  ·by_cases hj:i=j
   ·subst hj
    have z:=bW q;cases z;refine⟨a,yz,hA,hσ,h3.ma,by rw[aH (Ne.symm hba)];exact h3.ha,by rw[jP];exact h3.len,h3.nd,λm c ms e1 e2=>?_⟩
    by_cases hm:c=b
    ·subst hm
     have hmk:=h3k m e1;subst hmk;rw[iH hns]at e2;cases e2;exact⟨rh,aT⟩
    ·have hmk:k≠m:=λz=>hm (by rw[z]at hk;rw[hk]at e1;cases e1;rfl)
     rw[aO hmk]at e2;rw[aH hm];exact h3.it m c ms e1 e2
   ·rw[aO hj]at q
    obtain⟨c,cs,z1,z2,z3⟩:=dd.dp j qw q;refine⟨c,cs,z1,z2,z3.to λx hx=>?_⟩;have hxb:x≠b:=λz=>dd.dj i j nss qw hj e q b RT (by rw[z1,<-z];exact hx);exact⟨(z3.mem x hx).1,aH hxb⟩
  ·obtain⟨_,q2⟩:=f m _ q2 (λz=>nomatch z)
   by_cases hj:i=j
   ·subst hj
    exact dd.ow i nss m xs c e q2 q3
   ·rw[aO hj]at q1
    exact dd.ow j qw m xs c q1 q2 q3
  ·have p1:∃ms,env[j]?=aa (.deep ms):=by
    by_cases hj:i=j
    ·subst hj;exact⟨nss,e⟩
    ·rw[aO hj]at q1;exact⟨qw,q1⟩
   have p2:∃ms,env[m]?=aa (.deep ms):=by
    by_cases hj:i=m
    ·subst hj;exact⟨nss,e⟩
    ·rw[aO hj]at q2;exact⟨TF,q2⟩
   obtain⟨m1,p1⟩:=p1;obtain⟨m2,p2⟩:=p2;exact dd.dj j m m1 m2 hjm p1 p2 x hx
end
section
variable{X:Cx}{E:Str->Hp->Prop}{pos:Pos}
noncomputable def tFr(K:ak)(E:Str->Hp->Prop)(f:DE->R (List (List Int))):TA:=λσ H Q=>∃g env os,Rel K g env σ H os/\Good E g.H₀ (f env) λnss=>∀(as:List ae)(H':Hp),bK H H'->(∀b∈as,H b=none)->as.Nodup->as.length=nss.length->
 (∀(k:Nat)(b:ae)(ns:List Int),as[k]?=aa b->nss[k]?=aa ns->H' b=aa (.lst (ns.map V.int)))->Q (as.map V.ref) H'
def abj:PA X [] (tFr X.K E λ_=>.ok []):=SN bV λσ H Q ⟨g,env,os,r,m⟩=>m [] H (bK.refl H) (λ_ z=>nomatch z) .nil rfl (λ_ _ _ z=>by simp at z)
def abk(i:Nat){x:Str}{es:List ao}{f:DE->R (List (List Int))}{pos' p:Pos}(he:PA X es (tFr X.K E f))(hN:X.N.Nodup)(hi:X.N[i]?=aa x:=by rfl)(hx:Loc X.env.scope x:=by first|exact aR rfl|exact aS rfl)(hs:gk (.List es p) (aa (.Name x pos')) pos.line X.env=bc false:=by rfl)
  (hf:X.fn x=true\/X.env.scope.names.lookup x=aa .local:=by first|exact .inl rfl|exact .inr rfl|assumption):PS X (.Assign [.Name x pos'] (.List es p) pos) (tS X.K E λenv=>(f env).bind λnss=>(fit nss).bind λnss=>.ok (.nx (env.set i (.deep nss)))):=
 oV (gS hN hi hx (AM he) hs hf) λDe σ H ⟨g,env,os,r,m⟩=>⟨g,env,os,r,m.bind.mono λnss _ m1 as H1 s1 hn nd hl hc=>by
  obtain⟨hz,q⟩:=m1.bind.fit;refine⟨by rw[aB,hl];exact hz,λp hp=>?_⟩;have akJ:p∉as:=λz=>by
   obtain⟨k,hk,rfl⟩:=xF z;have:=hc k _ _ (bj hk) (bj (by rw[<-hl];exact hk));rw[hp]at this;cases this
  have sp:=bR hp (.lst (as.map V.ref));have hnew:∀b∈p::as,H b=none:=λb hb=>by
   rcases aX.mp hb with rfl|hb
   ·exact s1.free hp
   ·exact hn b hb
  have s2:=s1.trans sp;refine q _ _ ((p::as)++os) (r.akG s2 i hnew (fO.mpr ⟨akJ,nd⟩) hl aT λk b ns e1 e2=>sp _ _ (hc k b ns e1 e2)) ⟨λb hb=>?_,λb hb=>s2.free hb,λb o _ hb=>s2 b o hb⟩;rcases cu.mp hb with z|z
  ·exact .inr (hnew b z)
  ·exact .inl z⟩
end
def TH:Out->R (List (List Int))
 |.FJ nss=>.ok nss
 |_=>.bad
def spT(K:ak)(m:List D->R (List (List Int))):Sp:=λvs H Q E=>∃P ds,IsL K P H ds vs/\(match m ds with
 |.ok nss=>∀(a:ae)(as:List ae)(H':Hp),bK H H'->acO H H' a as nss->Q (.ref a) H'
 |_=>False)
def mT(n N:Nat)(b:DE->R Out)(ds:List D):R (List (List Int)):=if ds.length=n then((b (aN N ds)).bind TH).ne else .bad
abbrev OkT(P:aU)(w:aF)(K:ak)(mg:Str->Option ah)(base:aD)(k:Nat)(f:ae)(fd:aL)(ps:List Str)(m:List D->R (List (List Int))):Prop:=fM P w K mg base qv k f fd ps (spT K m)
section
variable{P:aU}{w:aF}{K:ak}{mg:Str->Option ah}{base:aD}
def okT{x:Str}{st:aC}{f:ae}{fd:aL}{N ps:List Str}{k:Nat}{b:DE->R Out}(S:bp N ps (az st))(d:Df K mg x st ps f fd)
  (hb:∀(cdv:ah)(A:bu)(outer:List Env)(s:aj)(H:Hp)(E:XK),cV k (A.deeper (fQ x (az st) s.heap.objs.size f cdv))->xj (vV qv P w K mg base N x (az st) f cdv A outer s H E).MP (dQ st) (tS K EN b)):
  OkT P w K mg base (k+1) f fd ps (mT ps.length N.length b):=by
 refine d.F.ok S (λvs H Q E h=>?_) (λcdv A outer s H vs Q E hr h=>?_)
 ·obtain⟨Pa,ds,i,h⟩:=h
  cases e:mT ps.length N.length b ds with
  |ok nss=>
   rw[i.length];unfold mT at e;split at e
   ·assumption
   ·cases e
  |err c=>rw[e]at h;exact h.elim
  |bad=>rw[e]at h;exact h.elim
 ·obtain⟨Pa,ds,i,h⟩:=h
  refine⟨_,hb cdv A outer s H E hr,⟨⟨Pa,H⟩,aN N.length ds,[],sZ i,?_⟩⟩;cases e:mT ps.length N.length b ds with
  |err c=>rw[e]at h;exact h.elim
  |bad=>rw[e]at h;exact h.elim
  |ok nss=>
   rw[e]at h;unfold mT at e;split at e
   ·have q:=R.dZ e
    cases eb:b (aN N.length ds)with
    |bad=>rw[eb]at q;cases q
    |err c=>rw[eb]at q;cases q
    |ok o=>
     rw[eb]at q;cases o with
     |FJ qw=>
      cases q;exact λa as H' s' nd=>h a as H' s' nd
     |CF _=>cases q
     |FN _=>cases q
     |Lz _=>cases q
     |uz _=>cases q
     |rt _=>cases q
     |nx _=>cases q
     |bk _=>cases q
     |ct _=>cases q
   ·cases e
end
section
variable{X:Cx}{E:Str->Hp->Prop}{pos:Pos}
def tDp(K:ak)(E:Str->Hp->Prop)(f:DE->R (List (List Int))):TE:=λσ H Q=>∃g env os,Rel K g env σ H os/\Good E g.H₀ (f env) λnss=>∀(a:ae)(as:List ae)(H':Hp),bK H H'->acO H H' a as nss->Q (.ref a) H'
def fT1{x:Str}{st:aC}{ps:List Str}{fa:ae}{fd:aL}{k:Nat}{p:Pos}{e:ao}{es:List ao}{f:DE->R (List D)}{m:List D->R (List (List Int))}(d:Df X.K X.mg x st ps fa fd)(F:OkT X.prog X.w X.K X.mg X.base k fa fd ps m)(hr:cV k X.A)
  (ha:PA X (e::es) (yf X.K E f))(hg:Gl X x:=by rfl)(hdb:(x==("__debug__":Str))=false:=by decide)(he:ar (e::es) X.env=(false,aA e X.env)::ar es X.env:=by rfl)(hpl:(bA pos (ar es X.env)).any (·.1)=false:=by rfl):
  PE X (.Call (.Name x p) (e::es) [] pos) (tDp X.K E λenv=>((f env).bind m).ne):=
 imp (g4 (E:=λ_ _ _=>False) F hr hg d.m d.F.kp d.b .nil pS ha hdb he hpl) λσ H Q ⟨g,env,os,r,q⟩=>⟨g,env,os,r,by
  dsimp only at q;cases ef:f env with
  |bad=>rw[ef]at q;exact q.elim
  |err c=>rw[ef]at q;exact q.elim
  |ok ds=>
   rw[ef]at q;cases em:m ds with
   |bad=>rw[show((R.ok ds).bind m)=m ds from rfl,em]at q;exact q.elim
   |err c=>rw[show((R.ok ds).bind m)=m ds from rfl,em]at q;exact q.elim
   |ok nss=>
    rw[show((R.ok ds).bind m)=m ds from rfl,em]at q;intro vs H1 s1 i1;show spT X.K m (vs++[]) H1 Q _;rw[bE];refine⟨_,ds,i1,?_⟩;rw[em];exact λa as H' s' nd=>q a as H' (s1.trans s') (nd.back s1)⟩
def kX(i:Nat)(env:DE):R (List (List Int)):=match env[i]? with
 |some (.deep (.ls nss))=>.ok nss
 |_=>.bad
theorem Good.deep {H₀:Hp}{i:Nat}{env:DE}{p:List (List Int)->Prop}(h:Good E H₀ (kX i env) p):∃nss:List (List Int),env[i]?=aa (.deep nss)/\p nss:=by
 unfold kX at h;split at h
 ·rename_i nss e
  exact⟨nss,e,h⟩
 ·exact h.elim
def abl(i:Nat){x:Str}{p:Pos}(hN:X.N[i]?=aa x:=by rfl)(hv:BI X.env.scope x:=by first|exact aR rfl|exact aS (aR rfl)|exact aS (aS rfl))(hd:(x==("__debug__":Str))=false:=by decide)
  (hcd:(x==("__classdict__":Str))=false:=by decide):PS X (.Return (aa (.Name x p)) pos) (tS X.K E λenv=>(kX i env).bind λnss=>.ok (.FJ nss)):=
 oV (nq (ju hN hv hd hcd)) λDe σ H ⟨g,env,os,r,m⟩=>by
  obtain⟨nss,e,q⟩:=m.bind.deep;obtain⟨A,dd⟩:=r.Jk;obtain⟨a,as,hA,h1,h3⟩:=dd.dp i nss e;exact⟨.ref a,h1,(show gy X.K g H os De (.FJ nss)from q) a as H r.ext ⟨λb hb=>(r.new b (h3.mem b hb).1).1,h3.nd,h3.len,h3.ha,λk b ns e1 e2=>(h3.it k b ns e1 e2).2⟩⟩
end
section
variable{X:Cx}{E:Str->Hp->Prop}{pos:Pos}
def Rel.HD {K:ak}{g:Gh}{env:DE}{σ:St}{H:Hp}{os:List ae}(r:Rel K g env σ H os){ix:Nat}{nss:List (List Int)}(e:env[ix]?=aa (.deep nss)):∃(a:ae)(as:List ae),σ[ix]?=aa (aa (.ref a))/\H a=aa (.lst (as.map V.ref))/\as.length=nss.length/\∀(k:Nat)(ns:List Int),nss[k]?=aa ns->∃b,as[k]?=aa b/\H b=aa (.lst (ns.map V.int)):=by
 obtain⟨A,dd⟩:=r.Jk;obtain⟨a,as,_,h1,h3⟩:=dd.dp ix nss e;refine⟨a,as,h1,h3.ha,h3.len,λk ns hk=>?_⟩;have hl:k<as.length:=by rw[h3.len];exact(bG.mp hk).1
 exact⟨as[k],bj hl,(h3.it k _ ns (bj hl) hk).2⟩
def zL(nss:List (List Int)):D->R (Nat×List Int)
 |.int i=>(match yW nss.length i with
  |some k=>(match nss[k]? with
   |some ns=>.ok (k,ns)
   |none=>.bad)
  |none=>.bad)
 |_=>.bad
theorem Good.zL {H₀:Hp}{nss:List (List Int)}{a:D}{p:Nat×List Int->Prop}(h:Good E H₀ (zL nss a) p):∃i k ns,a=.int i/\yW nss.length i=aa k/\nss[k]?=aa ns/\p (k,ns):=by
 unfold DL.zL at h;split at h
 ·rename_i i
  split at h
  ·rename_i k hk
   split at h
   ·rename_i ns hns
    exact⟨i,k,ns,rfl,hk,hns,h⟩
   ·exact h.elim
  ·exact h.elim
 ·exact h.elim
def TJ{α:Type}{xs:List α}{i:Int}{k:Nat}{x:α}(h:yW xs.length i=aa k)(hx:xs[k]?=aa x):jJ xs i=aa x:=by
 unfold L2.jJ;rw[h];exact hx
end
section
variable{K:ak}{g:Gh}{env:DE}{σ:St}{H H1:Hp}{os:List ae}
def Rel.ag6 (r:Rel K g env σ H os)(s:bK H H1){i:Nat}{nss:List (List Int)}(e:env[i]?=aa (.deep nss)){a b:ae}{as:List ae}{ns:List Int}(hσ:σ[i]?=aa (aa (.ref a)))(ha:H a=aa (.lst (as.map V.ref)))(hn:H b=none)(hb:H1 b=aa (.lst (ns.map V.int))):
  a∈os/\Rel K g (env.set i (.deep (nss++[ns]))) σ (upd H1 a (.lst (as.map V.ref++[.ref b]))) (b::os):=by
 obtain⟨A,dd⟩:=r.Jk;obtain⟨a0,yz,hA,h1,h3⟩:=dd.dp i nss e;rw[hσ]at h1;cases h1;have has:yz=as:=by
  have z:=h3.ha;rw[ha]at z;have z2:as.map V.ref=yz.map V.ref:=by injection z with z;injection z
  exact(lF z2).symm
 subst has;have rh:a∈os:=h3.ma;have hnew:b∉os:=λhm=>by
  obtain⟨o,ho⟩:=(r.new b hm).2;rw[hn]at ho;cases ho
 have hab:b≠a:=λz=>hnew (by rw[z];exact rh);refine⟨rh,?_⟩;have ex:Ext (g.P os) (g.P (b::os)) H (upd H1 a (.lst (yz.map V.ref++[.ref b]))):=⟨λc o p q=>⟨p.1,λhm=>by
  rcases aX.mp hm with z|z
  ·rw[z,hn]at q;cases q
  ·exact p.2 z⟩,λc o p q=>by rw[aH (λz=>p.2 (by rw[z];exact rh))];exact s c o q⟩
 have f:∀(j:Nat)(sl:Sl),(env.set i (Sl.deep (nss++[ns])))[j]?=aa sl->sl≠.deep (nss++[ns])->i≠j/\env[j]?=aa sl:=λj sl q hn=>lE q hn;have keep:∀c∈os,c≠a->∀o,H c=aa o->(upd H1 a (.lst (yz.map V.ref++[.ref b]))) c=aa o:=λc _ hc o ho=>by rw[aH hc];exact s c o ho
 refine⟨by simp[r.len],λc o q=>?_,λj d q=>?_,λj xs q=>?_,λj k xs ys c q1 q2 q3 q4=>?_,λc hc=>?_,λj v q=>?_,?_⟩
 ·rw[aH (λz=>by rw[z,(r.new a rh).1]at q;cases q)]
  exact s _ _ (r.ext c o q)
 ·obtain⟨hj,q⟩:=f j _ q (λz=>nomatch z)
  obtain⟨v,h1,h2⟩:=r.val j d q;exact⟨v,h1,Is.ext ex _ _ h2⟩
 ·obtain⟨hj,q⟩:=f j _ q (λz=>nomatch z)
  obtain⟨c,vs,h1,h2,h3',h4⟩:=r.own j xs q;have hca:c≠a:=λz=>dd.ow i nss j xs c e q h1 (by rw[z,hA];exact iG);exact⟨c,vs,h1,bz _ h2,keep c h2 hca _ h3',IsL.ext ex _ _ h4⟩
 ·obtain⟨hj,q1⟩:=f j _ q1 (λz=>nomatch z)
  obtain⟨hk,q2⟩:=f k _ q2 (λz=>nomatch z);exact r.inj j k xs ys c q1 q2 q3 q4
 ·rcases aX.mp hc with z|z
  ·rw[z]
   exact⟨r.ext.free hn,_,by rw[aH hab];exact hb⟩
  ·obtain⟨z1,o,z2⟩:=r.new c z
   refine⟨z1,?_⟩
   by_cases w:c=a
   ·exact⟨_,by rw[w];exact aT⟩
   ·exact⟨o,keep c z w o z2⟩
 ·obtain⟨hj,q⟩:=f j _ q (λz=>nomatch z)
  exact r.raw j v q
 ·have sub:∀(j':Nat)(y:ae),(y∈if j'=i then a::(yz++[b])else A j')->y∈A j'\/(j'=i/\y=b):=λj' y hy=>by
   by_cases hj:j'=i
   ·rw[if_pos hj]at hy
    rw[hj,hA];rcases aX.mp hy with w|w
    ·rw[w];exact .inl iG
    ·rcases cu.mp w with w|w
     ·exact .inl (bz _ w)
     ·exact .inr ⟨rfl,by simpa using w⟩
   ·rw[if_neg hj]at hy
    exact .inl hy
  have p1:∀(j:Nat)(ms:Ct),(env.set i (Sl.deep (nss++[ns])))[j]?=aa (.deep ms)->∃ms',env[j]?=aa (.deep ms'):=λj ms q=>by
   by_cases hj:i=j
   ·subst hj;exact⟨nss,e⟩
   ·rw[aO hj]at q;exact⟨ms,q⟩
  refine⟨λj=>if j=i then a::(yz++[b])else A j,λj qw q=>?_,λj qw m xs c q1 q2 q3 hx=>?_,λj m qw TF hjm q1 q2 x hx hx2=>?_⟩
  ·by_cases hj:j=i
   ·have q':=q
    rw[hj]at q';have z:=bW q';cases z;refine⟨a,yz++[b],if_pos hj,by rw[hj];exact hσ,bz _ h3.ma,by rw[cj];exact aT,by rw[bO,bO,h3.len];rfl,?_,λm c ms e1 e2=>?_⟩
    ·have akK:b∉yz:=λz=>hnew (h3.mem b (bz _ z)).1
     have nd:=fO.mp h3.nd;refine fO.mpr ⟨λz=>?_,?_⟩
     ·rcases cu.mp z with w|w
      ·exact nd.1 w
      ·have:a=b:=by simpa using w
       exact hab this.symm
     ·rw[Ol]
      refine⟨nd.2,by simp,λx hx y hy=>?_⟩;have hy':y=b:=by simpa using hy
      rw[hy'];exact λz=>akK (by rw[<-z];exact hx)
    ·by_cases hm:m<yz.length
     ·rw[fu hm]at e1
      rw[fu (by rw[<-h3.len];exact hm)]at e2;obtain⟨w1,w2⟩:=h3.it m c ms e1 e2;have hca:c≠a:=λz=>(fO.mp h3.nd).1 (by rw[<-z];exact dJ e1);exact⟨bz _ w1,keep c w1 hca _ w2⟩
     ·have hk2:m=yz.length:=by
       have:=(bG.mp e1).1;rw[bO]at this;simp at this;lia
      subst hk2;have z1':b=c:=by simpa using e1
      rw[h3.len]at e2;have z2':ns=ms:=by simpa using e2
      subst z1' z2';exact⟨iG,by rw[aH hab];exact hb⟩
   ·rw[aO (Ne.symm hj)]at q
    obtain⟨c,cs,z1,z2,z3⟩:=dd.dp j qw q;refine⟨c,cs,by rw[if_neg hj];exact z1,z2,z3.to λx hx=>?_⟩;have hxa:x≠a:=λz=>dd.dj i j nss qw (Ne.symm hj) e q a (by rw[hA];exact iG) (by rw[z1,<-z];exact hx);obtain⟨w1,o,w2⟩:=z3.mem x hx;exact⟨bz _ w1,by rw[keep x w1 hxa o w2,w2]⟩
  ·have q2':=(f m _ q2 (λz=>nomatch z)).2
   obtain⟨ms',p⟩:=p1 j qw q1;rcases sub j c hx with w|⟨_,w⟩
   ·exact dd.ow j ms' m xs c p q2' q3 w
   ·obtain⟨c',vs,w1,w2,_⟩:=r.own m xs q2'
    rw[q3]at w1;cases w1;exact hnew (by rw[<-w];exact w2)
  ·obtain⟨m1,w1⟩:=p1 j qw q1
   obtain⟨m2,w2⟩:=p1 m TF q2;rcases sub j x hx with u|⟨u1,u⟩<;>rcases sub m x hx2 with v|⟨v1,v⟩
   ·exact dd.dj j m m1 m2 hjm w1 w2 x u v
   ·exact hnew (by rw[<-v];exact(dd.mem w1 x u).1)
   ·exact hnew (by rw[<-u];exact(dd.mem w2 x v).1)
   ·exact hjm (by rw[u1,v1])
end
section
variable{X:Cx}{E:Str->Hp->Prop}{pos:Pos}
def LO(ix:Nat)(env:DE)(nss:List (List Int))(kn:Nat×List Int):D->R Out
 |.int v=> @ite _ (kn.2.length<aI) (dR _) (.ok (.nx (env.set ix (.deep (nss.set kn.1 (kn.2++[v])))))) .bad
 |_=>.bad
theorem Good.LO {H₀:Hp}{ix:Nat}{env:DE}{nss:List (List Int)}{kn:Nat×List Int}{d:D}{p:Out->Prop}(h:Good E H₀ (LO ix env nss kn d) p):∃v,d=.int v/\kn.2.length<aI/\p (.nx (env.set ix (.deep (nss.set kn.1 (kn.2++[v]))))):=by
 unfold DL.LO at h;split at h
 ·split at h
  ·rename_i c
   exact⟨_,rfl,c,h⟩
  ·exact h.elim
 ·exact h.elim
def adC(ix:Nat){x:Str}{ei e:ao}{fi f:DE->R D}{p TN apos cL:Pos}(hi:PE X ei (tB X.K E fi))(he:PE X e (tB X.K E f))(hN:X.N[ix]?=aa x:=by rfl)(hv:BI X.env.scope x:=by first|exact aR rfl|exact aS (aR rfl)|exact aS (aS rfl))(hd:(x==("__debug__":Str))=false:=by decide)
  (hcd:(x==("__classdict__":Str))=false:=by decide)(hpi:uq ei:=by exact λ_ _=>rfl)
  (hbase:iK (.Subscript (.Name x p) ei TN) "append" X.env (aA (.Subscript (.Name x p) ei TN) X.env)=aA (.Subscript (.Name x p) ei TN) X.env:=by rfl)
  (hfew:((bA cL (ar [e] X.env)).all (λx=> !x.1)&&(lW cL (lY [] X.env)).all (λx=>x.1.isSome)
   &&decide ([e].length+([]:List fU).length+(if([]:List fU).isEmpty then 0 else 1)<30))=true:=by rfl)
  (hline:(apos.endLine==cL.line)=true:=by rfl)(hst:ar [e] X.env=(false,aA e X.env)::ar [] X.env:=by rfl)(hplain:(bA cL (ar [] X.env)).any (·.1)=false:=by rfl)
  (hs:gk (.Call (.Attribute (.Subscript (.Name x p) ei TN) "append" apos) [e] [] cL) none pos.line X.env=bc false:=by rfl):
  PS X (.Expr (.Call (.Attribute (.Subscript (.Name x p) ei TN) "append" apos) [e] [] cL) pos) (tS X.K E λenv=>(kX ix env).bind λnss=>(fi env).bind λa=>(zL nss a).bind λkn=>(f env).bind λd=>LO ix env nss kn d):=
 oV (jM (yt kB uB uC i7 (j7 iN (ju hN hv hd hcd) hi hpi) (bh he bV hst) hbase hfew hline hst hplain) hs) λDe σ H ⟨g,env,os,r,m⟩=>by
  obtain⟨nss,e1,m2⟩:=m.bind.deep;obtain⟨a,as,q1,q2,q3,q4⟩:=r.HD e1;refine⟨.ref a,q1,g,env,os,r,m2.bind.mono λda _ m3 w H2 s2 i2=>?_⟩;obtain⟨i,k,ns,rfl,hk,hns,m4⟩:=m3.bind.zL;obtain⟨b,hb1,hb2⟩:=q4 k ns hns;refine⟨a,as.map V.ref,i,.ref b,rfl,i2,gb.of (s2 _ _ q2),TJ (by rw[aB,q3];exact hk) (by rw[b8,hb1];rfl),.inl ⟨rfl,_,gb.of (s2 _ _ hb2)⟩,g,env,os,r.same s2,m4.bind.mono λd _ m5 v H3 s3 i3=>?_⟩;obtain⟨u,rfl,hl,m6⟩:=m5.LO;have iu:v=.int u:=i3;subst iu;have r3:=r.same (s2.trans s3);have hb3:=s3 _ _ (s2 _ _ hb2);obtain⟨rh,r4⟩:=r3.akH (ns:=ns) e1 q1 (s3 _ _ (s2 _ _ q2)) hb1 (bG.mp hns).1 (ns++[u]);refine⟨b,ns.map V.int,.int u,rfl,rfl,hb3,by rw[aB];exact hl,?_⟩;rw[cj]at r4;exact(show gy X.K g H os De (.nx _)from m6) σ _ os r4 ((yu.same (s2.trans s3) os).trans (.mut rh))
def TQ(ix:Nat)(env:DE)(nss:List (List Int))(ns:List Int):R Out:= @ite _ (nss.length<aI) (dR _) (.ok (.nx (env.set ix (.deep (nss++[ns]))))) .bad
def abm(ix:Nat){x:Str}{e:ao}{f:DE->R (List D)}{p apos cL:Pos}(he:PE X e (tF X.K E f))(hN:X.N[ix]?=aa x:=by rfl)(hv:BI X.env.scope x:=by first|exact aR rfl|exact aS (aR rfl)|exact aS (aS rfl))(hd:(x==("__debug__":Str))=false:=by decide)
  (hcd:(x==("__classdict__":Str))=false:=by decide)
  (hbase:iK (.Name x p) "append" X.env (aA (.Name x p) X.env)=aA (.Name x p) X.env:=by rfl)
  (hfew:((bA cL (ar [e] X.env)).all (λx=> !x.1)&&(lW cL (lY [] X.env)).all (λx=>x.1.isSome)
   &&decide ([e].length+([]:List fU).length+(if([]:List fU).isEmpty then 0 else 1)<30))=true:=by rfl)
  (hline:(apos.endLine==cL.line)=true:=by rfl)(hst:ar [e] X.env=(false,aA e X.env)::ar [] X.env:=by rfl)(hplain:(bA cL (ar [] X.env)).any (·.1)=false:=by rfl)
  (hs:gk (.Call (.Attribute (.Name x p) "append" apos) [e] [] cL) none pos.line X.env=bc false:=by rfl):
  PS X (.Expr (.Call (.Attribute (.Name x p) "append" apos) [e] [] cL) pos) (tS X.K E λenv=>(kX ix env).bind λnss=>(f env).bind λxs=>(R.of (CO xs)).bind λns=>TQ ix env nss ns):=
 oV (jM (yt kB uB uC i7 (ju hN hv hd hcd) (bh he bV hst) hbase hfew hline hst hplain) hs) λDe σ H ⟨g,env,os,r,m⟩=>by
  obtain⟨nss,e1,m2⟩:=m.bind.deep;obtain⟨a,as,q1,q2,q3,q4⟩:=r.HD e1;refine⟨.ref a,q1,.inl ⟨rfl,_,gb.of q2⟩,g,env,os,r,m2.bind.mono λxs _ m3 b vs H1 s1 hn hH i1=>?_⟩;obtain⟨ns,e2,m4⟩:=m3.bind.of;have e3:=yN e2;subst e3;have e4:=iQ i1;subst e4;unfold TQ at m4;split at m4
  ·rename_i c
   obtain⟨hos,r2⟩:=r.ag6 s1 e1 q1 q2 hn hH;refine⟨a,as.map V.ref,.ref b,rfl,rfl,s1 _ _ q2,by rw[aB,q3];exact c,?_⟩;refine(show gy X.K g H os De (.nx _)from m4) σ _ (b::os) r2 ⟨λy hy=>?_,λy hy=>?_,λy o hy ho=>?_⟩
   ·rcases aX.mp hy with z|z
    ·rw[z];exact .inr hn
    ·exact .inl z
   ·by_cases z:y=a
    ·rw[z,aT]at hy;cases hy
    ·rw[aH z]at hy;exact s1.free hy
   ·rw[aH (λz=>hy (by rw[z];exact hos))];exact s1 _ _ ho
  ·exact m4.elim
end
section
variable{X:Cx}{E:Str->Hp->Prop}{pos:Pos}{k:Nat}{fa:ae}{fd:aL}{st:aC}{ps:List Str}{x:Str}{p:Pos}{e:ao}{es:List ao}{f:DE->R (List D)}
abbrev akL:=List (Str×(List D->R (List D)))
def FnR(X:Cx)(n:Str)(m:List D->R (List D)):Prop:=∃st ps fa fd k,Df X.K X.mg n st ps fa fd/\fM X.prog X.w X.K X.mg X.base qv k fa fd ps (Wb X.K RO m)/\cV k X.A
def FnT(X:Cx)(tab:akL):Prop:=∀n m,tab.lookup n=aa m->FnR X n m
end
section
variable{K:ak}{g:Gh}{env:DE}{σ:St}{H H':Hp}{os:List ae}
def Rel.setC (r:Rel K g env σ H os)(s:bK H H')(i:Nat){c:Ct}{a:ae}{as:List ae}(hn:∀b∈a::as,H b=none)(dp:Dp K H' ((a::as)++os) a as c):
  Rel K g (env.set i (.deep c)) (σ.set i (aa (.ref a))) H' ((a::as)++os):=by
 have ap:=r.Tz s hn;have f:∀(j:Nat)(sl:Sl),(env.set i (Sl.deep c))[j]?=aa sl->sl≠.deep c->i≠j/\env[j]?=aa sl:=λj sl q hn=>lE q hn;have hnew:∀x∈a::as,x∉os:=λx hx hm=>by
  obtain⟨o,ho⟩:=(r.new x hm).2;rw[hn x hx]at ho;cases ho
 refine⟨by simp[r.len],r.ext.trans s,λj d q=>?_,λj xs q=>?_,λj k xs ys b q1 q2 q3 q4=>?_,λb hb=>?_,λj v q=>?_,?_⟩
 ·obtain⟨hj,q⟩:=f j _ q (λz=>nomatch z)
  obtain⟨v,h1,h2⟩:=r.val j d q;exact⟨v,by rw[aO hj];exact h1,Is.ext ap _ _ h2⟩
 ·obtain⟨hj,q⟩:=f j _ q (λz=>nomatch z)
  obtain⟨b,vs,h1,h2,h3,h4⟩:=r.own j xs q;exact⟨b,vs,by rw[aO hj];exact h1,fK _ h2,s _ _ h3,IsL.ext ap _ _ h4⟩
 ·obtain⟨hj,q1⟩:=f j _ q1 (λz=>nomatch z)
  obtain⟨hk,q2⟩:=f k _ q2 (λz=>nomatch z);rw[aO hj]at q3;rw[aO hk]at q4;exact r.inj j k xs ys b q1 q2 q3 q4
 ·rcases cu.mp hb with z|z
  ·exact⟨r.ext.free (hn b z),(dp.mem b z).2⟩
  ·obtain⟨h1,o,h2⟩:=r.new b z
   exact⟨h1,o,s _ _ h2⟩
 ·obtain⟨hj,q⟩:=f j _ q (λz=>nomatch z)
  rw[aO hj];exact r.raw j v q
 ·obtain⟨A,dd⟩:=r.Jk
  refine⟨λj=>if j=i then a::as else A j,λj qw q=>?_,λj qw k xs b q1 q2 q3=>?_,λj k qw TF hjk q1 q2 x hx=>?_⟩
  ·by_cases hj:j=i
   ·subst hj
    have z:=bW q;cases z;exact⟨a,as,if_pos rfl,by rw[iH (by rw[r.len];exact AV q)],dp⟩
   ·have q':=q
    rw[aO (Ne.symm hj)]at q';obtain⟨b,bs,h1,h2,h3⟩:=dd.dp j qw q';refine⟨b,bs,by rw[if_neg hj];exact h1,by rw[aO (Ne.symm hj)];exact h2,h3.to λx hx=>?_⟩;obtain⟨z1,o,z2⟩:=h3.mem x hx;exact⟨fK _ z1,by rw[s x o z2,z2]⟩
  ·obtain⟨hk,q2⟩:=f k _ q2 (λz=>nomatch z)
   rw[aO hk]at q3;show b∉if j=i then a::as else A j
   by_cases hj:j=i
   ·rw[if_pos hj]
    obtain⟨c,vs,h1,h2,_⟩:=r.own k xs q2;rw[q3]at h1;cases h1;exact λz=>hnew b z h2
   ·rw[if_neg hj]
    rw[aO (Ne.symm hj)]at q1;exact dd.ow j qw k xs b q1 q2 q3
  ·show x∉if k=i then a::as else A k
   have yV:x∈if j=i then a::as else A j:=hx
   by_cases hj:j=i
   ·have hk:k≠i:=λz=>hjk (by rw[hj,z])
    rw[if_pos hj]at yV;rw[if_neg hk];rw[aO (Ne.symm hk)]at q2;exact λz=>hnew x yV (dd.mem q2 x z).1
   ·rw[if_neg hj]at yV
    rw[aO (Ne.symm hj)]at q1
    by_cases hk:k=i
    ·rw[if_pos hk]
     exact λz=>hnew x z (dd.mem q1 x yV).1
    ·rw[if_neg hk]
     rw[aO (Ne.symm hk)]at q2;exact dd.dj j k qw TF hjk q1 q2 x yV
end
def FW:D->R Int
 |.int i=>.ok i
 |_=>.bad
section
variable{X:Cx}{E:Str->Hp->Prop}{pos:Pos}
theorem Good.int {H₀:Hp}{d:D}{p:Int->Prop}(h:Good E H₀ (FW d) p):∃i:Int,d=.int i/\p i:=by
 unfold FW at h;split at h
 ·rename_i i
  exact⟨i,rfl,h⟩
 ·exact h.elim
end
def akM:Out->R (List (List Int))
 |.FN nss=>.ok nss
 |_=>.bad
def spP(K:ak)(m:List D->R (List (List Int))):Sp:=λvs H Q E=>∃P ds,IsL K P H ds vs/\(match m ds with
 |.ok nss=>∀(a:ae)(as:List ae)(H':Hp),bK H H'->acP H H' a as nss->Q (.ref a) H'
 |_=>False)
def mP(n N:Nat)(b:DE->R Out)(ds:List D):R (List (List Int)):=if ds.length=n then((b (aN N ds)).bind akM).ne else .bad
abbrev OkP(P:aU)(w:aF)(K:ak)(mg:Str->Option ah)(base:aD)(k:Nat)(f:ae)(fd:aL)(ps:List Str)(m:List D->R (List (List Int))):Prop:=fM P w K mg base qv k f fd ps (spP K m)
section
variable{P:aU}{w:aF}{K:ak}{mg:Str->Option ah}{base:aD}
def okP{x:Str}{st:aC}{f:ae}{fd:aL}{N ps:List Str}{k:Nat}{b:DE->R Out}(S:bp N ps (az st))(d:Df K mg x st ps f fd)
  (hb:∀(cdv:ah)(A:bu)(outer:List Env)(s:aj)(H:Hp)(E:XK),cV k (A.deeper (fQ x (az st) s.heap.objs.size f cdv))->xj (vV qv P w K mg base N x (az st) f cdv A outer s H E).MP (dQ st) (tS K EN b)):
  OkP P w K mg base (k+1) f fd ps (mP ps.length N.length b):=by
 refine d.F.ok S (λvs H Q E h=>?_) (λcdv A outer s H vs Q E hr h=>?_)
 ·obtain⟨Pa,ds,i,h⟩:=h
  cases e:mP ps.length N.length b ds with
  |ok nss=>
   rw[i.length];unfold mP at e;split at e
   ·assumption
   ·cases e
  |err c=>rw[e]at h;exact h.elim
  |bad=>rw[e]at h;exact h.elim
 ·obtain⟨Pa,ds,i,h⟩:=h
  refine⟨_,hb cdv A outer s H E hr,⟨⟨Pa,H⟩,aN N.length ds,[],sZ i,?_⟩⟩;cases e:mP ps.length N.length b ds with
  |err c=>rw[e]at h;exact h.elim
  |bad=>rw[e]at h;exact h.elim
  |ok nss=>
   rw[e]at h;unfold mP at e;split at e
   ·have q:=R.dZ e
    cases eb:b (aN N.length ds)with
    |bad=>rw[eb]at q;cases q
    |err c=>rw[eb]at q;cases q
    |ok o=>
     rw[eb]at q;cases o with
     |CF _=>cases q
     |FN qw=>
      cases q;exact λa as H' s' nd=>h a as H' s' nd
     |FJ _=>cases q
     |Lz _=>cases q
     |uz _=>cases q
     |rt _=>cases q
     |nx _=>cases q
     |bk _=>cases q
     |ct _=>cases q
   ·cases e
end
section
variable{X:Cx}{E:Str->Hp->Prop}{pos:Pos}
def tPp(K:ak)(E:Str->Hp->Prop)(f:DE->R (List (List Int))):TE:=λσ H Q=>∃g env os,Rel K g env σ H os/\Good E g.H₀ (f env) λnss=>∀(a:ae)(as:List ae)(H':Hp),bK H H'->acP H H' a as nss->Q (.ref a) H'
def fP1{x:Str}{st:aC}{ps:List Str}{fa:ae}{fd:aL}{k:Nat}{p:Pos}{e:ao}{es:List ao}{f:DE->R (List D)}{m:List D->R (List (List Int))}(d:Df X.K X.mg x st ps fa fd)(F:OkP X.prog X.w X.K X.mg X.base k fa fd ps m)(hr:cV k X.A)
  (ha:PA X (e::es) (yf X.K E f))(hg:Gl X x:=by rfl)(hdb:(x==("__debug__":Str))=false:=by decide)(he:ar (e::es) X.env=(false,aA e X.env)::ar es X.env:=by rfl)(hpl:(bA pos (ar es X.env)).any (·.1)=false:=by rfl):
  PE X (.Call (.Name x p) (e::es) [] pos) (tPp X.K E λenv=>((f env).bind m).ne):=
 imp (g4 (E:=λ_ _ _=>False) F hr hg d.m d.F.kp d.b .nil pS ha hdb he hpl) λσ H Q ⟨g,env,os,r,q⟩=>⟨g,env,os,r,by
  dsimp only at q;cases ef:f env with
  |bad=>rw[ef]at q;exact q.elim
  |err c=>rw[ef]at q;exact q.elim
  |ok ds=>
   rw[ef]at q;cases em:m ds with
   |bad=>rw[show((R.ok ds).bind m)=m ds from rfl,em]at q;exact q.elim
   |err c=>rw[show((R.ok ds).bind m)=m ds from rfl,em]at q;exact q.elim
   |ok nss=>
    rw[show((R.ok ds).bind m)=m ds from rfl,em]at q;intro vs H1 s1 i1;show spP X.K m (vs++[]) H1 Q _;rw[bE];refine⟨_,ds,i1,?_⟩;rw[em];exact λa as H' s' nd=>q a as H' (s1.trans s') (nd.back s1)⟩
def abn(i:Nat){x:Str}{e:ao}{f:DE->R (List (List Int))}{pos':Pos}(he:PE X e (tPp X.K E f))(hN:X.N.Nodup)(hi:X.N[i]?=aa x:=by rfl)(hx:Loc X.env.scope x:=by first|exact aR rfl|exact aS rfl)(hs:gk e (aa (.Name x pos')) pos.line X.env=bc false:=by rfl)
  (hf:X.fn x=true\/X.env.scope.names.lookup x=aa .local:=by first|exact .inl rfl|exact .inr rfl|assumption):PS X (.Assign [.Name x pos'] e pos) (tS X.K E λenv=>(f env).bind λnss=>.ok (.nx (env.set i (.deep (.tp nss))))):=
 oV (gS hN hi hx he hs hf) λDe σ H ⟨g,env,os,r,m⟩=>⟨g,env,os,r,m.bind.mono λnss _ q a as H' s nd=>by
  refine q _ H' ((a::as)++os) (r.setC s i (c:=.tp nss) nd.fr ⟨by simp,nd.ha,nd.len,nd.nd,λk b ns e1 e2=>⟨jK _ (bz _ (dJ e1)),nd.it k b ns e1 e2⟩⟩) ⟨λb hb=>?_,λb hb=>s.free hb,λb o _ hb=>s b o hb⟩;rcases cu.mp hb with z|z
  ·exact .inr (nd.fr b z)
  ·exact .inl z⟩
end
section
variable{K:ak}{g:Gh}{env:DE}{σ:St}{H H':Hp}{os:List ae}
def Rel.akN (r:Rel K g env σ H os){i:Nat}{nss:List (List Int)}(e:env[i]?=aa (.deep (.tp nss))){a:ae}{as:List ae}(hσ:σ[i]?=aa (aa (.ref a)))(ha:H a=aa (.tup (as.map V.ref))){k:Nat}{b:ae}{ns:List Int}(hk:as[k]?=aa b)(hns:k<nss.length)(RQ:List Int):
  b∈os/\Rel K g (env.set i (.deep (.tp (nss.set k RQ)))) σ (upd H b (.lst (RQ.map V.int))) os:=by
 obtain⟨A,dd⟩:=r.Jk;obtain⟨a0,yz,hA,h1,h3⟩:=dd.dp i _ e;rw[hσ]at h1;cases h1;replace h3:BO HO.tup H os a yz nss:=h3;have has:yz=as:=by
  have z:=h3.ha;rw[ha]at z;have z2:as.map V.ref=yz.map V.ref:=by injection z with z;injection z
  exact(lF z2).symm
 subst has;have rh:b∈os:=(h3.it k b nss[k] hk (bj hns)).1;have RT:b∈A i:=by rw[hA];exact bz _ (dJ hk)
 refine⟨rh,?_⟩;have ex:Ext (g.P os) (g.P os) H (upd H b (.lst (RQ.map V.int))):=⟨λ_ _ p _=>p,λc o p q=>by rw[aH (λz=>p.2 (by rw[z];exact rh))];exact q⟩
 have f:∀(j:Nat)(sl:Sl),(env.set i (Sl.deep (.tp (nss.set k RQ))))[j]?=aa sl->sl≠.deep (.tp (nss.set k RQ))->i≠j/\env[j]?=aa sl:=λj sl q hn=>lE q hn;have hba:b≠a:=λz=>(fO.mp h3.nd).1 (by rw[<-z];exact dJ hk);refine⟨by simp[r.len],λc o q=>?_,λj d q=>?_,λj xs q=>?_,λj k xs ys c q1 q2 q3 q4=>?_,λc hc=>?_,λj v q=>?_,?_⟩
 ·rw[aH (λz=>by rw[z,(r.new b rh).1]at q;cases q)]
  exact r.ext c o q
 ·obtain⟨hj,q⟩:=f j _ q (λz=>nomatch z)
  obtain⟨v,h1,h2⟩:=r.val j d q;exact⟨v,h1,Is.ext ex _ _ h2⟩
 ·obtain⟨hj,q⟩:=f j _ q (λz=>nomatch z)
  obtain⟨c,vs,h1,h2,h3',h4⟩:=r.own j xs q;have hcb:c≠b:=λz=>dd.ow i _ j xs c e q h1 (by rw[z];exact RT);exact⟨c,vs,h1,h2,by rw[aH hcb];exact h3',IsL.ext ex _ _ h4⟩
 ·obtain⟨hj,q1⟩:=f j _ q1 (λz=>nomatch z)
  obtain⟨hk,q2⟩:=f k _ q2 (λz=>nomatch z);exact r.inj j k xs ys c q1 q2 q3 q4
 ·obtain⟨z1,o,z2⟩:=r.new c hc
  refine⟨z1,?_⟩
  by_cases z:c=b
  ·exact⟨_,by rw[z];exact aT⟩
  ·exact⟨o,by rw[aH z];exact z2⟩
 ·obtain⟨hj,q⟩:=f j _ q (λz=>nomatch z)
  exact r.raw j v q
 ·have h3k:∀(m:Nat),yz[m]?=aa b->m=k:=λm hm=>by
   have adz:=(fO.mp h3.nd).2;have hm1:=(bG.mp hm).1;have hk1:=(bG.mp hk).1;exact(MM adz).mp (by rw[(bG.mp hm).2,(bG.mp hk).2])
  refine⟨A,λj qw q=>?_,λj qw m xs c q1 q2 q3=>?_,λj m qw TF hjm q1 q2 x hx=>?_⟩
  ·by_cases hj:i=j
   ·subst hj
    have z:=bW q;cases z;refine⟨a,yz,hA,hσ,h3.ma,by rw[aH (Ne.symm hba)];exact h3.ha,by rw[jP];exact h3.len,h3.nd,λm c ms e1 e2=>?_⟩
    by_cases hm:c=b
    ·subst hm
     have hmk:=h3k m e1;subst hmk;rw[iH hns]at e2;cases e2;exact⟨rh,aT⟩
    ·have hmk:k≠m:=λz=>hm (by rw[z]at hk;rw[hk]at e1;cases e1;rfl)
     rw[aO hmk]at e2;rw[aH hm];exact h3.it m c ms e1 e2
   ·rw[aO hj]at q
    obtain⟨c,cs,z1,z2,z3⟩:=dd.dp j qw q;refine⟨c,cs,z1,z2,z3.to λx hx=>?_⟩;have hxb:x≠b:=λz=>dd.dj i j _ qw hj e q b RT (by rw[z1,<-z];exact hx);exact⟨(z3.mem x hx).1,aH hxb⟩
  ·obtain⟨_,q2⟩:=f m _ q2 (λz=>nomatch z)
   by_cases hj:i=j
   ·subst hj
    exact dd.ow i _ m xs c e q2 q3
   ·rw[aO hj]at q1
    exact dd.ow j qw m xs c q1 q2 q3
  ·have p1:∃ms,env[j]?=aa (.deep ms):=by
    by_cases hj:i=j
    ·subst hj;exact⟨_,e⟩
    ·rw[aO hj]at q1;exact⟨qw,q1⟩
   have p2:∃ms,env[m]?=aa (.deep ms):=by
    by_cases hj:i=m
    ·subst hj;exact⟨_,e⟩
    ·rw[aO hj]at q2;exact⟨TF,q2⟩
   obtain⟨m1,p1⟩:=p1;obtain⟨m2,p2⟩:=p2;exact dd.dj j m m1 m2 hjm p1 p2 x hx
def Rel.TR (r:Rel K g env σ H os){ix:Nat}{nss:List (List Int)}(e:env[ix]?=aa (.deep (.tp nss))):∃(a:ae)(as:List ae),σ[ix]?=aa (aa (.ref a))/\H a=aa (.tup (as.map V.ref))/\as.length=nss.length/\∀(k:Nat)(ns:List Int),nss[k]?=aa ns->∃b,as[k]?=aa b/\H b=aa (.lst (ns.map V.int)):=by
 obtain⟨A,dd⟩:=r.Jk;obtain⟨a,as,_,h1,h3⟩:=dd.dp ix _ e;replace h3:BO HO.tup H os a as nss:=h3;refine⟨a,as,h1,h3.ha,h3.len,λk ns hk=>?_⟩;have hl:k<as.length:=by rw[h3.len];exact(bG.mp hk).1
 exact⟨as[k],bj hl,(h3.it k _ ns (bj hl) hk).2⟩
end
def zM(i:Nat)(env:DE):R (List (List Int)):=match env[i]? with
 |some (.deep (.tp nss))=>.ok nss
 |_=>.bad
section
variable{X:Cx}{E:Str->Hp->Prop}{pos:Pos}
def Good.ag9 {H₀:Hp}{i:Nat}{env:DE}{p:List (List Int)->Prop}(h:Good E H₀ (zM i env) p):∃nss:List (List Int),env[i]?=aa (.deep (.tp nss))/\p nss:=by
 unfold zM at h;split at h
 ·rename_i nss e
  exact⟨nss,e,h⟩
 ·exact h.elim
def JG(ix:Nat)(env:DE)(nss:List (List Int))(kn:Nat×List Int):D->R Out
 |.int v=> @ite _ (kn.2.length<aI) (dR _) (.ok (.nx (env.set ix (.deep (.tp (nss.set kn.1 (kn.2++[v]))))))) .bad
 |_=>.bad
theorem Good.JG {H₀:Hp}{ix:Nat}{env:DE}{nss:List (List Int)}{kn:Nat×List Int}{d:D}{p:Out->Prop}(h:Good E H₀ (JG ix env nss kn d) p):∃v,d=.int v/\kn.2.length<aI/\p (.nx (env.set ix (.deep (.tp (nss.set kn.1 (kn.2++[v])))))):=by
 unfold DL.JG at h;split at h
 ·split at h
  ·rename_i c
   exact⟨_,rfl,c,h⟩
  ·exact h.elim
 ·exact h.elim
def abo(ix:Nat){x:Str}{ei e:ao}{fi f:DE->R D}{p TN apos cL:Pos}(hi:PE X ei (tB X.K E fi))(he:PE X e (tB X.K E f))(hN:X.N[ix]?=aa x:=by rfl)(hv:BI X.env.scope x:=by first|exact aR rfl|exact aS (aR rfl)|exact aS (aS rfl))(hd:(x==("__debug__":Str))=false:=by decide)
  (hcd:(x==("__classdict__":Str))=false:=by decide)(hpi:uq ei:=by exact λ_ _=>rfl)
  (hbase:iK (.Subscript (.Name x p) ei TN) "append" X.env (aA (.Subscript (.Name x p) ei TN) X.env)=aA (.Subscript (.Name x p) ei TN) X.env:=by rfl)
  (hfew:((bA cL (ar [e] X.env)).all (λx=> !x.1)&&(lW cL (lY [] X.env)).all (λx=>x.1.isSome)
   &&decide ([e].length+([]:List fU).length+(if([]:List fU).isEmpty then 0 else 1)<30))=true:=by rfl)
  (hline:(apos.endLine==cL.line)=true:=by rfl)(hst:ar [e] X.env=(false,aA e X.env)::ar [] X.env:=by rfl)(hplain:(bA cL (ar [] X.env)).any (·.1)=false:=by rfl)
  (hs:gk (.Call (.Attribute (.Subscript (.Name x p) ei TN) "append" apos) [e] [] cL) none pos.line X.env=bc false:=by rfl):
  PS X (.Expr (.Call (.Attribute (.Subscript (.Name x p) ei TN) "append" apos) [e] [] cL) pos) (tS X.K E λenv=>(zM ix env).bind λnss=>(fi env).bind λa=>(zL nss a).bind λkn=>(f env).bind λd=>JG ix env nss kn d):=
 oV (jM (yt kB uB uC i7 (j7 AO (ju hN hv hd hcd) hi hpi) (bh he bV hst) hbase hfew hline hst hplain) hs) λDe σ H ⟨g,env,os,r,m⟩=>by
  obtain⟨nss,e1,m2⟩:=m.bind.ag9;obtain⟨a,as,q1,q2,q3,q4⟩:=r.TR e1;refine⟨.ref a,q1,g,env,os,r,m2.bind.mono λda _ m3 w H2 s2 i2=>?_⟩;obtain⟨i,k,ns,rfl,hk,hns,m4⟩:=m3.bind.zL;obtain⟨b,hb1,hb2⟩:=q4 k ns hns;refine⟨a,as.map V.ref,i,.ref b,rfl,i2,EU.of (s2 _ _ q2),TJ (by rw[aB,q3];exact hk) (by rw[b8,hb1];rfl),.inl ⟨rfl,_,gb.of (s2 _ _ hb2)⟩,g,env,os,r.same s2,m4.bind.mono λd _ m5 v H3 s3 i3=>?_⟩;obtain⟨u,rfl,hl,m6⟩:=m5.JG;have iu:v=.int u:=i3;subst iu;have r3:=r.same (s2.trans s3);have hb3:=s3 _ _ (s2 _ _ hb2);obtain⟨rh,r4⟩:=r3.akN (ns:=ns) e1 q1 (s3 _ _ (s2 _ _ q2)) hb1 (bG.mp hns).1 (ns++[u]);refine⟨b,ns.map V.int,.int u,rfl,rfl,hb3,by rw[aB];exact hl,?_⟩;rw[cj]at r4;exact(show gy X.K g H os De (.nx _)from m6) σ _ os r4 ((yu.same (s2.trans s3) os).trans (.mut rh))
theorem JH(k:Int):∀ns:List Int,inV (.int k) (ns.map V.int)=decide (k∈ns)
 |[]=>rfl
 |n::ns=>by
  have ih:=JH k ns;unfold inV at ih⊢;rw[bw,zf,ih]
  by_cases h:n=k
  ·subst h
   simp[V8]
  ·have h':¬k=n:=λz=>h z.symm
   simp[V8,h,h']
theorem FY:∀ns:List Int,(ns.map V.int).all ze=true
 |[]=>rfl
 |n::ns=>by rw[bw,Ha,FY ns];rfl
end
section
variable{X:Cx}{E:Str->Hp->Prop}{pos:Pos}
def toS:List D->Option (List Str)
 |[]=>aa []
 |.str x::r=>(toS r).map (x::·)
 |_::_=>none
def aoP:D->R Str
 |.str i=>.ok i
 |_=>.bad
theorem DN{K:ak}{P:ae->Prop}{H:Hp}:∀{as:List ae}{nss:List (List Int)},as.length=nss.length->(∀b∈as,P b)->(∀(k:Nat)(b:ae)(ns:List Int),as[k]?=aa b->nss[k]?=aa ns->H b=aa (.lst (ns.map V.int)))->IsL K P H (nss.map λns=>D.lst (ns.map D.int)) (as.map V.ref)
 |[],[],_,_,_=>rfl
 |[],_::_,h,_,_=>by simp at h
 |_::_,[],h,_,_=>by simp at h
 |a::as,ns::nss,h,hp,hi=>⟨_,_,rfl,⟨a,_,rfl,.inl ⟨hp a (by simp),.inl (hi 0 a ns rfl rfl)⟩,eU ns⟩,DN (by simpa using h) (λb hb=>hp b (by simp[hb])) λk b ms e1 e2=>hi (k+1) b ms e1 e2⟩
def PE.akO {e:ao}{f:DE->R (List (List Int))}(h:PE X e (tDp X.K E f)):PE X e (tL X.K E λenv=>(f env).bind λnss=>.ok (nss.map λns=>D.lst (ns.map D.int))):=
 imp h λσ H Q ⟨g,env,os,r,m⟩=>⟨g,env,os,r,m.bind.mono λnss _ q a as H' s nd=>q a _ H' s (gb.of nd.ha) (DN nd.len (λb hb=>r.fresh (nd.fr b (bz _ hb))) nd.it)⟩
end
section
variable{X:Cx}{E:Str->Hp->Prop}{pos:Pos}
def akP(T:List (Str×Int)):List (Str×PyData):=T.map λp=>(p.1,PyData.int p.2)
def aoQ(K:ak)(a:ae)(T:List (Str×Int)):Prop:=KTD.tabLook KTD.flatLooks (λb=>K.lookup b) a (akP T)=true
end
section
variable{X:Cx}{E:Str->Hp->Prop}{pos:Pos}
def FZ:D->R Unit
 |.int 1=>.ok ()
 |_=>.bad
def Good.one {H₀:Hp}{d:D}{p:Unit->Prop}(h:Good E H₀ (FZ d) p):d=.int 1/\p ():=by
 unfold FZ at h;split at h
 ·exact⟨rfl,h⟩
 ·exact h.elim
end
section
variable{X:Cx}{E:Str->Hp->Prop}{pos:Pos}
def aoR:D->R Unit
 |.int 2=>.ok ()
 |_=>.bad
end
section
variable{X:Cx}{E:Str->Hp->Prop}{pos:Pos}
def aoS:D->R Unit
 |.int 0=>.ok ()
 |_=>.bad
end
def Yx:D->D->Option D
 |.int i,.int j=> @ite _ (Qx i j) (dR _) (aa (.int (i*2^j.toNat))) none
 |_,_=>none
section
variable{X:Cx}{E:Str->Hp->Prop}{pos:Pos}
def Yy:sV X (rI Qx λi j=>.int (i*2^j.toNat)) Yx:=zw (h:=λi j=>.int (i*2^j.toNat)) (λ_ _=>rfl) λx y d e=>by
 unfold Yx at e;split at e
 ·split at e
  ·rename_i i j c
   cases e;exact⟨i,j,rfl,rfl,c,rfl⟩
  ·cases e
 ·cases e
def aha:PIp X .BitOr (ipI λi j=>HE i j):=by
 intro pins s σ H x y v u Q I r1 r2 h;obtain⟨i,j,rfl,rfl,q⟩:=h;obtain⟨t,rfl⟩:=r1;obtain⟨t',rfl⟩:=r2;exact ior_int ⟨.int _,H,I.tok _,⟨_,rfl⟩,q⟩
end
section
variable{K:ak}{g:Gh}{env:DE}{σ:St}{H H1:Hp}{os:List ae}
def Rel.ahb (r:Rel K g env σ H os){i:Nat}{c c':Ct}(e:env[i]?=aa (.deep c)){a:ae}(hσ:σ[i]?=aa (aa (.ref a))){o:HO}{as':List ae}
  (hd:∀as,Dp K H os a as c->(∀x,x∈as'↔x∈as)/\Dp K (upd H a o) os a as' c'):a∈os/\Rel K g (env.set i (.deep c')) σ (upd H a o) os:=by
 obtain⟨A,dd⟩:=r.Jk;obtain⟨a0,yz,hA,h1,h3⟩:=dd.dp i c e;rw[hσ]at h1;cases h1;obtain⟨hm,Wv⟩:=hd yz h3;have rh:a∈os:=(h3.mem a (by simp)).1;have RT:a∈A i:=by rw[hA];simp
 refine⟨rh,?_⟩;have ex:Ext (g.P os) (g.P os) H (upd H a o):=⟨λ_ _ p _=>p,λc o p q=>by rw[aH (λz=>p.2 (by rw[z];exact rh))];exact q⟩
 have f:∀(j:Nat)(sl:Sl),(env.set i (Sl.deep c'))[j]?=aa sl->sl≠.deep c'->i≠j/\env[j]?=aa sl:=λj sl q hn=>lE q hn;refine⟨by simp[r.len],λb o' q=>?_,λj d q=>?_,λj xs q=>?_,λj k xs ys b q1 q2 q3 q4=>?_,λb hc=>?_,λj v q=>?_,?_⟩
 ·rw[aH (λz=>by rw[z,(r.new a rh).1]at q;cases q)]
  exact r.ext b o' q
 ·obtain⟨hj,q⟩:=f j _ q (λz=>nomatch z)
  obtain⟨v,h1,h2⟩:=r.val j d q;exact⟨v,h1,Is.ext ex _ _ h2⟩
 ·obtain⟨hj,q⟩:=f j _ q (λz=>nomatch z)
  obtain⟨b,vs,h1,h2,h3',h4⟩:=r.own j xs q;have hcb:b≠a:=λz=>dd.ow i c j xs b e q h1 (by rw[z];exact RT);exact⟨b,vs,h1,h2,by rw[aH hcb];exact h3',IsL.ext ex _ _ h4⟩
 ·obtain⟨hj,q1⟩:=f j _ q1 (λz=>nomatch z)
  obtain⟨hk,q2⟩:=f k _ q2 (λz=>nomatch z);exact r.inj j k xs ys b q1 q2 q3 q4
 ·obtain⟨z1,o',z2⟩:=r.new b hc
  refine⟨z1,?_⟩
  by_cases z:b=a
  ·exact⟨_,by rw[z];exact aT⟩
  ·exact⟨o',by rw[aH z];exact z2⟩
 ·obtain⟨hj,q⟩:=f j _ q (λz=>nomatch z)
  exact r.raw j v q
 ·have sub:∀(j:Nat)(y:ae),(y∈if j=i then a::as' else A j)->y∈A j:=λj y hy=>by
   by_cases hj:j=i
   ·rw[if_pos hj]at hy
    rw[hj,hA];rcases aX.mp hy with w|w
    ·rw[w];exact iG
    ·exact bz _ ((hm y).mp w)
   ·rw[if_neg hj]at hy
    exact hy
  have p1:∀(j:Nat)(ms:Ct),(env.set i (Sl.deep c'))[j]?=aa (.deep ms)->∃ms',env[j]?=aa (.deep ms'):=λj ms q=>by
   by_cases hj:i=j
   ·subst hj;exact⟨c,e⟩
   ·rw[aO hj]at q;exact⟨ms,q⟩
  refine⟨λj=>if j=i then a::as' else A j,λj qw q=>?_,λj qw m xs b q1 q2 q3 hx=>?_,λj m qw TF hjm q1 q2 x hx hx2=>?_⟩
  ·by_cases hj:j=i
   ·have q':=q
    rw[hj]at q';have z:=bW q';cases z;exact⟨a,as',if_pos hj,by rw[hj];exact hσ,Wv⟩
   ·rw[aO (Ne.symm hj)]at q
    obtain⟨b,cs,z1,z2,z3⟩:=dd.dp j qw q;refine⟨b,cs,by rw[if_neg hj];exact z1,z2,z3.to λx hx=>?_⟩;have hxb:x≠a:=λz=>dd.dj i j c qw (Ne.symm hj) e q a RT (by rw[z1,<-z];exact hx);exact⟨(z3.mem x hx).1,aH hxb⟩
  ·have q2':=(f m _ q2 (λz=>nomatch z)).2
   obtain⟨ms',p⟩:=p1 j qw q1;exact dd.ow j ms' m xs b p q2' q3 (sub j b hx)
  ·obtain⟨m1,w1⟩:=p1 j qw q1
   obtain⟨m2,w2⟩:=p1 m TF q2;exact dd.dj j m m1 m2 hjm w1 w2 x (sub j x hx) (sub m x hx2)
end
section
variable{X:Cx}{E:Str->Hp->Prop}{pos:Pos}
def ahc(ix:Nat){x:Str}{p apos cL:Pos}(hN:X.N[ix]?=aa x:=by rfl)(hv:BI X.env.scope x:=by first|exact aR rfl|exact aS (aR rfl)|exact aS (aS rfl))(hd:(x==("__debug__":Str))=false:=by decide)
  (hcd:(x==("__classdict__":Str))=false:=by decide)
  (hbase:iK (.Name x p) "reverse" X.env (aA (.Name x p) X.env)=aA (.Name x p) X.env:=by rfl)(hline:(apos.endLine==cL.line)=true:=by rfl)
  (hs:gk (.Call (.Attribute (.Name x p) "reverse" apos) [] [] cL) none pos.line X.env=bc false:=by rfl):
  PS X (.Expr (.Call (.Attribute (.Name x p) "reverse" apos) [] [] cL) pos) (tS X.K E λenv=>(kX ix env).bind λnss=>.ok (.nx (env.set ix (.deep (.ls nss.reverse))))):=
 oV (jM (Hb kB PySem.F.slot_list_reverse PySem.F.type_list_reverse Lw (ju hN hv hd hcd) hbase hline) hs) λDe σ H ⟨g,env,os,r,m⟩=>by
  obtain⟨nss,e1,m2⟩:=m.bind.deep;obtain⟨a,as,q1,q2,q3,q4⟩:=r.HD e1;refine⟨.ref a,q1,.inl ⟨rfl,_,gb.of q2⟩,a,as.map V.ref,rfl,rfl,q2,?_⟩;obtain⟨hos,r2⟩:=r.ahb (c':=.ls nss.reverse) (o:=.lst (as.map V.ref).reverse) (as':=as.reverse) e1 q1 (λyz dp=>by
   have d:BO HO.lst H os a yz nss:=dp;have has:yz=as:=by
    have z:=d.ha;rw[q2]at z;have z2:as.map V.ref=yz.map V.ref:=by injection z with z;injection z
    exact(lF z2).symm
   subst has;refine⟨λx=>uJ,d.ma,by rw[<-mw];exact aT,by rw[bH,bH];exact d.len,?_,λk b ns e1 e2=>?_⟩
   ·have nd:=fO.mp d.nd
    exact fO.mpr ⟨λz=>nd.1 (uJ.mp z),(uK yz).nodup_iff.mpr nd.2⟩
   ·have hk:=(bG.mp e1).1
    rw[bH]at hk;rw[uG hk]at e1;rw[uG (by rw[<-d.len];exact hk),<-d.len]at e2;obtain⟨w1,w2⟩:=d.it _ b ns e1 e2;have hba:b≠a:=λz=>(fO.mp d.nd).1 (by rw[<-z];exact dJ e1);exact⟨w1,by rw[aH hba];exact w2⟩)
  exact(show gy X.K g H os De (.nx _)from m2) σ _ os r2 (.mut hos)
end
def dfm{K:ak}{h:aD}{mg:Str->Option ah}{x:Str}{st:aC}{ps:List Str}{f:ae}{oc:ah}{od an:Option ae}{RJ:Array (Option ah)}{kV doc pm cdv ct:ah}(X:K.In h)(G:h.Ns eg mg)(a:ux K eg x=aa (aa (.ref f)))
  (l:K.lookup f=aa ⟨oc,od,.func (gE x x (jj st) (dQ st) (az st) .none kV doc pm an cdv ct),RJ⟩)(c:zc K cdv x=true)(k:ko K (.ref f)=true)
  (hb:∀(kV doc pm:ah)(an:Option ae)(cdv ct:ah)(us:List ah),us.length=ps.length->p4 (gE x x (jj st) (dQ st) (az st) .none kV doc pm an cdv ct) ⟨us,[]⟩=bc (ps.zip us)):
  Df K mg x st ps f (gE x x (jj st) (dQ st) (az st) .none kV doc pm an cdv ct):=⟨Lx l c k,(Lx l c k).binds hb,HF X G a,a⟩
def uL{N P:List Str}{sc:dw}(h1:sc.kind=.function:=by rfl)(h2:sc.isCoroutine=false:=by rfl)(h3:sc.isGenerator=false:=by rfl)(h4:N.Nodup:=by decide +kernel)(h5:N.take P.length=P:=by rfl)
  (h6:∀x∈P,sc.names.lookup x=aa .local\/sc.names.lookup x=aa .cell:=by decide +kernel)(h7:∀y∈sc.names,y.2≠.free:=by decide +kernel):bp N P sc:=⟨h1,h2,h3,h4,h5,h6,h7⟩
def Cb(n:Int):Obj:={cls:=.type "range_iterator",data:=.fields #[rawInt (0+(n-1)*1),rawInt n,rawInt (-1)]}
def Yz:isSubtype (.type "range_iterator") (.type "reversed")=bc false:=by rw[isSubtype_type];kernel_rfl
section
variable{prog:aU}{w:aF}{A:bu}{E:ah->aj->Prop}{s:aj}
def YA{r:ae}{n:Int}{t u v:Tok}{Q:ah->aj->Prop}(h0:0<=n)(h1:n<=1000000)(hr:rB s.heap r 0 n 1 t u v)
  (h:Q (.ref s.heap.objs.size) {s with heap:=s.heap.push (Cb n)}):aG (aE prog w) A (call (.builtin "range.__reversed__") [.ref r]) Q E s:=by
 refine YB Om ⟨_,hr,rfl⟩ PySem.F.entry_range_reversed ?_ (PySem.F.args_range_reversed_1 _);have hsz:dz 0 n 1=n:=by rw[Cw];split<;>lia
 have hsm:(uI 0&&uI n&&uI 1&&uI (-1)&&uI (0-1)&&uI n)=true:=by
  unfold uI;simp only [ur,decide_eq_true_eq];lia
 obtain⟨hp,g,d,tk,os⟩:=s
 wp_walk using YC hr
 rw[hsz,hsm,if_neg (show¬((!true)=true)from di)];dsimp only;rw[if_pos rfl];exact aY (GU (cK ⟨_,rfl,h⟩))
def adD{r:ae}{n:Int}{t u v:Tok}{Q:ah->aj->Prop}(h0:0<=n)(h1:n<=1000000)(hr:rB s.heap r 0 n 1 t u v)
  (h:Q (.ref s.heap.objs.size) {s with heap:=s.heap.push (Cb n)}):lU (aE prog w) A (.call (.builtin "reversed.__new__") ⟨[.type "reversed",.ref r],[]⟩) (wants Q E) s:=by
 have hT:s.TypeIs (.ref r) "range":=⟨_,hr,rfl⟩
 have nb:¬((ah.builtin "range.__reversed__"==ah.none)=true):=di;refine codeAny_of_tree (show aG _ A.in1 (do
  checkBuiltinCall "reversed.__new__" ⟨[.type "reversed",.ref r],[]⟩
  again (.builtin "reversed.__new__" ⟨[.type "reversed",.ref r],[]⟩)) _ _ s from ?_)
 refine aY (CT (PySem.F.newCall_reversed_1 _) (cK ⟨plainId_quiet YD _,?_⟩));refine codeAny_builtin PySem.F.entry_reversed_new ?_;rw[bu.under_plainId YD _];show aG _ _ (do
  let x<-HG.SmallTypes.newClass "reversed" ⟨[.type "reversed",.ref r],[]⟩
  _) _ _ _
 refine aY (CT (newClass_reversed (.ref r)) ?_)
 try dsimp only
 refine aY (CT (a:=()) (by kernel_rfl) (aY (CT (a:=()) (by kernel_rfl) ?_)))
 try dsimp only
 refine aY (He hT Om.lookup ?_)
 try dsimp only
 refine aY (CT (Om.bind (.ref r)) ?_)
 try dsimp only
 rw[if_neg nb];refine aY (wpAny_rule (aY (m:=runValue (.call (.builtin "range.__reversed__") ⟨[.ref r],[]⟩)) ?_));show aG _ _ (call (.builtin "range.__reversed__") [.ref r]) _ _ _;refine YA h0 h1 hr ?_
 first
 |exact cK h
 |exact aY (cK (cK h))
def adE{r:ae}{n:Int}{t u v:Tok}{Q:ah->aj->Prop}(h0:0<=n)(h1:n<=1000000)(hr:rB s.heap r 0 n 1 t u v)
  (h:Q (.ref s.heap.objs.size) {s with heap:=s.heap.push (Cb n)}):aG (aE prog w) A (call (.type "reversed") [.ref r]) Q E s:=by
 have hc:lU (aE prog w) A.in1 (.call (.builtin "reversed.__new__") ⟨.type "reversed"::[.ref r],[]⟩) (wants (λo z=>o=.ref s.heap.objs.size/\z={s with heap:=s.heap.push (Cb n)}) E) s:=adD h0 h1 hr ⟨rfl,rfl⟩;refine callType_other (U:="range_iterator") (by decide +kernel) PySem.F.create_reversed ⟨_,_,PySem.F.mro_reversed⟩ PySem.F.made_reversed Yz (PySem.F.typeCall_reversed_1 _) hc ?_;rintro o z ⟨rfl,rfl⟩;exact⟨⟨_,jg _ rfl,rfl⟩,h⟩
def YE{it:ae}{x left c:Int}{Q:Bool->aj->Prop}(hit:y4 s.heap it x left c)(h0:0<=left)(h1:left<=1000000)(h:∀tk,Q false {s with toks:=tk}):aG (aE prog w) A (YF (.ref it)) Q E s:=by
 have hT:s.TypeIs (.ref it) "range_iterator":=⟨_,hit,rfl⟩
 have hcall:∀(Q':ah->aj->Prop),(∀u tk,Q' (.int left u) {s with toks:=tk})->aG (aE prog w) A (call (.builtin "range_iterator.__length_hint__") [.ref it]) Q' E s:=λQ' hq=>by
  refine YB PySem.F.slot_range_iterator_length_hint hT PySem.F.entry_range_iterator_length_hint ?_ (PySem.F.args_range_iterator_length_hint_1 _);obtain⟨hp,g,d,tk,os⟩:=s
  wp_walk using YC hit
  exact⟨_,rfl,hq _ _⟩
 have htl:zh left.toNat=false:=by simp[zh,aI];lia
 unfold YF;refine aY (He hT PySem.F.nolen_ra (show aG _ A (specialOf (dh it) (dB "__length_hint__")>>=_) _ _ _ from aY (He hT PySem.F.hint_ra ?_)));generalize hid:("range_iterator.__length_hint__":String)=id0
 wp_delta
 rw[show splitId id0=aa ("range_iterator","__length_hint__")from by subst hid;decide +kernel];subst hid;refine aY (wpAny_isInstance (b:=true) hT (by rw[isSubtype_type];kernel_rfl) ?_);refine HH (λz=>absurd z (by decide)) λ_=>HH (λ_=>?_) λz=>absurd (by decide +kernel) z;refine HH (λ_=>?_) λz=>absurd rfl z;refine aY (hcall _ λu tk=>aY (m:=asInt? (.int left u)) (cK ?_));dsimp only;rw[if_neg (by rw[htl];decide)];exact cK (h tk)
def adF{R:Result->aj->Prop}{it:ae}{n:Nat}(hh:A.handled=none)(hn:n<=1000000)(hit:y4 s.heap it ((n:Int)-1) n (-1))(S:ae)(res:ah)(c₀:Nat)
  (hS:s.heap.get? S=aa {cls:=.type "list",data:=.seq #[] c₀})(hSi:S≠it)
  (hR:∀h' tk sE c',(∀b o,b≠S->b≠it->s.heap.get? b=aa o->h'.get? b=aa o)->h'.get? S=aa {cls:=.type "list",dict:=none,data:=.seq sE c',slots:=#[]}->
   ItemsOf (λi v=>∃t,v=.int ((n:Int)-1+i*(-1)) t) sE n->R (.ok (.ret res)) {s with heap:=h',toks:=tk}):
  aG (aE prog w) A.in1 (HJ (.ref S) (.ref it) res)
   (λfin s'=>match fin with|.done f=>R (.ok f) s'|.again c'=>c'.quiet=true/\lU (aE prog w) A c' R s') (λe s'=>R (.error e) s') s:=by
 have hT:s.TypeIs (.ref it) "range_iterator":=⟨_,hit,rfl⟩
 have W:=(WM (prog:=prog) (w:=w) (A:=A.in1) hh it ((n:Int)-1) (-1) n).toS;have e1:YG (.ref S) (.ref it)=false:=by simp[YG,hSi]
 have e2:(uf "range_iterator"==uf "list")=false:=by decide
 have e3:(uf "range_iterator"==uf "tuple")=false:=by decide
 have st0:∀tk,y4 ({s with toks:=tk}:aj).heap it ((n:Int)-1+((0:Nat):Int)*(-1)) ((n:Int)-((0:Nat):Int)) (-1):=λtk=>by
  rw[show(n:Int)-1+((0:Nat):Int)*(-1)=(n:Int)-1 by lia,show(n:Int)-((0:Nat):Int)=n by lia];exact hit
 unfold HJ;refine aY (wpAny_typeOf hT ?_);simp only [e1,e2,e3,Xe,Hm,if_false];refine aY (W.self 0 _ _ _ (st0 s.toks) (aY (Cr (YE hit (by lia) (by lia) λtk=>?_))));refine HH (λz=>absurd z (by decide)) λ_=>cK ⟨plainId_quiet PySem.F.plain_extend_loop _,?_⟩;refine codeAny_extend_loopS W (iF hn (by decide)) S (λhm=>hSi (dC.mp hm)) res n 0 _ #[] c₀ rfl (iJ _) (st0 tk) hS (ItemsOf.nil _) λs' sE c' hm hS' hacc=>?_;rw[Moved.eq_with hm];exact hR s'.heap s'.toks sE c' (λb o hb hb2 e=>hm.heap b o (λhmem=>by
  rcases aX.mp hmem with z|z
  ·exact hb z
  ·exact hb2 (dC.mp z)) e) hS' hacc
def YH{Q:ah->aj->Prop}{it:ae}{n:Nat}(hh:A.handled=none)(hn:n<=1000000)(hit:y4 s.heap it ((n:Int)-1) n (-1))
  (hQ:∀h' tk sE c',(∀b o,b≠it->s.heap.get? b=aa o->h'.get? b=aa o)->h'.get? s.heap.objs.size=aa {cls:=.type "list",dict:=none,data:=.seq sE c',slots:=#[]}->
   ItemsOf (λi v=>∃t,v=.int ((n:Int)-1+i*(-1)) t) sE n->Q (.ref s.heap.objs.size) {s with heap:=h',toks:=tk}):aG (aE prog w) A (call (.type "list") [.ref it]) Q E s:=by
 have hlt:it<s.heap.objs.size:=bM hit;have hS:(s.heap.push {cls:=.type "list",data:=.seq #[]}).get? s.heap.objs.size=aa {cls:=.type "list",data:=.seq #[]}:=jg _ rfl;refine callType_codes (Q₁:=λo z=>o=.ref s.heap.objs.size/\z={s with heap:=s.heap.push {cls:=.type "list",data:=.seq #[]}}) PySem.F.called_list (PySem.F.typeCall_list_1 _) PySem.F.entry_list_init (code_list_new _ ⟨rfl,rfl⟩) ?_;rintro o z ⟨rfl,rfl⟩;refine⟨⟨_,hS,rfl⟩,PySem.F.args_list_init_2 _ _,?_⟩;show aG _ _ (do
  let old<-YJ (.ref s.heap.objs.size)
  HG.List.listUpdate (.ref s.heap.objs.size) (λ_=>#[])
  letGo old.toList.reverse
  HJ (.ref s.heap.objs.size) (.ref it) .none) _ _ _
 refine aY ?_;unfold YJ;refine aY (wpAny_seqItems hS rfl (cK ?_));show aG _ _ (do
  updateSeq s.heap.objs.size (λ_=>#[])
  letGo (#[]:Array ah).toList.reverse
  HJ (.ref s.heap.objs.size) (.ref it) .none) _ _ _
 refine aY (wpAny_updateSeq hS rfl (aY (wpAny_letGo ?_)));have hS2:=Xf (xA (λ_=>(#[]:Array ah))) hS rfl;have oth:∀b o,b≠s.heap.objs.size->s.heap.get? b=aa o->((s.heap.push {cls:=.type "list",data:=.seq #[]}).update s.heap.objs.size (xA (λ_=>(#[]:Array ah)))).get? b=aa o:=
  λb o hb e=>(Nq _ _ (Ne.symm hb)).trans (cZ _ e)
 refine adF (A:=A.in1) hh hn (oth it _ (dO hlt) hit) s.heap.objs.size .none _ hS2 (Cs hlt) λh' tk sE c' hk hS' hacc=>⟨rfl,?_⟩
 exact hQ h' tk sE c' (λb o hb e=>hk b o (dO (bM e)) hb (oth b o (dO (bM e)) e)) hS' hacc
end
def adG(n:Nat):List D:=(b9 n).map λi=>D.int ((n:Int)-1-(i:Nat))
def DP(n:Nat):List V:=(b9 n).map λi=>V.int ((n:Int)-1-(i:Nat))
def JI:List D->R (List D)
 |[.int j]=> @ite _ (0<=j/\j<=1000000) (dR _) (.ok (adG j.toNat)) .bad
 |_=>.bad
def YK{K:ak}{P:ae->Prop}{H:Hp}(n:Nat):IsL K P H (adG n) (DP n):=by
 unfold adG DP
 induction (b9 n)with
 |nil=>rfl
 |cons x r ih=>exact⟨_,_,rfl,rfl,ih⟩
def QV{acc:List ah}{n:Nat}(h1:acc.length=n)(h2:∀(j:Nat)(v:ah),acc[j]?=aa v->∃t,v=.int ((n:Int)-1-(j:Nat)) t):Vals (DP n) acc:=by
 have gen:∀(l:List ah)(k:Nat),(∀(j:Nat)(v:ah),l[j]?=aa v->∃t,v=.int ((n:Int)-1-((k+j:Nat):Int)) t)->Vals ((N3 k l.length).map λi=>V.int ((n:Int)-1-(i:Nat))) l:=by
  intro l
  induction l with
  |nil=>intro k _;exact .nil
  |cons x r ih=>
   intro k hk;rw[bD,N4,bw];obtain⟨t,e⟩:=hk 0 x rfl;refine .cons ⟨t,e⟩ (ih (k+1) λj v e=>?_);obtain⟨t,e⟩:=hk (j+1) v (by simpa using e);exact⟨t,by rw[e,show k+(j+1)=k+1+j by lia]⟩
 have:=gen acc 0 λj v e=>by rw[jR];exact h2 j v e
 rw[h1,<-N5]at this;exact this
section
variable{X:Cx}{E:Str->Hp->Prop}{pos:Pos}
def adH{a:ao}{p p2 p3 sC QW:Pos}{f:DE->R (List D)}(hc:X.calm=true)(LH:X.mg "list"=none)(hmv:X.mg "reversed"=none)(hmr:X.mg "range"=none)(ha:PA X [a] (yf X.K E f))(hgl:Gl X "list":=by rfl)(hgv:Gl X "reversed":=by rfl)(hgr:Gl X "range":=by rfl)
  (hs:ar [a] X.env=[(false,aA a X.env)]:=by rfl)(he2:ar [.Call (.Name "range" p3) [a] [] QW] X.env=(false,aA (.Call (.Name "range" p3) [a] [] QW) X.env)::ar [] X.env:=by rfl)
  (he:ar [.Call (.Name "reversed" p2) [.Call (.Name "range" p3) [a] [] QW] [] sC] X.env=(false,aA (.Call (.Name "reversed" p2) [.Call (.Name "range" p3) [a] [] QW] [] sC) X.env)::ar [] X.env:=by rfl)
  (hpl:(bA pos (ar [] X.env)).any (·.1)=false:=by rfl)(Tw:(bA sC (ar [] X.env)).any (·.1)=false:=by rfl):
  PE X (.Call (.Name "list" p) [.Call (.Name "reversed" p2) [.Call (.Name "range" p3) [a] [] QW] [] sC] [] pos) (tF X.K E λenv=>(f env).bind JI):=by
 intro pins s σ H Q I ⟨g,env,os,r,m⟩;refine uk (j3 I hgl LH nU (jN ?_ he hpl));rw[he];refine xt (rC (j3 I hgv hmv BQ (jN ?_ he2 Tw)));rw[he2];refine xt (rC (j3 I hgr hmr zE (jN (fJ (ha QW pins s σ H _ I ⟨g,env,os,r,m.bind.mono λds _ q vs H1 s1 i1=>(⟨ds,s1,i1,q⟩:∃ds,bK H H1/\IsL X.K Tr H1 ds vs/\Good E g.H₀ (JI ds) _)⟩) λus s1 ⟨vs,H1,I1,r1,ds,sm,i1,q⟩=>?_) hs rfl)));unfold JI at q;split at q
 ·rename_i j
  split at q
  ·rename_i c
   obtain⟨v,rfl,iv⟩:=IsL.Hh i1;have iv':v=.int j:=iv;subst iv';obtain⟨u,rfl,t,rfl⟩:=vals1 r1;obtain⟨n,rfl⟩:∃n:Nat,j=n:=⟨j.toNat,by lia⟩
   rw[bB]at q;have hd:X.A.handled=none:=I.ok.hd hc;refine call_range_1 (xr ?_);generalize hR:({cls:=.type "range",data:=.fields #[.int 0 s1.toks,.int (n:Int) t,.int 1 (s1.toks+1)]}:Obj)=oR;refine adE (n:=n) (by lia) c.2 (show rB _ _ 0 (n:Int) 1 s1.toks t (s1.toks+1)from by rw[<-hR];exact rB.new ..) (xr ?_);have k1:∀b o,s1.heap.get? b=aa o->((s1.heap.push oR).push (Cb n)).get? b=aa o:=λb o e=>cZ _ (cZ _ e);have hit:((s1.heap.push oR).push (Cb n)).get? (s1.heap.push oR).objs.size=aa (Cb n):=jg _ rfl;refine YH (n:=n) hd (by lia) (by
    show((s1.heap.push oR).push (Cb n)).get? (s1.heap.push oR).objs.size=_;rw[hit];unfold Cb;rw[show 0+((n:Int)-1)*1=(n:Int)-1 by lia]) λh' tk sE c' hk hl akR=>?_
   obtain⟨hi1,hi2⟩:=akR;have hv:Vals (DP n) sE.toList:=QV (by simpa using hi1) λi v e=>by
    obtain⟨t,q⟩:=hi2 i v (by simpa using e);exact⟨t,by rw[q];congr 1;lia⟩
   have hlen:(DP n).length<=aI:=by
    unfold DP;rw[aB,zF];exact iF (show n<=1000000 by lia) (by decide)
   have XA:∀b o,s1.heap.get? b=aa o->h'.get? b=aa o:=λb o e=>hk b o (dO (NF (bM e) (by rw[CA];exact CB _))) (k1 b o e);have hsz:s1.heap.objs.size<=((s1.heap.push oR).push (Cb n)).objs.size:=by rw[CA,CA];lia
   have hn1:H1 ((s1.heap.push oR).push (Cb n)).objs.size=none:=I1.hok.fresh hsz;refine⟨.ref _,upd H1 _ (.lst (DP n)),I1.laid (a:=((s1.heap.push oR).push (Cb n)).objs.size) (t':=tk) XA hsz ⟨hlen,sE.toList,c',hv,by simpa using hl⟩,rfl,?_⟩;exact q _ _ _ (sm.trans (bR hn1 _)) (sm.free hn1) aT (YK n)
  ·exact q.elim
 ·exact q.elim
end
section
variable{X:Cx}{E:Str->Hp->Prop}{pos:Pos}
def tM(K:ak)(E:Str->Hp->Prop)(f:DE->R (List D)):TE:=λσ H Q=>∃g env os,Rel K g env σ H os/\Good E g.H₀ (f env) λxs=>∀a vs H',bK H H'->H' a=aa (.lst vs)->IsL K (g.P os) H' xs vs->Q (.ref a) H'
def mNm(i:Nat){x:Str}(hN:X.N[i]?=aa x:=by rfl)(hv:BI X.env.scope x:=by first|exact aR rfl|exact aS (aR rfl)|exact aS (aS rfl))(hd:(x==("__debug__":Str))=false:=by decide)
  (hcd:(x==("__classdict__":Str))=false:=by decide):PE X (.Name x pos) (tM X.K E (ownAt i)):=imp (ju hN hv hd hcd) λσ H Q ⟨g,env,os,r,m⟩=>by
 unfold ownAt at m;split at m
 ·rename_i xs e
  obtain⟨a,vs,h1,h2,h3,h4⟩:=r.own i xs e;exact⟨_,h1,m a vs H (bK.refl H) h3 h4⟩
 ·exact m.elim
def ahe{a b:ao}{fa:DE->R (List D)}{fb:DE->R D}(ha:PE X a (tM X.K E fa))(hb:PE X b (tB X.K E fb)):PE X (.BinOp a .Mult b pos) (tF X.K E λenv=>(fa env).bind λx=>(fb env).bind λy=>Jy x y):=
 imp (yr SE ha hb) λσ H Q ⟨g,env,os,r,m⟩=>⟨g,env,os,r,m.bind.mono λx _ m1 a1 v1 H1 s1 hH i1=>⟨g,env,os,r.same s1,m1.bind.mono λy _ m2 w H2 s2 i2=>by
  unfold Jy at m2;split at m2
  ·rename_i k _
   split at m2
   ·rename_i c
    refine⟨a1,k,v1,rfl,i2,s2 _ _ hH,c.1,c.2.1,by rw[i1.length];exact c.2.2,λp hp=>?_⟩;obtain⟨b1,b2,b3,b4⟩:=LA r (s1.trans s2) hp ((i1.same s2).rep k.toNat);exact m2 p _ _ b1 b2 b3 b4
   ·exact m2.elim
  ·exact m2.elim⟩⟩
end
def scB(d:D):Bool:=(toV d).isSome
def aoW:D->Bool
 |.tup xs=>xs.all scB
 |_=>false
def aq4(H:Hp)(c:ae):Prop:=∃vs,Rd H c (.lst vs)
section
variable{X:Cx}{E:Str->Hp->Prop}{pos:Pos}
def Good.ahf {H₀:Hp}{xs:List D}{p:List Int->Prop}(h:Good E H₀ (R.of (CO xs)) p):∃ns,xs=aW ns/\p ns:=by
 obtain⟨ns,e,h2⟩:=h.of;exact⟨ns,yN e,h2⟩
def TU{e1 e2:ao}{tp:Pos}{x1}{f1 f2:DE->R (List D)}(h1:PE X e1 (tF X.K E f1))(h2:PE X e2 (tF X.K E f2))
  (hs:ar [e1,e2] X.env=(false,aA e1 X.env)::ar [e2] X.env:=by rfl)(hs2:ar [e2] X.env=(false,aA e2 X.env)::ar [] X.env:=by rfl):
  PS X (.Return (aa (.Tuple [e1,e2] x1 tp)) pos) (tS X.K E λenv=>((f1 env).bind λxs=>R.of (CO xs)).bind λns=>((f2 env).bind λxs=>R.of (CO xs)).bind λms=>.ok (.FN [ns,ms])):=
 oV (nq (vU (bh h1 (bh h2 bV hs2) hs))) λDe σ H ⟨g,env,os,r,m⟩=>⟨g,env,os,r,m.bind.bind.mono λxs _ m1 a vs H1 s1 fa ha i1=>by
  obtain⟨ns,rfl,m2⟩:=m1.ahf;have ev:=iQ i1;subst ev;refine⟨g,env,os,r.same s1,m2.bind.bind.mono λys _ m3 b ws H2 s2 fb hb i2=>?_⟩;obtain⟨ms,rfl,m4⟩:=m3.ahf;have ew:=iQ i2;subst ew;refine⟨(by show 2<=aI;decide),λp hp=>?_⟩;have ha2:=s2 _ _ ha;have sp:=bR hp (.tup [.ref a,.ref b]);have hpa:p≠a:=λz=>by rw[z,ha2]at hp;cases hp
  have hpb:p≠b:=λz=>by rw[z,hb]at hp;cases hp
  have hab:a≠b:=λz=>by rw[<-z,ha]at fb;cases fb
  have ss:=r.ext.trans (s1.trans s2);refine(show gy X.K g H os De (.FN [ns,ms])from m4) p [a,b] _ (ss.trans sp) ⟨λc hc=>?_,by simp[hpa,hpb,hab],rfl,aT,λk c ls q1 q2=>?_⟩
  ·simp at hc
   rcases hc with rfl|rfl|rfl
   ·exact ss.free hp
   ·exact r.ext.free fa
   ·exact(r.ext.trans s1).free fb
  ·match k with
   |0=>
    have z1:a=c:=by simpa using q1
    have z2:ns=ls:=by simpa using q2
    subst z1 z2;exact sp _ _ ha2
   |1=>
    have z1:b=c:=by simpa using q1
    have z2:ms=ls:=by simpa using q2
    subst z1 z2;exact sp _ _ hb
   |k+2=>simp at q1⟩
end
section
variable{K:ak}{g:Gh}{env:DE}{σ:St}{H:Hp}{os:List ae}
def Rel.unp (r:Rel K g env σ H os){i j k:Nat}{ns ms:List Int}(e:env[k]?=aa (.deep (.tp [ns,ms])))(hij:i≠j)(hik:i≠k)(hjk:j≠k){a b c:ae}(hσ:σ[k]?=aa (aa (.ref a)))(ha:H a=aa (.tup [.ref b,.ref c])):
  Rel K g (((env.set k .no).set i (.own (aW ns))).set j (.own (aW ms))) ((σ.set i (aa (.ref b))).set j (aa (.ref c))) H os:=by
 obtain⟨A,dd⟩:=r.Jk;obtain⟨a0,yz,hA,h1,h3⟩:=dd.dp k _ e;rw[hσ]at h1;cases h1;replace h3:BO HO.tup H os a yz [ns,ms]:=h3;have has:yz=[b,c]:=by
  have z:=h3.ha;rw[ha]at z;have z2:[b,c].map V.ref=yz.map V.ref:=by injection z with z;injection z
  exact(lF z2).symm
 subst has;obtain⟨bo,hb⟩:=h3.it 0 b ns rfl rfl;obtain⟨co,hc⟩:=h3.it 1 c ms rfl rfl;have RT:b∈A k:=by rw[hA];simp
 have hcA:c∈A k:=by rw[hA];simp
 have hbc:b≠c:=λz=>by have:=h3.nd;simp[z]at this
 have f:∀(m:Nat)(sl:Sl),(((env.set k .no).set i (Sl.own (aW ns))).set j (Sl.own (aW ms)))[m]?=aa sl->(m=j/\sl=.own (aW ms)/\j<σ.length)\/(m≠j/\m=i/\sl=.own (aW ns)/\i<σ.length)\/(m≠j/\m≠i/\m=k/\sl=.no)\/(m≠j/\m≠i/\m≠k/\env[m]?=aa sl):=λm sl q=>by
  have hl:=(bG.mp q).1;simp only [jP]at hl
  by_cases mj:m=j
  ·subst mj
   exact .inl ⟨rfl,bW q,by rw[r.len];exact hl⟩
  ·rw[aO (Ne.symm mj)]at q
   by_cases mi:m=i
   ·subst mi
    exact .inr (.inl ⟨mj,rfl,bW q,by rw[r.len];exact hl⟩)
   ·rw[aO (Ne.symm mi)]at q
    by_cases mk:m=k
    ·subst mk
     exact .inr (.inr (.inl ⟨mj,mi,rfl,bW q⟩))
    ·rw[aO (Ne.symm mk)]at q
     exact .inr (.inr (.inr ⟨mj,mi,mk,q⟩))
 have sj:j<σ.length->((σ.set i (aa (V.ref b))).set j (aa (V.ref c)))[j]?=aa (aa (.ref c)):=λh=>iH (by rw[jP];exact h);have si:i<σ.length->((σ.set i (aa (V.ref b))).set j (aa (V.ref c)))[i]?=aa (aa (.ref b)):=λh=>by rw[aO (Ne.symm hij),iH h]
 have so:∀m,m≠j->m≠i->((σ.set i (aa (V.ref b))).set j (aa (V.ref c)))[m]?=σ[m]?:=λm h1 h2=>by rw[aO (Ne.symm h1),aO (Ne.symm h2)]
 have ow:∀(m:Nat)(xs:List D)(x:ae),(((env.set k .no).set i (Sl.own (aW ns))).set j (Sl.own (aW ms)))[m]?=aa (.own xs)->((σ.set i (aa (V.ref b))).set j (aa (V.ref c)))[m]?=aa (aa (.ref x))->(m=j/\x=c)\/(m≠j/\m=i/\x=b)\/(m≠j/\m≠i/\env[m]?=aa (.own xs)/\σ[m]?=aa (aa (.ref x))):=λm xs x q s=>by
  rcases f m _ q with⟨z,_,l⟩|⟨z0,z,_,l⟩|⟨_,_,_,z⟩|⟨z1,z2,z3,z⟩
  ·subst z
   rw[sj l]at s;cases s;exact .inl ⟨rfl,rfl⟩
  ·subst z
   rw[si l]at s;cases s;exact .inr (.inl ⟨z0,rfl,rfl⟩)
  ·cases z
  ·rw[so m z1 z2]at s
   exact .inr (.inr ⟨z1,z2,z,s⟩)
 refine⟨by simp[r.len],r.ext,λm d q=>?_,λm xs q=>?_,λm l xs ys x q1 q2 q3 q4=>?_,r.new,λm v q=>?_,A,λm nss q=>?_,λm nss l xs x q1 q2 q3=>?_,λm l nss qw LH q1 q2=>?_⟩
 ·rcases f m _ q with⟨_,z,_⟩|⟨_,_,z,_⟩|⟨_,_,_,z⟩|⟨z1,z2,z3,z⟩
  ·cases z
  ·cases z
  ·cases z
  ·rw[so m z1 z2]
   exact r.val m d z
 ·rcases f m _ q with⟨z0,z,l⟩|⟨_,z0,z,l⟩|⟨_,_,_,z⟩|⟨z1,z2,z3,z⟩
  ·subst z0
   cases z;exact⟨c,_,sj l,co,hc,CS ms⟩
  ·subst z0
   cases z;exact⟨b,_,si l,bo,hb,CS ns⟩
  ·cases z
  ·rw[so m z1 z2]
   exact r.own m xs z
 ·rcases ow m xs x q1 q3 with⟨u1,u2⟩|⟨u0,u1,u2⟩|⟨u0,u1,u2,u3⟩<;>rcases ow l ys x q2 q4 with⟨w1,w2⟩|⟨w0,w1,w2⟩|⟨w0,w1,w2,w3⟩
  ·rw[u1,w1]
  ·exact(hbc (by rw[<-u2,<-w2])).elim
  ·exact(dd.ow k _ l ys x e w2 w3 (by rw[u2];exact hcA)).elim
  ·exact(hbc (by rw[<-u2,<-w2])).elim
  ·rw[u1,w1]
  ·exact(dd.ow k _ l ys x e w2 w3 (by rw[u2];exact RT)).elim
  ·exact(dd.ow k _ m xs x e u2 u3 (by rw[w2];exact hcA)).elim
  ·exact(dd.ow k _ m xs x e u2 u3 (by rw[w2];exact RT)).elim
  ·exact r.inj m l xs ys x u2 w2 u3 w3
 ·rcases f m _ q with⟨_,z,_⟩|⟨_,_,z,_⟩|⟨_,_,_,z⟩|⟨z1,z2,z3,z⟩
  ·cases z
  ·cases z
  ·cases z
  ·rw[so m z1 z2]
   exact r.raw m v z
 ·rcases f m _ q with⟨_,z,_⟩|⟨_,_,z,_⟩|⟨_,_,_,z⟩|⟨z1,z2,z3,z⟩
  ·cases z
  ·cases z
  ·cases z
  ·rw[so m z1 z2]
   exact dd.dp m nss z
 ·rcases f m _ q1 with⟨_,z,_⟩|⟨_,_,z,_⟩|⟨_,_,_,z⟩|⟨z1,z2,z3,z⟩
  ·cases z
  ·cases z
  ·cases z
  ·rcases ow l xs x q2 q3 with⟨_,w2⟩|⟨_,_,w2⟩|⟨_,_,w2,w3⟩
   ·rw[w2]
    exact dd.dj k m _ nss (Ne.symm z3) e z c hcA
   ·rw[w2]
    exact dd.dj k m _ nss (Ne.symm z3) e z b RT
   ·exact dd.ow m nss l xs x z w2 w3
 ·rcases f m _ q1 with⟨_,z,_⟩|⟨_,_,z,_⟩|⟨_,_,_,z⟩|⟨_,_,_,z⟩
  ·cases z
  ·cases z
  ·cases z
  ·rcases f l _ q2 with⟨_,y,_⟩|⟨_,_,y,_⟩|⟨_,_,_,y⟩|⟨_,_,_,y⟩
   ·cases y
   ·cases y
   ·cases y
   ·exact dd.dj m l nss qw LH z y
end
def YL(i j k:Nat)(env:DE):List (List Int)->R Out
 |[ns,ms]=>.ok (.nx (((env.set k .no).set i (.own (aW ns))).set j (.own (aW ms))))
 |_=>.bad
section
variable{X:Cx}{E:Str->Hp->Prop}{pos:Pos}
def akT(i j k:Nat){x y z:Str}{px py pz pt:Pos}{kt}(hc:X.calm=true)(hN:X.N.Nodup)(hi:X.N[i]?=aa x:=by rfl)(hj:X.N[j]?=aa y:=by rfl)(hk:X.N[k]?=aa z:=by rfl)(hij:i≠j:=by decide)(hik:i≠k:=by decide)(hjk:j≠k:=by decide)
  (hx:Loc X.env.scope x:=by first|exact aR rfl|exact aS rfl)(hy:Loc X.env.scope y:=by first|exact aR rfl|exact aS rfl)
  (hfx:X.fn x=true\/X.env.scope.names.lookup x=aa .local:=by first|exact .inl rfl|exact .inr rfl|assumption)(hfy:X.fn y=true\/X.env.scope.names.lookup y=aa .local:=by first|exact .inl rfl|exact .inr rfl|assumption)
  (hv:BI X.env.scope z:=by first|exact aR rfl|exact aS (aR rfl)|exact aS (aS rfl))(hd:(z==("__debug__":Str))=false:=by decide)(hcd:(z==("__classdict__":Str))=false:=by decide)
  (hs:yY [.Tuple [.Name x px,.Name y py] kt pt] (.Name z pz) pos.line X.env=bc false:=by rfl)(hw:yZ [.Tuple [.Name x px,.Name y py] kt pt] (.Name z pz) X.env=bc none:=by rfl)
  (h1:(eu [.Tuple [.Name x px,.Name y py] kt pt] X.env).map (·.2)=[jf (.Tuple [.Name x px,.Name y py] kt pt) X.env]:=by rfl)
  (hn:(eu [.Name x px,.Name y py] X.env).length=2:=by rfl)(hst:(eu [.Name x px,.Name y py] X.env).findIdx? (·.1)=none:=by rfl)
  (ha:(eu (.Name x px::[.Name y py]) X.env).map (·.2)=jf (.Name x px) X.env::(eu [.Name y py] X.env).map (·.2):=by rfl)
  (hb:(eu (.Name y py::[]) X.env).map (·.2)=jf (.Name y py) X.env::(eu [] X.env).map (·.2):=by rfl):
  PS X (.Assign [.Tuple [.Name x px,.Name y py] kt pt] (.Name z pz) pos) (tS X.K E λenv=>(zM k env).bind (YL i j k env)):=
 oV (GR (ju hk hv hd hcd) (R6 hc (Dr (xn hN hi hx hfx) (Dr (xn hN hj hy hfy) MS hb) ha) hn hst) hs hw h1) λDe σ H ⟨g,env,os,r,m⟩=>by
  obtain⟨nss,e1,m2⟩:=m.bind.ag9;unfold YL at m2;split at m2
  ·rename_i ns ms
   obtain⟨a,as,q1,q2,q3,q4⟩:=r.TR e1;obtain⟨b,hb1,_⟩:=q4 0 ns rfl;obtain⟨c,hc1,_⟩:=q4 1 ms rfl;have has:as=[b,c]:=by
    match as,q3,hb1,hc1 with
    |[u,v],_,hb1,hc1=>simp at hb1 hc1;rw[hb1,hc1]
   subst has;exact⟨.ref a,q1,a,_,rfl,EU.of q2,rfl,.ref b,_,rfl,.ref c,_,rfl,rfl,(show gy X.K g H os De (.nx _)from m2) _ _ os (r.unp e1 hij hik hjk q1 q2) (.refl _ _)⟩
  ·exact m2.elim
def JJ:List D->R (List D)
 |[.int x,.int y]=> @ite _ (0<=x/\x<=1000/\y<=1000/\0<=y) (dR _) (.ok (JF x 1 (dz x y 1).toNat)) .bad
 |_=>.bad
def YM{a b:ao}{p p2 sC:Pos}{f:DE->R (List D)}(hc:X.calm=true)(LH:X.mg "list"=none)(hmr:X.mg "range"=none)(ha:PA X [a,b] (yf X.K E f))(hgl:Gl X "list":=by rfl)(hgr:Gl X "range":=by rfl)
  (hs:ar [a,b] X.env=(false,aA a X.env)::ar [b] X.env:=by rfl)(Tw:(bA sC (ar [b] X.env)).any (·.1)=false:=by rfl)(he:ar [.Call (.Name "range" p2) [a,b] [] sC] X.env=(false,aA (.Call (.Name "range" p2) [a,b] [] sC) X.env)::ar [] X.env:=by rfl)(hpl:(bA pos (ar [] X.env)).any (·.1)=false:=by rfl):
  PE X (.Call (.Name "list" p) [.Call (.Name "range" p2) [a,b] [] sC] [] pos) (tF X.K E λenv=>(f env).bind JJ):=by
 intro pins s σ H Q I h;obtain⟨g,env,os,r,m⟩:=h;refine uk (j3 I hgl LH nU ?_);refine jN ?_ he hpl;rw[he];refine xt ?_;refine rC (j3 I hgr hmr zE (jN (fJ (ha sC pins s σ H _ I ⟨g,env,os,r,m.bind.mono λds _ q vs H1 s1 i1=>(⟨ds,s1,i1,q⟩:∃ds,bK H H1/\IsL X.K Tr H1 ds vs/\Good E g.H₀ (JJ ds) _)⟩) λus s1 ⟨vs,H1,I1,r1,ds,sm,i1,q⟩=>?_) hs Tw));unfold JJ at q;split at q
 ·rename_i x y
  split at q
  ·rename_i h
   obtain⟨v1,v2,rfl,k1,k2⟩:=IsL.QM i1;have k1':v1=.int x:=k1;have k2':v2=.int y:=k2;subst k1' k2';obtain⟨u1,u2,rfl,⟨t1,rfl⟩,⟨t2,rfl⟩⟩:=vals2 r1;refine call_range_2 ?_;have I2:Inv X pins σ H1 {s1 with heap:=s1.heap.push {cls:=.type "range",data:=.fields #[.int x t1,.int y t2,.int 1 s1.toks]},toks:=s1.toks+1}:=I1.kept λb o e=>cZ _ e;refine xr ?_;have hd:X.A.handled=none:=I.ok.hd hc;have hn2:0<=dz x y 1/\dz x y 1<=1000:=by rw[Cw];split<;>lia
   have hsz:dz x y 1=((dz x y 1).toNat:Nat):=by lia
   refine N6 hd (rB.new ..) (MU (by lia) (by lia) (by lia) (by lia)) hsz (by lia) λh' tk sE c' hk hl hit=>?_;obtain⟨hi1,hi2⟩:=hit;have hv:Vals ((b9 (dz x y 1).toNat).map λi=>V.int (x+(i:Nat)*1)) sE.toList:=wb (by simpa using hi1) λi v e=>hi2 i v (by simpa using e);have hlen:((b9 (dz x y 1).toNat).map λi=>V.int (x+(i:Nat)*1)).length<=aI:=by
    rw[aB,zF];exact iF (show(dz x y 1).toNat<=2000000 by lia) (by decide)
   refine⟨.ref _,upd H1 _ (.lst ((b9 (dz x y 1).toNat).map λi=>V.int (x+(i:Nat)*1))),I2.laid (a:=_) hk (bf _) ⟨hlen,sE.toList,c',hv,by simpa using hl⟩,rfl,?_⟩;have hn:H1 (s1.heap.push {cls:=.type "range",data:=.fields #[.int x t1,.int y t2,.int 1 s1.toks]}).objs.size=none:=I2.hok.fresh (bf _);exact q _ _ _ (sm.trans (bR hn _)) (sm.free hn) aT Oj
  ·exact q.elim
 ·exact q.elim
end
abbrev Fm:=Int×List (List Int)
def wc(q:Fm):D:=.tup [.int q.1,.lst (q.2.map λns=>.lst (ns.map .int))]
def tfO:Out->R Fm
 |.CF (.tf h nss)=>.ok (h,nss)
 |_=>.bad
def ahh(K:ak)(m:List D->R Fm):Sp:=λvs H Q E=>∃P ds,IsL K P H ds vs/\(match m ds with
 |.ok ts=>∀(a:ae)(H':Hp),bK H H'->E5 K H H' a (.tf ts.1 ts.2)->Q (.ref a) H'
 |_=>False)
def YN(n N:Nat)(b:DE->R Out)(ds:List D):R Fm:=if ds.length=n then((b (aN N ds)).bind tfO).ne else .bad
abbrev Fd(P:aU)(w:aF)(K:ak)(mg:Str->Option ah)(base:aD)(k:Nat)(f:ae)(fd:aL)(ps:List Str)(m:List D->R Fm):Prop:=fM P w K mg base qv k f fd ps (ahh K m)
section
variable{P:aU}{w:aF}{K:ak}{mg:Str->Option ah}{base:aD}
def ahi{x:Str}{st:aC}{f:ae}{fd:aL}{N ps:List Str}{k:Nat}{b:DE->R Out}(S:bp N ps (az st))(d:Df K mg x st ps f fd)
  (hb:∀(cdv:ah)(A:bu)(outer:List Env)(s:aj)(H:Hp)(E:XK),cV k (A.deeper (fQ x (az st) s.heap.objs.size f cdv))->xj (vV qv P w K mg base N x (az st) f cdv A outer s H E).MP (dQ st) (tS K EN b)):
  Fd P w K mg base (k+1) f fd ps (YN ps.length N.length b):=by
 refine d.F.ok S (λvs H Q E h=>?_) (λcdv A outer s H vs Q E hr h=>?_)
 ·obtain⟨Pa,ds,i,h⟩:=h
  cases e:YN ps.length N.length b ds with
  |ok nss=>
   rw[i.length];unfold YN at e;split at e
   ·assumption
   ·cases e
  |err c=>rw[e]at h;exact h.elim
  |bad=>rw[e]at h;exact h.elim
 ·obtain⟨Pa,ds,i,h⟩:=h
  refine⟨_,hb cdv A outer s H E hr,⟨⟨Pa,H⟩,aN N.length ds,[],sZ i,?_⟩⟩;cases e:YN ps.length N.length b ds with
  |err c=>rw[e]at h;exact h.elim
  |bad=>rw[e]at h;exact h.elim
  |ok nss=>
   rw[e]at h;unfold YN at e;split at e
   ·have q:=R.dZ e
    cases eb:b (aN N.length ds)with
    |bad=>rw[eb]at q;cases q
    |err c=>rw[eb]at q;cases q
    |ok o=>
     rw[eb]at q;cases o with
     |CF c=>
      cases c with
      |tf h0 ts=>cases q;exact λa H' s' nd=>h a H' s' nd
      |ls _=>cases q
      |tp _=>cases q
      |dk _=>cases q
      |tq _ _=>cases q
      |tv _ _=>cases q
      |tr _=>cases q
     |Lz _=>cases q
     |FN _=>cases q
     |FJ _=>cases q
     |uz _=>cases q
     |rt _=>cases q
     |nx _=>cases q
     |bk _=>cases q
     |ct _=>cases q
   ·cases e
end
section
variable{X:Cx}{E:Str->Hp->Prop}{pos:Pos}
def tFo(K:ak)(E:Str->Hp->Prop)(f:DE->R Fm):TE:=λσ H Q=>∃g env os,Rel K g env σ H os/\Good E g.H₀ (f env) λts=>∀(a:ae)(H':Hp),bK H H'->E5 K H H' a (.tf ts.1 ts.2)->Q (.ref a) H'
def JK{x:Str}{st:aC}{ps:List Str}{fa:ae}{fd:aL}{k:Nat}{p:Pos}{e:ao}{es:List ao}{f:DE->R (List D)}{m:List D->R Fm}(d:Df X.K X.mg x st ps fa fd)(F:Fd X.prog X.w X.K X.mg X.base k fa fd ps m)(hr:cV k X.A)
  (ha:PA X (e::es) (yf X.K E f))(hg:Gl X x:=by rfl)(hdb:(x==("__debug__":Str))=false:=by decide)(he:ar (e::es) X.env=(false,aA e X.env)::ar es X.env:=by rfl)(hpl:(bA pos (ar es X.env)).any (·.1)=false:=by rfl):
  PE X (.Call (.Name x p) (e::es) [] pos) (tFo X.K E λenv=>((f env).bind m).ne):=
 imp (g4 (E:=λ_ _ _=>False) F hr hg d.m d.F.kp d.b .nil pS ha hdb he hpl) λσ H Q ⟨g,env,os,r,q⟩=>⟨g,env,os,r,by
  dsimp only at q;cases ef:f env with
  |bad=>rw[ef]at q;exact q.elim
  |err c=>rw[ef]at q;exact q.elim
  |ok ds=>
   rw[ef]at q;cases em:m ds with
   |bad=>rw[show((R.ok ds).bind m)=m ds from rfl,em]at q;exact q.elim
   |err c=>rw[show((R.ok ds).bind m)=m ds from rfl,em]at q;exact q.elim
   |ok nss=>
    rw[show((R.ok ds).bind m)=m ds from rfl,em]at q;intro vs H1 s1 i1;show ahh X.K m (vs++[]) H1 Q _;rw[bE];refine⟨_,ds,i1,?_⟩;rw[em];exact λa H' s' nd=>q a H' (s1.trans s') (nd.back s1)⟩
def E5.isF {K:ak}{H H':Hp}{P:ae->Prop}{a:ae}{q:Fm}(nd:E5 K H H' a (.tf q.1 q.2))(hP:∀b,H b=none->P b):Is K P H' (wc q) (.ref a):=by
 obtain⟨as,fr,m,bs,rfl,_,_,h4,h5⟩:=nd;exact⟨a,_,rfl,.inl ⟨hP _ (fr a (by simp)),.inl h4⟩,⟨_,_,rfl,rfl,⟨_,_,rfl,⟨m,_,rfl,.inl ⟨hP _ (fr m (by simp)),.inl h5.ha⟩,DN h5.len (λb hb=>hP _ (fr b (by simp[hb]))) λk b ns e1 e2=>(h5.it k b ns e1 e2).2⟩,rfl⟩⟩⟩
def PE.F0 {e:ao}{f:DE->R Fm}(h:PE X e (tFo X.K E f)):PE X e (tD X.K E λenv=>(f env).bind λq=>.ok (wc q)):=
 imp h λσ H Q ⟨g,env,os,r,m⟩=>⟨g,env,os,r,m.bind.mono λts _ q a H' s nd=>q (.ref a) H' s (nd.isF λb hb=>r.fresh hb)⟩
def TV{e:ao}{f:DE->R Fm}(he:PE X e (tFo X.K E f)):PS X (.Return (aa e) pos) (tS X.K E λenv=>(f env).bind λq=>.ok (.CF (.tf q.1 q.2))):=
 oV (nq he) λDe σ H ⟨g,env,os,r,m⟩=>⟨g,env,os,r,m.bind.mono λq _ m2 a H' s nd=>(show gy X.K g H os De (.CF (.tf q.1 q.2))from m2) a H' (r.ext.trans s) (nd.back r.ext)⟩
def TX(i:Nat)(env:DE):R Fm:=match env[i]? with
 |some (.deep (.tf h nss))=>.ok (h,nss)
 |_=>.bad
def Good.fos {H₀:Hp}{i:Nat}{env:DE}{p:Fm->Prop}(h:Good E H₀ (TX i env) p):∃k nss,env[i]?=aa (.deep (.tf k nss))/\p (k,nss):=by
 unfold TX at h;split at h
 ·rename_i k nss e
  exact⟨k,nss,e,h⟩
 ·exact h.elim
def TY{K:ak}{H₀ H:Hp}{p m:ae}{bs:List ae}{nss:List (List Int)}{s:Int}(hp:H p=none)(h0:H₀ p=none)(fr:∀b∈m::bs,H₀ b=none){os:List ae}(d:BO HO.lst H os m bs nss):
  E5 K H₀ (upd H p (.tup [.int s,.ref m])) p (.tf s nss):=by
 have hne:∀b∈m::bs,p≠b:=λb hb z=>by
  obtain⟨_,o,q⟩:=d.mem b hb;rw[<-z,hp]at q;cases q
 refine⟨m::bs,λx hx=>?_,m,bs,rfl,by simp,λz=>hne p z rfl,aT,d.to λx hx=>⟨by simp at hx⊢;rcases hx with rfl|hx<;>simp[*],aH (Ne.symm (hne x hx))⟩⟩;rcases aX.mp hx with rfl|hx
 ·exact h0
 ·exact fr x hx
def adI(j:Nat){x:Str}{e1 ei:ao}{f1 fi:DE->R D}{px p1 tp:Pos}{x1}(h1:PE X e1 (tB X.K E f1))(hi:PE X ei (tB X.K E fi))(hN:X.N[j]?=aa x:=by rfl)(hv:BI X.env.scope x:=by first|exact aR rfl|exact aS (aR rfl)|exact aS (aS rfl))(hd:(x==("__debug__":Str))=false:=by decide)
  (hcd:(x==("__classdict__":Str))=false:=by decide)(hpi:uq ei:=by exact λ_ _=>rfl)
  (hs:ar [e1,.Subscript (.Name x px) ei p1] X.env=(false,aA e1 X.env)::ar [.Subscript (.Name x px) ei p1] X.env:=by rfl)(hs2:ar [.Subscript (.Name x px) ei p1] X.env=(false,aA (.Subscript (.Name x px) ei p1) X.env)::ar [] X.env:=by rfl):
  PS X (.Return (aa (.Tuple [e1,.Subscript (.Name x px) ei p1] x1 tp)) pos) (tS X.K E λenv=>(f1 env).bind λd=>(FW d).bind λs=>(TX j env).bind λq=>(fi env).bind λk=>(FZ k).bind λ_=>.ok (.CF (.tf s q.2))):=
 oV (nq (vU (bh h1 (bh (j7 AO (ju hN hv hd hcd) hi hpi) bV hs2) hs))) λDe σ H ⟨g,env,os,r,m⟩=>⟨g,env,os,r,m.bind.mono λd _ m1 v H1 s1 i1=>by
  obtain⟨s,rfl,m2⟩:=m1.bind.int;have ev:v=.int s:=i1;subst ev;obtain⟨h,nss,e,m3⟩:=m2.bind.fos;have r1:=r.same s1;obtain⟨A,dd⟩:=r1.Jk;obtain⟨a,as,_,q1,b0,bs,rfl,q2,q3,q4,q5⟩:=dd.dp j _ e;refine⟨.ref a,q1,g,env,os,r1,m3.bind.mono λk _ m4 w H2 s2 i2=>?_⟩;obtain⟨rfl,m5⟩:=m4.bind.one;refine⟨a,_,1,.ref b0,rfl,i2,EU.of (s2 _ _ q4),rfl,(by show 2<=aI;decide),λp hp=>?_⟩;have ss:=s1.trans s2;have q6:=q5.to (H':=H2) (os':=os) λx hx=>by
   obtain⟨z1,o,z2⟩:=q5.mem x hx;exact⟨z1,by rw[s2 x o z2,z2]⟩
  refine(show gy X.K g H os De (.CF (.tf s nss))from m5) p _ ((r.ext.trans ss).trans (bR hp _)) (TY hp ((r.ext.trans ss).free hp) (λb hb=>?_) q6);exact(r.new b (q5.mem b hb).1).1⟩
def YQ(x y:D):Option D:=match x,y with
 |.int k,.lst xs=>(CO xs).map λns=>.bl (decide (k∈ns))
 |_,_=>none
def YR:sV X (rIn X.K false) YQ:=λx y d e=>by
 unfold YQ at e;split at e
 ·rename_i k xs
  cases q:CO xs with
  |none=>rw[q]at e;cases e
  |some ns=>
   rw[q]at e;cases e;have e2:=yN q;subst e2;refine⟨_,rfl,λH v w Q h1 h2 hq=>?_⟩;have h1':v=.int k:=h1;subst h1';obtain⟨a,vs,rfl,l,i⟩:=h2;have ev:=iQ i;subst ev;refine⟨a,_,rfl,.inl l.sq,rfl,FY ns,?_⟩;rw[if_neg di,JH];exact hq
 ·cases e
end
noncomputable def DQ(env:DE):R Out:=
 ((((((((cy 0 env>=>λjA=>R.ok (D.int 1000003)>=>λpe=>R.of (zu jA pe))>=>λoY=>R.ok (D.int 7)>=>λnz=>R.of (QL oY nz))>=>λv10=>(cy 1 env>=>λnW=>cy 1 env>=>λpU=>R.of (QL nW pU))>=>λv11=>R.of (oX v10 v11))>=>λv8=>R.ok (D.int 1)>=>λv9=>R.of (oX v8 v9))>=>λv6=>cy 2 env>=>λv7=>R.of (QL v6 v7))>=>λv4=>R.ok (D.int 2147483647)>=>λv5=>R.of (zu v4 v5))>=>λv2=>R.ok (D.int 16)>=>λv3=>R.of (Jm v2 v3))>=>λv1=>R.ok (Out.rt v1))
def kY:=mS 3 3 DQ
noncomputable def we(env:DE):R Out:=
 (cg (((cy 1 env>=>λv4=>R.ok (D.int 1)>=>λv5=>R.of (FQ v4 v5)>=>jk)>=>λv3=>if v3=true then((cy 0 env>=>λv8=>R.ok (D.int 13)>=>λv9=>R.of (zu v8 v9))>=>λv6=>R.ok (D.int 5)>=>λv7=>R.of (FQ v6 v7)>=>jk)else R.ok false)>=>λv2=>if v2=true then(R.ok (D.int 1)>=>λv10=>R.ok (Out.rt v10))else(R.ok (Out.nx env))) λv1=>
 (cg (((R.ok (D.int 2)>=>λjA=>(cy 1 v1>=>λnW=>R.ok []>=>λpU=>R.ok (nW::pU))>=>λpe=>R.ok (jA::pe))>=>λnz=>R.of (NP nz))>=>λoY=>R.ok (Out.nx (List.set v1 1 (Sl.val oY)))) λv11=>
 ((cy 1 v11>=>λnA=>((cy 0 v11>=>λud=>R.ok (D.int 13)>=>λsQ=>R.of (Jm ud sQ))>=>λtm=>((cy 2 v11>=>λyk=>cy 1 v11>=>λvN=>R.of (oW yk vN))>=>λuM=>R.ok (D.int 1)>=>λwg=>R.of (oX uM wg))>=>λnc=>R.of (zu tm nc))>=>λv20=>R.of (oX nA v20))>=>λqD=>R.ok (Out.rt qD))))
def jB:=mS 3 3 we
noncomputable def vC(env:DE):R Out:=
 (cg ((R.ok (D.int 1)>=>λv3=>(cy 0 env>=>λv5=>(cy 1 env>=>λv7=>R.ok (D.int 1)>=>λv8=>R.of (oW v7 v8))>=>λv6=>R.of (zu v5 v6))>=>λv4=>R.of (oX v3 v4))>=>λv2=>R.ok (Out.nx (List.set env 2 (Sl.val v2)))) λv1=>
 (cg ((((cy 0 v1>=>λpe=>R.ok (D.int 8)>=>λnW=>R.of (Jm pe nW))>=>λnz=>R.ok (D.int 2)>=>λjA=>R.of (zu nz jA))>=>λv11=>R.ok (D.int 1)>=>λoY=>R.of (FQ v11 oY)>=>jk)>=>λv10=>if v10=true then((cy 2 v1>=>λqD=>R.of (vX qD))>=>λpU=>R.ok (Out.rt pU))else(R.ok (Out.nx v1))) λv9=>
 (dG 2 v9>=>λnA=>R.ok (Out.rt nA))))
def iX:=mS 2 3 vC
noncomputable def zN(env:DE):R Out:=
 (cg (((cy 0 env>=>λv3=>(cy 1 env>=>λv5=>R.ok []>=>λv6=>R.ok (v5::v6))>=>λv4=>R.ok (v3::v4))>=>iX)>=>λv2=>R.ok (Out.nx (List.set env 2 (Sl.val v2)))) λv1=>
 (cg (((((cy 0 v1>=>λjA=>R.ok (D.int 16)>=>λpe=>R.of (Jm jA pe))>=>λoY=>R.ok (D.int 4)>=>λnz=>R.of (zu oY nz))>=>λv10=>R.ok (D.int 0)>=>λv11=>R.of (IQ v10 v11)>=>jk)>=>λv9=>if v9=true then R.ok true else(cy 1 v1>=>λnW=>R.ok (D.int 3)>=>λpU=>R.of (V9 nW pU)>=>jk))>=>λv8=>if v8=true then((((dG 2 v1>=>λv20=>R.ok []>=>λtm=>R.ok (v20::tm))>=>fit)>=>λnA=>R.ok (D.lst nA))>=>λqD=>R.ok (Out.rt qD))else(R.ok (Out.nx v1))) λv7=>
 (cg (((((((cy 2 v7>=>λzO=>R.ok (D.int 1)>=>λHK=>R.of (oX zO HK))>=>λA8=>R.ok []>=>λv30=>R.ok (A8::v30))>=>λvN=>R.of (QN vN))>=>λwg=>cy 1 v7>=>λyk=>R.of (V9 wg yk)>=>jk)>=>λuM=>if uM=true then((cy 2 v7>=>λHL=>R.ok (D.int 1)>=>λDR=>R.of (oX HL DR))>=>λHM=>R.ok (D.int 0)>=>λHN=>R.of (BU HM HN)>=>jk)else R.ok false)>=>λsQ=>if sQ=true then(cy 2 v7>=>λF3=>R.ok (D.int 1)>=>λLa=>R.of (oX F3 La))else(cy 2 v7>=>λLP=>R.ok (D.int 1)>=>λOo=>R.of (oW LP Oo)))>=>λud=>R.ok (Out.nx (List.set v7 3 (Sl.val ud)))) λnc=>
 (((((((dG 2 nc>=>λTZ=>(dG 3 nc>=>λT3=>(dG 2 nc>=>λJL=>R.ok []>=>λOq=>R.ok (JL::Oq))>=>λT4=>R.ok (T3::T4))>=>λT5=>R.ok (TZ::T5))>=>fit)>=>λT6=>R.ok (D.lst T6))>=>λOt=>((((dG 2 nc>=>λYS=>(dG 3 nc>=>λYT=>R.ok []>=>λYU=>R.ok (YT::YU))>=>λQX=>R.ok (YS::QX))>=>fit)>=>λYV=>R.ok (D.lst YV))>=>λYW=>((((dG 2 nc>=>λYX=>(dG 2 nc>=>λv65=>R.ok []>=>λLQ=>R.ok (v65::LQ))>=>λYY=>R.ok (YX::YY))>=>fit)>=>λYZ=>R.ok (D.lst YZ))>=>λY0=>((((dG 2 nc>=>λv70=>((cy 3 nc>=>λv74=>R.of (vX v74))>=>λv72=>(dG 2 nc>=>λv75=>R.ok []>=>λv76=>R.ok (v75::v76))>=>λT7=>R.ok (v72::T7))>=>λv71=>R.ok (v70::v71))>=>fit)>=>λv69=>R.ok (D.lst v69))>=>λv67=>R.ok []>=>λv68=>R.ok (v67::v68))>=>λQY=>R.ok (Y0::QY))>=>λv54=>R.ok (YW::v54))>=>λQZ=>R.ok (Ot::QZ))>=>fit)>=>λIV=>((cy 0 nc>=>λv79=>R.ok (D.int 64)>=>λv80=>R.of (Jm v79 v80))>=>λv77=>R.ok (D.int 4)>=>λv78=>R.of (zu v77 v78))>=>λHP=>E7 IV HP)>=>λQ0=>R.ok (Out.rt Q0)))))
def my:=mD 2 4 zN
noncomputable def pG(d:D)(env:DE):R Out:=
 (bT 2 (pT (bN 4) (pT (bN 5) Fc))) d env>=>λv8=>
  ((cy 1 v8>=>λv10=>R.ok (D.int 1)>=>λv11=>R.of (IQ v10 v11)>=>jk)>=>λv9=>if v9=true then(((rg 3 v8>=>λjA=>(((((cy 5 v8>=>λqD=>(cy 4 v8>=>λv20=>(R.ok (D.int 48271)>=>λnc=>R.ok []>=>λud=>R.ok (nc::ud))>=>λtm=>R.ok (v20::tm))>=>λnA=>R.ok (qD::nA))>=>kY)>=>λnW=>(dG 1 v8>=>λsQ=>R.ok []>=>λuM=>R.ok (sQ::uM))>=>λpU=>R.ok (nW::pU))>=>my)>=>zt)>=>λpe=>fit (jA++pe))>=>λnz=>R.ok (D.lst nz))>=>λoY=>R.ok (Out.nx (List.set v8 3 (Sl.val oY))))else(R.ok (Out.nx v8)))
noncomputable def zP(env:DE):R Out:=
 (cg (((R.ok []>=>fit)>=>λv3=>R.ok (D.lst v3))>=>λv2=>R.ok (Out.nx (List.set env 3 (Sl.val v2)))) λv1=>
 (cg ((dG 0 v1>=>λwg=>zt wg>=>λxs=>R.ok (jz xs))>=>λv5=>iO pG v5 v1) λv4=>
 ((rg 3 v4>=>λvN=>R.ok none>=>λA8=>(cy 2 v4>=>RK)>=>λv30=>R.ok (cut vN A8 v30))>=>λyk=>R.ok (Out.uz yk))))
def mz:=dH 3 6 zP
def LR(c k f:Int):Int:=(c%1000003*7+k*k+1)*f%2147483647/16
def T8(c k f:Int)(hk:0<=k/\k<1000000)(hf:0<=f/\f<2147483647):kY [.int c,.int k,.int f]=.ok (.int (LR c k f)):=by
 have h1:=CU c (show(1000003:Int)≠0 by decide);have h2:=CV c (show(0:Int)<1000003 by decide);unfold kY DQ;dsimp [mS,mD,mF,dH,aN,reduceAdd,reduceSub,reduceEqDiff];rw[pD c 1000003 (by decide)];simp_all only [R.rF,R.cB];rw[LJ _ 7 (.inr (by decide))];simp_all only [R.rF,R.cB];rw[LJ k k (.inl (by lia))];simp_all only [R.rF,R.cB,Hu];rw[LJ _ f (.inr (by lia))];simp_all only [R.rF,R.cB];rw[pD _ 2147483647 (by decide)];simp_all only [R.rF,R.cB];rw[DK _ 16 (by decide)];rfl
def tw(s:Int):Int:=if s%13=5 then 1 else 2+s/13%6
def LS(s:Int):jB [.int s,.int 1,.int 7]=.ok (.int (tw s)):=by
 unfold jB we tw;dsimp [mS,mD,mF,dH,aN,reduceAdd,reduceSub,reduceEqDiff];rw[pD s 13 (by decide)];dsimp [beq_self_eq_true]
 by_cases h:s%13=5
 ·dsimp [h,beq_self_eq_true]
 ·have h':(s%13==5)=false:=beq_false_of_ne h
  dsimp [h',h];rw[DK s 13 (by decide)];dsimp;rw[pD _ _ (by decide)];rfl
def JM(s:Int):1<=tw s/\tw s<=7:=by
 unfold tw;split<;>lia
def jc(x n:Int):Int:=if x/8%2=1 then-(1+x%(n-1))else 1+x%(n-1)
def T9(x n:Int)(h:2<=n):iX [.int x,.int n]=.ok (.int (jc x n)):=by
 unfold iX vC jc;dsimp [mS,mD,mF,dH,aN,reduceAdd,reduceSub,reduceEqDiff];rw[pD x (n-1) (by lia)];dsimp;rw[DK x 8 (by decide)];dsimp;rw[pD _ 2 (by decide)];dsimp
 by_cases hc:x/8%2=1
 ·dsimp [hc,beq_self_eq_true]
 ·have RY:(x/8%2==1)=false:=beq_false_of_ne hc
  dsimp [hc,RY]
def gH(n k:Int):Prop:=k≠0/\ -n<k/\k<n
def Ua(x n:Int)(h:2<=n):gH n (jc x n):=by
 unfold jc gH;have h1:=CU x (show n-1≠0 by lia);have h2:=CV x (show 0<n-1 by lia);split<;>lia
def A9(k n:Int):Int:=if(if k+1<0 then-(k+1)else k+1)<n/\k+1≠0 then k+1 else k-1
def wj(x n:Int):List Int:=
 if x/16%4>0\/n<3 then[jc x n]else
  let k:=jc x n;let o:=A9 k n
  if x/64%4=0 then[k,o,k]else if x/64%4=1 then[k,o]else if x/64%4=2 then[k,k]else[k,-o,k]
def Ub{k n:Int}(h:3<=n)(hk:gH n k):gH n (A9 k n):=by
 unfold A9 gH at*;split<;>split at* <;>lia
def Uc{x n:Int}(h:2<=n):∀k∈wj x n,gH n k:=by
 have h1:=Ua x n h;unfold wj;split
 ·simp[h1]
 ·rename_i hc
  have h2:=Ub (n:=n) (by lia) h1;have h3:gH n (-A9 (jc x n) n):=by unfold gH at*;lia
  dsimp only;split
  ·simp[h1,h2]
  ·split
   ·simp[h1,h2]
   ·split<;>simp[h1,h3]
def F4(x n:Int):(wj x n).length<=3:=by
 unfold wj;split
 ·simp
 ·dsimp only
  split
  ·simp
  ·split
   ·simp
   ·split<;>simp
def Ud(x n:Int)(h:2<=n):my [.int x,.int n]=.ok (.lst (aW (wj x n))):=by
 unfold my zN wj;dsimp [mS,mD,mF,dH,aN,reduceAdd,reduceSub,reduceEqDiff];rw[T9 x n h];dsimp;rw[DK x 16 (by decide)];dsimp;rw[pD _ 4 (by decide)];dsimp
 by_cases h1:0<x/16%4
 ·have h1':x/16%4>0\/n<3:=.inl h1
  rw[if_pos h1'];dsimp [h1,decide_true];rfl
 ·by_cases h2:n<3
  ·have h1':x/16%4>0\/n<3:=.inr h2
   rw[if_pos h1'];dsimp [h1,h2,decide_true,decide_false];rfl
  ·have h1':¬(x/16%4>0\/n<3):=by lia
   rw[if_neg h1'];dsimp [h1,h2,decide_false];have ho:((if decide ((if jc x n+1<0 then-(jc x n+1)else jc x n+1)<n)=true then R.ok (!(jc x n+1==0))else R.ok false)>=>λt=>if t=true then R.ok (D.int (jc x n+1))else R.ok (D.int (jc x n-1)))=R.ok (D.int (A9 (jc x n) n)):=by
    unfold A9
    by_cases c1:(if jc x n+1<0 then-(jc x n+1)else jc x n+1)<n
    ·by_cases c2:jc x n+1=0
     ·simp[c1,c2,R.cB]
     ·simp[c1,c2,R.cB]
    ·simp[c1,R.cB]
   rw[ho];dsimp [mS,mD,mF,dH,aN,reduceAdd,reduceSub,reduceEqDiff];rw[DK x 64 (by decide)];dsimp;rw[pD _ 4 (by decide)];dsimp;have h5:=CU (x/64) (show(4:Int)≠0 by decide);have h6:=CV (x/64) (show(0:Int)<4 by decide);have h7:x/64%4=0\/x/64%4=1\/x/64%4=2\/x/64%4=3:=by lia
   rcases h7 with q|q|q|q<;>simp[q,L2.jJ,L2.yW,R.rF,R.cB,R.SX,aJ,aW]
def lN(n:Int)(cells:List Int)(i:Nat):List Int:=((b9 i).map λk=>match cells[k]? with
 |some c=>wj (LR c k 48271) n
 |none=>[]).flatten
def Ue{n:Int}{cells:List Int}{i:Nat}{c:Int}(h:cells[i]?=aa c):lN n cells (i+1)=lN n cells i++wj (LR c i 48271) n:=by
 unfold lN;rw[Ou,cj,rK];simp[h]
theorem Ov(n:Int)(cells:List Int):∀i:Nat,(lN n cells i).length<=3*i
 |0=>by simp[lN]
 |i+1=>by
  unfold lN;rw[Ou,cj,rK,bO];have ih:=Ov n cells i;unfold lN at ih;cases h:cells[i]? with
  |none=>simp_all only [h,bw,ji,dA,xN,bO,gG];lia
  |some c=>
   have:=F4 (LR c i 48271) n;simp_all only [h,bw,ji,dA,xN,bO,gG];lia
def adT{n:Int}(hn:2<=n)(cells:List Int)(i:Nat):∀k∈lN n cells i,gH n k:=by
 intro k hk;unfold lN at hk;rw[xO]at hk;obtain⟨l,hl,hk⟩:=hk;rw[cC]at hl;obtain⟨j,_,rfl⟩:=hl;cases h:cells[j]? with
 |none=>rw[h]at hk;cases hk
 |some c=>rw[h]at hk;exact Uc hn k hk
def DS(cells:List Int)(n most:Int):List Int:=(if 1<n then lN n cells cells.length else[]).take most.toNat
def JN{cells:List Int}{n most:Int}:∀k∈DS cells n most,gH n k:=by
 intro k hk;unfold DS at hk;have:=zQ hk;split at this
 ·exact adT (by lia) _ _ k this
 ·cases this
def JO(cells:List Int)(n most:Int)(hc:cells.length<=1000)(hn:1<=n)(hm:0<=most):mz [.lst (aW cells),.int n,.int most]=.ok (aW (DS cells n most)):=by
 unfold mz zP;dsimp [mS,mD,mF,dH,aN,reduceAdd,reduceSub,reduceEqDiff];obtain⟨s',e,hj⟩:=A5 (S:=List Int×Sl×Sl) (b:=pG)
  (λi s=>s.1=if 1<n then lN n cells i else[]) (λs=>[.val (.lst (aW cells)),.val (.int n),.val (.int most),.val (.lst (aW s.1)),s.2.1,s.2.2]) (jz (aW cells)) 0 ([],.no,.no) (by simp[lN]) (by
   rintro j ⟨wd,s4,s5⟩ x hs hx;obtain⟨c,hcj,rfl⟩:=FU hx;have hj:j<cells.length:=(bG.mp hcj).1;rw[jR]at hs⊢;have hs':wd=if 1<n then lN n cells j else[]:=hs;unfold pG;dsimp [mS,mD,mF,dH,aN,reduceAdd,reduceSub,reduceEqDiff,bT2]
   by_cases h1:1<n
   ·rw[if_pos h1]at hs'
    subst hs';have hl:=Ov n cells j;have hl2:=F4 (LR c j 48271) n;refine⟨(lN n cells (j+1),.val (.int (j:Nat)),.val (.int c)),?_,by simp[h1]⟩;dsimp [h1,decide_true];rw[T8 c j 48271 (by lia) (by decide)];dsimp;rw[Ud _ n (by lia)];dsimp [qc];rw[gq (by rw[bO];lia)];dsimp [Ue hcj]
   ·rw[if_neg h1]at hs'
    subst hs';exact⟨([],.val (.int (j:Nat)),.val (.int c)),by dsimp [h1,decide_false],by simp[h1]⟩)
 obtain⟨wd,s4,s5⟩:=s';have LU:wd=if 1<n then lN n cells (0+(jz (aW cells)).length)else[]:=hj;have he:(jz (aW cells)).length=cells.length:=by rw[QT,cM]
 rw[jR,he]at LU;rw[show aW []=[]from rfl]at e;rw[e];dsimp [rH];rw[A7 _ _ hm,mr];dsimp [LU];rfl
def Ow{w:List Int}{j:Nat}{x:D}(h:(aW w)[j]?=aa x):∃k,w[j]?=aa k/\x=.int k:=by
 rw[Yi]at h;cases q:w[j]? with
 |none=>rw[q]at h;cases h
 |some k=>rw[q]at h;cases h;exact⟨k,rfl,rfl⟩
def JP{α:Type}{w:List α}{j:Nat}{k:α}(h:w[j]?=aa k):w.take (j+1)=w.take j++[k]:=by
 rw[CW,h];rfl
def ahp{K:ak}{H:Hp}{a:ae}{m:List D->R D}{ns:List Int}(h:m [.lst (aW ns)]=.ok (.bl true))(hS:gb K H a (ns.map V.int)):NR K RO m [.ref a] H (λv _=>v=.bl true) λ_ _ _=>False:=by
 refine⟨Tr,[.lst (aW ns)],IsL.one ⟨a,_,rfl,Ca.any hS,?_⟩,?_⟩
 ·clear h hS
  induction ns with
  |nil=>rfl
  |cons x r ih=>exact⟨_,_,rfl,rfl,ih⟩
 ·rw[h]
  intro v H' _ i;exact i
def JQ(env:DE):R Bool:=
 R.ok true
def JR(env:DE):R D:=
 (cy 0 env>=>λv6=>R.of (vX v6))
def JS(env:DE):R Out:=
 (((dG 0 env>=>λv7=>zt v7>=>λxs=>R.ok (reverse xs))>=>λv2=>iW env []>=>λv3=>R.ne (ed (bN 0) JQ JR (ni 1 v3) v2)>=>fit)>=>λv1=>R.ok (Out.uz v1))
def qE:=dH 1 1 JS
noncomputable def uN(d:D)(env:DE):R Out:=
 (bN 2) d env>=>λv7=>
  (((((cy 1 v7>=>λnz=>R.ok []>=>λjA=>R.ok (nz::jA))>=>λoY=>R.of (vL oY))>=>λv10=>R.ok (D.int 0)>=>λv11=>R.of (IQ v10 v11)>=>jk)>=>λv9=>if v9=true then((rg 1 v7>=>λpU=>(R.ok (D.int 1)>=>λnA=>R.of (vX nA))>=>λqD=>E7 pU qD)>=>λpe=>(cy 2 v7>=>λv20=>R.of (vX v20))>=>λnW=>R.of (FQ pe nW)>=>jk)else R.ok false)>=>λv8=>if v8=true then(ownAt 1 v7>=>λtm=>adq 1 v7 tm)else(ownAt 1 v7>=>λnc=>dG 2 v7>=>λud=>QR 1 v7 nc ud))
def F5(env:DE):R Out:=
 (cg ((R.ok []>=>fit)>=>λv2=>R.ok (Out.nx (List.set env 1 (Sl.own v2)))) λv1=>
 (cg ((dG 0 v1>=>zt)>=>λv4=>iO uN v4 v1) λv3=>
 (ownAt 1 v3>=>λsQ=>R.ok (Out.uz sQ))))
def tE:=dH 1 3 F5
def DT(env:DE):R Out:=
 (((cy 0 env>=>λv2=>R.ok []>=>λv3=>R.ok (v2::v3))>=>rG)>=>λv1=>R.ok (Out.uz v1))
def fE:=dH 1 1 DT
noncomputable def Ug(env:DE):R Out:=
 ((((cy 0 env>=>λv4=>R.ok (D.int 1)>=>λv5=>R.of (oW v4 v5))>=>λv2=>((R.ok (D.int 1)>=>λv8=>R.of (vX v8))>=>λv6=>((R.ok (D.int 1)>=>λv11=>R.of (vX v11))>=>λv9=>R.ok []>=>λv10=>R.ok (v9::v10))>=>λv7=>R.ok (v6::v7))>=>λv3=>R.ok (v2::v3))>=>Tv)>=>λv1=>R.ok (Out.uz v1))
def yO:=dH 1 1 Ug
def qF(d:D)(env:DE):R Out:=
 (bT 2 (pT (bN 2) (pT (bN 3) Fc))) d env>=>λjA=>
  (dG 2 jA>=>λpe=>ownAt 1 jA>=>λnW=>cy 3 jA>=>λpU=>JB 1 jA pe nW pU)
noncomputable def BV(env:DE):R Out:=
 (cg ((((R.ok (D.int 0)>=>λv5=>R.ok []>=>λv6=>R.ok (v5::v6))>=>fit)>=>λv3=>((cy 0 env>=>λv8=>R.ok []>=>λv9=>R.ok (v8::v9))>=>λv7=>R.of (vL v7))>=>λv4=>Jy v3 v4)>=>λv2=>R.ok (Out.nx (List.set env 1 (Sl.own v2)))) λv1=>
 (cg ((dG 0 v1>=>λqD=>zt qD>=>λxs=>R.ok (jz xs))>=>λv11=>iO qF v11 v1) λv10=>
 (ownAt 1 v10>=>λnA=>R.ok (Out.uz nA))))
def fX:=dH 1 4 BV
def DU(env:DE):R Bool:=
 ((rg 1 env>=>λv8=>(cy 0 env>=>λv10=>R.ok (D.int 1)>=>λv11=>R.of (oW v10 v11))>=>λv9=>E7 v8 v9)>=>λv6=>(rg 1 env>=>λoY=>cy 0 env>=>λnz=>E7 oY nz)>=>λv7=>R.of (IQ v6 v7)>=>jk)
def DV(env:DE):R D:=
 (dG 0 env)
noncomputable def Ox(env:DE):R Out:=
 ((((R.ok (D.int 1)>=>λjA=>(((cy 0 env>=>λnA=>R.ok []>=>λv20=>R.ok (nA::v20))>=>λqD=>R.of (vL qD))>=>λnW=>R.ok []>=>λpU=>R.ok (nW::pU))>=>λpe=>R.ok (jA::pe))>=>LB)>=>λv2=>iW env [0]>=>λv3=>R.ne (ed (bN 0) DU DV (ni 1 v3) v2)>=>fit)>=>λv1=>R.ok (Out.uz v1))
def xP:=dH 1 1 Ox
noncomputable def mB(env:DE):R Out:=
 ((((rg 0 env>=>λv6=>R.ok none>=>λv7=>((cy 1 env>=>λv9=>R.ok (D.int 1)>=>λv10=>R.of (oW v9 v10))>=>RK)>=>λv8=>R.ok (cut v6 v7 v8))>=>λv4=>(((rg 0 env>=>λnz=>cy 1 env>=>λjA=>E7 nz jA)>=>λv11=>((rg 0 env>=>λpU=>(cy 1 env>=>λnA=>R.ok (D.int 1)>=>λv20=>R.of (oW nA v20))>=>λqD=>E7 pU qD)>=>λpe=>R.ok []>=>λnW=>R.ok (pe::nW))>=>λoY=>R.ok (v11::oY))>=>fit)>=>λv5=>fit (v4++v5))>=>λv2=>(rg 0 env>=>λtm=>((cy 1 env>=>λsQ=>R.ok (D.int 1)>=>λuM=>R.of (oX sQ uM))>=>RK)>=>λnc=>R.ok none>=>λud=>R.ok (cut tm nc ud))>=>λv3=>fit (v2++v3))>=>λv1=>R.ok (Out.uz v1))
def cD:=dH 2 2 mB
def Ba(env:DE):R Bool:=
 R.ok true
def tH(env:DE):R D:=
 ((((cy 1 env>=>λv11=>R.ok []>=>λoY=>R.ok (v11::oY))>=>λv10=>R.of (vL v10))>=>λv8=>R.ok (D.int 1)>=>λv9=>R.of (oW v8 v9))>=>λv6=>cy 0 env>=>λv7=>R.of (oW v6 v7))
def yA(env:DE):R Out:=
 (((dG 0 env>=>λnz=>zt nz>=>λxs=>R.ok (reverse xs))>=>λv2=>iW env [0]>=>λv3=>R.ne (ed (bN 0) Ba tH (ni 1 v3) v2)>=>fit)>=>λv1=>R.ok (Out.uz v1))
def j9:=dH 1 1 yA
def qd(d:D)(env:DE):R Out:=
 (bN 2) d env>=>λv7=>
  (dG 1 v7>=>λv8=>(R.ok (D.int 1)>=>λv10=>(cy 2 v7>=>λoY=>R.ok (D.int 1)>=>λnz=>R.of (oW oY nz))>=>λv11=>R.of (Yx v10 v11))>=>λv9=>QS (λi j=>PySem.Builtin.bitOr i j) 1 v7 v8 v9)
def F6(env:DE):R Out:=
 (cg (R.ok (D.int 0)>=>λv2=>R.ok (Out.nx (List.set env 1 (Sl.val v2)))) λv1=>
 (cg ((dG 0 v1>=>zt)>=>λv4=>iO qd v4 v1) λv3=>
 (dG 1 v3>=>λjA=>R.ok (Out.rt jA))))
def tJ:=mS 1 3 F6
noncomputable def wk(env:DE):R Out:=
 (cg ((cy 1 env>=>λv3=>((cy 0 env>=>λv6=>R.ok []>=>λv7=>R.ok (v6::v7))>=>λv5=>R.of (vL v5))>=>λv4=>R.of (V9 v3 v4)>=>jk)>=>λv2=>if v2=true then((rg 0 env>=>λv9=>cy 1 env>=>λv10=>E7 v9 v10)>=>λv8=>R.ok (Out.rt v8))else(R.ok (Out.nx env))) λv1=>
 (R.ok (D.int 0)>=>λv11=>R.ok (Out.rt v11)))
def ie:=mS 2 2 wk
noncomputable def jS(d:D)(env:DE):R Out:=
 (bT 2 (pT (bN 2) (pT (bN 3) Fc))) d env>=>λnA=>
  (((((cy 2 nA>=>λud=>EO "int" ud)>=>jk)>=>λnc=>R.ok (!nc))>=>λtm=>if tm=true then R.ok true else(((cy 2 nA>=>λuM=>EO "bool" uM)>=>jk)>=>λsQ=>if sQ=true then R.ok true else(cy 2 nA>=>λwg=>cy 3 nA>=>λyk=>R.of (BU wg yk)>=>jk)))>=>λv20=>if v20=true then(R.ok (D.bl false)>=>λvN=>R.ok (Out.rt vN))else(R.ok (Out.nx nA)))
noncomputable def yB(env:DE):R Out:=
 (cg (((((cy 0 env>=>λv5=>EO "list" v5)>=>jk)>=>λv4=>R.ok (!v4))>=>λv3=>if v3=true then R.ok true else(((cy 0 env>=>λv9=>R.ok []>=>λv10=>R.ok (v9::v10))>=>λv8=>R.of (vL v8))>=>λv6=>((cy 1 env>=>λoY=>R.ok []>=>λnz=>R.ok (oY::nz))>=>λv11=>R.of (vL v11))>=>λv7=>R.of (BU v6 v7)>=>jk))>=>λv2=>if v2=true then(R.ok (D.bl false)>=>λjA=>R.ok (Out.rt jA))else(R.ok (Out.nx env))) λv1=>
 (cg (((dG 0 v1>=>λA8=>(dG 1 v1>=>λzO=>R.ok []>=>λHK=>R.ok (zO::HK))>=>λv30=>R.ok (A8::v30))>=>zip2)>=>λnW=>iO jS nW v1) λpe=>
 (R.ok (D.bl true)>=>λHM=>R.ok (Out.rt HM))))
def i9:=mS 2 4 yB
def DW(env:DE):R Bool:=
 R.ok true
def wm(env:DE):R D:=
 (cy 0 env>=>λv6=>R.of (vX v6))
def BW(env:DE):R Out:=
 (((dG 0 env>=>λv7=>zt v7>=>λxs=>R.ok (reverse xs))>=>λv2=>iW env []>=>λv3=>R.ne (ed (bN 0) DW wm (ni 1 v3) v2)>=>fit)>=>λv1=>R.ok (Out.uz v1))
def oZ:=dH 1 1 BW
noncomputable def kD(d:D)(env:DE):R Out:=
 (bN 3) d env>=>λv10=>
  (cg (((cy 3 v10>=>λjA=>R.ok []>=>λpe=>R.ok (jA::pe))>=>λnz=>R.of (QN nz))>=>λoY=>R.ok (Out.nx (List.set v10 4 (Sl.val oY)))) λv11=>
 (((((rg 2 v11>=>λnc=>R.ok none>=>λud=>((cy 4 v11>=>λuM=>R.ok (D.int 1)>=>λwg=>R.of (oW uM wg))>=>RK)>=>λsQ=>R.ok (cut nc ud sQ))>=>λv20=>(((rg 2 v11>=>λA8=>cy 4 v11>=>λv30=>E7 A8 v30)>=>λyk=>((rg 2 v11>=>λHM=>(cy 4 v11>=>λHL=>R.ok (D.int 1)>=>λDR=>R.of (oW HL DR))>=>λHN=>E7 HM HN)>=>λzO=>R.ok []>=>λHK=>R.ok (zO::HK))>=>λvN=>R.ok (yk::vN))>=>fit)>=>λtm=>fit (v20++tm))>=>λqD=>(rg 2 v11>=>λF3=>((cy 4 v11>=>λOo=>R.ok (D.int 1)>=>λQ0=>R.of (oX Oo Q0))>=>RK)>=>λLa=>R.ok none>=>λLP=>R.ok (cut F3 La LP))>=>λnA=>fit (qD++nA))>=>λpU=>R.ok (D.lst pU))>=>λnW=>R.ok (Out.nx (List.set v11 2 (Sl.val nW)))))
def zR(env:DE):R Out:=
 (cg ((((cy 0 env>=>λv4=>R.ok []>=>λv5=>R.ok (v4::v5))>=>rG)>=>λv3=>R.ok (D.lst v3))>=>λv2=>R.ok (Out.nx (List.set env 2 (Sl.val v2)))) λv1=>
 (cg ((dG 1 v1>=>zt)>=>λv7=>iO kD v7 v1) λv6=>
 (dG 2 v6>=>λIV=>R.ok (Out.rt IV))))
def jT:=mD 2 5 zR
def zS(env:DE):R Bool:=
 ((((cy 0 env>=>λQX=>EO "int" QX)>=>jk)>=>λYS=>R.ok (!YS))>=>λYV=>if YV=true then R.ok true else((cy 0 env>=>λYT=>EO "bool" YT)>=>jk))
def zT(env:DE):R D:=
 (dG 0 env)
noncomputable def jn(d:D)(env:DE):R Out:=
 (bN 4) d env>=>λRU=>
  (((cy 2 RU>=>λv89=>R.ok D.non>=>λv90=>R.of (Jw v89 v90)>=>jk)>=>λv88=>if v88=true then(((rg 3 RU>=>λv94=>(cy 4 RU>=>λv96=>R.ok (D.int 1)>=>λv97=>R.of (oW v96 v97))>=>λv95=>pF v94 v95)>=>λv92=>(rg 3 RU>=>λv98=>cy 4 RU>=>λv99=>pF v98 v99)>=>λv93=>R.of (IQ v92 v93)>=>jk)>=>λv91=>if v91=true then((dG 2 RU>=>λadW=>(cy 4 RU>=>λadX=>R.ok (D.int 1)>=>λadY=>R.of (oW adX adY))>=>λadZ=>yh adW adZ)>=>λad0=>(dG 2 RU>=>λad1=>cy 4 RU>=>λad2=>yh ad1 ad2)>=>λad3=>R.of (V9 ad0 ad3)>=>jk)else R.ok false)else R.ok false)>=>λv87=>if v87=true then(R.ok (D.bl false)>=>λad4=>R.ok (Out.rt ad4))else(R.ok (Out.nx RU)))
noncomputable def jo(d:D)(env:DE):R Out:=
 (bN 3) d env>=>λIV=>
  (cg (((((cy 3 IV>=>λTZ=>EO "list" TZ)>=>jk)>=>λT6=>R.ok (!T6))>=>λQZ=>if QZ=true then R.ok true else((((dG 3 IV>=>zt)>=>λJL=>iW IV []>=>λOq=>R.ne (ed (bN 0) zS zT (ni 1 Oq) JL)>=>fit)>=>λT4=>R.ok (D.lst T4))>=>λT5=>((R.ok []>=>fit)>=>λYU=>R.ok (D.lst YU))>=>λT3=>R.of (BU T5 T3)>=>jk))>=>λOt=>if Ot=true then(R.ok (D.bl false)>=>λY0=>R.ok (Out.rt Y0))else(R.ok (Out.nx IV))) λHP=>
 (cg (((((rg 3 HP>=>JD)>=>λLQ=>R.ok (D.lst LQ))>=>λYY=>(((cy 1 HP>=>λv68=>R.ok []>=>λv69=>R.ok (v68::v69))>=>rG)>=>λv67=>R.ok (D.lst v67))>=>λv65=>R.of (BU YY v65)>=>jk)>=>λYX=>if YX=true then R.ok true else((cy 3 HP>=>λv71=>(((cy 1 HP>=>λv74=>R.ok []>=>λv75=>R.ok (v74::v75))>=>rG)>=>λT7=>R.ok (D.lst T7))>=>λv72=>R.of (FQ v71 v72)>=>jk)>=>λv70=>if v70=true then R.ok true else(cy 3 HP>=>λv76=>(((cy 1 HP>=>λv79=>R.ok []>=>λv80=>R.ok (v79::v80))>=>JI)>=>λv78=>R.ok (D.lst v78))>=>λv77=>R.of (FQ v76 v77)>=>jk)))>=>λYZ=>if YZ=true then(R.ok (D.bl false)>=>λv81=>R.ok (Out.rt v81))else(R.ok (Out.nx HP))) λQY=>
 (cg (((R.ok (D.int 1)>=>λad5=>(cy 1 QY>=>λad6=>R.ok []>=>λad7=>R.ok (ad6::ad7))>=>λad8=>R.ok (ad5::ad8))>=>LB)>=>λv83=>iO jn v83 QY) λv82=>
 (dG 3 v82>=>λad9=>R.ok (Out.nx (List.set v82 2 (Sl.val ad9)))))))
noncomputable def wo(env:DE):R Out:=
 (cg (((((cy 0 env>=>λv5=>EO "tuple" v5)>=>jk)>=>λv4=>R.ok (!v4))>=>λv3=>if v3=true then R.ok true else((((cy 0 env>=>λv10=>R.ok []>=>λv11=>R.ok (v10::v11))>=>λv9=>R.of (vL v9))>=>λv7=>R.ok (D.int 2)>=>λv8=>R.of (BU v7 v8)>=>jk)>=>λv6=>if v6=true then R.ok true else((((dG 0 env>=>λjA=>R.ok (D.int 1)>=>λpe=>yh jA pe)>=>λnz=>EO "list" nz)>=>jk)>=>λoY=>R.ok (!oY))))>=>λv2=>if v2=true then(R.ok (D.bl false)>=>λnW=>R.ok (Out.rt nW))else(R.ok (Out.nx env))) λv1=>
 (cg ((((((dG 0 v1>=>λnc=>R.ok (D.int 0)>=>λud=>yh nc ud)>=>λtm=>EO "int" tm)>=>jk)>=>λv20=>R.ok (!v20))>=>λnA=>if nA=true then R.ok true else((((dG 0 v1>=>λwg=>R.ok (D.int 0)>=>λyk=>yh wg yk)>=>λuM=>EO "bool" uM)>=>jk)>=>λsQ=>if sQ=true then R.ok true else((cy 1 v1>=>λA8=>R.ok (D.int 1)>=>λv30=>R.of (FQ A8 v30)>=>jk)>=>λvN=>if vN=true then((dG 0 v1>=>λHM=>R.ok (D.int 0)>=>λHN=>yh HM HN)>=>λzO=>R.ok (D.int 0)>=>λHK=>R.of (BU zO HK)>=>jk)else R.ok false)))>=>λqD=>if qD=true then(R.ok (D.bl false)>=>λHL=>R.ok (Out.rt HL))else(R.ok (Out.nx v1))) λpU=>
 (cg (R.ok D.non>=>λF3=>R.ok (Out.nx (List.set pU 2 (Sl.val F3)))) λDR=>
 (cg (((dG 0 DR>=>λUh=>R.ok (D.int 1)>=>λaea=>yh Uh aea)>=>zt)>=>λLP=>iO jo LP DR) λLa=>
 (R.ok (D.bl true)>=>λaeb=>R.ok (Out.rt aeb))))))
def dF:=mS 2 5 wo
noncomputable def kE(d:D)(env:DE):R Out:=
 (bN 2) d env>=>λv10=>
  (((((cy 2 v10>=>λjA=>EO "int" jA)>=>jk)>=>λnz=>R.ok (!nz))>=>λoY=>if oY=true then R.ok true else(((cy 2 v10>=>λnW=>EO "bool" nW)>=>jk)>=>λpe=>if pe=true then R.ok true else((cy 2 v10>=>λqD=>R.ok (D.int 1)>=>λnA=>R.of (V9 qD nA)>=>jk)>=>λpU=>if pU=true then R.ok true else(cy 2 v10>=>λv20=>(cy 1 v10>=>λnc=>R.ok (D.int 1)>=>λud=>R.of (oW nc ud))>=>λtm=>R.of (IQ v20 tm)>=>jk))))>=>λv11=>if v11=true then(R.ok (D.bl false)>=>λsQ=>R.ok (Out.rt sQ))else(R.ok (Out.nx v10)))
noncomputable def zU(env:DE):R Out:=
 (cg ((((cy 0 env>=>λv4=>EO "list" v4)>=>jk)>=>λv3=>R.ok (!v3))>=>λv2=>if v2=true then(R.ok (D.bl false)>=>λv5=>R.ok (Out.rt v5))else(R.ok (Out.nx env))) λv1=>
 (cg ((dG 0 v1>=>zt)>=>λv7=>iO kE v7 v1) λv6=>
 (R.ok (D.bl true)>=>λuM=>R.ok (Out.rt uM))))
def jU:=mS 2 3 zU
def jV(env:DE):R Bool:=
 ((rg 1 env>=>λDR=>(cy 0 env>=>λLa=>R.ok (D.int 1)>=>λLP=>R.of (oW La LP))>=>λF3=>pF DR F3)>=>λHN=>(rg 1 env>=>λOo=>cy 0 env>=>λQ0=>pF Oo Q0)>=>λHL=>R.of (IQ HN HL)>=>jk)
def nC(env:DE):R D:=
 (dG 0 env)
noncomputable def nX(env:DE):R Out:=
 (cg (((dG 0 env>=>λv5=>R.ok (D.int 0)>=>λv6=>yh v5 v6)>=>λv3=>R.ok (D.int 0)>=>λv4=>R.of (IQ v3 v4)>=>jk)>=>λv2=>if v2=true then((((R.ok (D.int 1)>=>λv9=>(cy 1 env>=>λv11=>R.ok []>=>λoY=>R.ok (v11::oY))>=>λv10=>R.ok (v9::v10))>=>JJ)>=>λv8=>R.ok (D.lst v8))>=>λv7=>R.ok (Out.rt v7))else(R.ok (Out.nx env))) λv1=>
 (cg (((dG 0 v1>=>λpU=>R.ok (D.int 1)>=>λqD=>yh pU qD)>=>λpe=>((R.ok []>=>fit)>=>λnA=>R.ok (D.lst nA))>=>λnW=>R.of (FQ pe nW)>=>jk)>=>λjA=>if jA=true then(((R.ok []>=>fit)>=>λtm=>R.ok (D.lst tm))>=>λv20=>R.ok (Out.rt v20))else(R.ok (Out.nx v1))) λnz=>
 (cg (((dG 0 nz>=>λwg=>R.ok (D.int 1)>=>λyk=>yh wg yk)>=>λsQ=>R.ok (D.int 0)>=>λuM=>yh sQ uM)>=>λud=>R.ok (Out.nx (List.set nz 2 (Sl.val ud)))) λnc=>
 (((((R.ok (D.int 1)>=>λIV=>(cy 1 nc>=>λOt=>R.ok []>=>λQZ=>R.ok (Ot::QZ))>=>λHP=>R.ok (IV::HP))>=>LB)>=>λv30=>iW nc [2]>=>λzO=>R.ne (ed (bN 0) jV nC (ni 1 zO) v30)>=>fit)>=>λA8=>R.ok (D.lst A8))>=>λvN=>R.ok (Out.rt vN)))))
def cO:=mD 2 3 nX
def JT(env:DE):R Out:=
 ((((((dG 0 env>=>λv5=>R.ok []>=>λv6=>R.ok (v5::v6))>=>fX)>=>λv4=>R.ok (D.lst v4))>=>λv2=>R.ok []>=>λv3=>R.ok (v2::v3))>=>xP)>=>λv1=>R.ok (Out.uz v1))
def qG:=dH 1 1 JT
noncomputable def nj(env:DE):R Out:=
 (((((((((dG 0 env>=>λv8=>R.ok []>=>λv9=>R.ok (v8::v9))>=>fX)>=>λv7=>R.ok (D.lst v7))>=>λv5=>(dG 1 env>=>λv10=>R.ok []>=>λv11=>R.ok (v10::v11))>=>λv6=>R.ok (v5::v6))>=>cD)>=>λv4=>R.ok (D.lst v4))>=>λv2=>R.ok []>=>λv3=>R.ok (v2::v3))>=>fX)>=>λv1=>R.ok (Out.uz v1))
def dD:=dH 2 2 nj
noncomputable def rL(d:D)(env:DE):R Out:=
 (bN 3) d env>=>λv9=>
  (cg ((cy 3 v9>=>λoY=>R.ok (D.int 0)>=>λnz=>R.of (V9 oY nz)>=>jk)>=>λv11=>if v11=true then(R.bad:R Out)else(R.ok (Out.nx v9))) λv10=>
 (cg (((rg 2 v10>=>λqD=>(cy 3 v10>=>λv20=>R.ok (D.int 1)>=>λtm=>R.of (oW v20 tm))>=>λnA=>E7 qD nA)>=>λnW=>(rg 2 v10>=>λnc=>cy 3 v10>=>λud=>E7 nc ud)>=>λpU=>R.of (IQ nW pU)>=>jk)>=>λpe=>if pe=true then(R.bad:R Out)else(R.ok (Out.nx v10))) λjA=>
 (((cy 2 jA>=>λuM=>(cy 3 jA>=>λyk=>R.ok []>=>λvN=>R.ok (yk::vN))>=>λwg=>R.ok (uM::wg))>=>cD)>=>λsQ=>R.ok (Out.nx (List.set jA 2 (Sl.own sQ))))))
def JU(env:DE):R Out:=
 (cg (((dG 0 env>=>λv3=>R.ok []>=>λv4=>R.ok (v3::v4))>=>fE)>=>λv2=>R.ok (Out.nx (List.set env 2 (Sl.own v2)))) λv1=>
 (cg ((dG 1 v1>=>zt)>=>λv6=>iO rL v6 v1) λv5=>
 (ownAt 2 v5>=>λA8=>R.ok (Out.uz A8))))
def tK:=dH 2 4 JU
def LV(env:DE):R Bool:=
 R.ok true
def DX(env:DE):R D:=
 ((((cy 1 env>=>λv11=>R.ok []>=>λoY=>R.ok (v11::oY))>=>λv10=>R.of (vL v10))>=>λv8=>R.ok (D.int 1)>=>λv9=>R.of (oW v8 v9))>=>λv6=>cy 0 env>=>λv7=>R.of (oW v6 v7))
def Oz(env:DE):R Out:=
 ((((((dG 0 env>=>λjA=>R.ok []>=>λpe=>R.ok (jA::pe))>=>fX)>=>λnz=>R.ok (D.lst nz))>=>zt)>=>λv2=>iW env [0]>=>λv3=>R.ne (ed (bN 0) LV DX (ni 1 v3) v2)>=>fit)>=>λv1=>R.ok (Out.uz v1))
def zV:=dH 1 1 Oz
noncomputable def wq(d:D)(env:DE):R Out:=
 (bN 5) d env>=>λnz=>
  (cg (((cy 5 nz>=>λpU=>R.ok []>=>λqD=>R.ok (pU::qD))>=>λnW=>R.of (QN nW))>=>λpe=>R.ok (Out.nx (List.set nz 6 (Sl.val pe)))) λjA=>
 (cg (((((cy 2 jA>=>λuM=>R.ok []>=>λwg=>R.ok (uM::wg))>=>λsQ=>R.of (vL sQ))>=>λnc=>R.ok (D.int 0)>=>λud=>R.of (FQ nc ud)>=>jk)>=>λtm=>if tm=true then R.ok true else((cy 4 jA>=>λvN=>(cy 5 jA>=>λv30=>R.ok (D.int 0)>=>λzO=>R.of (IQ v30 zO))>=>λA8=>R.of (BU vN A8)>=>jk)>=>λyk=>if yk=true then R.ok true else((rg 3 jA>=>λHN=>(cy 6 jA>=>λDR=>R.ok (D.int 1)>=>λF3=>R.of (oW DR F3))>=>λHL=>E7 HN HL)>=>λHK=>(rg 3 jA>=>λLa=>cy 6 jA>=>λLP=>E7 La LP)>=>λHM=>R.of (IQ HK HM)>=>jk)))>=>λv20=>if v20=true then(cg (kX 2 jA>=>λQ0=>(R.ok []>=>fit)>=>λIV=>R.of (CO IV)>=>λHP=>TQ 2 jA Q0 HP) λOo=>
 (cg (((dG 0 Oo>=>λT6=>R.ok []>=>λTZ=>R.ok (T6::TZ))>=>fE)>=>λQZ=>R.ok (Out.nx (List.set Oo 3 (Sl.own QZ)))) λOt=>
 ((cy 5 Ot>=>λT3=>R.ok (D.int 0)>=>λT4=>R.of (IQ T3 T4))>=>λT5=>R.ok (Out.nx (List.set Ot 4 (Sl.val T5))))))else(R.ok (Out.nx jA))) λnA=>
 (cg (kX 2 nA>=>λOq=>(R.ok (D.int 1)>=>λYS=>R.of (vX YS))>=>λYW=>zL Oq YW>=>λv54=>cy 5 nA>=>λYV=>LO 2 nA Oq v54 YV) λJL=>
 (cg ((rg 3 JL>=>λYU=>cy 6 JL>=>λY0=>E7 YU Y0)>=>λYT=>R.ok (Out.nx (List.set JL 7 (Sl.val YT)))) λQX=>
 (cg ((rg 3 QX>=>λv65=>(cy 6 QX>=>λv67=>R.ok (D.int 1)>=>λv68=>R.of (oW v67 v68))>=>λLQ=>E7 v65 LQ)>=>λYZ=>ownAt 3 QX>=>λYX=>cy 6 QX>=>λYY=>JB 3 QX YZ YX YY) λQY=>
 (dG 7 QY>=>λv69=>ownAt 3 QY>=>λv70=>(cy 6 QY>=>λv72=>R.ok (D.int 1)>=>λT7=>R.of (oW v72 T7))>=>λv71=>JB 3 QY v69 v70 v71))))))
noncomputable def abp(env:DE):R Out:=
 (cg (R.ok ([]:List (List Int))>=>λv2=>(fit v2>=>λy=>R.ok (Out.nx (List.set env 2 (Sl.deep (Ct.ls y)))))) λv1=>
 (cg (((dG 0 v1>=>λv5=>R.ok []>=>λv6=>R.ok (v5::v6))>=>fE)>=>λv4=>R.ok (Out.nx (List.set v1 3 (Sl.own v4)))) λv3=>
 (cg (R.ok (D.bl false)>=>λv8=>R.ok (Out.nx (List.set v3 4 (Sl.val v8)))) λv7=>
 (cg ((dG 1 v7>=>zt)>=>λv10=>iO wq v10 v7) λv9=>
 (kX 2 v9>=>λv74=>R.ok (Out.FJ v74))))))
def JV:=mT 2 8 abp
noncomputable def yD(env:DE):R Out:=
 (cg (((cy 0 env>=>λv5=>R.ok (D.int 2)>=>λv6=>R.of (zu v5 v6))>=>λv3=>R.ok (D.int 0)>=>λv4=>R.of (FQ v3 v4)>=>jk)>=>λv2=>if v2=true then(rg 1 env>=>λv7=>R.ok (Out.uz v7))else(R.ok (Out.nx env))) λv1=>
 (((dG 1 v1>=>λv9=>R.ok []>=>λv10=>R.ok (v9::v10))>=>j9)>=>λv8=>R.ok (Out.uz v8)))
def kc:=dH 2 2 yD
def nY(env:DE):R Bool:=
 (((cy 3 env>=>λpU=>R.ok []>=>λqD=>R.ok (pU::qD))>=>λnW=>R.of (vL nW))>=>λjA=>R.ok (D.int 0)>=>λpe=>R.of (IQ jA pe)>=>jk)
noncomputable def nZ(env:DE):R Out:=
 (cg (ownAt 1 env>=>λv20=>(rg 3 env>=>λnc=>R.ok (D.int 0)>=>λud=>E7 nc ud)>=>λtm=>QR 1 env v20 tm) λnA=>
 (cg ((((dG 2 nA>=>λyk=>((rg 3 nA>=>λzO=>R.ok (D.int 0)>=>λHK=>E7 zO HK)>=>λA8=>R.ok []>=>λv30=>R.ok (A8::v30))>=>λvN=>R.ok (yk::vN))>=>dD)>=>λwg=>R.ok (D.lst wg))>=>λuM=>R.ok (Out.nx (List.set nA 2 (Sl.val uM)))) λsQ=>
 ((((dG 2 sQ>=>λHL=>R.ok []>=>λDR=>R.ok (HL::DR))>=>qG)>=>λHN=>R.ok (D.lst HN))>=>λHM=>R.ok (Out.nx (List.set sQ 3 (Sl.val HM))))))
noncomputable def DY(env:DE):R Out:=
 (cg ((R.ok []>=>fit)>=>λv2=>R.ok (Out.nx (List.set env 1 (Sl.own v2)))) λv1=>
 (cg ((rg 0 v1>=>λv5=>R.ok (D.lst v5))>=>λv4=>R.ok (Out.nx (List.set v1 2 (Sl.val v4)))) λv3=>
 (cg ((((dG 2 v3>=>λv9=>R.ok []>=>λv10=>R.ok (v9::v10))>=>qG)>=>λv8=>R.ok (D.lst v8))>=>λv7=>R.ok (Out.nx (List.set v3 3 (Sl.val v7)))) λv6=>
 (cg (sy nY nZ ((λ_=>400) v6) v6) λv11=>
 (ownAt 1 v11>=>λF3=>R.ok (Out.uz F3))))))
def kZ:=dH 1 4 DY
noncomputable def sF(env:DE):R Out:=
 (((((R.ok (D.int 1)>=>λv4=>R.of (vX v4))>=>λv2=>((((dG 0 env>=>λv8=>R.ok []>=>λv9=>R.ok (v8::v9))>=>zV)>=>λv7=>R.ok (D.lst v7))>=>λv5=>R.ok []>=>λv6=>R.ok (v5::v6))>=>λv3=>R.ok (v2::v3))>=>fit)>=>λds=>R.ok (D.tup ds))>=>λv1=>R.ok (Out.rt v1))
def fY:=mD 1 1 sF
noncomputable def ig(d:D)(env:DE):R Out:=
 (bN 3) d env>=>λv9=>
  (cg (kX 1 v9>=>λv11=>((dG 2 v9>=>λjA=>((dG 3 v9>=>λqD=>R.ok (D.int 1)>=>λnA=>yh qD nA)>=>λnW=>R.ok []>=>λpU=>R.ok (nW::pU))>=>λpe=>R.ok (jA::pe))>=>kc)>=>λoY=>R.of (CO oY)>=>λnz=>TQ 1 v9 v11 nz) λv10=>
 (dG 2 v10>=>λv20=>(dG 3 v10>=>λnc=>R.ok (D.int 0)>=>λud=>yh nc ud)>=>λtm=>QS (λi j=>i+j) 2 v10 v20 tm))
noncomputable def o4(env:DE):R Out:=
 (cg (R.ok ([]:List (List Int))>=>λv2=>(fit v2>=>λy=>R.ok (Out.nx (List.set env 1 (Sl.deep (Ct.ls y)))))) λv1=>
 (cg (R.ok (D.int 0)>=>λv4=>R.ok (Out.nx (List.set v1 2 (Sl.val v4)))) λv3=>
 (cg ((dG 0 v3>=>λsQ=>zt sQ>=>λxs=>R.ok (reverse xs))>=>λv6=>iO ig v6 v3) λv5=>
 (cg (kX 1 v5>=>λwg=>R.ok (Out.nx (List.set v5 1 (Sl.deep (Ct.ls (reverse wg)))))) λuM=>
 (kX 1 uM>=>λyk=>R.ok (Out.FJ yk))))))
def bU:=mT 1 4 o4
def jC(d:D)(env:DE):R Out:=
 (bN 4) d env>=>λzO=>
  (ownAt 3 zO>=>λHK=>((dG 4 zO>=>λHN=>R.ok []>=>λHL=>R.ok (HN::HL))>=>kZ)>=>λHM=>adp 3 zO HK HM)
noncomputable def BX(env:DE):R Out:=
 (cg ((((((dG 0 env>=>λv6=>R.ok []>=>λv7=>R.ok (v6::v7))>=>yO)>=>λv5=>R.ok (D.lst v5))>=>λv3=>R.ok []>=>λv4=>R.ok (v3::v4))>=>kZ)>=>λv2=>R.ok (Out.nx (List.set env 2 (Sl.own v2)))) λv1=>
 (cg (((dG 1 v1>=>λoY=>R.ok (D.int 0)>=>λnz=>yh oY nz)>=>λv10=>R.ok (D.int 0)>=>λv11=>R.of (V9 v10 v11)>=>jk)>=>λv9=>if v9=true then((((cy 2 v1>=>λpU=>R.ok []>=>λqD=>R.ok (pU::qD))>=>qE)>=>λpe=>((dG 1 v1>=>λv20=>R.ok (D.int 0)>=>λtm=>yh v20 tm)>=>λnA=>R.of (vX nA))>=>λnW=>Jy pe nW)>=>λjA=>R.ok (Out.nx (List.set v1 3 (Sl.own jA))))else((ownAt 2 v1>=>λud=>(dG 1 v1>=>λuM=>R.ok (D.int 0)>=>λwg=>yh uM wg)>=>λsQ=>Jy ud sQ)>=>λnc=>R.ok (Out.nx (List.set v1 3 (Sl.own nc))))) λv8=>
 (cg (((dG 1 v8>=>λDR=>R.ok (D.int 1)>=>λF3=>yh DR F3)>=>zt)>=>λvN=>iO jC vN v8) λyk=>
 (ownAt 3 yk>=>λLa=>R.ok (Out.uz La)))))
def cF:=dH 2 5 BX
noncomputable def F7(env:DE):R Out:=
 (cg (((rg 1 env>=>λv5=>R.ok (D.int 0)>=>λv6=>E7 v5 v6)>=>λv3=>R.ok (D.int 0)>=>λv4=>R.of (IQ v3 v4)>=>jk)>=>λv2=>if v2=true then((((R.ok (D.int 0)>=>λv8=>((((dG 0 env>=>λnz=>(dG 1 env>=>λpe=>R.ok []>=>λnW=>R.ok (pe::nW))>=>λjA=>R.ok (nz::jA))>=>tK)>=>λoY=>R.ok (D.lst oY))>=>λv10=>R.ok []>=>λv11=>R.ok (v10::v11))>=>λv9=>R.ok (v8::v9))>=>fit)>=>λds=>R.ok (D.tup ds))>=>λv7=>R.ok (Out.rt v7))else(R.ok (Out.nx env))) λv1=>
 ((((((dG 0 v1>=>λtm=>((((dG 1 v1>=>λwg=>R.ok []>=>λyk=>R.ok (wg::yk))>=>qE)>=>λuM=>R.ok (D.lst uM))>=>λud=>R.ok []>=>λsQ=>R.ok (ud::sQ))>=>λnc=>R.ok (tm::nc))>=>tK)>=>λv20=>R.ok (D.lst v20))>=>λqD=>R.ok []>=>λnA=>R.ok (qD::nA))>=>fY)>=>λpU=>R.ok (Out.rt pU)))
def tN:=mD 2 2 F7
def wu(env:DE):R Bool:=
 R.ok true
def qH(env:DE):R D:=
 ((cy 1 env>=>λA8=>(cy 0 env>=>λzO=>(R.ok (D.int 16807)>=>λHM=>R.ok []>=>λHN=>R.ok (HM::HN))>=>λHK=>R.ok (zO::HK))>=>λv30=>R.ok (A8::v30))>=>kY)
noncomputable def wz(env:DE):R Out:=
 (cg ((((((rg 0 env>=>λv7=>R.ok none>=>λv8=>(R.ok (D.int 63)>=>RK)>=>λv9=>R.ok (cut v7 v8 v9))>=>λv6=>R.ok (D.lst v6))>=>λv4=>(dG 1 env>=>λv10=>(R.ok (D.int 189)>=>λoY=>R.ok []>=>λnz=>R.ok (oY::nz))>=>λv11=>R.ok (v10::v11))>=>λv5=>R.ok (v4::v5))>=>mz)>=>λv3=>R.ok (D.lst v3))>=>λv2=>R.ok (Out.nx (List.set env 3 (Sl.val v2)))) λv1=>
 (cg ((((cy 3 v1>=>λnA=>R.ok []>=>λv20=>R.ok (nA::v20))>=>λqD=>R.of (vL qD))>=>λnW=>cy 2 v1>=>λpU=>R.of (kLe nW pU)>=>jk)>=>λpe=>if pe=true then(dG 3 v1>=>λtm=>R.ok (Out.rt tm))else(R.ok (Out.nx v1))) λjA=>
 (cg ((((dG 0 jA>=>λHL=>zt HL>=>λxs=>R.ok (jz xs))>=>λuM=>iW jA []>=>λwg=>R.ne (ed (bT 2 (pT (bN 0) (pT (bN 1) Fc))) wu qH (ni 2 wg) uM)>=>fit)>=>λsQ=>R.of (yy sQ))>=>λud=>R.ok (Out.nx (List.set jA 4 (Sl.val ud)))) λnc=>
 (cg ((cy 4 nc>=>λLa=>((((cy 3 nc>=>λQZ=>R.ok []>=>λT6=>R.ok (QZ::T6))>=>λOt=>R.of (vL Ot))>=>λIV=>cy 2 nc>=>λHP=>R.of (oW IV HP))>=>λOo=>R.ok (D.int 1)>=>λQ0=>R.of (oX Oo Q0))>=>λLP=>R.of (zu La LP))>=>λF3=>R.ok (Out.nx (List.set nc 5 (Sl.val F3)))) λDR=>
 (((rg 3 DR>=>λT3=>(cy 5 DR>=>RK)>=>λT4=>((cy 5 DR>=>λOq=>cy 2 DR>=>λYW=>R.of (oX Oq YW))>=>RK)>=>λJL=>R.ok (cut T3 T4 JL))>=>λT5=>R.ok (D.lst T5))>=>λTZ=>R.ok (Out.rt TZ))))))
def iD:=mD 3 6 wz
def k9(env:DE):R Bool:=
 R.ok true
def gh(env:DE):R D:=
 ((dG 1 env>=>λv7=>(dG 0 env>=>λv9=>R.ok []>=>λv10=>R.ok (v9::v10))>=>λv8=>R.ok (v7::v8))>=>tN)
noncomputable def vD(env:DE):R Out:=
 (((((R.ne ((cy 0 env>=>λoY=>((((dG 1 env>=>λpU=>R.ok []>=>λqD=>R.ok (pU::qD))>=>tE)>=>λnW=>R.ok (D.lst nW))>=>λjA=>R.ok []>=>λpe=>R.ok (jA::pe))>=>λnz=>R.ok (oY::nz))>=>JV))>=>λv11=>R.ok (HQ (λns=>D.lst (HQ D.int ns)) v11))>=>λv3=>iW env [0]>=>λv4=>R.ne (ed (bN 0) k9 gh (ni 1 v4) v3)>=>fit)>=>λv2=>R.ok (D.lst v2))>=>λv1=>R.ok (Out.rt v1))
def fG:=mD 2 2 vD
section
variable{X:Cx}
def Ui{A:bu}{E:ah->aj->Prop}{s:aj}{d:ae}{xs:List (List Key×ae×ah)}{Q:ah->aj->Prop}(hd:(d==nP)=false)
  (m:aD.DictOfH (xh (gY X.prog X.w)) s.heap d xs)(z:xs.length<=aI)(q:Q (.int xs.length (s.toks+1)) {s with toks:=s.toks+1+1}):aG (aE X.prog X.w) A (call (.builtin "len") [.ref d]) Q E s:=by
 have z':xs.length<=16777216:=z;have inner:∀A,aG (aE X.prog X.w) A (call (.builtin "dict.__len__") [.ref d]) (λr s'=>r=.int xs.length s.toks/\s'={s with toks:=s.toks+1}) E s:=λA=>by
  refine NH (S:=λ_ R s'=>s'=s/\R (.ok (.ret (.int xs.length s.toks))) {s with toks:=s.toks+1}) Y1 m.typeIs PySem.F.entry_dict_len (PySem.F.args_dict_len_1 _) (.of_wp λA R s' h=>?_) ⟨rfl,rfl,rfl⟩;obtain⟨rfl,h⟩:=h;obtain⟨o,es,ep,h1,h2,h3,h4,_⟩:=m;show aG _ _ (dictSize d>>=λn=>_) _ _ _;unfold dictSize;refine aY (aY (wpAny_dictEntries h1 h3 (cK (aY (wpAny_pendingCount_other hd (wpAny_ret_mkInt ?_))))));rw[size_of_entries h4];exact h
 refine Calls.call_function_entry kind_len plain_len entry_len (args_len1 _) ?_;unfold HG.«len»;refine aY (cK (aY (wpAny_callSpecial?_slot (name:=dB "__len__") m.typeIs Y1 (fJ (inner _) λr s' h=>?_))));obtain⟨rfl,rfl⟩:=h;refine aY (Cr (cK (aY (wpAny_letGo ?_))));show aG _ _ (if((xs.length:Nat):Int)<0 then _ else _) _ _ _;rw[if_neg (by lia)];show aG _ _ (if 2^63<=((xs.length:Nat):Int)then _ else _) _ _ _;rw[if_neg (by lia)];exact aY (wpAny_mkInt (cK ⟨_,rfl,q⟩))
def Q1:yq X (.builtin "len") (λxs H Q=>∃a kvs,xs=[V.ref a]/\H a=aa (.dT kvs)/\Q (.int kvs.length) H):=by
 intro pins s σ H xs us Q I r h;obtain⟨a,kvs,rfl,ha,q⟩:=h;obtain⟨u,rfl,ru⟩:=vals1 r;cases ru;obtain⟨z,hd,ys,rel,dd⟩:=DA I.hok (.inl ha);have e:kvs.length=ys.length:=Paired.length rel;exact Ui hd dd (by lia) ⟨.int kvs.length,H,I.tok _,⟨_,by rw[e]⟩,q⟩
def Y2:MtR X "int.bit_length" (λx vs H Q=>∃i,x=.int i/\vs=[]/\Q (.int (OA i)) H):=by
 intro pins s σ H x xs v us Q I r rs h;obtain⟨i,rfl,rfl,q⟩:=h;obtain⟨t,rfl⟩:=r;have e:=rs.zero;subst e;exact call_int_bit_length ⟨.int _,H,I.tok _,⟨_,rfl⟩,q⟩
end
def R.j6 {α:Type}(a:α):(R.ok a).ne=.ok a:=rfl
def uP{b:D->DE->R DE}{ct:DE->R Bool}{fe:DE->R D}{e₀:DE}(g:Int->Int)(w:List Int)(h:∀k∈w,∃e,b (.int k) e₀=.ok e/\ct e=.ok true/\fe e=.ok (.int (g k))):ed b ct fe e₀ (aW w)=.ok (aW (w.map g)):=by
 rw[xJ (λd=>match d with
  |.int k=>.int (g k)
  |_=>.non) _ λx hx=>by
   obtain⟨k,hk,rfl⟩:=cC.mp hx;exact h k hk]
 unfold aW;rw[eR,eR];rfl
def upTo(n:Nat):List Int:=(b9 n).map λi=>((i:Nat):Int)
def aM(n:Nat):(upTo n).length=n:=by simp[upTo]
def wA(n j:Nat)(h:j<n):(upTo n)[j]?=aa (j:Int):=by simp[upTo,h]
def mem_upTo{n:Nat}{x:Int}:x∈upTo n↔0<=x/\x<n:=by
 simp_all only [upTo,cC,rn];constructor
 ·rintro⟨i,h,rfl⟩;lia
 ·rintro⟨h1,h2⟩;exact⟨x.toNat,by lia,by lia⟩
def Bb(n:Nat):uD 0 n=aW (upTo n):=by
 rw[xK];congr 1;simp[upTo]
def JW(n:Nat):(upTo n).Pairwise (·<=·):=by
 unfold upTo;rw[HR];exact OB.imp λh=>by lia
def DZ(n:Nat):(upTo n).Nodup:=by
 unfold upTo;unfold g6;rw[HR];exact OB.imp λh=>by lia
def bx(n:Nat)(r:List Int):Prop:=r.Perm (upTo n)
def bx.len {n:Nat}{r:List Int}(h:bx n r):r.length=n:=by rw[h.length_eq,aM]
def bx.nd {n:Nat}{r:List Int}(h:bx n r):r.Nodup:=h.nodup_iff.mpr (DZ n)
def bx.mem {n:Nat}{r:List Int}(h:bx n r){x:Int}:x∈r↔0<=x/\x<n:=h.mem_iff.trans mem_upTo
def bx.get {n:Nat}{r:List Int}(h:bx n r){j:Nat}{x:Int}(e:r[j]?=aa x):0<=x/\x<n:=h.mem.mp (dJ e)
def lg(n:Nat):bx n (upTo n):=HS.refl _
def Uj{n:Nat}{r:List Int}(h:bx n r):sortI r=upTo n:=(JE h.symm (JW n)).symm
def ai(ns:List Int)(k:Nat):Int:=(ns[k]?).getD 0
def gI{l:List Int}{j:Nat}(h:j<l.length):l[j]?=aa (ai l j):=by
 unfold ai;rw[bj h];rfl
def LW(x:Int)(l:List Int):ai (x::l) 0=x:=rfl
def cQ{a b:List Int}(hl:a.length=b.length)(h:∀j,j<a.length->ai a j=ai b j):a=b:=by
 refine List.ext_getElem? λj=>?_
 by_cases hj:j<a.length
 ·rw[gI hj,gI (hl▸hj),h j hj]
 ·rw[HU (by lia),HU (by lia)]
def aP{n j:Nat}(h:j<n):ai (upTo n) j=j:=by unfold ai;rw[wA n j h];rfl
def D0{l:List Int}{j i:Nat}{x:Int}(h:j<l.length):ai (l.set i x) j=if i=j then x else ai l j:=by
 unfold ai;rw[List.getElem?_set];split
 ·subst_vars
  rw[if_pos h];rfl
 ·rfl
def iB:List Int->Nat->List Int
 |x::y::l,0=>y::x::l
 |x::l,a+1=>x::iB l a
 |l,_=>l
def wB(x:Int)(l:List Int)(a:Nat):iB (x::l) (a+1)=x::iB l a:=by cases l<;>rfl
theorem jq:∀(l:List Int)(a:Nat),(iB l a).length=l.length
 |[],a=>by cases a<;>rfl
 |[x],0=>rfl
 |x::y::l,0=>rfl
 |x::l,a+1=>by rw[wB,bD,bD,jq l a]
theorem mC:∀(l:List Int)(a:Nat),a+1<l.length->∀j,ai (iB l a) j=if j=a then ai l (a+1)else if j=a+1 then ai l a else ai l j
 |[],a,h,j=>by simp at h
 |[x],a,h,j=>by simp at h
 |x::y::l,0,h,j=>by
  match j with
  |0=>rfl
  |1=>rfl
  |j+2=>rw[if_neg (by lia),if_neg (by lia)];rfl
 |x::y::l,a+1,h,j=>by
  rw[wB]
  match j with
  |0=>rw[if_neg (by lia),if_neg (by lia)];rfl
  |j+1=>
   show ai (iB (y::l) a) j=if j+1=a+1 then ai (y::l) (a+1)else if j+1=a+1+1 then ai (y::l) a else ai (y::l) j;rw[mC (y::l) a (by simpa using h) j]
   repeat' split
   all_goals first|rfl|lia
theorem HV:∀(l:List Int)(a:Nat),a+1<l.length->l.take a++[ai l (a+1),ai l a]++l.drop (a+2)=iB l a
 |[],a,h=>by simp at h
 |[x],a,h=>by simp at h
 |x::y::l,0,h=>rfl
 |x::y::l,a+1,h=>by
  rw[wB,<-HV (y::l) a (by simpa using h)];rfl
def wsum:Nat->List Int->Int
 |_,[]=>0
 |i,x::l=>(i:Int)*x+wsum (i+1) l
theorem JX:∀(l:List Int)(a i:Nat),a+1<l.length->wsum i (iB l a)=wsum i l+(ai l a-ai l (a+1))
 |[],a,i,h=>by simp at h
 |[x],a,i,h=>by simp at h
 |x::y::l,0,i,h=>by
  show(i:Int)*y+(((i+1:Nat):Int)*x+wsum (i+1+1) l)=(i:Int)*x+(((i+1:Nat):Int)*y+wsum (i+1+1) l)+(x-y);rw[show((i+1:Nat):Int)=(i:Int)+1 by lia,CY,CY];lia
 |x::y::l,a+1,i,h=>by
  rw[wB];show(i:Int)*x+wsum (i+1) (iB (y::l) a)=(i:Int)*x+wsum (i+1) (y::l)+(ai (y::l) a-ai (y::l) (a+1));rw[JX (y::l) a (i+1) (by simpa using h)];lia
theorem JY:∀(l:List Int)(i:Nat),(∀j,j<l.length->0<=ai l j/\ai l j<=7)->i+l.length<=7->0<=wsum i l/\wsum i l<=49*l.length
 |[],i,_,_=>by simp[wsum]
 |x::l,i,h,hi=>by
  have hx:=h 0 (by simp);rw[LW]at hx;rw[bD]at hi;have ih:=JY l (i+1) (λj hj=>h (j+1) (by simpa using hj)) (by lia);have h1:0<=(i:Int)*x:=Int.mul_nonneg (by lia) hx.1;have h2:(i:Int)*x<=7*7:=Int.mul_le_mul (by lia) hx.2 hx.1 (by decide);show 0<=(i:Int)*x+wsum (i+1) l/\(i:Int)*x+wsum (i+1) l<=_;rw[bD];lia
def sg(a:Nat)(x:Int):Int:=if x=a then(a:Int)+1 else if x=(a:Int)+1 then a else x
def wC(r:List Int)(a:Nat):List Int:=r.map (sg a)
def CZ(r:List Int)(a:Nat):(wC r a).length=r.length:=aB _
def cR{r:List Int}{a p:Nat}(h:p<r.length):ai (wC r a) p=sg a (ai r p):=by
 have:=gI h;unfold wC
 conv=>lhs;unfold ai
 rw[b8,this];rfl
structure Iv(n:Nat)(r s:List Int):Prop where
 lr:r.length=n
 ls:s.length=n
 rs:∀p,p<n->0<=ai r p/\ai r p<n/\ai s (ai r p).toNat=p
 sr:∀v,v<n->0<=ai s v/\ai s v<n/\ai r (ai s v).toNat=v
def Iv.symm {n:Nat}{r s:List Int}(h:Iv n r s):Iv n s r:=⟨h.ls,h.lr,h.sr,h.rs⟩
def Iv.step {n:Nat}{r s:List Int}(h:Iv n r s){a:Nat}(ha:a+1<n):Iv n (wC r a) (iB s a):=by
 refine⟨by rw[CZ,h.lr],by rw[jq,h.ls],λp hp=>?_,λv hv=>?_⟩
 ·obtain⟨h1,h2,h3⟩:=h.rs p hp
  rw[cR (h.lr.symm▸hp),mC _ _ (h.ls.symm▸ha)];generalize ai r p=v at h1 h2 h3;unfold sg
  by_cases e1:v=a
  ·rw[if_pos e1]
   refine⟨by lia,by lia,?_⟩;rw[if_neg (by lia),if_pos (by lia),<-h3,show v.toNat=a by lia]
  ·rw[if_neg e1]
   by_cases e2:v=(a:Int)+1
   ·rw[if_pos e2]
    refine⟨by lia,by lia,?_⟩;rw[if_pos (by lia),<-h3,show v.toNat=a+1 by lia]
   ·rw[if_neg e2]
    refine⟨h1,h2,?_⟩;rw[if_neg (by lia),if_neg (by lia),h3]
 ·rw[mC _ _ (h.ls.symm▸ha)]
  by_cases e1:v=a
  ·obtain⟨h1,h2,h3⟩:=h.sr (a+1) ha
   rw[if_pos e1];refine⟨h1,h2,?_⟩;rw[cR (by rw[h.lr];lia),h3];unfold sg;rw[if_neg (by lia),if_pos (by lia),e1]
  ·rw[if_neg e1]
   by_cases e2:v=a+1
   ·obtain⟨h1,h2,h3⟩:=h.sr a (by lia)
    rw[if_pos e2];refine⟨h1,h2,?_⟩;rw[cR (by rw[h.lr];lia),h3];unfold sg;rw[if_pos rfl,e2];lia
   ·obtain⟨h1,h2,h3⟩:=h.sr v hv
    rw[if_neg e2];refine⟨h1,h2,?_⟩;rw[cR (by rw[h.lr];lia),h3];unfold sg;rw[if_neg (by lia),if_neg (by lia)]
def Iv.RV {n:Nat}{r s:List Int}(h:Iv n r s){v w:Nat}(hv:v<n)(hw:w<n)(e:ai s v=ai s w):v=w:=by
 have h1:=(h.sr v hv).2.2;have h2:=(h.sr w hw).2.2;rw[e]at h1;lia
def aec{n:Nat}{r:List Int}(h:bx n r):∃s,Iv n r s:=by
 have hc:∀v,v<n->ai ((upTo n).map λv=>((r.idxOf v:Nat):Int)) v=(r.idxOf ((v:Nat):Int):Nat):=λv hv=>by
  unfold ai;rw[b8,wA n v hv];rfl
 refine⟨(upTo n).map λv=>((r.idxOf v:Nat):Int),h.len,by rw[aB,aM],λp hp=>?_,λv hv=>?_⟩
 ·have hp':p<r.length:=by rw[h.len];exact hp
  have hg:=h.get (gI hp');refine⟨hg.1,hg.2,?_⟩;rw[hc _ (by lia),show(((ai r p).toNat:Nat):Int)=ai r p by lia];have e:ai r p=r[p]:=by
   have:=gI hp';rw[bj hp']at this;exact(cA.inj this).symm
  rw[e,h.nd.idxOf_getElem p hp']
 ·have hm:(v:Int)∈r:=h.mem.mpr (by lia)
  have hl:=Y3 hm;rw[hc v hv];have Yq:=hl;rw[h.len]at Yq;refine⟨by lia,by lia,?_⟩;rw[bB];have:=gI hl;rw[bj hl,Oi hl]at this;exact(cA.inj this).symm
def Iv.idx {n:Nat}{r s:List Int}(h:Iv n r s){v:Nat}(hv:v<n):(v:Int)∈r/\((r.idxOf (v:Int):Nat):Int)=ai s v:=by
 obtain⟨h1,h2,h3⟩:=h.sr v hv;have hm:(v:Int)∈r:=by
  have:=gI (l:=r) (j:=(ai s v).toNat) (by rw[h.lr];lia);rw[h3]at this;exact dJ this
 refine⟨hm,?_⟩;have hl:=Y3 hm;have:=gI hl;rw[bj hl,Oi hl]at this;have e:=cA.inj this;have Yq:=hl;rw[h.lr]at Yq;have h4:=(h.rs _ Yq).2.2;rw[<-e,bB]at h4;exact h4.symm
def zW(l:List Int):List Int:=((b9 (l.length-1)).map λi=>1+((i:Nat):Int)).filter λk=>decide (ai l k.toNat<ai l (k-1).toNat)
def rM{l:List Int}{k:Int}:k∈zW l↔∃a:Nat,k=(a:Int)+1/\a+1<l.length/\ai l (a+1)<ai l a:=by
 unfold zW;rw[lP,cC];constructor
 ·rintro⟨⟨i,hi,rfl⟩,h⟩
  rw[rn]at hi;rw[decide_eq_true_eq,show(1+(i:Int)).toNat=i+1 by lia,show(1+(i:Int)-1).toNat=i by lia]at h;exact⟨i,by lia,by lia,h⟩
 ·rintro⟨a,rfl,h1,h2⟩
  refine⟨⟨a,rn.mpr (by lia),by lia⟩,?_⟩;rw[decide_eq_true_eq,show((a:Int)+1).toNat=a+1 by lia,show((a:Int)+1-1).toNat=a by lia];exact h2
def Y4(l:List Int):(zW l).length<=l.length:=by
 have h:=Y5 (λk=>decide (ai l k.toNat<ai l (k-1).toNat)) ((b9 (l.length-1)).map λi=>1+((i:Nat):Int));unfold zW;rw[aB,zF]at h;lia
def Uk{l t:List Int}{k:Int}(e:zW l=k::t):∃a:Nat,k=(a:Int)+1/\a+1<l.length/\ai l (a+1)<ai l a/\∀j,j<a->ai l j<=ai l (j+1):=by
 obtain⟨a,h1,h2,h3⟩:=rM.mp (show k∈zW l by rw[e];simp);refine⟨a,h1,h2,h3,λj hj=>?_⟩;have hp:(zW l).Pairwise (·<·):=by
  unfold zW;refine Nz.filter _ ?_;rw[HR];exact OB.imp λh=>by lia
 rw[e]at hp;refine Int.not_lt.mp λhlt=>?_;have hm:((j:Int)+1)∈zW l:=rM.mpr ⟨j,rfl,by lia,hlt⟩;rw[e]at hm;rcases aX.mp hm with z|z
 ·lia
 ·have:=List.rel_of_pairwise_cons hp z
  lia
def OC{n:Nat}{r s:List Int}(h:Iv n r s)(hd:∀a,a+1<n->¬ai s (a+1)<ai s a):r=upTo n:=by
 have hlt:∀a,a+1<n->ai s a<ai s (a+1):=λa ha=>by
  have h1:=hd a ha;have h2:ai s a≠ai s (a+1):=λz=>by
   have:=h.RV (by lia) ha z;lia
  lia
 have hge:∀a,a<n->(a:Int)<=ai s a:=λa=>by
  induction a with
  |zero=>intro ha;exact(h.sr 0 ha).1
  |succ a ih=>
   intro ha;have h1:=ih (by lia);have h2:=hlt a ha;lia
 have hle:∀d a,a+d+1=n->ai s a<=a:=λd=>by
  induction d with
  |zero=>
   intro a ha;have:=(h.sr a (by lia)).2.1;lia
  |succ d ih=>
   intro a ha;have h1:=ih (a+1) (by lia);have h2:=hlt a (by lia);lia
 have hs:∀a,a<n->ai s a=a:=λa ha=>by
  have h1:=hge a ha;have h2:=hle (n-1-a) a (by lia);lia
 refine cQ (by rw[h.lr,aM]) λp hp=>?_;rw[h.lr]at hp;obtain⟨h1,h2,h3⟩:=h.rs p hp;rw[hs _ (by lia)]at h3;rw[aP hp];lia
def Wk(n:Nat)(b:Bool):List Int->List Int->List Int->Prop
 |[],r,_=>r=upTo n
 |k::w,r,s=>∃a:Nat,k=(a:Int)+1/\a+1<n/\ai s (a+1)<ai s a/\(b=true->∀j,j<a->ai s j<=ai s (j+1))/\Wk n b w (wC r a) (iB s a)
structure Od(n:Nat)(o r z:List Int):Prop where
 lo:o.length=n
 lz:z.length=n
 at_:∀p,p<n->ai o (ai r p).toNat=ai z p
 cr:∀p q,p<q->q<n->ai r q<ai r p->ai z q<ai z p
def Od.up {n:Nat}{r s o z:List Int}(h:Iv n r s)(d:Od n o r z){a:Nat}(ha:a+1<n)(hf:ai s (a+1)<ai s a):¬ai o (a+1)<ai o a:=by
 obtain⟨h1,h2,h3⟩:=h.sr a (by lia);obtain⟨g1,g2,g3⟩:=h.sr (a+1) ha;have e1:=d.at_ (ai s a).toNat (by lia)
 have e2:=d.at_ (ai s (a+1)).toNat (by lia)
 rw[h3,bB]at e1;rw[g3,bB]at e2;have:=d.cr (ai s (a+1)).toNat (ai s a).toNat (by lia) (by lia) (by rw[h3,g3];lia);rw[e1,e2];lia
def Od.step {n:Nat}{r s o z:List Int}(h:Iv n r s)(d:Od n o r z){a:Nat}(ha:a+1<n)(hf:ai s (a+1)<ai s a):Od n (iB o a) (wC r a) z:=by
 refine⟨by rw[jq,d.lo],d.lz,λp hp=>?_,λp q hpq hq hlt=>?_⟩
 ·obtain⟨h1,h2,h3⟩:=h.rs p hp
  have e:=d.at_ p hp
  rw[cR (by rw[h.lr];exact hp),mC _ _ (by rw[d.lo];exact ha)];generalize ai r p=v at h1 h2 h3 e;unfold sg
  by_cases e1:v=a
  ·rw[if_pos e1,if_neg (by lia),if_pos (by lia),<-e,show v.toNat=a by lia]
  ·rw[if_neg e1]
   by_cases e2:v=(a:Int)+1
   ·rw[if_pos e2,if_pos (by lia),<-e,show v.toNat=a+1 by lia]
   ·rw[if_neg e2,if_neg (by lia),if_neg (by lia),e]
 ·rw[cR (by rw[h.lr];lia),cR (by rw[h.lr];lia)]at hlt
  refine d.cr p q hpq hq ?_;obtain⟨p1,p2,p3⟩:=h.rs p (by lia);obtain⟨q1,q2,q3⟩:=h.rs q hq;have hne:¬(ai r p=a/\ai r q=(a:Int)+1):=λz=>by
   rw[z.1,bB]at p3;rw[z.2,show((a:Int)+1).toNat=a+1 by lia]at q3;lia
  have ara:ai r p≠ai r q:=λz=>by
   rw[z,q3]at p3;lia
  generalize ai r p=x at*;generalize ai r q=y at*;unfold sg at hlt
  repeat' split at hlt
  all_goals lia
def Od.done {n:Nat}{o z:List Int}(d:Od n o (upTo n) z):o=z:=cQ (by rw[d.lo,d.lz]) λp hp=>by
 rw[d.lo]at hp;have:=d.at_ p hp
 rwa [aP hp,bB]at this
def S(n:Nat)(f:Nat->Nat):Nat:=((b9 n).map f).sum
def aed(f:Nat->Nat):S 0 f=0:=rfl
def pH(n:Nat)(f:Nat->Nat):S (n+1) f=S n f+f n:=by
 unfold S;rw[Ou,cj,OD];simp
def OE(n:Nat)(f:Nat->Nat):S (n+1) f=f 0+S n λi=>f (i+1):=by
 unfold S;rw[Hr,bw,qe,eR];rfl
def kF{n:Nat}{f g:Nat->Nat}(h:∀i,i<n->f i=g i):S n f=S n g:=by
 induction n with
 |zero=>rfl
 |succ n ih=>rw[pH,pH,ih λi hi=>h i (by lia),h n (by lia)]
def JZ(n:Nat)(f g:Nat->Nat):S n (λi=>f i+g i)=S n f+S n g:=by
 induction n with
 |zero=>rfl
 |succ n ih=>rw[pH,pH,pH,ih];lia
def Y6(n c:Nat):S n (λ_=>c)=n*c:=by
 induction n with
 |zero=>rw[Nat.zero_mul];rfl
 |succ n ih=>rw[pH,ih,Hc]
def Ul(n m:Nat)(f:Nat->Nat->Nat):S n (λi=>S m λj=>f i j)=S m λj=>S n λi=>f i j:=by
 induction n with
 |zero=>
  rw[aed,show(λj=>S 0 λi=>f i j)=λ_=>0 from rfl,Y6,Nat.mul_zero]
 |succ n ih=>
  rw[pH,ih,<-JZ];exact kF λj _=>(pH n λi=>f i j).symm
def aee(n q:Nat)(g:Nat->Nat):S n (λp=>if p<q then g p else 0)=S (min n q) g:=by
 induction n with
 |zero=>rw[Nat.zero_min];rfl
 |succ n ih=>
  rw[pH,ih]
  by_cases h:n<q
  ·rw[if_pos h,show min n q=n by lia,show min (n+1) q=n+1 by lia,pH]
  ·rw[if_neg h,show min n q=q by lia,show min (n+1) q=q by lia]
   rfl
def Um{n:Nat}{r s:List Int}(h:Iv n r s)(f:Nat->Nat):S n (λv=>f (ai s v).toNat)=S n f:=by
 unfold S;have p:((b9 n).map λv=>(ai s v).toNat).Perm (b9 n):=by
  refine(Y7 ?_ Y8).mpr λx=>?_
  ·unfold g6
   rw[HR];refine Nz.imp_of_mem ?_ Y8;intro a b ha hb hab e;rw[rn]at ha hb;have h1:=h.sr a ha;have h2:=h.sr b hb;exact hab (h.RV ha hb (by lia))
  ·rw[cC]
   constructor
   ·rintro⟨v,hv,rfl⟩
    rw[rn]at hv⊢;have:=h.sr v hv;lia
   ·intro hx
    rw[rn]at hx;obtain⟨h1,h2,h3⟩:=h.rs x hx;exact⟨(ai r x).toNat,rn.mpr (by lia),by rw[h3,bB]⟩
 have:=(p.map f).sum_nat;rw[eR]at this;exact this
def Fe(x:Int)(pre:List Int):Nat:=(pre.filter λs=>decide (x<s)).length
def LX(x y:Int)(pre:List Int):Fe x (pre++[y])=Fe x pre+if x<y then 1 else 0:=by
 unfold Fe;rw[Y9,bO];congr 1;rw[Za]
 by_cases h:x<y
 ·rw[if_pos (decide_eq_true h),if_pos h];rfl
 ·rw[if_neg (by rw[decide_eq_true_eq];exact h),if_neg h];rfl
def Zb{x:Int}{a b:List Int}(p:a.Perm b):Fe x a=Fe x b:=(p.filter _).length_eq
def IW:List Int->List Int->Nat
 |_,[]=>0
 |pre,x::l=>Fe x pre+IW (pre++[x]) l
theorem J0:∀(l:List Int){a b:List Int},a.Perm b->IW a l=IW b l
 |[],a,b,p=>rfl
 |x::l,a,b,p=>by
  unfold IW;rw[Zb p,J0 l (p.append_right [x])]
theorem C0:∀(l:List Int)(a:Nat)(pre:List Int),a+1<l.length->IW pre (iB l a)+(if ai l (a+1)<ai l a then 1 else 0)=IW pre l+(if ai l a<ai l (a+1)then 1 else 0)
 |[],a,pre,h=>by simp at h
 |[x],a,pre,h=>by simp at h
 |x::y::l,0,pre,h=>by
  show Fe y pre+(Fe x (pre++[y])+IW (pre++[y]++[x]) l)+(if y<x then 1 else 0)=Fe x pre+(Fe y (pre++[x])+IW (pre++[x]++[y]) l)+(if x<y then 1 else 0);rw[LX,LX,J0 l (show(pre++[y]++[x]).Perm (pre++[x]++[y])by
   rw[bQ,bQ];exact HS.append_left pre (HS.swap x y []))]
  lia
 |x::y::l,a+1,pre,h=>by
  rw[wB];show Fe x pre+IW (pre++[x]) (iB (y::l) a)+(if ai (y::l) (a+1)<ai (y::l) a then 1 else 0)=Fe x pre+IW (pre++[x]) (y::l)+(if ai (y::l) a<ai (y::l) (a+1)then 1 else 0);have:=C0 (y::l) a (pre++[x]) (by simpa using h);lia
theorem abq:∀(l pre:List Int),IW pre l=S l.length λj=>Fe (ai l j) (pre++l.take j)
 |[],pre=>rfl
 |x::l,pre=>by
  rw[bD,OE];show Fe x pre+IW (pre++[x]) l=_;rw[abq l (pre++[x]),show Fe (ai (x::l) 0) (pre++(x::l).take 0)=Fe x pre by rw[Yc,bE];rfl];congr 1;refine kF λi _=>?_;show Fe (ai l i) (pre++[x]++l.take i)=Fe (ai l i) (pre++x::l.take i);rw[bQ];rfl
theorem ahq(x:Int)(l:List Int):∀q,q<=l.length->Fe x (l.take q)=S q λp=>if x<ai l p then 1 else 0
 |0,_=>rfl
 |q+1,h=>by
  have hq:q<l.length:=by lia
  have e:l.take (q+1)=l.take q++[ai l q]:=by
   rw[CW,gI hq];rfl
  rw[e,LX,ahq x l q (by lia),pH]
def kG(l:List Int):Nat:=IW [] l
def F8(l:List Int):kG l=S l.length λq=>S l.length λp=>if p<q then(if ai l q<ai l p then 1 else 0)else 0:=by
 unfold kG;rw[abq];refine kF λq hq=>?_;rw[ky,ahq _ _ q (by lia),aee,show min l.length q=q by lia]
def D1{n:Nat}{r s:List Int}(h:Iv n r s):kG r=kG s:=by
 rw[F8,F8,h.lr,h.ls,<-Um h (λq=>S n λp=>if p<q then(if ai r q<ai r p then 1 else 0)else 0),Ul n n λq p=>if p<q then(if ai s q<ai s p then 1 else 0)else 0];refine kF λw hw=>?_;rw[<-Um h (λp=>if p<(ai s w).toNat then(if ai r (ai s w).toNat<ai r p then 1 else 0)else 0)];refine kF λv hv=>?_;obtain⟨h1,h2,h3⟩:=h.sr w hw;obtain⟨g1,g2,g3⟩:=h.sr v hv;rw[h3,g3]
 repeat' split
 all_goals first|rfl|lia
def g7{l:List Int}{i:Int}(h:0<=i)(h2:i<l.length):jJ (aW l) i=aa (.int (ai l i.toNat)):=by
 rw[Hv,Oh h,gI (by lia)];rfl
theorem yP{b:D->DE->R DE}{ct:DE->R Bool}{fe:DE->R D}{e₀:DE}(P:Int->Bool):∀(w:List Int),(∀k∈w,∃e,b (.int k) e₀=.ok e/\ct e=.ok (P k)/\fe e=.ok (.int k))->ed b ct fe e₀ (aW w)=.ok (aW (w.filter P))
 |[],_=>rfl
 |k::w,h=>by
  obtain⟨e,h1,h2,h3⟩:=h k (by simp);have ih:=yP P w λx hx=>h x (by simp[hx]);rw[<-tj];unfold ed;rw[h1,R.cB,h2,R.cB,Za]
  by_cases hp:P k=true
  ·rw[if_pos hp,if_pos hp,h3,R.cB,ih]
   rfl
  ·rw[if_neg hp,if_neg hp,ih]
def Zc(n:Nat)(h:n<=7):LB [.int 1,.int n]=.ok (aW ((b9 (n-1)).map λi=>1+((i:Nat):Int))):=by
 rw[LK 1 n (by lia),show((n:Int)-1).toNat=n-1 by lia,xK]
def Zd{n:Nat}{k:Int}(h:k∈(b9 (n-1)).map λi=>1+((i:Nat):Int)):∃a:Nat,k=(a:Int)+1/\a+1<n:=by
 obtain⟨i,hi,rfl⟩:=cC.mp h;rw[rn]at hi;exact⟨i,by lia,by lia⟩
def zX{n:Nat}{r s:List Int}(h:Iv n r s){v:Nat}(hv:v<n):pF (aW r) (.int v)=.ok (.int (ai s v)):=by
 unfold pF;rw[qC];obtain⟨h1,h2⟩:=h.idx hv;show(if(v:Int)∈r then R.ok (D.int (r.idxOf (v:Int):Nat))else R.bad)=_;rw[if_pos h1,h2]
theorem J1:∀n:Nat,(aZ n [D.int 0]).flatten=aW (aZ n 0)
 |0=>rfl
 |n+1=>by
  rw[gm,dA,J1 n];rfl
def xQ{n:Nat}{r s:List Int}(h:Iv n r s)(hn:n<=7):fX [.lst (aW r)]=.ok (aW s):=by
 unfold fX BV;dsimp [mS,mD,mF,dH,aN,reduceAdd,reduceSub,reduceEqDiff,cM,h.lr];rw[LL _ _ ⟨by lia,by lia,big (by rw[bB,bD,gG];lia)⟩,bB];have e0:=J1 n;rw[e0];dsimp;obtain⟨t,e,hj⟩:=A5 (S:=List Int×Sl×Sl) (b:=qF) (λi t=>t.1.length=n/\∀p,p<i->p<n->ai t.1 (ai r p).toNat=p) (λt=>[.val (.lst (aW r)),.own (aW t.1),t.2.1,t.2.2]) (jz (aW r)) 0 (aZ n 0,.no,.no) ⟨xw,λp hp=>by lia⟩ (by
  rintro j ⟨l,s2,s3⟩ x ⟨hl,hs⟩ hx;obtain⟨c,hc,rfl⟩:=FU hx;rw[jR]at hs⊢;have hjn:j<n:=by
   have:=(bG.mp hc).1
   rwa [h.lr]at this
  rw[gI (by rw[h.lr];exact hjn)]at hc;have RY:=cA.inj hc;obtain⟨h1,h2,h3⟩:=h.rs j hjn;unfold qF;dsimp [mS,mD,mF,dH,aN,reduceAdd,reduceSub,reduceEqDiff,bT2];rw[JC (by lia) (by rw[cM];have:l.length=n:=hl;lia),Yh,<-RY];refine⟨(l.set (ai r j).toNat j,_,_),rfl,by rw[jP];exact hl,λp hp hpn=>?_⟩;obtain⟨p1,p2,p3⟩:=h.rs p hpn;have Uo:l.length=n:=hl;show ai (l.set (ai r j).toNat j) (ai r p).toNat=p;rw[D0 (by lia)]
  by_cases ep:p=j
  ·subst ep
   rw[if_pos rfl]
  ·rw[if_neg λz=>by rw[<-z,h3]at p3;lia]
   exact hs p (by lia) hpn)
 obtain⟨l,s2,s3⟩:=t;obtain⟨hl,hs⟩:=hj;dsimp only at e;rw[e];have el:l=s:=by
  have Yq:l.length=n:=hl;refine cQ (by rw[Yq,h.ls]) λv hv=>?_;rw[Yq]at hv;obtain⟨h1,h2,h3⟩:=h.sr v hv;have:=hs (ai s v).toNat (by rw[jR];unfold jz;rw[aB,OG,cM,h.lr];lia) (by lia);rw[h3,bB]at this;dsimp only at this;lia
 rw[el];dsimp [mS,mD,mF,dH,aN,reduceAdd,reduceSub,reduceEqDiff,mr]
def J2(l:List Int)(hn:l.length<=7):xP [.lst (aW l)]=.ok (aW (zW l)):=by
 unfold xP Ox;dsimp [mS,mD,mF,dH,aN,reduceAdd,reduceSub,reduceEqDiff,cM];rw[Zc _ hn];dsimp [iW];rw[yP (λk=>decide (ai l k.toNat<ai l (k-1).toNat)) _ λk hk=>⟨_,j8 _ _ _,by
  obtain⟨a,rfl,ha⟩:=Zd hk;unfold DU ni;dsimp [mS,mD,mF,dH,aN,reduceAdd,reduceSub,reduceEqDiff];rw[g7 (by lia) (by lia),g7 (by lia) (by lia)];dsimp,by
  unfold DV ni;dsimp [mS,mD,mF,dH,aN,reduceAdd,reduceSub,reduceEqDiff]⟩]
 dsimp [R.j6];have hd:=Y4 l;rw[show List.filter _ _=zW l from rfl,gq (by lia)];dsimp [mr]
def Bc{n:Nat}{r s:List Int}(h:Iv n r s)(hn:n<=7):qG [.lst (aW r)]=.ok (aW (zW s)):=by
 unfold qG JT;dsimp [mS,mD,mF,dH,aN,reduceAdd,reduceSub,reduceEqDiff];rw[xQ h hn];dsimp;rw[J2 s (by rw[h.ls];exact hn)];dsimp [mr]
def Bd{l:List Int}(hn:l.length<=7){a:Nat}(ha:a+1<l.length):cD [.lst (aW l),.int ((a:Int)+1)]=.ok (aW (iB l a)):=by
 unfold cD mB;dsimp [mS,mD,mF,dH,aN,reduceAdd,reduceSub,reduceEqDiff,rH];rw[A7 _ _ (by lia),DM _ _ (by lia),g7 (by lia) (by lia),g7 (by lia) (by lia),show((a:Int)+1-1).toNat=a by lia,show((a:Int)+1+1).toNat=a+2 by lia,show((a:Int)+1).toNat=a+1 by lia];dsimp;rw[show[D.int (ai l (a+1)),D.int (ai l a)]=aW [ai l (a+1),ai l a]from rfl,qc,gq (by simp_all only [bO,iM,bD,gG];lia)];dsimp;rw[qc,HV l a ha,gq (by rw[jq];lia)];dsimp [mr]
def J3{n:Nat}{r s:List Int}(h:Iv n r s)(hn:n<=7){a:Nat}(ha:a+1<n):dD [.lst (aW r),.int ((a:Int)+1)]=.ok (aW (wC r a)):=by
 unfold dD nj;dsimp [mS,mD,mF,dH,aN,reduceAdd,reduceSub,reduceEqDiff];rw[xQ h hn];dsimp;rw[Bd (by rw[h.ls];exact hn) (by rw[h.ls];exact ha)];dsimp;rw[xQ (h.step ha).symm hn];dsimp [mr]
abbrev RP:=List Int×List Int
structure Ad where
 dx:ae
 kn:ae
 nu:ae
 fi:ae
 la:ae
 sh:ae
 lo:ae
 ke:ae
 li:ae
 ks:List ae
def Ad.hd (A:Ad):List ae:=[A.dx,A.kn,A.nu,A.fi,A.la,A.sh,A.lo,A.ke,A.li]
def Ad.all (A:Ad):List ae:=A.hd++A.ks
def Cc(A:Ad):List (Str×V):=[("known",.ref A.kn),("numbers",.ref A.nu),("firsts",.ref A.fi),("lasts",.ref A.la),("shorter",.ref A.sh),("longer",.ref A.lo),("kept",.ref A.ke),("line",.ref A.li)]
def kk(r:List Int):List Key:=r.map gX
def ak9(r:List Int):(kk r).map kV=r.map V.int:=by unfold kk;rw[eR];rfl
def Up{r s:List Int}(h:kk r=kk s):r=s:=by
 unfold kk at h;exact(List.map_inj_right (λx y e=>gX.inj e)).mp h
def LY(ks:List Int):Int:=ks.foldl (λb k=>HE b (1*2^(k-1).toNat)) 0
def Cd(l:List Int):Int:=LY (zW l)
def vO(p:RP)(a:Nat):RP:=(iB p.1 a,wC p.2 a)
def yQ(p:RP)(a:Nat):RP:=(wC p.1 a,iB p.2 a)
def pI(p q:RP):List Int:=(zW q.2).filter λk=> !decide (k∈zW p.1)
def gx:Nat->RP->RP->RP×RP
 |0,p,q=>(p,q)
 |f+1,p,q=>match (pI p q).getLast? with
  |none=>(p,q)
  |some k=>gx f (vO p (k-1).toNat) (yQ q (k-1).toNat)
def Iv.uniq {n:Nat}{r r' s:List Int}(h:Iv n r s)(g:Iv n r' s):r=r':=by
 refine cQ (by rw[h.lr,g.lr]) λj hj=>?_;obtain⟨a1,a2,a3⟩:=h.rs j (by rw[h.lr]at hj;exact hj);obtain⟨b1,b2,b3⟩:=g.sr (ai r j).toNat (by lia);rw[a3,bB]at b3;lia
def mE{n:Nat}{p q:RP}(h:Iv n p.1 p.2)(g:Iv n q.1 q.2)(e:p.1=q.1):p=q:=by
 have h':=h.symm;rw[e]at h';exact Prod.ext e (Iv.uniq h' g.symm)
structure m8(C:ae)(H:Hp)(a:ae)(A:Ad)(ex:List (Str×V))(n:Nat)(kn:List RP)(ln:List Int)(B:Nat)(nu sh lo ke:List (List Key×V)):Prop where
 ob:H a=aa (.ins C A.dx (Cc A++ex))
 dx:∃o,H A.dx=aa o
 nd:(a::A.all).Nodup
 hkn:H A.kn=aa (.lst (A.ks.map V.ref))
 Ka:A.ks.length=kn.length
 hks:∀(i:Nat)(b:ae)(p:RP),A.ks[i]?=aa b->kn[i]?=aa p->H b=aa (.lst (p.1.map V.int))
 Ff:H A.nu=aa (.dT nu)
 ER:H A.fi=aa (.lst (kn.map λp=>V.int (Cd p.2)))
 hla:H A.la=aa (.lst (kn.map λp=>V.int (Cd p.1)))
 hsh:H A.sh=aa (.dT sh)
 hlo:H A.lo=aa (.dT lo)
 hke:H A.ke=aa (.dT ke)
 hli:H A.li=aa (.lst (ln.map V.int))
 rw:∀p∈kn,Iv n p.1 p.2
 n1:∀(i:Nat)(p:RP),kn[i]?=aa p->g9 nu (kk p.1)=aa (.int i)
 n2:∀r:List Int,(∀p∈kn,p.1≠r)->g9 nu (kk r)=none
 s1:∀(i:Nat)(k:Int)(v:V),g9 sh [.inl (i:Int),.inl k]=aa v->∃(j:Nat)(p:RP),kn[i]?=aa p/\kn[j]?=aa (yQ p (k-1).toNat)/\v=.int j
 l1:∀(i:Nat)(k:Int)(v:V),g9 lo [.inl (i:Int),.inl k]=aa v->∃(j:Nat)(p:RP),kn[i]?=aa p/\kn[j]?=aa (vO p (k-1).toNat)/\v=.int j
 k1:∀(i j:Nat)(v:V),g9 ke [.inl (i:Int),.inl (j:Int)]=aa v->∃(t:ae)(i' j':Nat)(p q:RP),kn[i]?=aa p/\kn[j]?=aa q/\v=.ref t/\H t=aa (.tup [.int i',.int j'])/\kn[i']?=aa (gx 50 p q).1/\kn[j']?=aa (gx 50 p q).2
 z:kn.length<=B/\nu.length<=B/\sh.length<=B/\lo.length<=B/\ke.length<=B
 li:∀m∈ln,0<=m/\m<kn.length
def m8.same {C:ae}{H H':Hp}{a:ae}{A:Ad}{ex:List (Str×V)}{n:Nat}{kn:List RP}{ln:List Int}{B:Nat}{nu sh lo ke:List (List Key×V)}(c:m8 C H a A ex n kn ln B nu sh lo ke)(s:bK H H'):m8 C H' a A ex n kn ln B nu sh lo ke:=
 ⟨s _ _ c.ob,let⟨o,h⟩:=c.dx;⟨o,s _ _ h⟩,c.nd,s _ _ c.hkn,c.Ka,λi b p e1 e2=>s _ _ (c.hks i b p e1 e2),s _ _ c.Ff,s _ _ c.ER,s _ _ c.hla,s _ _ c.hsh,s _ _ c.hlo,s _ _ c.hke,s _ _ c.hli,c.rw,c.n1,c.n2,c.s1,c.l1,
  λi j v e=>by
   obtain⟨t,i',j',p,q,h1,h2,h3,h4,h5⟩:=c.k1 i j v e;exact⟨t,i',j',p,q,h1,h2,h3,s _ _ h4,h5⟩,c.z,c.li⟩
def m8.more {C:ae}{H:Hp}{a:ae}{A:Ad}{ex:List (Str×V)}{n:Nat}{kn:List RP}{ln:List Int}{B B':Nat}{nu sh lo ke:List (List Key×V)}(c:m8 C H a A ex n kn ln B nu sh lo ke)(h:B<=B'):m8 C H a A ex n kn ln B' nu sh lo ke:=
 {c with z:=by have:=c.z;lia}
structure Nes(a:ae)(A:Ad):Prop where
 n1:A.kn≠A.fi
 n2:A.kn≠A.la
 n3:A.kn≠A.li
 n4:A.fi≠A.la
 n5:A.fi≠A.li
 n6:A.la≠A.li
 m1:A.nu≠A.sh
 m2:A.nu≠A.lo
 m3:A.nu≠A.ke
 m4:A.sh≠A.lo
 m5:A.sh≠A.ke
 m6:A.lo≠A.ke
 ksn:∀b∈A.ks,b≠A.kn/\b≠A.fi/\b≠A.la/\b≠A.li
 d1:A.dx≠A.kn
 d2:A.dx≠A.nu
 d3:A.dx≠A.fi
 d4:A.dx≠A.la
 d5:A.dx≠A.sh
 d6:A.dx≠A.lo
 d7:A.dx≠A.ke
 d8:A.dx≠A.li
 d9:a≠A.dx
 ksd:∀b∈A.ks,b≠A.dx
def m8.nes {C:ae}{H:Hp}{a:ae}{A:Ad}{ex:List (Str×V)}{n:Nat}{kn:List RP}{ln:List Int}{B:Nat}{nu sh lo ke:List (List Key×V)}(c:m8 C H a A ex n kn ln B nu sh lo ke):
  Nes a A:=by
 have nd:=c.nd;unfold Ad.all Ad.hd at nd;simp only [gF,ky,fO,aX,not_or]at nd;obtain⟨⟨a1,a2⟩,⟨d1,d2,d3,d4,d5,d6,d7,d8,d9⟩,⟨k1,k2,k3,k4,k5,k6,k7,k8⟩,⟨n1,n2,n3,n4,n5,n6,n7⟩,⟨f1,f2,f3,f4,f5,f6⟩,⟨l1,l2,l3,l4,l5⟩,⟨s1,s2,s3,s4⟩,⟨o1,o2,o3⟩,⟨e1,e2⟩,i1,_⟩:=nd;exact⟨k2,k3,k7,f1,f5,l4,n3,n4,n5,s1,s2,o1,λb hb=>⟨λz=>k8 (z▸hb),λz=>f6 (z▸hb),λz=>l5 (z▸hb),λz=>i1 (z▸hb)⟩,d1,d2,d3,d4,d5,d6,d7,d8,a1,λb hb z=>d9 (z▸hb)⟩
structure m9(H H':Hp)(F F':List ae):Prop where
 kp:∀x o,x∉F->H x=aa o->H' x=aa o
 nw:∀x∈F',x∈F\/H x=none
 gr:∀x,H' x=none->H x=none
def m9.refl (H:Hp)(F:List ae):m9 H H F F:=⟨λ_ _ _ h=>h,λ_ h=>.inl h,λ_ h=>h⟩
def m9.trans {H H1 H2:Hp}{F F1 F2:List ae}(a:m9 H H1 F F1)(b:m9 H1 H2 F1 F2):m9 H H2 F F2:=
 ⟨λx o hx h=>b.kp x o (λz=>(a.nw x z).elim hx λq=>by rw[h]at q;cases q) (a.kp x o hx h),λx hx=>(b.nw x hx).elim (λz=>a.nw x z) λz=>.inr (a.gr x z),λx hx=>a.gr x (b.gr x hx)⟩
def m9.same {H H1:Hp}(s:bK H H1)(F:List ae):m9 H H1 F F:=⟨λx o _ h=>s x o h,λ_ h=>.inl h,λ_ h=>s.free h⟩
theorem m9.upd {H:Hp}{F:List ae}{x:ae}(hx:x∈F)(o:HO):m9 H (upd H x o) F F:=⟨λy o' hy h=>by rw[aH (λz=>hy (by rw[z];exact hx))];exact h,λ_ h=>.inl h,λy hy=>by
 by_cases z:y=x
 ·rw[z,aT]at hy;cases hy
 ·rw[aH z]at hy;exact hy⟩
def m8.there {C:ae}{H:Hp}{a:ae}{A:Ad}{ex:List (Str×V)}{n:Nat}{kn:List RP}{ln:List Int}{B:Nat}{nu sh lo ke:List (List Key×V)}(c:m8 C H a A ex n kn ln B nu sh lo ke){x:ae}(hx:x∈a::A.all):∃o,H x=aa o:=by
 rcases aX.mp hx with rfl|hx
 ·exact⟨_,c.ob⟩
 ·rcases cu.mp hx with hx|hx
  ·unfold Ad.hd at hx
   simp only [aX,uF,or_false]at hx;rcases hx with rfl|rfl|rfl|rfl|rfl|rfl|rfl|rfl|rfl
   ·exact c.dx
   ·exact⟨_,c.hkn⟩
   ·exact⟨_,c.Ff⟩
   ·exact⟨_,c.ER⟩
   ·exact⟨_,c.hla⟩
   ·exact⟨_,c.hsh⟩
   ·exact⟨_,c.hlo⟩
   ·exact⟨_,c.hke⟩
   ·exact⟨_,c.hli⟩
  ·obtain⟨i,hi,ei⟩:=xF hx
   exact⟨_,c.hks i x (kn[i]'(by rw[<-c.Ka];exact hi)) (by rw[bj hi,ei]) (bj (by rw[<-c.Ka];exact hi))⟩
def wD{α:Type}{l:List α}{x y:α}{i:Nat}(e:(l++[x])[i]?=aa y)(h:¬i<l.length):i=l.length/\x=y:=by
 have h1:=(bG.mp e).1;rw[bO,nT]at h1;have h2:i=l.length:=by lia
 subst h2;exact⟨rfl,by simpa using e⟩
def fz{α:Type}{l m:List α}{x:α}{i:Nat}(e:l[i]?=aa x):(l++m)[i]?=aa x:=by
 rw[fu (bG.mp e).1];exact e
def m8.add {C:ae}{H H9:Hp}{a:ae}{A:Ad}{ex:List (Str×V)}{n:Nat}{kn:List RP}{ln:List Int}{B:Nat}{nu sh lo ke:List (List Key×V)}(c:m8 C H a A ex n kn ln B nu sh lo ke){p:RP}(hm:¬∃q∈kn,q.1=p.1)(iv:Iv n p.1 p.2){l2:ae}(l2H:H l2=none)
  (ob9:H9 a=aa (.ins C A.dx (Cc A++ex)))(nu9:H9 A.nu=aa (.dT (putK nu (kk p.1) (.int (kn.length:Int)))))(kn9:H9 A.kn=aa (.lst (A.ks.map V.ref++[.ref l2])))
  (fi9:H9 A.fi=aa (.lst ((kn.map λp=>V.int (Cd p.2))++[V.int (Cd p.2)])))(la9:H9 A.la=aa (.lst ((kn.map λp=>V.int (Cd p.1))++[V.int (Cd p.1)])))(l29:H9 l2=aa (.lst (p.1.map V.int)))
  (keep:∀x o,x≠A.nu->x≠A.kn->x≠A.fi->x≠A.la->H x=aa o->H9 x=aa o):m8 C H9 a {A with ks:=A.ks++[l2]} ex n (kn++[p]) ln (B+1) (putK nu (kk p.1) (.int (kn.length:Int))) sh lo ke:=by
 have Fg:∀j,g9 (putK nu (kk p.1) (.int (kn.length:Int))) j=if j=kk p.1 then aa (.int (kn.length:Int))else g9 nu j:=λj=>qB nu (kk p.1) j _;have hz:(kn++[p]).length<=B+1/\(putK nu (kk p.1) (.int (kn.length:Int))).length<=B+1/\sh.length<=B+1/\lo.length<=B+1/\ke.length<=B+1:=by
  have h0:=c.z;have h1:=lD nu (kk p.1) (.int (kn.length:Int));rw[bO,nT];lia
 have hli:∀m∈ln,0<=m/\m<((kn++[p]).length:Int):=λm hm'=>by
  have:=c.li m hm';rw[bO];lia
 have nl:∀{x y:ae}{xs:List V}{kv:List (List Key×V)},H x=aa (.lst xs)->H y=aa (.dT kv)->x≠y:=λh1 h2=>dZ h1 h2 (by intro z;cases z);obtain⟨n1,n2,n3,n4,n5,n6,m1,m2,m3,m4,m5,m6,ksn,d1,d2,d3,d4,d5,d6,d7,d8,d9,ksd⟩:=c.nes;refine⟨ob9,?_,?_,by rw[cj];exact kn9,by rw[bO,bO,c.Ka];rfl,λi b' q' e1 e2=>?_,nu9,by rw[cj];exact fi9,by rw[cj];exact la9,
  keep _ _ (Ne.symm m1) (Ne.symm (nl c.hkn c.hsh)) (Ne.symm (nl c.ER c.hsh)) (Ne.symm (nl c.hla c.hsh)) c.hsh,
  keep _ _ (Ne.symm m2) (Ne.symm (nl c.hkn c.hlo)) (Ne.symm (nl c.ER c.hlo)) (Ne.symm (nl c.hla c.hlo)) c.hlo,
  keep _ _ (Ne.symm m3) (Ne.symm (nl c.hkn c.hke)) (Ne.symm (nl c.ER c.hke)) (Ne.symm (nl c.hla c.hke)) c.hke,
  keep _ _ (nl c.hli c.Ff) (Ne.symm n3) (Ne.symm n5) (Ne.symm n6) c.hli,λq' RH=>?_,λi q' e=>?_,λr hr'=>?_,λi k' v e=>?_,λi k' v e=>?_,λi j v e=>?_,hz,hli⟩
 ·obtain⟨o,ho⟩:=c.dx
  exact⟨o,keep _ _ d2 d1 d3 d4 ho⟩
 ·show(a::(A.hd++(A.ks++[l2]))).Nodup
  rw[<-bQ,<-gF,Ol];refine⟨c.nd,by simp,λx hx y hy=>?_⟩;have ey:y=l2:=by simpa using hy
  rw[ey];intro z;obtain⟨o,ho⟩:=c.there hx;rw[z,l2H]at ho;cases ho
 ·have XC:(A.ks++[l2])[i]?=aa b':=e1
  by_cases hi:i<kn.length
  ·rw[fu (by rw[c.Ka];exact hi)]at XC
   rw[fu hi]at e2;have QP:=ksn b' (dJ XC);have hbH:=c.hks i b' q' XC e2;exact keep _ _ (nl hbH c.Ff) QP.1 QP.2.1 QP.2.2.1 hbH
  ·obtain⟨_,z2⟩:=wD e2 hi
   obtain⟨_,z1⟩:=wD XC (by rw[c.Ka];exact hi);rw[<-z1,<-z2];exact l29
 ·rcases cu.mp RH with h|h
  ·exact c.rw q' h
  ·have:q'=p:=by simpa using h
   rw[this];exact iv
 ·rw[Fg]
  by_cases hi:i<kn.length
  ·rw[fu hi]at e
   have hne:¬kk q'.1=kk p.1:=λz=>hm ⟨q',dJ e,Up z⟩;rw[if_neg hne];exact c.n1 i q' e
  ·obtain⟨z1,z2⟩:=wD e hi
   rw[<-z2,if_pos rfl,z1]
 ·rw[Fg,if_neg (λz=>hr' p (by simp) (Up z).symm)]
  exact c.n2 r λq' RH=>hr' q' (by simp[RH])
 ·obtain⟨j,p',h1,h2,h3⟩:=c.s1 i k' v e
  exact⟨j,p',fz h1,fz h2,h3⟩
 ·obtain⟨j,p',h1,h2,h3⟩:=c.l1 i k' v e
  exact⟨j,p',fz h1,fz h2,h3⟩
 ·obtain⟨t',i',j',p',q',h1,h2,h3,h4,h5,h6⟩:=c.k1 i j v e
  have nt:∀{y:ae}{xs:List V},H y=aa (.lst xs)->t'≠y:=λh=>dZ h4 h (by intro z;cases z);exact⟨t',i',j',p',q',fz h1,fz h2,h3,keep _ _ (dZ h4 c.Ff (by intro z;cases z)) (nt c.hkn) (nt c.ER) (nt c.hla) h4,fz h5,fz h6⟩
def m8.aeg {C:ae}{H:Hp}{a:ae}{A:Ad}{ex:List (Str×V)}{n:Nat}{kn:List RP}{ln:List Int}{B:Nat}{nu sh lo ke:List (List Key×V)}(c:m8 C H a A ex n kn ln B nu sh lo ke){i j:Nat}{k:Int}{p:RP}(hi:kn[i]?=aa p)(hj:kn[j]?=aa (yQ p (k-1).toNat)):
  m8 C (upd H A.sh (.dT (putK sh [.inl (i:Int),.inl k] (.int j)))) a A ex n kn ln (B+1) nu (putK sh [.inl (i:Int),.inl k] (.int j)) lo ke:=by
 have hz:kn.length<=B+1/\nu.length<=B+1/\(putK sh ([.inl (i:Int),.inl k]:List Key) (.int j)).length<=B+1/\lo.length<=B+1/\ke.length<=B+1:=by
  have h0:=c.z;have h1:=lD sh ([.inl (i:Int),.inl k]:List Key) (.int j);lia
 have Fg:∀x,g9 (putK sh ([.inl (i:Int),.inl k]:List Key) (.int j)) x=if x=[.inl (i:Int),.inl k]then aa (.int j)else g9 sh x:=λx=>qB sh _ x _;have nl:∀{x:ae}{xs:List V},H x=aa (.lst xs)->x≠A.sh:=λh1=>dZ h1 c.hsh (by intro z;cases z);obtain⟨_,_,_,_,_,_,m1,m2,m3,m4,m5,m6,ksn,d1,d2,d3,d4,d5,d6,d7,d8,d9,ksd⟩:=c.nes;have kp:∀x o,x≠A.sh->H x=aa o->(upd H A.sh (.dT (putK sh [.inl (i:Int),.inl k] (.int j)))) x=aa o:=λx o hx h=>by rw[aH hx];exact h
 have sem:∀(i':Nat)(k':Int)(v:V),g9 (putK sh ([.inl (i:Int),.inl k]:List Key) (.int j)) [.inl (i':Int),.inl k']=aa v->∃(j:Nat)(p:RP),kn[i']?=aa p/\kn[j]?=aa (yQ p (k'-1).toNat)/\v=.int j:=λi' k' v e=>by
  rw[Fg]at e;split at e
  ·rename_i z
   injection z with z1 z2;injection z2 with z2 _;have q1:(i':Int)=i:=gX.inj z1;have q2:k'=k:=gX.inj z2;have q3:i'=i:=by lia
   subst q2 q3;cases e;exact⟨j,p,hi,hj,rfl⟩
  ·exact c.s1 i' k' v e
 refine⟨kp _ _ (dZ c.ob c.hsh (by intro z;cases z)) c.ob,?_,c.nd,kp _ _ (nl c.hkn) c.hkn,c.Ka,λi b p e1 e2=>kp _ _ (nl (c.hks i b p e1 e2)) (c.hks i b p e1 e2),kp _ _ m1 c.Ff,kp _ _ (nl c.ER) c.ER,kp _ _ (nl c.hla) c.hla,aT,kp _ _ (Ne.symm m4) c.hlo,kp _ _ (Ne.symm m5) c.hke,kp _ _ (nl c.hli) c.hli,c.rw,c.n1,c.n2,sem,c.l1,λi j v e=>?_,hz,c.li⟩
 ·obtain⟨o,h⟩:=c.dx
  exact⟨o,kp _ _ d5 h⟩
 ·obtain⟨t,i',j',p,q,h1,h2,h3,h4,h5⟩:=c.k1 i j v e
  exact⟨t,i',j',p,q,h1,h2,h3,kp _ _ (dZ h4 c.hsh (by intro z;cases z)) h4,h5⟩
def m8.aeh {C:ae}{H:Hp}{a:ae}{A:Ad}{ex:List (Str×V)}{n:Nat}{kn:List RP}{ln:List Int}{B:Nat}{nu sh lo ke:List (List Key×V)}(c:m8 C H a A ex n kn ln B nu sh lo ke){i j:Nat}{k:Int}{p:RP}(hi:kn[i]?=aa p)(hj:kn[j]?=aa (vO p (k-1).toNat)):
  m8 C (upd H A.lo (.dT (putK lo [.inl (i:Int),.inl k] (.int j)))) a A ex n kn ln (B+1) nu sh (putK lo [.inl (i:Int),.inl k] (.int j)) ke:=by
 have hz:kn.length<=B+1/\nu.length<=B+1/\sh.length<=B+1/\(putK lo ([.inl (i:Int),.inl k]:List Key) (.int j)).length<=B+1/\ke.length<=B+1:=by
  have h0:=c.z;have h1:=lD lo ([.inl (i:Int),.inl k]:List Key) (.int j);lia
 have Fg:∀x,g9 (putK lo ([.inl (i:Int),.inl k]:List Key) (.int j)) x=if x=[.inl (i:Int),.inl k]then aa (.int j)else g9 lo x:=λx=>qB lo _ x _;have nl:∀{x:ae}{xs:List V},H x=aa (.lst xs)->x≠A.lo:=λh1=>dZ h1 c.hlo (by intro z;cases z);obtain⟨_,_,_,_,_,_,m1,m2,m3,m4,m5,m6,ksn,d1,d2,d3,d4,d5,d6,d7,d8,d9,ksd⟩:=c.nes;have kp:∀x o,x≠A.lo->H x=aa o->(upd H A.lo (.dT (putK lo [.inl (i:Int),.inl k] (.int j)))) x=aa o:=λx o hx h=>by rw[aH hx];exact h
 have sem:∀(i':Nat)(k':Int)(v:V),g9 (putK lo ([.inl (i:Int),.inl k]:List Key) (.int j)) [.inl (i':Int),.inl k']=aa v->∃(j:Nat)(p:RP),kn[i']?=aa p/\kn[j]?=aa (vO p (k'-1).toNat)/\v=.int j:=λi' k' v e=>by
  rw[Fg]at e;split at e
  ·rename_i z
   injection z with z1 z2;injection z2 with z2 _;have q1:(i':Int)=i:=gX.inj z1;have q2:k'=k:=gX.inj z2;have q3:i'=i:=by lia
   subst q2 q3;cases e;exact⟨j,p,hi,hj,rfl⟩
  ·exact c.l1 i' k' v e
 refine⟨kp _ _ (dZ c.ob c.hlo (by intro z;cases z)) c.ob,?_,c.nd,kp _ _ (nl c.hkn) c.hkn,c.Ka,λi b p e1 e2=>kp _ _ (nl (c.hks i b p e1 e2)) (c.hks i b p e1 e2),kp _ _ m2 c.Ff,kp _ _ (nl c.ER) c.ER,kp _ _ (nl c.hla) c.hla,kp _ _ m4 c.hsh,aT,kp _ _ (Ne.symm m6) c.hke,kp _ _ (nl c.hli) c.hli,c.rw,c.n1,c.n2,c.s1,sem,λi j v e=>?_,hz,c.li⟩
 ·obtain⟨o,h⟩:=c.dx
  exact⟨o,kp _ _ d6 h⟩
 ·obtain⟨t,i',j',p,q,h1,h2,h3,h4,h5⟩:=c.k1 i j v e
  exact⟨t,i',j',p,q,h1,h2,h3,kp _ _ (dZ h4 c.hlo (by intro z;cases z)) h4,h5⟩
def m8.aei {C:ae}{H:Hp}{a:ae}{A:Ad}{ex:List (Str×V)}{n:Nat}{kn:List RP}{ln:List Int}{B:Nat}{nu sh lo ke:List (List Key×V)}(c:m8 C H a A ex n kn ln B nu sh lo ke){i j i' j':Nat}{p q:RP}{t:ae}(hi:kn[i]?=aa p)(hj:kn[j]?=aa q)(ht:H t=aa (.tup [.int i',.int j']))(DB:kn[i']?=aa (gx 50 p q).1)(LU:kn[j']?=aa (gx 50 p q).2):
  m8 C (upd H A.ke (.dT (putK ke [.inl (i:Int),.inl (j:Int)] (.ref t)))) a A ex n kn ln (B+1) nu sh lo (putK ke [.inl (i:Int),.inl (j:Int)] (.ref t)):=by
 have hz:kn.length<=B+1/\nu.length<=B+1/\sh.length<=B+1/\lo.length<=B+1/\(putK ke ([.inl (i:Int),.inl (j:Int)]:List Key) (.ref t)).length<=B+1:=by
  have h0:=c.z;have h1:=lD ke ([.inl (i:Int),.inl (j:Int)]:List Key) (.ref t);lia
 have Fg:∀x,g9 (putK ke ([.inl (i:Int),.inl (j:Int)]:List Key) (.ref t)) x=if x=[.inl (i:Int),.inl (j:Int)]then aa (.ref t)else g9 ke x:=λx=>qB ke _ x _;have nl:∀{x:ae}{xs:List V},H x=aa (.lst xs)->x≠A.ke:=λh1=>dZ h1 c.hke (by intro z;cases z);have nt:∀{x:ae}{xs:List V},H x=aa (.tup xs)->x≠A.ke:=λh1=>dZ h1 c.hke (by intro z;cases z);obtain⟨_,_,_,_,_,_,m1,m2,m3,m4,m5,m6,ksn,d1,d2,d3,d4,d5,d6,d7,d8,d9,ksd⟩:=c.nes;have kp:∀x o,x≠A.ke->H x=aa o->(upd H A.ke (.dT (putK ke [.inl (i:Int),.inl (j:Int)] (.ref t)))) x=aa o:=λx o hx h=>by rw[aH hx];exact h
 refine⟨kp _ _ (dZ c.ob c.hke (by intro z;cases z)) c.ob,?_,c.nd,kp _ _ (nl c.hkn) c.hkn,c.Ka,λi b p e1 e2=>kp _ _ (nl (c.hks i b p e1 e2)) (c.hks i b p e1 e2),kp _ _ m3 c.Ff,kp _ _ (nl c.ER) c.ER,kp _ _ (nl c.hla) c.hla,kp _ _ m5 c.hsh,kp _ _ m6 c.hlo,aT,kp _ _ (nl c.hli) c.hli,c.rw,c.n1,c.n2,c.s1,c.l1,λx y v e=>?_,hz,c.li⟩
 ·obtain⟨o,h⟩:=c.dx
  exact⟨o,kp _ _ d7 h⟩
 ·rw[Fg]at e
  split at e
  ·rename_i z
   injection z with z1 z2;injection z2 with z2 _;have q1:(x:Int)=i:=gX.inj z1;have q2:(y:Int)=j:=gX.inj z2;have q3:x=i:=by lia
   have q4:y=j:=by lia
   subst q3 q4;cases e;exact⟨t,i',j',p,q,hi,hj,rfl,kp _ _ (nt ht) ht,DB,LU⟩
  ·obtain⟨t,i',j',p,q,h1,h2,h3,h4,h5⟩:=c.k1 x y v e
   exact⟨t,i',j',p,q,h1,h2,h3,kp _ _ (nt h4) h4,h5⟩
section
variable{A:Ad}{ex:List (Str×V)}
def F9:(Cc A++ex).lookup ("known":Str)=aa (.ref A.kn):=rfl
def OH:(Cc A++ex).lookup ("numbers":Str)=aa (.ref A.nu):=rfl
def Uq:(Cc A++ex).lookup ("firsts":Str)=aa (.ref A.fi):=rfl
def Ur:(Cc A++ex).lookup ("lasts":Str)=aa (.ref A.la):=rfl
def OI:(Cc A++ex).lookup ("shorter":Str)=aa (.ref A.sh):=rfl
def OJ:(Cc A++ex).lookup ("longer":Str)=aa (.ref A.lo):=rfl
def Us:(Cc A++ex).lookup ("kept":Str)=aa (.ref A.ke):=rfl
def Kb:(Cc A++ex).lookup ("line":Str)=aa (.ref A.li):=rfl
end
def BZ(z w:Int):List (Str×V):=[("none",.int z),("whole",.int w)]
def abt{A:Ad}{z w:Int}:(Cc A++BZ z w).lookup ("none":Str)=aa (.int z):=rfl
def ahr{A:Ad}{z w:Int}:(Cc A++BZ z w).lookup ("whole":Str)=aa (.int w):=rfl
abbrev six:List Int:=[1,2,3,4,5,6]
def aej(l:List (Int×Bool)):List Int:=(l.filter (·.2)).map (·.1)
def sel(b1 b2 b3 b4 b5 b6:Bool):List Int:=aej [(1,b1),(2,b2),(3,b3),(4,b4),(5,b5),(6,b6)]
theorem D2(f:Int->Bool):∀l:List Int,l.filter f=aej (l.map λk=>(k,f k))
 |[]=>rfl
 |k::l=>by
  have ih:=D2 f l;unfold aej at ih⊢;rw[bw];cases h:f k with
  |true=>rw[Ze h,Ze (by rfl),bw,ih]
  |false=>rw[Zf (by rw[h];decide),Zf (by simp),ih]
def zY(f:Int->Bool):six.filter f=sel (f 1) (f 2) (f 3) (f 4) (f 5) (f 6):=D2 f six
def Zg(f:Int->Bool):∀m:Nat,m<=7->((b9 (m-1)).map λi=>1+((i:Nat):Int)).filter f=six.filter λk=>decide (k.toNat<m)&&f k
 |0,_=>rfl
 |1,_=>rfl
 |2,_=>rfl
 |3,_=>rfl
 |4,_=>rfl
 |5,_=>rfl
 |6,_=>rfl
 |7,_=>rfl
 |m+8,h=>by lia
def dsB(l:List Int)(k:Int):Bool:=decide (k.toNat<l.length)&&decide (ai l k.toNat<ai l (k-1).toNat)
def C1{l:List Int}(h:l.length<=7):zW l=six.filter (dsB l):=Zg _ l.length h
def Ut:∀b1 b2 b3 b4 b5 b6 c1 c2 c3 c4 c5 c6:Bool,MX (LY (sel b1 b2 b3 b4 b5 b6)) (MY (LY (sel c1 c2 c3 c4 c5 c6)))=LY (sel (b1&& !c1) (b2&& !c2) (b3&& !c3) (b4&& !c4) (b5&& !c5) (b6&& !c6)):=by decide +kernel
def Kc:∀b1 b2 b3 b4 b5 b6:Bool,decide (0<LY (sel b1 b2 b3 b4 b5 b6))=(sel b1 b2 b3 b4 b5 b6).getLast?.isSome/\∀k∈(sel b1 b2 b3 b4 b5 b6).getLast?,((OA (LY (sel b1 b2 b3 b4 b5 b6)):Nat):Int)=k:=by decide +kernel
def HW{p q:RP}(hp:p.1.length<=7)(hq:q.2.length<=7):pI p q=six.filter λk=>dsB q.2 k&& !dsB p.1 k:=by
 unfold pI;rw[C1 hq,C1 hp,List.filter_filter];refine List.filter_congr λk hk=>?_;have:decide (k∈six.filter (dsB p.1))=dsB p.1 k:=by
  rw[y9,decide_eq_true_iff,lP];exact⟨λh=>h.2,λh=>⟨hk,h⟩⟩
 rw[this,Bool.and_comm]
def OO{p q:RP}(hp:p.1.length<=7)(hq:q.2.length<=7):MX (Cd q.2) (MY (Cd p.1))=LY (pI p q):=by
 unfold Cd;rw[C1 hq,C1 hp,HW hp hq,zY,zY,zY];exact Ut ..
def Uu{p q:RP}(hp:p.1.length<=7)(hq:q.2.length<=7):decide (0<LY (pI p q))=(pI p q).getLast?.isSome:=by
 rw[HW hp hq,zY];exact(Kc ..).1
def Uv{p q:RP}(hp:p.1.length<=7)(hq:q.2.length<=7){k:Int}(h:(pI p q).getLast?=aa k):((OA (LY (pI p q)):Nat):Int)=k:=by
 rw[HW hp hq,zY]at h⊢;exact(Kc ..).2 k h
theorem Ga:∀(l pre:List Int),IW pre l<=l.length*(pre.length+l.length)
 |[],pre=>by simp[IW]
 |x::l,pre=>by
  have h1:Fe x pre<=pre.length:=Y5 _ _;have h2:=Ga l (pre++[x]);rw[bO,nT]at h2;show Fe x pre+IW (pre++[x]) l<=(l.length+1)*(pre.length+(l.length+1));rw[Zh,show pre.length+(l.length+1)=pre.length+1+l.length by lia];lia
def Be{n:Nat}{p:RP}(hn:n<=7)(h:Iv n p.1 p.2):kG p.1<=49:=by
 have h1:=Ga p.1 [];rw[h.lr,gG,jR]at h1;have h2:n*n<=7*7:=OP hn hn;unfold kG;lia
def uQ{n:Nat}{p q:RP}(hp:Iv n p.1 p.2)(hq:Iv n q.1 q.2){k:Int}(h:k∈pI p q):∃j:Nat,k=(j:Int)+1/\j+1<n/\ai p.1 j<ai p.1 (j+1)/\ai q.2 (j+1)<ai q.2 j:=by
 unfold pI at h;obtain⟨h1,h2⟩:=lP.mp h;obtain⟨j,e,h3,h4⟩:=rM.mp h1;rw[hq.ls]at h3;have h5:k∉zW p.1:=by simpa using h2
 have h6:¬ai p.1 (j+1)<ai p.1 j:=λz=>h5 (rM.mpr ⟨j,e,by rw[hp.lr];exact h3,z⟩);have h7:ai p.1 j≠ai p.1 (j+1):=λz=>by
  have:=hp.symm.RV (v:=j) (w:=j+1) (by lia) h3 z;lia
 exact⟨j,e,h3,by lia,h4⟩
def jd{n:Nat}{p:RP}(h:Iv n p.1 p.2){j:Nat}(hj:j+1<n):Iv n (vO p j).1 (vO p j).2:=(h.symm.step hj).symm
def je{n:Nat}{p:RP}(h:Iv n p.1 p.2){j:Nat}(hj:j+1<n):Iv n (yQ p j).1 (yQ p j).2:=h.step hj
def tP{p q:RP}{k:Int}(f:Nat)(h:(pI p q).getLast?=aa k):gx (f+1) p q=gx f (vO p (k-1).toNat) (yQ q (k-1).toNat):=by
 show(match (pI p q).getLast? with
  |none=>(p,q)
  |some k=>gx f (vO p (k-1).toNat) (yQ q (k-1).toNat))=_
 rw[h]
def tQ{p q:RP}(f:Nat)(h:(pI p q).getLast?=none):gx f p q=(p,q):=by
 cases f with
 |zero=>rfl
 |succ f=>
  show(match (pI p q).getLast? with
   |none=>(p,q)
   |some k=>gx f (vO p (k-1).toNat) (yQ q (k-1).toNat))=_
  rw[h]
def Uw{n:Nat}{p:RP}(h:Iv n p.1 p.2){j:Nat}(hj:j+1<n)(hl:ai p.1 j<ai p.1 (j+1)):kG p.1<kG (vO p j).1:=by
 have e:=C0 p.1 j [] (by rw[h.lr];exact hj);show IW [] p.1<IW [] (iB p.1 j);rw[if_pos hl,if_neg (by lia)]at e;lia
def nI(ls:List Nat):List Int:=ls.map λ(m:Nat)=>(m:Int)
def gJ(kn:List RP)(ls:List Nat)(R:List RP):Prop:=ls.map (λm=>kn[m]?)=R.map aa
def gJ.len {kn:List RP}{ls:List Nat}{R:List RP}(h:gJ kn ls R):ls.length=R.length:=by
 have:=congrArg length h;simpa using this
theorem gJ.at {kn:List RP}{ls:List Nat}{R:List RP}(h:gJ kn ls R){i:Nat}{r:RP}(e:R[i]?=aa r):∃m,ls[i]?=aa m/\kn[m]?=aa r:=by
 have h1:(ls.map λm=>kn[m]?)[i]?=(R.map aa)[i]?:=by rw[show ls.map (λm=>kn[m]?)=R.map aa from h]
 rw[b8,b8,e]at h1;cases h2:ls[i]? with
 |none=>rw[h2]at h1;cases h1
 |some m=>rw[h2]at h1;exact⟨m,rfl,cA.inj h1⟩
def gJ.mem {kn:List RP}{ls:List Nat}{R:List RP}(h:gJ kn ls R){m:Nat}(hm:m∈ls):m<kn.length:=by
 have:kn[m]?∈R.map aa:=by rw[<-show ls.map (λm=>kn[m]?)=R.map aa from h];exact cC.mpr ⟨m,hm,rfl⟩
 obtain⟨r,_,e⟩:=cC.mp this;exact(bG.mp e.symm).1
def gJ.li {kn:List RP}{ls:List Nat}{R:List RP}(h:gJ kn ls R):∀m∈nI ls,0<=m/\m<kn.length:=λm hm=>by
 obtain⟨x,hx,rfl⟩:=cC.mp hm;have:=h.mem hx;lia
def gJ.pre {kn mo:List RP}{ls:List Nat}{R:List RP}(h:gJ kn ls R):gJ (kn++mo) ls R:=by
 unfold gJ;rw[<-show ls.map (λm=>kn[m]?)=R.map aa from h];refine mG λm hm=>?_;rw[fu (h.mem hm)]
def gJ.app {kn:List RP}{ls:List Nat}{R:List RP}(h:gJ kn ls R){m:Nat}{r:RP}(e:kn[m]?=aa r):gJ kn (ls++[m]) (R++[r]):=by
 unfold gJ;rw[cj,cj,show ls.map (λm=>kn[m]?)=R.map aa from h];simp[e]
theorem gJ.set {kn:List RP}{ls:List Nat}{R:List RP}(h:gJ kn ls R)(i:Nat){m:Nat}{r:RP}(e:kn[m]?=aa r):gJ kn (ls.set i m) (R.set i r):=by
 unfold gJ;rw[zJ,zJ,show ls.map (λm=>kn[m]?)=R.map aa from h,e]
def gJ.drop {kn:List RP}{ls:List Nat}{R:List RP}(h:gJ kn ls R):gJ kn ls.dropLast R.dropLast:=by
 unfold gJ;rw[C2,C2,show ls.map (λm=>kn[m]?)=R.map aa from h]
def sG(ls:List Nat):(nI ls).length=ls.length:=aB _
def Ce:List RP->RP->List RP
 |[],c=>[c]
 |p::ps,c=>if(gx 50 p c).1=p then c::p::ps else(gx 50 p c).2::Ce ps (gx 50 p c).1
def zZ(R:List RP)(p:RP):List RP:=(Ce R.reverse p).reverse
def jt(n:Nat)(R:List RP)(p:RP):List RP:=if(zZ R p).getLast?=aa (upTo n,upTo n)then(zZ R p).dropLast else zZ R p
theorem OQ:∀(R:List RP)(p:RP),(Ce R p).length=R.length+1
 |[],p=>rfl
 |r::R,p=>by
  unfold Ce;split
  ·rfl
  ·rw[bD,OQ R,bD]
def C3(R:List RP)(p:RP):(zZ R p).length=R.length+1:=by unfold zZ;rw[bH,OQ,bH]
def m8.Kd {C:ae}{H:Hp}{a:ae}{A:Ad}{ex:List (Str×V)}{n:Nat}{kn:List RP}{ln:List Int}{B:Nat}{nu sh lo ke:List (List Key×V)}(c:m8 C H a A ex n kn ln B nu sh lo ke){ln':List Int}(h:∀m∈ln',0<=m/\m<kn.length):
  m8 C (upd H A.li (.lst (ln'.map V.int))) a A ex n kn ln' B nu sh lo ke:=by
 have nd:∀{x:ae}{xs:List (List Key×V)},H x=aa (.dT xs)->x≠A.li:=λh1=>dZ h1 c.hli (by intro z;cases z);have nt:∀{x:ae}{xs:List V},H x=aa (.tup xs)->x≠A.li:=λh1=>dZ h1 c.hli (by intro z;cases z);obtain⟨n1,n2,n3,n4,n5,n6,_,_,_,_,_,_,ksn,d1,d2,d3,d4,d5,d6,d7,d8,d9,ksd⟩:=c.nes;have kp:∀x o,x≠A.li->H x=aa o->(upd H A.li (.lst (ln'.map V.int))) x=aa o:=λx o hx h=>by rw[aH hx];exact h
 refine⟨kp _ _ (dZ c.ob c.hli (by intro z;cases z)) c.ob,?_,c.nd,kp _ _ n3 c.hkn,c.Ka,λi b p e1 e2=>kp _ _ (ksn b (dJ e1)).2.2.2 (c.hks i b p e1 e2),kp _ _ (nd c.Ff) c.Ff,kp _ _ n5 c.ER,kp _ _ n6 c.hla,kp _ _ (nd c.hsh) c.hsh,kp _ _ (nd c.hlo) c.hlo,kp _ _ (nd c.hke) c.hke,aT,c.rw,c.n1,c.n2,c.s1,c.l1,λi j v e=>?_,c.z,h⟩
 ·obtain⟨o,h⟩:=c.dx
  exact⟨o,kp _ _ d8 h⟩
 ·obtain⟨t,i',j',p,q,h1,h2,h3,h4,h5⟩:=c.k1 i j v e
  exact⟨t,i',j',p,q,h1,h2,h3,kp _ _ (nt h4) h4,h5⟩
theorem m8.inj {C:ae}{H:Hp}{a:ae}{A:Ad}{ex:List (Str×V)}{n:Nat}{kn:List RP}{ln:List Int}{B:Nat}{nu sh lo ke:List (List Key×V)}(c:m8 C H a A ex n kn ln B nu sh lo ke){i j:Nat}{p q:RP}(hi:kn[i]?=aa p)(hj:kn[j]?=aa q):((i:Int)=j↔p=q):=by
 constructor
 ·intro e
  have:i=j:=by lia
  subst this;rw[hi]at hj;exact cA.inj hj
 ·rintro rfl
  have h1:=c.n1 i p hi;rw[c.n1 j p hj]at h1;injection h1 with h1;injection h1 with h1;exact h1.symm
theorem m8.D3 {n:Nat}:∀(f:Nat){p q:RP},Iv n p.1 p.2->Iv n q.1 q.2->Iv n (gx f p q).1.1 (gx f p q).1.2/\Iv n (gx f p q).2.1 (gx f p q).2.2
 |0,p,q,h1,h2=>⟨h1,h2⟩
 |f+1,p,q,h1,h2=>by
  cases hl:(pI p q).getLast? with
  |none=>rw[tQ _ hl];exact⟨h1,h2⟩
  |some k=>
   rw[tP f hl];obtain⟨j,rfl,hj,_⟩:=uQ h1 h2 (z6 hl);rw[show((j:Int)+1-1).toNat=j by lia];exact m8.D3 f (jd h1 hj) (je h2 hj)
def Dv{α:Type}{l:List α}{x:α}(h:l.getLast?=aa x):jJ l (-1)=aa x:=by
 obtain⟨ys,rfl⟩:=OS.mp h;unfold L2.jJ L2.yW;rw[if_neg (by decide),bO,nT,if_pos (by lia)];simp;rw[show(-1+((ys.length:Int)+1)).toNat=ys.length by lia];simp
def OT{α:Type}{l:List α}{x:α}(h:l.getLast?=aa x):l[l.length-1]?=aa x:=by
 obtain⟨ys,rfl⟩:=OS.mp h;simp
def gJ.last {kn:List RP}{ls:List Nat}{R:List RP}(h:gJ kn ls R)(hp:0<R.length):∃m r,ls.getLast?=aa m/\R.getLast?=aa r/\kn[m]?=aa r:=by
 have e:R[R.length-1]?=aa (R[R.length-1]'(by lia)):=bj (by lia);obtain⟨m,h1,h2⟩:=h.at e;refine⟨m,_,?_,?_,h2⟩
 ·rw[OU,h.len];exact h1
 ·rw[OU];exact e
def aek(ls:List Nat)(m:Nat):(nI (ls++[m])).map V.int=(nI ls).map V.int++[V.int m]:=by unfold nI;simp
def Bf{ls:List Nat}{i m:Nat}(h:ls[i]?=aa m):((nI ls).map V.int)[i]?=aa (V.int m):=by unfold nI;rw[b8,b8,h];rfl
def Ux(ls:List Nat)(i m:Nat):((nI ls).map V.int).set i (V.int m)=(nI (ls.set i m)).map V.int:=by unfold nI;rw[zJ,zJ]
def OV(ls:List Nat):((nI ls).map V.int).dropLast=(nI ls.dropLast).map V.int:=by unfold nI;rw[C2,C2]
def C4{ls:List Nat}{m:Nat}(h:ls.getLast?=aa m):((nI ls).map V.int).getLast?=aa (V.int m):=by unfold nI;rw[Zi,Zi,h];rfl
def Uy{R:List RP}{t:Nat}{r c:RP}(h:R[t]?=aa r):Ce (R.take (t+1)).reverse c=if(gx 50 r c).1=r then c::(R.take (t+1)).reverse else(gx 50 r c).2::Ce (R.take t).reverse (gx 50 r c).1:=by
 have e:R.take (t+1)=R.take t++[r]:=by rw[CW,h];rfl
 rw[e,n8];rfl
def m8.abu {C:ae}{H:Hp}{a:ae}{A:Ad}{ex:List (Str×V)}{n:Nat}{kn:List RP}{ln:List Int}{B:Nat}{nu sh lo ke:List (List Key×V)}(c:m8 C H a A ex n kn ln B nu sh lo ke)(ex':List (Str×V)):
  m8 C (upd H a (.ins C A.dx (Cc A++ex'))) a A ex' n kn ln B nu sh lo ke:=by
 have nl:∀{x:ae}{xs:List V},H x=aa (.lst xs)->x≠a:=λh1=>dZ h1 c.ob (by intro z;cases z);have nd:∀{x:ae}{xs:List (List Key×V)},H x=aa (.dT xs)->x≠a:=λh1=>dZ h1 c.ob (by intro z;cases z);have nt:∀{x:ae}{xs:List V},H x=aa (.tup xs)->x≠a:=λh1=>dZ h1 c.ob (by intro z;cases z);obtain⟨_,_,_,_,_,_,_,_,_,_,_,_,_,d1,d2,d3,d4,d5,d6,d7,d8,d9,_⟩:=c.nes;have kp:∀x o,x≠a->H x=aa o->(upd H a (.ins C A.dx (Cc A++ex'))) x=aa o:=λx o hx h=>by rw[aH hx];exact h
 refine⟨aT,?_,c.nd,kp _ _ (nl c.hkn) c.hkn,c.Ka,λi b p e1 e2=>kp _ _ (nl (c.hks i b p e1 e2)) (c.hks i b p e1 e2),kp _ _ (nd c.Ff) c.Ff,kp _ _ (nl c.ER) c.ER,kp _ _ (nl c.hla) c.hla,kp _ _ (nd c.hsh) c.hsh,kp _ _ (nd c.hlo) c.hlo,kp _ _ (nd c.hke) c.hke,kp _ _ (nl c.hli) c.hli,c.rw,c.n1,c.n2,c.s1,c.l1,λi j v e=>?_,c.z,c.li⟩
 ·obtain⟨o,h⟩:=c.dx
  exact⟨o,kp _ _ (Ne.symm d9) h⟩
 ·obtain⟨t,i',j',p,q,h1,h2,h3,h4,h5⟩:=c.k1 i j v e
  exact⟨t,i',j',p,q,h1,h2,h3,kp _ _ (nt h4) h4,h5⟩
structure alg(H:Hp)(a C dx:ae)(fs:List (Str×V))(l:ae)(o:HO)(f:Str):Prop where
 f0:l≠a
 f1:(upd H l o) a=aa (.ins C dx fs)
 f2:(upd (upd H l o) a (.ins C dx (qA f (.ref l) fs))) a=aa (.ins C dx (qA f (.ref l) fs))
 f3:(upd (upd H l o) a (.ins C dx (qA f (.ref l) fs))) l=aa o
 f4:(∀x u,x≠a->H x=aa u->(upd (upd H l o) a (.ins C dx (qA f (.ref l) fs))) x=aa u)
 f5:∀x,(upd (upd H l o) a (.ins C dx (qA f (.ref l) fs))) x=none->H x=none
def o5{H:Hp}{a C dx:ae}{fs:List (Str×V)}(hob:H a=aa (.ins C dx fs)){l:ae}(hl:H l=none)(o:HO)(f:Str):
  alg H a C dx fs l o f:=by
 have hla:l≠a:=λz=>by rw[z,hob]at hl;cases hl
 refine⟨hla,by rw[aH (Ne.symm hla)];exact hob,aT,by rw[aH hla];exact aT,λx u hx h=>?_,λx hx=>?_⟩
 ·rw[aH hx,aH (λz=>by rw[z,hl]at h;cases h)]
  exact h
 ·by_cases z:x=a
  ·rw[z,aT]at hx;cases hx
  ·rw[aH z]at hx
   by_cases z2:x=l
   ·rw[z2];exact hl
   ·rw[aH z2]at hx;exact hx
def gR(n:Nat):RP:=((upTo n).reverse,(upTo n).reverse)
def gf(n:Nat)(R:List RP):Nat:=(R.takeWhile λr=>decide (r=gR n)).length
def Ke(n:Nat)(R:List RP):D:=.tup [.int (gf n R),.lst ((R.drop (gf n R)).map λp=>D.lst (aW p.1))]
def qI(n:Nat)(R:List RP):Fm:=(((gf n R:Nat):Int),(R.drop (gf n R)).map (·.1))
def Kf{n:Nat}{R:List RP}{i:Nat}(h:∀j<i,R[j]?=aa (gR n))(hs:R[i]?≠aa (gR n)):gf n R=i:=by
 induction R generalizing i with
 |nil=>
  cases i with
  |zero=>rfl
  |succ i=>have:=h 0 (by lia);simp at this
 |cons r R ih=>
  unfold gf;cases i with
  |zero=>
   have hr:¬r=gR n:=λe=>hs (by rw[e];rfl);rw[C5 (by simp[hr])];rfl
  |succ i=>
   have hr:r=gR n:=by have:=h 0 (by lia);simpa using this
   rw[HX (by simp[hr]),bD];have:=ih (i:=i) (λj hj=>by have:=h (j+1) (by lia);simpa using this) (by simpa using hs);unfold gf at this;rw[this]
def Uz(n:Nat)(R:List RP)(p:RP):(jt n R p).length<=R.length+1:=by
 unfold jt;split
 ·rw[Nx,C3];lia
 ·rw[C3];lia
def vP(r:List Int):List Int:=(upTo r.length).map λv=>((r.idxOf v:Nat):Int)
def mH{n:Nat}{r:List Int}(h:bx n r):Iv n r (vP r):=by
 obtain⟨s,iv⟩:=aec h;have e:vP r=s:=by
  refine cQ (by unfold vP;rw[aB,aM,iv.lr,iv.ls]) λj hj=>?_;have LU:j<n:=by unfold vP at hj;rwa [aB,aM,iv.lr]at hj
  have hg:(vP r)[j]?=aa ((r.idxOf (j:Int):Nat):Int):=by
   unfold vP;rw[b8,wA _ j (by rw[iv.lr];exact LU)];rfl
  rw[<-(iv.idx LU).2];unfold ai;rw[hg];rfl
 rw[e];exact iv
def eY(n:Nat)(rs:List (List Int)):List RP:=rs.foldl (λR r=>jt n R (r,vP r)) []
def Q2{n:Nat}{rs:List (List Int)}{i:Nat}{r:List Int}(h:rs[i]?=aa r):eY n (rs.take (i+1))=jt n (eY n (rs.take i)) (r,vP r):=by
 unfold eY;rw[CW,h,uR];rfl
theorem z7(n:Nat):∀(rs:List (List Int))(R:List RP),(rs.foldl (λR r=>jt n R (r,vP r)) R).length<=R.length+rs.length
 |[],R=>bf _
 |r::rs,R=>by
  have h:=z7 n rs (jt n R (r,vP r));have h2:=Uz n R (r,vP r);rw[zg,bD];lia
def Adv(n:Nat)(p y:RP):Prop:=∀i j,i<j->j<n->ai y.2 j<ai y.2 i->ai p.1 i<ai p.1 j
def Prd(n:Nat)(w q x:RP):Prop:=∀t,t<n->ai w.2 t=ai x.2 (ai q.2 t).toNat
structure Cf(n:Nat)(p0 q0 p q y:RP):Prop where
 iy:Iv n y.1 y.2
 pp:Prd n p p0 y
 pq:Prd n q0 y q
 ap:Adv n p0 y
 aq:Adv n y q
 pl:∀t,t<n->ai p.1 t=ai p0.1 (ai y.1 t).toNat
def sw(a t:Nat):Nat:=if t=a then a+1 else if t=a+1 then a else t
def D4{a t n:Nat}(ha:a+1<n)(ht:t<n):sw a t<n:=by
 unfold sw
 repeat' split
 all_goals lia
def UA(a:Nat){x:Int}(h:0<=x):sw a (sg a x).toNat=x.toNat:=by
 unfold sg sw
 repeat' split
 all_goals lia
def g8{l:List Int}{a:Nat}(h:a+1<l.length)(t:Nat):ai (iB l a) t=ai l (sw a t):=by
 rw[mC _ _ h];unfold sw
 repeat' split
 all_goals rfl
def Cf.start {n:Nat}{p q:RP}(ip:Iv n p.1 p.2)(hi:Iv n (upTo n) (upTo n)):Cf n p q p q (upTo n,upTo n):=by
 have c:∀t,t<n->(ai (upTo n) t).toNat=t:=λt ht=>by rw[aP ht];exact bB t
 refine⟨hi,λt ht=>?_,λt ht=>?_,λi j hij hj h=>?_,λi j hij hj h=>?_,λt ht=>?_⟩
 ·obtain⟨h1,h2,_⟩:=ip.sr t ht
  show _=ai (upTo n) (ai p.2 t).toNat;rw[aP (by lia)];lia
 ·show _=ai q.2 (ai (upTo n) t).toNat
  rw[c t ht]
 ·dsimp only at h
  rw[aP hj,aP (by lia)]at h;lia
 ·dsimp only
  rw[aP hj,aP (by lia)];lia
 ·show _=ai p.1 (ai (upTo n) t).toNat
  rw[c t ht]
def Cf.step {n:Nat}{p0 q0 p q y:RP}(o:Cf n p0 q0 p q y)(IX:Iv n p0.1 p0.2)(ip:Iv n p.1 p.2)(iq:Iv n q.1 q.2){j:Nat}(hj:j+1<n)(hup:ai p.1 j<ai p.1 (j+1))(hdn:ai q.2 (j+1)<ai q.2 j):Cf n p0 q0 (vO p j) (yQ q j) (vO y j):=by
 have iy:=o.iy;refine⟨jd iy hj,λt ht=>?_,λt ht=>?_,λi i' hii DB h=>?_,λi i' hii DB h=>?_,λt ht=>?_⟩
 ·obtain⟨h1,h2,_⟩:=IX.sr t ht
  show ai (wC p.2 j) t=ai (wC y.2 j) (ai p0.2 t).toNat;rw[cR (by rw[ip.ls];exact ht),cR (by rw[iy.ls];lia),o.pp t ht]
 ·obtain⟨h1,h2,_⟩:=iy.sr t ht
  show ai q0.2 t=ai (iB q.2 j) (ai (wC y.2 j) t).toNat;rw[cR (by rw[iy.ls];exact ht),g8 (by rw[iq.ls];exact hj),UA j h1,o.pq t ht]
 ·have h':ai (wC y.2 j) i'<ai (wC y.2 j) i:=h
  rw[cR (by rw[iy.ls];exact DB),cR (by rw[iy.ls];lia)]at h'
  by_cases hb:ai y.2 i'<ai y.2 i
  ·exact o.ap i i' hii DB hb
  ·obtain⟨a1,a2,a3⟩:=iy.sr i (by lia)
   obtain⟨b1,b2,b3⟩:=iy.sr i' DB;have hne:ai y.2 i≠ai y.2 i':=λe=>by
    have:=iy.RV (v:=i) (w:=i') (by lia) DB e;lia
   have hab:ai y.2 i=j/\ai y.2 i'=j+1:=by
    unfold sg at h'
    repeat' split at h'
    all_goals lia
   have e1:=o.pl j (by lia);have e2:=o.pl (j+1) hj;rw[hab.1,bB]at a3;rw[hab.2,show((j:Int)+1).toNat=j+1 by lia]at b3;rw[a3,bB]at e1;rw[b3,bB]at e2;lia
 ·have h':ai (iB q.2 j) i'<ai (iB q.2 j) i:=h
  show ai (iB y.1 j) i<ai (iB y.1 j) i';rw[g8 (by rw[iq.ls];exact hj),g8 (by rw[iq.ls];exact hj)]at h';rw[g8 (by rw[iy.lr];exact hj),g8 (by rw[iy.lr];exact hj)]
  by_cases hc:i=j/\i'=j+1
  ·obtain⟨rfl,rfl⟩:=hc
   unfold sw at h';rw[if_pos rfl,if_neg (by lia),if_pos rfl]at h';lia
  ·refine o.aq (sw j i) (sw j i') ?_ (D4 hj DB) h'
   unfold sw
   repeat' split
   all_goals lia
 ·obtain⟨h1,h2,_⟩:=iy.rs (sw j t) (D4 hj ht)
  show ai (iB p.1 j) t=ai p0.1 (ai (iB y.1 j) t).toNat;rw[g8 (by rw[ip.lr];exact hj),g8 (by rw[iy.lr];exact hj),o.pl _ (D4 hj ht)]
theorem OW{n:Nat}{p0 q0:RP}(IX:Iv n p0.1 p0.2):∀(f:Nat)(p q y:RP),Iv n p.1 p.2->Iv n q.1 q.2->Cf n p0 q0 p q y->∃y',Cf n p0 q0 (gx f p q).1 (gx f p q).2 y'
 |0,p,q,y,_,_,o=>⟨y,o⟩
 |f+1,p,q,y,ip,iq,o=>by
  cases h:(pI p q).getLast? with
  |none=>rw[tQ _ h];exact⟨y,o⟩
  |some k=>
   obtain⟨j,rfl,hj,h1,h2⟩:=uQ ip iq (z6 h);rw[tP f h,show((j:Int)+1-1).toNat=j by lia];exact OW IX f _ _ _ (jd ip hj) (je iq hj) (o.step IX ip iq hj h1 h2)
theorem C6{n:Nat}(hn:n<=7):∀(f:Nat)(p q:RP),Iv n p.1 p.2->Iv n q.1 q.2->49<f+kG p.1->pI (gx f p q).1 (gx f p q).2=[]
 |0,p,q,ip,iq,h=>by have:=Be hn ip;lia
 |f+1,p,q,ip,iq,h=>by
  cases hk:(pI p q).getLast? with
  |none=>
   rw[tQ _ hk];exact List.getLast?_eq_none_iff.mp hk
  |some k=>
   obtain⟨j,rfl,hj,h1,h2⟩:=uQ ip iq (z6 hk);rw[tP f hk,show((j:Int)+1-1).toNat=j by lia];have:=Uw ip hj h1;exact C6 hn f _ _ (jd ip hj) (je iq hj) (by lia)
def Prd.calm {n:Nat}{w q x:RP}(hp:Prd n w q x)(iq:Iv n q.1 q.2)(ix:Iv n x.1 x.2)(ad:Adv n q x){i j:Nat}(hij:i<=j)(hj:j<n)(h:ai w.2 i<=ai w.2 j):ai q.2 i<=ai q.2 j:=by
 refine kH λhc=>?_;obtain⟨a1,a2,a3⟩:=iq.sr i (by lia);obtain⟨b1,b2,b3⟩:=iq.sr j hj;rw[hp i (by lia),hp j hj]at h;have hne:(ai q.2 j).toNat<(ai q.2 i).toNat:=by lia
 have hx:ai x.2 (ai q.2 i).toNat≠ai x.2 (ai q.2 j).toNat:=λe=>by
  have:=ix.RV (v:=(ai q.2 i).toNat) (w:=(ai q.2 j).toNat) (by lia) (by lia) e;lia
 have:=ad (ai q.2 j).toNat (ai q.2 i).toNat hne (by lia) (by lia);rw[a3,b3]at this;lia
def dX{p q:RP}{n:Nat}(ip:Iv n p.1 p.2)(iq:Iv n q.1 q.2):pI p q=[]↔∀j,j+1<n->ai q.2 (j+1)<ai q.2 j->ai p.1 (j+1)<ai p.1 j:=by
 constructor
 ·intro h j hj hd
  refine kH λhc=>?_;have hm:((j:Int)+1)∈pI p q:=by
   unfold pI;rw[lP];refine⟨rM.mpr ⟨j,rfl,by rw[iq.ls];exact hj,hd⟩,?_⟩;have:((j:Int)+1)∉zW p.1:=λz=>by
    obtain⟨a,e,_,h2⟩:=rM.mp z;have:a=j:=by lia
    subst this;exact hc h2
   rw[decide_eq_false this];rfl
  rw[h]at hm;cases hm
 ·intro h
  cases e:pI p q with
  |nil=>rfl
  |cons k t=>
   obtain⟨j,_,hj,h1,h2⟩:=uQ ip iq (k:=k) (by rw[e];exact iG);have:=h j hj h2;lia
theorem switch(f:Nat->Bool):∀(d u:Nat),f u=false->f (u+d)=true->∃i,u<=i/\i<u+d/\f i=false/\f (i+1)=true
 |0,u,h1,h2=>by rw[Nat.add_zero,h1]at h2;cases h2
 |d+1,u,h1,h2=>by
  cases h:f (u+d)with
  |true=>
   obtain⟨i,a,b,c,e⟩:=switch f d u h1 h;exact⟨i,a,by lia,c,e⟩
  |false=>exact⟨u+d,by lia,by lia,h,h2⟩
def ael{n:Nat}{r q x s' w y w2 s:RP}(ir:Iv n r.1 r.2)(iq:Iv n q.1 q.2)(ix:Iv n x.1 x.2)(is':Iv n s'.1 s'.2)(iw:Iv n w.1 w.2)(iy:Iv n y.1 y.2)(Zj:Iv n w2.1 w2.2)
  (hrq:pI r q=[])(hws:pI w s'=[])(hw:Prd n w q x)(aqx:Adv n q x)(axs:Adv n x s')(hw2:Prd n w y w2)(ayw:Adv n y w2)(ary:Adv n r y):pI w2 s'=[]:=by
 refine(dX Zj is').mpr λj hj hd=>kH λhc=>?_;have hstop:=(dX iw is').mp hws j hj hd;obtain⟨v0,v1,v2⟩:=iw.rs j (by lia);obtain⟨u0,u1,u2⟩:=iw.rs (j+1) hj;generalize hv:(ai w.1 j).toNat=v at*;generalize hu:(ai w.1 (j+1)).toNat=u at*;have huv:u<v:=by lia
 have hy:ai y.2 v<ai y.2 u:=by
  refine kH λhz=>?_;obtain⟨a1,a2,a3⟩:=iy.sr u (by lia);obtain⟨b1,b2,b3⟩:=iy.sr v (by lia);have e1:=hw2 u (by lia);have e2:=hw2 v (by lia);rw[u2]at e1;rw[v2]at e2;obtain⟨c1,c2,c3⟩:=Zj.sr (ai y.2 u).toNat (by lia);obtain⟨d1,d2,d3⟩:=Zj.sr (ai y.2 v).toNat (by lia);rw[<-e1,show(((j+1:Nat):Int)).toNat=j+1 by lia]at c3;rw[<-e2,bB]at d3;have hne:ai y.2 u≠ai y.2 v:=λe=>by
   have:=iy.RV (v:=u) (w:=v) (by lia) (by lia) e;lia
  lia
 have hq:ai q.2 v<ai q.2 u:=by
  refine kH λhz=>?_;obtain⟨a1,a2,a3⟩:=iq.sr u (by lia);obtain⟨b1,b2,b3⟩:=iq.sr v (by lia);have e1:=hw u (by lia);have e2:=hw v (by lia);rw[u2]at e1;rw[v2]at e2;have:=axs j (j+1) (by lia) hj hd;obtain⟨c1,c2,c3⟩:=ix.sr (ai q.2 u).toNat (by lia);obtain⟨d1,d2,d3⟩:=ix.sr (ai q.2 v).toNat (by lia);rw[<-e1,show(((j+1:Nat):Int)).toNat=j+1 by lia]at c3;rw[<-e2,bB]at d3;have hne:ai q.2 u≠ai q.2 v:=λe=>by
   have:=iq.RV (v:=u) (w:=v) (by lia) (by lia) e;lia
  lia
 obtain⟨i,i1,i2,i3,i4⟩:=switch (λt=>decide (ai w.2 t<=j)) (v-u) u (by rw[decide_eq_false];lia) (by rw[show u+(v-u)=v by lia,decide_eq_true];lia);have i3':=of_decide_eq_false i3;have i4':=of_decide_eq_true i4;have y1:=hw2.calm iy Zj ayw (i:=u) (j:=i) i1 (by lia) (by lia);have y2:=hw2.calm iy Zj ayw (i:=i+1) (j:=v) (by lia) (by lia) (by lia);have q1:=hw.calm iq ix aqx (i:=u) (j:=i) i1 (by lia) (by lia);have q2:=hw.calm iq ix aqx (i:=i+1) (j:=v) (by lia) (by lia) (by lia);have hr:=(dX ir iq).mp hrq i (by lia) (by lia);have:=ary i (i+1) (by lia) (by lia) (by lia);lia
def ym:List RP->Prop
 |q::p::ps=>pI p q=[]/\ym (p::ps)
 |_=>True
def ck(n:Nat)(R:List RP):Prop:=∀x∈R,Iv n x.1 x.2
def ym.tail {q:RP}{R:List RP}(h:ym (q::R)):ym R:=by
 cases R with
 |nil=>trivial
 |cons p ps=>exact h.2
structure aem(n:Nat)(p c p' c':RP):Prop where
 ip:Iv n p'.1 p'.2
 ic:Iv n c'.1 c'.2
 fr:pI p' c'=[]
 ex:∃y,Cf n p c p' c' y
def kI{n:Nat}(hn:n<=7){p c:RP}(ip:Iv n p.1 p.2)(ic:Iv n c.1 c.2)(hi:Iv n (upTo n) (upTo n)):aem n p c (gx 50 p c).1 (gx 50 p c).2:=
 ⟨(m8.D3 50 ip ic).1,(m8.D3 50 ip ic).2,C6 hn 50 p c ip ic (by lia),OW ip 50 p c _ ip ic (Cf.start ip hi)⟩
def aem.none {n:Nat}{p c p' c':RP}(s:aem n p c p' c')(ic:Iv n c.1 c.2)(ip:Iv n p.1 p.2)(e:p'=p):c'=c:=by
 obtain⟨y,o⟩:=s.ex;subst e;have hy:∀t,t<n->ai y.2 t=t:=λt ht=>by
  have h1:=ip.rs t ht;have:=o.pp (ai p'.1 t).toNat (by lia);rw[h1.2.2,bB]at this;exact this.symm
 refine mE (n:=n) s.ic ic ?_;refine Iv.uniq (n:=n) (s:=c.2) ?_ ic;have:c'.2=c.2:=cQ (by rw[s.ic.ls,ic.ls]) λt ht=>by
  rw[s.ic.ls]at ht;rw[o.pq t ht,hy t ht,bB]
 rw[<-this];exact s.ic
theorem UB{n:Nat}(hn:n<=7)(hi:Iv n (upTo n) (upTo n)):∀(ps:List RP)(p c:RP),ck n (p::ps)->Iv n c.1 c.2->ym (p::ps)->ym ((gx 50 p c).2::Ce ps (gx 50 p c).1)
 |[],p,c,hI,ic,_=>by
  have s:=kI hn (hI p (by simp)) ic hi;exact⟨s.fr,trivial⟩
 |r::ps,p,c,hI,ic,hL=>by
  have ip:=hI p (by simp);have ir:=hI r (by simp);have s:=kI hn ip ic hi;have s2:=kI hn ir s.ip hi;unfold Ce
  by_cases e:(gx 50 r (gx 50 p c).1).1=r
  ·rw[if_pos e]
   have e2:=s2.none s.ip ir e;have f2:=s2.fr;rw[e,e2]at f2;exact⟨s.fr,f2,hL.2⟩
  ·rw[if_neg e]
   refine⟨?_,UB hn hi ps r _ (λx hx=>hI x (bz _ hx)) s.ip hL.2⟩;obtain⟨x,o⟩:=s.ex;obtain⟨y,o2⟩:=s2.ex;exact ael (s:=c) ir ip o.iy s.ic s.ip o2.iy s2.ic hL.1 s.fr o.pp o.ap o.aq o2.pq o2.aq o2.ap
def aen{n:Nat}(hn:n<=7)(hi:Iv n (upTo n) (upTo n)){R:List RP}{c:RP}(hI:ck n R)(ic:Iv n c.1 c.2)(hL:ym R.reverse):ym (Ce R.reverse c):=by
 cases h:R.reverse with
 |nil=>exact trivial
 |cons p ps=>
  rw[h]at hL;have We:ck n (p::ps):=λx hx=>hI x (by rw[<-uJ,h];exact hx);have s:=kI hn (We p (by simp)) ic hi;unfold Ce
  by_cases e:(gx 50 p c).1=p
  ·rw[if_pos e]
   have e2:=s.none ic (We p (by simp)) e;have f:=s.fr;rw[e,e2]at f;exact⟨f,hL⟩
  ·rw[if_neg e]
   exact UB hn hi ps p c We ic hL
def OY(n:Nat)(p:RP):Prop:=∃a,a+1<n/\ai p.2 (a+1)<ai p.2 a
def z8{n:Nat}{p:RP}(ip:Iv n p.1 p.2)(hi:Iv n (upTo n) (upTo n))(h:¬OY n p):p=(upTo n,upTo n):=
 mE (n:=n) ip hi (OC ip λa ha hd=>h ⟨a,ha,hd⟩)
def UC{n:Nat}{p:RP}(h:OY n p):p≠(upTo n,upTo n):=λe=>by
 obtain⟨a,ha,hd⟩:=h;rw[e]at hd;dsimp only at hd;rw[aP ha,aP (by lia)]at hd;lia
def Prd.nst {n:Nat}{w q x:RP}(hp:Prd n w q x)(iq:Iv n q.1 q.2)(ix:Iv n x.1 x.2)(ad:Adv n q x){a:Nat}(ha:a+1<n)(h:ai q.2 (a+1)<ai q.2 a):ai w.2 (a+1)<ai w.2 a:=by
 refine kH λhc=>?_;have:=hp.calm iq ix ad (i:=a) (j:=a+1) (by lia) ha (by lia);lia
theorem UD{n:Nat}(hn:n<=7)(hi:Iv n (upTo n) (upTo n)):∀(ps:List RP)(p c:RP),ck n (p::ps)->Iv n c.1 c.2->ym (p::ps)->(∀x∈p::ps,OY n x)->∀x∈Ce ps (gx 50 p c).1,OY n x
 |[],p,c,hI,ic,_,hN,x,hx=>by
  have s:=kI hn (hI p (by simp)) ic hi;obtain⟨y,o⟩:=s.ex;obtain⟨a,ha,hd⟩:=hN p (by simp);rw[dC.mp hx];exact⟨a,ha,o.pp.nst (hI p (by simp)) o.iy o.ap ha hd⟩
 |r::ps,p,c,hI,ic,hL,hN,x,hx=>by
  have ip:=hI p (by simp);have ir:=hI r (by simp);have s:=kI hn ip ic hi;have s2:=kI hn ir s.ip hi;obtain⟨z,o⟩:=s.ex;obtain⟨y,o2⟩:=s2.ex;obtain⟨a,ha,hd⟩:=hN p (by simp);have Wv:=o.pp.nst ip o.iy o.ap ha hd;unfold Ce at hx
  by_cases e:(gx 50 r (gx 50 p c).1).1=r
  ·rw[if_pos e]at hx
   rcases aX.mp hx with rfl|hx
   ·exact⟨a,ha,Wv⟩
   ·exact hN x (bz _ hx)
  ·rw[if_neg e]at hx
   rcases aX.mp hx with rfl|hx
   ·refine kH λhc=>?_
    have e2:=z8 s2.ic hi hc;have hy:∀t,t<n->ai (gx 50 p c).1.2 t=ai y.2 t:=λt ht=>by
     have h1:=o2.iy.sr t ht;have:=o2.pq t ht;rw[e2]at this;dsimp only at this;rw[aP (by lia)]at this;lia
    rw[hy _ ha,hy _ (by lia)]at Wv;have h1:=o2.ap a (a+1) (by lia) ha Wv;have h2:=(dX ir ip).mp hL.1 a ha hd;lia
   ·exact UD hn hi ps r _ (λx hx=>hI x (bz _ hx)) s.ip hL.2 (λx hx=>hN x (bz _ hx)) x hx
structure wF(n:Nat)(R:List RP):Prop where
 iv:ck n R
 lw:ym R.reverse
 ns:∀x∈R,OY n x
theorem HY{n:Nat}:∀(R:List RP)(p:RP),(∀x∈R,Iv n x.1 x.2)->Iv n p.1 p.2->∀x∈Ce R p,Iv n x.1 x.2
 |[],p,_,hp,x,hx=>by rw[dC.mp hx];exact hp
 |r::R,p,hR,hp,x,hx=>by
  obtain⟨i1,i2⟩:=m8.D3 50 (hR r (by simp)) hp;unfold Ce at hx;split at hx
  ·rcases aX.mp hx with rfl|hx
   ·exact hp
   ·exact hR x hx
  ·rcases aX.mp hx with rfl|hx
   ·exact i2
   ·exact HY R _ (λy hy=>hR y (by simp[hy])) i1 x hx
def UE{n:Nat}(hn:n<=7)(hi:Iv n (upTo n) (upTo n)){R:List RP}{c:RP}(h:wF n R)(ic:Iv n c.1 c.2):∃d T,Ce R.reverse c=d::T/\∀x∈T,OY n x:=by
 cases hr:R.reverse with
 |nil=>exact⟨c,[],rfl,λx hx=>nomatch hx⟩
 |cons p ps=>
  have We:ck n (p::ps):=λx hx=>h.iv x (by rw[<-uJ,hr];exact hx);have hN':∀x∈p::ps,OY n x:=λx hx=>h.ns x (by rw[<-uJ,hr];exact hx);have hL:=h.lw;rw[hr]at hL;unfold Ce
  by_cases e:(gx 50 p c).1=p
  ·rw[if_pos e]
   exact⟨c,p::ps,rfl,hN'⟩
  ·rw[if_neg e]
   exact⟨_,_,rfl,UD hn hi ps p c We ic hL hN'⟩
def LZ{n:Nat}(hn:n<=7)(hi:Iv n (upTo n) (upTo n)){R:List RP}{c:RP}(h:wF n R)(ic:Iv n c.1 c.2):wF n (jt n R c):=by
 have hlw:=aen hn hi h.iv ic h.lw;have hiv:=HY R.reverse c (λx hx=>h.iv x (by simpa using hx)) ic;obtain⟨d,T,e,hT⟩:=UE hn hi h ic;have aht:(zZ R c).getLast?=aa d:=by unfold zZ;rw[e];simp
 have ahu:(zZ R c).dropLast=T.reverse:=by unfold zZ;rw[e];simp
 unfold jt;rw[aht]
 by_cases hd:aa d=aa (upTo n,upTo n)
 ·rw[if_pos hd,ahu]
  rw[e]at hlw hiv;exact⟨λx hx=>hiv x (bz _ (by simpa using hx)),by rw[kJ];exact hlw.tail,λx hx=>hT x (by simpa using hx)⟩
 ·rw[if_neg hd]
  unfold zZ;refine⟨λx hx=>hiv x (by simpa using hx),by rw[kJ];exact hlw,λx hx=>?_⟩;rw[uJ,e]at hx;rcases aX.mp hx with rfl|hx
  ·refine kH λhc=>hd ?_
   rw[z8 (hiv x (by rw[e];exact iG)) hi hc]
  ·exact hT x hx
theorem OZ{n:Nat}(hn:n<=7)(hi:Iv n (upTo n) (upTo n)):∀(rs:List (List Int))(R:List RP),(∀r∈rs,bx n r)->wF n R->wF n (rs.foldl (λR r=>jt n R (r,vP r)) R)
 |[],R,_,h=>h
 |r::rs,R,hr,h=>OZ hn hi rs _ (λx hx=>hr x (by simp[hx])) (LZ hn hi h (mH (hr r (by simp))))
def Bg{n:Nat}{r s:List Int}(h:Iv n r s)(hd:∀j,j+1<n->ai r (j+1)<ai r j):r=(upTo n).reverse:=by
 have up:∀j,j<n->ai r j<=(n:Int)-1-j:=λj=>by
  induction j with
  |zero=>intro h0;have:=(h.rs 0 h0).2.1;lia
  |succ j ih=>intro hj;have:=ih (by lia);have:=hd j hj;lia
 have dn:∀d j,j+d+1=n->(d:Int)<=ai r j:=λd=>by
  induction d with
  |zero=>intro j hj;exact(h.rs j (by lia)).1
  |succ d ih=>intro j hj;have:=ih (j+1) (by lia);have:=hd j (by lia);lia
 refine cQ (by rw[h.lr,bH,aM]) λj hj=>?_;rw[h.lr]at hj;have h1:=up j hj;have h2:=dn (n-1-j) j (by lia);have h3:ai (upTo n).reverse j=((n-1-j:Nat):Int):=by
  unfold ai;rw[uG (by rw[aM];exact hj),aM,wA n _ (by lia)];rfl
 lia
def L4{n:Nat}{p:RP}(ip:Iv n p.1 p.2)(hh:Iv n (gR n).1 (gR n).2)(h:pI p (gR n)=[]):p=gR n:=by
 refine mE (n:=n) ip hh (Bg ip λj hj=>(dX ip hh).mp h j hj ?_);have c:∀p,p<n->ai (upTo n).reverse p=((n-1-p:Nat):Int):=λp hp=>by
  unfold ai;rw[uG (by rw[aM];exact hp),aM,wA n _ (by lia)];rfl
 show ai (upTo n).reverse (j+1)<ai (upTo n).reverse j;rw[c _ hj,c _ (by lia)];lia
theorem ym.at_:∀{l A B:List RP}{p q:RP},ym l->l=A++q::p::B->pI p q=[]
 |_,[],B,p,q,h,e=>by rw[e]at h;exact h.1
 |l,a::A,B,p,q,h,e=>by
  rw[e,gF]at h;exact ym.at_ h.tail rfl
def wF.nb {n:Nat}{R A B:List RP}{p q:RP}(h:wF n R)(e:R=A++p::q::B):pI p q=[]:=
 h.lw.at_ (A:=B.reverse) (B:=A.reverse) (by rw[e];simp)
theorem O0{n:Nat}(hh:Iv n (gR n).1 (gR n).2){R:List RP}(h:wF n R):∀(B A:List RP)(p:RP),R=A++p::B->p≠gR n->∀x∈p::B,x≠gR n
 |[],A,p,e,hp,x,hx=>by rw[dC.mp hx];exact hp
 |q::B,A,p,e,hp,x,hx=>by
  have ip:=h.iv p (by rw[e];simp);have hq:q≠gR n:=λz=>by
   have:=h.nb e;rw[z]at this;exact hp (L4 ip hh this)
  rcases aX.mp hx with rfl|hx
  ·exact hp
  ·exact O0 hh h B (A++[p]) q (by rw[e];simp) hq x hx
def D5{n:Nat}(R:List RP):R=aZ (gf n R) (gR n)++R.drop (gf n R):=by
 unfold gf
 induction R with
 |nil=>rfl
 |cons p R ih=>
  by_cases h:p=gR n
  ·rw[HX (by simpa using h),bD,gm,O1,gF,<-ih,h]
  ·rw[C5 (by simpa using h)]
   rfl
def Kg{n:Nat}(R:List RP):∀p B,R.drop (gf n R)=p::B->p≠gR n:=by
 unfold gf
 induction R with
 |nil=>intro p B h;cases h
 |cons q R ih=>
  intro p B h
  by_cases hq:q=gR n
  ·rw[HX (by simpa using hq),bD,O1]at h
   exact ih p B h
  ·rw[C5 (by simpa using hq)]at h
   have:q=p:=(List.cons.inj h).1;rw[<-this];exact hq
def Q3{n:Nat}(hh:Iv n (gR n).1 (gR n).2){R:List RP}(h:wF n R):∀x∈R.drop (gf n R),x≠gR n:=λx hx=>by
 cases e:R.drop (gf n R)with
 |nil=>rw[e]at hx;cases hx
 |cons p B=>
  rw[e]at hx;exact O0 hh h B (aZ (gf n R) (gR n)) p (by rw[<-e];exact D5 R) (Kg R p B e) x hx
def cmp(o r:List Int):List Int:=r.map λs=>ai o s.toNat
def Fi(o:List Int)(R:List (List Int)):List Int:=R.foldl cmp o
def qx(R:List (List Int)):Nat:=(R.map kG).sum
def ik{o r:List Int}{t:Nat}(h:t<r.length):ai (cmp o r) t=ai o (ai r t).toNat:=by
 unfold cmp;have:=gI h;unfold ai at this⊢;rw[b8,this];rfl
def uS(o:List Int)(a b:List (List Int)):Fi o (a++b)=Fi (Fi o a) b:=uR
def z9(a b:List (List Int)):qx (a++b)=qx a+qx b:=by unfold qx;rw[cj,OD]
def O2{n:Nat}{o r q s:List Int}(iq:Iv n q s)(hr:r.length=n):cmp (cmp o r) q=cmp o (cmp r q):=by
 refine cQ (by unfold cmp;simp) λt ht=>?_;have RL:t<q.length:=by unfold cmp at ht;simpa using ht
 have h1:=iq.rs t (by rw[<-iq.lr];exact RL);rw[ik RL,ik (by rw[hr];lia),ik (by unfold cmp;simpa using RL),ik RL]
def Cf.prd {n:Nat}{p0 q0 p q y:RP}(o:Cf n p0 q0 p q y)(Q4:Iv n q0.1 q0.2)(IX:Iv n p0.1 p0.2)(ip:Iv n p.1 p.2)(iq:Iv n q.1 q.2):cmp p.1 q.1=cmp p0.1 q0.1:=by
 refine cQ (by unfold cmp;simp[iq.lr,Q4.lr]) λt ht=>?_;have RL:t<n:=by unfold cmp at ht;rw[aB,iq.lr]at ht;exact ht
 rw[ik (by rw[iq.lr];exact RL),ik (by rw[Q4.lr];exact RL)];obtain⟨a1,a2,a3⟩:=iq.rs t RL;obtain⟨b1,b2,b3⟩:=Q4.rs t RL;obtain⟨c1,c2,c3⟩:=o.iy.rs (ai q.1 t).toNat (by lia);rw[o.pl _ (by lia)];have h1:=o.pq (ai y.1 (ai q.1 t).toNat).toNat (by lia);rw[c3,bB,a3]at h1;have:=Q4.RV (v:=(ai y.1 (ai q.1 t).toNat).toNat) (w:=(ai q0.1 t).toNat) (by lia) (by lia) (by rw[h1,b3]);rw[this]
def HZ{n:Nat}{o s:List Int}(h:Iv n o s){a:Nat}(ha:a+1<n):(ai o a<ai o (a+1)->kG (iB o a)=kG o+1)/\(ai o (a+1)<ai o a->kG (iB o a)+1=kG o):=by
 have e:=C0 o a [] (by rw[h.lr];exact ha);unfold kG;constructor
 ·intro c
  rw[if_neg (by lia),if_pos c]at e;lia
 ·intro c
  rw[if_pos c,if_neg (by lia)]at e;lia
theorem O3{n:Nat}:∀(f:Nat)(p q:RP),Iv n p.1 p.2->Iv n q.1 q.2->kG (gx f p q).1.1+kG (gx f p q).2.1=kG p.1+kG q.1
 |0,p,q,_,_=>rfl
 |f+1,p,q,ip,iq=>by
  cases h:(pI p q).getLast? with
  |none=>rw[tQ _ h]
  |some k=>
   obtain⟨j,rfl,hj,h1,h2⟩:=uQ ip iq (z6 h);rw[tP f h,show((j:Int)+1-1).toNat=j by lia,O3 f _ _ (jd ip hj) (je iq hj)];have e1:=(HZ ip hj).1 h1;have e2:=(HZ iq.symm hj).2 h2;have e3:=D1 iq;have e4:=D1 (je iq hj);show kG (iB p.1 j)+kG (yQ q j).1=_;have e5:kG (yQ q j).2=kG (iB q.2 j):=rfl;lia
def UG{n:Nat}(hn:n<=7)(hi:Iv n (upTo n) (upTo n)){p c:RP}(ip:Iv n p.1 p.2)(ic:Iv n c.1 c.2):cmp (gx 50 p c).1.1 (gx 50 p c).2.1=cmp p.1 c.1:=by
 have s:=kI hn ip ic hi;obtain⟨y,o⟩:=s.ex;exact o.prd ic ip s.ip s.ic
def fwd(R:List RP):List (List Int):=(R.reverse).map (·.1)
def tR(p:RP)(R:List RP):fwd (p::R)=fwd R++[p.1]:=by unfold fwd;simp
theorem O4{n:Nat}(hn:n<=7)(hi:Iv n (upTo n) (upTo n)):∀(R:List RP)(c:RP),ck n R->Iv n c.1 c.2->(∀o,Fi o (fwd (Ce R c))=Fi o (fwd R++[c.1]))/\qx (fwd (Ce R c))=qx (fwd R)+kG c.1
 |[],c,_,_=>⟨λo=>rfl,by unfold Ce qx fwd;simp⟩
 |p::ps,c,hI,ic=>by
  have ip:=hI p (by simp);have s:=kI hn ip ic hi;unfold Ce
  by_cases e:(gx 50 p c).1=p
  ·rw[if_pos e]
   exact⟨λo=>by rw[tR],by rw[tR,z9];simp[qx]⟩
  ·rw[if_neg e]
   obtain⟨h1,h2⟩:=O4 hn hi ps (gx 50 p c).1 (λx hx=>hI x (by simp[hx])) s.ip;refine⟨λo=>?_,?_⟩
   ·rw[tR,uS,h1 o,tR,bQ,uS,uS]
    show cmp (cmp (Fi o (fwd ps)) (gx 50 p c).1.1) (gx 50 p c).2.1=cmp (cmp (Fi o (fwd ps)) p.1) c.1;rw[O2 s.ic s.ip.lr,UG hn hi ip ic,<-O2 ic ip.lr]
   ·rw[tR,z9,h2,tR,z9]
    have:=O3 50 p c ip ic;have e1:∀r:List Int,qx [r]=kG r:=λr=>by simp[qx]
    rw[e1,e1];lia
def Zk{n:Nat}(hn:n<=7)(hi:Iv n (upTo n) (upTo n))(c0:kG (upTo n)=0){R:List RP}{c:RP}(hI:ck n R)(ic:Iv n c.1 c.2):(∀o:List Int,o.length=n->Fi o ((jt n R c).map (·.1))=Fi o (R.map (·.1)++[c.1]))/\qx ((jt n R c).map (·.1))=qx (R.map (·.1))+kG c.1:=by
 have We:ck n R.reverse:=λx hx=>hI x (by simpa using hx);obtain⟨h1,h2⟩:=O4 hn hi R.reverse c We ic;have ef:fwd (Ce R.reverse c)=(zZ R c).map (·.1):=rfl;have er:fwd R.reverse=R.map (·.1):=by unfold fwd;rw[kJ]
 rw[ef,er]at h2;unfold jt
 by_cases hd:(zZ R c).getLast?=aa (upTo n,upTo n)
 ·rw[if_pos hd]
  have hne:zZ R c≠[]:=λz=>by rw[z]at hd;cases hd
  have BN:(zZ R c).dropLast++[(upTo n,upTo n)]=zZ R c:=by
   have:=C7 hne;rw[O5 hne]at hd;rw[cA.inj hd]at this;exact this
  rw[<-BN,cj,z9]at h2;have e1:qx ([((upTo n,upTo n):RP)].map (·.1))=0:=by simp[qx,c0]
  rw[e1]at h2;refine⟨λo ho=>?_,h2⟩;have h3:=h1 o;rw[ef,er,<-BN,cj,uS]at h3;rw[<-h3];show _=cmp (Fi o ((zZ R c).dropLast.map (·.1))) (upTo n);have hl:(Fi o ((zZ R c).dropLast.map (·.1))).length=n:=by
   have hiv:=HY R.reverse c (λx hx=>hI x (by simpa using hx)) ic;have ha:∀x∈(zZ R c).dropLast,x.1.length=n:=λx hx=>by
    rw[Hj]at hx;have:=zQ hx;unfold zZ at this;exact(hiv x (by simpa using this)).lr
   generalize (zZ R c).dropLast=Z at ha;clear BN h3 h2 h1
   induction Z generalizing o with
   |nil=>exact ho
   |cons z Z ih=>
    refine ih (cmp o z.1) ?_ λx hx=>ha x (by simp[hx]);unfold cmp;rw[aB];exact ha z (by simp)
  refine cQ (by unfold cmp;rw[aB,hl,aM]) λt ht=>?_;rw[hl]at ht;rw[ik (by rw[aM];exact ht),aP ht,bB]
 ·rw[if_neg hd]
  exact⟨λo _=>by have:=h1 o;rw[ef,er]at this;exact this,h2⟩
noncomputable def tCI(K:ak)(caps:List Nat)(tl te:TE):TE:=λσ H Q=>R9 K tl σ H λJ H1=>∃(l:ae)(xs vs:List V),J=Itl K l/\gb K H1 l xs/\vs.length=caps.length/\(∀(j i:Nat)(v:V),caps[j]?=aa i->vs[j]?=aa v->σ[i]?=aa (aa v))/\
 ∀Dd,H1 Dd=none->∃Pv:Nat->List V->Hp->Prop,Pv 0 [] (upd H1 Dd (.lst []))/\(∀i acc Hx,Pv i acc Hx->gb K Hx l xs/\Hx Dd=aa (.lst acc))/\
  (∀i acc Hx x,Pv i acc Hx->xs[i]?=aa x->te (aa x::vs.map aa) Hx λv H2=>H2 Dd=aa (.lst acc)/\acc.length<aI/\Pv (i+1) (acc++[v]) (upd H2 Dd (.lst (acc++[v]))))/\∀acc Hx,Pv xs.length acc Hx->Q (.ref Dd) Hx
section
variable{X:Cx}{pos:Pos}{scope:dw}{N:List Str}{caps:List Nat}
def UH{elt tg iter:ao}{tl te:TE}(S:mm X scope N 1 caps)(DF:X.calm=true)(hi:PI X tg iter (R9 X.K tl))(hg:∀s H fp C pl,PG (yi X scope N s H fp C pl) tg (R5 0))(he:∀s H fp C pl,PE (yi X scope N s H fp C pl) elt te)
  (hs:∀x,y6 iter X.env x=bc x:=by intro _;rfl):PE X (.ListComp elt [⟨tg,iter,[],0⟩] scope pos) (tCI X.K caps tl te):=by
 intro pins s σ H Q I h;rw[eval_ListComp];refine XQ (use:=none) rfl hs (yx (S.cells I)) S.kind S.names ?_;refine fJ (hi pins s σ H (λJ H1=>∃(l:ae)(xs vs:List V),J=Itl X.K l/\gb X.K H1 l xs/\vs.length=caps.length/\(∀(j i:Nat)(v:V),caps[j]?=aa i->vs[j]?=aa v->σ[i]?=aa (aa v))/\
  ∀Dd,H1 Dd=none->∃Pv:Nat->List V->Hp->Prop,Pv 0 [] (upd H1 Dd (.lst []))/\(∀i acc Hx,Pv i acc Hx->gb X.K Hx l xs/\Hx Dd=aa (.lst acc))/\
   (∀i acc Hx x,Pv i acc Hx->xs[i]?=aa x->te (aa x::vs.map aa) Hx λv H2=>H2 Dd=aa (.lst acc)/\acc.length<aI/\Pv (i+1) (acc++[v]) (upd H2 Dd (.lst (acc++[v]))))/\∀acc Hx,Pv xs.length acc Hx->Q (.ref Dd) Hx) I ?_) λv s1 h1=>fJ h1 λitv s2 h2=>?_
 ·exact h
 obtain⟨it,fp,tn,J,H2,rfl,I2,T,V6,f2,l,xs,vs,rfl,hq,hvl,hvs,hinv⟩:=h2;refine GU (XS S.cell (by intro y hy;simp at hy) (λh₁ LC hsb₁=>?_) S.kind);dsimp only at LC hsb₁⊢;have hDn:H2 s2.heap.objs.size=none:=I2.hok.fresh (bf _);have I3:Inv X pins σ (upd H2 s2.heap.objs.size (.lst [])) {s2 with heap:=s2.heap.push {cls:=.type "list",dict:=none,data:=.seq ([]:List ah).toArray}}:=
  I2.laid (t':=s2.toks) (λb u e=>cZ _ e) (bf _) ⟨iJ _,[],0,.nil,jg _ rfl⟩
 generalize hs3:({s2 with heap:=s2.heap.push {cls:=.type "list",dict:=none,data:=.seq ([]:List ah).toArray}}:aj)=s3 at I3;have hh3:s3.heap=s2.heap.push {cls:=.type "list",dict:=none,data:=.seq ([]:List ah).toArray}:=by rw[<-hs3]
 rw[<-hh3]at LC hsb₁⊢;generalize hDd:s2.heap.objs.size=Dd at*;have k3:∀b o,s3.heap.get? b=aa o->h₁.get? b=aa o:=λb o e=>hsb₁.extBut b o (dO (bM e)) (cZ _ e);have SY:∀b∈fp,∃o,s2.heap.get? b=aa o:=λb hb=>let⟨o,e,_⟩:=T.obj 0 _ V6 b hb;⟨o,e⟩
 have ac0:∀b∈fp,∃o,s3.heap.get? b=aa o:=λb hb=>let⟨o,e⟩:=SY b hb;⟨o,by rw[hh3];exact cZ _ e⟩
 have hfD:∀b∈fp,b≠Dd:=λb hb=>let⟨o,e⟩:=SY b hb;by rw[<-hDd];exact dO (bM e)
 have f3:∀b∈fp,sU X pins (upd H2 Dd (.lst [])) b:=λb hb=>⟨by rw[aH (hfD b hb)];exact(f2 b hb).1,(f2 b hb).2⟩
 have I4:=S.start (t':=s2.toks+([]:List (Str×ah)).length) I3 f3 (bf _) LC k3 ac0 hvl (λj i v e1 e2=>hvs j i v e1 e2) _ rfl;generalize hX:yi X scope N s3 (upd H2 Dd (.lst [])) fp s3.heap.objs.size (X.pn++pins)=X' at I4;have hg':=hg s3 (upd H2 Dd (.lst [])) fp s3.heap.objs.size (X.pn++pins);have he':=he s3 (upd H2 Dd (.lst [])) fp s3.heap.objs.size (X.pn++pins);rw[hX]at hg' he';have eK:X'.K=X.K:=by rw[<-hX];rfl
 have eP:X'.prog=X.prog:=by rw[<-hX];rfl
 have eW:X'.w=X.w:=by rw[<-hX];rfl
 have eA:X'.A=X.A:=by rw[<-hX];rfl
 have eE:X'.xe=λ_ _=>False:=by rw[<-hX];rfl
 have eC:X'.calm=true:=by rw[<-hX];exact DF
 have eL:X'.env.locals=s3.heap.objs.size:=by rw[<-hX];rfl
 have eS:X'.s₀=s3:=by rw[<-hX];rfl
 have eX:X'.ex=fp:=by rw[<-hX];rfl
 have eF:X'.fs=K8 X.stack:=by rw[<-hX];rfl
 have eN:X'.pn=X.pn++pins:=by rw[<-hX];rfl
 have eH:X'.H₀=upd H2 Dd (.lst []):=by rw[<-hX];rfl
 have eV:X'.env=zA scope (IU X.env.cells scope.names []) s3.heap.objs.size X.env:=by rw[<-hX];rfl
 have fpX:∀{Hx:Hp},(∀b∈fp,Hx b=none)->∀b∈fp,sU X' [] Hx b:=λ{Hx} hn b hb=>by
  obtain⟨_,c1,c2,c3,c4,c5⟩:=f3 b hb;have q:=I4.ok.exf b (by rw[eX];exact hb);refine⟨hn b hb,q.1,I4.ok.Ld b (by rw[eX];exact hb),.inl (by rw[eX];exact hb),q.2,λp hp=>?_⟩;rw[eN,bE]at hp;exact c5 p hp
 obtain⟨Pv,pv0,pvl,pvs,pvd⟩:=hinv Dd hDn;have loop:∀s4:aj,Inv X' [] (aZ 1 none++vs.map aa) (upd H2 Dd (.lst [])) s4->tn 0 s4.heap->
   lU (aE X.prog X.w) X.A (.compLoop (.ListComp elt [⟨tg,iter,[],0⟩] scope pos) 0 (.ref it) (.ref Dd) (zA scope (IU X.env.cells scope.names []) s3.heap.objs.size X.env))
    (compPost (aE X.prog X.w) X.A X.xe none (EP X pins σ Q) (.ref Dd) s3.heap.objs.size) s4:=by
  intro s4 J4 S2;refine BP (λn s'=>∃(i:Nat)(acc:List V)(Hx:Hp)(t0:Option V),n=xs.length-i/\i<=xs.length/\Inv X' [] (t0::vs.map aa) Hx s'/\tn i s'.heap/\(∀b∈fp,Hx b=none)/\Pv i acc Hx) ?_ xs.length
   ⟨0,[],_,none,by simp,iJ _,J4,S2,λb hb=>(f3 b hb).1,pv0⟩
  rintro n s5 ⟨i,acc,Hx,t0,rfl,hi5,J5,WO,V7,p5⟩;obtain⟨hq5,hD5⟩:=pvl i acc Hx p5
  by_cases hlt:i<xs.length
  ·have hx:xs[i]?=aa xs[i]:=bj hlt
   have TI:=T.item X' eP eW eK eC i [] s5 _ Hx (λ_ _=>False) J5 (fpX V7) WO ⟨xs,xs[i],hq5,hx⟩;rw[eA]at TI;refine fJ TI λr s6 h6=>?_;obtain⟨u,rfl,h6⟩:=h6;refine fJ h6 λ_ s7 h7=>?_;obtain⟨x,H7,J7,rx,⟨rfl,hy⟩,st7,fr7⟩:=h7;have exi:=hy xs hq5;have J7':=J7.pinned (fpX fr7) (T.obj _ _ st7);have TG:=hg' _ s7 _ H7 x u (λσ8 H8=>σ8=aa x::vs.map aa/\H8=H7) J7' rx ⟨rfl,rfl⟩;rw[eP,eW,eA,eE,eV]at TG;refine fJ TG λ_ s8 h8=>?_;obtain⟨σ8,H8,J8,rfl,rfl⟩:=h8;refine fJ (XO (Q:=λb s'=>b=true/\s'=s8) ⟨rfl,rfl⟩) λok s9 h9=>?_;obtain⟨rfl,rfl⟩:=h9;have NX:∀{σx:St}{Hy:Hp}{sx:aj},Inv X' ([]++AJ fp s7.heap) σx Hy sx->tn (i+1) sx.heap/\∀b∈fp,Hy b=none:=λ{σx Hy sx} Jx=>
    ⟨T.keep _ _ _ st7 λb hb o e=>(Jx.pin (b,o) (fK _ (fK _ (kQ hb e)))).1,λb hb=>by
     obtain⟨o,e,d⟩:=T.obj _ _ st7 b hb;exact(Jx.pin (b,o) (fK _ (fK _ (kQ hb e)))).2.1⟩
   rw[if_pos rfl];have TE:=he' _ s9 _ H8 _ J8 (pvs i acc H8 x p5 exi);rw[eP,eW,eA,eE,eV]at TE;refine fJ TE λy s10 h10=>?_;obtain⟨v,Js,J10,rv,ac3,hlen,p10⟩:=h10;have TM:=i7 (X:=X') _ s10 _ Js (.ref Dd) [v] (.ref Dd) [y] (λ_ H11=>H11=upd Js Dd (.lst (acc++[v]))) J10 rfl (.cons rv .nil) ⟨Dd,acc,v,rfl,rfl,ac3,hlen,rfl⟩;rw[eP,eW,eA,eE]at TM;refine fJ TM λ_ s11 h11=>?_;obtain⟨v',H11,J11,_,rfl⟩:=h11;obtain⟨k1,k2⟩:=NX J11;exact⟨xs.length-(i+1),by lia,i+1,acc++[v],_,aa x,rfl,hlt,J11.qy,k1,k2,p10⟩
  ·have e:i=xs.length:=by lia
   subst e;have TD:=T.done X' eP eW eK eC xs.length [] s5 _ Hx (λ_ _=>False) J5 (fpX V7) WO ⟨xs,hq5,bf _⟩;rw[eA]at TD;refine fJ TD λr s6 h6=>?_;obtain⟨rfl,J6⟩:=h6;obtain⟨m6,hn6,_⟩:=J6.loc;rw[eL]at hn6;have un6:Un (K8 X.stack) fp (upd H2 Dd (.lst [])) Hx s3.heap s6.heap:=by
    have u:=J6.base;rw[eF,eX,eH,eS]at u;exact u
   have hxC:Hx s3.heap.objs.size=none:=by have:=J6.free;rw[eL]at this;exact this
   have ac5:ye X.prog X.w Hx s6.heap:=by
    have z:=J6.hok;rw[eP,eW]at z;exact z
   have os6:s6.os=s3.os:=by have:=J6.os;rw[eS]at this;exact this
   have I6:Inv X pins σ Hx s6:=I3.aas (s':=s6) os6 un6 ac5 J6.bare λb hb=>by
    obtain⟨_,c1,c2,c3,c4,c5⟩:=f3 b hb;exact⟨c3,c1,c4,c5⟩
   have fC:sU X pins Hx s3.heap.objs.size:=⟨hxC,(I3.Lh (bf _) (I3.hok.fresh (bf _))).2⟩
   refine⟨m6,hn6,λh7 hs7=>⟨.ref Dd,Hx,DD (fp:=[s3.heap.objs.size]) (t':=s6.toks) I6 (λb hb=>by
    have z:b=s3.heap.objs.size:=by simpa using hb
    rw[z];exact fC) (λb u hb e=>(hs7.2 b (λz=>hb (by simp[z]))).trans e),rfl,pvd acc Hx p5⟩⟩
 have S2:tn 0 h₁:=T.keep _ _ _ V6 λb hb o e=>k3 b o (by rw[hh3];exact cZ _ e);have eG:({heap:=h₁,gens:=s3.gens,drawn:=s3.drawn,toks:=s2.toks+([]:List (Str×ah)).length,os:=s3.os}:aj)={heap:=h₁,gens:=s2.gens,drawn:=s2.drawn,toks:=s2.toks+([]:List (Str×ah)).length,os:=s2.os}:=by rw[<-hs3]
 rw[eG]at I4;exact XU (loop _ I4 S2) (T.self _ 0 _ _ _ S2 (loop _ I4 S2))
end
def lh(env:DE):R Bool:=
 R.ok true
def lj(env:DE):R D:=
 (dG 0 env>=>λnz=>R.ok (D.int 0)>=>λjA=>yh nz jA)
noncomputable def Kh(env:DE):R Out:=
 ((((((dG 4 env>=>λv6=>R.ok (D.int 0)>=>λv7=>yh v6 v7)>=>λv4=>(((dG 1 env>=>zt)>=>λv9=>iW env []>=>λv10=>R.ne (ed (bN 0) lh lj (ni 1 v10) v9)>=>fit)>=>λv8=>R.of (yy v8))>=>λv5=>R.of (oX v4 v5))>=>λv2=>((dG 4 env>=>λpU=>R.ok (D.int 1)>=>λqD=>yh pU qD)>=>λpe=>R.ok []>=>λnW=>R.ok (pe::nW))>=>λv3=>R.ok (v2::v3))>=>fit)>=>λds=>R.ok (D.tup ds))>=>λv1=>R.ok (Out.rt v1))
def kK(ds:List D):R D:=match ds with
 |[.int n,d]=>R.ne (bU [d]>=>λrs=> @ite _ ((1<=n/\n<=7)/\rs.length<=40/\∀r∈rs,bx n.toNat r) (dR _) (Kh [.val (.int n),.val d,.no,.no,.val (Ke n.toNat (eY n.toNat rs))]>=>aJ) .bad)
 |_=>.bad
noncomputable def Bh(env:DE):R Out:=
 (((cy 4 env>=>λwg=>R.ok (D.int 0)>=>λyk=>yh wg yk)>=>λsQ=>(((dG 1 env>=>zt)>=>λA8=>iW env []>=>λv30=>R.ne (ed (bN 0) lh lj (ni 1 v30) A8)>=>fit)>=>λvN=>R.of (yy vN))>=>λuM=>R.of (oX sQ uM))>=>λnA=>FW nA>=>λv20=>TX 4 env>=>λtm=>R.ok (D.int 1)>=>λnc=>FZ nc>=>λud=>R.ok (Out.CF (Ct.tf v20 (O6 tm))))
noncomputable def cX(ds:List D):R Fm:=match ds with
 |[.int n,d]=>R.ne (bU [d]>=>λrs=> @ite _ ((1<=n/\n<=7)/\rs.length<=40/\∀r∈rs,bx n.toNat r) (dR _) (Bh [.val (.int n),.val d,.no,.no,.deep (.tf (qI n.toNat (eY n.toNat rs)).1 (qI n.toNat (eY n.toNat rs)).2)]>=>tfO) .bad)
 |_=>.bad
def L5(env:DE):R Out:=
 (((dG 0 env>=>λv2=>(((dG 0 env>=>λv6=>(dG 1 env>=>λv8=>R.ok []>=>λv9=>R.ok (v8::v9))>=>λv7=>R.ok (v6::v7))>=>fG)>=>λv4=>R.ok []>=>λv5=>R.ok (v4::v5))>=>λv3=>R.ok (v2::v3))>=>kK)>=>λv1=>R.ok (Out.rt v1))
def D6:=mD 2 2 L5
def O7(env:DE):R Out:=
 ((R.ne ((cy 0 env>=>λv2=>(((dG 0 env>=>λv6=>(dG 1 env>=>λv8=>R.ok []>=>λv9=>R.ok (v8::v9))>=>λv7=>R.ok (v6::v7))>=>fG)>=>λv4=>R.ok []>=>λv5=>R.ok (v4::v5))>=>λv3=>R.ok (v2::v3))>=>cX))>=>λv1=>R.ok (Out.CF (Ct.tf (O8 v1) (O6 v1))))
def dS:=YN 2 2 O7
def tU(env:DE):R Bool:=
 R.ok true
def nE(env:DE):R D:=
 ((dG 0 env>=>λv7=>R.ok []>=>λv8=>R.ok (v7::v8))>=>fY)
noncomputable def wG(env:DE):R Out:=
 (cg (R.bind ((((dG 1 env>=>λv10=>R.ok (D.int 1)>=>λv11=>yh v10 v11)>=>λv9=>zt v9>=>λxs=>R.ok (reverse xs))>=>λv3=>iW env []>=>λv4=>R.ne (ed (bN 0) tU nE (ni 1 v4) v3)>=>fit)>=>λv2=>R.ok (Out.nx (List.set env 2 (Sl.own v2)))) (adm 2)) λv1=>
 ((R.ne ((cy 0 v1>=>λnz=>(((rg 2 v1>=>λqD=>(((((((dG 1 v1>=>λuM=>R.ok (D.int 0)>=>λwg=>yh uM wg)>=>λsQ=>R.of (vX sQ))>=>λnc=>((((dG 0 v1>=>λv30=>R.ok []>=>λzO=>R.ok (v30::zO))>=>fE)>=>λA8=>R.ok (D.lst A8))>=>λyk=>R.ok []>=>λvN=>R.ok (yk::vN))>=>λud=>R.ok (nc::ud))>=>fit)>=>λds=>R.ok (D.tup ds))>=>λv20=>R.ok []>=>λtm=>R.ok (v20::tm))>=>fit)>=>λnA=>fit (qD++nA))>=>λpU=>R.ok (D.lst pU))>=>λpe=>R.ok []>=>λnW=>R.ok (pe::nW))>=>λjA=>R.ok (nz::jA))>=>cX))>=>λoY=>R.ok (Out.CF (Ct.tf (O8 oY) (O6 oY)))))
def jD:=YN 2 3 wG
noncomputable def D7(env:DE):R Out:=
 (cg (((R.ne ((cy 0 env>=>λv4=>(cy 1 env>=>λv6=>R.ok []>=>λv7=>R.ok (v6::v7))>=>λv5=>R.ok (v4::v5))>=>dS))>=>λv3=>R.ok (wc v3))>=>λv2=>R.ok (Out.nx (List.set env 2 (Sl.val v2)))) λv1=>
 (cg ((dG 2 v1>=>λv10=>R.ok (D.int 0)>=>λv11=>yh v10 v11)>=>λv9=>R.ok (Out.nx (List.set v1 3 (Sl.val v9)))) λv8=>
 (cg ((dG 2 v8>=>λjA=>R.ok (D.int 1)>=>λpe=>yh jA pe)>=>λnz=>R.ok (Out.nx (List.set v8 4 (Sl.val nz)))) λoY=>
 (cg ((cy 3 oY>=>λqD=>R.ok (D.int 0)>=>λnA=>R.of (kGe qD nA)>=>jk)>=>λpU=>if pU=true then(((R.ok []>=>fit)>=>λv20=>R.of (CO v20))>=>λtm=>(((dG 0 oY>=>λsQ=>(dG 2 oY>=>λwg=>R.ok []>=>λyk=>R.ok (wg::yk))>=>λuM=>R.ok (sQ::uM))>=>cF)>=>λnc=>R.of (CO nc))>=>λud=>R.ok (Out.FN [tm,ud]))else(R.ok (Out.nx oY))) λnW=>
 (cg ((((dG 3 nW>=>λv30=>(((rg 4 nW>=>λHL=>R.ok none>=>λDR=>((cy 3 nW>=>λLa=>R.of (vX La))>=>RK)>=>λF3=>R.ok (cut HL DR F3))>=>λHN=>R.ok (D.lst HN))>=>λHK=>R.ok []>=>λHM=>R.ok (HK::HM))>=>λzO=>R.ok (v30::zO))>=>fit)>=>λds=>R.ok (D.tup ds))>=>λA8=>R.ok (Out.nx (List.set nW 5 (Sl.val A8)))) λvN=>
 ((((dG 0 vN>=>λHP=>(((R.ne ((cy 0 vN>=>λT5=>(cy 5 vN>=>λT4=>R.ok []>=>λJL=>R.ok (T4::JL))>=>λT3=>R.ok (T5::T3))>=>jD))>=>λTZ=>R.ok (wc TZ))>=>λQZ=>R.ok []>=>λT6=>R.ok (QZ::T6))>=>λOt=>R.ok (HP::Ot))>=>cF)>=>λLP=>R.of (CO LP))>=>λOo=>(((dG 0 vN>=>λOq=>((((R.ok (D.int 0)>=>λYS=>(((rg 4 vN>=>λQY=>((cy 3 vN>=>λYY=>R.of (vX YY))>=>RK)>=>λYZ=>R.ok none>=>λYX=>R.ok (cut QY YZ YX))>=>λY0=>R.ok (D.lst Y0))>=>λYT=>R.ok []>=>λYU=>R.ok (YT::YU))>=>λQX=>R.ok (YS::QX))>=>fit)>=>λds=>R.ok (D.tup ds))>=>λv54=>R.ok []>=>λYV=>R.ok (v54::YV))>=>λYW=>R.ok (Oq::YW))>=>cF)>=>λQ0=>R.of (CO Q0))>=>λIV=>R.ok (Out.FN [Oo,IV])))))))
def kg:=mP 2 6 D7
def Aa(env:DE):R Bool:=
 (cy 0 env>=>λalj=>cy 1 env>=>λalk=>R.of (YQ alj alk)>=>jk)
def Kj(env:DE):R D:=
 (dG 0 env)
noncomputable def aby(env:DE):R Out:=
 (cg ((((((cy 0 env>=>λv7=>(R.ok (D.int 0)>=>λv9=>R.ok []>=>λv10=>R.ok (v9::v10))>=>λv8=>R.ok (v7::v8))>=>ie)>=>λv5=>(R.ok (D.int 10)>=>λv11=>R.ok (D.int 9)>=>λoY=>R.of (SQ v11 oY))>=>λv6=>R.of (zu v5 v6))>=>λv3=>(R.ok (D.int 1)>=>λnz=>(R.ok (D.int 7)>=>λpe=>R.ok []>=>λnW=>R.ok (pe::nW))>=>λjA=>R.ok (nz::jA))>=>λv4=>R.ok (v3::v4))>=>jB)>=>λv2=>R.ok (Out.nx (List.set env 1 (Sl.val v2)))) λv1=>
 (cg (((dG 0 v1>=>λnA=>(dG 1 v1>=>λtm=>(((cy 1 v1>=>λwg=>R.ok (D.int 4)>=>λyk=>R.of (IQ wg yk)>=>jk)>=>λuM=>if uM=true then(R.ok (D.int 8))else(R.ok (D.int 12)))>=>λud=>R.ok []>=>λsQ=>R.ok (ud::sQ))>=>λnc=>R.ok (tm::nc))>=>λv20=>R.ok (nA::v20))>=>iD)>=>λqD=>R.ok (Out.nx (List.set v1 2 (Sl.val qD)))) λpU=>
 (cg ((rg 2 pU>=>λv30=>R.ok (D.lst v30))>=>λA8=>R.ok (Out.nx (List.set pU 3 (Sl.val A8)))) λvN=>
 (cg ((R.ne ((cy 1 vN>=>λHM=>(cy 3 vN>=>λHL=>R.ok []>=>λDR=>R.ok (HL::DR))>=>λHN=>R.ok (HM::HN))>=>kg))>=>λHK=>R.ok (Out.nx (List.set vN 4 (Sl.deep (Ct.tp HK))))) λzO=>
 (cg (((((cy 4 zO>=>λQ0=>EO "tuple" Q0)>=>jk)>=>λOo=>R.ok (!Oo))>=>λLP=>if LP=true then R.ok true else((((cy 4 zO>=>λT6=>R.ok []>=>λTZ=>R.ok (T6::TZ))>=>λQZ=>R.of (vL QZ))>=>λHP=>R.ok (D.int 2)>=>λOt=>R.of (BU HP Ot)>=>jk)>=>λIV=>if IV=true then R.ok true else(cy 3 zO>=>λT5=>cy 2 zO>=>λT3=>R.of (BU T5 T3)>=>jk)))>=>λLa=>if La=true then(R.ok (D.bl false)>=>λT4=>R.ok (Out.rt T4))else(R.ok (Out.nx zO))) λF3=>
 (cg (R.bind (zM 4 F3) (YL 5 6 4 F3)) λJL=>
 (cg ((((((cy 5 JL>=>λYS=>(cy 1 JL>=>λYT=>R.ok []>=>λYU=>R.ok (YT::YU))>=>λQX=>R.ok (YS::QX))>=>jU)>=>jk)>=>λYV=>R.ok (!YV))>=>λv54=>if v54=true then R.ok true else((((cy 6 JL>=>λQY=>(cy 1 JL>=>λYX=>R.ok []>=>λYY=>R.ok (YX::YY))>=>λYZ=>R.ok (QY::YZ))>=>jU)>=>jk)>=>λY0=>R.ok (!Y0)))>=>λYW=>if YW=true then(R.ok (D.bl false)>=>λv65=>R.ok (Out.rt v65))else(R.ok (Out.nx JL))) λOq=>
 (cg (((((cy 5 Oq>=>λv71=>R.ok []>=>λv72=>R.ok (v71::v72))>=>oZ)>=>λv69=>rg 6 Oq>=>λv70=>fit (v69++v70))>=>λv68=>R.ok (D.lst v68))>=>λv67=>R.ok (Out.nx (List.set Oq 7 (Sl.val v67)))) λLQ=>
 (cg (((((dG 1 LQ>=>λv78=>(dG 7 LQ>=>λv80=>R.ok []>=>λv81=>R.ok (v80::v81))>=>λv79=>R.ok (v78::v79))>=>jT)>=>λv76=>((dG 1 LQ>=>λv82=>(dG 2 LQ>=>λv84=>R.ok []>=>λv85=>R.ok (v84::v85))>=>λv83=>R.ok (v82::v83))>=>jT)>=>λv77=>R.of (BU v76 v77)>=>jk)>=>λv75=>if v75=true then R.ok true else(((R.ne ((cy 1 LQ>=>λv89=>(cy 7 LQ>=>λv91=>R.ok []>=>λv92=>R.ok (v91::v92))>=>λv90=>R.ok (v89::v90))>=>dS))>=>λv88=>R.ok (wc v88))>=>λRU=>((R.ne ((cy 1 LQ>=>λv94=>(cy 2 LQ>=>λv96=>R.ok []>=>λv97=>R.ok (v96::v97))>=>λv95=>R.ok (v94::v95))>=>dS))>=>λv93=>R.ok (wc v93))>=>λv87=>R.of (BU RU v87)>=>jk))>=>λv74=>if v74=true then(R.ok (D.bl false)>=>λv98=>R.ok (Out.rt v98))else(R.ok (Out.nx LQ))) λT7=>
 (cg (R.bind (((R.ne ((cy 1 T7>=>λadZ=>(cy 5 T7>=>λadY=>R.ok []>=>λad1=>R.ok (adY::ad1))>=>λadX=>R.ok (adZ::adX))>=>dS))>=>λadW=>R.ok (wc adW))>=>λad0=>(((R.ne ((cy 1 T7>=>λad8=>(cy 6 T7>=>λad7=>R.ok []>=>λad9=>R.ok (ad7::ad9))>=>λad6=>R.ok (ad8::ad6))>=>dS))>=>λad5=>R.ok (wc ad5))>=>λad2=>R.ok []>=>λad4=>R.ok (ad2::ad4))>=>λad3=>R.ok (ad0::ad3)) (Yp 8 9 T7)) λv99=>
 (cg ((((((cy 8 v99>=>λalm=>(cy 1 v99>=>λaln=>R.ok []>=>λalo=>R.ok (aln::alo))>=>λalp=>R.ok (alm::alp))>=>dF)>=>jk)>=>λalq=>R.ok (!alq))>=>λaeb=>if aeb=true then R.ok true else((((cy 9 v99>=>λalr=>(cy 1 v99>=>λals=>R.ok []>=>λalu=>R.ok (als::alu))>=>λalv=>R.ok (alr::alv))>=>dF)>=>jk)>=>λalw=>R.ok (!alw)))>=>λaea=>if aea=true then(R.ok (D.bl false)>=>λalx=>R.ok (Out.rt alx))else(R.ok (Out.nx v99))) λUh=>
 (cg (((dG 8 Uh>=>λaly=>(dG 1 Uh>=>λalz=>R.ok []>=>λalA=>R.ok (alz::alA))>=>λalB=>R.ok (aly::alB))>=>cO)>=>λalC=>R.ok (Out.nx (List.set Uh 10 (Sl.val alC)))) λZl=>
 (cg (((((((dG 9 Zl>=>λalD=>(dG 1 Zl>=>λalE=>R.ok []>=>λalF=>R.ok (alE::alF))>=>λalG=>R.ok (alD::alG))>=>cO)>=>zt)>=>λalH=>iW Zl [10]>=>λalI=>R.ne (ed (bN 0) Aa Kj (ni 1 alI) alH)>=>fit)>=>λalJ=>R.ok (D.lst alJ))>=>λalK=>((R.ok []>=>fit)>=>λalL=>R.ok (D.lst alL))>=>λalM=>R.of (BU alK alM)>=>jk)>=>λalN=>if alN=true then(R.ok (D.bl false)>=>λalO=>R.ok (Out.rt alO))else(R.ok (Out.nx Zl))) λL6=>
 (cg (((((((((dG 1 L6>=>λalP=>(dG 8 L6>=>λalQ=>R.ok []>=>λalR=>R.ok (alQ::alR))>=>λalS=>R.ok (alP::alS))>=>cF)>=>λalT=>R.ok (D.lst alT))>=>λalU=>(cy 5 L6>=>λalV=>R.ok []>=>λalW=>R.ok (alV::alW))>=>λalX=>R.ok (alU::alX))>=>i9)>=>jk)>=>λalY=>R.ok (!alY))>=>λalZ=>if alZ=true then R.ok true else(((((((dG 1 L6>=>λal0=>(dG 9 L6>=>λal1=>R.ok []>=>λal2=>R.ok (al1::al2))>=>λal3=>R.ok (al0::al3))>=>cF)>=>λal4=>R.ok (D.lst al4))>=>λal5=>(cy 6 L6>=>λal6=>R.ok []>=>λal7=>R.ok (al6::al7))>=>λal8=>R.ok (al5::al8))>=>i9)>=>jk)>=>λal9=>R.ok (!al9)))>=>λama=>if ama=true then(R.ok (D.bl false)>=>λamb=>R.ok (Out.rt amb))else(R.ok (Out.nx L6))) λahv=>
 (cg ((rg 6 ahv>=>λamc=>R.ok (D.lst amc))>=>λamd=>R.ok (Out.nx (List.set ahv 11 (Sl.val amd)))) λaeo=>
 (cg ((R.ne ((cy 1 aeo>=>λame=>(cy 11 aeo>=>λamf=>R.ok []>=>λamg=>R.ok (amf::amg))>=>λamh=>R.ok (ame::amh))>=>kg))>=>λami=>R.ok (Out.nx (List.set aeo 12 (Sl.deep (Ct.tp ami))))) λZm=>
 (cg ((((cy 12 Zm>=>λamj=>R.ok (D.int 0)>=>λamk=>yh amj amk)>=>λaml=>((R.ok []>=>fit)>=>λamm=>R.ok (D.lst amm))>=>λamn=>R.of (BU aml amn)>=>jk)>=>λamo=>if amo=true then R.ok true else((cy 12 Zm>=>λamq=>R.ok (D.int 1)>=>λamr=>yh amq amr)>=>λams=>cy 6 Zm>=>λamt=>R.of (BU ams amt)>=>jk))>=>λamu=>if amu=true then(R.ok (D.bl false)>=>λamv=>R.ok (Out.rt amv))else(R.ok (Out.nx Zm))) λaep=>
 (cg (zM 12 aep>=>λahw=>R.ok (D.int 0)>=>λamw=>zL ahw amw>=>λamx=>cy 1 aep>=>λamy=>JG 12 aep ahw amx amy) λaeq=>
 (cg (zM 12 aeq>=>λahx=>R.ok (D.int 1)>=>λamz=>zL ahx amz>=>λamA=>cy 1 aeq>=>λamB=>JG 12 aeq ahx amA amB) λaer=>
 (cg (ownAt 5 aer>=>λamC=>dG 1 aer>=>λamD=>QR 5 aer amC amD) λaes=>
 (cg (ownAt 6 aes>=>λamE=>dG 1 aes>=>λamF=>QR 6 aes amE amF) λUI=>
 (((cy 3 UI>=>λamG=>cy 2 UI>=>λamH=>R.of (FQ amG amH))>=>λamI=>jk amI>=>λt=>if t=true then(((rg 11 UI>=>λamJ=>((dG 1 UI>=>λamK=>R.ok []>=>λamL=>R.ok (amK::amL))>=>fit)>=>λamM=>fit (amJ++amM))>=>λamN=>R.ok (D.lst amN))>=>λamO=>cy 6 UI>=>λamP=>R.of (FQ amO amP))else R.ok (D.bl false))>=>λamQ=>R.ok (Out.rt amQ)))))))))))))))))))))))
def D8:=mS 1 13 aby
end DL
namespace DL.wH
open PySem PySem.Spec PyProof.Rows L2 DL
def top(i:Nat):aC:=PySem.Challenge.pw_braidcomb_k37_two_least_words.main.body.getD i (.Pass ⟨0,0,0,0⟩)
abbrev Bj:aC:=top 4
def L7:bp ["word"] ["word"] (az Bj):=uL
abbrev D9:aC:=top 5
def wI:bp ["word","left","k"] ["word"] (az D9):=uL
abbrev B0:aC:=top 7
def H0:bp ["n"] ["n"] (az B0):=uL
abbrev O9:aC:=top 8
def UJ:bp ["n"] ["n"] (az O9):=uL
abbrev Ab:aC:=top 9
def n9:bp ["row","places","place","string"] ["row"] (az Ab):=uL
abbrev Ea:aC:=top 10
def Q5:bp ["row"] ["row"] (az Ea):=uL
abbrev Gb:aC:=top 11
def L8:bp ["row"] ["row"] (az Gb):=uL
abbrev lG:aC:=top 12
def sH:bp ["row","k"] ["row","k"] (az lG):=uL
abbrev mJ:aC:=top 13
def tV:bp ["row","k"] ["row","k"] (az mJ):=uL
abbrev B1:aC:=top 14
def jW:bp ["row","word","left","firsts"] ["row"] (az B1):=uL
abbrev Gd:aC:=top 15
def uT:bp ["n","word","row","k"] ["n","word"] (az Gd):=uL
abbrev Eb:aC:=top 16
def Q6:bp ["row"] ["row"] (az Eb):=uL
abbrev qJ:aC:=top 17
def Cg:bp ["row"] ["row"] (az qJ):=uL
abbrev Ec:aC:=top 20
def rN:bp ["crossings","bits","k"] ["crossings"] (az Ec):=uL
abbrev Ac:aC:=top 23
def kh:bp ["n","form","turn","word","row"] ["n","form"] (az Ac):=uL
abbrev UK:aC:=top 24
def qg:bp ["n","word","pieces","order","sign_above","k","place","held"] ["n","word"] (az UK):=uL
abbrev wJ:aC:=top 25
def Ci:bp ["row"] ["row"] (az wJ):=uL
abbrev Ed:aC:=top 26
def Kl:bp ["n","piece"] ["n","piece"] (az Ed):=uL
abbrev wK:aC:=top 27
def Cj:bp ["halves","row"] ["halves","row"] (az wK):=uL
abbrev nk:aC:=top 28
def dY:bp ["steps","rows","halves","step"] ["steps"] (az nk):=uL
abbrev nG:aC:=top 29
def jr:bp ["n","steps","comb","row","found"] ["n","steps"] (az nG):=uL
abbrev nH:aC:=top 30
def Ae:bp ["n","word"] ["n","word"] (az nH):=uL
abbrev Pb:aC:=top 31
def UL:bp ["n","word"] ["n","word"] (az Pb):=uL
abbrev qK:aC:=top 32
def vE:bp ["n","one","steps"] ["n","one"] (az qK):=uL
abbrev Ge:aC:=top 34
def qL:bp ["n","word","whole","halves","rows","taken"] ["n","word"] (az Ge):=uL
abbrev B3:aC:=top 36
def Ia:bp ["_law_cell","_law_k","_law_factor"] ["_law_cell","_law_k","_law_factor"] (az B3):=uL
abbrev vG:aC:=top 37
def Bk:bp ["_law_script","_law_k"] ["_law_script","_law_k"] (az vG):=uL
abbrev vH:aC:=top 38
def tW:bp ["_law_seed","_law_least","_law_most"] ["_law_seed","_law_least","_law_most"] (az vH):=uL
abbrev wL:aC:=top 39
def pJ:bp ["_law_found","_law_due","_law_x","_law_y"] ["_law_found","_law_due"] (az wL):=uL
abbrev tX:aC:=top 40
def rO:bp ["_law_number","_law_n","_law_k"] ["_law_number","_law_n"] (az tX):=uL
abbrev yE:aC:=top 41
def qM:bp ["_law_number","_law_n","_law_k","_law_other"] ["_law_number","_law_n"] (az yE):=uL
abbrev yF:aC:=top 42
def jE:bp ["_law_cells","_law_n","_law_most","_law_word","_law_k","_law_cell"] ["_law_cells","_law_n","_law_most"] (az yF):=uL
abbrev uU:aC:=top 43
def og:bp ["_law_cells","_law_n","_law_most","_law_word","_law_total","_law_at"] ["_law_cells","_law_n","_law_most"] (az uU):=uL
abbrev uV:aC:=top 44
def Fj:bp ["_law_word"] ["_law_word"] (az uV):=uL
abbrev yG:aC:=top 45
def jF:bp ["_law_n","_law_word","_law_hung","_law_k","_law_at"] ["_law_n","_law_word"] (az yG):=uL
abbrev pK:aC:=top 46
def iA:bp ["_law_found","_law_n","_law_last","_law_row","_law_k"] ["_law_found","_law_n"] (az pK):=uL
abbrev yH:aC:=top 47
def wM:bp ["_law_word","_law_n","_law_k"] ["_law_word","_law_n"] (az yH):=uL
abbrev qN:aC:=top 48
def vI:bp ["_law_told","_law_n","_law_row"] ["_law_told","_law_n"] (az qN):=uL
abbrev L9:aC:=top 49
def mK:bp ["_law_script","_law_n","_law_word","_law_handed","_law_found","_law_x","_law_y","_law_whole","_law_one","_law_other","_law_begins_here","_law_above_here","_law_again"] ["_law_script"] (az L9):=uL
set_option genInjectivity false
set_option genSizeOf false
structure Tb(K:ak)(mg:Str->Option ah) where
 wN:ae
 wO:aL
 Af:Df K mg "turned" Bj ["word"] wN wO
 xR:ae
 xS:aL
 Bm:Df K mg "trimmed" D9 ["word"] xR xS
 lu:ae
 lB:aL
 iR:Df K mg "straight" B0 ["n"] lu lB
 Ef:ae
 Eg:aL
 Bo:Df K mg "half" O9 ["n"] Ef Eg
 lH:ae
 lI:aL
 lJ:Df K mg "places_of" Ab ["row"] lH lI
 Ag:ae
 Ah:aL
 xU:Df K mg "stops" Ea ["row"] Ag Ah
 wQ:ae
 wR:aL
 qO:Df K mg "starts" Gb ["row"] wQ wR
 dq:ae
 du:aL
 cS:Df K mg "with_crossing_behind" lG ["row","k"] dq du
 eB:ae
 eI:aL
 dE:Df K mg "with_crossing_ahead" mJ ["row","k"] eB eI
 uW:ae
 uX:aL
 uY:Df K mg "row_word" B1 ["row"] uW uX
 Ai:ae
 Aj:aL
 Ak:Df K mg "row_of" Gd ["n","word"] Ai Aj
 C8:ae
 C9:aL
 Ib:Df K mg "ahead" Eb ["row"] C8 C9
 oh:ae
 oi:aL
 sI:Df K mg "flipped_row" qJ ["row"] oh oi
 xV:ae
 xW:aL
 lK:Df K mg "as_bits" Ec ["crossings"] xV xW
 o7:ae
 o8:aL
 jG:Df K mg "form_word" Ac ["n","form"] o7 o8
 Pd:ae
 Pe:aL
 UM:Df K mg "cut" UK ["n","word"] Pd Pe
 ki:ae
 kj:aL
 om:Df K mg "turned_step" wJ ["row"] ki kj
 xY:ae
 xZ:aL
 Bp:Df K mg "step_of" Ed ["n","piece"] xY xZ
 ou:ae
 oy:aL
 sJ:Df K mg "past_halves" wK ["halves","row"] ou oy
 gK:ae
 gM:aL
 eZ:Df K mg "rows_behind_halves" nk ["steps"] gK gM
 iY:ae
 i6:aL
 kL:Df K mg "form_of_steps" nG ["n","steps"] iY i6
 kM:ae
 kN:aL
 pL:Df K mg "steps_of_word" nH ["n","word"] kM kN
 Eh:ae
 Ei:aL
 yR:Df K mg "form" Pb ["n","word"] Eh Ei
 oA:ae
 oB:aL
 sL:Df K mg "form_turned" qK ["n","one"] oA oB
 Al:ae
 Am:aL
 An:Df K mg "parted" Ge ["n","word"] Al Am
 qP:ae
 qQ:aL
 uZ:Df K mg "_law_mix" B3 ["_law_cell","_law_k","_law_factor"] qP qQ
 mO:ae
 mQ:aL
 qR:Df K mg "_law_cell_at" vG ["_law_script","_law_k"] mO mQ
 mR:ae
 mU:aL
 qT:Df K mg "_law_strings" vH ["_law_seed","_law_least","_law_most"] mR mU
 oE:ae
 oF:aL
 oG:Df K mg "_law_listed" wL ["_law_found","_law_due"] oE oF
 kO:ae
 kP:aL
 pM:Df K mg "_law_crossing" tX ["_law_number","_law_n"] kO kP
 qh:ae
 qi:aL
 u9:Df K mg "_law_piece" yE ["_law_number","_law_n"] qh qi
 qj:ae
 qk:aL
 vc:Df K mg "_law_drawn" yF ["_law_cells","_law_n","_law_most"] qj qk
 rP:ae
 rQ:aL
 wU:Df K mg "_law_part" uU ["_law_cells","_law_n","_law_most"] rP rQ
 rR:ae
 rS:aL
 wV:Df K mg "_law_back" uV ["_law_word"] rR rS
 ql:ae
 qm:aL
 qo:Df K mg "_law_order" yG ["_law_n","_law_word"] ql qm
 mV:ae
 mW:aL
 mX:Df K mg "_law_is_form" pK ["_law_found","_law_n"] mV mW
 qp:ae
 qq:aL
 qr:Df K mg "_law_above" yH ["_law_word","_law_n"] qp qq
 oH:ae
 oJ:aL
 oK:Df K mg "_law_begins" qN ["_law_told","_law_n"] oH oJ
 UN:ae
 Pf:aL
 abz:Df K mg "law" L9 ["_law_script"] UN Pf
 Pg:mg "abs"=none
 Ej:mg "bool"=none
 rW:mg "enumerate"=none
 Km:mg "int"=none
 cT:mg "isinstance"=none
 pV:mg "len"=none
 jH:mg "list"=none
 abA:mg "max"=none
 mY:mg "range"=none
 lC:mg "reversed"=none
 Kn:mg "sorted"=none
 UO:mg "sum"=none
 Dc:mg "tuple"=none
 abB:mg "zip"=none
 Ao:Tok
 Aq:mg "MOST_KEPT"=aa (.int 200000 Ao)
set_option genInjectivity true
set_option genSizeOf true
end DL.wH
namespace DL.H
open PySem PySem.W L2
noncomputable section
def vi(i:Int)(t:Nat):ah:=.int i t
def vs(s:String)(t:Nat):ah:=.str (dB s) t
def vr(a:Nat):ah:=.ref a
def vy(s:String):ah:=.type s
def vb(s:String):ah:=.builtin s
def vn:ah:=.none
def vt:ah:=.bool true
def vf:ah:=.bool false
def pl:Data:=.plain
def ob(c:ah)(d:Data)(s:List (Option ah)):Obj:=⟨c,none,d,⟨s⟩⟩
def en(P:mf)(x:String)(t:Nat)(v:ah):G0:=⟨PyData.keyHash P (dB x),.str (dB x) t,v⟩
def cd(n:String)(b m:List ah)(s:ae)(q:String)(hd:Bool)(sn:List Str)(su:List ah)(ab:Bool)(c:Option Bool)(de:Bool):ClassData:=⟨dB n,b,m,s,dB q,hd,sn,su,ab,c,de⟩
def E:Obj:=ob (vy "tuple") (.seq ⟨[]⟩ 0) []
def F:Obj:=ob vn (.fields ⟨[]⟩) []
def Z:String:="/claim/cut.py"
def nO(s:aC):Str:=match s with|.FunctionDef n _ _ _ _ _ _ _ _ _=>n|_=>M7
def lO(s:aC):Nat:=match s with|.FunctionDef _ _ _ _ _ _ _ _ _ p=>p.line|_=>0
def tf(s:aC)(q:Str):Obj:=⟨.none,none,.func {name:=nO s,qualname:=q,params:=jj s,body:=.stmts (dQ s),scope:=az s,globals:=0,closure:=[],defaults:=.none,kwdefaults:=.none},⟨[]⟩⟩
def hf(n q:Str)(s:aC)(m:ah)(c:Nat):Obj:=⟨.type "function",none,.func (fnOf n q (jj s) (dQ s) (az s) .none .none .none m none (.ref c) .none),⟨[]⟩⟩
def cf(n q:Str)(t l k:Nat)(f:ah)(a b:Nat)(x y z:ah)(u:Nat):Obj:=ob (vy "code") (.fields ⟨[.str n t,.str q (t+1),vs Z (t+2),.int l 0,.int k 0,vi 0 0,vi 0 0,f,vr a,.bool (f !=vi 0 0),vi 181 0,vr b,vn,x,y,z,.int u 0,.int l 0,vs Z (u+1)]⟩) []
def tu:List String->Nat->List ah
 |[],_=>[]
 |x::l,t=>vs x t::tu l (t+1)
def fb7(s:aC)(q:Str)(a t:Nat)(m:ah)(ns:List String):List Obj:=[E,F,ob (vy "tuple") (.seq ⟨tu ns (t+3)⟩ 0) [],E,tf s q,cf (nO s) q t (lO s) (jj s).args.length (vi 3 0) a (a+1) (vr (a+2)) (vr (a+3)) (vr (a+4)) (t+3+ns.length),hf (nO s) q s m (a+5)]
def fb5(s:aC)(q:Str)(a t:Nat)(m:ah):List Obj:=[E,F,tf s q,cf (nO s) q t (lO s) (jj s).args.length (vi 3 0) a (a+1) vn vn (vr (a+2)) (t+3),hf (nO s) q s m (a+3)]
noncomputable def xb(P:mf)(n:String)(a t:Nat)(m:ah)(b:Nat)(l:Nat):List Obj:=
 [ob (vy "tuple") (.seq ⟨[vr b]⟩ 0) [],ob (vy "builtin_function_or_method") (.fields ⟨[vb "type.__prepare__",vy "type"]⟩) [],
  ob (vy "dict") (.dict ⟨[en P "__module__" (t+5) m,en P "__qualname__" (t+7) (vs n (t+6)),en P "__firstlineno__" (t+9) (.int l (t+8)),en P "__static_attributes__" (t+10) (vr (a+7))]⟩ 4) [],E,F,
  cf (dB n) (dB n) t l 0 (vi 0 0) (a+3) (a+4) vn vn vn (t+3),ob (vy "frame") pl [aa (vr (a+5)),aa (vr 3),aa (vr (a+2)),none,aa m,none,aa (vr 0)],E,
  ob (vy "dict") (.dict ⟨[en P "__module__" (t+5) m,en P "__firstlineno__" (t+9) (.int l (t+8)),en P "__static_attributes__" (t+10) (vr (a+7)),en P "__doc__" (t+11) vn]⟩ 2) [],
  ob (vy "type") (.cls (cd n [vr b] [vr (a+9),vr b,vy "ValueError",vy "Exception",vy "BaseException",vy "object"] (a+8) n true [] [] false none false)) [aa (vr a),none,aa (vs n (t-2)),aa (vs n (t+6)),aa (vb "ValueError.__new__"),aa vt],
  ob (vy "super") (.fields ⟨[vr (a+9),vr (a+9),vr (a+9)]⟩) [],ob (vy "builtin_function_or_method") (.fields ⟨[vb "object.__init_subclass__",vr (a+9)]⟩) []]
def sp:List Obj->List Obj×List Obj
 |[]=>([],[])
 |x::l=>(x::(sp l).2,(sp l).1)
def bt:Nat->List Obj->BT
 |0,_=>.nil
 |_+1,[]=>.nil
 |n+1,x::l=>.node x (bt n (sp l).1) (bt n (sp l).2)
end
end DL.H
namespace DL.wH.H
open PySem PySem.W DL.H L2
noncomputable section
abbrev pw:aU:=PySem.Challenge.pw_braidcomb_k37_two_least_words
abbrev T(i:Nat):aC:=DL.wH.top i
def J(i j:Nat):aC:=match T i with|.ClassDef _ _ _ b _ _ _ _ _ _ _=>b.getD j (.Pass ⟨0,0,0,0⟩)|s=>s
noncomputable def M3(P:mf):List G0:=[en P "__doc__" 166 vn,en P "__package__" 167 vn,en P "__loader__" 168 (vb "__main__.__loader__#opaque"),en P "__spec__" 169 vn,en P "__annotations__" 170 (vr 6),en P "__builtins__" 171 (vr 4),en P "__file__" 173 (vs "/claim/cut.py" 172),en P "__cached__" 174 vn,en P "BraidError" 206 (vr 24),en P "NoRow" 222 (vr 37),en P "turned" 230 (vr 44),en P "trimmed" 239 (vr 51),en P "straight" 248 (vr 58),en P "half" 255 (vr 65),en P "places_of" 265 (vr 72),en P "stops" 271 (vr 77),en P "starts" 278 (vr 84),en P "with_crossing_behind" 286 (vr 91),en P "with_crossing_ahead" 294 (vr 98),en P "row_word" 304 (vr 105),en P "row_of" 314 (vr 112),en P "ahead" 320 (vr 117),en P "flipped_row" 326 (vr 122),en P "MOST_KEPT" 330 (vi 200000 329),en P "as_bits" 339 (vr 129),en P "Comb" 445 (vr 193),en P "form_word" 458 (vr 204),en P "cut" 472 (vr 211),en P "turned_step" 479 (vr 218),en P "step_of" 487 (vr 225),en P "past_halves" 495 (vr 232),en P "rows_behind_halves" 505 (vr 239),en P "form_of_steps" 511 (vr 244),en P "steps_of_word" 517 (vr 249),en P "form" 525 (vr 256),en P "form_turned" 531 (vr 261),en P "parted" 545 (vr 268),en P "_law_mix" 556 (vr 275),en P "_law_cell_at" 564 (vr 282),en P "_law_strings" 573 (vr 289),en P "_law_listed" 583 (vr 296),en P "_law_crossing" 592 (vr 303),en P "_law_piece" 602 (vr 310),en P "_law_drawn" 614 (vr 317),en P "_law_part" 620 (vr 322),en P "_law_back" 626 (vr 327),en P "_law_order" 637 (vr 334),en P "_law_is_form" 643 (vr 339),en P "_law_above" 652 (vr 346),en P "_law_begins" 658 (vr 351),en P "law" 664 (vr 356)]
def m3(P:mf)(v:ah)(k e:Nat):Obj:=ob (vy "dict") (.dict ⟨en P "__name__" 165 v::(M3 P).take k⟩ e) []
noncomputable def L12:List (Nat×Nat):=[(2,20),(4,33),(7,43),(9,50),(18,57),(20,64),(22,71),(27,76),(29,83),(31,90),(33,97),(35,104),(44,111),(53,116),(55,121),(59,128),(64,135),(137,203),(146,210),(161,217),(163,224),(167,231),(171,238),(179,243),(185,248),(187,255),(189,260),(193,267),(202,274),(204,281),(208,288),(213,295),(220,302),(225,309),(231,316),(237,321),(244,326),(246,333),(252,338),(268,345),(275,350),(282,355)]
def o12(k:Nat):Obj:=ob vn (.fields ⟨(L12.take k).flatMap λx=>[.int x.1 0,vi 0 0,vr x.2]⟩) []
def w0:ah:=vs "braidcomb.errors" 187
def w1:ah:=vs "braidcomb.words" 223
def w2:ah:=vs "braidcomb.rows" 240
def w3:ah:=vs "braidcomb.sliding" 327
def w4:ah:=vs "braidcomb.forms" 446
def w5:ah:=vs "braidcomb.parts" 532
def w6:ah:=vs "law_braidcomb_k37_two_least_words" 546
def f7(i a t:Nat)(m:ah)(ns:List String):List Obj:=fb7 (T i) (nO (T i)) a t m ns
def f5(i a t:Nat)(m:ah):List Obj:=fb5 (T i) (nO (T i)) a t m
noncomputable def FL(P:mf):List Obj:=[boot_o_0 P,boot_o_1 P,boot_o_2 P,m3 P w6 51 52,boot_o_4 P,boot_o_5 P,boot_o_6 P,boot_o_7 P,boot_o_8 P,boot_o_9 P,boot_o_10 P]
 ++[E,(o12 42),(ob (vy "code") (.fields ⟨[(vs "<module>" 182),(vs "<module>" 183),(vs "/claim/cut.py" 184),(vi 1 0),(vi 0 0),(vi 0 0),(vi 0 0),(vi 0 0),(vr 11),vf,(vi 181 0),(vr 12),vn,vn,vn,vn,(vi 185 0),(vi 1 0),(vs "/claim/cut.py" 186)]⟩) []),(ob (vy "frame") pl [(aa (vr 13)),(aa (vr 3)),(aa (vr 3)),none,(aa (vs "__main__" 164)),none,(aa (vr 0))]),(ob (vy "tuple") (.seq ⟨[(vy "ValueError")]⟩ 0) []),(ob (vy "builtin_function_or_method") (.fields ⟨[(vb "type.__prepare__"),(vy "type")]⟩) []),(ob (vy "dict") (.dict ⟨[(en P "__module__" 196 (vs "braidcomb.errors" 187)),(en P "__qualname__" 198 (vs "BraidError" 197)),(en P "__firstlineno__" 200 (vi 2 199)),(en P "__static_attributes__" 201 (vr 22))]⟩ 4) []),E,F,(ob (vy "code") (.fields ⟨[(vs "BraidError" 191),(vs "BraidError" 192),(vs "/claim/cut.py" 193),(vi 2 0),(vi 0 0),(vi 0 0),(vi 0 0),(vi 0 0),(vr 18),vf,(vi 181 0),(vr 19),vn,vn,vn,vn,(vi 194 0),(vi 2 0),(vs "/claim/cut.py" 195)]⟩) []),(ob (vy "frame") pl [(aa (vr 20)),(aa (vr 3)),(aa (vr 17)),none,(aa (vs "braidcomb.errors" 187)),none,(aa (vr 0))]),E,(ob (vy "dict") (.dict ⟨[(en P "__module__" 196 (vs "braidcomb.errors" 187)),(en P "__firstlineno__" 200 (vi 2 199)),(en P "__static_attributes__" 201 (vr 22)),(en P "__weakref__" 203 (vr 25)),(en P "__doc__" 204 vn)]⟩ 3) []),(ob (vy "type") (.cls (cd "BraidError" [(vy "ValueError")] [(vr 24),(vy "ValueError"),(vy "Exception"),(vy "BaseException"),(vy "object")] 23 "BraidError" true [] [(vr 37)] false none false)) [(aa (vr 15)),none,(aa (vs "BraidError" 189)),(aa (vs "BraidError" 197)),(aa (vb "ValueError.__new__")),(aa vt)]),(ob (vy "getset_descriptor") (.fields ⟨[(vs "__weakref__" 202),(vr 24),(vb "ExceptionGroup.__weakref__"),vn]⟩) []),(ob (vy "super") (.fields ⟨[(vr 24),(vr 24),(vr 24)]⟩) []),(ob (vy "builtin_function_or_method") (.fields ⟨[(vb "object.__init_subclass__"),(vr 24)]⟩) [])]
 ++xb P "NoRow" 28 209 w0 24 4
 ++f5 4 40 225 w1
 ++f7 5 45 231 w1 ["word","left","k"]
 ++f7 7 52 242 w2 ["n"]
 ++f7 8 59 249 w2 ["n"]
 ++f7 9 66 256 w2 ["row","places","place","string"]
 ++f5 10 73 266 w2
 ++f7 11 78 272 w2 ["row"]
 ++f7 12 85 279 w2 ["row","k"]
 ++f7 13 92 287 w2 ["row","k"]
 ++f7 14 99 295 w2 ["row","word","left","firsts"]
 ++f7 15 106 305 w2 ["n","word","row","k"]
 ++f5 16 113 315 w2
 ++f5 17 118 321 w2
 ++f7 20 123 331 w3 ["crossings","bits","k"]
 ++[E,(ob (vy "builtin_function_or_method") (.fields ⟨[(vb "type.__prepare__"),(vy "type")]⟩) []),(ob (vy "dict") (.dict ⟨[(en P "__module__" 347 w3),(en P "__qualname__" 349 (vs "Comb" 348)),(en P "__firstlineno__" 351 (vi 64 350)),(en P "__init__" 359 (vr 143)),(en P "number_of" 368 (vr 150)),(en P "without_first" 378 (vr 157)),(en P "with_last" 388 (vr 164)),(en P "slide" 399 (vr 171)),(en P "slide_kept" 410 (vr 178)),(en P "put" 421 (vr 185)),(en P "form_told" 427 (vr 190)),(en P "__static_attributes__" 438 (vr 191))]⟩ 12) []),E,(ob vn (.fields ⟨[(vi 66 0),(vi 4 0),(vr 142),(vi 78 0),(vi 4 0),(vr 149),(vi 87 0),(vi 4 0),(vr 156),(vi 93 0),(vi 4 0),(vr 163),(vi 99 0),(vi 4 0),(vr 170),(vi 108 0),(vi 4 0),(vr 177),(vi 117 0),(vi 4 0),(vr 184),(vi 131 0),(vi 4 0),(vr 189)]⟩) []),(ob (vy "code") (.fields ⟨[(vs "Comb" 342),(vs "Comb" 343),(vs "/claim/cut.py" 344),(vi 64 0),(vi 0 0),(vi 0 0),(vi 0 0),(vi 0 0),(vr 133),vf,(vi 181 0),(vr 134),vn,vn,vn,vn,(vi 345 0),(vi 64 0),(vs "/claim/cut.py" 346)]⟩) []),(ob (vy "frame") pl [(aa (vr 135)),(aa (vr 3)),(aa (vr 132)),none,(aa w3),none,(aa (vr 0))])]
 ++fb7 (J 21 0) "Comb.__init__" 137 352 w3 ["self","n"]
 ++fb7 (J 21 1) "Comb.number_of" 144 360 w3 ["self","row","key"]
 ++fb7 (J 21 2) "Comb.without_first" 151 369 w3 ["self","number","k","step"]
 ++fb7 (J 21 3) "Comb.with_last" 158 379 w3 ["self","number","k","step"]
 ++fb7 (J 21 4) "Comb.slide" 165 389 w3 ["self","one","other","free","k"]
 ++fb7 (J 21 5) "Comb.slide_kept" 172 400 w3 ["self","one","other","pair","found"]
 ++fb7 (J 21 6) "Comb.put" 179 411 w3 ["self","row","line","place","pair"]
 ++fb5 (J 21 7) "Comb.form_told" 186 422 w3
 ++[(ob (vy "tuple") (.seq ⟨[(vs "firsts" 428),(vs "kept" 429),(vs "known" 430),(vs "lasts" 431),(vs "line" 432),(vs "longer" 433),(vs "none" 434),(vs "numbers" 435),(vs "shorter" 436),(vs "whole" 437)]⟩ 0) []),(ob (vy "dict") (.dict ⟨[(en P "__module__" 347 w3),(en P "__firstlineno__" 351 (vi 64 350)),(en P "__init__" 359 (vr 143)),(en P "number_of" 368 (vr 150)),(en P "without_first" 378 (vr 157)),(en P "with_last" 388 (vr 164)),(en P "slide" 399 (vr 171)),(en P "slide_kept" 410 (vr 178)),(en P "put" 421 (vr 185)),(en P "form_told" 427 (vr 190)),(en P "__static_attributes__" 438 (vr 191)),(en P "__dict__" 440 (vr 194)),(en P "__weakref__" 442 (vr 195)),(en P "__doc__" 443 vn)]⟩ 4) []),(ob (vy "type") (.cls (cd "Comb" [(vy "object")] [(vr 193),(vy "object")] 192 "Comb" true [] [] false none false)) [none,none,(aa (vs "Comb" 340)),(aa (vs "Comb" 348)),(aa (vb "object.__new__")),(aa vt)]),(ob (vy "getset_descriptor") (.fields ⟨[(vs "__dict__" 439),(vr 193),(vb "function.__dict__"),(vb "function.__dict__#set")]⟩) []),(ob (vy "getset_descriptor") (.fields ⟨[(vs "__weakref__" 441),(vr 193),(vb "ExceptionGroup.__weakref__"),vn]⟩) []),(ob (vy "super") (.fields ⟨[(vr 193),(vr 193),(vr 193)]⟩) []),(ob (vy "builtin_function_or_method") (.fields ⟨[(vb "object.__init_subclass__"),(vr 193)]⟩) [])]
 ++f7 23 198 448 w4 ["n","form","turn","word","row"]
 ++f7 24 205 459 w4 ["n","word","pieces","order","sign_above","k","place","held"]
 ++f7 25 212 473 w4 ["row"]
 ++f7 26 219 480 w4 ["n","piece"]
 ++f7 27 226 488 w4 ["halves","row"]
 ++f7 28 233 496 w4 ["steps","rows","halves","step"]
 ++f5 29 240 506 w4
 ++f5 30 245 512 w4
 ++f7 31 250 518 w4 ["n","word"]
 ++f5 32 257 526 w4
 ++f7 34 262 534 w5 ["n","word","whole","halves","rows","taken"]
 ++f7 36 269 548 w6 ["_law_cell","_law_k","_law_factor"]
 ++f7 37 276 557 w6 ["_law_script","_law_k"]
 ++f7 38 283 565 w6 ["_law_seed","_law_least","_law_most"]
 ++f7 39 290 574 w6 ["_law_found","_law_due","_law_x","_law_y"]
 ++f7 40 297 584 w6 ["_law_number","_law_n","_law_k"]
 ++f7 41 304 593 w6 ["_law_number","_law_n","_law_k","_law_other"]
 ++f7 42 311 603 w6 ["_law_cells","_law_n","_law_most","_law_word","_law_k","_law_cell"]
 ++f5 43 318 615 w6
 ++f5 44 323 621 w6
 ++f7 45 328 627 w6 ["_law_n","_law_word","_law_hung","_law_k","_law_at"]
 ++f5 46 335 638 w6
 ++f7 47 340 644 w6 ["_law_word","_law_n","_law_k"]
 ++f5 48 347 653 w6
 ++f5 49 352 659 w6
def as:List ae:=2::3::(b9 346).map (·+11)
def K(P:mf):Frag:=as.map λa=>(a,(FL P).getD a E)
def q:aU:=view pw [1,2,4,5,7,8,9,10,11,12,13,14,15,16,17,19,20,21,23,24,25,26,27,28,29,30,31,32,34,36,37,38,39,40,41,42,43,44,45,46,47,48,49]
def env:Env:={scope:=pw.main.scope,locals:=mainNs,globals:=mainNs,cells:=[],code:=vr 13,frame:=aa 14}
def bd:List aC:=behindTheImports pw
abbrev cE:uj:=.body bd env
abbrev fr:List Frame:=[topFrame ⟨0,0,0,0⟩]
abbrev an:Option ah:=(aa (vr 6))
noncomputable def S(P:mf):Nat->List Obj
 |0=>(((FL P).take 15).set 12 (o12 0)).set 3 (boot_o_3 P)
 |1=>(((FL P).take 45).set 3 (m3 P w1 11 12)).set 12 (o12 3)
 |2=>(((FL P).take 130).set 3 (m3 P w3 25 26)).set 12 (o12 16)
 |3=>(((FL P).take 198).set 3 (m3 P w3 26 27)).set 12 (o12 17)
 |4=>(((FL P).take 283).set 3 (m3 P w6 39 40)).set 12 (o12 30)
 |5=>(FL P).take 357
 |_=>[]
abbrev st(i n t:Nat)(w:aF)(os:iS):SharedT:=⟨bt 12 (S w.params i),n,(boot_heap w.params).life,⟨[]⟩,boot_drawn,t,os⟩
def pre(w:aF)(os:iS):topGo ve pw w 11 an 12 ⟨boot_heap w.params,⟨[]⟩,boot_drawn,boot_toks,os⟩ (topStub pw)=aa ((st 0 15 187 w os).abs,⟨denote ve cE,cE,⟨0,0,0,0⟩,fr⟩):=by kernel_rfl
def blk(w:aF)(os:iS):segRun ve pw w 11 an 1 1 (st 0 15 187 w os).abs (blockOf bd env cE ⟨0,0,0,0⟩ fr)=aa (.next,(st 0 15 187 w os).abs,cE,⟨0,0,0,0⟩):=by kernel_rfl
abbrev Pc(N i n t d k:Nat)(p:Pos)(n2 t2:Nat)(p2:Pos)(w:aF)(os:iS):Prop:=segRunT ve pw w 11 an 1 N (st i n t w os) (piecesOf ((bd.drop d).take k) env cE p fr)=aa (.next,st (i+1) n2 t2 w os,cE,p2)
def pc0(w:aF)(os:iS):Pc 444 0 15 187 0 5 ⟨0,0,0,0⟩ 45 231 ⟨7,0,8,39⟩ w os:=by kernel_rfl
def pc1(w:aF)(os:iS):Pc 411 1 45 231 5 16 ⟨7,0,8,39⟩ 130 340 ⟨59,0,63,15⟩ w os:=by kernel_rfl
def pc2(w:aF)(os:iS):Pc 466 2 130 340 21 1 ⟨59,0,63,15⟩ 198 446 ⟨64,0,135,80⟩ w os:=by kernel_rfl
def pc3(w:aF)(os:iS):Pc 421 3 198 446 22 16 ⟨64,0,135,80⟩ 283 565 ⟨204,0,207,12⟩ w os:=by kernel_rfl
def pc4(w:aF)(os:iS):Pc 355 4 283 565 38 12 ⟨204,0,207,12⟩ 357 665 ⟨282,0,311,76⟩ w os:=by kernel_rfl
def fin(w:aF)(os:iS):topRun ve pw w 11 an 2 (st 5 357 665 w os).abs (restOf [] env cE ⟨282,0,311,76⟩ fr)=aa (st 5 357 665 w os).abs:=by kernel_rfl
def cut:bd=((bd.drop 0).take 5++((bd.drop 5).take 16++((bd.drop 21).take 1++((bd.drop 22).take 16++((bd.drop 38).take 12++[]))))):=by kernel_rfl
def rest{tb:String->Option HG}{p:aU}{w:aF}{n₀ N:Nat}{ann:Option ah}{s r:aj}{b b':List aC}{e:Env}{c:uj}{ps:Pos}{B:List Frame}(h:b=b')(k:topRun tb p w n₀ ann N s (restOf b' e c ps B)=aa r):topRun tb p w n₀ ann N s (restOf b e c ps B)=aa r:=h▸k
def run(w:aF)(os:iS):topRun ve pw w 11 an (12+(1+(444+(411+(466+(421+(355+2))))))) ⟨boot_heap w.params,⟨[]⟩,boot_drawn,boot_toks,os⟩ (topStub pw)=aa (st 5 357 665 w os).abs:=go_top (pre w os) (piece_block (blk w os) (rest cut (piece_app (segRun_of (pc0 w os)) (piece_app (segRun_of (pc1 w os)) (piece_app (segRun_of (pc2 w os)) (piece_app (segRun_of (pc3 w os)) (piece_app (segRun_of (pc4 w os)) (fin w os))))))))
def lo:List Str:=[]
def hk:Hook:=kHook K as (λ_=>by kernel_rfl)
def Xt(s:aj):Bool:=xlAt q [] s&&recOk (OpenLaw.row PySem.Challenge.rw_braidcomb_k37_two_least_words).toRowW.records s
abbrev H1(P:mf):aD:=absHeap (bt 12 (S P 5)) 357 (boot_heap P).life
def ahy(w:aF)(os:iS):(staticsOk (Zn pw.main.body) (boot_heap w.params) (H1 w.params)&&namesBound pw (H1 w.params)&&gensDone ⟨H1 w.params,⟨[]⟩,boot_drawn,665,os⟩&&laidKept (boot_heap w.params) (H1 w.params))=true:=by kernel_rfl
def ahz(w:aF)(os:iS):(openSeen q lo (Zn pw.main.body) Xt true ⟨H1 w.params,⟨[]⟩,boot_drawn,665,os⟩)=openGood q lo:=by kernel_rfl
def ahA(w:aF)(os:iS):(hk.obs ⟨H1 w.params,⟨[]⟩,boot_drawn,665,os⟩)=hk.val w:=by kernel_rfl
def o1:opening pw=plainProg pw.main.scope.names:=by kernel_rfl
def o2(s:aj):fenceModules? pw s=aa s:=by kernel_rfl
def o3:ble 600 4310=true:=by kernel_rfl
def op(w:aF):(fencedOpening ve pw w 4310).map (λs=>(s.heap,s.gens,s.drawn,s.toks))=aa (boot_heap w.params,⟨[]⟩,boot_drawn,boot_toks):=boot_open o1 o3 o2 w
def sz(w:aF):((boot_heap w.params).isNs eg&&(⟨[]⟩:Array GenState).size==0,(boot_heap w.params).objs.size,(boot_heap w.params).nsMap eg "__annotations__")=(true,11,an):=by kernel_rfl
def le:ble (12+(1+(444+(411+(466+(421+(355+2))))))) 4310=true:=by kernel_rfl
def ab(w:aF)(os:iS):aa (st 5 357 665 w os).abs=aa ⟨H1 w.params,⟨[]⟩,boot_drawn,665,os⟩:=by kernel_rfl
def run'(w:aF)(os:iS):topRun ve pw w 11 an (12+(1+(444+(411+(466+(421+(355+2))))))) ⟨boot_heap w.params,⟨[]⟩,boot_drawn,boot_toks,os⟩ (topStub pw)=aa ⟨H1 w.params,⟨[]⟩,boot_drawn,665,os⟩:=Eq.trans (run w os) (ab w os)
def left:LeftO pw q lo Xt hk.obs hk.val 4310 true:=
 @LeftO.of_pieces pw q lo Xt hk.α hk.obs hk.val 4310 true boot_heap H1 ⟨[]⟩ ⟨[]⟩ boot_drawn boot_drawn boot_toks 665 11 an (12+(1+(444+(411+(466+(421+(355+2))))))) op sz run' le (λw=>funext λos=>Prod.ext (ahy w os) (Prod.ext (ahz w os) (ahA w os)))
end
end DL.wH.H
namespace DL.wH
open PySem PySem.Spec PyProof.Rows L2 DL
abbrev UQ:aC:=inClass (top 21) 1
structure Wf(K:ak)(mg:Str->Option ah)(C:ae):Prop where
 cl:Ss K C
 kn:j5 K C "known"
 nu:j5 K C "numbers"
 fi:j5 K C "firsts"
 la:j5 K C "lasts"
 sh:j5 K C "shorter"
 lo:j5 K C "longer"
 ke:j5 K C "kept"
 li:j5 K C "line"
 no:j5 K C "none"
 wh:j5 K C "whole"
 mgC:mg "Comb"=aa (.ref C)
 mtu:mg "tuple"=none
 mli:mg "list"=none
 mle:mg "len"=none
inductive UR (K:ak) (C:ae) (vs:List V) (H:Hp) (Q:VK):Prop
 |mk (a:ae) (A:Ad) (ex:List (Str×V)) (n:Nat) (kn:List RP) (ln:List Int) (B:Nat) (nu sh lo ke:List (List Key×V)) (p:RP) (v:V):(vs=[.ref a,v])->(m8 C H a A ex n kn ln B nu sh lo ke)->(n<=7)->(B<1000000)->(Iv n p.1 p.2)->(Is K (λx=>x∉a::A.all) H (.lst (aW p.1)) v)->(∀(i:Nat)(H':Hp)(A':Ad)(mo:List RP)(Mb:List (List Key×V)),m8 C H' a A' ex n (kn++mo) ln (B+1) Mb sh lo ke->(kn++mo)[i]?=aa p->m9 H H' (a::A.all) (a::A'.all)->A'.li=A.li->Q (.int i) H')->UR K C vs H Q
def Ko(K:ak)(C:ae):Sp:=λvs H Q _=>UR K C vs H Q
section
variable{P:aU}{w:aF}{K:ak}{mg:Str->Option ah}{base:aD}
def sc1:bp ["self","row","key"] ["self","row"] (az UQ):=⟨rfl,rfl,rfl,by decide +kernel,rfl,by decide +kernel,by decide +kernel⟩
def aet{f C:ae}{fd:aL}(F:Jf K "number_of" "Comb.number_of" UQ f fd)(T:Wf K mg C)(t:Tb K mg)
  (qU:p9 P w K mg base 2 t.wQ t.wR ["row"] qG)(x5:p9 P w K mg base 1 t.Ag t.Ah ["row"] xP)(UT:Ok P w K mg base 1 t.xV t.xW ["crossings"] tJ)
  (abD:∀ks:List Int,(∀k∈ks,1<=k/\k<=7)->tJ [.lst (aW ks)]=.ok (.int (LY ks))):fM P w K mg base qv 3 f fd ["self","row"] (Ko K C):=by
 refine F.ok sc1 (λvs H Q E h=>?_) (λcdv A outer s H vs Q E hr h=>?_)
 ·obtain⟨a,A,ex,n,kn,ln,B,nu,sh,lo,ke,p,v,rfl,_⟩:=h
  rfl
 ·obtain⟨a,A,ex,n,kn,ln,B,nu,sh,lo,ke,p,v,rfl,c,hn,hB,iv,RN,k⟩:=h
  have hu:=zj hr;refine⟨_,bF (gS (i:=2) sc1.nd rfl (aR rfl) (xx E4 (by rfl) T.mtu DH (bh (pv 1) bV)))
   (bF (BJ (Le (AU hu (pv 2) (dU (pv 0) rfl)))
    (bF (CD hu (dU (pv 0) rfl) (pv 2) (oU uu (by rfl) T.mle jb (bh (dU (pv 0) rfl) bV)) rfl)
    (bF (jM (yt kB uB uC i7 (dU (pv 0) rfl) (bh (xx uv (by rfl) T.mli nU (bh (pv 1) bV)) bV)) rfl)
    (bF (jM (yt kB uB uC i7 (dU (pv 0) rfl) (bh (g4 (E:=λ_ _ _=>False) UT (hr.mono (by decide)) (by rfl) t.lK.m t.lK.F.kp t.lK.b .nil pS (bh (g4 (E:=λ_ _ _=>False) qU (hr.mono (by decide)) (by rfl) t.qO.m t.qO.F.kp t.qO.b .nil pS (bh (pv 1) bV)) bV)) bV)) rfl)
    (fq (jM (yt kB uB uC i7 (dU (pv 0) rfl) (bh (g4 (E:=λ_ _ _=>False) UT (hr.mono (by decide)) (by rfl) t.lK.m t.lK.F.kp t.lK.b .nil pS (bh (g4 (E:=λ_ _ _=>False) x5 (hr.mono (by decide)) (by rfl) t.xU.m t.xU.F.kp t.xU.b .nil pS (bh (pv 1) bV)) bV)) bV)) rfl))))) rz)
   (fq (nq (Hf hu (dU (pv 0) rfl) (pv 2) (λ_ _=>rfl))))),?_⟩
  obtain⟨b,vs,rfl,lb,il⟩:=id RN;have ev:=iQ il;subst ev;refine⟨_,rfl,b,_,rfl,.inl ⟨lb.sq,λl hl=>?_⟩⟩;have s1:bK H (upd H l (.tup (p.1.map V.int))):=bR hl _;have c1:=c.same s1;have hkey:(upd H l (.tup (p.1.map V.int))) l=aa (.tup ((kk p.1).map kV)):=by rw[ak9];exact aT
  have Ic:=m9.same s1 (a::A.all);generalize hH1:upd H l (.tup (p.1.map V.int))=H1 at s1 c1 hkey Ic;refine⟨_,rfl,_,rfl,a,C,A.dx,_,_,rfl,c1.ob,T.cl,T.nu,OH,A.nu,_,rfl,uw.t c1.Ff hkey,_,rfl,?_⟩
  by_cases hm:∃q∈kn,q.1=p.1
  ·obtain⟨q,hq,eq⟩:=hm
   have hqp:q=p:=mE (c.rw q hq) iv eq;subst hqp;obtain⟨i,hi,ei⟩:=xF hq;have DB:kn[i]?=aa q:=by rw[bj hi,ei]
   have hv:=c.n1 i q DB;rw[hv];refine AR ?_;refine⟨_,rfl,a,C,A.dx,_,_,rfl,c1.ob,T.cl,T.nu,OH,_,rfl,A.nu,.int i,rfl,?_,?_⟩
   ·have:=uw.t (k:=kk q.1) c1.Ff hkey
    rw[hv]at this;exact this
   ·exact k i H1 A [] nu (by rw[bE];exact c1.more (by lia)) (by rw[bE];exact DB) Ic rfl
  ·have hv:g9 nu (kk p.1)=none:=c.n2 p.1 λq hq e=>hm ⟨q,hq,e⟩
   rw[hv];refine B9 ?_;have hz:=c.z;obtain⟨n1,n2,n3,n4,n5,n6,m1,m2,m3,m4,m5,m6,ksn,d1,d2,d3,d4,d5,d6,d7,d8,d9,ksd⟩:=c.nes;have big:∀{x:Nat},x<=1000001->x<aI:=λh=>zk h (by decide);have Zo:∀x∈A.hd,x∈a::A.all:=λx hx=>bz _ (jK _ hx);refine⟨_,rfl,a,C,A.dx,_,_,rfl,c1.ob,T.cl,T.kn,F9,A.kn,_,rfl,.inl (gb.of c1.hkn),_,rfl,a,C,A.dx,_,_,rfl,c1.ob,T.cl,T.nu,OH,_,rfl,A.nu,_,rfl,Ji.t c1.Ff hkey (big (by lia)),?_⟩;rw[aB,c.Ka];have k1n:A.kn≠A.nu:=dZ c.hkn c.Ff (by intro z;cases z);have fin:A.fi≠A.nu:=dZ c.ER c.Ff (by intro z;cases z);have lan:A.la≠A.nu:=dZ c.hla c.Ff (by intro z;cases z);have an:a≠A.nu:=dZ c.ob c.Ff (by intro z;cases z);have akn:a≠A.kn:=dZ c.ob c.hkn (by intro z;cases z);have afi:a≠A.fi:=dZ c.ob c.ER (by intro z;cases z);have ala:a≠A.la:=dZ c.ob c.hla (by intro z;cases z);have ln1:l≠A.nu:=λz=>by rw[z,c.Ff]at hl;cases hl
   generalize hH2:upd H1 A.nu (.dT (putK nu (kk p.1) (.int (kn.length:Int))))=H2;have ob2:H2 a=aa (.ins C A.dx (Cc A++ex)):=by rw[<-hH2,aH an];exact c1.ob
   have kn2:H2 A.kn=aa (.lst (A.ks.map V.ref)):=by rw[<-hH2,aH k1n];exact c1.hkn
   have Mc:m9 H H2 (a::A.all) (a::A.all):=Ic.trans (by rw[<-hH2];exact m9.upd (Zo _ (by simp[Ad.hd])) _);have lb2:Ca K (λ_=>True) H2 b (p.1.map V.int):=lb.ext ⟨λ_ _ _ _=>trivial,λx o px hx=>Mc.kp x o px hx⟩;refine⟨_,rfl,a,C,A.dx,_,_,rfl,ob2,T.cl,T.kn,F9,.inl ⟨rfl,_,gb.of kn2⟩,_,rfl,b,_,rfl,.inl lb2.sq,λl2 hl2=>?_⟩;have l2H:H l2=none:=Mc.gr l2 hl2;have l2k:A.kn≠l2:=λz=>by rw[<-z,kn2]at hl2;cases hl2
   refine⟨A.kn,A.ks.map V.ref,.ref l2,rfl,rfl,by rw[aH l2k];exact kn2,by rw[aB,c.Ka];exact big (by lia),?_⟩;generalize Wg:upd (upd H2 l2 (.lst (p.1.map V.int))) A.kn (.lst (A.ks.map V.ref++[.ref l2]))=H3;have AK:m9 H H3 (a::A.all) (a::A.all):=by
    rw[<-Wg];exact(Mc.trans (m9.same (bR hl2 _) _)).trans (m9.upd (Zo _ (by simp[Ad.hd])) _)
   have ob3:H3 a=aa (.ins C A.dx (Cc A++ex)):=by rw[<-Wg,aH akn];exact bR hl2 _ _ _ ob2
   have fi3:H3 A.fi=aa (.lst (kn.map λp=>V.int (Cd p.2))):=by
    rw[<-Wg,aH (Ne.symm n1)];refine bR hl2 _ _ _ ?_;rw[<-hH2,aH fin];exact c1.ER
   have lb3:Ca K (λ_=>True) H3 b (p.1.map V.int):=lb.ext ⟨λ_ _ _ _=>trivial,λx o px hx=>AK.kp x o px hx⟩;refine⟨_,rfl,a,C,A.dx,_,_,rfl,ob3,T.cl,T.fi,Uq,.inl ⟨rfl,_,gb.of fi3⟩,_,rfl,_,[.lst (aW p.1)],⟨.ref b,[],rfl,⟨b,_,rfl,lb3,eU p.1⟩,rfl⟩,?_⟩;have hd7:∀(m:Nat)(x y:List Int),m<=7->Iv m x y->∀k∈zW y,1<=k/\k<=7:=λm x y hm h k hk=>by
    obtain⟨a',e,h1,_⟩:=rM.mp hk;rw[h.ls]at h1;lia
   rw[Bc iv hn];intro q ws H4 s4 hq4 hw4 iw4;have ew:=iQ iw4;subst ew;refine⟨λ_=>True,[.lst (aW (zW p.2))],⟨.ref q,[],rfl,⟨q,_,rfl,.inl ⟨trivial,.inl hw4⟩,eU _⟩,rfl⟩,?_⟩;rw[abD _ (hd7 n p.1 p.2 hn iv)];intro v5 H5 s5 i5;have e5:v5=.int (LY (zW p.2)):=i5;subst e5;have Zp:=s4.trans s5;refine⟨A.fi,_,.int (Cd p.2),rfl,rfl,Zp _ _ fi3,by rw[aB];exact big (by lia),?_⟩;generalize Wh:upd H5 A.fi (.lst ((kn.map λp=>V.int (Cd p.2))++[V.int (Cd p.2)]))=H6;have fr6:m9 H H6 (a::A.all) (a::A.all):=by
    rw[<-Wh];exact(AK.trans (m9.same Zp _)).trans (m9.upd (Zo _ (by simp[Ad.hd])) _)
   have ob6:H6 a=aa (.ins C A.dx (Cc A++ex)):=by rw[<-Wh,aH afi];exact Zp _ _ ob3
   have la6:H6 A.la=aa (.lst (kn.map λp=>V.int (Cd p.1))):=by
    rw[<-Wh,aH (Ne.symm n4)];refine Zp _ _ ?_;rw[<-Wg,aH (Ne.symm n2)];refine bR hl2 _ _ _ ?_;rw[<-hH2,aH lan];exact c1.hla
   have lb6:Ca K (λ_=>True) H6 b (p.1.map V.int):=lb.ext ⟨λ_ _ _ _=>trivial,λx o px hx=>fr6.kp x o px hx⟩;refine⟨_,rfl,a,C,A.dx,_,_,rfl,ob6,T.cl,T.la,Ur,.inl ⟨rfl,_,gb.of la6⟩,_,rfl,_,[.lst (aW p.1)],⟨.ref b,[],rfl,⟨b,_,rfl,lb6,eU p.1⟩,rfl⟩,?_⟩;rw[J2 p.1 (by rw[iv.lr];exact hn)];intro q7 ws7 H7 s7 hq7 hw7 iw7;have ew7:=iQ iw7;subst ew7;refine⟨λ_=>True,[.lst (aW (zW p.1))],⟨.ref q7,[],rfl,⟨q7,_,rfl,.inl ⟨trivial,.inl hw7⟩,eU _⟩,rfl⟩,?_⟩;rw[abD _ (hd7 n p.2 p.1 hn iv.symm)];intro v8 H8 s8 i8;have e8:v8=.int (LY (zW p.1)):=i8;subst e8;have s68:=s7.trans s8;refine⟨A.la,_,.int (Cd p.1),rfl,rfl,s68 _ _ la6,by rw[aB];exact big (by lia),?_⟩;generalize hH9:upd H8 A.la (.lst ((kn.map λp=>V.int (Cd p.1))++[V.int (Cd p.1)]))=H9;have fr9:m9 H H9 (a::A.all) (a::A.all):=by
    rw[<-hH9];exact(fr6.trans (m9.same s68 _)).trans (m9.upd (Zo _ (by simp[Ad.hd])) _)
   have keep:∀x o,x≠A.nu->x≠A.kn->x≠A.fi->x≠A.la->H x=aa o->H9 x=aa o:=λx o x1 x2 x3 x4 hx=>by
    rw[<-hH9,aH x4];refine s68 _ _ ?_;rw[<-Wh,aH x3];refine Zp _ _ ?_;rw[<-Wg,aH x2];refine bR hl2 _ _ _ ?_;rw[<-hH2,aH x1];exact s1 _ _ hx
   have ob9:H9 a=aa (.ins C A.dx (Cc A++ex)):=keep a _ an akn afi ala c.ob;have nu9:H9 A.nu=aa (.dT (putK nu (kk p.1) (.int (kn.length:Int)))):=by
    rw[<-hH9,aH (Ne.symm lan)];refine s68 _ _ ?_;rw[<-Wh,aH (Ne.symm fin)];refine Zp _ _ ?_;rw[<-Wg,aH (Ne.symm k1n)];refine bR hl2 _ _ _ ?_;rw[<-hH2];exact aT
   have amR:H9 l=aa (.tup ((kk p.1).map kV)):=by
    have lk:∀{x:ae}{o:HO},H x=aa o->l≠x:=λhx z=>by rw[z,hx]at hl;cases hl
    rw[<-hH9,aH (lk c.hla)];refine s68 _ _ ?_;rw[<-Wh,aH (lk c.ER)];refine Zp _ _ ?_;rw[<-Wg,aH (lk c.hkn)];refine bR hl2 _ _ _ ?_;rw[<-hH2,aH (lk c.Ff)];exact hkey
   have l29:H9 l2=aa (.lst (p.1.map V.int)):=by
    have lk:∀{x:ae}{o:HO},H x=aa o->l2≠x:=λhx z=>by rw[z,hx]at l2H;cases l2H
    rw[<-hH9,aH (lk c.hla)];refine s68 _ _ ?_;rw[<-Wh,aH (lk c.ER)];refine Zp _ _ ?_;rw[<-Wg,aH (lk c.hkn)];exact aT
   have kn9:H9 A.kn=aa (.lst (A.ks.map V.ref++[.ref l2])):=by
    rw[<-hH9,aH n2];refine s68 _ _ ?_;rw[<-Wh,aH n1];refine Zp _ _ ?_;rw[<-Wg];exact aT
   have fi9:H9 A.fi=aa (.lst ((kn.map λp=>V.int (Cd p.2))++[V.int (Cd p.2)])):=by
    rw[<-hH9,aH n4];refine s68 _ _ ?_;rw[<-Wh];exact aT
   have la9:H9 A.la=aa (.lst ((kn.map λp=>V.int (Cd p.1))++[V.int (Cd p.1)])):=by
    rw[<-hH9];exact aT
   have Fg:∀j,g9 (putK nu (kk p.1) (.int (kn.length:Int))) j=if j=kk p.1 then aa (.int (kn.length:Int))else g9 nu j:=λj=>qB nu (kk p.1) j _;have c9:=c.add hm iv l2H ob9 nu9 kn9 fi9 la9 l29 keep;refine⟨_,rfl,a,C,A.dx,_,_,rfl,ob9,T.cl,T.nu,OH,_,rfl,A.nu,.int (kn.length:Int),rfl,?_,?_⟩
   ·have:=uw.t (k:=kk p.1) nu9 amR
    rw[Fg,if_pos rfl]at this;exact this
   ·refine k kn.length H9 _ [p] _ c9 (by simp) ⟨fr9.kp,λx hx=>?_,fr9.gr⟩ rfl
    have yV:x∈a::(A.hd++(A.ks++[l2])):=hx;rw[<-bQ,<-gF]at yV;rcases cu.mp yV with h|h
    ·exact .inl h
    ·have:x=l2:=by simpa using h
     rw[this];exact .inr l2H
end
end DL.wH
namespace DL.wH
open PySem PySem.Spec PyProof.Rows L2 DL
abbrev UU:aC:=inClass (top 21) 2
inductive UW (C:ae) (vs:List V) (H:Hp) (Q:VK):Prop
 |mk (a:ae) (A:Ad) (z w:Int) (n:Nat) (kn:List RP) (ln:List Int) (B:Nat) (nu sh lo ke:List (List Key×V)) (p:RP) (i j:Nat):(vs=[.ref a,.int i,.int ((j:Int)+1)])->(m8 C H a A (BZ z w) n kn ln B nu sh lo ke)->(n<=7)->(B+1<1000000)->(kn[i]?=aa p)->(j+1<n)->(∀(i':Nat)(H':Hp)(A':Ad)(mo:List RP)(Mb sh':List (List Key×V)),m8 C H' a A' (BZ z w) n (kn++mo) ln (B+2) Mb sh' lo ke->(kn++mo)[i']?=aa (yQ p j)->m9 H H' (a::A.all) (a::A'.all)->A'.li=A.li->Q (.int i') H')->UW C vs H Q
def abH(C:ae):Sp:=λvs H Q _=>UW C vs H Q
section
variable{P:aU}{w:aF}{K:ak}{mg:Str->Option ah}{base:aD}
def sc2:bp ["self","number","k","step"] ["self","number","k"] (az UU):=⟨rfl,rfl,rfl,by decide +kernel,rfl,by decide +kernel,by decide +kernel⟩
def ahD{f C fN:ae}{fd UX:aL}(F:Jf K "without_first" "Comb.without_first" UU f fd)(T:Wf K mg C)(t:Tb K mg)
  (mN:Meth K C "number_of" fN)(bN:Binds K UX ["self","row"] [])(GN:fM P w K mg base qv 3 fN UX ["self","row"] (Ko K C))
  (G_x:p9 P w K mg base 2 t.eB t.eI ["row","k"] dD):fM P w K mg base qv 4 f fd ["self","number","k"] (abH C):=by
 refine F.ok sc2 (λvs H Q E h=>?_) (λcdv A outer s H vs Q E hr h=>?_)
 ·obtain⟨a,A,z,w,n,kn,ln,B,nu,sh,lo,ke,p,i,j,rfl,_⟩:=h
  rfl
 ·obtain⟨a,A,z,w,n,kn,ln,B,nu,sh,lo,ke,p,i,j,rfl,c,hn,hB,hi,hj,k⟩:=h
  have hu:=zj hr;refine⟨_,bF (gS (i:=3) sc2.nd rfl (aR rfl) (vU (bh (pv 1) (bh (pv 2) bV))))
   (bF (BJ (Le (AU hu (pv 3) (dU (pv 0) rfl)))
    (fq (CD hu (dU (pv 0) rfl) (pv 3) (nR (pv 0) T.cl mN GN (hr.mono (by decide)) bN .nil vB (bh (g4 (E:=λ_ _ _=>False) G_x (hr.mono (by decide)) (by rfl) t.dE.m t.dE.F.kp t.dE.b .nil pS (bh (j7 iN (dU (pv 0) rfl) (pv 1) (λ_ _=>rfl)) (bh (pv 2) bV))) bV)) rfl)) rz)
   (fq (nq (Hf hu (dU (pv 0) rfl) (pv 3) (λ_ _=>rfl))))),?_⟩
  refine⟨_,rfl,_,rfl,(by show 2<=aI;decide),λl hl=>?_⟩;have s1:bK H (upd H l (.tup [.int i,.int ((j:Int)+1)])):=bR hl _;have c1:=c.same s1;have hkey:(upd H l (.tup [.int i,.int ((j:Int)+1)])) l=aa (.tup (([.inl (i:Int),.inl ((j:Int)+1)]:List Key).map kV)):=aT;have Ic:=m9.same s1 (a::A.all);have hlF:l∉a::A.all:=λhx=>by
   obtain⟨o,ho⟩:=c.there hx;rw[hl]at ho;cases ho
  generalize hH1:upd H l (.tup [.int i,.int ((j:Int)+1)])=H1 at s1 c1 hkey Ic;refine⟨_,rfl,_,rfl,a,C,A.dx,_,_,rfl,c1.ob,T.cl,T.sh,OI,A.sh,_,rfl,uw.t c1.hsh hkey,_,rfl,?_⟩;have ej:((j:Int)+1-1).toNat=j:=by lia
  cases hv:g9 sh ([.inl (i:Int),.inl ((j:Int)+1)]:List Key)with
  |some v=>
   refine AR ?_;obtain⟨j',p',h1,h2,rfl⟩:=c.s1 i ((j:Int)+1) v hv;rw[hi]at h1;cases h1;rw[ej]at h2;refine⟨_,rfl,a,C,A.dx,_,_,rfl,c1.ob,T.cl,T.sh,OI,_,rfl,A.sh,.int j',rfl,?_,?_⟩
   ·have:=uw.t (k:=[.inl (i:Int),.inl ((j:Int)+1)]) c1.hsh hkey
    rw[hv]at this;exact this
   ·exact k j' H1 A [] nu sh (by rw[bE];exact c1.more (by lia)) (by rw[bE];exact h2) Ic rfl
  |none=>
   refine B9 ?_;have iv:=c.rw p (dJ hi);have hil:i<A.ks.length:=by rw[c.Ka];exact(bG.mp hi).1
   have hb1:=c1.hks i A.ks[i] p (bj hil) hi;refine⟨_,rfl,a,A.dx,_,rfl,c1.ob,rfl,_,rfl,a,C,A.dx,_,_,rfl,c1.ob,T.cl,T.kn,F9,_,rfl,A.kn,A.ks.map V.ref,i,.ref A.ks[i],rfl,rfl,gb.of c1.hkn,l9 (by rw[b8,bj hil];rfl),_,rfl,λ_=>True,[.lst (aW p.1),.int ((j:Int)+1)],⟨_,_,rfl,⟨_,_,rfl,.inl ⟨trivial,.inl hb1⟩,eU _⟩,⟨_,_,rfl,rfl,rfl⟩⟩,?_⟩;rw[J3 iv hn hj];intro q ws H2 s2 hq2 hw2 Zj;have ew:=iQ Zj;subst ew;have c2:=c1.same s2;have hqF:q∉a::A.all:=λhx=>by
    obtain⟨o,ho⟩:=c1.there hx;rw[hq2]at ho;cases ho
   refine⟨a,A,BZ z w,n,kn,ln,B,nu,sh,lo,ke,yQ p j,.ref q,rfl,c2,hn,by lia,iv.step hj,⟨q,_,rfl,.inl ⟨hqF,.inl hw2⟩,eU _⟩,λi' H3 A' mo Mb c3 hi3 AK eli=>?_⟩;have Ar:H3 l=aa (.tup (([.inl (i:Int),.inl ((j:Int)+1)]:List Key).map kV)):=AK.kp l _ hlF (s2 _ _ hkey);have hz:=c3.z;refine⟨_,rfl,a,C,A'.dx,_,_,rfl,c3.ob,T.cl,T.sh,OI,_,rfl,A'.sh,_,rfl,Ji.t c3.hsh Ar (zk (show sh.length<=1000001 by lia) (by decide)),?_⟩;have DB:(kn++mo)[i]?=aa p:=fz hi;have c4:=c3.aeg (i:=i) (j:=i') (k:=(j:Int)+1) DB (by rw[ej];exact hi3);have hl4:A'.sh≠l:=λzz=>by rw[<-zz,c3.hsh]at Ar;cases Ar
   refine⟨_,rfl,a,C,A'.dx,_,_,rfl,c4.ob,T.cl,T.sh,OI,_,rfl,A'.sh,.int i',rfl,?_,?_⟩
   ·have hk4:(upd H3 A'.sh (.dT (putK sh [.inl (i:Int),.inl ((j:Int)+1)] (.int i')))) l=aa (.tup (([.inl (i:Int),.inl ((j:Int)+1)]:List Key).map kV)):=by rw[aH (Ne.symm hl4)];exact Ar
    have:=uw.t (k:=[.inl (i:Int),.inl ((j:Int)+1)]) c4.hsh hk4;rw[qB,if_pos rfl]at this;exact this
   ·refine k i' _ A' mo Mb _ c4 hi3 ?_ eli
    exact((Ic.trans (m9.same s2 _)).trans AK).trans (m9.upd (bz _ (jK _ (by simp[Ad.hd]))) _)
end
abbrev UY:aC:=inClass (top 21) 3
inductive UZ (C:ae) (vs:List V) (H:Hp) (Q:VK):Prop
 |mk (a:ae) (A:Ad) (z w:Int) (n:Nat) (kn:List RP) (ln:List Int) (B:Nat) (nu sh lo ke:List (List Key×V)) (p:RP) (i j:Nat):(vs=[.ref a,.int i,.int ((j:Int)+1)])->(m8 C H a A (BZ z w) n kn ln B nu sh lo ke)->(n<=7)->(B+1<1000000)->(kn[i]?=aa p)->(j+1<n)->(∀(i':Nat)(H':Hp)(A':Ad)(mo:List RP)(Mb lo':List (List Key×V)),m8 C H' a A' (BZ z w) n (kn++mo) ln (B+2) Mb sh lo' ke->(kn++mo)[i']?=aa (vO p j)->m9 H H' (a::A.all) (a::A'.all)->A'.li=A.li->Q (.int i') H')->UZ C vs H Q
def abJ(C:ae):Sp:=λvs H Q _=>UZ C vs H Q
section
variable{P:aU}{w:aF}{K:ak}{mg:Str->Option ah}{base:aD}
def sc3:bp ["self","number","k","step"] ["self","number","k"] (az UY):=⟨rfl,rfl,rfl,by decide +kernel,rfl,by decide +kernel,by decide +kernel⟩
def ahG{f C fN:ae}{fd UX:aL}(F:Jf K "with_last" "Comb.with_last" UY f fd)(T:Wf K mg C)(t:Tb K mg)
  (mN:Meth K C "number_of" fN)(bN:Binds K UX ["self","row"] [])(GN:fM P w K mg base qv 3 fN UX ["self","row"] (Ko K C))
  (G_x:p9 P w K mg base 1 t.dq t.du ["row","k"] cD):fM P w K mg base qv 4 f fd ["self","number","k"] (abJ C):=by
 refine F.ok sc3 (λvs H Q E h=>?_) (λcdv A outer s H vs Q E hr h=>?_)
 ·obtain⟨a,A,z,w,n,kn,ln,B,nu,sh,lo,ke,p,i,j,rfl,_⟩:=h
  rfl
 ·obtain⟨a,A,z,w,n,kn,ln,B,nu,sh,lo,ke,p,i,j,rfl,c,hn,hB,hi,hj,k⟩:=h
  have hu:=zj hr;refine⟨_,bF (gS (i:=3) sc3.nd rfl (aR rfl) (vU (bh (pv 1) (bh (pv 2) bV))))
   (bF (BJ (Le (AU hu (pv 3) (dU (pv 0) rfl)))
    (fq (CD hu (dU (pv 0) rfl) (pv 3) (nR (pv 0) T.cl mN GN (hr.mono (by decide)) bN .nil vB (bh (g4 (E:=λ_ _ _=>False) G_x (hr.mono (by decide)) (by rfl) t.cS.m t.cS.F.kp t.cS.b .nil pS (bh (j7 iN (dU (pv 0) rfl) (pv 1) (λ_ _=>rfl)) (bh (pv 2) bV))) bV)) rfl)) rz)
   (fq (nq (Hf hu (dU (pv 0) rfl) (pv 3) (λ_ _=>rfl))))),?_⟩
  refine⟨_,rfl,_,rfl,(by show 2<=aI;decide),λl hl=>?_⟩;have s1:bK H (upd H l (.tup [.int i,.int ((j:Int)+1)])):=bR hl _;have c1:=c.same s1;have hkey:(upd H l (.tup [.int i,.int ((j:Int)+1)])) l=aa (.tup (([.inl (i:Int),.inl ((j:Int)+1)]:List Key).map kV)):=aT;have Ic:=m9.same s1 (a::A.all);have hlF:l∉a::A.all:=λhx=>by
   obtain⟨o,ho⟩:=c.there hx;rw[hl]at ho;cases ho
  generalize hH1:upd H l (.tup [.int i,.int ((j:Int)+1)])=H1 at s1 c1 hkey Ic;refine⟨_,rfl,_,rfl,a,C,A.dx,_,_,rfl,c1.ob,T.cl,T.lo,OJ,A.lo,_,rfl,uw.t c1.hlo hkey,_,rfl,?_⟩;have ej:((j:Int)+1-1).toNat=j:=by lia
  cases hv:g9 lo ([.inl (i:Int),.inl ((j:Int)+1)]:List Key)with
  |some v=>
   refine AR ?_;obtain⟨j',p',h1,h2,rfl⟩:=c.l1 i ((j:Int)+1) v hv;rw[hi]at h1;cases h1;rw[ej]at h2;refine⟨_,rfl,a,C,A.dx,_,_,rfl,c1.ob,T.cl,T.lo,OJ,_,rfl,A.lo,.int j',rfl,?_,?_⟩
   ·have:=uw.t (k:=[.inl (i:Int),.inl ((j:Int)+1)]) c1.hlo hkey
    rw[hv]at this;exact this
   ·exact k j' H1 A [] nu lo (by rw[bE];exact c1.more (by lia)) (by rw[bE];exact h2) Ic rfl
  |none=>
   refine B9 ?_;have iv:=c.rw p (dJ hi);have hil:i<A.ks.length:=by rw[c.Ka];exact(bG.mp hi).1
   have hb1:=c1.hks i A.ks[i] p (bj hil) hi;refine⟨_,rfl,a,A.dx,_,rfl,c1.ob,rfl,_,rfl,a,C,A.dx,_,_,rfl,c1.ob,T.cl,T.kn,F9,_,rfl,A.kn,A.ks.map V.ref,i,.ref A.ks[i],rfl,rfl,gb.of c1.hkn,l9 (by rw[b8,bj hil];rfl),_,rfl,λ_=>True,[.lst (aW p.1),.int ((j:Int)+1)],⟨_,_,rfl,⟨_,_,rfl,.inl ⟨trivial,.inl hb1⟩,eU _⟩,⟨_,_,rfl,rfl,rfl⟩⟩,?_⟩;rw[Bd (by rw[iv.lr];exact hn) (by rw[iv.lr];exact hj)];intro q ws H2 s2 hq2 hw2 Zj;have ew:=iQ Zj;subst ew;have c2:=c1.same s2;have hqF:q∉a::A.all:=λhx=>by
    obtain⟨o,ho⟩:=c1.there hx;rw[hq2]at ho;cases ho
   refine⟨a,A,BZ z w,n,kn,ln,B,nu,sh,lo,ke,vO p j,.ref q,rfl,c2,hn,by lia,(iv.symm.step hj).symm,⟨q,_,rfl,.inl ⟨hqF,.inl hw2⟩,eU _⟩,λi' H3 A' mo Mb c3 hi3 AK eli=>?_⟩;have Ar:H3 l=aa (.tup (([.inl (i:Int),.inl ((j:Int)+1)]:List Key).map kV)):=AK.kp l _ hlF (s2 _ _ hkey);have hz:=c3.z;refine⟨_,rfl,a,C,A'.dx,_,_,rfl,c3.ob,T.cl,T.lo,OJ,_,rfl,A'.lo,_,rfl,Ji.t c3.hlo Ar (zk (show lo.length<=1000001 by lia) (by decide)),?_⟩;have DB:(kn++mo)[i]?=aa p:=fz hi;have c4:=c3.aeh (i:=i) (j:=i') (k:=(j:Int)+1) DB (by rw[ej];exact hi3);have hl4:A'.lo≠l:=λzz=>by rw[<-zz,c3.hlo]at Ar;cases Ar
   refine⟨_,rfl,a,C,A'.dx,_,_,rfl,c4.ob,T.cl,T.lo,OJ,_,rfl,A'.lo,.int i',rfl,?_,?_⟩
   ·have hk4:(upd H3 A'.lo (.dT (putK lo [.inl (i:Int),.inl ((j:Int)+1)] (.int i')))) l=aa (.tup (([.inl (i:Int),.inl ((j:Int)+1)]:List Key).map kV)):=by rw[aH (Ne.symm hl4)];exact Ar
    have:=uw.t (k:=[.inl (i:Int),.inl ((j:Int)+1)]) c4.hlo hk4;rw[qB,if_pos rfl]at this;exact this
   ·refine k i' _ A' mo Mb _ c4 hi3 ?_ eli
    exact((Ic.trans (m9.same s2 _)).trans AK).trans (m9.upd (bz _ (jK _ (by simp[Ad.hd]))) _)
end
end DL.wH
namespace DL.wH
open PySem PySem.Spec PyProof.Rows L2 DL
abbrev U0:aC:=inClass (top 21) 4
inductive U1 (C:ae) (vs:List V) (H:Hp) (Q:VK):Prop
 |mk (a:ae) (A:Ad) (z w:Int) (n:Nat) (kn:List RP) (ln:List Int) (B:Nat) (nu sh lo ke:List (List Key×V)) (p q:RP) (i j:Nat):(vs=[.ref a,.int i,.int j])->(m8 C H a A (BZ z w) n kn ln B nu sh lo ke)->(n<=7)->(B+300<1000000)->(kn[i]?=aa p)->(kn[j]?=aa q)->(∀(t:ae)(i' j':Nat)(H':Hp)(A':Ad)(mo:List RP)(Mb sh' lo':List (List Key×V)),m8 C H' a A' (BZ z w) n (kn++mo) ln (B+200) Mb sh' lo' ke->(kn++mo)[i']?=aa (gx 50 p q).1->(kn++mo)[j']?=aa (gx 50 p q).2->H t=none->H' t=aa (.tup [.int i',.int j'])->m9 H H' (a::A.all) (a::A'.all)->A'.li=A.li->Q (.ref t) H')->U1 C vs H Q
def abK(C:ae):Sp:=λvs H Q _=>U1 C vs H Q
section
variable{P:aU}{w:aF}{K:ak}{mg:Str->Option ah}{base:aD}
def sc4:bp ["self","one","other","free","k"] ["self","one","other"] (az U0):=⟨rfl,rfl,rfl,by decide +kernel,rfl,by decide +kernel,by decide +kernel⟩
def ahH{f C fS fL:ae}{fd fdS fdL:aL}(F:Jf K "slide" "Comb.slide" U0 f fd)(T:Wf K mg C)
  (mS:Meth K C "without_first" fS)(bS:Binds K fdS ["self","number","k"] [])(GS:fM P w K mg base qv 4 fS fdS ["self","number","k"] (abH C))
  (mL:Meth K C "with_last" fL)(bL:Binds K fdL ["self","number","k"] [])(GL:fM P w K mg base qv 4 fL fdL ["self","number","k"] (abJ C)):fM P w K mg base qv 5 f fd ["self","one","other"] (abK C):=by
 refine F.ok sc4 (λvs H Q E h=>?_) (λcdv A outer s H vs Q E hr h=>?_)
 ·obtain⟨a,A,z,w,n,kn,ln,B,nu,sh,lo,ke,p,q,i,j,rfl,_⟩:=h
  rfl
 ·obtain⟨a,A,z,w,n,kn,ln,B,nu,sh,lo,ke,p,q,i,j,rfl,c,hn,hB,hi,hj,k⟩:=h
  have hu:=zj hr;refine⟨_,bF (gS (i:=3) sc4.nd rfl (aR rfl) (yr Sg (j7 iN (dU (pv 0) rfl) (pv 2) (λ_ _=>rfl)) (MV Sh (j7 iN (dU (pv 0) rfl) (pv 1) (λ_ _=>rfl)))))
   (bF (y0 gO (pZ oQ (pv 3) lR (bJ _))
    (bF (gS (i:=4) sc4.nd rfl (aR rfl) (Hb PySem.F.plainAttrs_int PySem.F.slot_int_bit_length PySem.F.type_int_bit_length Y2 (pv 3)))
    (bF (gS (i:=1) sc4.nd rfl (aR rfl) (nR (pv 0) T.cl mL GL (hr.mono (by decide)) bL .nil vB (bh (pv 1) (bh (pv 4) bV))))
    (bF (gS (i:=2) sc4.nd rfl (aR rfl) (nR (pv 0) T.cl mS GS (hr.mono (by decide)) bS .nil vB (bh (pv 2) (bh (pv 4) bV))))
    (fq (gS (i:=3) sc4.nd rfl (aR rfl) (yr Sg (j7 iN (dU (pv 0) rfl) (pv 2) (λ_ _=>rfl)) (MV Sh (j7 iN (dU (pv 0) rfl) (pv 1) (λ_ _=>rfl))))))))))
   (fq (nq (vU (bh (pv 1) (bh (pv 2) bV)))))),?_⟩
  have rdB:∀{H2:Hp}{A2:Ad}{kn2:List RP}{B2:Nat}{Dg Ek lo2:List (List Key×V)}{i2:Nat}{p2:RP},m8 C H2 a A2 (BZ z w) n kn2 ln B2 Dg Ek lo2 ke->kn2[i2]?=aa p2->jJ (kn2.map λp=>V.int (Cd p.2)) (i2:Int)=aa (.int (Cd p2.2))/\jJ (kn2.map λp=>V.int (Cd p.1)) (i2:Int)=aa (.int (Cd p2.1)):=λc2 h2=>
   ⟨l9 (by rw[b8,h2];rfl),l9 (by rw[b8,h2];rfl)⟩
  have l7:∀{x:RP},Iv n x.1 x.2->x.1.length<=7/\x.2.length<=7:=λh=>⟨by rw[h.lr];exact hn,by rw[h.ls];exact hn⟩
  have ivp:=c.rw p (dJ hi);have ivq:=c.rw q (dJ hj);refine⟨_,rfl,a,C,A.dx,_,_,rfl,c.ob,T.cl,T.fi,Uq,_,rfl,A.fi,_,j,_,rfl,rfl,gb.of c.ER,(rdB c hj).1,_,rfl,a,C,A.dx,_,_,rfl,c.ob,T.cl,T.la,Ur,_,rfl,A.la,_,i,_,rfl,rfl,gb.of c.hla,(rdB c hi).2,_,rfl,_,_,rfl,rfl,?_⟩;dsimp only;rw[OO (l7 ivp).1 (l7 ivq).2];refine⟨λm σ H2=>∃(A2:Ad)(mo:List RP)(Dg Ek lo2:List (List Key×V))(i2 j2:Nat)(p2 q2:RP)(s:Nat)(kv:Option V),σ=[aa (.ref a),aa (.int i2),aa (.int j2),aa (.int (LY (pI p2 q2))),kv]/\m8 C H2 a A2 (BZ z w) n (kn++mo) ln (B+4*s) Dg Ek lo2 ke/\
    (kn++mo)[i2]?=aa p2/\(kn++mo)[j2]?=aa q2/\gx (50-s) p2 q2=gx 50 p q/\s<=kG p2.1/\m=50-s/\m9 H H2 (a::A.all) (a::A2.all)/\A2.li=A.li,⟨50,A,[],nu,sh,lo,i,j,p,q,0,none,rfl,by rw[bE];exact c,by rw[bE];exact hi,by rw[bE];exact hj,rfl,iJ _,rfl,m9.refl _ _,rfl⟩,?_⟩
  rintro m σ H2 ⟨A2,mo,Dg,Ek,lo2,i2,j2,p2,q2,s,kv,rfl,c2,hi2,Zq,hs,hsc,hm,Mc,el2⟩;have RM:=c2.rw p2 (dJ hi2);have RN:=c2.rw q2 (dJ Zq);have arP:=Be hn RM;refine⟨_,rfl,_,_,rfl,rfl,_,rfl,?_⟩;dsimp only;rw[Uu (l7 RM).1 (l7 RN).2];cases hl:(pI p2 q2).getLast? with
  |none=>
   refine AR ?_;rw[tQ _ hl]at hs;refine⟨_,rfl,_,rfl,(by show 2<=aI;decide),λt ht=>?_⟩;have st:=bR ht (.tup [V.int i2,V.int j2]);refine k t i2 j2 _ A2 mo Dg Ek lo2 ((c2.same st).more (by lia)) (by rw[<-hs];exact hi2) (by rw[<-hs];exact Zq) (Mc.gr t ht) aT (Mc.trans (m9.same st _)) el2
  |some kk'=>
   refine B9 ?_;obtain⟨j',rfl,LU,hlt,_⟩:=uQ RM RN (z6 hl);have hup:=Uw RM LU hlt;have ivu:=jd RM LU;have arQ:=Be hn ivu;have hsl:gx (50-(s+1)) (vO p2 j') (yQ q2 j')=gx 50 p q:=by
    rw[<-hs,show 50-s=(50-(s+1))+1 by lia,tP _ hl,show((j':Int)+1-1).toNat=j' by lia]
   refine⟨λσ' H'=>∃m'<m,∃(A2:Ad)(mo:List RP)(Dg Ek lo2:List (List Key×V))(i2 j2:Nat)(p2 q2:RP)(s:Nat)(kv:Option V),σ'=[aa (.ref a),aa (.int i2),aa (.int j2),aa (.int (LY (pI p2 q2))),kv]/\m8 C H' a A2 (BZ z w) n (kn++mo) ln (B+4*s) Dg Ek lo2 ke/\
    (kn++mo)[i2]?=aa p2/\(kn++mo)[j2]?=aa q2/\gx (50-s) p2 q2=gx 50 p q/\s<=kG p2.1/\m'=50-s/\m9 H H' (a::A.all) (a::A2.all)/\A2.li=A.li,λσ' H' h=>h,?_⟩
   refine⟨_,rfl,(by first|exact rfl|exact trivial),_,rfl,rfl,?_⟩;dsimp only;rw[Uv (l7 RM).1 (l7 RN).2 hl];refine⟨_,rfl,a,A2.dx,_,rfl,c2.ob,rfl,_,rfl,_,rfl,a,A2,z,w,n,kn++mo,ln,B+4*s,Dg,Ek,lo2,ke,p2,i2,j',rfl,c2,hn,by lia,hi2,LU,λi3 H3 A3 mo3 nu3 lo3 c3 hi3 AK el3=>?_⟩;have hj3:(kn++mo++mo3)[j2]?=aa q2:=fz Zq;refine⟨_,rfl,a,A3.dx,_,rfl,c3.ob,rfl,_,rfl,_,rfl,a,A3,z,w,n,kn++mo++mo3,ln,B+4*s+2,nu3,Ek,lo3,ke,q2,j2,j',rfl,c3,hn,by lia,hj3,LU,λj4 H4 A4 Ph nu4 sh4 c4 hj4 fr4 el4=>?_⟩;have hi4:(kn++mo++mo3++Ph)[i3]?=aa (vO p2 j'):=fz hi3;refine⟨_,rfl,a,C,A4.dx,_,_,rfl,c4.ob,T.cl,T.fi,Uq,_,rfl,A4.fi,_,j4,_,rfl,rfl,gb.of c4.ER,(rdB c4 hj4).1,_,rfl,a,C,A4.dx,_,_,rfl,c4.ob,T.cl,T.la,Ur,_,rfl,A4.la,_,i3,_,rfl,rfl,gb.of c4.hla,(rdB c4 hi4).2,_,rfl,_,_,rfl,rfl,?_⟩;have iva:=je RN LU;dsimp only;rw[OO (l7 ivu).1 (l7 iva).2];rw[bQ,bQ]at c4 hi4 hj4;refine⟨50-(s+1),by lia,A4,mo++(mo3++Ph),nu4,sh4,lo3,i3,j4,vO p2 j',yQ q2 j',s+1,_,rfl,?_,hi4,hj4,hsl,by lia,rfl,(Mc.trans AK).trans fr4,el4.trans (el3.trans el2)⟩;rw[show B+4*(s+1)=B+4*s+2+2 by lia];exact c4
end
end DL.wH
namespace DL.wH
open PySem PySem.Spec PyProof.Rows L2 DL
abbrev U3:aC:=inClass (top 21) 5
inductive U4 (C:ae) (vs:List V) (H:Hp) (Q:VK):Prop
 |mk (a:ae) (A:Ad) (z w:Int) (n:Nat) (kn:List RP) (ln:List Int) (B:Nat) (nu sh lo ke:List (List Key×V)) (p q:RP) (i j:Nat):(vs=[.ref a,.int i,.int j])->(m8 C H a A (BZ z w) n kn ln B nu sh lo ke)->(n<=7)->(B+400<1000000)->(kn[i]?=aa p)->(kn[j]?=aa q)->(∀(t:ae)(i' j':Nat)(H':Hp)(A':Ad)(mo:List RP)(Mb sh' lo' ke':List (List Key×V)),m8 C H' a A' (BZ z w) n (kn++mo) ln (B+201) Mb sh' lo' ke'->(kn++mo)[i']?=aa (gx 50 p q).1->(kn++mo)[j']?=aa (gx 50 p q).2->H' t=aa (.tup [.int i',.int j'])->m9 H H' (a::A.all) (a::A'.all)->A'.li=A.li->Q (.ref t) H')->U4 C vs H Q
def abM(C:ae):Sp:=λvs H Q _=>U4 C vs H Q
section
variable{P:aU}{w:aF}{K:ak}{mg:Str->Option ah}{base:aD}
def sc5:bp ["self","one","other","pair","found"] ["self","one","other"] (az U3):=⟨rfl,rfl,rfl,by decide +kernel,rfl,by decide +kernel,by decide +kernel⟩
def ahM{f C fS:ae}{fd fdS:aL}(F:Jf K "slide_kept" "Comb.slide_kept" U3 f fd)(T:Wf K mg C)(t:Tb K mg)
  (mS:Meth K C "slide" fS)(bS:Binds K fdS ["self","one","other"] [])(GS:fM P w K mg base qv 5 fS fdS ["self","one","other"] (abK C)):fM P w K mg base qv 6 f fd ["self","one","other"] (abM C):=by
 refine F.ok sc5 (λvs H Q E h=>?_) (λcdv A outer s H vs Q E hr h=>?_)
 ·obtain⟨a,A,z,w,n,kn,ln,B,nu,sh,lo,ke,p,q,i,j,rfl,_⟩:=h
  rfl
 ·obtain⟨a,A,z,w,n,kn,ln,B,nu,sh,lo,ke,p,q,i,j,rfl,c,hn,hB,hi,hj,k⟩:=h
  have hu:=zj hr;refine⟨_,bF (gS (i:=3) sc5.nd rfl (aR rfl) (vU (bh (pv 1) (bh (pv 2) bV))))
   (bF (gS (i:=4) sc5.nd rfl (aR rfl) (SJ hu (dU (pv 0) rfl) (pv 3) ⟨rfl,rfl,rfl,rfl⟩))
   (bF (BJ (pZ acz (pv 4) RZ (bJ _))
    (bF (gS (i:=4) sc5.nd rfl (aR rfl) (nR (pv 0) T.cl mS GS (hr.mono (by decide)) bS .nil vB (bh (pv 1) (bh (pv 2) bV))))
    (fq (BJ (pZ za (oU Q1 (by rfl) T.mle jb (bh (dU (pv 0) rfl) bV)) (WA (by rfl) t.Aq (v:=.int 200000) ⟨_,rfl⟩) (bJ _))
     (fq (CD hu (dU (pv 0) rfl) (pv 3) (pv 4) rfl)) rz))) rz)
   (fq (nq (pv 4))))),?_⟩
  refine⟨_,rfl,_,rfl,(by show 2<=aI;decide),λl hl=>?_⟩;have s1:bK H (upd H l (.tup [.int i,.int j])):=bR hl _;have c1:=c.same s1;have hkey:(upd H l (.tup [.int i,.int j])) l=aa (.tup (([.inl (i:Int),.inl (j:Int)]:List Key).map kV)):=aT;have Ic:=m9.same s1 (a::A.all);have hlF:l∉a::A.all:=λhx=>by
   obtain⟨o,ho⟩:=c.there hx;rw[hl]at ho;cases ho
  generalize hH1:upd H l (.tup [.int i,.int j])=H1 at s1 c1 hkey Ic;refine⟨_,rfl,a,C,A.dx,_,_,rfl,c1.ob,T.cl,T.ke,Us,A.ke,rfl,.inr ⟨_,.inl c1.hke⟩,_,rfl,_,uw.t c1.hke hkey,?_⟩;cases hv:g9 ke ([.inl (i:Int),.inl (j:Int)]:List Key)with
  |some v=>
   obtain⟨t',i',j',p',q',h1,h2,rfl,h4,h5,h6⟩:=c1.k1 i j v hv;rw[hi]at h1;rw[hj]at h2;cases h1;cases h2;refine⟨_,rfl,rfl,_,rfl,?_⟩;rw[decide_eq_false (show¬((aa (V.ref t')).getD .non=.non)from λzz=>nomatch zz)];refine AR ?_;exact⟨_,rfl,k t' i' j' H1 A [] nu sh lo ke (by rw[bE];exact c1.more (by lia)) (by rw[bE];exact h5) (by rw[bE];exact h6) h4 Ic rfl⟩
  |none=>
   refine⟨_,rfl,rfl,_,rfl,?_⟩;rw[decide_eq_true (show((none:Option V).getD .non=.non)from rfl)];refine B9 ?_;refine⟨_,rfl,a,A.dx,_,rfl,c1.ob,rfl,_,rfl,_,rfl,a,A,z,w,n,kn,ln,B,nu,sh,lo,ke,p,q,i,j,rfl,c1,hn,by lia,hi,hj,λt' i' j' H2 A2 mo Dg Ek lo2 c2 hi2 Zq htn ht2 Mc el2=>?_⟩;have hz:=c2.z;have ahN:=Ic.trans Mc;refine⟨_,rfl,a,C,A2.dx,_,_,rfl,c2.ob,T.cl,T.ke,Us,A2.ke,_,rfl,c2.hke,_,_,rfl,rfl,_,rfl,?_⟩;generalize decide ((ke.length:Int)<200000)=bb;cases bb with
   |true=>
    refine B9 ?_;have ahO:H2 l=aa (.tup (([.inl (i:Int),.inl (j:Int)]:List Key).map kV)):=Mc.kp l _ hlF hkey;refine⟨_,rfl,_,rfl,a,C,A2.dx,_,_,rfl,c2.ob,T.cl,T.ke,Us,_,rfl,A2.ke,_,rfl,Ji.t c2.hke ahO (zk (show ke.length<=1000001 by lia) (by decide)),?_⟩;have c3:=c2.aei (fz hi) (fz hj) ht2 hi2 Zq;refine⟨_,rfl,k t' i' j' _ A2 mo Dg Ek lo2 _ c3 hi2 Zq ?_ (ahN.trans (m9.upd (bz _ (jK _ (by simp[Ad.hd]))) _)) el2⟩;rw[aH (dZ ht2 c2.hke (by intro zz;cases zz))];exact ht2
   |false=>
    refine AR ?_;exact⟨_,rfl,k t' i' j' H2 A2 mo Dg Ek lo2 ke (c2.more (by lia)) hi2 Zq ht2 ahN el2⟩
end
end DL.wH
namespace DL.wH
open PySem PySem.Spec PyProof.Rows L2 DL
abbrev U5:aC:=inClass (top 21) 6
inductive U6 (K:ak) (C:ae) (vs:List V) (H:Hp) (Q:VK):Prop
 |mk (a:ae) (A:Ad) (zn:Nat) (w:Int) (n:Nat) (kn:List RP) (ls:List Nat) (R:List RP) (B:Nat) (nu sh lo ke:List (List Key×V)) (p:RP) (v:V):(vs=[.ref a,v])->(m8 C H a A (BZ zn w) n kn (nI ls) B nu sh lo ke)->(gJ kn ls R)->(kn[zn]?=aa (upTo n,upTo n))->(n<=7)->(B+402*(R.length+1)<900000)->(R.length<=1000)->(Iv n p.1 p.2)->(Is K (λx=>x∉a::A.all) H (.lst (aW p.1)) v)->(∀(H':Hp)(A':Ad)(mo:List RP)(ls':List Nat)(Mb sh' lo' ke':List (List Key×V)),m8 C H' a A' (BZ zn w) n (kn++mo) (nI ls') (B+402*(R.length+1)) Mb sh' lo' ke'->gJ (kn++mo) ls' (jt n R p)->m9 H H' (a::A.all) (a::A'.all)->Q .non H')->U6 K C vs H Q
def abN(K:ak)(C:ae):Sp:=λvs H Q _=>U6 K C vs H Q
section
variable{P:aU}{w:aF}{K:ak}{mg:Str->Option ah}{base:aD}
def sc6:bp ["self","row","line","place","pair"] ["self","row"] (az U5):=⟨rfl,rfl,rfl,by decide +kernel,rfl,by decide +kernel,by decide +kernel⟩
def ahQ{f C fN fS:ae}{fd UX fdS:aL}(F:Jf K "put" "Comb.put" U5 f fd)(T:Wf K mg C)
  (mN:Meth K C "number_of" fN)(bN:Binds K UX ["self","row"] [])(GN:fM P w K mg base qv 3 fN UX ["self","row"] (Ko K C))
  (mS:Meth K C "slide_kept" fS)(bS:Binds K fdS ["self","one","other"] [])(GS:fM P w K mg base qv 6 fS fdS ["self","one","other"] (abM C)):fM P w K mg base qv 7 f fd ["self","row"] (abN K C):=by
 refine F.ok sc6 (λvs H Q E h=>?_) (λcdv A outer s H vs Q E hr h=>?_)
 ·obtain⟨a,A,zn,w,n,kn,ls,R,B,nu,sh,lo,ke,p,v,rfl,_⟩:=h
  rfl
 ·obtain⟨a,A,zn,w,n,kn,ls,R,B,nu,sh,lo,ke,p,v,rfl,c,hR,hzn,hn,hB,hRl,ivp,isr,k⟩:=h
  have hu:=zj hr;refine⟨_,bF (gS (i:=2) sc6.nd rfl (aR rfl) (dU (pv 0) rfl))
   (bF (jM (yt kB uB uC i7 (pv 2) (bh (nR (pv 0) T.cl mN GN (hr.mono (by decide)) bN .nil vB (bh (pv 1) bV)) bV)) rfl)
   (bF (gS (i:=3) sc6.nd rfl (aR rfl) (yr eJ (oU uu (by rfl) T.mle jb (bh (pv 2) bV)) lR))
   (bF (y0 gO (pZ oQ (pv 3) lR (bJ _))
    (bF (gS (i:=4) sc6.nd rfl (aR rfl) (nR (pv 0) T.cl mS GS (hr.mono (by decide)) bS .nil vB (bh (j7 iN (pv 2) (yr eJ (pv 3) lR) (λ_ _=>rfl)) (bh (j7 iN (pv 2) (pv 3) (λ_ _=>rfl)) bV))))
    (bF (BJ (pZ Sn (j7 AO (pv 4) lR (λ_ _=>rfl)) (j7 iN (pv 2) (yr eJ (pv 3) lR) (λ_ _=>rfl)) (bJ _)) (fq R4) rz)
    (bF (GR (j7 AO (pv 4) lR (λ_ _=>rfl)) (Lf (pv 2) (yr eJ (pv 3) lR) set_list (by intro _;rfl)) rfl rfl rfl)
    (bF (GR (j7 AO (pv 4) lR (λ_ _=>rfl)) (Lf (pv 2) (pv 3) set_list (by intro _;rfl)) rfl rfl rfl)
    (fq (Lg (i:=3) sc6.nd rfl (aR rfl) lR acp)))))))
   (fq (BJ (pZ Sn (j7 iN (pv 2) (MV kR lR) (λ_ _=>rfl)) (dU (pv 0) rfl) (bJ _))
    (fq (jM (Hb kB XI XJ SA (pv 2)) rfl)) rz))))),?_⟩
  refine⟨_,rfl,a,C,A.dx,_,_,rfl,c.ob,T.cl,T.li,Kb,?_⟩;refine⟨_,rfl,.inl ⟨rfl,_,gb.of c.hli⟩,_,rfl,a,A.dx,_,rfl,c.ob,rfl,_,rfl,a,A,BZ zn w,n,kn,nI ls,B,nu,sh,lo,ke,p,v,rfl,c,hn,by lia,ivp,isr,λi1 H1 A1 mo1 nu1 c1 hi1 Ic el1=>?_⟩;have hz:=c1.z;have Uo:=hR.len;have big:∀{x:Nat},x<=1000001->x<aI:=λh=>zk h (by decide);refine⟨A.li,(nI ls).map V.int,.int i1,rfl,rfl,by rw[<-el1];exact c1.hli,by rw[aB,sG];exact big (by lia),?_⟩;have hR1:gJ (kn++mo1) (ls++[i1]) (R++[p]):=hR.pre.app hi1;have c2:=c1.Kd hR1.li;rw[aek,el1]at c2;have Mc:m9 H (upd H1 A.li (.lst ((nI ls).map V.int++[.int i1]))) (a::A.all) (a::A1.all):=Ic.trans (m9.upd (by rw[<-el1];exact bz _ (jK _ (by simp[Ad.hd]))) _);generalize upd H1 A.li (.lst ((nI ls).map V.int++[.int i1]))=H2 at c2 Mc;have am1:H2 A.li=aa (.lst ((nI (ls++[i1])).map V.int)):=by rw[<-el1];exact c2.hli
  refine⟨_,rfl,A.li,_,rfl,.inl (gb.of am1),_,_,rfl,rfl,?_⟩;have epl:((((nI (ls++[i1])).map V.int).length:Nat):Int)-1=(R.length:Nat):=by
   rw[aB,sG,bO,nT];lia
  dsimp only;rw[epl];refine⟨λm σ H2=>∃(A2:Ad)(mo:List RP)(Dg Ek lo2 Wi:List (List Key×V))(ls2:List Nat)(t:Nat)(cr:RP)(dn:List RP)(pr:Option V),σ=[aa (.ref a),aa v,aa (.ref A.li),aa (.int t),pr]/\m8 C H2 a A2 (BZ zn w) n (kn++mo) (nI ls2) (B+1+201*(R.length-t)) Dg Ek lo2 Wi/\
    gJ (kn++mo) ls2 (R.take t++cr::dn)/\t<=R.length/\(Ce (R.take t).reverse cr).reverse++dn=zZ R p/\m=t/\m9 H H2 (a::A.all) (a::A2.all)/\A2.li=A.li,
   ⟨R.length,A1,mo1,nu1,sh,lo,ke,ls++[i1],R.length,p,[],none,rfl,by rw[CQ];exact c2,by rw[zH];exact hR1,bf _,by rw[zH,bE];rfl,rfl,Mc,el1⟩,?_⟩
  rintro m σ H3 ⟨A3,mo,nu3,sh3,lo3,ke3,ES,t,cr,dn,pr,rfl,c3,hL,htR,hT,rfl,AK,el3⟩;have hli:H3 A.li=aa (.lst ((nI ES).map V.int)):=by rw[<-el3];exact c3.hli
  refine⟨_,rfl,_,_,rfl,rfl,_,rfl,?_⟩;cases m with
  |zero=>
   rw[decide_eq_false (by lia)];refine AR ?_;have hTX:gJ (kn++mo) ES (zZ R p):=by
    rw[<-hT];exact hL
   obtain⟨m1,r1,hm1,hm2,hm3⟩:=hTX.last (by rw[C3];lia);refine⟨_,rfl,_,rfl,A.li,_,-1,_,rfl,rfl,gb.of hli,Dv (C4 hm1),_,rfl,a,C,A3.dx,_,_,rfl,c3.ob,T.cl,T.no,abt,rfl,_,rfl,?_⟩;have hz2:(kn++mo)[zn]?=aa (upTo n,upTo n):=fz hzn
   by_cases hq:r1=(upTo n,upTo n)
   ·rw[decide_eq_true (show V.int (m1:Int)=V.int (zn:Int)from congrArg V.int ((c3.inj hm3 hz2).mpr hq))]
    refine B9 ?_;refine⟨_,rfl,.inl ⟨rfl,_,gb.of hli⟩,A.li,_,_,rfl,rfl,hli,OT (C4 hm1),?_⟩;rw[OV,<-el3];have hdr:gJ (kn++mo) ES.dropLast (jt n R p):=by
     unfold jt;rw[if_pos (by rw[hm2,hq])];exact hTX.drop
    exact k _ A3 mo ES.dropLast _ _ _ _ ((c3.Kd hdr.li).more (by lia)) hdr (AK.trans (m9.upd (bz _ (jK _ (by simp[Ad.hd]))) _))
   ·rw[decide_eq_false (show¬V.int (m1:Int)=V.int (zn:Int)from λe=>hq ((c3.inj hm3 hz2).mp (by injection e)))]
    refine AR ?_;have hdr:gJ (kn++mo) ES (jt n R p):=by
     unfold jt;rw[if_neg (by rw[hm2];exact λe=>hq (cA.inj e))];exact hTX
    exact k _ A3 mo ES _ _ _ _ (c3.more (by lia)) hdr AK
  |succ t=>
   rw[decide_eq_true (by lia)];refine B9 ?_;have hrt:R[t]?=aa (R[t]'(by lia)):=bj (by lia);generalize R[t]'(by lia)=r at hrt;have etk:R.take (t+1)=R.take t++[r]:=by rw[CW,hrt];rfl
   have ltk:(R.take t).length=t:=by rw[iM];lia
   have g1:(R.take (t+1)++cr::dn)[t]?=aa r:=by
    rw[etk,bQ,jh (by lia),ltk,CQ];rfl
   have g2:(R.take (t+1)++cr::dn)[t+1]?=aa cr:=by
    rw[jh (by rw[iM];lia),show t+1-(R.take (t+1)).length=0 by rw[iM];lia];rfl
   obtain⟨ma,la,ka⟩:=hL.at g1;obtain⟨mb,lb,kb⟩:=hL.at g2;refine⟨λσ' H'=>∃m'<t+1,∃(A2:Ad)(mo:List RP)(Dg Ek lo2 Wi:List (List Key×V))(ls2:List Nat)(t:Nat)(cr:RP)(dn:List RP)(pr:Option V),σ'=[aa (.ref a),aa v,aa (.ref A.li),aa (.int t),pr]/\m8 C H' a A2 (BZ zn w) n (kn++mo) (nI ls2) (B+1+201*(R.length-t)) Dg Ek lo2 Wi/\
    gJ (kn++mo) ls2 (R.take t++cr::dn)/\t<=R.length/\(Ce (R.take t).reverse cr).reverse++dn=zZ R p/\m'=t/\m9 H H' (a::A.all) (a::A2.all)/\A2.li=A.li,λσ' H' h=>h,?_⟩
   have ix1:((t+1:Nat):Int)-1=(t:Nat):=by lia
   refine⟨_,rfl,a,A3.dx,_,rfl,c3.ob,rfl,_,rfl,_,rfl,_,_,rfl,rfl,A.li,_,((t+1:Nat):Int)-1,.int ma,rfl,rfl,gb.of hli,by rw[ix1];exact l9 (Bf la),_,rfl,_,rfl,A.li,_,((t+1:Nat):Int),.int mb,rfl,rfl,gb.of hli,l9 (Bf lb),
    a,A3,zn,w,n,kn++mo,nI ES,_,nu3,sh3,lo3,ke3,r,cr,ma,mb,rfl,c3,hn,by lia,ka,kb,λtt i4 j4 H4 A4 Ph nu4 sh4 lo4 ke4 c4 hi4 hj4 ht4 fr4 el4=>?_⟩
   have Kq:=el4.trans el3;have Zs:H4 A.li=aa (.lst ((nI ES).map V.int)):=by rw[<-Kq];exact c4.hli
   refine⟨_,rfl,tt,_,0,_,rfl,rfl,EU.of ht4,rfl,_,rfl,_,rfl,_,_,rfl,rfl,A.li,_,((t+1:Nat):Int)-1,.int ma,rfl,rfl,gb.of Zs,by rw[ix1];exact l9 (Bf la),rfl,_,rfl,?_⟩;have kaX:(kn++mo++Ph)[ma]?=aa r:=fz ka;have hsl:=Uy (c:=cr) hrt
   by_cases hq0:(gx 50 r cr).1=r
   ·rw[decide_eq_true (show V.int (i4:Int)=V.int (ma:Int)from congrArg V.int ((c4.inj hi4 kaX).mpr hq0))]
    refine B9 ?_;have hTX:gJ (kn++mo++Ph) ES (zZ R p):=by
     rw[<-hT,hsl,if_pos hq0,kr,kJ,show R.take (t+1)++[cr]++dn=R.take (t+1)++cr::dn by rw[bQ];rfl];exact hL.pre
    have hli:=Zs;obtain⟨m1,r1,hm1,hm2,hm3⟩:=hTX.last (by rw[C3];lia);rw[bQ]at c4 hm3 hTX;refine⟨_,rfl,_,rfl,A.li,_,-1,_,rfl,rfl,gb.of hli,Dv (C4 hm1),_,rfl,a,C,A4.dx,_,_,rfl,c4.ob,T.cl,T.no,abt,rfl,_,rfl,?_⟩;have hz2:(kn++(mo++Ph))[zn]?=aa (upTo n,upTo n):=fz hzn
    by_cases hq:r1=(upTo n,upTo n)
    ·rw[decide_eq_true (show V.int (m1:Int)=V.int (zn:Int)from congrArg V.int ((c4.inj hm3 hz2).mpr hq))]
     refine B9 ?_;refine⟨_,rfl,.inl ⟨rfl,_,gb.of hli⟩,A.li,_,_,rfl,rfl,hli,OT (C4 hm1),?_⟩;rw[OV,<-Kq];have hdr:gJ (kn++(mo++Ph)) ES.dropLast (jt n R p):=by
      unfold jt;rw[if_pos (by rw[hm2,hq])];exact hTX.drop
     exact k _ A4 (mo++Ph) ES.dropLast _ _ _ _ ((c4.Kd hdr.li).more (by lia)) hdr ((AK.trans fr4).trans (m9.upd (bz _ (jK _ (by simp[Ad.hd]))) _))
    ·rw[decide_eq_false (show¬V.int (m1:Int)=V.int (zn:Int)from λe=>hq ((c4.inj hm3 hz2).mp (by injection e)))]
     refine AR ?_;have hdr:gJ (kn++(mo++Ph)) ES (jt n R p):=by
      unfold jt;rw[if_neg (by rw[hm2];exact λe=>hq (cA.inj e))];exact hTX
     exact k _ A4 (mo++Ph) ES _ _ _ _ (c4.more (by lia)) hdr (AK.trans fr4)
   ·rw[decide_eq_false (show¬V.int (i4:Int)=V.int (ma:Int)from λe=>hq0 ((c4.inj hi4 kaX).mp (by injection e)))]
    refine AR ?_;have lt1:t+1<ES.length:=(bG.mp lb).1;have ixa:yW ((nI ES).map V.int).length (((t+1:Nat):Int)-1)=aa t:=by
     unfold L2.yW;rw[ix1,if_pos (by lia),if_pos (by rw[aB,sG];lia),bB]
    refine⟨_,rfl,tt,_,0,_,rfl,rfl,EU.of ht4,rfl,_,rfl,_,rfl,_,_,rfl,rfl,A.li,_,_,t,rfl,rfl,Zs,ixa,?_⟩;have hLa:gJ (kn++mo++Ph) (ES.set t i4) ((R.take (t+1)++cr::dn).set t (gx 50 r cr).1):=hL.pre.set t hi4;have c5:=c4.Kd hLa.li;rw[Kq,<-Ux]at c5;have V7:m9 H (upd H4 A.li (.lst (((nI ES).map V.int).set t (.int i4)))) (a::A.all) (a::A4.all):=(AK.trans fr4).trans (m9.upd (by rw[<-Kq];exact bz _ (jK _ (by simp[Ad.hd]))) _);have ht5:(upd H4 A.li (.lst (((nI ES).map V.int).set t (.int i4)))) tt=aa (.tup [.int i4,.int j4]):=by rw[aH (dZ ht4 Zs (by intro zz;cases zz))];exact ht4
    generalize upd H4 A.li (.lst (((nI ES).map V.int).set t (.int i4)))=H5 at c5 V7 ht5;have am5:H5 A.li=aa (.lst ((nI (ES.set t i4)).map V.int)):=by rw[<-Kq];exact c5.hli
    have ixb:yW ((nI (ES.set t i4)).map V.int).length ((t+1:Nat):Int)=aa (t+1):=by
     unfold L2.yW;rw[if_pos (by lia),if_pos (by rw[aB,sG,jP];lia),bB]
    refine⟨_,rfl,tt,_,1,_,rfl,rfl,EU.of ht5,rfl,_,rfl,_,rfl,A.li,_,_,t+1,rfl,rfl,am5,ixb,?_⟩;have hLb:=hLa.set (t+1) hj4;have c6:=c5.Kd hLb.li;rw[Kq,<-Ux]at c6;have fr6:m9 H (upd H5 A.li (.lst (((nI (ES.set t i4)).map V.int).set (t+1) (.int j4)))) (a::A.all) (a::A4.all):=V7.trans (m9.upd (by rw[<-Kq];exact bz _ (jK _ (by simp[Ad.hd]))) _);refine⟨_,rfl,_,_,rfl,rfl,?_⟩;have am6:((R.take (t+1)++cr::dn).set t (gx 50 r cr).1).set (t+1) (gx 50 r cr).2=R.take t++(gx 50 r cr).1::(gx 50 r cr).2::dn:=by
     rw[etk,bQ,Zt _ _ (by lia),Zt _ _ (by lia),ltk,CQ,show t+1-t=1 by lia];rfl
    rw[am6]at hLb;rw[bQ]at c6 hLb;dsimp only;rw[ix1];refine⟨t,by lia,A4,mo++Ph,nu4,sh4,lo4,ke4,_,t,(gx 50 r cr).1,(gx 50 r cr).2::dn,_,rfl,c6.more (by lia),hLb,by lia,?_,rfl,fr6,Kq⟩;rw[<-hT,hsl,if_neg hq0,kr,bQ];rfl
end
end DL.wH
namespace DL.wH
open PySem PySem.Spec PyProof.Rows L2 DL
abbrev Pj:aC:=inClass (top 21) 7
def El{as:List ae}{x:ae}(h:as.Nodup)(hx:x∉as):(as++[x]).Nodup:=Ol.mpr ⟨h,by simp,λa ha b hb z=>hx (by rw[dC.mp hb]at z;rw[<-z];exact ha)⟩
def Pk{Hx:Hp}{as:List ae}{R:List RP}{l:ae}(hat:∀(k:Nat)(b:ae)(r:RP),as[k]?=aa b->R[k]?=aa r->Hx b=aa (.lst (r.1.map V.int)))(hl:Hx l=none)(hlen:as.length<=R.length)(hm:l∈as):False:=by
 obtain⟨k,hk,e⟩:=xF hm;have:=hat k l _ (by rw[bj hk,e]) (bj (dN hk hlen));rw[hl]at this;cases this
def am7(K:ak):TE:=tCB (λxs H Q=>∃p ys,xs=[V.ref p]/\(gb K H p ys\/EU K H p ys)/\∀l,H l=none->Q (.ref l) (upd H l (.lst ys))) (aat (tOp (acC K) (af2 K (Ww 1) "known") (Ww 0)) acA)
inductive U7 (K:ak) (C:ae) (vs:List V) (H:Hp) (Q:VK):Prop
 |mk (a:ae) (A:Ad) (z:Int) (wn n:Nat) (kn:List RP) (ls:List Nat) (R:List RP) (B:Nat) (nu sh lo ke:List (List Key×V)):(vs=[.ref a])->(m8 C H a A (BZ z wn) n kn (nI ls) B nu sh lo ke)->(gJ kn ls R)->(kn[wn]?=aa (gR n))->(R.length<=1000)->(∀(p:ae)(H':Hp),bK H H'->E5 K H H' p (.tf (qI n R).1 (qI n R).2)->Q (.ref p) H')->U7 K C vs H Q
def abP(K:ak)(C:ae):Sp:=λvs H Q _=>U7 K C vs H Q
section
variable{P:aU}{w:aF}{K:ak}{mg:Str->Option ah}{base:aD}
def sc7:bp ["self","many"] ["self"] (az Pj):=⟨rfl,rfl,rfl,by decide +kernel,rfl,by decide +kernel,by decide +kernel⟩
def ahU{f C:ae}{fd:aL}(F:Jf K "form_told" "Comb.form_told" Pj f fd)(T:Wf K mg C):fM P w K mg base qv 1 f fd ["self"] (abP K C):=by
 refine F.ok sc7 (λvs H Q E h=>?_) (λcdv A outer s H vs Q E hr h=>?_)
 ·obtain⟨a,A,z,wn,n,kn,ls,R,B,nu,sh,lo,ke,rfl,_⟩:=h
  rfl
 ·obtain⟨a,A,z,wn,n,kn,ls,R,B,nu,sh,lo,ke,rfl,c,hR,hwn,hRl,k⟩:=h
  have hu:=zj hr;refine⟨_,bF (gS (i:=1) sc7.nd rfl (aR rfl) lR)
   (bF (y0 gO (pw_and (pZ za (pv 1) (oU uu (by rfl) T.mle jb (bh (dU (pv 0) rfl) bV)) (bJ _)) (pw_and1 (pZ Sn (j7 iN (dU (pv 0) rfl) (pv 1) (λ_ _=>rfl)) (dU (pv 0) rfl) (bJ _)))).pt
    (fq (Lg (i:=1) sc7.nd rfl (aR rfl) lR R7)))
   (fq (nq (vU (bh (pv 1) (bh (UH (te:=am7 K) (QQ (N:=["number","self"]) (nt:=1) (caps:=[0]) (az Pj) ["self","many"] (by decide +kernel)) rfl (Cu (Jb Nr (dU (pv 0) rfl) (Ni (pv 1)) Nh)) (λ_ _ _ _ _=>xn (i:=0) (by show g6 (["number","self"]:List Str);decide +kernel) rfl (aR rfl)) (λ_ _ _ _ _=>by exact xx uv (by rfl) T.mli nU (bh (j7 iN (dU (pv 1) rfl) (pv 0) (λ_ _=>rfl)) bV))) bV)))))),?_⟩
  refine⟨λm σ H2=>∃i:Nat,σ=[aa (.ref a),aa (.int i)]/\H2=H/\i<=R.length/\(∀j<i,R[j]?=aa (gR n))/\m=R.length-i,⟨R.length,0,rfl,rfl,iJ _,λj hj=>absurd hj (Nat.not_lt_zero _),rfl⟩,?_⟩;rintro m σ H2 ⟨i,rfl,rfl,hiR,hal,hm⟩;refine⟨_,rfl,_,rfl,a,C,A.dx,_,_,rfl,c.ob,T.cl,T.li,Kb,A.li,_,rfl,.inl (gb.of c.hli),_,_,rfl,rfl,_,rfl,?_⟩
  by_cases hlt:i<R.length
  ·rw[decide_eq_true (show(i:Int)<(((nI ls).map V.int).length:Nat)by rw[aB,sG,hR.len];lia)]
   refine B9 ?_;obtain⟨mi,hm1,hm2⟩:=hR.at (bj hlt);refine⟨_,rfl,a,C,A.dx,_,_,rfl,c.ob,T.cl,T.li,Kb,_,rfl,A.li,_,i,.int mi,rfl,rfl,gb.of c.hli,l9 (Bf hm1),_,rfl,a,C,A.dx,_,_,rfl,c.ob,T.cl,T.wh,ahr,rfl,_,rfl,?_⟩
   by_cases he:R[i]=gR n
   ·rw[decide_eq_true (show V.int (mi:Int)=V.int (wn:Int)from congrArg V.int ((c.inj hm2 hwn).mpr he))]
    refine B9 ?_;refine⟨λσ' H'=>∃m'<m,∃i:Nat,σ'=[aa (.ref a),aa (.int i)]/\H'=H2/\i<=R.length/\(∀j<i,R[j]?=aa (gR n))/\m'=R.length-i,λ_ _ h=>h,_,rfl,_,_,rfl,rfl,R.length-(i+1),by lia,i+1,rfl,rfl,hlt,λj hj=>?_,rfl⟩
    by_cases hji:j<i
    ·exact hal j hji
    ·have:j=i:=by lia
     subst this;rw[bj hlt,he]
   ·rw[decide_eq_false (show¬V.int (mi:Int)=V.int (wn:Int)from λe=>he ((c.inj hm2 hwn).mp (by injection e)))]
    refine AR ?_;have hcn:gf n R=i:=Kf hal (by rw[bj hlt];exact λe=>he (cA.inj e));have aez:EZ ((nI ls).map V.int) (aa (i:Int)) none=(nI (ls.drop i)).map V.int:=by
     unfold EZ nI;rw[p6 _ _ _ (by lia),vW,bB,aB,aB,hR.len,HA hiR,nV,nV];refine CP ?_;rw[lZ,aB,aB,hR.len];exact bf _
    refine⟨_,rfl,_,rfl,a,C,A.dx,_,_,rfl,c.ob,T.cl,T.li,Kb,_,rfl,_,rfl,A.li,_,rfl,gb.of c.hli,λq hq=>?_⟩;rw[aez];have s1:=bR hq (.lst ((nI (ls.drop i)).map V.int));have hq1:(upd H2 q (.lst ((nI (ls.drop i)).map V.int))) q=aa (.lst ((nI (ls.drop i)).map V.int)):=aT;generalize upd H2 q (.lst ((nI (ls.drop i)).map V.int))=H1 at s1 hq1;have hLd:gJ kn (ls.drop i) (R.drop i):=by
     unfold gJ;rw[nV,nV,show ls.map (λm=>kn[m]?)=R.map aa from hR]
    refine⟨q,rfl,⟨_,gb.of hq1⟩,q,_,[.ref a],rfl,gb.of hq1,rfl,λj i' v e1 e2=>?_,λDd hD=>?_⟩
    ·match j with
     |0=>
      have z1:0=i':=by simpa using e1
      have z2:V.ref a=v:=by simpa using e2
      subst z1 z2;rfl
     |j+1=>simp at e1
    ·refine⟨λj acc Hx=>∃as:List ae,acc=as.map V.ref/\as.length=j/\j<=(R.drop i).length/\bK H1 Hx/\Hx Dd=aa (.lst acc)/\(as.Nodup/\∀b∈as,H1 b=none/\b≠Dd)/\∀(k:Nat)(b:ae)(r:RP),as[k]?=aa b->(R.drop i)[k]?=aa r->Hx b=aa (.lst (r.1.map V.int)),⟨[],rfl,rfl,iJ _,bR hD _,aT,⟨.nil,λb hb=>nomatch hb⟩,λk b r e=>by simp at e⟩,?_,?_,?_⟩
     ·rintro j acc Hx ⟨as,rfl,_,_,sx,Q7,_⟩
      exact⟨gb.of (sx _ _ hq1),Q7⟩
     ·rintro j acc Hx x ⟨as,rfl,hj,Zu,sx,Q7,hnew,hat⟩ hx
      have hjr:j<(ls.drop i).length:=by
       have:=(bG.mp hx).1
       rwa [aB,sG]at this
      have Zv:j<(R.drop i).length:=by rw[<-hLd.len];exact hjr
      obtain⟨m,hm1,hm2⟩:=hLd.at (bj Zv);rw[Bf hm1]at hx;cases hx;have cx:=c.same (s1.trans sx);have LH:m<A.ks.length:=by rw[c.Ka];exact(bG.mp hm2).1
      have hb:=cx.hks m A.ks[m] _ (bj LH) hm2;refine⟨_,rfl,a,C,A.dx,_,_,rfl,cx.ob,T.cl,T.kn,F9,_,rfl,A.kn,A.ks.map V.ref,m,.ref A.ks[m],rfl,rfl,gb.of cx.hkn,l9 (by rw[b8,bj LH];rfl),A.ks[m],_,rfl,.inl (gb.of hb),λl2 hl2=>?_⟩;have hDl:Dd≠l2:=λzz=>by rw[<-zz,Q7]at hl2;cases hl2
      have hl1:H1 l2=none:=sx.free hl2;refine⟨by rw[aH hDl];exact Q7,by rw[aB,hj];exact dN (show j<1000001 by rw[lZ]at Zv;lia) (by decide),as++[l2],by rw[cj];rfl,by rw[bO,hj];rfl,Zv,?_,aT,⟨El hnew.1 λhm=>Pk hat hl2 (by rw[hj];exact Zu) hm,λb QP=>?_⟩,λk' b r e1 e2=>?_⟩
      ·intro y o hy
       have hyD:y≠Dd:=λzz=>by rw[zz,hD]at hy;cases hy
       rw[aH hyD];exact bR hl2 _ _ _ (sx _ _ hy)
      ·rcases cu.mp QP with h|h
       ·exact hnew.2 b h
       ·have:b=l2:=by simpa using h
        rw[this];exact⟨hl1,Ne.symm hDl⟩
      ·by_cases hk:k'<as.length
       ·rw[fu hk]at e1
        have hbb:=hat k' b r e1 e2;rw[aH (hnew.2 b (dJ e1)).2];exact bR hl2 _ _ _ hbb
       ·obtain⟨z1,z2⟩:=wD e1 hk
        rw[hj]at z1;rw[z1,bj Zv]at e2;cases e2;rw[<-z2,aH (Ne.symm hDl)];exact aT
     ·rintro acc Hx ⟨as,rfl,hj,Zu,sx,Q7,hnew,hat⟩
      refine⟨(by show 2<=aI;decide),λpt hpt=>?_⟩;have st:=bR hpt (.tup [V.int i,V.ref Dd]);have hlen:as.length=((R.drop i).map (·.1)).length:=by
       rw[hj,aB,sG,aB];exact hLd.len
      have hD0:H2 Dd=none:=s1.free hD;have dg:BO HO.lst Hx (Dd::as) Dd as ((R.drop i).map (·.1)):=⟨by simp,Q7,hlen,fO.mpr ⟨λz=>(hnew.2 Dd z).2 rfl,hnew.1⟩,λk' b ns e1 e2=>⟨bz _ (dJ e1),by
       rw[b8]at e2;cases hr:(R.drop i)[k']? with
       |none=>rw[hr]at e2;cases e2
       |some r=>
        rw[hr]at e2;cases e2;exact hat k' b r e1 hr⟩⟩
      refine k pt _ ((s1.trans sx).trans st) ?_;unfold qI;rw[hcn];exact TY hpt ((s1.trans sx).free hpt) (λb hb=>(aX.mp hb).elim (λz=>by rw[z];exact hD0) λz=>s1.free (hnew.2 b z).1) dg
  ·rw[decide_eq_false (show¬(i:Int)<(((nI ls).map V.int).length:Nat)by rw[aB,sG,hR.len];lia)]
   refine AR ?_;refine AR ?_;have hcn:gf n R=i:=Kf hal (by rw[HU (by lia)];exact λe=>nomatch e);have aez:EZ ((nI ls).map V.int) (aa (i:Int)) none=(nI (ls.drop i)).map V.int:=by
    unfold EZ nI;rw[p6 _ _ _ (by lia),vW,bB,aB,aB,hR.len,HA hiR,nV,nV];refine CP ?_;rw[lZ,aB,aB,hR.len];exact bf _
   refine⟨_,rfl,_,rfl,a,C,A.dx,_,_,rfl,c.ob,T.cl,T.li,Kb,_,rfl,_,rfl,A.li,_,rfl,gb.of c.hli,λq hq=>?_⟩;rw[aez];have s1:=bR hq (.lst ((nI (ls.drop i)).map V.int));have hq1:(upd H2 q (.lst ((nI (ls.drop i)).map V.int))) q=aa (.lst ((nI (ls.drop i)).map V.int)):=aT;generalize upd H2 q (.lst ((nI (ls.drop i)).map V.int))=H1 at s1 hq1;have hLd:gJ kn (ls.drop i) (R.drop i):=by
    unfold gJ;rw[nV,nV,show ls.map (λm=>kn[m]?)=R.map aa from hR]
   refine⟨q,rfl,⟨_,gb.of hq1⟩,q,_,[.ref a],rfl,gb.of hq1,rfl,λj i' v e1 e2=>?_,λDd hD=>?_⟩
   ·match j with
    |0=>
     have z1:0=i':=by simpa using e1
     have z2:V.ref a=v:=by simpa using e2
     subst z1 z2;rfl
    |j+1=>simp at e1
   ·refine⟨λj acc Hx=>∃as:List ae,acc=as.map V.ref/\as.length=j/\j<=(R.drop i).length/\bK H1 Hx/\Hx Dd=aa (.lst acc)/\(as.Nodup/\∀b∈as,H1 b=none/\b≠Dd)/\∀(k:Nat)(b:ae)(r:RP),as[k]?=aa b->(R.drop i)[k]?=aa r->Hx b=aa (.lst (r.1.map V.int)),⟨[],rfl,rfl,iJ _,bR hD _,aT,⟨.nil,λb hb=>nomatch hb⟩,λk b r e=>by simp at e⟩,?_,?_,?_⟩
    ·rintro j acc Hx ⟨as,rfl,_,_,sx,Q7,_⟩
     exact⟨gb.of (sx _ _ hq1),Q7⟩
    ·rintro j acc Hx x ⟨as,rfl,hj,Zu,sx,Q7,hnew,hat⟩ hx
     have hjr:j<(ls.drop i).length:=by
      have:=(bG.mp hx).1
      rwa [aB,sG]at this
     have Zv:j<(R.drop i).length:=by rw[<-hLd.len];exact hjr
     obtain⟨m,hm1,hm2⟩:=hLd.at (bj Zv);rw[Bf hm1]at hx;cases hx;have cx:=c.same (s1.trans sx);have LH:m<A.ks.length:=by rw[c.Ka];exact(bG.mp hm2).1
     have hb:=cx.hks m A.ks[m] _ (bj LH) hm2;refine⟨_,rfl,a,C,A.dx,_,_,rfl,cx.ob,T.cl,T.kn,F9,_,rfl,A.kn,A.ks.map V.ref,m,.ref A.ks[m],rfl,rfl,gb.of cx.hkn,l9 (by rw[b8,bj LH];rfl),A.ks[m],_,rfl,.inl (gb.of hb),λl2 hl2=>?_⟩;have hDl:Dd≠l2:=λzz=>by rw[<-zz,Q7]at hl2;cases hl2
     have hl1:H1 l2=none:=sx.free hl2;refine⟨by rw[aH hDl];exact Q7,by rw[aB,hj];exact dN (show j<1000001 by rw[lZ]at Zv;lia) (by decide),as++[l2],by rw[cj];rfl,by rw[bO,hj];rfl,Zv,?_,aT,⟨El hnew.1 λhm=>Pk hat hl2 (by rw[hj];exact Zu) hm,λb QP=>?_⟩,λk' b r e1 e2=>?_⟩
     ·intro y o hy
      have hyD:y≠Dd:=λzz=>by rw[zz,hD]at hy;cases hy
      rw[aH hyD];exact bR hl2 _ _ _ (sx _ _ hy)
     ·rcases cu.mp QP with h|h
      ·exact hnew.2 b h
      ·have:b=l2:=by simpa using h
       rw[this];exact⟨hl1,Ne.symm hDl⟩
     ·by_cases hk:k'<as.length
      ·rw[fu hk]at e1
       have hbb:=hat k' b r e1 e2;rw[aH (hnew.2 b (dJ e1)).2];exact bR hl2 _ _ _ hbb
      ·obtain⟨z1,z2⟩:=wD e1 hk
       rw[hj]at z1;rw[z1,bj Zv]at e2;cases e2;rw[<-z2,aH (Ne.symm hDl)];exact aT
    ·rintro acc Hx ⟨as,rfl,hj,Zu,sx,Q7,hnew,hat⟩
     refine⟨(by show 2<=aI;decide),λpt hpt=>?_⟩;have st:=bR hpt (.tup [V.int i,V.ref Dd]);have hlen:as.length=((R.drop i).map (·.1)).length:=by
      rw[hj,aB,sG,aB];exact hLd.len
     have hD0:H2 Dd=none:=s1.free hD;have dg:BO HO.lst Hx (Dd::as) Dd as ((R.drop i).map (·.1)):=⟨by simp,Q7,hlen,fO.mpr ⟨λz=>(hnew.2 Dd z).2 rfl,hnew.1⟩,λk' b ns e1 e2=>⟨bz _ (dJ e1),by
      rw[b8]at e2;cases hr:(R.drop i)[k']? with
      |none=>rw[hr]at e2;cases e2
      |some r=>
       rw[hr]at e2;cases e2;exact hat k' b r e1 hr⟩⟩
     refine k pt _ ((s1.trans sx).trans st) ?_;unfold qI;rw[hcn];exact TY hpt ((s1.trans sx).free hpt) (λb hb=>(aX.mp hb).elim (λz=>by rw[z];exact hD0) λz=>s1.free (hnew.2 b z).1) dg
end
end DL.wH
namespace DL.wH
open PySem PySem.Spec PyProof.Rows L2 DL
abbrev Md:aC:=inClass (top 21) 0
def no1(i:Int):List (Str×V):=[("none",.int i)]
inductive U8 (K:ak) (C:ae) (vs:List V) (H:Hp) (Q:VK):Prop
 |mk (a dx:ae) (n:Nat):(vs=[.ref a,.int n])->((1<=n/\n<=7))->(H a=aa (.ins C dx []))->((∃o,H dx=aa o))->(a≠dx)->(∀(H':Hp)(A':Ad)(kn:List RP)(zn wn:Nat)(nu:List (List Key×V)),m8 C H' a A' (BZ zn wn) n kn (nI []) 2 nu [] [] []->kn[zn]?=aa (upTo n,upTo n)->kn[wn]?=aa (gR n)->(∀x u,x≠a->H x=aa u->x≠dx->H' x=aa u)->(∀x∈A'.all,x=dx\/H x=none)->(∀x,H' x=none->H x=none)->Q .non H')->U8 K C vs H Q
def abQ(K:ak)(C:ae):Sp:=λvs H Q _=>U8 K C vs H Q
section
variable{P:aU}{w:aF}{K:ak}{mg:Str->Option ah}{base:aD}
def sc0:bp ["self","n"] ["self","n"] (az Md):=⟨rfl,rfl,rfl,by decide +kernel,rfl,by decide +kernel,by decide +kernel⟩
def ahV{f C fN:ae}{fd UX:aL}(F:Jf K "__init__" "Comb.__init__" Md f fd)(T:Wf K mg C)(t:Tb K mg)
  (mN:Meth K C "number_of" fN)(bN:Binds K UX ["self","row"] [])(GN:fM P w K mg base qv 3 fN UX ["self","row"] (Ko K C))
  (G_s:p9 P w K mg base 1 t.lu t.lB ["n"] fE)(G_h:p9 P w K mg base 1 t.Ef t.Eg ["n"] yO)
  (es:∀n:Nat,n<=7->fE [.int n]=.ok (aW (upTo n)))(eh:∀n:Nat,1<=n/\n<=7->yO [.int n]=.ok (aW (upTo n).reverse))(ivh:∀n:Nat,Iv n (upTo n).reverse (upTo n).reverse)(ivs:∀n:Nat,Iv n (upTo n) (upTo n)):fM P w K mg base qv 4 f fd ["self","n"] (abQ K C):=by
 refine F.ok sc0 (λvs H Q E h=>?_) (λcdv A outer s H vs Q E hr h=>?_)
 ·obtain⟨a,dx,n,rfl,_⟩:=h
  rfl
 ·obtain⟨a,dx,n,rfl,hn,hob,hdx,hne,k⟩:=h
  have hu:=zj hr;refine⟨_,(bF (r9 (pv 0) (AM bV) rfl) (bF (r9 (pv 0) zp rfl) (bF (r9 (pv 0) (AM bV) rfl) (bF (r9 (pv 0) (AM bV) rfl) (bF (r9 (pv 0) zp rfl) (bF (r9 (pv 0) zp rfl) (bF (r9 (pv 0) zp rfl) (bF (r9 (pv 0) (AM bV) rfl) (bF (r9 (pv 0) (nR (pv 0) T.cl mN GN (hr.mono (by decide)) bN .nil vB (bh (g4 (E:=λ_ _ _=>False) G_s (hr.mono (by decide)) (by rfl) t.iR.m t.iR.F.kp t.iR.b .nil pS (bh (pv 1) bV)) bV)) rfl) (fq (r9 (pv 0) (nR (pv 0) T.cl mN GN (hr.mono (by decide)) bN .nil vB (bh (g4 (E:=λ_ _ _=>False) G_h (hr.mono (by decide)) (by rfl) t.Bo.m t.Bo.F.kp t.Bo.b .nil pS (bh (pv 1) bV)) bV)) rfl))))))))))),?_⟩;refine⟨(by show 0<=aI;decide),λl1 h1=>?_⟩;obtain⟨ne1,ahW,ob1,at1,kp1,Wj⟩:=o5 hob h1 (.lst []) "known";refine⟨_,rfl,a,C,dx,_,rfl,ahW,T.cl,T.kn,(by show 0<1000;decide),?_⟩;generalize hH1:upd (upd H l1 (.lst [])) a _=H1 at ob1 at1 kp1 Wj;intro l2 h2;obtain⟨ne2,ahX,ob2,at2,Zw,gr2⟩:=o5 ob1 h2 (.dT []) "numbers";refine⟨_,rfl,a,C,dx,_,rfl,ahX,T.cl,T.nu,(by show 1<1000;decide),?_⟩;generalize hH2:upd (upd H1 l2 (.dT [])) a _=H2 at ob2 at2 Zw gr2;refine⟨(by show 0<=aI;decide),λl3 h3=>?_⟩;obtain⟨ne3,ahY,ob3,at3,Pn,gr3⟩:=o5 ob2 h3 (.lst []) "firsts";refine⟨_,rfl,a,C,dx,_,rfl,ahY,T.cl,T.fi,(by show 2<1000;decide),?_⟩;generalize Wg:upd (upd H2 l3 (.lst [])) a _=H3 at ob3 at3 Pn gr3;refine⟨(by show 0<=aI;decide),λl4 h4=>?_⟩;obtain⟨ne4,ahZ,ob4,at4,Kr,gr4⟩:=o5 ob3 h4 (.lst []) "lasts";refine⟨_,rfl,a,C,dx,_,rfl,ahZ,T.cl,T.la,(by show 3<1000;decide),?_⟩;generalize hH4:upd (upd H3 l4 (.lst [])) a _=H4 at ob4 at4 Kr gr4;intro l5 h5;obtain⟨ne5,ah0,ob5,at5,IY,gr5⟩:=o5 ob4 h5 (.dT []) "shorter";refine⟨_,rfl,a,C,dx,_,rfl,ah0,T.cl,T.sh,(by show 4<1000;decide),?_⟩;generalize hH5:upd (upd H4 l5 (.dT [])) a _=H5 at ob5 at5 IY gr5;intro l6 h6;obtain⟨ne6,ah3,ob6,at6,Ks,gr6⟩:=o5 ob5 h6 (.dT []) "longer";refine⟨_,rfl,a,C,dx,_,rfl,ah3,T.cl,T.lo,(by show 5<1000;decide),?_⟩;generalize Wh:upd (upd H5 l6 (.dT [])) a _=H6 at ob6 at6 Ks gr6;intro l7 h7;obtain⟨ne7,ah4,ob7,at7,Po,gr7⟩:=o5 ob6 h7 (.dT []) "kept";refine⟨_,rfl,a,C,dx,_,rfl,ah4,T.cl,T.ke,(by show 6<1000;decide),?_⟩;generalize hH7:upd (upd H6 l7 (.dT [])) a _=H7 at ob7 at7 Po gr7;refine⟨(by show 0<=aI;decide),λl8 h8=>?_⟩;obtain⟨ne8,ah5,ob8,at8,Zx,gr8⟩:=o5 ob7 h8 (.lst []) "line";refine⟨_,rfl,a,C,dx,_,rfl,ah5,T.cl,T.li,(by show 7<1000;decide),?_⟩;generalize hH8:upd (upd H7 l8 (.lst [])) a _=H8 at ob8 at8 Zx gr8;have v1:H8 l1=aa (.lst []):=(Zx _ _ ne1 (Po _ _ ne1 (Ks _ _ ne1 (IY _ _ ne1 (Kr _ _ ne1 (Pn _ _ ne1 (Zw _ _ ne1 at1)))))))
  have v2:H8 l2=aa (.dT []):=(Zx _ _ ne2 (Po _ _ ne2 (Ks _ _ ne2 (IY _ _ ne2 (Kr _ _ ne2 (Pn _ _ ne2 at2))))))
  have v3:H8 l3=aa (.lst []):=(Zx _ _ ne3 (Po _ _ ne3 (Ks _ _ ne3 (IY _ _ ne3 (Kr _ _ ne3 at3)))))
  have v4:H8 l4=aa (.lst []):=(Zx _ _ ne4 (Po _ _ ne4 (Ks _ _ ne4 (IY _ _ ne4 at4))))
  have v5:H8 l5=aa (.dT []):=(Zx _ _ ne5 (Po _ _ ne5 (Ks _ _ ne5 at5)))
  have v6:H8 l6=aa (.dT []):=(Zx _ _ ne6 (Po _ _ ne6 at6))
  have v7:H8 l7=aa (.dT []):=(Zx _ _ ne7 at7)
  have v8:H8 l8=aa (.lst []):=at8;have kp:∀x u,x≠a->H x=aa u->H8 x=aa u:=λx u hn hx=>(Zx _ _ hn (Po _ _ hn (Ks _ _ hn (IY _ _ hn (Kr _ _ hn (Pn _ _ hn (Zw _ _ hn (kp1 _ _ hn hx))))))))
  have gr:∀x,H8 x=none->H x=none:=λx hx=>(Wj _ (gr2 _ (gr3 _ (gr4 _ (gr5 _ (gr6 _ (gr7 _ (gr8 _ hx))))))))
  have f1:H l1=none:=h1;have f2:H l2=none:=(Wj _ h2)
  have f3:H l3=none:=(Wj _ (gr2 _ h3))
  have f4:H l4=none:=(Wj _ (gr2 _ (gr3 _ h4)))
  have f5:H l5=none:=(Wj _ (gr2 _ (gr3 _ (gr4 _ h5))))
  have f6:H l6=none:=(Wj _ (gr2 _ (gr3 _ (gr4 _ (gr5 _ h6)))))
  have f7:H l7=none:=(Wj _ (gr2 _ (gr3 _ (gr4 _ (gr5 _ (gr6 _ h7))))))
  have f8:H l8=none:=(Wj _ (gr2 _ (gr3 _ (gr4 _ (gr5 _ (gr6 _ (gr7 _ h8)))))))
  have anf:l1≠l2:=bg at1 h2;have ang:l1≠l3:=bg (Zw _ _ ne1 at1) h3;have anh:l2≠l3:=bg at2 h3;have ani:l1≠l4:=bg (Pn _ _ ne1 (Zw _ _ ne1 at1)) h4;have anj:l2≠l4:=bg (Pn _ _ ne2 at2) h4;have ank:l3≠l4:=bg at3 h4;have anl:l1≠l5:=bg (Kr _ _ ne1 (Pn _ _ ne1 (Zw _ _ ne1 at1))) h5;have anm:l2≠l5:=bg (Kr _ _ ne2 (Pn _ _ ne2 at2)) h5;have ano:l3≠l5:=bg (Kr _ _ ne3 at3) h5;have anp:l4≠l5:=bg at4 h5;have anq:l1≠l6:=bg (IY _ _ ne1 (Kr _ _ ne1 (Pn _ _ ne1 (Zw _ _ ne1 at1)))) h6;have anr:l2≠l6:=bg (IY _ _ ne2 (Kr _ _ ne2 (Pn _ _ ne2 at2))) h6;have ans:l3≠l6:=bg (IY _ _ ne3 (Kr _ _ ne3 at3)) h6;have ant:l4≠l6:=bg (IY _ _ ne4 at4) h6;have anu:l5≠l6:=bg at5 h6;have anv:l1≠l7:=bg (Ks _ _ ne1 (IY _ _ ne1 (Kr _ _ ne1 (Pn _ _ ne1 (Zw _ _ ne1 at1))))) h7;have anw:l2≠l7:=bg (Ks _ _ ne2 (IY _ _ ne2 (Kr _ _ ne2 (Pn _ _ ne2 at2)))) h7;have anx:l3≠l7:=bg (Ks _ _ ne3 (IY _ _ ne3 (Kr _ _ ne3 at3))) h7;have anz:l4≠l7:=bg (Ks _ _ ne4 (IY _ _ ne4 at4)) h7;have anA:l5≠l7:=bg (Ks _ _ ne5 at5) h7;have anB:l6≠l7:=bg at6 h7;have anC:l1≠l8:=bg (Po _ _ ne1 (Ks _ _ ne1 (IY _ _ ne1 (Kr _ _ ne1 (Pn _ _ ne1 (Zw _ _ ne1 at1)))))) h8;have anD:l2≠l8:=bg (Po _ _ ne2 (Ks _ _ ne2 (IY _ _ ne2 (Kr _ _ ne2 (Pn _ _ ne2 at2))))) h8;have anE:l3≠l8:=bg (Po _ _ ne3 (Ks _ _ ne3 (IY _ _ ne3 (Kr _ _ ne3 at3)))) h8;have anF:l4≠l8:=bg (Po _ _ ne4 (Ks _ _ ne4 (IY _ _ ne4 at4))) h8;have anG:l5≠l8:=bg (Po _ _ ne5 (Ks _ _ ne5 at5)) h8;have anH:l6≠l8:=bg (Po _ _ ne6 at6) h8;have anI:l7≠l8:=bg at7 h8;have vd:∃o,H8 dx=aa o:=by
   obtain⟨o,ho⟩:=hdx;exact⟨o,kp _ _ (Ne.symm hne) ho⟩
  have ndx:∀{l:ae},H l=none->l≠dx:=λhl z=>by
   obtain⟨o,ho⟩:=hdx;rw[<-z,hl]at ho;cases ho
  have c:m8 C H8 a ⟨dx,l1,l2,l3,l4,l5,l6,l7,l8,[]⟩ [] n [] [] 0 [] [] [] []:=by
   refine⟨ob8,vd,?_,v1,rfl,(λi b p e=>by simp at e),v2,v3,v4,v5,v6,v7,v8,(λp hp=>by simp at hp),(λi p e=>by simp at e),(λr _=>rfl),(λi k v e=>by cases e),(λi k v e=>by cases e),(λi j v e=>by cases e),⟨bf _,bf _,bf _,bf _,bf _⟩,(λm hm=>by simp at hm)⟩;show(a::dx::l1::l2::l3::l4::l5::l6::l7::l8::[]).Nodup;simp only [fO,aX,uF,or_false,not_or,not_false_eq_true,Xw,and_true];exact⟨⟨hne,Ne.symm ne1,Ne.symm ne2,Ne.symm ne3,Ne.symm ne4,Ne.symm ne5,Ne.symm ne6,Ne.symm ne7,Ne.symm ne8⟩,⟨Ne.symm (ndx f1),Ne.symm (ndx f2),Ne.symm (ndx f3),Ne.symm (ndx f4),Ne.symm (ndx f5),Ne.symm (ndx f6),Ne.symm (ndx f7),Ne.symm (ndx f8)⟩,⟨anf,ang,ani,anl,anq,anv,anC⟩,⟨anh,anj,anm,anr,anw,anD⟩,⟨ank,ano,ans,anx,anE⟩,⟨anp,ant,anz,anF⟩,⟨anu,anA,anG⟩,⟨anB,anH⟩,anI⟩
  generalize ob8=ob8 at c;clear ahW ahX ahY ahZ ah0 ah3 ah4 ah5;have frF:∀x∈(⟨dx,l1,l2,l3,l4,l5,l6,l7,l8,[]⟩:Ad).all,x=dx\/H x=none:=λx hx=>by
   unfold Ad.all Ad.hd at hx;simp only [bE,aX,uF,or_false]at hx;rcases hx with rfl|rfl|rfl|rfl|rfl|rfl|rfl|rfl|rfl
   ·exact .inl rfl
   ·exact .inr f1
   ·exact .inr f2
   ·exact .inr f3
   ·exact .inr f4
   ·exact .inr f5
   ·exact .inr f6
   ·exact .inr f7
   ·exact .inr f8
  generalize (⟨dx,l1,l2,l3,l4,l5,l6,l7,l8,[]⟩:Ad)=A at c frF;refine⟨_,rfl,a,A.dx,_,rfl,c.ob,rfl,_,rfl,λ_=>True,[.int n],⟨_,_,rfl,rfl,rfl⟩,?_⟩;rw[es n hn.2];intro q ws H9 s9 hq9 hw9 iw9;have ew:=iQ iw9;subst ew;have c9:=c.same s9;have nF:∀{Hx Hy:Hp}{Ax:Ad}{y:ae}{exx:List (Str×V)}{knn:List RP}{lnn:List Int}{BB:Nat}{nn ss ll kk:List (List Key×V)},m8 C Hx a Ax exx n knn lnn BB nn ss ll kk->Hx y=none->y∉a::Ax.all:=λcx hy hx=>by
   obtain⟨o,ho⟩:=cx.there hx;rw[hy]at ho;cases ho
  refine⟨a,A,[],n,[],[],0,[],[],[],[],(upTo n,upTo n),.ref q,rfl,c9,hn.2,by decide,ivs n,⟨q,_,rfl,.inl ⟨nF (Hy:=H9) c hq9,.inl hw9⟩,eU _⟩,λi1 Js A1 mo1 nu1 c10 hi1 Ic el1=>?_⟩;refine⟨_,rfl,a,C,A1.dx,_,rfl,c10.ob,T.cl,T.no,(by show 8<1000;decide),?_⟩;have c11:=c10.abu (no1 i1);have ah6:m9 H8 (upd Js a (.ins C A1.dx (Cc A1++(no1 i1)))) (a::A.all) (a::A1.all):=((m9.same s9 _).trans Ic).trans (m9.upd iG _);rw[show qA ("none":Str) (.int (i1:Int)) (Cc A1++[])=Cc A1++(no1 i1)from rfl];generalize upd Js a (.ins C A1.dx (Cc A1++(no1 i1)))=H11 at c11 ah6;refine⟨_,rfl,a,A1.dx,_,rfl,c11.ob,rfl,_,rfl,λ_=>True,[.int n],⟨_,_,rfl,rfl,rfl⟩,?_⟩;rw[eh n hn];intro q2 ws2 H12 XR anK anL anM;have ew2:=iQ anM;subst ew2;have c12:=c11.same XR;refine⟨a,A1,(no1 i1),n,[]++mo1,[],1,nu1,[],[],[],gR n,.ref q2,rfl,c12,hn.2,by decide,ivh n,⟨q2,_,rfl,.inl ⟨nF (Hy:=H12) c11 anK,.inl anL⟩,eU _⟩,λi2 H13 A2 mo2 Dg c13 hi2 Mc el2=>?_⟩;refine⟨_,rfl,a,C,A2.dx,_,rfl,c13.ob,T.cl,T.wh,(by show 9<1000;decide),?_⟩;have c14:=c13.abu (BZ i1 i2);rw[show qA ("whole":Str) (.int (i2:Int)) (Cc A2++(no1 i1))=Cc A2++BZ i1 i2 from rfl];have aeF:m9 H8 (upd H13 a (.ins C A2.dx (Cc A2++BZ i1 i2))) (a::A.all) (a::A2.all):=((ah6.trans (m9.same XR _)).trans Mc).trans (m9.upd iG _);refine k _ A2 ([]++mo1++mo2) i1 i2 Dg c14 (fz hi1) hi2 (λx u hx h1 h2=>?_) (λx hx=>?_) (λx hx=>gr x (aeF.gr x hx))
  ·refine aeF.kp x u (λhm=>?_) (kp x u hx h1)
   rcases aX.mp hm with z|z
   ·exact hx z
   ·rcases frF x z with z|z
    ·exact h2 z
    ·rw[z]at h1;cases h1
  ·rcases aeF.nw x (bz _ hx)with z|z
   ·rcases aX.mp z with z|z
    ·rw[z]at hx
     exact absurd hx (fO.mp c14.nd).1
    ·exact frF x z
   ·exact .inr (gr x z)
end
end DL.wH
namespace DL.wH
open PySem PySem.Spec PyProof.Rows L2 DL
def aeG{α:Type}(r:R α)(c:Str):r.ne≠.err c:=by cases r<;>exact λz=>nomatch z
structure CbM(P:aU)(w:aF)(K:ak)(mg:Str->Option ah)(base:aD)(C:ae) where
 fI:ae
 dI:aL
 fP:ae
 dP:aL
 fT:ae
 dT:aL
 M:Mk K C fI
 bI:Binds K dI ["self","n"] []
 GI:fM P w K mg base qv 4 fI dI ["self","n"] (abQ K C)
 mP:Meth K C "put" fP
 bP:Binds K dP ["self","row"] []
 GP:fM P w K mg base qv 7 fP dP ["self","row"] (abN K C)
 mT:Meth K C "form_told" fT
 bT:Binds K dT ["self"] []
 GT:fM P w K mg base qv 1 fT dT ["self"] (abP K C)
section
variable{P:aU}{w:aF}{K:ak}{mg:Str->Option ah}{base:aD}
def aeH{C:ae}(T:Wf K mg C)(Z:CbM P w K mg base C)(t:Tb K mg)(G_r:OkT P w K mg base 3 t.gK t.gM ["steps"] bU):
  Fd P w K mg base 9 t.iY t.i6 ["n","steps"] cX:=by
 refine t.kL.F.ok jr (λvs H Q E h=>?_) (λcdv A outer s H vs Q E hr h=>?_)
 ·obtain⟨Pa,ds,i,h⟩:=h
  match ds,h with
  |[.int n,d],h=>
   obtain⟨v,r,rfl,_,v',r',rfl,_,e⟩:=i;have e':r'=[]:=e;subst e';rfl
 ·obtain⟨Pa,ds,i,h⟩:=h
  obtain⟨n,d,rfl⟩:∃n d,ds=[.int n,d]:=by
   match ds,h with
   |[.int n,d],h=>exact⟨n,d,rfl⟩
  obtain⟨v0,r0,rfl,i0,v1,r1,rfl,i1,e2⟩:=i;have e2':r1=[]:=e2;have e0':v0=.int n:=i0;subst e2' e0';cases em:cX [.int n,d]with
  |bad=>rw[em]at h;exact h.elim
  |err c=>exact absurd em (aeG _ c)
  |ok anN=>
  rw[em]at h;have em':R.bind (bU [d]) (λrs=> @ite _ ((1<=n/\n<=7)/\rs.length<=40/\∀r∈rs,bx n.toNat r) (dR _) (Bh [.val (.int n),.val d,.no,.no,.deep (.tf (qI n.toNat (eY n.toNat rs)).1 (qI n.toNat (eY n.toNat rs)).2)]>=>tfO) .bad)=.ok anN:=R.dZ em;obtain⟨rs,hrs,em2⟩:=R.jQ em'
  by_cases hg:(1<=n/\n<=7)/\rs.length<=40/\∀r∈rs,bx n.toNat r
  case neg=>
   rw[if_neg hg]at em2;cases em2
  case pos=>
  rw[if_pos hg]at em2;obtain⟨hn,asp,ah8⟩:=hg;obtain⟨m,rfl⟩:∃m:Nat,n=m:=⟨n.toNat,by lia⟩
  rw[bB]at em2 ah8;have hu:=zj hr;refine⟨_,bF (gS (i:=2) jr.nd rfl (aR rfl) (W7 Z.M Z.GI (hr.mono (by decide)) (by rfl) T.mgC Z.bI .nil vB (bh (pv 0) bV)))
   (bF (Se gO rfl (Cu (g4 (E:=λ_ _ _=>False) G_r (hr.mono (by decide)) (by rfl) t.eZ.m t.eZ.F.kp t.eZ.b .nil pS (bh (pv 1) bV))) (xn (i:=3) jr.nd rfl (aR rfl))
    (fq (jM (nR (pv 2) T.cl Z.mP Z.GP (hr.mono (by decide)) Z.bP .nil vB (bh (pv 3) bV)) rfl)))
   (bF (gS (i:=4) jr.nd rfl (aR rfl) (Su (pv 2) T.cl Z.mT Z.GT (hr.mono (by decide)) Z.bT .nil vB))
   (cG (adI (E:=EN) 4 (PE.bC (ee nv hU (bIx (nB 4) (PE.bC cI)) (PE.bC (ag2 rfl t.UO (PE.zr (vY (QQ (N:=["step"]) (nt:=1) (caps:=[]) (az nG) ["n","steps","comb","row","found"] (by decide +kernel)) rfl (DC (iL (nD 1))) (Kp.ok (A6 (nt:=1) 0)) (λ_ _ _ _ _=>(zG 0 (by show g6 (["step"]:List Str);decide +kernel))) (λ_ _ _ _ _=>ts0) (λ_ _ _ _ _=>(EL (nD 0) (PE.bC cI))))))))) (PE.bC cI))))),?_⟩
  refine⟨_,rfl,λx dx hx hdx hne=>?_⟩;refine⟨x,dx,m,rfl,by lia,aT,⟨_,by rw[aH hne];exact aT⟩,Ne.symm hne,λH1 A1 kn1 zn wn nu1 c1 hz1 hw1 kp1 nw1 Wj=>⟨rfl,?_⟩⟩;have s01:bK H H1:=λy u hy=>by
   have hyx:y≠x:=λz=>by rw[z,hx]at hy;cases hy
   have hyd:y≠dx:=λz=>by rw[z,hdx]at hy;cases hy
   exact kp1 y u hyx (by rw[aH hyx,aH hyd];exact hy) hyd
  have nF1:∀y∈x::A1.all,H y=none:=λy hy=>by
   rcases aX.mp hy with rfl|hy
   ·exact hx
   ·rcases nw1 y hy with rfl|hy
    ·exact hdx
    ·by_cases z1:y=x
     ·rw[z1];exact hx
     ·by_cases z2:y=dx
      ·rw[z2];exact hdx
      ·rw[aH z1,aH z2]at hy;exact hy
  refine⟨_,rfl,λ_=>True,[d],⟨_,_,rfl,(i1.same s01).weak,rfl⟩,?_⟩;rw[hrs];intro la as H2 XR nd2;have c2:=c1.same XR;have hlen:=nd2.len;have asF:∀b∈la::as,b∉x::A1.all:=λb hb hF=>by
   obtain⟨o,ho⟩:=c1.there hF;rw[nd2.fr b hb]at ho;cases ho
  refine⟨la,rfl,⟨_,gb.of nd2.ha⟩,Sf (K:=K) (a:=la) (xs:=as.map V.ref) (λi σ Hx=>∃(A2:Ad)(mo:List RP)(ls:List Nat)(B2:Nat)(Dg Ek lo2 Wi:List (List Key×V))(rv:Option V),σ=[aa (.int (m:Int)),aa v1,aa (.ref x),rv,none]/\m8 C Hx x A2 (BZ zn wn) m (kn1++mo) (nI ls) B2 Dg Ek lo2 Wi/\
    gJ (kn1++mo) ls (eY m (rs.take i))/\B2<=2+402*41*i/\i<=rs.length/\m9 H2 Hx (x::A1.all) (x::A2.all)) ⟨A1,[],[],2,nu1,[],[],[],none,rfl,by rw[bE];exact c2,rfl,by lia,iJ _,m9.refl _ _⟩ ?_ ?_ ?_⟩
  ·rintro i σ Hx hi ⟨A2,mo,ls,B2,Dg,Ek,lo2,Wi,rv,rfl,c3,hL,hB,hir,AK⟩
   exact gb.of (AK.kp la _ (asF la (by simp)) nd2.ha)
  ·rintro i y σ Hx hy ⟨A2,mo,ls,B2,Dg,Ek,lo2,Wi,rv,rfl,c3,hL,hB,hir,AK⟩
   have hia:i<as.length:=by
    have:=(bG.mp hy).1
    rwa [aB]at this
   have aia:i<rs.length:=by rw[<-hlen];exact hia
   rw[b8,bj hia]at hy;cases hy;have hr1:rs[i]?=aa rs[i]:=bj aia;have hb2:=nd2.it i as[i] rs[i] (bj hia) hr1;have hbF:=asF as[i] (bz _ (Pp _));have hb3:=AK.kp _ _ hbF hb2;have anP:as[i]∉x::A2.all:=λhF=>by
    rcases AK.nw _ hF with z|z
    ·exact hbF z
    ·rw[hb2]at z;cases z
   have hcl:=z7 m (rs.take i) [];have Zy:(eY m (rs.take i)).length<=40:=by
    unfold eY;rw[gG,iM]at hcl;lia
   refine⟨_,rfl,x,A2.dx,_,rfl,c3.ob,rfl,_,rfl,x,A2,zn,wn,m,kn1++mo,ls,eY m (rs.take i),B2,Dg,Ek,lo2,Wi,(rs[i],vP rs[i]),.ref as[i],rfl,c3,hL,fz hz1,by lia,by lia,by lia,mH (ah8 _ (Pp _)),⟨as[i],_,rfl,.inl ⟨anP,.inl hb3⟩,eU _⟩,λH4 A4 Ph ls4 nu4 sh4 lo4 ke4 c4 hL4 fr4=>?_⟩;rw[bQ]at c4 hL4;exact⟨A4,mo++Ph,ls4,_,nu4,sh4,lo4,ke4,_,rfl,c4,by rw[Q2 hr1];exact hL4,by lia,aia,AK.trans fr4⟩
  ·rintro σ Hx ⟨A2,mo,ls,B2,Dg,Ek,lo2,Wi,rv,rfl,c3,hL,hB,hir,AK⟩
   rw[aB,hlen,zH]at hL;have hcl:=z7 m rs [];have Zy:(eY m rs).length<=1000:=by
    unfold eY;rw[gG]at hcl;lia
   refine⟨_,rfl,x,A2.dx,_,rfl,c3.ob,rfl,x,A2,zn,wn,m,kn1++mo,ls,eY m rs,B2,Dg,Ek,lo2,Wi,rfl,c3,hL,fz hw1,Zy,λfv H5 s5 i5=>?_⟩;obtain⟨las,lfr,ldp⟩:=i5;have sHx:bK H Hx:=λy u hy=>AK.kp y u (λhF=>by rw[nF1 y hF]at hy;cases hy) (XR _ _ (s01 _ _ hy));have sH5:=sHx.trans s5;have d0:Rel K ⟨Pa,H⟩ [.val (.int (m:Int)),.val d,.no,.no,.no] [aa (.int (m:Int)),aa v1,aa (.ref x),rv,none] Hx []:=⟨rfl,sHx,λi dd e=>?_,λi xs e=>?_,λi j xs ys b e=>?_,(λb hb=>nomatch hb),λi v e=>?_,Ly.none λi w e=>?_⟩
   ·refine⟨⟨Pa,H⟩,_,_,d0.setC (i:=4) s5 (c:=.tf (qI m (eY m rs)).1 (qI m (eY m rs)).2) lfr (ldp.to λx hx=>⟨jK _ hx,rfl⟩),?_⟩
    obtain⟨o,ho,hv⟩:=R.jQ em2;refine CJ ho ?_;cases o with
    |CF c=>
     cases c with
     |tf h0 ts=>
      cases hv;exact λa H' sH' nd=>h a H' sH' nd
     |_=>cases hv
    |_=>cases hv
   ·match i with
    |0=>cases e;exact⟨_,rfl,rfl⟩
    |1=>cases e;exact⟨_,rfl,Is.ext ⟨λa o p _=>⟨.inl p,λz=>nomatch z⟩,λa o _ q=>sHx a o q⟩ _ _ i1⟩
    |2=>cases e
    |3=>cases e
    |4=>cases e
    |i+5=>cases e
   ·match i with
    |0=>cases e
    |1=>cases e
    |2=>cases e
    |3=>cases e
    |4=>cases e
    |i+5=>cases e
   ·match i with
    |0=>cases e
    |1=>cases e
    |2=>cases e
    |3=>cases e
    |4=>cases e
    |i+5=>cases e
   ·match i with
    |0=>cases e
    |1=>cases e
    |2=>cases e
    |3=>cases e
    |4=>cases e
    |i+5=>cases e
   ·match i with
    |0=>cases e
    |1=>cases e
    |2=>cases e
    |3=>cases e
    |4=>cases e
    |i+5=>cases e
end
end DL.wH
namespace DL
open PySem PySem.Spec PyProof.Rows L2
def fZ:List Int->List Int->Option (List Int)
 |[],o=>aa o
 |k::w,o=>if k<0\/ai o k.toNat<ai o (k-1).toNat then none else fZ w (iB o (k-1).toNat)
def jX{n a:Nat}{o w:List Int}:fZ (((a:Int)+1)::w) o=if ai o (a+1)<ai o a then none else fZ w (iB o a):=by
 conv=>lhs;unfold fZ
 rw[show((a:Int)+1).toNat=a+1 by lia,show((a:Int)+1-1).toNat=a by lia]
 by_cases h:ai o (a+1)<ai o a
 ·rw[if_pos (.inr h),if_pos h]
 ·rw[if_neg (by rintro(z|z);lia;exact h z),if_neg h]
def Ps(n:Nat)(w:List Int):Prop:=∀k∈w,∃a:Nat,k=(a:Int)+1/\a+1<n
def ph(w o:List Int):List Int:=w.foldl (λo k=>iB o (k-1).toNat) o
theorem Pq(f:Int->Int):∀(l:List Int)(a:Nat),iB (l.map f) a=(iB l a).map f
 |[],a=>by cases a<;>rfl
 |[x],0=>rfl
 |[x],a+1=>by cases a<;>rfl
 |x::y::l,0=>rfl
 |x::y::l,a+1=>by
  show iB (f x::HQ f (y::l)) (a+1)=_;rw[wB,wB,Pq f (y::l) a];rfl
def U9{n a:Nat}(h:a+1<n):iB (upTo n) a=(upTo n).map (sg a):=by
 refine cQ (by rw[jq,aB]) λj hj=>?_;rw[jq,aM]at hj;have e:=cR (r:=upTo n) (a:=a) (p:=j) (by rw[aM];exact hj);unfold wC at e;rw[e,mC _ _ (by rw[aM];exact h),aP hj];unfold sg
 by_cases h1:j=a
 ·rw[if_pos h1,aP (by lia),if_pos (show(j:Int)=a by lia)]
  lia
 ·rw[if_neg h1,if_neg (show¬(j:Int)=a by lia)]
  by_cases h2:j=a+1
  ·rw[if_pos h2,aP (by lia),if_pos (show(j:Int)=a+1 by lia)]
  ·rw[if_neg h2,if_neg (show¬(j:Int)=a+1 by lia)]
theorem Ie(f:Int->Int):∀(w o:List Int),ph w (o.map f)=(ph w o).map f
 |[],o=>rfl
 |k::w,o=>by
  show ph w (iB (o.map f) (k-1).toNat)=(ph w (iB o (k-1).toNat)).map f;rw[Pq,Ie f w]
def qV(n:Nat):Iv n (upTo n) (upTo n):=⟨aM n,aM n,λp hp=>by rw[aP hp,bB];exact⟨by lia,by lia,aP hp⟩,λp hp=>by rw[aP hp,bB];exact⟨by lia,by lia,aP hp⟩⟩
theorem Me{n:Nat}:∀w:List Int,Ps n w->Iv n (ph w.reverse (upTo n)) (ph w (upTo n))
 |[],_=>qV n
 |k::w,h=>by
  obtain⟨a,rfl,ha⟩:=h k (by simp);have ih:=Me w λx hx=>h x (by simp[hx]);rw[kr];have e1:ph (((a:Int)+1)::w) (upTo n)=wC (ph w (upTo n)) a:=by
   show ph w (iB (upTo n) ((a:Int)+1-1).toNat)=_;rw[show((a:Int)+1-1).toNat=a by lia,U9 ha,Ie];rfl
  have e2:ph (w.reverse++[(a:Int)+1]) (upTo n)=iB (ph w.reverse (upTo n)) a:=by
   unfold ph;rw[uR];show iB _ ((a:Int)+1-1).toNat=_;rw[show((a:Int)+1-1).toNat=a by lia]
  rw[e1,e2];exact(ih.symm.step ha).symm
def abT{n:Nat}{o s:List Int}(h:Iv n o s){a:Nat}(ha:a+1<n):ai o a≠ai o (a+1):=λe=>by
 have:=h.symm.RV (v:=a) (w:=a+1) (by lia) ha e;lia
def Pr{n:Nat}{o s:List Int}(h:Iv n o s){a:Nat}(ha:a+1<n):kG (iB o a)=kG o+1/\ai o a<ai o (a+1)\/kG (iB o a)+1=kG o/\ai o (a+1)<ai o a:=by
 have e:=C0 o a [] (by rw[h.lr];exact ha);have d:=abT h ha;unfold kG
 by_cases c:ai o a<ai o (a+1)
 ·rw[if_neg (by lia),if_pos c]at e
  exact .inl ⟨by lia,c⟩
 ·rw[if_pos (by lia),if_neg c]at e
  exact .inr ⟨by lia,by lia⟩
theorem tY{n:Nat}:∀(w o s z:List Int),Ps n w->Iv n o s->fZ w o=aa z->z=ph w o/\kG z=kG o+w.length
 |[],o,s,z,_,_,h=>by cases h;exact⟨rfl,rfl⟩
 |k::w,o,s,z,hw,hi,h=>by
  obtain⟨a,rfl,ha⟩:=hw k (by simp);rw[jX (n:=n)]at h;split at h
  ·cases h
  ·rename_i hc
   obtain⟨e1,e2⟩:=tY w (iB o a) (wC s a) z (λx hx=>hw x (by simp[hx])) (hi.symm.step ha).symm h;have:=Pr hi ha;refine⟨?_,by rw[e2,bD];lia⟩;rw[e1];show _=ph w (iB o ((a:Int)+1-1).toNat);rw[show((a:Int)+1-1).toNat=a by lia]
theorem Ku{n:Nat}:∀(w o s:List Int),Ps n w->Iv n o s->kG (ph w o)<=kG o+w.length/\(kG (ph w o)=kG o+w.length->fZ w o=aa (ph w o))
 |[],o,s,_,_=>⟨bf _,λ_=>rfl⟩
 |k::w,o,s,hw,hi=>by
  obtain⟨a,rfl,ha⟩:=hw k (by simp);have e0:ph (((a:Int)+1)::w) o=ph w (iB o a):=by
   show ph w (iB o ((a:Int)+1-1).toNat)=_;rw[show((a:Int)+1-1).toNat=a by lia]
  obtain⟨e1,e2⟩:=Ku w (iB o a) (wC s a) (λx hx=>hw x (by simp[hx])) (hi.symm.step ha).symm;rw[jX (n:=n),e0,bD];rcases Pr hi ha with⟨c1,c2⟩|⟨c1,c2⟩
  ·exact⟨by lia,λh=>by rw[if_neg (by lia)];exact e2 (by lia)⟩
  ·exact⟨by lia,λh=>by lia⟩
def Va:∀n:Nat,n<8->kG (upTo n)=0:=by decide +kernel
def Kv{n:Nat}{w z:List Int}(hw:Ps n w)(h:fZ w (upTo n)=aa z):fZ w.reverse (upTo n)=aa (ph w.reverse (upTo n)):=by
 obtain⟨e1,e2⟩:=tY w _ _ z hw (qV n) h;refine(Ku w.reverse (upTo n) (upTo n) (λk hk=>hw k (by simpa using hk)) (qV n)).2 ?_;rw[D1 (Me w hw),<-e1,e2,bH]
def Pu{n:Nat}{w z:List Int}(hw:Ps n w)(h:fZ w (upTo n)=aa z):Iv n z (ph w.reverse (upTo n)):=by
 rw[(tY w _ _ z hw (qV n) h).1];exact(Me w hw).symm
theorem Bq:∀(w o:List Int)(k:Int),fZ (w++[k]) o=(fZ w o).bind λz=>fZ [k] z
 |[],o,k=>rfl
 |x::w,o,k=>by
  rw[gF];unfold fZ;split
  ·rfl
  ·exact Bq w _ k
def Iv.nd {n:Nat}{r s:List Int}(h:Iv n r s):s.Nodup:=by
 unfold g6;rw[List.pairwise_iff_getElem];intro i j hi hj hij e;rw[h.ls]at hi hj;have e2:ai s i=ai s j:=by
  unfold ai;rw[bj,bj]
  ·exact e
 have:=h.RV hi hj e2;lia
def nJ{n:Nat}{r s:List Int}(h:Iv n r s):bx n r:=by
 refine(Y7 h.symm.nd (DZ n)).mpr λx=>?_;rw[mem_upTo];constructor
 ·intro hx
  obtain⟨p,hp,rfl⟩:=xF hx;rw[h.lr]at hp;have:=h.rs p hp;rw[show ai r p=r[p]by
   unfold ai;rw[bj];rfl]at this
  exact⟨this.1,this.2.1⟩
 ·rintro⟨h0,h1⟩
  have:=(h.idx (v:=x.toNat) (by lia)).1
  rwa [show((x.toNat:Nat):Int)=x by lia]at this
def fl(n:Nat)(l:List Int):List Int:=l.map λx=>(n:Int)-1-x
def vg(n:Nat)(l:List Int):(fl n l).length=l.length:=aB _
def Au{n:Nat}{l:List Int}{p:Nat}(h:p<l.length):ai (fl n l) p=(n:Int)-1-ai l p:=by
 have:=gI h;unfold fl
 conv=>lhs;unfold ai
 rw[b8,this];rfl
def jI{l:List Int}{p:Nat}(h:p<l.length):ai l.reverse p=ai l (l.length-1-p):=by
 unfold ai;rw[uG h]
def abU(n:Nat):fl n (upTo n).reverse=upTo n:=by
 refine cQ (by rw[vg,bH]) λp hp=>?_;rw[vg,bH,aM]at hp;rw[Au (by rw[bH,aM];exact hp),jI (by rw[aM];exact hp),aM,aP (by lia),aP hp];lia
def Vb{n:Nat}{r:List Int}(h:bx n r):bx n (fl n r):=by
 have e:fl n (upTo n)=(upTo n).reverse:=by
  rw[<-abU n];unfold fl;rw[mw,kJ,<-mw];congr 1;have:=abU n;unfold fl at this;rw[this]
 exact(HS.map _ h).trans (by
  show(fl n (upTo n)).Perm _;rw[e];exact uK _)
def Pw{n:Nat}{r:List Int}(h:bx n r):bx n r.reverse:=(uK r).trans h
def o9(n:Nat)(hn:n<=7):fE [.int n]=.ok (aW (upTo n)):=by
 unfold fE DT;dsimp [mS,mD,mF,dH,aN,reduceAdd,reduceSub,reduceEqDiff];rw[A0 _ (by lia),bB,Bb];dsimp [mr]
def Gf{n:Nat}{r s:List Int}(h:Iv n r s)(hn:n<=7):zV [.lst (aW r)]=.ok (aW (fl n s)):=by
 unfold zV Oz;dsimp [mS,mD,mF,dH,aN,reduceAdd,reduceSub,reduceEqDiff];rw[xQ h hn];dsimp [iW];rw[uP (λk=>(n:Int)-1-k) s λk _=>⟨_,j8 _ _ _,rfl,by
  unfold DX ni;dsimp [mS,mD,mF,dH,aN,reduceAdd,reduceSub,reduceEqDiff,cM,h.lr]⟩]
 dsimp [R.j6];rw[gq (by rw[aB,h.ls];lia)];dsimp [mr];rfl
def Mf{n:Nat}{r:List Int}(h:r.length=n)(hn:n<=7):j9 [.lst (aW r)]=.ok (aW (fl n r.reverse)):=by
 unfold j9 yA;dsimp [mS,mD,mF,dH,aN,reduceAdd,reduceSub,reduceEqDiff,HB,iW];rw[uP (λk=>(n:Int)-1-k) r.reverse λk _=>⟨_,j8 _ _ _,rfl,by
  unfold tH ni;dsimp [mS,mD,mF,dH,aN,reduceAdd,reduceSub,reduceEqDiff,cM,h]⟩]
 dsimp [R.j6];rw[gq (by rw[aB,bH];lia)];dsimp [mr];rfl
def Vc{b:D->DE->R Out}{x:D}{xs:List D}{e e':DE}(h:b x e=.ok (.nx e')):iO b (x::xs) e=iO b xs e':=by
 rw[iO,h];rfl
def Br(gs:List (List Int))(c:List Int):zL (gs++[c]) (.int (-1))=.ok (gs.length,c):=by
 have hk:yW (gs++[c]).length (-1)=aa gs.length:=by
  unfold L2.yW;rw[if_neg (by decide),bO,nT,if_pos (by lia)];congr 1;lia
 have hg:(gs++[c])[gs.length]?=aa c:=by simp
 unfold zL;simp_all only [hk,hg]
def Px{ix:Nat}{env:DE}{nss:List (List Int)}{k:Nat}{l:List Int}{v:Int}(h:l.length<1000):LO ix env nss (k,l) (.int v)=.ok (.nx (env.set ix (.deep (Ct.ls (nss.set k (l++[v])))))):=if_pos (dN h (by decide))
def Py{ix:Nat}{env:DE}{nss:List (List Int)}{ns:List Int}(h:nss.length<1000):TQ ix env nss ns=.ok (.nx (env.set ix (.deep (Ct.ls (nss++[ns]))))):=if_pos (dN h (by decide))
def qW(nss:List (List Int))(r:DE):kX 0 (.deep (Ct.ls nss)::r)=.ok nss:=rfl
def qX(i:Nat)(a:Sl)(r:DE):kX (i+1) (a::r)=kX i r:=rfl
def Vd(nss:List (List Int))(r:DE):cy 0 (.deep (Ct.ls nss)::r)=.ok (.lst (nss.map λns=>.lst (aW ns))):=rfl
def aeI{n:Nat}(hn:n<=7){o:List Int}(ho:o.length=n)(s0 s1 s3:Sl){a:Nat}(ha:a+1<n)(hc:¬ai o (a+1)<ai o a):rL (.int ((a:Int)+1)) [s0,s1,.own (aW o),s3]=.ok (.nx [s0,s1,.own (aW (iB o a)),.val (.int ((a:Int)+1))]):=by
 unfold rL;have h0:¬(a:Int)+1<0:=by lia
 dsimp [mS,mD,mF,dH,aN,reduceAdd,reduceSub,reduceEqDiff,j8,h0,decide_false];rw[g7 (by lia) (by lia),g7 (by lia) (by lia),show((a:Int)+1-1).toNat=a by lia,show((a:Int)+1).toNat=a+1 by lia];dsimp [hc,decide_false];rw[Bd (by lia) (by lia)];dsimp
theorem Kx{n:Nat}(hn:n<=7)(s0 s1:Sl):∀(w o z:List Int)(s3:Sl),Ps n w->o.length=n->fZ w o=aa z->∃s3',iO rL (aW w) [s0,s1,.own (aW o),s3]=.ok (.nx [s0,s1,.own (aW z),s3'])
 |[],o,z,s3,_,_,h=>by cases h;exact⟨s3,rfl⟩
 |k::w,o,z,s3,hv,ho,h=>by
  obtain⟨a,rfl,ha⟩:=hv k (by simp);rw[jX (n:=n)]at h;split at h
  ·cases h
  ·rename_i hc
   rw[<-tj,Vc (aeI hn ho s0 s1 s3 ha hc)];exact Kx hn s0 s1 w (iB o a) z _ (λx hx=>hv x (by simp[hx])) (by rw[jq,ho]) h
def Gg{n:Nat}(hn:n<=7){w z:List Int}(hv:Ps n w)(h:fZ w (upTo n)=aa z):tK [.int n,.lst (aW w)]=.ok (aW z):=by
 unfold tK JU;dsimp [mS,mD,mF,dH,aN,reduceAdd,reduceSub,reduceEqDiff];rw[o9 n hn];dsimp;obtain⟨s3,e⟩:=Kx hn (.val (.int n)) (.val (.lst (aW w))) w (upTo n) z .no hv (aM n) h;rw[e];dsimp [mr]
def gV(l:List Int)(k:Int):List Int:=if l.getLast?=aa (-k)then l.dropLast else l++[k]
def fA(s w:List Int):List Int:=w.foldl gV s
def Em(s a b:List Int):fA s (a++b)=fA (fA s a) b:=uR
theorem Av:∀(w s:List Int),(fA s w).length<=s.length+w.length
 |[],s=>by simp[fA]
 |k::w,s=>by
  have:=Av w (gV s k);show(fA (gV s k) w).length<=_;have h2:(gV s k).length<=s.length+1:=by
   unfold gV;split
   ·rw[Nx];lia
   ·simp
  rw[bD];lia
def Mg(l:List Int):jJ l (-1)=l.getLast?:=by
 rw[OU];unfold L2.jJ L2.yW;rw[if_neg (by decide)];cases l with
 |nil=>rfl
 |cons x r=>
  rw[if_pos (by simp;lia)];show(x::r)[(-1+((x::r).length:Int)).toNat]?=_;congr 1;simp;lia
def Mh(w:List Int)(hw:w.length<=100000):tE [.lst (aW w)]=.ok (aW (fA [] w)):=by
 unfold tE F5;dsimp [mS,mD,mF,dH,aN,reduceAdd,reduceSub,reduceEqDiff];obtain⟨s',e,hj⟩:=A5 (S:=List Int×Sl) (b:=uN) (λi s=>s.1=fA [] (w.take i))
  (λs=>[.val (.lst (aW w)),.own (aW s.1),s.2]) (aW w) 0 ([],.no) rfl (by
   rintro j ⟨l,s2⟩ x hs hx;obtain⟨k,hk,rfl⟩:=Ow hx;rw[jR]at hs⊢;have hs':l=fA [] (w.take j):=hs;have Uo:=Av (w.take j) [];rw[<-hs',iM]at Uo;simp -implicitDefEqProofs only [gG]at Uo;refine⟨(gV l k,.val (.int k)),?_,by show gV l k=_;rw[JP hk,Em,hs'];rfl⟩;unfold uN gV;dsimp [mS,mD,mF,dH,aN,reduceAdd,reduceSub,reduceEqDiff,j8,cM];cases l with
   |nil=>
    dsimp [gG,Dh,Int.lt_irrefl,decide_false,List.getLast?_nil];rw[zI (by simp[aW])];rfl
   |cons y r=>
    have h0:(0:Int)<((y::r).length:Nat):=by simp
    generalize hyr:y::r=l at*;dsimp [h0,decide_true];rw[Hv,Mg];cases hq:l.getLast? with
    |none=>rw[<-hyr]at hq;simp at hq
    |some z=>
     dsimp [p7]
     by_cases hz:z= -k
     ·have hz':(z== -k)=true:=by rw[beq_iff_eq];exact hz
      subst hz;dsimp [beq_self_eq_true];rw[Yg (by rw[cM];lia)];dsimp;show _=R.ok (Out.nx [_,Sl.own (aW l.dropLast),_]);unfold aW;rw[C2]
     ·have hz':(z== -k)=false:=beq_false_of_ne hz
      have hz2:¬(aa z=aa (-k)):=λe=>hz (cA.inj e);dsimp [mS,mD,mF,dH,aN,reduceAdd,reduceSub,reduceEqDiff,hz'];rw[zI (by rw[cM];lia),if_neg hz2];dsimp;unfold aW;rw[cj];rfl)
 obtain⟨l,s2⟩:=s';rw[jR,cM,zH]at hj;have LU:l=fA [] w:=hj;dsimp only at e;rw[show([]:List D)=aW []from rfl,e,LU];dsimp [mS,mD,mF,dH,aN,reduceAdd,reduceSub,reduceEqDiff,mr]
theorem En:∀(w s:List Int),∀k∈fA s w,k∈s\/k∈w
 |[],s,k,h=>.inl h
 |x::w,s,k,h=>by
  rcases En w (gV s x) k h with h|h
  ·unfold gV at h
   split at h
   ·exact .inl (zQ (by rw[Hj]at h;exact h))
   ·rcases cu.mp h with h|h
    ·exact .inl h
    ·exact .inr (by rw[dC.mp h];exact iG)
  ·exact .inr (bz _ h)
def Zz(s0:Sl)(b k:Int)(hk:1<=k/\k<=7)(s2:Sl):qd (.int k) [s0,.val (.int b),s2]=.ok (.nx [s0,.val (.int (HE b (1*2^(k-1).toNat))),.val (.int k)]):=by
 unfold qd;dsimp [mS,mD,mF,dH,aN,reduceAdd,reduceSub,reduceEqDiff,j8];rw[show Yx (.int 1) (.int (k-1))=aa (.int (1*2^(k-1).toNat))from if_pos (by
  unfold Qx;exact⟨by lia,by lia,by decide⟩)]
 dsimp [mS,mD,mF,dH,aN,reduceAdd,reduceSub,reduceEqDiff,QS]
theorem Gi(s0:Sl):∀(ks:List Int)(b:Int)(s2:Sl),(∀k∈ks,1<=k/\k<=7)->∃s2',iO qd (aW ks) [s0,.val (.int b),s2]=.ok (.nx [s0,.val (.int (ks.foldl (λb k=>HE b (1*2^(k-1).toNat)) b)),s2'])
 |[],b,s2,_=>⟨s2,rfl⟩
 |k::ks,b,s2,h=>by
  rw[<-tj,Vc (Zz s0 b k (h k (by simp)) s2)];exact Gi s0 ks _ _ λx hx=>h x (by simp[hx])
def ZA:∀ks:List Int,(∀k∈ks,1<=k/\k<=7)->tJ [.lst (aW ks)]=.ok (.int (LY ks)):=λks h=>by
 unfold tJ F6;dsimp [mS,mD,mF,dH,aN,reduceAdd,reduceSub,reduceEqDiff];obtain⟨s2,e⟩:=Gi (.val (.lst (aW ks))) ks 0 .no h;rw[e];dsimp;rfl
def ZC(n:Nat):Iv n (upTo n).reverse (upTo n).reverse:=by
 have c:∀p,p<n->ai (upTo n).reverse p=((n-1-p:Nat):Int):=λp hp=>by
  rw[jI (by rw[aM];exact hp),aM,aP (by lia)]
 have h:∀p,p<n->0<=ai (upTo n).reverse p/\ai (upTo n).reverse p<n/\ai (upTo n).reverse (ai (upTo n).reverse p).toNat=p:=λp hp=>by
  rw[c p hp,bB,c _ (by lia)];refine⟨by lia,by lia,?_⟩;lia
 exact⟨by rw[bH,aM],by rw[bH,aM],h,h⟩
def Pz(n:Nat)(hn:1<=n/\n<=7):yO [.int n]=.ok (aW (upTo n).reverse):=by
 unfold yO Ug;dsimp [mS,mD,mF,dH,aN,reduceAdd,reduceSub,reduceEqDiff];have er:Tv [.int ((n:Int)-1),.int (-1),.int (-1)]=.ok (JF ((n:Int)-1) (-1) (dz ((n:Int)-1) (-1) (-1)).toNat):=if_pos (by unfold RC;lia);rw[er];have e2:JF ((n:Int)-1) (-1) (dz ((n:Int)-1) (-1) (-1)).toNat=aW (upTo n).reverse:=by
  have hc:n=1\/n=2\/n=3\/n=4\/n=5\/n=6\/n=7:=by lia
  rcases hc with rfl|rfl|rfl|rfl|rfl|rfl|rfl<;>rfl
 rw[e2];dsimp [mS,mD,mF,dH,aN,reduceAdd,reduceSub,reduceEqDiff,mr]
def eM(n:Nat):Iv n (upTo n) (upTo n):=⟨aM n,aM n,λp hp=>by rw[aP hp,bB];exact⟨by lia,by lia,aP hp⟩,λp hp=>by rw[aP hp,bB];exact⟨by lia,by lia,aP hp⟩⟩
inductive Rc (n:Nat):RP->RP->RP->RP->Prop
 |nil (p q:RP):Rc n p q p q
 |step {p q p' q':RP} {j:Nat}:j+1<n->ai p.1 j<ai p.1 (j+1)->ai q.2 (j+1)<ai q.2 j->Rc n (vO p j) (yQ q j) p' q'->Rc n p q p' q'
def Rc.iv {n:Nat}{p q p' q':RP}(h:Rc n p q p' q'):Iv n p.1 p.2->Iv n q.1 q.2->Iv n p'.1 p'.2/\Iv n q'.1 q'.2:=by
 induction h with
 |nil p q=>exact λa b=>⟨a,b⟩
 |step hj h1 h2 _ ih=>exact λa b=>ih (jd a hj) (je b hj)
def Rc.ovr {n:Nat}{p q p' q' p0 q0:RP}(IX:Iv n p0.1 p0.2)(h:Rc n p q p' q'):∀y,Iv n p.1 p.2->Iv n q.1 q.2->Cf n p0 q0 p q y->∃y',Cf n p0 q0 p' q' y':=by
 induction h with
 |nil p q=>exact λy _ _ o=>⟨y,o⟩
 |step hj h1 h2 _ ih=>exact λy a b o=>ih _ (jd a hj) (je b hj) (o.step IX a b hj h1 h2)
theorem yS{n:Nat}:∀(f:Nat)(p q:RP),Iv n p.1 p.2->Iv n q.1 q.2->Rc n p q (gx f p q).1 (gx f p q).2
 |0,p,q,_,_=>.nil p q
 |f+1,p,q,ip,iq=>by
  cases h:(pI p q).getLast? with
  |none=>rw[tQ _ h];exact .nil p q
  |some k=>
   obtain⟨j,rfl,hj,h1,h2⟩:=uQ ip iq (z6 h);rw[tP f h,show((j:Int)+1-1).toNat=j by lia];exact .step hj h1 h2 (yS f _ _ (jd ip hj) (je iq hj))
def Cf.starts {n:Nat}{p q p' c' v:RP}(o:Cf n p q p' c' v)(ip':Iv n p'.1 p'.2)(Wl:Iv n c'.1 c'.2)(hf:pI p' c'=[]){a:Nat}(ha:a+1<n)(hp:ai p.1 a<ai p.1 (a+1))(hq:ai q.2 (a+1)<ai q.2 a):ai v.2 (a+1)<ai v.2 a:=by
 refine kH λhc=>?_;have iv:=o.iy;obtain⟨x1,x2,x3⟩:=iv.sr a (by lia);obtain⟨y1,y2,y3⟩:=iv.sr (a+1) ha;have qa:=o.pq a (by lia);have qb:=o.pq (a+1) ha;generalize hx:(ai v.2 a).toNat=x at*;generalize hy:(ai v.2 (a+1)).toNat=y at*;have hxy:x<y:=by
  have:x≠y:=λe=>by rw[e,y3]at x3;lia
  lia
 obtain⟨i,i1,i2,f1,f2⟩:=switch (λi=>decide (ai c'.2 i<ai q.2 a)) (y-x) x (by rw[decide_eq_false];lia) (by rw[show x+(y-x)=y by lia,decide_eq_true];lia);have f1:=of_decide_eq_false f1;have f2:=of_decide_eq_true f2;have hin:i+1<n:=by lia
 have t1:=(dX ip' Wl).mp hf i hin (by lia);have t2:=o.aq i (i+1) (by lia) hin (by lia);obtain⟨g1,g2,g3⟩:=iv.rs i (by lia);obtain⟨h1,h2,h3⟩:=iv.rs (i+1) hin;rw[o.pl i (by lia),o.pl (i+1) hin]at t1;generalize hg:(ai v.1 i).toNat=g at*;generalize hh:(ai v.1 (i+1)).toNat=h at*;rcases Ig a g with c|c
 ·have gn:g≠a+1:=λe=>by rw[e]at g3;lia
  have:=o.aq i y (by lia) (by lia) (by lia);lia
 ·have tg:ai p.1 g<=ai p.1 a:=by
   rcases Ig g a with d|d
   ·have:x≠i:=λe=>by rw[e]at x3;lia
    exact ZD (o.ap g a d (by lia) (by lia))
   ·rw[show g=a by lia];exact x6 _
  rcases Ig a h with d|d
  ·have th:ai p.1 (a+1)<=ai p.1 h:=by
    rcases Ig (a+1) h with e|e
    ·have:i+1≠y:=λz=>by rw[<-z]at y3;lia
     exact ZD (o.ap (a+1) h e (by lia) (by lia))
    ·rw[show h=a+1 by lia];exact x6 _
   lia
  ·have:=o.aq x (i+1) (by lia) hin (by lia)
   lia
def ZE{a i j:Nat}(h:i<j)(hne:¬(i=a/\j=a+1)):sw a i<sw a j:=by
 unfold sw
 repeat' split
 all_goals lia
def Ih{a:Nat}{x y:Int}(h:x<y)(hne:¬(x=a/\y=(a:Int)+1)):sg a x<sg a y:=by
 unfold sg
 repeat' split
 all_goals lia
def Cf.pop {n:Nat}{p q p' c' v:RP}(o:Cf n p q p' c' v)(ip:Iv n p.1 p.2)(iq:Iv n q.1 q.2){j:Nat}(hj:j+1<n)(hv:ai v.2 (j+1)<ai v.2 j):Cf n (vO p j) (yQ q j) p' c' (yQ v j):=by
 have iv:=o.iy;refine⟨je iv hj,λt ht=>?_,λt ht=>?_,λi i' hii DB h=>?_,λi i' hii DB h=>?_,λt ht=>?_⟩
 ·obtain⟨h1,h2,_⟩:=ip.sr t ht
  show ai p'.2 t=ai (iB v.2 j) (ai (wC p.2 j) t).toNat;rw[cR (by rw[ip.ls];exact ht),g8 (by rw[iv.ls];exact hj),UA _ h1,o.pp t ht]
 ·show ai (iB q.2 j) t=ai c'.2 (ai (iB v.2 j) t).toNat
  rw[g8 (by rw[iq.ls];exact hj),g8 (by rw[iv.ls];exact hj),o.pq _ (D4 hj ht)]
 ·change ai (iB v.2 j) i'<ai (iB v.2 j) i at h
  show ai (iB p.1 j) i<ai (iB p.1 j) i';rw[g8 (by rw[iv.ls];exact hj),g8 (by rw[iv.ls];exact hj)]at h;rw[g8 (by rw[ip.lr];exact hj),g8 (by rw[ip.lr];exact hj)];have hne:¬(i=j/\i'=j+1):=λ⟨a,b⟩=>by
   subst a;subst b;unfold sw at h;rw[if_pos rfl,if_neg (by lia),if_pos rfl]at h;lia
  exact o.ap _ _ (ZE hii hne) (D4 hj DB) h
 ·show ai (wC v.1 j) i<ai (wC v.1 j) i'
  have h2:=o.aq i i' hii DB h;rw[cR (by rw[iv.lr];lia),cR (by rw[iv.lr];exact DB)];refine Ih h2 λ⟨a,b⟩=>?_;obtain⟨_,_,e1⟩:=iv.rs i (by lia);obtain⟨_,_,e2⟩:=iv.rs i' DB;rw[a,bB]at e1;rw[b,show((j:Int)+1).toNat=j+1 by lia]at e2;lia
 ·obtain⟨h1,h2,_⟩:=iv.rs t ht
  show ai p'.1 t=ai (iB p.1 j) (ai (wC v.1 j) t).toNat;rw[cR (by rw[iv.lr];exact ht),g8 (by rw[ip.lr];exact hj),UA _ h1,o.pl t ht]
def Rc.to {n:Nat}{p0 q0 p q p' c':RP}(h:Rc n p0 q0 p q):Iv n p0.1 p0.2->Iv n q0.1 q0.2->∀y,Cf n p0 q0 p' c' y->Iv n p'.1 p'.2->Iv n c'.1 c'.2->pI p' c'=[]->∃v,Cf n p q p' c' v:=by
 induction h with
 |nil p q=>exact λ_ _ y o _ _ _=>⟨y,o⟩
 |step hj h1 h2 _ ih=>exact λip iq y o ip' Wl hf=>ih (jd ip hj) (je iq hj) _ (o.pop ip iq hj (o.starts ip' Wl hf hj h1 h2)) ip' Wl hf
def Cf.same {n:Nat}{p q p' c' v:RP}(o:Cf n p q p' c' v)(ip:Iv n p.1 p.2)(iq:Iv n q.1 q.2)(ip':Iv n p'.1 p'.2)(Wl:Iv n c'.1 c'.2)(hf:pI p q=[]):p'=p/\c'=q:=by
 have iv:=o.iy;have hs:¬OY n v:=λ⟨a,ha,hd⟩=>by
  have h1:=o.pq.nst iv Wl o.aq ha hd;have h2:=o.ap a (a+1) (by lia) ha hd;have:=(dX ip iq).mp hf a ha h1;lia
 have e:=z8 iv (eM n) hs;have c:∀t,t<n->(ai (upTo n) t).toNat=t:=λt ht=>by rw[aP ht];exact bB t
 constructor
 ·refine mE ip' ip (cQ (by rw[ip'.lr,ip.lr]) λt ht=>?_)
  rw[ip'.lr]at ht;rw[o.pl t ht,e];dsimp only;rw[c t ht]
 ·have e2:c'.2=q.2:=cQ (by rw[Wl.ls,iq.ls]) λt ht=>by
   rw[Wl.ls]at ht;rw[o.pq t ht,e];dsimp only;rw[c t ht]
  refine mE Wl iq (Iv.uniq (n:=n) (s:=q.2) ?_ iq);rw[<-e2];exact Wl
def Rc.one {n:Nat}{p0 q0 p q p' c':RP}(IX:Iv n p0.1 p0.2)(Q4:Iv n q0.1 q0.2)(h:Rc n p0 q0 p q)(hf:pI p q=[])(h':Rc n p0 q0 p' c')(hf':pI p' c'=[]):p'=p/\c'=q:=by
 obtain⟨y,o⟩:=h'.ovr IX _ IX Q4 (Cf.start IX (eM n));obtain⟨v,o2⟩:=h.to IX Q4 y o (h'.iv IX Q4).1 (h'.iv IX Q4).2 hf';exact o2.same (h.iv IX Q4).1 (h.iv IX Q4).2 (h'.iv IX Q4).1 (h'.iv IX Q4).2 hf
theorem Mi(f:Int->Int):∀(l:List Int)(a:Nat),iB (l.map f) a=(iB l a).map f
 |[],a=>by cases a<;>rfl
 |[x],0=>rfl
 |[x],a+1=>by cases a<;>rfl
 |x::y::l,0=>rfl
 |x::y::l,a+1=>by
  show iB (f x::HQ f (y::l)) (a+1)=_;rw[wB,wB,Mi f (y::l) a];rfl
inductive B4 (n:Nat):List RP->List RP->Prop
 |here {p q:RP} {B:List RP} {j:Nat}:j+1<n->ai p.1 j<ai p.1 (j+1)->ai q.2 (j+1)<ai q.2 j->B4 n (p::q::B) (vO p j::yQ q j::B)
 |next {p:RP} {L L':List RP}:B4 n L L'->B4 n (p::L) (p::L')
inductive qY (n:Nat):List RP->List RP->Prop
 |nil (L:List RP):qY n L L
 |cons {L L' L'':List RP}:B4 n L L'->qY n L' L''->qY n L L''
def qY.trans {n:Nat}{L L' L'':List RP}(h:qY n L L'):qY n L' L''->qY n L L'':=by
 induction h with
 |nil=>exact id
 |cons s _ ih=>exact λg=>.cons s (ih g)
theorem qY.next {n:Nat}(p:RP){L L':List RP}(h:qY n L L'):qY n (p::L) (p::L'):=by
 induction h with
 |nil=>exact .nil _
 |cons s _ ih=>exact .cons (.next s) ih
def qY.app {n:Nat}(A:List RP){L L':List RP}(h:qY n L L'):qY n (A++L) (A++L'):=by
 induction A with
 |nil=>exact h
 |cons p A ih=>exact ih.next p
def B4.Mj {n:Nat}(B:List RP){L L':List RP}(h:B4 n L L'):B4 n (L++B) (L'++B):=by
 induction h with
 |here hj h1 h2=>exact .here hj h1 h2
 |next _ ih=>exact .next ih
theorem qY.Mj {n:Nat}(B:List RP){L L':List RP}(h:qY n L L'):qY n (L++B) (L'++B):=by
 induction h with
 |nil=>exact .nil _
 |cons s _ ih=>exact .cons (s.Mj B) ih
def Rc.sts {n:Nat}{p q p' q':RP}(h:Rc n p q p' q')(B:List RP):qY n (p::q::B) (p'::q'::B):=by
 induction h with
 |nil=>exact .nil _
 |step hj h1 h2 _ ih=>exact .cons (.here hj h1 h2) ih
def B4.iv {n:Nat}{L L':List RP}(h:B4 n L L'):ck n L->ck n L':=by
 induction h with
 |here hj h1 h2=>
  intro hI x hx;rcases aX.mp hx with rfl|hx
  ·exact jd (hI _ (by simp)) hj
  ·rcases aX.mp hx with rfl|hx
   ·exact je (hI _ (by simp)) hj
   ·exact hI x (by simp[hx])
 |next _ ih=>
  intro hI x hx;rcases aX.mp hx with rfl|hx
  ·exact hI _ (by simp)
  ·exact ih (λy hy=>hI y (by simp[hy])) x hx
theorem qY.iv {n:Nat}{L L':List RP}(h:qY n L L'):ck n L->ck n L':=by
 induction h with
 |nil=>exact id
 |cons s _ ih=>exact λhI=>ih (s.iv hI)
def RW(L:List RP):Nat:=(L.map λp=>kG p.1).sum
def wt:List RP->Nat
 |[]=>0
 |_::L=>wt L+RW L
theorem B4.RW {n:Nat}{L L':List RP}(h:B4 n L L'):ck n L->DL.RW L'=DL.RW L/\wt L'<wt L:=by
 induction h with
 | @here p q B j hj h1 h2=>
  intro hI;have ip:=hI p (by simp);have iq:=hI q (by simp);have e1:kG (vO p j).1=kG p.1+1:=(HZ ip hj).1 h1;have e2:kG (yQ q j).1+1=kG q.1:=by
   rw[D1 (je iq hj),D1 iq];exact(HZ iq.symm hj).2 h2
  unfold DL.RW wt wt DL.RW;simp_all only [bw,qe];lia
 | @next p L L' _ ih=>
  intro hI;obtain⟨a,b⟩:=ih λy hy=>hI y (by simp[hy]);unfold wt;rw[a];refine⟨?_,by lia⟩;unfold DL.RW at a⊢;simp_all only [bw,qe];lia
def ZF(q:RP)(i j:Nat):vO (yQ q j) i=yQ (vO q i) j:=by
 unfold vO yQ wC;rw[Mi,Mi]
def B4.side {n:Nat}{p q:RP}{B L:List RP}{j:Nat}(hj:j+1<n)(h1:ai p.1 j<ai p.1 (j+1))(h2:ai q.2 (j+1)<ai q.2 j)(iq:Iv n q.1 q.2)(s:B4 n (q::B) L):
  ∃M,qY n (vO p j::yQ q j::B) M/\qY n (p::L) M:=by
 cases s with
 | @here _ r B' i hi g1 g2=>
  refine⟨vO p j::vO (yQ q j) i::yQ r i::B',.cons (.next (.here hi ?_ g2)) (.nil _),?_⟩
  ·show ai (wC q.1 j) i<ai (wC q.1 j) (i+1)
   rw[cR (by rw[iq.lr];lia),cR (by rw[iq.lr];exact hi)];refine Ih g1 λ⟨a,b⟩=>?_;have e1:=(iq.rs i (by lia)).2.2;have e2:=(iq.rs (i+1) hi).2.2;rw[a,bB]at e1;rw[b,show((j:Int)+1).toNat=j+1 by lia]at e2;lia
  ·rw[ZF]
   refine .cons (.here hj h1 ?_) (.nil _);show ai (wC q.2 i) (j+1)<ai (wC q.2 i) j;rw[cR (by rw[iq.ls];exact hj),cR (by rw[iq.ls];lia)];refine Ih h2 λ⟨a,b⟩=>?_;have e1:=(iq.sr (j+1) hj).2.2;have e2:=(iq.sr j (by lia)).2.2;rw[a,bB]at e1;rw[b,show((i:Int)+1).toNat=i+1 by lia]at e2;lia
 | @next _ _ B2 s=>exact⟨vO p j::yQ q j::B2,.cons (.next (.next s)) (.nil _),.cons (.here hj h1 h2) (.nil _)⟩
def B4.join {n:Nat}(hn:n<=7){L L1:List RP}(h:B4 n L L1):∀{L2:List RP},ck n L->B4 n L L2->∃M,qY n L1 M/\qY n L2 M:=by
 induction h with
 | @here p q B j hj h1 h2=>
  intro L2 hI s;have ip:=hI p (by simp);have iq:=hI q (by simp);cases s with
  | @here _ _ _ i hi g1 g2=>
   have r1:=yS (n:=n) 50 _ _ (jd ip hj) (je iq hj);have r2:=yS (n:=n) 50 _ _ (jd ip hi) (je iq hi);obtain⟨a,b⟩:=Rc.one ip iq (.step hj h1 h2 r1) (C6 hn 50 _ _ (jd ip hj) (je iq hj) (by lia)) (.step hi g1 g2 r2) (C6 hn 50 _ _ (jd ip hi) (je iq hi) (by lia));have s2:=r2.sts B;rw[a,b]at s2;exact⟨_,r1.sts B,s2⟩
  |next s=>exact B4.side hj h1 h2 iq s
 | @next p L L1 s1 ih=>
  intro L2 hI s;cases s with
  | @here _ q B j hj h1 h2=>
   obtain⟨M,a,b⟩:=B4.side (p:=p) hj h1 h2 (hI q (by simp)) s1;exact⟨M,b,a⟩
  |next s=>
   obtain⟨M,a,b⟩:=ih (λy hy=>hI y (by simp[hy])) s;exact⟨p::M,a.next p,b.next p⟩
def Nf(n:Nat)(L:List RP):Prop:=∀L',¬B4 n L L'
def aic{n:Nat}:∀(m:Nat)(L:List RP),wt L<=m->ck n L->∃N,qY n L N/\Nf n N:=λm=>by
 induction m with
 |zero=>exact λL h hI=>⟨L,.nil _,λL' s=>by have:=(s.RW hI).2;lia⟩
 |succ m ih=>
  intro L h hI;rcases Classical.em (∃L',B4 n L L')with⟨L',s⟩|hs
  ·obtain⟨N,a,b⟩:=ih L' (by have:=(s.RW hI).2;lia) (s.iv hI)
   exact⟨N,.cons s a,b⟩
  ·exact⟨L,.nil _,λL' s=>hs ⟨L',s⟩⟩
def Ve{n:Nat}(hn:n<=7):∀(m:Nat)(L:List RP),wt L<=m->ck n L->∀{N1 N2:List RP},qY n L N1->Nf n N1->qY n L N2->Nf n N2->N1=N2:=λm=>by
 induction m with
 |zero=>
  intro L h hI N1 N2 a _ b _;have z:∀{N},qY n L N->N=L:=λ{N} s=>by
   cases s with
   |nil=>rfl
   |cons s _=>have:=(s.RW hI).2;lia
  rw[z a,z b]
 |succ m ih=>
  intro L h hI N1 N2 a n1 b n2;cases a with
  |nil=>
   cases b with
   |nil=>rfl
   |cons s _=>exact absurd s (n1 _)
  | @cons _ L1 _ s1 a=>
   cases b with
   |nil=>exact absurd s1 (n2 _)
   | @cons _ L2 _ s2 b=>
    obtain⟨M,u,v⟩:=s1.join hn hI s2;have w1:=(s1.RW hI).2;have w2:=(s2.RW hI).2;obtain⟨N,x,y⟩:=aic (wt M) M (bf _) (u.iv (s1.iv hI));rw[ih L1 (by lia) (s1.iv hI) a n1 (u.trans x) y,ih L2 (by lia) (s2.iv hI) b n2 (v.trans x) y]
theorem PB{n:Nat}:∀(ps:List RP)(c:RP),ck n ps->Iv n c.1 c.2->qY n (c::ps).reverse (Ce ps c).reverse
 |[],c,_,_=>.nil _
 |p::ps,c,hI,ic=>by
  have ip:=hI p (by simp);unfold Ce;split
  ·exact .nil _
  ·obtain⟨i1,_⟩:=m8.D3 (n:=n) 50 ip ic
   have r:=(yS (n:=n) 50 p c ip ic).sts [];have h:=PB ps (gx 50 p c).1 (λy hy=>hI y (by simp[hy])) i1;simp -implicitDefEqProofs only [kr,bQ]at h⊢;refine(qY.app ps.reverse r).trans ?_;have:=h.Mj [(gx 50 p c).2];simp -implicitDefEqProofs only [bQ]at this;exact this
abbrev Zr(n:Nat):RP:=(upTo n,upTo n)
def ZG{n:Nat}(hn:n<=7){c:RP}(ic:Iv n c.1 c.2):gx 50 (Zr n) c=(c,Zr n):=by
 have iz:Iv n (Zr n).1 (Zr n).2:=eM n;have s:=kI hn iz ic (eM n);obtain⟨y,o⟩:=s.ex;have ct:∀t,t<n->(ai (upTo n) t).toNat=t:=λt ht=>by rw[aP ht];exact bB t
 have cz:∀t:Int,0<=t->t<n->ai (upTo n) t.toNat=t:=λt h0 ht=>by rw[aP (by lia)];lia
 have e2:(gx 50 (Zr n) c).2=Zr n:=z8 s.ic (eM n) λ⟨a,ha,hd⟩=>by
  have h1:=(dX s.ip s.ic).mp s.fr a ha hd;have h2:=o.aq a (a+1) (by lia) ha hd;have b1:=o.iy.rs a (by lia);have b2:=o.iy.rs (a+1) ha;rw[o.pl a (by lia),o.pl (a+1) ha]at h1;dsimp only at h1;rw[cz _ b1.1 b1.2.1,cz _ b2.1 b2.2.1]at h1;lia
 have e1:(gx 50 (Zr n) c).1=c:=by
  have h:(gx 50 (Zr n) c).1.2=c.2:=cQ (by rw[s.ip.ls,ic.ls]) λt ht=>by
   rw[s.ip.ls]at ht;have b1:=o.iy.sr t ht;rw[o.pp t ht,o.pq t ht,e2];dsimp only;rw[ct t ht,cz _ b1.1 b1.2.1]
  refine mE s.ip ic (Iv.uniq (n:=n) (s:=c.2) ?_ ic);rw[<-h];exact s.ip
 exact Prod.ext e1 e2
theorem Ml{n:Nat}(hn:n<=7):∀(L:List RP),ck n L->qY n (Zr n::L) (L++[Zr n])
 |[],_=>.nil _
 |c::L,hI=>by
  have ic:=hI c (by simp);have r:=(yS (n:=n) 50 (Zr n) c (eM n) ic).sts L;rw[ZG hn ic]at r;exact r.trans ((Ml hn L λy hy=>hI y (by simp[hy])).next c)
def B4.at_ {n:Nat}{L L':List RP}(h:B4 n L L'):∃A p q B j,L=A++p::q::B/\j+1<n/\ai p.1 j<ai p.1 (j+1)/\ai q.2 (j+1)<ai q.2 j:=by
 induction h with
 | @here p q B j hj h1 h2=>exact⟨[],p,q,B,j,rfl,hj,h1,h2⟩
 | @next p _ _ _ ih=>
  obtain⟨A,x,q,B,j,e,r⟩:=ih;exact⟨p::A,x,q,B,j,by rw[e];rfl,r⟩
def abW{n:Nat}{L:List RP}(h:ym L.reverse)(hI:ck n L):Nf n L:=λL' s=>by
 obtain⟨A,p,q,B,j,e,hj,h1,h2⟩:=s.at_
 have hf:=h.at_ (A:=B.reverse) (B:=A.reverse) (p:=p) (q:=q) (by rw[e];simp)
 have:=(dX (hI p (by rw[e];simp)) (hI q (by rw[e];simp))).mp hf j hj h2;lia
def ZI{n:Nat}{p:RP}(ip:Iv n p.1 p.2):pI p (Zr n)=[]:=(dX ip (eM n)).mpr λj hj h=>by
 dsimp only at h;rw[aP hj,aP (by lia)]at h;lia
theorem Mm{n:Nat}:∀(k:Nat){R:List RP},ck n R->ym R->ym (aZ k (Zr n)++R)
 |0,R,_,h=>h
 |k+1,R,hI,h=>by
  have ih:=Mm k hI h;rw[gm,gF];cases e:aZ k (Zr n)++R with
  |nil=>trivial
  |cons p L=>
   rw[e]at ih;refine⟨ZI (n:=n) ?_,ih⟩;have:p∈aZ k (Zr n)++R:=by rw[e];simp
   rcases cu.mp this with h|h
   ·rw[(mZ.mp h).2];exact eM n
   ·exact hI p h
def vh(n:Nat)(L:List RP):List RP:=L.foldl (jt n) []
theorem Ky{n:Nat}(hn:n<=7):∀(L R:List RP),ck n L->wF n R->∃k,qY n (R++L) (L.foldl (jt n) R++aZ k (Zr n))/\wF n (L.foldl (jt n) R)
 |[],R,_,h=>⟨0,by simp_all only [bE,List.foldl_nil,xM];exact .nil _,h⟩
 |c::L,R,hI,h=>by
  have ic:=hI c (by simp);have We:ck n L:=λy hy=>hI y (by simp[hy]);obtain⟨k,s,g⟩:=Ky hn L (jt n R c) We (LZ hn (eM n) h ic);have s1:=PB R.reverse c (λy hy=>h.iv y (by simpa using hy)) ic;rw[kr,kJ]at s1;have s2:qY n (R++c::L) (zZ R c++L):=by
   have:=s1.Mj L;simp -implicitDefEqProofs only [bQ,ZJ]at this;exact this
  rw[zg]
  by_cases hd:(zZ R c).getLast?=aa (upTo n,upTo n)
  ·have e:jt n R c=(zZ R c).dropLast:=if_pos hd
   have e2:zZ R c=jt n R c++[Zr n]:=by
    rw[e];obtain⟨l,hl⟩:=OS.mp hd;rw[hl,List.dropLast_concat]
   refine⟨k+1,?_,g⟩;rw[e2,bQ,ZJ]at s2;refine s2.trans ((qY.app _ (Ml hn L We)).trans ?_);have:=s.Mj [Zr n];rw[bQ,bQ]at this;rw[ZK];exact this
  ·have e:jt n R c=zZ R c:=if_neg hd
   refine⟨k,?_,g⟩;rw[<-e]at s2;exact s2.trans s
def vj{n:Nat}(hn:n<=7){L:List RP}(hI:ck n L):∃k,qY n L (vh n L++aZ k (Zr n))/\wF n (vh n L):=
 Ky hn L [] hI ⟨(λx hx=>nomatch hx),trivial,(λx hx=>nomatch hx)⟩
def strip{n:Nat}{R:List RP}(h:wF n R)(k:Nat):(R++aZ k (Zr n)).filter (λx=>decide (x≠Zr n))=R:=by
 rw[Y9,List.filter_eq_self.mpr λx hx=>decide_eq_true (UC (h.ns x hx)),ZL.mpr λx hx=>by rw[(mZ.mp hx).2];simp,bE]
def aeL{n:Nat}(hn:n<=7){L L':List RP}(hI:ck n L)(s:qY n L L'):vh n L=vh n L':=by
 obtain⟨k,s1,g1⟩:=vj hn hI;obtain⟨k',s2,g2⟩:=vj hn (s.iv hI);have nf:∀{R:List RP}(j:Nat),wF n R->Nf n (R++aZ j (Zr n)):=λ{R} j g=>abW (by
  rw[n8,ZM];exact Mm j (λy hy=>g.iv y (by simpa using hy)) g.lw) λx hx=>by
   rcases cu.mp hx with h|h
   ·exact g.iv x h
   ·rw[(mZ.mp h).2];exact eM n
 have e:=Ve hn _ L (bf _) hI s1 (nf k g1) (s.trans s2) (nf k' g2);rw[<-strip g1 k,e,strip g2 k']
theorem ym.pre:∀{A B:List RP},ym (A++B)->ym A
 |[],_,_=>trivial
 |[_],_,_=>trivial
 |_::q::A,B,h=>⟨h.1,ym.pre (A:=q::A) (B:=B) h.2⟩
def Ii{l:List Int}{p:Nat}(h:p<l.length):ai l.reverse p=ai l (l.length-1-p):=by
 unfold ai;rw[uG h]
def Ij{n:Nat}(hn:n<=7){L R:List RP}{k:Nat}(hI:ck n L)(g:wF n R)(s:qY n L (R++aZ k (Zr n))):vh n L=R:=by
 obtain⟨j,s1,g1⟩:=vj hn hI;have nf:∀{R:List RP}(j:Nat),wF n R->Nf n (R++aZ j (Zr n)):=λ{R} j g=>abW (by
  rw[n8,ZM];exact Mm j (λy hy=>g.iv y (by simpa using hy)) g.lw) λx hx=>by
   rcases cu.mp hx with h|h
   ·exact g.iv x h
   ·rw[(mZ.mp h).2];exact eM n
 have e:=Ve hn _ L (bf _) hI s1 (nf j g1) s (nf k g);rw[<-strip g1 j,e,strip g k]
def ck.app {n:Nat}{A B:List RP}(a:ck n A)(b:ck n B):ck n (A++B):=λx hx=>(cu.mp hx).elim (a x) (b x)
def ck.one {n:Nat}{p:RP}(h:Iv n p.1 p.2):ck n [p]:=λx hx=>by rw[dC.mp hx];exact h
def ck.cons {n:Nat}{p:RP}{L:List RP}(h:Iv n p.1 p.2)(a:ck n L):ck n (p::L):=λx hx=>by
 rcases aX.mp hx with rfl|hx
 ·exact h
 ·exact a x hx
def ck.rep {n:Nat}{p:RP}(h:Iv n p.1 p.2)(k:Nat):ck n (aZ k p):=λx hx=>by rw[(mZ.mp hx).2];exact h
def PD{n:Nat}(hn:n<=7){A B:List RP}(hA:ck n A)(hB:ck n B):vh n (A++Zr n::B)=vh n (A++B):=by
 obtain⟨k,s,g⟩:=vj hn (hA.app hB);refine Ij (k:=k+1) hn (hA.app (.cons (eM n) hB)) g ?_;refine(qY.app A (Ml hn B hB)).trans ?_;have:=s.Mj [Zr n];rw[bQ,bQ]at this;rw[ZK];exact this
theorem Kz{n:Nat}(hn:n<=7){A B:List RP}(hA:ck n A)(hB:ck n B):∀k,vh n (A++(aZ k (Zr n)++B))=vh n (A++B)
 |0=>rfl
 |k+1=>by
  rw[gm,gF,PD hn hA (ck.app (.rep (eM n) k) hB),Kz hn hA hB k]
def wF.tail {n:Nat}{p:RP}{R:List RP}(h:wF n (p::R)):wF n R:=⟨λx hx=>h.iv x (by simp[hx]),by
 have:=h.lw;rw[kr]at this;exact this.pre,λx hx=>h.ns x (by simp[hx])⟩
theorem wF.drop {n:Nat}:∀(k:Nat){R:List RP},wF n R->wF n (R.drop k)
 |0,_,h=>h
 |_+1,[],h=>h
 |k+1,_::_,h=>wF.drop k h.tail
def gg{n t:Nat}(h:t<n):ai (upTo n).reverse t=(n:Int)-1-t:=by
 rw[Ii (by rw[aM];exact h),aM,aP (by lia)];lia
def pN(n:Nat):Iv n (gR n).1 (gR n).2:=by
 have h:∀p,p<n->0<=ai (upTo n).reverse p/\ai (upTo n).reverse p<n/\ai (upTo n).reverse (ai (upTo n).reverse p).toNat=p:=λp hp=>by
  rw[gg hp,gg (by lia)];lia
 have l:(upTo n).reverse.length=n:=by rw[bH,aM]
 exact⟨l,l,h,h⟩
def Vf{n:Nat}{q:RP}(iq:Iv n q.1 q.2):pI (gR n) q=[]:=(dX (pN n) iq).mpr λj hj _=>by
 show ai (upTo n).reverse (j+1)<ai (upTo n).reverse j;rw[gg hj,gg (by lia)];lia
def Vg{n:Nat}(h2:2<=n):OY n (gR n):=⟨0,by lia,by
 show ai (upTo n).reverse 1<ai (upTo n).reverse 0;rw[gg (by lia),gg (by lia)];lia⟩
theorem PF{p:RP}:∀{L:List RP},ym L->(∀q A,L=A++[q]->pI p q=[])->ym (L++[p])
 |[],_,_=>trivial
 |[q],_,h=>⟨h q [] rfl,trivial⟩
 |q::r::L,hl,h=>⟨hl.1,PF (L:=r::L) hl.2 λx A e=>h x (q::A) (by rw[e];rfl)⟩
def wF.half {n:Nat}(h2:2<=n){R:List RP}(h:wF n R):wF n (gR n::R):=⟨.cons (pN n) h.iv,by
 rw[kr];refine PF h.lw λq A e=>Vf (h.iv q ?_);have:q∈R.reverse:=by rw[e];simp
 simpa using this,λx hx=>by
  rcases aX.mp hx with rfl|hx
  ·exact Vg h2
  ·exact h.ns x hx⟩
def Vh{n:Nat}(hn:n<=7)(h2:2<=n){L:List RP}(hI:ck n L):vh n (gR n::L)=gR n::vh n L:=by
 obtain⟨k,s,g⟩:=vj hn hI;exact Ij (k:=k) hn (.cons (pN n) hI) (g.half h2) (s.next _)
def Vl(n:Nat)(h:Int)(L:List RP):Int×List RP:=(h+gf n (vh n L),(vh n L).drop (gf n (vh n L)))
def Q8{n:Nat}(C:List RP):gf n (gR n::C)=gf n C+1:=by
 unfold gf;rw[HX (by simp),bD]
def Di{n:Nat}(hn:n<=7)(h2:2<=n)(h:Int){L:List RP}(hI:ck n L):Vl n h (gR n::L)=Vl n (h+1) L:=by
 unfold Vl;rw[Vh hn h2 hI,Q8,O1];exact Prod.ext (by show h+((gf n (vh n L)+1:Nat):Int)=h+1+(gf n (vh n L):Nat);lia) rfl
theorem Bs{n:Nat}(hn:n<=7)(h2:2<=n){L:List RP}(hI:ck n L):∀(m:Nat)(h:Int),Vl n h (aZ m (gR n)++L)=Vl n (h+m) L
 |0,h=>by rw[xM,ky,Dh,rY]
 |m+1,h=>by
  rw[gm,gF,Di hn h2 h (ck.app (.rep (pN n) m) hI),Bs hn h2 hI m (h+1),show h+1+(m:Int)=h+((m+1:Nat):Int)by lia]
def Bt{n:Nat}(hn:n<=7)(h:Int){L L':List RP}(hI:ck n L)(s:qY n L L'):Vl n h L=Vl n h L':=by
 unfold Vl;rw[aeL hn hI s]
def Ik{n:Nat}(hn:n<=7)(h:Int){A B:List RP}(hA:ck n A)(hB:ck n B):Vl n h (A++Zr n::B)=Vl n h (A++B):=by
 unfold Vl;rw[PD hn hA hB]
def Il{n:Nat}(hn:n<=7)(h:Int){A B:List RP}(hA:ck n A)(hB:ck n B)(k:Nat):Vl n h (A++(aZ k (Zr n)++B))=Vl n h (A++B):=by
 unfold Vl;rw[Kz hn hA hB]
def Vi{n:Nat}(hn:n<=7)(h:Int){L:List RP}(hI:ck n L):∃m k:Nat,(Vl n h L).1=h+m/\ck n (Vl n h L).2/\qY n L (aZ m (gR n)++((Vl n h L).2++aZ k (Zr n))):=by
 obtain⟨k,s,g⟩:=vj hn hI;refine⟨gf n (vh n L),k,rfl,(wF.drop _ g).iv,?_⟩;have e:=D5 (n:=n) (vh n L);rw[<-bQ];show qY n L (aZ (gf n (vh n L)) (gR n)++(vh n L).drop (gf n (vh n L))++_);rw[<-e];exact s
def Mn{n:Nat}(hn:n<=7)(h2:2<=n)(h:Int){L B:List RP}(hI:ck n L)(hB:ck n B):Vl n h (L++B)=Vl n (Vl n h L).1 ((Vl n h L).2++B):=by
 obtain⟨m,k,e,hT,s⟩:=Vi hn h hI;rw[e,Bt hn h (hI.app hB) (s.Mj B),bQ,bQ,Bs hn h2 (ck.app hT (ck.app (.rep (eM n) k) hB))];exact Il hn _ hT hB k
def KA{n:Nat}{l:List Int}{p:Nat}(h:p<l.length):ai (fl n l) p=(n:Int)-1-ai l p:=by
 have:=gI h;unfold fl
 conv=>lhs;unfold ai
 rw[b8,this];rfl
def gu(n:Nat)(p:RP):RP:=(fl n p.1.reverse,fl n p.2.reverse)
def cH{n:Nat}{l:List Int}(hl:l.length=n){t:Nat}(h:t<n):ai (fl n l.reverse) t=(n:Int)-1-ai l (n-1-t):=by
 rw[KA (by rw[bH,hl];exact h),Ii (by rw[hl];exact h),hl]
def fV{n:Nat}{l:List Int}(hl:l.length=n):(fl n l.reverse).length=n:=by unfold fl;rw[aB,bH,hl]
def sM{n:Nat}{p:RP}(h:Iv n p.1 p.2):Iv n (gu n p).1 (gu n p).2:=by
 have g:∀{r s:List Int},Iv n r s->∀t,t<n->0<=ai (fl n r.reverse) t/\ai (fl n r.reverse) t<n/\ai (fl n s.reverse) (ai (fl n r.reverse) t).toNat=t:=λ{r s} h t ht=>by
  obtain⟨a,b,c⟩:=h.rs (n-1-t) (by lia);rw[cH h.lr ht];refine⟨by lia,by lia,?_⟩;rw[cH h.ls (by lia),show n-1-((n:Int)-1-ai r (n-1-t)).toNat=(ai r (n-1-t)).toNat by lia,c];lia
 exact⟨fV h.lr,fV h.ls,g h,g h.symm⟩
def Aw{n:Nat}{p:RP}(h:Iv n p.1 p.2):gu n (gu n p)=p:=by
 have g:∀{l:List Int},l.length=n->fl n (fl n l.reverse).reverse=l:=λ{l} hl=>cQ (by rw[fV (fV hl),hl]) λt ht=>by
  rw[fV (fV hl)]at ht;rw[cH (fV hl) ht,cH hl (by lia),show n-1-(n-1-t)=t by lia];lia
 exact Prod.ext (g h.lr) (g h.ls)
def PH{n:Nat}{l:List Int}(hl:l.length=n){j:Nat}(hj:j+1<n):fl n (iB l j).reverse=iB (fl n l.reverse) (n-2-j):=by
 have h1:(iB l j).length=n:=by rw[jq,hl]
 refine cQ (by rw[fV h1,jq,fV hl]) λt ht=>?_;rw[fV h1]at ht;rw[cH h1 ht,mC _ _ (by rw[hl];exact hj),mC _ _ (by rw[fV hl];lia),cH hl (by lia),cH hl (by lia),cH hl ht]
 by_cases c:t=n-2-j
 ·rw[if_pos c,if_neg (by lia),if_pos (by lia),show n-1-(n-2-j+1)=j by lia]
 ·rw[if_neg c]
  by_cases d:t=n-2-j+1
  ·rw[if_pos d,if_pos (by lia),show n-1-(n-2-j)=j+1 by lia]
  ·rw[if_neg d,if_neg (by lia),if_neg (by lia)]
def PJ{n:Nat}{l:List Int}(hl:l.length=n)(hb:∀t,t<n->0<=ai l t/\ai l t<n){j:Nat}(hj:j+1<n):fl n (wC l j).reverse=wC (fl n l.reverse) (n-2-j):=by
 have h1:(wC l j).length=n:=by rw[CZ,hl]
 refine cQ (by rw[fV h1,CZ,fV hl]) λt ht=>?_;rw[fV h1]at ht;have:=hb (n-1-t) (by lia);rw[cH h1 ht,cR (by rw[hl];lia),cR (by rw[fV hl];exact ht),cH hl ht];unfold sg
 repeat' split
 all_goals lia
def ZN{n:Nat}{p:RP}(h:Iv n p.1 p.2){j:Nat}(hj:j+1<n):gu n (vO p j)=vO (gu n p) (n-2-j):=
 Prod.ext (PH h.lr hj) (PJ h.ls (λt ht=>⟨(h.sr t ht).1,(h.sr t ht).2.1⟩) hj)
def ZO{n:Nat}{p:RP}(h:Iv n p.1 p.2){j:Nat}(hj:j+1<n):gu n (yQ p j)=yQ (gu n p) (n-2-j):=
 Prod.ext (PJ h.lr (λt ht=>⟨(h.rs t ht).1,(h.rs t ht).2.1⟩) hj) (PH h.ls hj)
theorem ck.gu {n:Nat}{L:List RP}(h:ck n L):ck n (L.map (DL.gu n)):=λx hx=>by
 obtain⟨y,hy,rfl⟩:=cC.mp hx;exact sM (h y hy)
theorem B4.gu {n:Nat}{L L':List RP}(h:B4 n L L'):ck n L->B4 n (L.map (DL.gu n)) (L'.map (DL.gu n)):=by
 induction h with
 | @here p q B j hj h1 h2=>
  intro hI;have ip:=hI p (by simp);have iq:=hI q (by simp);simp_all only [bw];rw[ZN ip hj,ZO iq hj];refine .here (by lia) ?_ ?_
  ·show ai (fl n p.1.reverse) (n-2-j)<ai (fl n p.1.reverse) (n-2-j+1)
   rw[cH ip.lr (by lia),cH ip.lr (by lia),show n-1-(n-2-j)=j+1 by lia,show n-1-(n-2-j+1)=j by lia];lia
  ·show ai (fl n q.2.reverse) (n-2-j+1)<ai (fl n q.2.reverse) (n-2-j)
   rw[cH iq.ls (by lia),cH iq.ls (by lia),show n-1-(n-2-j)=j+1 by lia,show n-1-(n-2-j+1)=j by lia];lia
 |next _ ih=>
  intro hI;exact .next (ih λy hy=>hI y (by simp[hy]))
theorem qY.gu {n:Nat}{L L':List RP}(h:qY n L L'):ck n L->qY n (L.map (DL.gu n)) (L'.map (DL.gu n)):=by
 induction h with
 |nil=>exact λ_=>.nil _
 |cons s _ ih=>exact λhI=>.cons (s.gu hI) (ih (s.iv hI))
def KC(n:Nat):gu n (gR n)=gR n:=by
 have:fl n (upTo n).reverse.reverse=(upTo n).reverse:=cQ (by rw[fV (by rw[bH,aM]),bH,aM]) λt ht=>by
  rw[fV (by rw[bH,aM])]at ht;rw[cH (by rw[bH,aM]) ht,gg (by lia),gg ht];lia
 exact Prod.ext this this
def ZP(n:Nat):gu n (Zr n)=Zr n:=by
 have:fl n (upTo n).reverse=upTo n:=cQ (by rw[fV (aM n),aM]) λt ht=>by
  rw[fV (aM n)]at ht;rw[cH (aM n) ht,aP (by lia),aP ht];lia
 exact Prod.ext this this
def Mp{n:Nat}(hn:n<=7)(h2:2<=n)(h:Int){L B:List RP}(hI:ck n L)(hB:ck n B)(d:Int):Vl n (h+d) (L.map (gu n)++B)=Vl n ((Vl n h L).1+d) ((Vl n h L).2.map (gu n)++B):=by
 obtain⟨m,k,e,hT,s⟩:=Vi hn h hI;have s2:=s.gu hI;simp -implicitDefEqProofs only [cj,PK,KC,ZP]at s2;rw[e,Bt hn _ (hI.gu.app hB) (s2.Mj B),bQ,bQ,Bs hn h2 (ck.app hT.gu (ck.app (.rep (eM n) k) hB)),show h+d+(m:Int)=h+m+d by lia];exact Il hn _ hT.gu hB k
def Im{n:Nat}{p q:RP}(h:Iv n p.1 p.2)(g:Iv n q.1 q.2)(e:∀t,t<n->ai p.2 t=ai q.2 t):p=q:=by
 have e2:p.2=q.2:=cQ (by rw[h.ls,g.ls]) λt ht=>e t (by rw[h.ls]at ht;exact ht);refine mE h g (Iv.uniq (n:=n) (s:=q.2) ?_ g);rw[<-e2];exact h
def Cf.all {n:Nat}{p q p' c' y:RP}(o:Cf n p q p' c' y)(ip:Iv n p.1 p.2){t:Nat}(ht:t<n):ai c'.2 (ai p'.2 t).toNat=ai q.2 (ai p.2 t).toNat:=by
 have:=ip.sr t ht;rw[o.pp t ht,o.pq _ (by lia)]
def KD{n:Nat}(hn:n<=7){p q:RP}(ip:Iv n p.1 p.2)(iq:Iv n q.1 q.2)(hd:∀t,t<n->ai q.2 (ai p.2 t).toNat=(n:Int)-1-t):gx 50 p q=(gR n,Zr n):=by
 have s:=kI hn ip iq (eM n);obtain⟨y,o⟩:=s.ex;have hp:(gx 50 p q).1=gR n:=mE s.ip (pN n) (Bg s.ip λj hj=>by
  obtain⟨a1,a2,a3⟩:=s.ip.rs j (by lia);obtain⟨b1,b2,b3⟩:=s.ip.rs (j+1) hj;have e1:=o.all ip (t:=(ai (gx 50 p q).1.1 j).toNat) (by lia);have e2:=o.all ip (t:=(ai (gx 50 p q).1.1 (j+1)).toNat) (by lia);rw[a3,bB,hd _ (by lia)]at e1;rw[b3,bB,hd _ (by lia)]at e2;refine kH λhc=>?_;have hne:ai (gx 50 p q).1.1 j≠ai (gx 50 p q).1.1 (j+1):=λz=>by rw[z,b3]at a3;lia
  have:=(dX s.ip s.ic).mp s.fr j hj (by lia);lia)
 refine Prod.ext hp (Im s.ic (eM n) λt ht=>?_);have e:=o.all ip (t:=n-1-t) (by lia);rw[hp,hd _ (by lia)]at e;change ai (gx 50 p q).2.2 (ai (upTo n).reverse (n-1-t)).toNat=_ at e;rw[gg (by lia),show((n:Int)-1-((n-1-t:Nat):Int)).toNat=t by lia]at e;show _=ai (upTo n) t;rw[aP ht,e];lia
def Vj{n:Nat}(hn:n<=7){c:RP}(ic:Iv n c.1 c.2):gx 50 c (gR n)=(gR n,gu n c):=by
 have s:=kI hn ic (pN n) (eM n);obtain⟨y,o⟩:=s.ex;have hd:∀t,t<n->ai (gx 50 c (gR n)).2.2 (ai (gx 50 c (gR n)).1.2 t).toNat=(n:Int)-1-ai c.2 t:=λt ht=>by
  have:=ic.sr t ht;rw[o.all ic ht];show ai (upTo n).reverse _=_;rw[gg (by lia)];lia
 have hp:(gx 50 c (gR n)).1=gR n:=mE s.ip (pN n) (Bg s.ip λj hj=>by
  obtain⟨a1,a2,a3⟩:=s.ip.rs j (by lia);obtain⟨b1,b2,b3⟩:=s.ip.rs (j+1) hj;have e1:=hd (ai (gx 50 c (gR n)).1.1 j).toNat (by lia);have e2:=hd (ai (gx 50 c (gR n)).1.1 (j+1)).toNat (by lia);rw[a3,bB]at e1;rw[b3,bB]at e2;refine kH λhc=>?_;have hne:ai (gx 50 c (gR n)).1.1 j≠ai (gx 50 c (gR n)).1.1 (j+1):=λz=>by rw[z,b3]at a3;lia
  have h3:¬ai (gx 50 c (gR n)).2.2 (j+1)<ai (gx 50 c (gR n)).2.2 j:=λz=>by
   have:=(dX s.ip s.ic).mp s.fr j hj z;lia
  generalize hs1:(ai (gx 50 c (gR n)).1.1 j).toNat=s1 at*;generalize hs2:(ai (gx 50 c (gR n)).1.1 (j+1)).toNat=s2 at*;obtain⟨u1,u2,u3⟩:=ic.sr s1 (by lia);obtain⟨v1,v2,v3⟩:=ic.sr s2 (by lia);have asC:ai c.2 s1≠ai c.2 s2:=λz=>by rw[z,v3]at u3;lia
  have p1:=o.pp s1 (by lia);have p2:=o.pp s2 (by lia);rw[a3]at p1;rw[b3]at p2;have:=o.ap (ai c.2 s2).toNat (ai c.2 s1).toNat (by lia) (by lia) (by lia);rw[u3,v3]at this;lia)
 refine Prod.ext hp (Im s.ic (sM ic) λt ht=>?_);have e:=hd (n-1-t) (by lia);rw[hp]at e;change ai (gx 50 c (gR n)).2.2 (ai (upTo n).reverse (n-1-t)).toNat=_ at e;rw[gg (by lia),show((n:Int)-1-((n-1-t:Nat):Int)).toNat=t by lia]at e;rw[e];exact(cH ic.ls ht).symm
theorem Io{n:Nat}(hn:n<=7):∀(L:List RP),ck n L->qY n (L++[gR n]) (gR n::L.map (gu n))
 |[],_=>.nil _
 |c::L,hI=>by
  have ic:=hI c (by simp);have r:=(yS (n:=n) 50 c (gR n) ic (pN n)).sts (L.map (gu n));rw[Vj hn ic]at r;exact((Io hn L λy hy=>hI y (by simp[hy])).next c).trans r
def yI(n:Nat)(r:RP):RP:=(fl n r.2,r.1.reverse)
def Eo{n:Nat}{r:RP}(h:Iv n r.1 r.2){t:Nat}(ht:t<n):ai (yI n r).1 t=(n:Int)-1-ai r.2 t:=KA (by rw[h.ls];exact ht)
def B5{n:Nat}{r:RP}(h:Iv n r.1 r.2){t:Nat}(ht:t<n):ai (yI n r).2 t=ai r.1 (n-1-t):=by
 show ai r.1.reverse t=_;rw[Ii (by rw[h.lr];exact ht),h.lr]
def iT{n:Nat}{r:RP}(h:Iv n r.1 r.2):Iv n (yI n r).1 (yI n r).2:=by
 refine⟨by show(fl n r.2).length=n;unfold fl;rw[aB,h.ls],by show r.1.reverse.length=n;rw[bH,h.lr],λt ht=>?_,λt ht=>?_⟩
 ·obtain⟨a,b,c⟩:=h.sr t ht
  rw[Eo h ht];refine⟨by lia,by lia,?_⟩;rw[B5 h (by lia),show n-1-((n:Int)-1-ai r.2 t).toNat=(ai r.2 t).toNat by lia,c]
 ·obtain⟨a,b,c⟩:=h.rs (n-1-t) (by lia)
  rw[B5 h ht];refine⟨a,b,?_⟩;rw[Eo h (by lia),c];lia
def Vk{n:Nat}(hn:n<=7){r:RP}(h:Iv n r.1 r.2):gx 50 (yI n r) r=(gR n,Zr n):=KD hn (iT h) h λt ht=>by
 rw[B5 h ht,(h.rs (n-1-t) (by lia)).2.2];lia
def Vm{n:Nat}(hn:n<=7){r:RP}(h:Iv n r.1 r.2):gx 50 (gu n r) (yI n r)=(gR n,Zr n):=KD hn (sM h) (iT h) λt ht=>by
 have e:ai (gu n r).2 t=(n:Int)-1-ai r.2 (n-1-t):=cH h.ls ht;obtain⟨a,b,c⟩:=h.sr (n-1-t) (by lia);rw[e,B5 h (by lia),show n-1-((n:Int)-1-ai r.2 (n-1-t)).toNat=(ai r.2 (n-1-t)).toNat by lia,c];lia
def Pa(n:Nat)(c:RP)(ω:Int×List RP):Int×List RP:=Vl n ω.1 (ω.2++[c])
def Ma(n:Nat)(r:RP)(ω:Int×List RP):Int×List RP:=Vl n (ω.1+ -1) (ω.2.map (gu n)++[yI n r])
structure Cv(n:Nat)(ω:Int×List RP):Prop where
 iv:ck n ω.2
 id:Vl n ω.1 ω.2=ω
def Vn{n:Nat}(hn:n<=7)(h:Int){L:List RP}(hI:ck n L):Cv n (Vl n h L):=by
 obtain⟨k,s,g⟩:=vj hn hI;have g2:=wF.drop (gf n (vh n L)) g;have e:vh n (Vl n h L).2=(Vl n h L).2:=Ij (k:=0) hn g2.iv g2 (by rw[xM,bE];exact .nil _);have c:gf n (Vl n h L).2=0:=by
  have hd:=Kg (n:=n) (vh n L);show gf n ((vh n L).drop (gf n (vh n L)))=0;cases e:(vh n L).drop (gf n (vh n L))with
  |nil=>rfl
  |cons p B=>
   unfold gf;rw[C5 (by simpa using hd p B e)];rfl
 refine⟨g2.iv,?_⟩;generalize Vl n h L=ω at e c;show(ω.1+((gf n (vh n ω.2):Nat):Int),(vh n ω.2).drop (gf n (vh n ω.2)))=ω;rw[e,c];exact Prod.ext (by show ω.1+((0:Nat):Int)=_;lia) rfl
section
variable{n:Nat}(hn:n<=7)(h2:2<=n)
include hn h2
theorem PL(h:Int){L:List RP}(hI:ck n L){c:RP}(ic:Iv n c.1 c.2):Vl n h (L++[c])=Pa n c (Vl n h L):=Mn hn h2 h hI (.one ic)
theorem abX(h:Int){L:List RP}(hI:ck n L){r:RP}(ir:Iv n r.1 r.2):Vl n (h+ -1) (L.map (gu n)++[yI n r])=Ma n r (Vl n h L):=Mp hn h2 h hI (.one (iT ir)) (-1)
theorem aid{ω:Int×List RP}(hc:Cv n ω){c:RP}(ic:Iv n c.1 c.2):Cv n (Pa n c ω):=Vn hn _ (hc.iv.app (.one ic))
theorem Vo{ω:Int×List RP}(hc:Cv n ω){r:RP}(ir:Iv n r.1 r.2):Cv n (Ma n r ω):=Vn hn _ (hc.iv.gu.app (.one (iT ir)))
theorem PN{ω:Int×List RP}(hc:Cv n ω){p q:RP}(ip:Iv n p.1 p.2)(iq:Iv n q.1 q.2)(e:gx 50 p q=(gR n,Zr n)):Vl n (ω.1+ -1) (ω.2.map (gu n)++[p,q])=ω:=by
 have r:=(yS (n:=n) 50 p q ip iq).sts [];rw[e]at r;have s2:=(Io hn (ω.2.map (gu n)) hc.iv.gu).Mj [Zr n];rw[bQ]at s2;have hf:(ω.2.map (gu n)).map (gu n)=ω.2:=by
  rw[eR]
  conv=>rhs;rw[<-x8 ω.2]
  exact mG λx hx=>Aw (hc.iv x hx)
 rw[hf]at s2;rw[Bt hn _ (hc.iv.gu.app (.cons ip (.one iq))) ((qY.app _ r).trans s2),gF,Di hn h2 _ (hc.iv.app (.one (eM n))),show ω.1+ -1+1=ω.1 by lia];have:=Ik (A:=ω.2) (B:=[]) hn ω.1 hc.iv (λx hx=>nomatch hx);rw[this,bE];exact hc.id
theorem abY{ω:Int×List RP}(hc:Cv n ω){r:RP}(ir:Iv n r.1 r.2):Ma n r (Pa n r ω)=ω:=by
 have e:Pa n r ω=Vl n ω.1 (ω.2++[r]):=rfl;rw[e,<-abX hn h2 ω.1 (hc.iv.app (.one ir)) ir,cj,bQ];exact PN hn h2 hc (sM ir) (iT ir) (Vm hn ir)
theorem abZ{ω:Int×List RP}(hc:Cv n ω){r:RP}(ir:Iv n r.1 r.2):Pa n r (Ma n r ω)=ω:=by
 have e:Ma n r ω=Vl n (ω.1+ -1) (ω.2.map (gu n)++[yI n r]):=rfl;rw[e,<-PL hn h2 _ (hc.iv.gu.app (.one (iT ir))) ir,bQ];exact PN hn h2 hc (iT ir) ir (Vk hn ir)
end
def Xr(n a:Nat):RP:=vO (Zr n) a
def Ay{n a:Nat}(h:a+1<n):Iv n (Xr n a).1 (Xr n a).2:=jd (p:=Zr n) (eM n) h
def aeM{n a:Nat}(h:a+1<n):yQ (Xr n a) a=Zr n:=by
 have iz:Iv n (Zr n).1 (Zr n).2:=eM n;refine Im (je (Ay h) h) iz λt ht=>?_;show ai (iB (wC (upTo n) a) a) t=ai (upTo n) t;rw[g8 (by rw[CZ,aM];exact h),cR (by rw[aM];exact D4 h ht),aP (D4 h ht),aP ht];unfold sw sg
 repeat' split
 all_goals lia
def aie{n a:Nat}(h:a+1<n):ai (Xr n a).2 (a+1)<ai (Xr n a).2 a:=by
 show ai (wC (upTo n) a) (a+1)<ai (wC (upTo n) a) a;rw[cR (by rw[aM];exact h),cR (by rw[aM];lia),aP h,aP (by lia)];unfold sg
 repeat' split
 all_goals lia
def aeN{n:Nat}(hn:n<=7)(h2:2<=n){ω:Int×List RP}(hc:Cv n ω){c:RP}(ic:Iv n c.1 c.2){a:Nat}(ha:a+1<n)(hu:ai c.1 a<ai c.1 (a+1)):Pa n (Xr n a) (Pa n c ω)=Pa n (vO c a) ω:=by
 have e:Pa n c ω=Vl n ω.1 (ω.2++[c]):=rfl;rw[e,<-PL hn h2 ω.1 (hc.iv.app (.one ic)) (Ay ha),bQ];have s:qY n [c,Xr n a] [vO c a,Zr n]:=by
  have:=B4.here (B:=[]) ha hu (aie ha);rw[aeM ha]at this;exact .cons this (.nil _)
 rw[show[c]++[Xr n a]=[c,Xr n a]from rfl,Bt hn ω.1 (hc.iv.app (.cons ic (.one (Ay ha)))) (qY.app ω.2 s)];have:=Ik (A:=ω.2++[vO c a]) (B:=[]) hn ω.1 (hc.iv.app (.one (jd ic ha))) (λx hx=>nomatch hx);rw[bQ,bE]at this;exact this
def ab0(n:Nat)(f:Nat->Nat):S n (λi=>f (n-1-i))=S n f:=by
 induction n with
 |zero=>rfl
 |succ n ih=>
  rw[OE,pH,<-ih];rw[show n+1-1-0=n by lia,Xm];congr 1;exact kF λi _=>by rw[show n+1-1-(i+1)=n-1-i by lia]
def T2(n:Nat):Nat:=S n λq=>S n λp=>if p<q then 1 else 0
def Mq{n:Nat}{r s:List Int}(h:Iv n r s):kG (fl n s)+kG s=T2 n:=by
 rw[F8,F8,vg,h.ls,<-JZ];unfold T2;refine kF λq hq=>?_;rw[<-JZ];refine kF λp hp=>?_
 by_cases hpq:p<q
 ·rw[if_pos hpq,if_pos hpq,if_pos hpq,Au (by rw[h.ls];exact hq),Au (by rw[h.ls];exact hp)]
  have hne:ai s p≠ai s q:=λz=>by
   have:=h.RV hp hq z;lia
  repeat' split
  all_goals lia
 ·rw[if_neg hpq,if_neg hpq,if_neg hpq]
def PQ{n:Nat}{r s:List Int}(h:Iv n r s):kG s.reverse+kG s=T2 n:=by
 have e1:kG s.reverse=S n λq=>S n λp=>if p<q then(if ai s p<ai s q then 1 else 0)else 0:=by
  rw[F8,bH,h.ls,Ul n n λq p=>if p<q then(if ai s p<ai s q then 1 else 0)else 0,<-ab0 n λp=>S n λq=>if p<q then(if ai s p<ai s q then 1 else 0)else 0];refine kF λq hq=>?_;rw[<-ab0 n λq_1=>if n-1-q<q_1 then(if ai s (n-1-q)<ai s q_1 then 1 else 0)else 0];refine kF λp hp=>?_;rw[jI (by rw[h.ls];exact hq),jI (by rw[h.ls];exact hp),h.ls]
  by_cases hpq:p<q
  ·have hq2:n-1-q<n-1-p:=by lia
   rw[if_pos hpq,if_pos hq2]
  ·have hq2:¬n-1-q<n-1-p:=by lia
   rw[if_neg hpq,if_neg hq2]
 rw[e1,F8,h.ls,<-JZ];unfold T2;refine kF λq hq=>?_;rw[<-JZ];refine kF λp hp=>?_
 by_cases hpq:p<q
 ·rw[if_pos hpq,if_pos hpq,if_pos hpq]
  have hne:ai s p≠ai s q:=λz=>by
   have:=h.RV hp hq z;lia
  repeat' split
  all_goals lia
 ·rw[if_neg hpq,if_neg hpq,if_neg hpq]
def Wm(k:Int):Int:=if 0<k then 1 else-1
def Bu(w:List Int):Int:=(w.map Wm).sum
def Ip(a b:List Int):Bu (a++b)=Bu a+Bu b:=by unfold Bu;rw[cj,OD]
def rm(h:Int)(o:List Int):List Int:=if h%2=0 then o else o.reverse
def KG(h:Int)(o:List Int):(rm h o).length=o.length:=by unfold rm;split<;>simp
def jY(o r:List Int):(cmp o r).length=r.length:=by unfold cmp;exact aB _
theorem PR:∀(w o:List Int),(ph w o).length=o.length
 |[],o=>rfl
 |k::w,o=>by
  show(ph w (iB o _)).length=_;rw[PR w,jq]
def aeO{n:Nat}{o:List Int}(h:o.length=n):cmp o (upTo n)=o:=by
 refine cQ (by rw[jY,aM,h]) λt ht=>?_;rw[jY,aM]at ht;rw[ik (by rw[aM];exact ht),aP ht,bB]
def PU{n:Nat}{o:List Int}(h:o.length=n)(w:List Int):ph w o=cmp o (ph w (upTo n)):=by
 conv=>lhs;rw[<-aeO h]
 unfold cmp;exact Ie _ w _
def Az(a b o:List Int):ph (a++b) o=ph b (ph a o):=uR
def aeP{n:Nat}{o r s:List Int}(h:o.length=n)(i:Iv n r s):cmp o.reverse (fl n s)=cmp o s:=by
 refine cQ (by rw[jY,jY,vg]) λt ht=>?_;rw[jY,vg,i.ls]at ht;obtain⟨a1,a2,_⟩:=i.sr t ht;rw[ik (by rw[vg,i.ls];exact ht),ik (by rw[i.ls];exact ht),Au (by rw[i.ls];exact ht),jI (by rw[h];lia),h];congr 1;lia
def Vp{n:Nat}{r s:List Int}(h:Iv n r s)(hr:Iv n r.reverse (vP r.reverse)):kG (fl n r.reverse)=kG r:=by
 have e1:=Mq hr.symm;have e2:=PQ h.symm;lia
def KH{n:Nat}{o r s:List Int}(h:o.length=n)(i:Iv n r s):cmp o.reverse (fl n r.reverse)=(cmp o r).reverse:=by
 refine cQ (by rw[jY,vg,bH,bH,jY]) λt ht=>?_;rw[jY,vg,bH,i.lr]at ht;obtain⟨a1,a2,_⟩:=i.rs (n-1-t) (by lia);have e1:ai r.reverse t=ai r (n-1-t):=by rw[jI (by rw[i.lr];exact ht),i.lr]
 have e2:ai (cmp o r).reverse t=ai (cmp o r) (n-1-t):=by rw[jI (by rw[jY,i.lr];exact ht),jY,i.lr]
 rw[ik (by rw[vg,bH,i.lr];exact ht),Au (by rw[bH,i.lr];exact ht),e1,e2,jI (by rw[h];lia),h,ik (by rw[i.lr];lia)];congr 1;lia
def pW(n:Nat)(h:Int)(r:List Int):List Int:=if h%2=0 then r else fl n r.reverse
def Q9{n:Nat}(h:Int){r:List Int}(hr:bx n r):bx n (pW n h r):=by
 unfold pW;split
 ·exact hr
 ·exact Vb (Pw hr)
def Ra{n:Nat}(h:Int){r:List Int}(hr:bx n r):kG (pW n h r)=kG r:=by
 unfold pW;split
 ·rfl
 ·exact Vp (mH hr) (mH (Pw hr))
def Rb{n:Nat}(h g:Int){o r:List Int}(ho:o.length=n)(hr:bx n r):cmp (rm (g+h) o) (pW n h r)=rm h (cmp (rm g o) r):=by
 unfold pW rm
 by_cases c:h%2=0
 ·rw[if_pos c,if_pos c]
  by_cases d:g%2=0
  ·rw[if_pos d,if_pos (by lia)]
  ·rw[if_neg d,if_neg (by lia)]
 ·rw[if_neg c,if_neg c]
  by_cases d:g%2=0
  ·rw[if_pos d,if_neg (by lia),KH ho (mH hr)]
  ·rw[if_neg d,if_pos (by lia)]
   have:=KH (o:=o.reverse) (by rw[bH];exact ho) (mH hr);rw[kJ]at this;exact this
abbrev hS(qs:List (Int×List Int)):Int:=(qs.map (·.1)).sum
def eO(n:Nat):List (Int×List Int)->List (List Int)
 |[]=>[]
 |q::qs=>pW n (hS qs) q.2::eO n qs
def Vq(o:List Int)(qs:List (Int×List Int)):List Int:=qs.foldl (λo q=>cmp (rm q.1 o) q.2) o
theorem x9(n:Nat):∀qs,(eO n qs).length=qs.length
 |[]=>rfl
 |q::qs=>by show(eO n qs).length+1=_;rw[x9 n qs];rfl
theorem Bv{n:Nat}:∀(qs:List (Int×List Int)),(∀q∈qs,bx n q.2)->∀r∈eO n qs,bx n r
 |[],_,r,hr=>nomatch hr
 |q::qs,h,r,hr=>by
  rcases aX.mp hr with rfl|hr
  ·exact Q9 _ (h q (by simp))
  ·exact Bv qs (λx hx=>h x (by simp[hx])) r hr
theorem Gj{n:Nat}:∀(qs:List (Int×List Int))(o:List Int),(∀q∈qs,bx n q.2)->o.length=n->Fi (rm (hS qs) o) (eO n qs)=Vq o qs
 |[],o,_,_=>by
  show rm 0 o=o;rfl
 |q::qs,o,h,ho=>by
  have hq:=h q (by simp);have ih:=Gj qs (cmp (rm q.1 o) q.2) (λx hx=>h x (by simp[hx])) (by rw[jY,hq.len]);show Fi (cmp (rm (hS (q::qs)) o) (pW n (hS qs) q.2)) (eO n qs)=Vq (cmp (rm q.1 o) q.2) qs;rw[<-ih,show hS (q::qs)=q.1+hS qs from rfl,Rb _ _ ho hq]
theorem Gk{n:Nat}:∀(qs:List (Int×List Int)),(∀q∈qs,bx n q.2)->qx (eO n qs)=qx (qs.map (·.2))
 |[],_=>rfl
 |q::qs,h=>by
  have ih:=Gk qs λx hx=>h x (by simp[hx]);have e:∀(r:List Int)(R:List (List Int)),qx (r::R)=kG r+qx R:=λr R=>by unfold qx;rw[bw,qe]
  show qx (pW n (hS qs) q.2::eO n qs)=qx (q.2::qs.map (·.2));rw[e,e,ih,Ra _ (h q (by simp))]
abbrev rf(k:Int):Int:=if k<0 then-k else k
def PV{n:Nat}{k:Int}(h:gH n k):∃a:Nat,rf k=(a:Int)+1/\a+1<n:=by
 unfold gH at h;unfold rf;split
 ·exact⟨(-k-1).toNat,by lia,by lia⟩
 ·exact⟨(k-1).toNat,by lia,by lia⟩
def Vr{n:Nat}{p:List Int}(h:∀k∈p,gH n k):Ps n (p.map rf):=λk hk=>by
 obtain⟨x,hx,rfl⟩:=cC.mp hk;exact PV (h x hx)
def Vs(a b:Bool):BU (.bl a) (.bl b)=aa (.bl (!(a==b))):=rfl
def ZQ:CO []=aa []:=rfl
def KI{α:Type}(l:List α)(x y:α):(l++[x]).set l.length y=l++[y]:=by simp
structure Gp(n:Nat)(p:List Int):Prop where
 ne:p≠[]
 x:∀k∈p,gH n k
 sg:(∀k∈p,0<k)\/∀k∈p,k<0
 le:∃z,fZ (p.map rf) (upTo n)=aa z
def Mx(n:Nat):List (List Int)->Prop
 |p::q::B=>(∀k q',q=k::q'->¬Gp n (p++[k]))/\Mx n (q::B)
 |_=>True
theorem Mx.snoc {n:Nat}{k:Int}:∀{A:List (List Int)}{p:List Int},Mx n (A++[p])->¬Gp n (p++[k])->Mx n (A++[p]++[[k]])
 |[],p,_,h=>⟨λx q e=>by cases e;exact h,trivial⟩
 |[a],p,g,h=>⟨g.1,λx q e=>by cases e;exact h,trivial⟩
 |a::b::A,p,g,h=>⟨g.1,Mx.snoc (A:=b::A) g.2 h⟩
theorem Mx.last {n:Nat}{k:Int}:∀{A:List (List Int)}{p:List Int},p≠[]->Mx n (A++[p])->Mx n (A++[p++[k]])
 |[],p,_,_=>trivial
 |[a],p,hp,g=>⟨λx q e=>by
  cases p with
  |nil=>exact absurd rfl hp
  |cons y p=>cases e;exact g.1 _ _ rfl,trivial⟩
 |a::b::A,p,hp,g=>⟨g.1,Mx.last (A:=b::A) hp g.2⟩
structure aeQ(n i:Nat)(u:List Int)(lN:List (List Int))(o:List Int)(s:Bool):Prop where
 len:lN.length<=i
 lo:o.length=n
 good:∀p∈lN,Gp n p/\p.length<=i
 fla:lN.flatten=u
 mx:Mx n lN
 last:lN=[]\/∃ini cur,lN=ini++[cur]/\(∀k∈cur,s=decide (0<k))/\fZ (cur.map rf) (upTo n)=aa o
def Dj{i:Nat}{env:DE}{a v:Int}{l:List Int}(h:0<=a)(h2:a<l.length):JB i env (.int v) (aW l) (.int a)=.ok (.nx (env.set i (.own (aW (l.set a.toNat v))))):=by
 rw[JC h (by rw[cM];exact h2)];unfold aW;rw[zJ]
def PX{l:List Int}{a:Nat}(h:a+1<l.length):(l.set (a+1) (ai l a)).set a (ai l (a+1))=iB l a:=by
 refine cQ (by rw[jP,jP,jq]) λj hj=>?_;rw[jP,jP]at hj;rw[D0 (by rw[jP];exact hj),D0 hj,mC _ _ h]
 repeat' split
 all_goals first|rfl|lia|(subst_vars;rfl)
def aeR{n i:Nat}(hn:n<=7)(hi:i<1000){lN:List (List Int)}{o:List Int}{s:Bool}{u:List Int}(J:aeQ n i u lN o s){k:Int}(hk:gH n k)(s1 s5 s6 s7:Sl):
  ∃aif o' s' t5 t6 t7,wq (.int k) [.val (.int n),s1,.deep (.ls lN),.own (aW o),.val (.bl s),s5,s6,s7]=.ok (.nx [.val (.int n),s1,.deep (.ls aif),.own (aW o'),.val (.bl s'),t5,t6,t7])/\aeQ n (i+1) (u++[k]) aif o' s':=by
 obtain⟨a,ea,ha⟩:=PV hk;have lo:=J.lo;have hlen:=J.len;have at1:jJ (aW o) ((a:Int)+1-1)=aa (.int (ai o a)):=by rw[g7 (by lia) (by lia),show((a:Int)+1-1).toNat=a by lia]
 have at2:jJ (aW o) ((a:Int)+1)=aa (.int (ai o (a+1))):=by rw[g7 (by lia) (by lia),show((a:Int)+1).toNat=a+1 by lia]
 have ku:jJ (aW (upTo n)) ((a:Int)+1-1)=aa (.int (ai (upTo n) a)):=by rw[g7 (by lia) (by rw[aM];lia),show((a:Int)+1-1).toNat=a by lia]
 have ku2:jJ (aW (upTo n)) ((a:Int)+1)=aa (.int (ai (upTo n) (a+1))):=by rw[g7 (by lia) (by rw[aM];lia),show((a:Int)+1).toNat=a+1 by lia]
 have hgk:Gp n [k]:=⟨by simp,λx hx=>by rw[dC.mp hx];exact hk,by
  unfold gH at hk
  by_cases c:0<k
  ·exact .inl λx hx=>by rw[dC.mp hx];exact c
  ·exact .inr λx hx=>by rw[dC.mp hx];lia,⟨iB (upTo n) a,by
   show fZ [rf k] (upTo n)=_;rw[ea,jX (n:=n),if_neg (by rw[aP (by lia),aP (by lia)];lia)];rfl⟩⟩
 have hkl:fZ [rf k] (upTo n)=aa (iB (upTo n) a):=by
  rw[ea,jX (n:=n),if_neg (by rw[aP (by lia),aP (by lia)];lia)];rfl
 by_cases hnew:lN=[]\/s≠decide (0<k)\/ai o (a+1)<ai o a
 ·have hmx:Mx n (lN++[[k]]):=by
   rcases J.last with rfl|⟨ini,cur,rfl,hs,hl⟩
   ·trivial
   ·refine Mx.snoc J.mx λgp=>?_
    obtain⟨gc,_⟩:=J.good cur (by simp);rcases hnew with h|h|h
    ·simp at h
    ·obtain⟨y,aih,ec⟩:∃y aih,cur=y::aih:=by
      cases cur with
      |nil=>exact absurd rfl gc.ne
      |cons y c=>exact⟨y,c,rfl⟩
     have hy:=hs y (by rw[ec];simp);refine h ?_;rw[hy];rcases gp.sg with z|z
     ·rw[decide_eq_true (z y (by rw[ec];simp)),decide_eq_true (z k (by simp))]
     ·have z1:=z y (by rw[ec];simp)
      have z2:=z k (by simp);rw[decide_eq_false (show¬0<y by lia),decide_eq_false (show¬0<k by lia)]
    ·obtain⟨q,hq⟩:=gp.le
     rw[cj,bw,ji,Bq,hl,ea]at hq;have RH:fZ [(a:Int)+1] o=aa q:=hq;rw[jX (n:=n),if_pos h]at RH;cases RH
  refine⟨lN++[[k]],iB (upTo n) a,decide (0<k),.val (.int k),.val (.int ((a:Int)+1)),.val (.int (ai (upTo n) (a+1))),?_,⟨by simp;lia,by rw[jq,aM],λp hp=>?_,by rw[rK,J.fla];simp,hmx,.inr ⟨lN,[k],rfl,λx hx=>by rw[dC.mp hx],hkl⟩⟩⟩
  ·have Vt:(if(((lN.length:Nat):Int)==0)=true then R.ok true else if(!(s==decide (0<k)))=true then R.ok true else R.ok (decide (ai o (a+1)<ai o a)):R Bool)=.ok true:=by
    rcases hnew with h|h|h
    ·rw[if_pos (by rw[h];rfl)]
    ·split
     ·rfl
     ·rw[if_pos (by simpa using h)]
    ·rw[decide_eq_true h]
     repeat' split
     all_goals rfl
   unfold wq;dsimp [mS,mD,mF,dH,aN,reduceAdd,reduceSub,reduceEqDiff,j8,Vd,Vs,ea,at1,at2,aB,Vt,qW,qX,ZQ];rw[Py (by lia)];dsimp [mS,mD,mF,dH,aN,reduceAdd,reduceSub,reduceEqDiff,qW,qX,Br];rw[o9 n hn];dsimp [mS,mD,mF,dH,aN,reduceAdd,reduceSub,reduceEqDiff,qW,qX,Br];rw[Px (by simp)];dsimp [mS,mD,mF,dH,aN,reduceAdd,reduceSub,reduceEqDiff,ku,ku2];rw[Dj (by lia) (by rw[aM];lia)];dsimp [mS,mD,mF,dH,aN,reduceAdd,reduceSub,reduceEqDiff];rw[Dj (by lia) (by rw[jP,aM];lia)];dsimp [mS,mD,mF,dH,aN,reduceAdd,reduceSub,reduceEqDiff];rw[show((a:Int)+1).toNat=a+1 by lia,show((a:Int)+1-1).toNat=a by lia,PX (by rw[aM];lia),KI]
  ·rcases cu.mp hp with h|h
   ·exact⟨(J.good p h).1,by have:=(J.good p h).2;lia⟩
   ·rw[dC.mp h]
    exact⟨hgk,by simp⟩
 ·have h1:lN≠[]:=λz=>hnew (.inl z)
  have h2:s=decide (0<k):=kH λz=>hnew (.inr (.inl z));have h3:¬ai o (a+1)<ai o a:=λz=>hnew (.inr (.inr z));obtain⟨ini,cur,rfl,hs,hl⟩:=J.last.resolve_left h1;obtain⟨gc,gl⟩:=J.good cur (by simp);have aii:fZ ((cur++[k]).map rf) (upTo n)=aa (iB o a):=by
   rw[cj,bw,ji,Bq,hl,ea];show fZ [(a:Int)+1] o=_;rw[jX (n:=n),if_neg h3];rfl
  refine⟨ini++[cur++[k]],iB o a,s,.val (.int k),.val (.int ((a:Int)+1)),.val (.int (ai o (a+1))),?_,⟨by simp at hlen⊢;lia,by rw[jq,lo],λp hp=>?_,by have:=J.fla;rw[rK]at this⊢;rw[<-this];simp,Mx.last gc.ne J.mx,.inr ⟨ini,cur++[k],rfl,λx hx=>?_,aii⟩⟩⟩
  ·have Vt:(if((((ini++[cur]).length:Nat):Int)==0)=true then R.ok true else if(!(s==decide (0<k)))=true then R.ok true else R.ok (decide (ai o (a+1)<ai o a)):R Bool)=.ok false:=by
    rw[if_neg (by simp;lia),h2,if_neg (by simp),decide_eq_false h3]
   unfold wq;dsimp [mS,mD,mF,dH,aN,reduceAdd,reduceSub,reduceEqDiff,j8,Vd,Vs,ea,at1,at2,aB,Vt,qW,qX,Br];rw[Px (by lia)];dsimp [mS,mD,mF,dH,aN,reduceAdd,reduceSub,reduceEqDiff,at1,at2];rw[Dj (by lia) (by lia)];dsimp [mS,mD,mF,dH,aN,reduceAdd,reduceSub,reduceEqDiff];rw[Dj (by lia) (by rw[jP];lia)];dsimp [mS,mD,mF,dH,aN,reduceAdd,reduceSub,reduceEqDiff];rw[show((a:Int)+1).toNat=a+1 by lia,show((a:Int)+1-1).toNat=a by lia,PX (by lia),KI]
  ·rcases cu.mp hp with h|h
   ·exact⟨(J.good p (by simp[h])).1,by have:=(J.good p (by simp[h])).2;lia⟩
   ·rw[dC.mp h]
    refine⟨⟨by simp,λx hx=>?_,?_,⟨_,aii⟩⟩,by rw[bO,nT];lia⟩
    ·rcases cu.mp hx with q|q
     ·exact gc.x x q
     ·rw[dC.mp q];exact hk
    ·have XA:=hk
     unfold gH at XA
     by_cases c:0<k
     ·refine .inl λx hx=>?_
      rcases cu.mp hx with q|q
      ·have:=hs x q
       rw[h2,decide_eq_true c]at this;exact of_decide_eq_true this.symm
      ·rw[dC.mp q];exact c
     ·refine .inr λx hx=>?_
      rcases cu.mp hx with q|q
      ·have:=hs x q
       rw[h2,decide_eq_false c]at this;have:=of_decide_eq_false this.symm;have:=(gc.x x q).1;lia
      ·rw[dC.mp q];lia
  ·rcases cu.mp hx with q|q
   ·exact hs x q
   ·rw[dC.mp q];exact h2
def aeS{n:Nat}(hn:n<=7){w:List Int}(hw:∀k∈w,gH n k)(hl:w.length<=1000):∃lN:List (List Int),JV [.int n,.lst (aW w)]=.ok lN/\lN.flatten=w/\lN.length<=w.length/\(∀p∈lN,Gp n p/\p.length<=w.length)/\Mx n lN:=by
 unfold JV abp mT;dsimp [mS,mD,mF,dH,aN,reduceAdd,reduceSub,reduceEqDiff];rw[o9 n hn];dsimp;obtain⟨⟨lN,o,s,t5,t6,t7⟩,e,hj⟩:=A5 (S:=List (List Int)×List Int×Bool×Sl×Sl×Sl) (b:=wq) (λi q=>aeQ n i (w.take i) q.1 q.2.1 q.2.2.1)
  (λq=>[.val (.int n),.val (.lst (aW w)),.deep (.ls q.1),.own (aW q.2.1),.val (.bl q.2.2.1),q.2.2.2.1,q.2.2.2.2.1,q.2.2.2.2.2]) (aW w) 0 ([],upTo n,false,.no,.no,.no)
  ⟨bf _,aM n,(λp hp=>nomatch hp),rfl,trivial,.inl rfl⟩ (by
   rintro j ⟨lN,o,s,t5,t6,t7⟩ x hs hx;obtain⟨k,hk,rfl⟩:=Ow hx;have Zu:j<w.length:=(bG.mp hk).1;obtain⟨p1,o1,s1,u5,u6,u7,e,hJ⟩:=aeR hn (show 0+j<1000 by lia) hs (hw k (dJ hk)) (.val (.lst (aW w))) t5 t6 t7;refine⟨(p1,o1,s1,u5,u6,u7),e,?_⟩;rw[jR]at hJ⊢;rw[JP hk];exact hJ)
 dsimp only at e hj;rw[e];rw[jR,cM]at hj;dsimp [qW,qX,TH];exact⟨lN,rfl,by rw[hj.fla,zH],hj.len,hj.good,hj.mx⟩
def Gm(w:List Int)(hw:w.length<=1000):qE [.lst (aW w)]=.ok (aW (w.reverse.map λk=> -k)):=by
 unfold qE JS;dsimp [mS,mD,mF,dH,aN,reduceAdd,reduceSub,reduceEqDiff,HB,iW];rw[uP (λk=> -k) w.reverse λk _=>⟨_,j8 _ _ _,rfl,rfl⟩];dsimp [R.j6];rw[gq (by rw[aB,bH];lia)];dsimp [mr]
def Ck(q:Int×List Int):D:=.tup [.int q.1,.lst (aW q.2)]
def SpA(n:Nat)(p:List Int)(q:Int×List Int):Prop:=(q.1=0/\(∀k∈p,0<k)/\fZ p (upTo n)=aa q.2)\/(q.1= -1/\(∀k∈p,k<0)/\∃z,fZ (p.reverse.map λk=> -k) (upTo n)=aa z/\Iv n z (ph (p.map rf) (upTo n))/\q.2=fl n (ph (p.map rf) (upTo n)))
structure StP(n:Nat)(p:List Int)(q:Int×List Int):Prop where
 h:q.1=0\/q.1= -1
 r:bx n q.2
 o:∀o:List Int,o.length=n->cmp (rm q.1 o) q.2=ph (p.map rf) o
 c:q.1*(T2 n:Int)+(kG q.2:Int)=Bu p
 a:SpA n p q
theorem Vu:∀{p:List Int},(∀k∈p,0<k)->Bu p=p.length
 |[],_=>rfl
 |k::p,h=>by
  have ih:=Vu (p:=p) λx hx=>h x (by simp[hx]);unfold Bu at ih⊢;rw[bw,qe,ih,bD];unfold Wm;rw[if_pos (h k (by simp))];lia
theorem Vv:∀{p:List Int},(∀k∈p,k<0)->Bu p= -(p.length:Int)
 |[],_=>rfl
 |k::p,h=>by
  have ih:=Vv (p:=p) λx hx=>h x (by simp[hx]);have:=h k (by simp);unfold Bu at ih⊢;rw[bw,qe,ih,bD];unfold Wm;rw[if_neg (by lia)];lia
def ZR{n:Nat}(hn:n<=7){p:List Int}(g:Gp n p)(hl:p.length<=1000):∃q,tN [.int n,.lst (aW p)]=.ok (Ck q)/\StP n p q:=by
 obtain⟨k0,p',rfl⟩:=List.exists_cons_of_ne_nil g.ne;obtain⟨z,hz⟩:=g.le;have hp:=Vr g.x;have at0:jJ (aW (k0::p')) 0=aa (.int k0):=by rw[Hv,Oh (by decide)];rfl
 unfold tN F7;dsimp [mS,mD,mF,dH,aN,reduceAdd,reduceSub,reduceEqDiff,at0];rcases g.sg with hs|hs
 ·have e:(k0::p').map rf=k0::p':=by
   conv=>rhs;rw[<-x8 (k0::p')]
   refine mG λx hx=>?_;have:=hs x hx;show(if x<0 then-x else x)=x;rw[if_neg (by lia)]
  rw[e]at hp hz;dsimp [mS,mD,mF,dH,aN,reduceAdd,reduceSub,reduceEqDiff,decide_eq_true (hs k0 (by simp)),Gg hn hp hz];obtain⟨w1,w2⟩:=tY (k0::p') _ _ z hp (qV n) hz;refine⟨(0,z),rfl,⟨.inl rfl,nJ (Pu hp hz),λo ho=>?_,?_,.inl ⟨rfl,hs,hz⟩⟩⟩
  ·rw[e,PU ho,<-w1]
   rfl
  ·rw[Vu hs]
   dsimp only;rw[w2,Va n (by lia)];lia
 ·have e:(k0::p').map rf=(k0::p').map λk=> -k:=mG λx hx=>by
   have:=hs x hx;show(if x<0 then-x else x)= -x;rw[if_pos this]
  rw[e]at hp hz;have hk0:=hs k0 (by simp);have hr:=Kv hp hz;rw[<-mw]at hr;have hp2:Ps n ((k0::p').reverse.map λk=> -k):=λx hx=>hp x (by
   rw[mw,uJ]at hx;exact hx)
  dsimp [mS,mD,mF,dH,aN,reduceAdd,reduceSub,reduceEqDiff,decide_eq_false (show¬0<k0 by lia),Gm _ hl,Gg hn hp2 hr];have iv:=Pu hp2 hr;unfold fY sF;dsimp [mS,mD,mF,dH,aN,reduceAdd,reduceSub,reduceEqDiff,Gf iv hn];have es:ph ((k0::p').reverse.map λk=> -k).reverse (upTo n)=ph ((k0::p').map rf) (upTo n):=by rw[e,mw,kJ]
  rw[es]at iv⊢;obtain⟨w1,w2⟩:=tY ((k0::p').map λk=> -k) _ _ z hp (qV n) hz;rw[<-e]at w1;refine⟨(-1,fl n (ph ((k0::p').map rf) (upTo n))),rfl,⟨.inr rfl,Vb (nJ iv.symm),λo ho=>?_,?_,.inr ⟨rfl,hs,_,hr,iv,rfl⟩⟩⟩
  ·show cmp o.reverse (fl n (ph ((k0::p').map rf) (upTo n)))=_
   rw[aeP ho iv,<-PU ho]
  ·rw[Vv hs]
   dsimp only;have e1:=Mq iv;rw[<-w1]at e1⊢;rw[w2,Va n (by lia),aB]at e1;lia
theorem KJ:∀(a b o z:List Int),fZ (a++b) o=aa z->∃z',fZ a o=aa z'
 |[],b,o,z,_=>⟨o,rfl⟩
 |k::a,b,o,z,h=>by
  rw[gF]at h;unfold fZ at h⊢;split at h
  ·cases h
  ·rename_i c
   rw[if_neg c];exact KJ a b _ z h
def Mr{n:Nat}{a b:List Int}(h:Gp n (a++b))(ha:a≠[]):Gp n a:=⟨ha,λk hk=>h.x k (by simp[hk]),h.sg.imp (λz k hk=>z k (by simp[hk])) (λz k hk=>z k (by simp[hk])),by
 obtain⟨z,e⟩:=h.le;rw[cj]at e;exact KJ _ _ _ _ e⟩
def Ms{n:Nat}{a:List Int}(h:Gp n a):Gp n a.reverse:=⟨by simpa using h.ne,λk hk=>h.x k (by simpa using hk),h.sg.imp (λz k hk=>z k (by simpa using hk)) (λz k hk=>z k (by simpa using hk)),by
 obtain⟨z,e⟩:=h.le;rw[mw];exact⟨_,Kv (Vr h.x) e⟩⟩
def aeT{n:Nat}{a b:List Int}(h:Gp n (a++b))(hb:b≠[]):Gp n b:=by
 have h1:=Ms h;rw[n8]at h1;have h2:=Ms (Mr h1 (by simpa using hb))
 rwa [kJ]at h2
def Bl(n:Nat)(bs:List (List Int)):Prop:=∀b∈bs,Gp n b\/b=[]
theorem Dk{n:Nat}:∀(bs:List (List Int))(x y:List Int),bs.flatten=x++y->Bl n bs->∃cs:List (List Int),cs.length<=bs.length/\cs.flatten=y/\Bl n cs
 |[],x,y,e,_=>⟨[],bf _,by
  rw[xN]at e;rw[(AA.mp e.symm).2];rfl,λb hb=>(nomatch hb)⟩
 |b::bs,x,y,e,h=>by
  rw[dA]at e;rcases PY.mp e with⟨c,e1,e2⟩|⟨c,e1,e2⟩
  ·obtain⟨cs,h1,h2,h3⟩:=Dk bs c y e2 λz hz=>h z (by simp[hz])
   exact⟨cs,by rw[bD];lia,h2,h3⟩
  ·refine⟨c::bs,by simp,by rw[dA,e2],λz hz=>?_⟩
   rcases aX.mp hz with rfl|hz
   ·by_cases hz:z=[]
    ·exact .inr hz
    ·rcases h b (by simp)with g|g
     ·rw[e1]at g
      exact .inl (aeT g hz)
     ·rw[g]at e1
      exact .inr (AA.mp e1.symm).2
   ·exact h z (by simp[hz])
theorem Mt{n:Nat}:∀(lN bs:List (List Int)),(∀p∈lN,Gp n p)->Mx n lN->Bl n bs->lN.flatten=bs.flatten->lN.length<=bs.length
 |[],bs,_,_,_,_=>iJ _
 |p::ps,[],hp,_,_,e=>by
  rw[dA,xN]at e;exact absurd (AA.mp e).1 (hp p (by simp)).ne
 |p::ps,b::bs,hp,hm,hb,e=>by
  have hm2:Mx n ps:=by
   cases ps with
   |nil=>trivial
   |cons q B=>exact hm.2
  rw[dA,dA]at e;rw[bD,bD];rcases PY.mp e with⟨x,e1,e2⟩|⟨x,e1,e2⟩
  ·cases x with
   |nil=>
    have:=Mt ps bs (λz hz=>hp z (by simp[hz])) hm2 (λz hz=>hb z (by simp[hz])) e2;lia
   |cons k x=>
    exfalso;cases ps with
    |nil=>cases e2
    |cons q B=>
     cases q with
     |nil=>exact(hp [] (by simp)).ne rfl
     |cons y q=>
      rw[dA,gF,gF]at e2;injection e2 with e3 e4;subst e3;refine hm.1 y q rfl ?_;have g:=hb b (by simp);rcases g with g|g
      ·rw[e1,show p++y::x=p++[y]++x by simp]at g
       exact Mr g (by simp)
      ·rw[g]at e1
       have:=(AA.mp e1.symm).2;cases this
  ·obtain⟨cs,h1,h2,h3⟩:=Dk bs x ps.flatten e2 λz hz=>hb z (by simp[hz])
   have:=Mt ps cs (λz hz=>hp z (by simp[hz])) hm2 h3 h2.symm;lia
inductive F2 {α β:Type} (R:α->β->Prop):List α->List β->Prop
 |nil:F2 R [] []
 |cons {a:α} {b:β} {l:List α} {m:List β}:R a b->F2 R l m->F2 R (a::l) (b::m)
theorem Ep{n:Nat}(hn:n<=7):∀(ps:List (List Int)),(∀p∈ps,Gp n p/\p.length<=1000)->∃qs:List (Int×List Int),ed (bN 0) k9 gh (ni 1 [.int n]) (ps.map λns=>D.lst (ns.map D.int))=.ok (qs.map Ck)/\qs.length=ps.length/\
  (∀q∈qs,(q.1=0\/q.1= -1)/\bx n q.2)/\(∀o:List Int,o.length=n->Vq o qs=ph (ps.flatten.map rf) o)/\hS qs*(T2 n:Int)+(qx (qs.map (·.2)):Int)=Bu ps.flatten/\F2 (StP n) ps qs
 |[],_=>⟨[],rfl,rfl,(λq hq=>nomatch hq),(λo _=>rfl),(by show(0:Int)*_+0=0;rw[ZS];rfl),.nil⟩
 |p::ps,h=>by
  obtain⟨qs,e1,e2,e3,e8,e9,e10⟩:=Ep hn ps λx hx=>h x (by simp[hx]);obtain⟨q,e4,e5⟩:=ZR hn (h p (by simp)).1 (h p (by simp)).2;refine⟨q::qs,?_,by rw[bD,bD,e2],λx hx=>?_,λo ho=>?_,?_,.cons e5 e10⟩
  ·rw[bw]
   unfold ed;rw[e1];have e6:gh [.val (.lst (aW p)),.val (.int n)]=.ok (Ck q):=by
    unfold gh;dsimp [mS,mD,mF,dH,aN,reduceAdd,reduceSub,reduceEqDiff,e4]
   rw[j8,R.cB,show k9 _=.ok true from rfl,R.cB,if_pos rfl];have e7:gh (List.set (ni 1 [.int n]) 0 (.val (.lst (p.map D.int))))=.ok (Ck q):=e6;rw[e7];rfl
  ·rcases aX.mp hx with rfl|hx
   ·exact⟨e5.h,e5.r⟩
   ·exact e3 x hx
  ·show Vq (cmp (rm q.1 o) q.2) qs=_
   rw[e5.o o ho,e8 _ (by rw[PR,ho]),dA,cj,Az]
  ·have hc:=e5.c
   have e:qx (q.2::qs.map (·.2))=kG q.2+qx (qs.map (·.2)):=by unfold qx;rw[bw,qe]
   show(q.1+hS qs)*(T2 n:Int)+(qx (q.2::qs.map (·.2)):Int)=_;rw[e,dA,Ip,<-hc,<-e9,CY];lia
theorem PZ:∀(l:List Int)(a:Nat),iB (iB l a) a=l
 |[],a=>by cases a<;>rfl
 |[x],0=>rfl
 |x::y::l,0=>rfl
 |x::l,a+1=>by rw[wB,wB,PZ l a]
def P1(k:Int):rf (-k)=rf k:=by unfold rf;split<;>split<;>lia
def ZT{k:Int}(h:k≠0):Wm (-k)= -Wm k:=by unfold Wm;split<;>split<;>lia
def Rf{k:Int}(h:k≠0)(s:List Int):Bu (gV s k)=Bu s+Wm k/\∀o,ph ((gV s k).map rf) o=ph ((s++[k]).map rf) o:=by
 unfold gV;have e1:∀k,Bu [k]=Wm k:=λk=>by simp[Bu]
 split
 ·rename_i hl
  have hne:s≠[]:=λz=>by rw[z]at hl;cases hl
  have BN:s.dropLast++[-k]=s:=by
   have:=C7 hne;rw[O5 hne]at hl;rw[cA.inj hl]at this;exact this
  have h2:Bu s=Bu s.dropLast+Wm (-k):=by
   conv=>lhs;rw[<-BN]
   rw[Ip,e1]
  refine⟨by rw[h2,ZT h];lia,λo=>?_⟩
  conv=>rhs;rw[<-BN]
  rw[cj,cj,Az,Az];show _=iB (iB _ (rf (-k)-1).toNat) (rf k-1).toNat;rw[P1,PZ]
 ·exact⟨by rw[Ip,e1],λo=>rfl⟩
theorem Gn:∀(w s:List Int),(∀k∈w,k≠0)->Bu (fA s w)=Bu s+Bu w/\∀o,ph ((fA s w).map rf) o=ph ((s++w).map rf) o
 |[],s,_=>⟨by simp[fA,Bu],λo=>by rw[bE];rfl⟩
 |k::w,s,h=>by
  obtain⟨p1,p2⟩:=Rf (h k (by simp)) s;obtain⟨t1,t2⟩:=Gn w (gV s k) λx hx=>h x (by simp[hx]);have e:Bu (k::w)=Wm k+Bu w:=by unfold Bu;rw[bw,qe]
  refine⟨?_,λo=>?_⟩
  ·show Bu (fA (gV s k) w)=_
   rw[t1,p1,e];lia
  ·show ph ((fA (gV s k) w).map rf) o=_
   rw[t2,cj,Az,p2,<-Az,<-cj,bQ];rfl
theorem F2.len {α β:Type}{R:α->β->Prop}:∀{l:List α}{m:List β},F2 R l m->l.length=m.length
 |_,_,.nil=>rfl
 |_,_,.cons _ h=>by rw[bD,bD,F2.len h]
def ZU(n:Nat)(w:List Int)(m:Nat):Prop:=∃bs:List (List Int),bs.flatten=w/\bs.length<=m/\Bl n bs
def Rg{n:Nat}{w:List Int}(hw:∀k∈w,gH n k):ZU n w w.length:=⟨w.map λk=>[k],by induction w with
  |nil=>rfl
  |cons k w ih=>rw[bw,dA,ih λx hx=>hw x (by simp[hx])];rfl,by rw[aB];exact bf _,λb hb=>by
  obtain⟨k,hk,rfl⟩:=cC.mp hb;have hk:=hw k hk;obtain⟨a,ea,ha⟩:=PV hk;refine .inl ⟨by simp,λx hx=>by rw[dC.mp hx];exact hk,?_,iB (upTo n) a,?_⟩
  ·unfold gH at hk
   by_cases c:0<k
   ·exact .inl λx hx=>by rw[dC.mp hx];exact c
   ·exact .inr λx hx=>by rw[dC.mp hx];lia
  ·show fZ [rf k] (upTo n)=_
   rw[ea,jX (n:=n),if_neg (by rw[aP (by lia),aP (by lia)];lia)];rfl⟩
def Vw{n:Nat}(hn:n<=7){w:List Int}(hw:∀k∈w,gH n k)(hl:w.length<=900)(hB:ZU n (fA [] w) 40):∃qs:List (Int×List Int),fG [.int n,.lst (aW w)]=.ok (.lst (qs.map Ck))/\(qs.length<=w.length/\qs.length<=40)/\
  (∀q∈qs,(q.1=0\/q.1= -1)/\bx n q.2)/\(∀o:List Int,o.length=n->Vq o qs=ph (w.map rf) o)/\hS qs*(T2 n:Int)+(qx (qs.map (·.2)):Int)=Bu w/\∃lN:List (List Int),lN.flatten=fA [] w/\(∀p∈lN,Gp n p)/\F2 (StP n) lN qs:=by
 have htl:=Av w [];simp -implicitDefEqProofs only [gG]at htl;obtain⟨t1,t2⟩:=Gn w [] λk hk=>(hw k hk).1;obtain⟨lN,e1,ef,e2,e3,e0⟩:=aeS hn (w:=fA [] w) (λk hk=>by
  rcases En w [] k hk with h|h
  ·cases h
  ·exact hw k h) (by lia)
 obtain⟨qs,e4,e5,e6,e7,e8,e10⟩:=Ep hn lN λp hp=>⟨(e3 p hp).1,by have:=(e3 p hp).2;lia⟩
 rw[ef]at e7 e8;have hg:lN.length<=40:=by
  obtain⟨bs,b1,b2,b3⟩:=hB;have:=Mt lN bs (λp hp=>(e3 p hp).1) e0 b3 (ef.trans b1.symm);lia
 have hg2:=e10.len;refine⟨qs,?_,⟨by lia,by lia⟩,e6,λo ho=>by rw[e7 o ho,t2];rfl,(by rw[e8,t1];show 0+Bu w=_;lia),lN,ef,λp hp=>(e3 p hp).1,e10⟩;unfold fG vD;dsimp [mS,mD,mF,dH,aN,reduceAdd,reduceSub,reduceEqDiff,Mh w (by lia),e1,R.j6,iW,e4];rw[uH (by rw[aB];exact big (by lia))];dsimp [mS,mD,mF,dH,aN,reduceAdd,reduceSub,reduceEqDiff]
def ZV{n:Nat}(hn:n<=7)(h:Int){r:List Int}(hr:bx n r):kc [.int h,.lst (aW r)]=.ok (aW (pW n h r)):=by
 unfold kc yD pW;dsimp [mS,mD,mF,dH,aN,reduceAdd,reduceSub,reduceEqDiff];rw[pD _ _ (by decide)];dsimp
 by_cases c:h%2=0
 ·rw[if_pos c]
  dsimp [show(h%2==0)=true by rw[beq_iff_eq];exact c,mr]
 ·rw[if_neg c]
  dsimp [show(h%2==0)=false by rw[beq_eq_false_iff_ne];exact c,Mf hr.len hn,mr]
def P4{n:Nat}(hn:n<=7){qs:List (Int×List Int)}(hq:∀q∈qs,bx n q.2)(hl:qs.length<=100):bU [.lst (qs.map Ck)]=.ok (eO n qs):=by
 unfold bU o4 mT;dsimp [mS,mD,mF,dH,aN,reduceAdd,reduceSub,reduceEqDiff];obtain⟨⟨rs,h,t3⟩,e,hj1,Zq⟩:=A5 (S:=List (List Int)×Int×Sl) (b:=ig) (λi q=>q.1=(eO n (qs.drop (qs.length-i))).reverse/\q.2.1=hS (qs.drop (qs.length-i)))
  (λq=>[.val (.lst (qs.map Ck)),.deep (.ls q.1),.val (.int q.2.1),q.2.2]) (qs.map Ck).reverse 0 ([],0,.no) ⟨by rw[Og,Hl];rfl,by rw[Og,Hl];rfl⟩ (by
   rintro j ⟨rs,h,t3⟩ x ⟨hs1,hs2⟩ hx;rw[jR]at hs1 hs2⊢;dsimp only at hs1 hs2;have Zu:j<(qs.map Ck).reverse.length:=(bG.mp hx).1;rw[bH,aB]at Zu;rw[uG (by rw[aB];exact Zu),aB,b8,bj (show qs.length-1-j<qs.length by lia)]at hx;have yV:x=Ck (qs[qs.length-1-j]'(by lia)):=(cA.inj hx).symm;have hd:qs.drop (qs.length-(j+1))=(qs[qs.length-1-j]'(by lia))::qs.drop (qs.length-j):=by
    rw[show qs.length-(j+1)=qs.length-1-j by lia,NS (by lia),show qs.length-1-j+1=qs.length-j by lia]
   have hqm:(qs[qs.length-1-j]'(by lia))∈qs:=Pp _;generalize (qs[qs.length-1-j]'(by lia))=q at yV hd hqm;obtain⟨hh,r⟩:=q;subst yV;have e1:=ZV hn h (hq _ hqm);have hlen:rs.length<=100:=by rw[hs1,bH,x9,lZ];lia
   refine⟨(rs++[pW n h r],h+hh,.val (Ck (hh,r))),?_,?_,?_⟩
   ·unfold ig
    have a1:jJ [D.int hh,.lst (aW r)] 1=aa (.lst (aW r)):=rfl;have a0:jJ [D.int hh,.lst (aW r)] 0=aa (.int hh):=rfl;dsimp [mS,mD,mF,dH,aN,reduceAdd,reduceSub,reduceEqDiff,j8,Ck,qW,qX,a1,a0,e1,qC];rw[Py (by lia)];dsimp [a0,QS]
   ·show rs++[pW n h r]=_
    rw[hd,hs1,hs2];show _=(pW n (hS (qs.drop (qs.length-j))) r::eO n (qs.drop (qs.length-j))).reverse;rw[kr]
   ·show h+hh=_
    rw[hd,hs2];show _=hh+hS (qs.drop (qs.length-j));lia)
 dsimp only at e hj1 Zq;rw[e];rw[jR,bH,aB,CQ,Hk]at hj1;dsimp [qW,qX,TH,hj1,kJ]
theorem KN{n:Nat}(hn:n<=7):∀(rs:List (List Int))(R:List RP),(∀r∈rs,bx n r)->wF n R->(∀o:List Int,o.length=n->Fi o ((rs.foldl (λR r=>jt n R (r,vP r)) R).map (·.1))=Fi o (R.map (·.1)++rs))/\qx ((rs.foldl (λR r=>jt n R (r,vP r)) R).map (·.1))=qx (R.map (·.1))+qx rs
 |[],R,_,_=>⟨λo _=>by rw[bE];rfl,by simp[qx]⟩
 |r::rs,R,hr,h=>by
  have iv:=mH (hr r (by simp));obtain⟨a1,a2⟩:=Zk hn (qV n) (Va n (by lia)) (c:=(r,vP r)) h.iv iv;obtain⟨b1,b2⟩:=KN hn rs (jt n R (r,vP r)) (λx hx=>hr x (by simp[hx])) (LZ hn (qV n) h iv);have e:qx (r::rs)=kG r+qx rs:=by unfold qx;rw[bw,qe]
  refine⟨λo ho=>?_,?_⟩
  ·show Fi o ((rs.foldl (λR r=>jt n R (r,vP r)) (jt n R (r,vP r))).map (·.1))=_
   rw[b1 o ho,uS,a1 o ho,<-uS,bQ];rfl
  ·show qx ((rs.foldl (λR r=>jt n R (r,vP r)) (jt n R (r,vP r))).map (·.1))=_
   rw[b2,a2,e];show _+kG r+_=_;lia
def KO(qs:List (Int×List Int)):ed (bN 0) lh lj (ni 1 []) (qs.map Ck)=.ok (aW (qs.map (·.1))):=by
 rw[xJ (λd=>match d with
  |.tup (x::_)=>x
  |_=>.non) _ λx hx=>by
   obtain⟨q,hq,rfl⟩:=cC.mp hx;exact⟨_,j8 _ _ _,rfl,rfl⟩]
 unfold aW;rw[eR,eR];rfl
def Vx(n:Nat):Iv n (gR n).1 (gR n).2:=by
 have c:∀p,p<n->ai (upTo n).reverse p=((n-1-p:Nat):Int):=λp hp=>by
  rw[jI (by rw[aM];exact hp),aM,aP (by lia)]
 have h:∀p,p<n->0<=ai (upTo n).reverse p/\ai (upTo n).reverse p<n/\ai (upTo n).reverse (ai (upTo n).reverse p).toNat=p:=λp hp=>by
  rw[c p hp,bB,c _ (by lia)];exact⟨by lia,by lia,by lia⟩
 exact⟨by show(upTo n).reverse.length=n;rw[bH,aM],by show(upTo n).reverse.length=n;rw[bH,aM],h,h⟩
def Vy{n:Nat}{o:List Int}(h:o.length=n):cmp o (upTo n).reverse=o.reverse:=by
 refine cQ (by rw[jY,bH,bH,aM,h]) λt ht=>?_;rw[jY,bH,aM]at ht;rw[ik (by rw[bH,aM];exact ht),jI (by rw[aM];exact ht),aM,aP (by lia),bB,jI (by rw[h];exact ht),h]
def KP(a b:Int)(o:List Int):rm a (rm b o)=rm (a+b) o:=by
 unfold rm
 by_cases c:a%2=0
 ·rw[if_pos c]
  by_cases d:b%2=0
  ·rw[if_pos d,if_pos (by lia)]
  ·rw[if_neg d,if_neg (by lia)]
 ·rw[if_neg c]
  by_cases d:b%2=0
  ·rw[if_pos d,if_neg (by lia)]
  ·rw[if_neg d,if_pos (by lia),kJ]
theorem Gq{n:Nat}:∀(m:Nat)(o:List Int),o.length=n->Fi o ((aZ m (gR n)).map (·.1))=rm m o
 |0,o,_=>rfl
 |m+1,o,h=>by
  rw[gm,bw];show Fi (cmp o (upTo n).reverse) _=_;rw[Vy h,Gq m _ (by rw[bH];exact h),show o.reverse=rm 1 o from rfl,KP];congr 1
theorem Gr{n:Nat}(hc:kG (upTo n).reverse=T2 n):∀m:Nat,(qx ((aZ m (gR n)).map (·.1)):Int)=m*(T2 n:Int)
 |0=>by rw[show((0:Nat):Int)=0 from rfl,ZS];rfl
 |m+1=>by
  have e:∀(r:List Int)(R:List (List Int)),qx (r::R)=kG r+qx R:=λr R=>by unfold qx;rw[bw,qe]
  rw[gm,bw,e];show((kG (upTo n).reverse+qx _:Nat):Int)=_;rw[hc,P5,Gr hc m,P5,CY];lia
def Vz{n:Nat}(hn:n<8):kG (upTo n).reverse=T2 n:=by
 have:=PQ (qV n);rw[Va n hn]at this;lia
structure FmS(n:Nat)(w:List Int)(h:Int)(R:List RP):Prop where
 ln:wF n R
 nh:∀x∈R,x≠gR n
 or:Fi (rm h (upTo n)) (R.map (·.1))=ph (w.map rf) (upTo n)
 cr:h*(T2 n:Int)+(qx (R.map (·.1)):Int)=Bu w
 bd: -(w.length:Int)<=h/\h<=w.length
 le:R.length<=40
 ll:R.length<=w.length
theorem ym.app:∀{A B:List RP},ym (A++B)->ym A
 |[],B,_=>trivial
 |[p],B,_=>trivial
 |q::p::A,B,h=>⟨h.1,ym.app (A:=p::A) h.2⟩
def yn(r:List Int):RP:=(r,vP r)
def Ir{n:Nat}(h1:1<=n)(hn:n<=7){w:List Int}(hw:∀k∈w,gH n k)(hl:w.length<=900)(hB:ZU n (fA [] w) 40):∃h R,D6 [.int n,.lst (aW w)]=.ok (.tup [.int h,.lst (R.map λp=>.lst (aW p.1))])/\FmS n w h R/\∃(qs:List (Int×List Int))(lN:List (List Int)),(h,R)=Vl n (hS qs) ((eO n qs).map yn)/\(∀q∈qs,(q.1=0\/q.1= -1)/\bx n q.2)/\lN.flatten=fA [] w/\(∀p∈lN,Gp n p)/\F2 (StP n) lN qs:=by
 obtain⟨qs,e1,⟨e2,e0⟩,e3,e7,e8,lN,g1,g2,g3⟩:=Vw hn hw hl hB;have hq2:∀q∈qs,bx n q.2:=λq hq=>(e3 q hq).2;have e4:=P4 hn hq2 (by lia);have e5:=x9 n qs;have e6:=Bv qs hq2;have l0:wF n []:=⟨(λx hx=>nomatch hx),trivial,(λx hx=>nomatch hx)⟩
 have hL:wF n (eY n (eO n qs)):=OZ hn (qV n) (eO n qs) [] e6 l0;obtain⟨p1,p2⟩:=KN hn (eO n qs) [] e6 l0;have hcl:=z7 n (eO n qs) [];rw[gG]at hcl;have Zy:(eY n (eO n qs)).length<=qs.length:=by
  show((eO n qs).foldl (λR r=>jt n R (r,vP r)) []).length<=qs.length;lia
 have p1':∀o:List Int,o.length=n->Fi o ((eY n (eO n qs)).map (·.1))=Fi o (eO n qs):=p1;have p2':qx ((eY n (eO n qs)).map (·.1))=qx (eO n qs):=by
  have:qx ((eY n (eO n qs)).map (·.1))=0+qx (eO n qs):=p2;lia
 have hsb: -(qs.length:Int)<=hS qs/\hS qs<=0:=by
  clear e0 g3 e1 e4 e5 e6 hL p1 p2 hcl Zy p1' p2' e7 e8 e2 hq2
  induction qs with
  |nil=>exact⟨x6 _,x6 _⟩
  |cons q qs ih=>
   have:=ih λx hx=>e3 x (by simp[hx]);have:=(e3 q (by simp)).1;rw[show hS (q::qs)=q.1+hS qs from rfl,bD];lia
 have hV:vh n ((eO n qs).map yn)=eY n (eO n qs):=by unfold vh eY;rw[ZW];rfl
 generalize hR:eY n (eO n qs)=C at*;have hcn:gf n C<=C.length:=List.Sublist.length_le (List.takeWhile_sublist _);have BN:=D5 (n:=n) C;have hrest:=Q3 (Vx n) hL;refine⟨gf n C+hS qs,C.drop (gf n C),?_,⟨⟨λx hx=>hL.iv x (Dl hx),?_,λx hx=>hL.ns x (Dl hx)⟩,hrest,?_,?_,by lia,by rw[lZ];lia,by rw[lZ];lia⟩,qs,lN,(by unfold Vl;rw[hV,ZX]),e3,g1,g2,g3⟩
 ·unfold D6 L5
  dsimp [mS,mD,mF,dH,aN,reduceAdd,reduceSub,reduceEqDiff,e1];have e9:kK [.int n,.lst (qs.map Ck)]=R.ne (Kh [.val (.int n),.val (.lst (qs.map Ck)),.no,.no,.val (Ke n C)]>=>aJ):=by
   show R.ne (R.bind (bU [.lst (qs.map Ck)]) _)=_;rw[e4,R.cB];refine congrArg R.ne ((if_pos ⟨⟨by lia,by lia⟩,by lia,e6⟩).trans ?_);rw[bB,hR]
  rw[e9];unfold Kh Ke;have a0:∀(x y:D),jJ [x,y] 0=aa x:=λ_ _=>rfl;have a1:∀(x y:D),jJ [x,y] 1=aa y:=λ_ _=>rfl;dsimp [mS,mD,mF,dH,aN,reduceAdd,reduceSub,reduceEqDiff,a0,a1,iW,KO,R.j6];rw[gq (by rw[aB];lia)];dsimp [mS,mD,mF,dH,aN,reduceAdd,reduceSub,reduceEqDiff,yy,qC,p7]
 ·have:=hL.lw
  rw[BN,n8]at this;exact this.app
 ·have h2:=p1' (rm (hS qs) (upTo n)) (by rw[KG,aM])
  rw[Gj qs (upTo n) hq2 (aM n),e7 _ (aM n)]at h2;rw[<-h2]
  conv=>rhs;rw[BN]
  rw[cj,uS,Gq _ _ (by rw[KG,aM]),KP]
 ·rw[Gk qs hq2]at p2'
  have h3:qx (C.map (·.1))=qx ((aZ (gf n C) (gR n)).map (·.1))+qx ((C.drop (gf n C)).map (·.1)):=by
   conv=>lhs;rw[BN]
   rw[cj,z9]
  have h4:=Gr (Vz (show n<8 by lia)) (gf n C);rw[<-e8,<-p2',h3,P5,h4,CY];lia
def act(n:Nat)(k:Int)(ω:Int×List RP):Int×List RP:=if 0<k then Pa n (Xr n (k-1).toNat) ω else Ma n (Xr n (-k-1).toNat) ω
def dM(n:Nat)(w:List Int)(ω:Int×List RP):Int×List RP:=w.foldl (λω k=>act n k ω) ω
def fg(n:Nat)(u v:List Int)(ω:Int×List RP):dM n (u++v) ω=dM n v (dM n u ω):=uR
section
variable{n:Nat}(hn:n<=7)(h2:2<=n)
include hn h2
theorem Dm{k:Int}(hk:gH n k)(h:0<k)(ω:Int×List RP):∃a:Nat,k=(a:Int)+1/\a+1<n/\act n k ω=Pa n (Xr n a) ω/\act n (-k) ω=Ma n (Xr n a) ω:=by
 unfold gH at hk;refine⟨(k-1).toNat,by lia,by lia,if_pos h,?_⟩;unfold act;rw[if_neg (by lia),show- -k-1=k-1 by lia]
theorem Mu{k:Int}(hk:gH n k){ω:Int×List RP}(hc:Cv n ω):Cv n (act n k ω):=by
 unfold gH at hk;unfold act;split
 ·exact aid hn h2 hc (Ay (by lia))
 ·exact Vo hn h2 hc (Ay (by lia))
theorem ya:∀(w:List Int){ω:Int×List RP},(∀k∈w,gH n k)->Cv n ω->Cv n (dM n w ω)
 |[],_,_,hc=>hc
 |k::w,ω,h,hc=>ya w (ω:=act n k ω) (λx hx=>h x (by simp[hx])) (Mu hn h2 (h k (by simp)) hc)
theorem P6{k:Int}(hk:gH n k){ω:Int×List RP}(hc:Cv n ω):act n (-k) (act n k ω)=ω:=by
 have XA:=hk;unfold gH at XA
 by_cases h:0<k
 ·obtain⟨a,e,ha,e1,_⟩:=Dm hn h2 hk h ω
  obtain⟨b,e',_,_,e2⟩:=Dm hn h2 hk h (act n k ω);obtain rfl:a=b:=by lia
  rw[e2,e1];exact abY hn h2 hc (Ay ha)
 ·have hm:gH n (-k):=by unfold gH;lia
  obtain⟨a,e,ha,_,e1⟩:=Dm hn h2 hm (by lia) ω;obtain⟨b,e',_,e2,_⟩:=Dm hn h2 hm (by lia) (act n k ω);obtain rfl:a=b:=by lia
  rw[Iu]at e1;rw[e2,e1];exact abZ hn h2 hc (Ay ha)
end
section
variable{n:Nat}(hn:n<=7)(h2:2<=n)
include hn h2
end
def Lk(n:Nat)(u v:List Int):Prop:=∀ω,Cv n ω->dM n u ω=dM n v ω
theorem Lk.symm {n:Nat}{u v:List Int}(h:Lk n u v):Lk n v u:=λω hc=>(h ω hc).symm
def Lk.refl (n:Nat)(u:List Int):Lk n u u:=λ_ _=>rfl
theorem Lk.trans {n:Nat}{u v w:List Int}(h:Lk n u v)(g:Lk n v w):Lk n u w:=λω hc=>(h ω hc).trans (g ω hc)
section
variable{n:Nat}(hn:n<=7)(h2:2<=n)
include hn h2
theorem Lk.mid {u v:List Int}(h:Lk n u v){a b:List Int}(ha:∀k∈a,gH n k):Lk n (a++u++b) (a++v++b):=λω hc=>by
 rw[fg,fg,fg,fg,h _ (ya hn h2 a ha hc)]
theorem aeU{k:Int}(hk:gH n k):Lk n [k,-k] []:=λω hc=>P6 hn h2 hk hc
end
def fW{n:Nat}{r:List Int}(h:bx n r):Iv n (yn r).1 (yn r).2:=mH h
def oM{n:Nat}:Cv n ((0:Int),[]):=⟨λx hx=>(nomatch hx),rfl⟩
section
variable{n:Nat}(hn:n<=7)(h2:2<=n)
include hn h2
theorem Mv{ω:Int×List RP}(hc:Cv n ω):Pa n (Zr n) ω=ω:=by
 have:=Ik (A:=ω.2) (B:=[]) hn ω.1 hc.iv (λx hx=>nomatch hx);rw[bE]at this;exact this.trans hc.id
theorem AB{ω:Int×List RP}(hc:Cv n ω):∀(w:List Int)(c:RP)(z:List Int),Ps n w->Iv n c.1 c.2->fZ w c.1=aa z->dM n w (Pa n c ω)=Pa n (yn z) ω/\bx n z
 |[],c,z,_,ic,h=>by
  obtain rfl:c.1=z:=cA.inj h;have hr:=nJ ic;refine⟨?_,hr⟩;show Pa n c ω=_;rw[mE ic (fW hr) rfl];rfl
 |k::w,c,z,hw,ic,h=>by
  obtain⟨a,rfl,ha⟩:=hw k (by simp);unfold fZ at h;split at h
  ·cases h
  ·rename_i hc2
   rw[show((a:Int)+1-1).toNat=a by lia,show((a:Int)+1).toNat=a+1 by lia]at hc2;rw[show((a:Int)+1-1).toNat=a by lia]at h;have hne:=abT ic ha;have hlt:ai c.1 a<ai c.1 (a+1):=by
    have:¬ai c.1 (a+1)<ai c.1 a:=λz=>hc2 (.inr z);lia
   have ih:=AB hc w (vO c a) z (λx hx=>hw x (by simp[hx])) (jd ic ha) h;refine⟨?_,ih.2⟩;show dM n w (act n ((a:Int)+1) (Pa n c ω))=_;have e:act n ((a:Int)+1) (Pa n c ω)=Pa n (vO c a) ω:=by
    unfold act;rw[if_pos (by lia),show((a:Int)+1-1).toNat=a by lia];exact aeN hn h2 hc ic ha hlt
   rw[e];exact ih.1
theorem qZ:∀(p:List Int){ω:Int×List RP},(∀k∈p,gH n k)->Cv n ω->dM n (p.reverse.map λk=> -k) (dM n p ω)=ω
 |[],_,_,_=>rfl
 |k::p,ω,h,hc=>by
  have hk:=h k (by simp);rw[kr,cj,fg];show act n (-k) (dM n (p.reverse.map λk=> -k) (dM n p (act n k ω)))=ω;rw[qZ p (λx hx=>h x (by simp[hx])) (Mu hn h2 hk hc)];exact P6 hn h2 hk hc
end
def eT(n:Nat)(g:Int)(L:List RP):List RP:=if g%2=0 then L else L.map (gu n)
def vk(n:Nat)(q:Int×List Int)(ω:Int×List RP):Int×List RP:=Vl n (ω.1+q.1) (eT n q.1 ω.2++[yn q.2])
section
variable{n:Nat}(hn:n<=7)(h2:2<=n)
include hn h2
theorem Rh{p:List Int}{q:Int×List Int}(g:Gp n p)(s:StP n p q){ω:Int×List RP}(hc:Cv n ω):vk n q ω=dM n p ω:=by
 rcases s.a with⟨e,hs,hz⟩|⟨e,hs,z,hz,iv,e2⟩
 ·have hp:Ps n p:=λk hk=>by
   have h1:=g.x k hk;have h2:=hs k hk;unfold gH at h1;exact⟨(k-1).toNat,by lia,by lia⟩
  have h:=AB hn h2 hc p (Zr n) q.2 hp (eM n) hz;rw[Mv hn h2 hc]at h;rw[h.1];unfold vk eT Pa;rw[e,if_pos (by decide),rY]
 ·have hx:∀k∈p.reverse.map (λk=> -k),gH n k:=λk hk=>by
   obtain⟨x,hx,rfl⟩:=cC.mp hk;have:=g.x x (by simpa using hx);unfold gH at*;lia
  have hp:Ps n (p.reverse.map λk=> -k):=λk hk=>by
   have h1:=hx k hk;obtain⟨x,hx,rfl⟩:=cC.mp hk;have h2:=hs x (by simpa using hx);unfold gH at h1;exact⟨(-x-1).toNat,by lia,by lia⟩
  have c1:=ya hn h2 p g.x hc;have h:=AB hn h2 c1 (p.reverse.map λk=> -k) (Zr n) z hp (eM n) hz;rw[Mv hn h2 c1,qZ hn h2 p g.x hc]at h;have iz:=fW h.2;have e3:dM n p ω=Ma n (yn z) ω:=by
   have:=abY hn h2 c1 iz;rw[<-h.1]at this;exact this.symm
  rw[e3];have ez:yn z=(z,ph (p.map rf) (upTo n)):=mE iz iv rfl;have e4:yn q.2=yI n (yn z):=by
   rw[ez,e2];have ic:=iT (r:=(z,ph (p.map rf) (upTo n))) iv;exact mE (fW (nJ ic)) ic rfl
  unfold vk eT Ma;rw[e,e4,if_neg (by decide)]
theorem Er:∀{ps:List (List Int)}{qs:List (Int×List Int)}{ω:Int×List RP},F2 (StP n) ps qs->(∀p∈ps,Gp n p)->Cv n ω->qs.foldl (λω q=>vk n q ω) ω=dM n ps.flatten ω
 |_,_,_,.nil,_,_=>rfl
 |p::ps,q::qs,ω,.cons s f,h,hc=>by
  have g:=h p (by simp);rw[zg,dA,fg,Rh hn h2 g s hc];exact Er f (λx hx=>h x (by simp[hx])) (ya hn h2 p g.x hc)
theorem yb{g:Int}{L:List RP}(h:ck n L):ck n (eT n g L):=by
 unfold eT;split
 ·exact h
 ·exact h.gu
theorem ZY{q:Int×List Int}(hq:q.1=0\/q.1= -1)(hr:bx n q.2)(h:Int){L:List RP}(hI:ck n L):Vl n (h+q.1) (eT n q.1 L++[yn q.2])=vk n q (Vl n h L):=by
 unfold vk eT;rcases hq with e|e
 ·rw[e,if_pos (by decide),if_pos (by decide),rY,rY]
  exact Mn hn h2 h hI (.one (fW hr))
 ·rw[e,if_neg (by decide),if_neg (by decide)]
  exact Mp hn h2 h hI (.one (fW hr)) (-1)
theorem Gs{q g:Int}{r:List Int}{L:List RP}(hI:ck n L)(hr:bx n r):eT n g (eT n q L++[yn r])=eT n (q+g) L++[yn (pW n g r)]:=by
 unfold eT pW;have hf:(L.map (gu n)).map (gu n)=L:=by
  rw[eR]
  conv=>rhs;rw[<-x8 L]
  exact mG λx hx=>Aw (hI x hx)
 have e:gu n (yn r)=yn (fl n r.reverse):=mE (sM (fW hr)) (fW (nJ (sM (fW hr)))) rfl
 by_cases a:g%2=0
 ·rw[if_pos a,if_pos a]
  by_cases b:q%2=0
  ·rw[if_pos b,if_pos (by lia)]
  ·rw[if_neg b,if_neg (by lia)]
 ·rw[if_neg a,if_neg a,cj]
  by_cases b:q%2=0
  ·rw[if_pos b,if_neg (by lia),ZZ,e]
  ·rw[if_neg b,if_pos (by lia),hf,ZZ,e]
theorem KQ:∀(qs:List (Int×List Int))(h:Int)(L:List RP),ck n L->(∀q∈qs,(q.1=0\/q.1= -1)/\bx n q.2)->Vl n (h+hS qs) (eT n (hS qs) L++(eO n qs).map yn)=qs.foldl (λω q=>vk n q ω) (Vl n h L)
 |[],h,L,_,_=>by
  show Vl n (h+0) (eT n 0 L++[])=_;rw[rY,bE];rfl
 |q::qs,h,L,hI,hq=>by
  obtain⟨q1,q2⟩:=hq q (by simp);have ih:=KQ qs (h+q.1) (eT n q.1 L++[yn q.2]) ((yb hn h2 hI).app (.one (fW q2))) λx hx=>hq x (by simp[hx]);rw[zg,<-ZY hn h2 q1 q2 h hI,<-ih,Gs hn h2 hI q2,bQ,show hS (q::qs)=q.1+hS qs from rfl,Iw];rfl
theorem Z0{k:Int}(hk:gH n k){s:List Int}(hs:∀x∈s,gH n x):Lk n (gV s k) (s++[k]):=by
 unfold gV;split
 ·rename_i hl
  have hne:s≠[]:=λz=>by rw[z]at hl;cases hl
  have BN:s.dropLast++[-k]=s:=by
   have:=C7 hne;rw[O5 hne]at hl;rw[cA.inj hl]at this;exact this
  have hm:gH n (-k):=by unfold gH at*;lia
  have h:=Lk.mid hn h2 (aeU hn h2 hm) (a:=s.dropLast) (b:=[]) λx hx=>hs x ((Z1 s).subset hx);rw[Iu,bE,bE,bE]at h;have e:s++[k]=s.dropLast++[-k,k]:=by
   conv=>lhs;rw[<-BN]
   simp
  rw[e];exact h.symm
 ·exact .refl n _
theorem P7:∀(w s:List Int),(∀k∈w,gH n k)->(∀x∈s,gH n x)->Lk n (fA s w) (s++w)
 |[],s,_,_=>by rw[bE];exact .refl n _
 |k::w,s,h,hs=>by
  have hk:=h k (by simp);have hp:∀x∈gV s k,gH n x:=λx hx=>by
   unfold gV at hx;split at hx
   ·exact hs x ((Z1 s).subset hx)
   ·rcases cu.mp hx with hx|hx
    ·exact hs x hx
    ·rw[dC.mp hx];exact hk
  refine(P7 w (gV s k) (λx hx=>h x (by simp[hx])) hp).trans λω hc=>?_;rw[fg,Z0 hn h2 hk hs ω hc,<-fg,bQ];rfl
theorem Ri{w:List Int}(hw:∀k∈w,gH n k)(hl:w.length<=900)(hB:ZU n (fA [] w) 40):D6 [.int n,.lst (aW w)]=.ok (.tup [.int (dM n w (0,[])).1,.lst ((dM n w (0,[])).2.map λp=>.lst (aW p.1))])/\FmS n w (dM n w (0,[])).1 (dM n w (0,[])).2:=by
 obtain⟨h,R,e,F,qs,lN,e1,e2,e3,e4,e5⟩:=Ir (n:=n) (by lia) hn hw hl hB;have r:=KQ hn h2 qs 0 [] (λx hx=>nomatch hx) e2;have ez:eT n (hS qs) []=[]:=by unfold eT;split<;>rfl
 rw[ez,ky,Z2,<-e1]at r;have c0:Vl n 0 []=((0:Int),[]):=oM.id;rw[c0,Er hn h2 e5 e4 oM,e3,P7 hn h2 w [] hw (λx hx=>nomatch hx) _ oM,ky]at r;rw[<-r];exact⟨e,F⟩
end
def Iv.ws {n:Nat}{r s:List Int}(h:Iv n r s)(hn:n<=7):0<=wsum 0 s/\wsum 0 s<=343:=by
 have:=JY s 0 (λj hj=>by
  rw[h.ls]at hj;have:=h.sr j hj;lia) (by rw[h.ls];lia)
 rw[h.ls]at this;lia
def Z3(w:List Int)(k:Int):aW w++[D.int k]=aW (w++[k]):=qc w [k]
def P8(k:Int)(t:List Int):jJ (aW (k::t)) 0=aa (.int k):=by
 rw[g7 (by decide) (by rw[bD];lia)];rfl
def Z4{n:Nat}{r s:List Int}(h:Iv n r s)(hd:zW s=[]):r=upTo n:=OC h λa ha hlt=>by
 have:=rM.mpr ⟨a,rfl,by rw[h.ls];exact ha,hlt⟩;rw[hd]at this;cases this
theorem rw_loop{n:Nat}(hn:n<=7)(s0:Sl):∀(fuel:Nat)(r s w0:List Int),Iv n r s->343-wsum 0 s<fuel->w0.length+fuel<=1000->∃w s2 s3,sy nY nZ fuel [s0,.own (aW w0),.val (.lst (aW r)),.val (.lst (aW (zW s)))]=.ok (.nx [s0,.own (aW (w0++w)),s2,s3])/\Wk n true w r s/\w.length<=fuel
 |0,r,s,w0,h,hf,_=>by
  have:=(h.ws hn).2;lia
 |fuel+1,r,s,w0,h,hf,hl=>by
  unfold sy;have ec:nY [s0,.own (aW w0),.val (.lst (aW r)),.val (.lst (aW (zW s)))]=.ok (decide (0<((zW s).length:Int))):=by
   unfold nY;dsimp [mS,mD,mF,dH,aN,reduceAdd,reduceSub,reduceEqDiff,cM]
  rw[ec,R.cB];cases hd:zW s with
  |nil=>
   refine⟨[],.val (.lst (aW r)),.val (.lst (aW [])),?_,Z4 h hd,iJ _⟩;rw[bE];rfl
  |cons k t=>
   obtain⟨a,rfl,h1,h2,h3⟩:=Uk hd;rw[h.ls]at h1;obtain⟨w,s2,s3,e,hw,hlw⟩:=rw_loop hn s0 fuel (wC r a) (iB s a) (w0++[(a:Int)+1]) (h.step h1) (by rw[JX _ _ _ (by rw[h.ls];exact h1)];lia) (by rw[bO,bD,gG];lia);refine⟨((a:Int)+1)::w,s2,s3,?_,⟨a,rfl,h1,h2,λ_=>h3,hw⟩,by rw[bD];lia⟩;have eb:nZ [s0,.own (aW w0),.val (.lst (aW r)),.val (.lst (aW (((a:Int)+1)::t)))]=.ok (.nx [s0,.own (aW (w0++[(a:Int)+1])),.val (.lst (aW (wC r a))),.val (.lst (aW (zW (iB s a))))]):=by
    unfold nZ;dsimp [mS,mD,mF,dH,aN,reduceAdd,reduceSub,reduceEqDiff,P8];rw[zI (by rw[cM];lia),Z3];dsimp [mS,mD,mF,dH,aN,reduceAdd,reduceSub,reduceEqDiff,P8];rw[J3 h hn h1];dsimp [mS,mD,mF,dH,aN,reduceAdd,reduceSub,reduceEqDiff];rw[Bc (h.step h1) hn];dsimp [mS,mD,mF,dH,aN,reduceAdd,reduceSub,reduceEqDiff]
   rw[if_pos (by rw[bD];exact decide_eq_true (by lia)),eb,R.cB];rw[bQ]at e;exact e
def Z5{n:Nat}{r s:List Int}(h:Iv n r s)(hn:n<=7):∃w,kZ [.lst (aW r)]=.ok (aW w)/\Wk n true w r s/\w.length<=400:=by
 unfold kZ DY;dsimp [mS,mD,mF,dH,aN,reduceAdd,reduceSub,reduceEqDiff];rw[Bc h hn];dsimp;have:=(h.ws hn).1;obtain⟨w,s2,s3,e,hw,hl⟩:=rw_loop hn (.val (.lst (aW r))) 400 r s [] h (by lia) (by decide);rw[Yj,e];refine⟨w,?_,hw,hl⟩;dsimp [mr]
theorem P9{n:Nat}{b:Bool}{z:List Int}:∀{w r s o:List Int},Wk n b w r s->Iv n r s->Od n o r z->fZ w o=aa z
 |[],r,s,o,hw,h,d=>by
  have hr:r=upTo n:=hw;subst hr;rw[d.done];rfl
 |k::w,r,s,o,hw,h,d=>by
  obtain⟨a,rfl,h1,h2,_,hw⟩:=hw;rw[jX (n:=n),if_neg (Od.up h d h1 h2)];exact P9 hw (h.step h1) (d.step h h1 h2)
theorem VA{n:Nat}{b:Bool}:∀{w r s:List Int},Wk n b w r s->Ps n w
 |[],_,_,_=>λk hk=>(nomatch hk)
 |k::w,r,s,h=>λx hx=>by
  obtain⟨a,e,h1,_,_,hw⟩:=h;rcases aX.mp hx with rfl|hx
  ·exact⟨a,e,h1⟩
  ·exact VA hw x hx
theorem VB{n:Nat}:∀{w v r s:List Int},Iv n r s->Wk n true w r s->Wk n true v r s->w=v
 |[],[],_,_,_,_,_=>rfl
 |[],k::v,r,s,h,h1,h2=>by
  obtain⟨a,rfl,b1,b2,_⟩:=h2;have e:r=upTo n:=h1;subst e;have:=h.symm.uniq (qV n).symm;rw[this,aP (by lia),aP (by lia)]at b2;lia
 |k::w,[],r,s,h,h1,h2=>by
  obtain⟨a,rfl,b1,b2,_⟩:=h1;have e:r=upTo n:=h2;subst e;have:=h.symm.uniq (qV n).symm;rw[this,aP (by lia),aP (by lia)]at b2;lia
 |k::w,l::v,r,s,h,h1,h2=>by
  obtain⟨a,rfl,a1,a2,a3,a4⟩:=h1;obtain⟨b,rfl,b1,b2,b3,b4⟩:=h2;have:a=b:=by
   rcases Nat.lt_trichotomy a b with z|z|z
   ·have:=b3 rfl a z;lia
   ·exact z
   ·have:=a3 rfl b z;lia
  subst this;rw[VB (h.step a1) a4 b4]
open Classical in
def pX(n:Nat)(r:List Int):List Int:=if h:∃w,Wk n true w r (vP r)then h.choose else[]
def aij{n:Nat}{r w:List Int}(h:bx n r)(hw:Wk n true w r (vP r)):pX n r=w:=by
 have hx:∃w,Wk n true w r (vP r):=⟨w,hw⟩
 unfold pX;rw[dif_pos hx];exact VB (mH h) hx.choose_spec hw
def Qa{n:Nat}(hn:n<=7){r:List Int}(h:bx n r):kZ [.lst (aW r)]=.ok (aW (pX n r))/\Wk n true (pX n r) r (vP r):=by
 obtain⟨w,e,hw,_⟩:=Z5 (mH h) hn;rw[aij h hw];exact⟨e,hw⟩
def aik{n:Nat}{r:List Int}(h:bx n r):Od n (upTo n) r r:=⟨aM n,h.len,λp hp=>by
 have:=(mH h).rs p hp;rw[aP (by lia)];lia,λ_ _ _ _ z=>z⟩
def Iz{n:Nat}(hn:n<=7){r:List Int}(h:bx n r):fZ (pX n r) (upTo n)=aa r:=P9 (Qa hn h).2 (mH h) (aik h)
def vJ{n:Nat}(hn:n<=7){r:List Int}(h:bx n r):Ps n (pX n r):=VA (Qa hn h).2
def ail{n:Nat}(hn:n<=7):T2 n<=21:=by
 have hc:n=0\/n=1\/n=2\/n=3\/n=4\/n=5\/n=6\/n=7:=by lia
 rcases hc with rfl|rfl|rfl|rfl|rfl|rfl|rfl|rfl<;>decide
def IA{n:Nat}(hn:n<=7){r:List Int}(h:bx n r):(pX n r).length<=21:=by
 have h1:=(tY _ _ _ _ (vJ hn h) (qV n) (Iz hn h)).2;have h2:=Mq (mH h).symm;have h3:=ail hn;rw[Va n (by lia)]at h1;lia
def Es{n:Nat}{w:List Int}(h:Ps n w):∀k∈w,gH n k/\0<k:=λk hk=>by
 obtain⟨a,rfl,ha⟩:=h k hk;unfold gH;lia
theorem VC{n:Nat}:∀{w:List Int},Ps n w->w.map rf=w
 |[],_=>rfl
 |k::w,h=>by
  rw[bw,VC λx hx=>h x (by simp[hx])];obtain⟨a,rfl,ha⟩:=h k (by simp);unfold rf;rw[if_neg (by lia)]
def Qc{n:Nat}(hn:n<=7){r:List Int}(h:bx n r):Gp n (pX n r)\/pX n r=[]:=by
 by_cases c:pX n r=[]
 ·exact .inr c
 ·have hp:=vJ hn h
  exact .inl ⟨c,λk hk=>(Es hp k hk).1,.inl λk hk=>(Es hp k hk).2,⟨r,by rw[VC hp];exact Iz hn h⟩⟩
def gP(w:List Int):List Int:=w.reverse.map λk=> -k
def abs_neg(w:List Int):(w.map λk=> -k).map rf=w.map rf:=by
 rw[eR];refine mG λk _=>?_;show rf (-k)=rf k;exact P1 k
def VD{n:Nat}{w:List Int}(h:Gp n w\/w=[]):Gp n (gP w)\/gP w=[]:=by
 rcases h with h|h
 ·have g:=Ms h
  refine .inl ⟨by unfold gP;simpa using h.ne,λk hk=>?_,?_,?_⟩
  ·obtain⟨x,hx,rfl⟩:=cC.mp hk
   have:=g.x x hx;unfold gH at*;lia
  ·rcases g.sg with z|z
   ·refine .inr λk hk=>?_
    obtain⟨x,hx,rfl⟩:=cC.mp hk;have:=z x hx;lia
   ·refine .inl λk hk=>?_
    obtain⟨x,hx,rfl⟩:=cC.mp hk;have:=z x hx;lia
  ·obtain⟨z,e⟩:=g.le
   exact⟨z,by unfold gP;rw[abs_neg];exact e⟩
 ·rw[h]
  exact .inr rfl
section
variable{n:Nat}(hn:n<=7)(h2:2<=n)
include hn h2
theorem Mw{r:List Int}(h:bx n r){ω:Int×List RP}(hc:Cv n ω):dM n (pX n r) ω=Pa n (yn r) ω:=by
 have:=(AB hn h2 hc (pX n r) (Zr n) r (vJ hn h) (eM n) (Iz hn h)).1;rw[Mv hn h2 hc]at this;exact this
theorem tZ(h:Int):Cv n (h,[]):=⟨λx hx=>(nomatch hx),by
 have:=(oM (n:=n)).id;unfold Vl at*;injection this with a b;dsimp only at*;rw[b,show h+((gf n (vh n []):Nat):Int)=h by lia]⟩
theorem Et:bx n (upTo n).reverse:=(uK _).trans (lg n)
theorem VE:yn (upTo n).reverse=gR n:=mE (fW (Et hn h2)) (pN n) rfl
theorem VF(h:Int):dM n (pX n (upTo n).reverse) (h,[])=(h+1,[]):=by
 rw[Mw hn h2 (Et hn h2) (tZ hn h2 h),VE hn h2];unfold Pa;rw[ky,Di hn h2 h (L:=[]) (λx hx=>nomatch hx)];exact(tZ hn h2 (h+1)).id
theorem aeV(h:Int):dM n (gP (pX n (upTo n).reverse)) (h,[])=(h-1,[]):=by
 have hp:=vJ hn (Et hn h2);have:=qZ hn h2 (pX n (upTo n).reverse) (λk hk=>(Es hp k hk).1) (tZ hn h2 (h-1));rw[VF hn h2,show h-1+1=h by lia]at this;exact this
theorem Qd:∀(m:Nat)(h:Int),dM n (aZ m (pX n (upTo n).reverse)).flatten (h,[])=(h+m,[])
 |0,h=>by rw[Dh,rY];rfl
 |m+1,h=>by
  rw[gm,dA,fg,VF hn h2,Qd m];congr 1;lia
theorem Qe:∀(m:Nat)(h:Int),dM n (aZ m (gP (pX n (upTo n).reverse))).flatten (h,[])=(h-m,[])
 |0,h=>by rw[Dh,Int.sub_zero];rfl
 |m+1,h=>by
  rw[gm,dA,fg,aeV hn h2,Qe m];congr 1;lia
theorem IB(h:Int):∀(B:List (List Int))(A:List RP),(∀r∈B,bx n r)->ck n A->dM n (B.map (pX n)).flatten (Vl n h A)=Vl n h (A++B.map yn)
 |[],A,_,_=>by rw[ji,ji,bE];rfl
 |r::B,A,hB,hA=>by
  have hr:=hB r (by simp);rw[bw,dA,fg,Mw hn h2 hr (Vn hn h hA),<-PL hn h2 h hA (fW hr),IB h B _ (λx hx=>hB x (by simp[hx])) (hA.app (.one (fW hr))),bw,bQ];rfl
end
def yo(n:Nat)(h:Int):List (List Int):=if h<0 then aZ (-h).toNat (gP (pX n (upTo n).reverse))else aZ h.toNat (pX n (upTo n).reverse)
def cJ(n:Nat)(h:Int)(rs:List (List Int)):List Int:=(yo n h).flatten++(rs.map (pX n)).flatten
def VG{n:Nat}{Z:List RP}(h:ck n Z):(Z.map (·.1)).map yn=Z:=by
 rw[eR]
 conv=>rhs;rw[<-x8 Z]
 exact mG λp hp=>mE (fW (nJ (h p hp))) (h p hp) rfl
def t8{n:Nat}(hn:n<=7)(h2:2<=n){h0:Int}{Z:List RP}(hc:Cv n (h0,Z))(h:Int):dM n (cJ n h (Z.map (·.1))) (0,[])=(h,Z):=by
 have e1:dM n (yo n h).flatten (0,[])=(h,[]):=by
  unfold yo;split
  ·rw[Qe hn h2]
   congr 1;lia
  ·rw[Qd hn h2]
   congr 1;lia
 unfold cJ;rw[fg,e1,<-(tZ hn h2 h).id];show dM n _ (Vl n h [])=_;rw[IB hn h2 h _ [] (λr hr=>by
  obtain⟨p,hp,rfl⟩:=cC.mp hr;exact nJ (hc.iv p hp)) (λx hx=>nomatch hx),ky,VG hc.iv]
 have:=hc.id;unfold Vl at*;injection this with a b;dsimp only at*;rw[b];congr 1;lia
theorem IC{n:Nat}:∀(bs:List (List Int))(x y:List Int),bs.flatten=x++y->Bl n bs->∃cs:List (List Int),cs.length<=bs.length/\cs.flatten=x/\Bl n cs
 |[],x,y,e,_=>⟨[],bf _,by
  rw[xN]at e;rw[(AA.mp e.symm).1];rfl,λb hb=>(nomatch hb)⟩
 |b::bs,x,y,e,h=>by
  rw[dA]at e;rcases PY.mp e with⟨c,e1,e2⟩|⟨c,e1,e2⟩
  ·obtain⟨cs,h1,h2,h3⟩:=IC bs c y e2 λz hz=>h z (by simp[hz])
   refine⟨b::cs,by rw[bD,bD];lia,by rw[dA,h2,e1],λz hz=>?_⟩;rcases aX.mp hz with rfl|hz
   ·exact h z (by simp)
   ·exact h3 z hz
  ·refine⟨[x],by simp,by simp,λz hz=>?_⟩
   rw[dC.mp hz]
   by_cases hz:x=[]
   ·exact .inr hz
   ·rcases h b (by simp)with g|g
    ·rw[e1]at g
     exact .inl (Mr g hz)
    ·rw[g]at e1
     exact .inr (AA.mp e1.symm).1
def Bw(s:List Int)(k:Int)(w:List Int):fA s (k::w)=fA (gV s k) w:=rfl
def Rj{s:List Int}{k l:Int}(h:(0<k/\0<l)\/(k<0/\l<0)):gV (s++[k]) l=s++[k]++[l]:=by
 unfold gV;rw[if_neg λe=>?_];have:k= -l:=by simpa using e
 lia
theorem Bx(P:Int->Prop)(hP:∀k l,P k->P l->(0<k/\0<l)\/(k<0/\l<0)):∀(w s:List Int)(k:Int),P k->(∀x∈w,P x)->fA (s++[k]) w=s++k::w
 |[],s,k,_,_=>rfl
 |l::w,s,k,hk,hw=>by
  rw[Bw,Rj (hP k l hk (hw l (by simp))),Bx P hP w (s++[k]) l (hw l (by simp)) λx hx=>hw x (by simp[hx])];simp
def VH(k:Int):gV [] k=[k]:=rfl
def Eu(P:Int->Prop)(hP:∀k l,P k->P l->(0<k/\0<l)\/(k<0/\l<0))(w:List Int)(hw:∀x∈w,P x):fA [] w=w:=by
 cases w with
 |nil=>rfl
 |cons k w=>
  rw[Bw,VH];exact Bx P hP w [] k (hw k (by simp)) λx hx=>hw x (by simp[hx])
theorem Ew:∀(B A:List Int),(∀k∈B,0<k)->∃A' A'' B' B'',A=A'++A''/\B=B''++B'/\fA A B=A'++B'
 |[],A,_=>⟨A,[],[],[],by simp,rfl,by rw[bE];rfl⟩
 |k::B,A,h=>by
  rw[Bw]
  by_cases c:gV A k=A++[k]
  ·rw[c,Bx (λx=>0<x) (λ_ _ a b=>.inl ⟨a,b⟩) B A k (h k (by simp)) λx hx=>h x (by simp[hx])]
   exact⟨A,[],k::B,[],by simp,rfl,rfl⟩
  ·have e:gV A k=A.dropLast:=by
    unfold gV at c⊢;split
    ·rfl
    ·rename_i z
     rw[if_neg z]at c;exact absurd rfl c
   rw[e];obtain⟨A',A'',B',B'',e1,e2,e3⟩:=Ew B A.dropLast λx hx=>h x (by simp[hx])
   by_cases hA:A=[]
   ·subst hA
    exact⟨A',A'',B',k::B'',e1,by rw[e2];rfl,e3⟩
   ·exact⟨A',A''++[A.getLast hA],B',k::B'',by rw[<-bQ,<-e1,C7],by rw[e2];rfl,e3⟩
def By{n:Nat}(hn:n<=7){h:Int}{rs:List (List Int)}(hr:∀r∈rs,bx n r){m:Nat}(hm:h.natAbs+rs.length<=m):ZU n (fA [] (cJ n h rs)) m:=by
 have hh:bx n (upTo n).reverse:=(uK _).trans (lg n);have gB:Bl n (rs.map (pX n)):=λb hb=>by
  obtain⟨r,h1,rfl⟩:=cC.mp hb;exact Qc hn (hr r h1)
 have pB:∀k∈(rs.map (pX n)).flatten,0<k:=λk hk=>by
  obtain⟨b,hb,hk⟩:=xO.mp hk;obtain⟨r,h1,rfl⟩:=cC.mp hb;exact(Es (vJ hn (hr r h1)) k hk).2
 have gA:Bl n (yo n h):=λb hb=>by
  unfold yo at hb;split at hb
  ·rw[(mZ.mp hb).2]
   exact VD (Qc hn hh)
  ·rw[(mZ.mp hb).2]
   exact Qc hn hh
 have lA:(yo n h).length=h.natAbs:=by
  unfold yo;split<;>rw[xw]<;>lia
 unfold cJ
 by_cases c:h<0
 ·have pA:∀k∈(yo n h).flatten,k<0:=λk hk=>by
   obtain⟨b,hb,hk⟩:=xO.mp hk;unfold yo at hb;rw[if_pos c]at hb;rw[(mZ.mp hb).2]at hk;unfold gP at hk;obtain⟨x,hx,rfl⟩:=cC.mp hk;have:=(Es (vJ hn hh) x (by simpa using hx)).2;lia
  rw[Em,Eu (λx=>x<0) (λ_ _ a b=>.inr ⟨a,b⟩) _ pA];obtain⟨A',A'',B',B'',e1,e2,e3⟩:=Ew _ (yo n h).flatten pB;obtain⟨cs,c1,c2,c3⟩:=IC _ _ _ e1 gA;obtain⟨ds,d1,d2,d3⟩:=Dk _ _ _ e2 gB;rw[aB]at d1;refine⟨cs++ds,by rw[rK,c2,d2,e3],by rw[bO];lia,λb hb=>?_⟩;rcases cu.mp hb with hb|hb
  ·exact c3 b hb
  ·exact d3 b hb
 ·have pA:∀k∈(yo n h).flatten,0<k:=λk hk=>by
   obtain⟨b,hb,hk⟩:=xO.mp hk;unfold yo at hb;rw[if_neg c]at hb;rw[(mZ.mp hb).2]at hk;exact(Es (vJ hn hh) k hk).2
  rw[Eu (λx=>0<x) (λ_ _ a b=>.inl ⟨a,b⟩) _ λk hk=>by
   rcases cu.mp hk with hk|hk
   ·exact pA k hk
   ·exact pB k hk]
  refine⟨yo n h++rs.map (pX n),by rw[rK],by rw[bO,aB];lia,λb hb=>?_⟩;rcases cu.mp hb with hb|hb
  ·exact gA b hb
  ·exact gB b hb
def KR{L:List (List Int)}{m:Nat}(h:∀b∈L,b.length<=m):L.flatten.length<=L.length*m:=by
 induction L with
 |nil=>simp
 |cons b L ih=>
  have h1:=h b (by simp);have h2:=ih λx hx=>h x (by simp[hx]);rw[dA,bO,bD,Hc];lia
def nK{n:Nat}(hn:n<=7){h:Int}{rs:List (List Int)}(hr:∀r∈rs,bx n r):(yo n h).flatten.length<=h.natAbs*21/\(cJ n h rs).length<=(h.natAbs+rs.length)*21/\∀k∈cJ n h rs,gH n k:=by
 have hh:bx n (upTo n).reverse:=(uK _).trans (lg n);have l1:=IA hn hh;have lA:(yo n h).length=h.natAbs:=by
  unfold yo;split<;>rw[xw]<;>lia
 have hA:∀b∈yo n h,b.length<=21/\∀k∈b,gH n k:=λb hb=>by
  unfold yo at hb;split at hb
  ·rw[(mZ.mp hb).2]
   refine⟨by unfold gP;rw[aB,bH];exact l1,λk hk=>?_⟩;unfold gP at hk;obtain⟨x,hx,rfl⟩:=cC.mp hk;have:=(Es (vJ hn hh) x (by simpa using hx)).1;unfold gH at*;lia
  ·rw[(mZ.mp hb).2]
   exact⟨l1,λk hk=>(Es (vJ hn hh) k hk).1⟩
 have hB:∀b∈rs.map (pX n),b.length<=21/\∀k∈b,gH n k:=λb hb=>by
  obtain⟨r,h1,rfl⟩:=cC.mp hb;exact⟨IA hn (hr r h1),λk hk=>(Es (vJ hn (hr r h1)) k hk).1⟩
 have f1:=KR λb hb=>(hA b hb).1;have f2:=KR λb hb=>(hB b hb).1;rw[lA]at f1;rw[aB]at f2;refine⟨f1,?_,λk hk=>?_⟩
 ·unfold cJ
  rw[bO,Zh];lia
 ·unfold cJ at hk
  rcases cu.mp hk with hk|hk
  ·obtain⟨b,hb,hk⟩:=xO.mp hk
   exact(hA b hb).2 k hk
  ·obtain⟨b,hb,hk⟩:=xO.mp hk
   exact(hB b hb).2 k hk
theorem Qf{n:Nat}(hn:n<=7)(s0 s1 s2:Sl):∀(rs:List (List Int))(w:List Int)(s4:Sl),(∀r∈rs,bx n r)->w.length+rs.length*21<=100000->∃My,iO jC (rs.map λr=>.lst (aW r)) [s0,s1,s2,.own (aW w),s4]=.ok (.nx [s0,s1,s2,.own (aW (w++(rs.map (pX n)).flatten)),My])
 |[],w,s4,_,_=>⟨s4,by rw[ji,ji,xN,bE];rfl⟩
 |r::rs,w,s4,hr,hl=>by
  have h1:=hr r (by simp);have l1:=IA hn h1;rw[bD,Hc]at hl;obtain⟨My,e⟩:=Qf hn s0 s1 s2 rs (w++pX n r) (.val (.lst (aW r))) (λx hx=>hr x (by simp[hx])) (by rw[bO];lia);refine⟨My,?_⟩;have eb:jC (.lst (aW r)) [s0,s1,s2,.own (aW w),s4]=.ok (.nx [s0,s1,s2,.own (aW (w++pX n r)),.val (.lst (aW r))]):=by
   unfold jC;dsimp [mS,mD,mF,dH,aN,reduceAdd,reduceSub,reduceEqDiff,j8,(Qa hn h1).1];rw[Ye (by rw[cM,cM];lia),qc];dsimp [mS,mD,mF,dH,aN,reduceAdd,reduceSub,reduceEqDiff]
  rw[bw]
  conv=>lhs;unfold iO
  rw[eb];show iO _ _ _=_;rw[e,bw,dA,bQ]
def Qg(m:Nat)(w:List Int):(aZ m (aW w)).flatten=aW (aZ m w).flatten:=by
 unfold aW;rw[List.map_flatten,PK]
def iU{n:Nat}(hn:1<=n/\n<=7){h:Int}{rs:List (List Int)}(hr:∀r∈rs,bx n r)(hl:h.natAbs+rs.length<=100):cF [.int n,.tup [.int h,.lst (rs.map λr=>.lst (aW r))]]=.ok (aW (cJ n h rs)):=by
 have hh:bx n (upTo n).reverse:=(uK _).trans (lg n);have l1:=IA hn.2 hh;have a0:∀(x y:D),jJ [x,y] 0=aa x:=λ_ _=>rfl;have a1:∀(x y:D),jJ [x,y] 1=aa y:=λ_ _=>rfl;have f1:=(nK hn.2 (h:=h) hr).1;unfold cF BX;dsimp [mS,mD,mF,dH,aN,reduceAdd,reduceSub,reduceEqDiff,Pz n hn,(Qa hn.2 hh).1,a0,a1];have key:∀s2:Sl,∃My,iO jC (rs.map λr=>.lst (aW r)) [.val (.int n),.val (.tup [.int h,.lst (rs.map λr=>.lst (aW r))]),s2,.own (aW (yo n h).flatten),.no]=.ok (.nx [.val (.int n),.val (.tup [.int h,.lst (rs.map λr=>.lst (aW r))]),s2,.own (aW (cJ n h rs)),My]):=λs2=>Qf hn.2 _ _ s2 rs _ .no hr (by lia);obtain⟨s4,e4⟩:=key (.own (aW (pX n (upTo n).reverse)))
 by_cases c:h<0
 ·dsimp [c,decide_true,a0,Gm _ (show(pX n (upTo n).reverse).length<=1000 by lia)]
  rw[LL _ _ (by
   refine⟨by lia,by lia,?_⟩;rw[cM,aB,bH];have:(pX n (upTo n).reverse).length*(-h).toNat<=21*100:=OP l1 (by lia);exact big (by lia)),Qg]
  have ew:(aZ (-h).toNat ((pX n (upTo n).reverse).reverse.map λk=> -k)).flatten=(yo n h).flatten:=by unfold yo;rw[if_pos c];rfl
  rw[ew];dsimp [mS,mD,mF,dH,aN,reduceAdd,reduceSub,reduceEqDiff,a1,e4,mr]
 ·dsimp [c,decide_false,a0]
  rw[LL _ _ (by
   refine⟨by lia,by lia,?_⟩;rw[cM];have:(pX n (upTo n).reverse).length*h.toNat<=21*100:=OP l1 (by lia);exact big (by lia)),Qg]
  have ew:(aZ h.toNat (pX n (upTo n).reverse)).flatten=(yo n h).flatten:=by unfold yo;rw[if_neg c]
  rw[ew];dsimp [mS,mD,mF,dH,aN,reduceAdd,reduceSub,reduceEqDiff,a1,e4,mr]
def AD(n:Nat)(ω τ:Int×List RP):Int×List RP:=Vl n (ω.1+τ.1) (eT n τ.1 ω.2++τ.2)
def VI{n:Nat}{L:List RP}(h:ck n L):(L.map (gu n)).map (gu n)=L:=by
 rw[eR]
 conv=>rhs;rw[<-x8 L]
 exact mG λp hp=>Aw (h p hp)
def Ex{n:Nat}{L:List RP}(h:ck n L)(a b:Int):eT n b (eT n a L)=eT n (a+b) L:=by
 unfold eT
 by_cases c:a%2=0
 ·by_cases d:b%2=0
  ·rw[if_pos c,if_pos d,if_pos (by lia)]
  ·rw[if_pos c,if_neg d,if_neg (by lia)]
 ·by_cases d:b%2=0
  ·rw[if_neg c,if_pos d,if_neg (by lia)]
  ·rw[if_neg c,if_neg d,if_pos (by lia),VI h]
def VJ{n:Nat}{L:List RP}(h:ck n L)(a:Int):(eT n a L).map (gu n)=eT n (a+ -1) L:=by
 have:=Ex h a (-1);rw[<-this]
 conv=>rhs;unfold eT
 rw[if_neg (by decide)];rfl
def Gu{n:Nat}(L:List RP):eT n 0 L=L:=rfl
section
variable{n:Nat}(hn:n<=7)(h2:2<=n)
include hn h2
theorem Qh:∀(m:Nat)(a:Int){L B:List RP},ck n L->ck n B->Vl n a (L++(aZ m (gR n)++B))=Vl n (a+m) (eT n m L++B)
 |0,a,L,B,_,_=>by
  rw[xM,ky,Dh,rY,Gu]
 |m+1,a,L,B,hL,hB=>by
  have hr:ck n (aZ m (gR n)++B):=(ck.rep (pN n) m).app hB;have s:=(Io hn L hL).Mj (aZ m (gR n)++B);rw[gm,show L++(gR n::aZ m (gR n)++B)=(L++[gR n])++(aZ m (gR n)++B)by simp,
   Bt hn a ((hL.app (.one (pN n))).app hr) s,gF,Di hn h2 a (hL.gu.app hr),Qh m (a+1) hL.gu hB]
  have e:eT n m (L.map (gu n))=eT n ((m+1:Nat):Int) L:=by
   have:=Ex hL 1 m;rw[show eT n 1 L=L.map (gu n)from if_neg (by decide)]at this;rw[this];congr 1;lia
  rw[e];congr 1;lia
theorem VL{ω:Int×List RP}(hω:ck n ω.2)(h:Int){R:List RP}(hR:ck n R):AD n ω (Vl n h R)=Vl n (ω.1+h) (eT n h ω.2++R):=by
 obtain⟨m,k,e1,e2,e3⟩:=Vi hn h hR;have hp:ck n (eT n h ω.2):=yb hn h2 hω;have hz:ck n (aZ k (Zr n)):=ck.rep (eM n) k;rw[Bt hn (ω.1+h) (hp.app hR) (e3.app (eT n h ω.2)),Qh hn h2 m (ω.1+h) hp (e2.app hz),Ex hω];unfold AD;rw[e1,<-Iw];have hq:ck n (eT n (h+m) ω.2):=yb hn h2 hω;have:=Il hn (ω.1+h+m) (A:=eT n (h+m) ω.2++(Vl n h R).2) (B:=[]) (hq.app e2) (λx hx=>nomatch hx) k;rw[bE,bE,bQ]at this;exact this.symm
theorem mul_one{ω:Int×List RP}(hc:Cv n ω):AD n ω (0,[])=ω:=by
 unfold AD;rw[Gu,bE,rY];exact hc.id
theorem Z6{ω τ:Int×List RP}(hω:Cv n ω)(hτ:Cv n τ){k:Int}(hk:gH n k):act n k (AD n ω τ)=AD n ω (act n k τ):=by
 have XA:=hk;unfold gH at XA;have hp:ck n (eT n τ.1 ω.2):=yb hn h2 hω.iv;unfold act;split
 ·have ic:Iv n (Xr n (k-1).toNat).1 (Xr n (k-1).toNat).2:=Ay (by lia)
  conv=>lhs;unfold AD
  rw[<-PL hn h2 _ (hp.app hτ.iv) ic,bQ,<-VL hn h2 hω.iv τ.1 (hτ.iv.app (.one ic))];rfl
 ·have ic:Iv n (Xr n (-k-1).toNat).1 (Xr n (-k-1).toNat).2:=Ay (by lia)
  conv=>lhs;unfold AD
  rw[<-abX hn h2 _ (hp.app hτ.iv) ic,cj,VJ hω.iv,bQ,Iw,<-VL hn h2 hω.iv (τ.1+ -1) (hτ.iv.gu.app (.one (iT ic)))];rfl
theorem KS:∀(u:List Int){ω τ:Int×List RP},Cv n ω->Cv n τ->(∀k∈u,gH n k)->dM n u (AD n ω τ)=AD n ω (dM n u τ)
 |[],_,_,_,_,_=>rfl
 |k::u,ω,τ,hω,hτ,hu=>by
  have hk:=hu k (by simp);show dM n u (act n k (AD n ω τ))=AD n ω (dM n u (act n k τ));rw[Z6 hn h2 hω hτ hk];exact KS u hω (Mu hn h2 hk hτ) λx hx=>hu x (by simp[hx])
theorem Ey{u:List Int}(hu:∀k∈u,gH n k){ω:Int×List RP}(hω:Cv n ω):dM n u ω=AD n ω (dM n u (0,[])):=by
 rw[<-KS hn h2 u hω oM hu,mul_one hn h2 hω]
theorem VM{u v:List Int}(hu:∀k∈u,gH n k)(hv:∀k∈v,gH n k)(e:dM n u (0,[])=dM n v (0,[])):Lk n u v:=λω hc=>by
 rw[Ey hn h2 hu hc,Ey hn h2 hv hc,e]
theorem Gv{u:List Int}(hu:∀k∈u,gH n k):∀k∈u.reverse.map (λk=> -k),gH n k:=λk hk=>by
 obtain⟨x,hx,rfl⟩:=cC.mp hk;have:=hu x (by simpa using hx);unfold gH at*;lia
theorem Rk{u:List Int}(hu:∀k∈u,gH n k){ω:Int×List RP}(hc:Cv n ω):dM n u (dM n (u.reverse.map λk=> -k) ω)=ω:=by
 have:=qZ hn h2 (u.reverse.map λk=> -k) (Gv hn h2 hu) hc;have e:(u.reverse.map λk=> -k).reverse.map (λk=> -k)=u:=by
  rw[<-mw,kJ,eR]
  conv=>rhs;rw[<-x8 u]
  exact mG λk _=>Iu k
 rw[e]at this;exact this
theorem aeW{u v:List Int}(hu:∀k∈u,gH n k)(hv:∀k∈v,gH n k)(e:dM n u (0,[])=dM n v (0,[])):dM n (u.reverse.map λk=> -k) (0,[])=dM n (v.reverse.map λk=> -k) (0,[]):=by
 have c:=ya hn h2 _ (Gv hn h2 hv) oM;have h1:=qZ hn h2 u hu c;rw[VM hn h2 hu hv e _ c,Rk hn h2 hv oM]at h1;exact h1
theorem VN{q:Int×List Int}(hr:bx n q.2)(h:Int){L:List RP}(hI:ck n L):Vl n (h+q.1) (eT n q.1 L++[yn q.2])=vk n q (Vl n h L):=by
 unfold vk
 by_cases c:q.1%2=0
 ·have e:∀L:List RP,eT n q.1 L=L:=λL=>if_pos c
  rw[e,e,Mn hn h2 (h+q.1) hI (.one (fW hr))];unfold Vl;dsimp only;rw[show h+q.1+((gf n (vh n L):Nat):Int)=h+((gf n (vh n L):Nat):Int)+q.1 by lia]
 ·have e:∀L:List RP,eT n q.1 L=L.map (gu n):=λL=>if_neg c
  rw[e,e];exact Mp hn h2 h hI (.one (fW hr)) q.1
end
section
variable{n:Nat}(hn:n<=7)(h2:2<=n)
include hn h2
theorem Gw:∀(qs:List (Int×List Int))(h:Int)(L:List RP),ck n L->(∀q∈qs,bx n q.2)->Vl n (h+hS qs) (eT n (hS qs) L++(eO n qs).map yn)=qs.foldl (λω q=>vk n q ω) (Vl n h L)
 |[],h,L,_,_=>by
  show Vl n (h+0) (eT n 0 L++[])=_;rw[rY,bE];rfl
 |q::qs,h,L,hI,hq=>by
  have q2:=hq q (by simp);have ih:=Gw qs (h+q.1) (eT n q.1 L++[yn q.2]) ((yb hn h2 hI).app (.one (fW q2))) λx hx=>hq x (by simp[hx]);rw[zg,<-VN hn h2 q2 h hI,<-ih,Gs hn h2 hI q2,bQ,show hS (q::qs)=q.1+hS qs from rfl,Iw];rfl
theorem Rl{qs:List (Int×List Int)}(hq:∀q∈qs,bx n q.2):qs.foldl (λω q=>vk n q ω) (0,[])=Vl n (hS qs) ((eO n qs).map yn):=by
 have:=Gw hn h2 qs 0 [] (λx hx=>nomatch hx) hq;rw[show eT n (hS qs) []=[]by unfold eT;split<;>rfl,ky,Z2]at this;exact this.symm
end
def Rm(ω:Int×List RP):Fm:=(ω.1,ω.2.map (·.1))
def anT(ω:Int×List RP):wc (Rm ω)=.tup [.int ω.1,.lst (ω.2.map λp=>.lst (aW p.1))]:=by
 unfold wc Rm;rw[eR];rfl
def VO(s0 s1 s2 s3:Sl)(h:Int)(nss:List (List Int)):cy 4 [s0,s1,s2,s3,.deep (.tf h nss)]=.ok (wc (h,nss)):=rfl
def Qi(s0 s1 s2 s3:Sl)(h:Int)(nss:List (List Int)):TX 4 [s0,s1,s2,s3,.deep (.tf h nss)]=.ok (h,nss):=rfl
def VP{n:Nat}(h1:1<=n)(hn:n<=7){qs:List (Int×List Int)}(hq:∀q∈qs,bx n q.2)(hl:qs.length<=40):cX [.int n,.lst (qs.map Ck)]=.ok ((gf n (eY n (eO n qs)):Int)+hS qs,((eY n (eO n qs)).drop (gf n (eY n (eO n qs)))).map (·.1)):=by
 have e4:=P4 hn hq (by lia);have e5:=x9 n qs;have e6:=Bv qs hq;generalize hR:eY n (eO n qs)=C at*;have e9:cX [.int n,.lst (qs.map Ck)]=R.ne (Bh [.val (.int n),.val (.lst (qs.map Ck)),.no,.no,.deep (.tf (qI n C).1 (qI n C).2)]>=>tfO):=by
  show R.ne (R.bind (bU [.lst (qs.map Ck)]) _)=_;rw[e4,R.cB];refine congrArg R.ne ((if_pos ⟨⟨by lia,by lia⟩,by lia,e6⟩).trans ?_);rw[bB,hR]
 rw[e9];unfold Bh;have a0:∀(x y:D),jJ [x,y] 0=aa x:=λ_ _=>rfl;rw[VO,Qi];unfold wc;dsimp [mS,mD,mF,dH,aN,reduceAdd,reduceSub,reduceEqDiff,a0,iW,KO,R.j6];rw[gq (by rw[aB];lia)];dsimp [yy,qC,p7,FW,FZ];rfl
def anU{n:Nat}(hn:n<=7)(h2:2<=n){qs:List (Int×List Int)}(hq:∀q∈qs,bx n q.2)(hl:qs.length<=40):cX [.int n,.lst (qs.map Ck)]=.ok (Rm (qs.foldl (λω q=>vk n q ω) (0,[]))):=by
 rw[VP (by lia) hn hq hl,Rl hn h2 hq];have hV:vh n ((eO n qs).map yn)=eY n (eO n qs):=by unfold vh eY;rw[ZW];rfl
 unfold Vl Rm;rw[hV,ZX]
def KU{C:List RP}{nss:List (List Int)}(e:(C.map λp=>D.lst (aW p.1))=nss.map λns=>D.lst (ns.map D.int)):C.map (·.1)=nss:=by
 induction C generalizing nss with
 |nil=>cases nss with
  |nil=>rfl
  |cons x y=>cases e
 |cons p C ih=>cases nss with
  |nil=>cases e
  |cons x y=>
   rw[bw,bw]at e;injection e with e1 e2;injection e1 with e1;rw[bw,ih e2,X6 e1]
def Z7{n:Int}{d:D}{h:Int}{nss:List (List Int)}(ek:kK [.int n,d]=.ok (wc (h,nss))):cX [.int n,d]=.ok (h,nss):=by
 have ET:R.ne (bU [d]>=>λrs=> @ite _ ((1<=n/\n<=7)/\rs.length<=40/\∀r∈rs,bx n.toNat r) (dR _) (Kh [.val (.int n),.val d,.no,.no,.val (Ke n.toNat (eY n.toNat rs))]>=>aJ) .bad)=.ok (wc (h,nss)):=ek;show R.ne (bU [d]>=>λrs=> @ite _ ((1<=n/\n<=7)/\rs.length<=40/\∀r∈rs,bx n.toNat r) (dR _) (Bh [.val (.int n),.val d,.no,.no,.deep (.tf (qI n.toNat (eY n.toNat rs)).1 (qI n.toNat (eY n.toNat rs)).2)]>=>tfO) .bad)=_;cases er:bU [d]with
 |bad=>rw[er]at ET;cases ET
 |err c=>rw[er]at ET;cases ET
 |ok rs=>
  rw[er,R.cB]at ET;rw[R.cB]
  by_cases hg:(1<=n/\n<=7)/\rs.length<=40/\∀r∈rs,bx n.toNat r
  ·rw[if_pos hg]at ET⊢
   generalize eY n.toNat rs=C at ET⊢;have a0:∀(x y:D),jJ [x,y] 0=aa x:=λ_ _=>rfl;have a1:∀(x y:D),jJ [x,y] 1=aa y:=λ_ _=>rfl;unfold Kh Ke at ET;unfold Bh;rw[VO,Qi];unfold wc at*;dsimp [mS,mD,mF,dH,aN,reduceAdd,reduceSub,reduceEqDiff,a0,a1,iW]at ET⊢;revert ET;generalize (R.bind _ λxs=>R.of (yy xs):R D)=S;intro ET;cases S with
   |bad=>cases ET
   |err c=>cases ET
   |ok s=>
    cases s with
    |int s=>
     dsimp [mS,mD,mF,dH,aN,reduceAdd,reduceSub,reduceEqDiff,FW,FZ]at ET⊢;injection ET with ET;injection ET with ET;injection ET with q1 q2;injection q1 with q1;injection q2 with q2 _;injection q2 with q2;show R.ok (_,(qI n.toNat C).2)=_;congr 1;refine Prod.ext q1 ?_;exact KU q2
    |_=>cases ET
  ·rw[if_neg hg]at ET
   cases ET
def KW{n:Int}{w:List D}{h:Int}{nss:List (List Int)}(e:D6 [.int n,.lst w]=.ok (wc (h,nss))):dS [.int n,.lst w]=.ok (h,nss):=by
 unfold D6 L5 at e;unfold dS O7 YN;dsimp [mS,mD,mF,dH,aN,reduceAdd,reduceSub,reduceEqDiff]at e⊢;cases es:fG [.int n,.lst w]with
 |bad=>rw[es]at e;cases e
 |err c=>rw[es]at e;cases e
 |ok d=>
  rw[es]at e;dsimp at e⊢;cases em:kK [.int n,d]with
  |bad=>rw[em]at e;cases e
  |err c=>rw[em]at e;cases e
  |ok v=>
   rw[em]at e;dsimp at e;cases e;rw[Z7 em];rfl
def aeX{n:Nat}{p q:RP}(ip:Iv n p.1 p.2)(iq:Iv n q.1 q.2)(h:pI p q=[]):pI (gu n p) (gu n q)=[]:=by
 refine(dX (sM ip) (sM iq)).mpr λj hj hd=>?_;have e1:ai (gu n q).2 (j+1)=_:=cH iq.ls hj;have e2:ai (gu n q).2 j=_:=cH iq.ls (show j<n by lia);have e3:ai (gu n p).1 (j+1)=_:=cH ip.lr hj;have e4:ai (gu n p).1 j=_:=cH ip.lr (show j<n by lia);rw[e1,e2,show n-1-(j+1)=n-2-j by lia,show n-1-j=n-2-j+1 by lia]at hd;rw[e3,e4,show n-1-(j+1)=n-2-j by lia,show n-1-j=n-2-j+1 by lia];have:=(dX ip iq).mp h (n-2-j) (by lia) (by lia);lia
def Z8{n:Nat}{r q:RP}(ir:Iv n r.1 r.2)(iq:Iv n q.1 q.2)(h:pI r q=[]):pI (gu n (yI n q)) (yI n r)=[]:=by
 have ic:=iT iq;refine(dX (sM ic) (iT ir)).mpr λj hj hd=>?_;have e3:ai (gu n (yI n q)).1 (j+1)=_:=cH ic.lr hj;have e4:ai (gu n (yI n q)).1 j=_:=cH ic.lr (show j<n by lia);rw[B5 ir hj,B5 ir (show j<n by lia),show n-1-(j+1)=n-2-j by lia,show n-1-j=n-2-j+1 by lia]at hd;rw[e3,e4,Eo iq (by lia),Eo iq (by lia),show n-1-(j+1)=n-2-j by lia,show n-1-j=n-2-j+1 by lia];have:=λz=>(dX ir iq).mp h (n-2-j) (by lia) z;have ne:ai q.2 (n-2-j)≠ai q.2 (n-2-j+1):=λz=>by
  have a:=(iq.sr (n-2-j) (by lia)).2.2;have b:=(iq.sr (n-2-j+1) (by lia)).2.2;rw[z,b]at a;lia
 lia
theorem VQ{n:Nat}:∀{L:List RP},ck n L->ym L->ym (L.map (gu n))
 |[],_,_=>trivial
 |[_],_,_=>trivial
 |q::p::L,hI,h=>⟨aeX (hI p (by simp)) (hI q (by simp)) h.1,VQ (L:=p::L) (λx hx=>hI x (by simp[hx])) h.2⟩
def Z9{n:Nat}{p:RP}(ip:Iv n p.1 p.2)(h:OY n p):OY n (gu n p):=by
 obtain⟨a,ha,hd⟩:=h;refine⟨n-2-a,by lia,?_⟩;have e1:ai (gu n p).2 (n-2-a+1)=_:=cH ip.ls (show n-2-a+1<n by lia);have e2:ai (gu n p).2 (n-2-a)=_:=cH ip.ls (show n-2-a<n by lia);rw[e1,e2,show n-1-(n-2-a+1)=a by lia,show n-1-(n-2-a)=a+1 by lia];lia
structure AE(n:Nat)(L:List RP):Prop where
 ln:wF n L
 nh:∀x∈L,x≠gR n
theorem AE.gu {n:Nat}{L:List RP}(h:AE n L):AE n (L.map (DL.gu n)):=⟨⟨h.ln.iv.gu,by rw[<-mw];exact VQ (λx hx=>h.ln.iv x (by simpa using hx)) h.ln.lw,λx hx=>by
  obtain⟨p,hp,rfl⟩:=cC.mp hx;exact Z9 (h.ln.iv p hp) (h.ln.ns p hp)⟩,λx hx e=>by
  obtain⟨p,hp,rfl⟩:=cC.mp hx;have:DL.gu n (DL.gu n p)=DL.gu n (gR n):=by rw[e]
  rw[Aw (h.ln.iv p hp),KC]at this;exact h.nh p hp this⟩
def AE.par {n:Nat}{L:List RP}(h:AE n L)(g:Int):AE n (eT n g L):=by
 unfold eT;split
 ·exact h
 ·exact h.gu
def AE.vl {n:Nat}(hn:n<=7){L:List RP}(h:AE n L)(k:Int):Vl n k L=(k,L):=by
 have hc:vh n L=L:=Ij hn (k:=0) h.ln.iv h.ln (by rw[xM,bE];exact .nil _);have h0:gf n L=0:=by
  unfold gf;cases L with
  |nil=>rfl
  |cons p L=>rw[C5 (by simpa using h.nh p (by simp))];rfl
 unfold Vl;rw[hc,h0];simp
def AE.cv {n:Nat}(hn:n<=7){L:List RP}(h:AE n L)(k:Int):Cv n (k,L):=⟨h.ln.iv,h.vl hn k⟩
theorem ym.tl2:∀{A B:List RP},ym (A++B)->ym B
 |[],_,h=>h
 |_::A,_,h=>ym.tl2 (A:=A) h.tail
def AE.pre {n:Nat}{A B:List RP}(h:AE n (A++B)):AE n A:=⟨⟨λx hx=>h.ln.iv x (by simp[hx]),by
  have:=h.ln.lw;rw[n8]at this;exact this.tl2,λx hx=>h.ln.ns x (by simp[hx])⟩,λx hx=>h.nh x (by simp[hx])⟩
def AE.Mj {n:Nat}{A B:List RP}(h:AE n (A++B)):AE n B:=⟨⟨λx hx=>h.ln.iv x (by simp[hx]),by
  have:=h.ln.lw;rw[n8]at this;exact this.app,λx hx=>h.ln.ns x (by simp[hx])⟩,λx hx=>h.nh x (by simp[hx])⟩
section
variable{n:Nat}(hn:n<=7)(h2:2<=n)
include hn h2
theorem aaa{r:List Int}(hr:bx n r):yn (fl n (vP r))=yI n (yn r):=by
 have ic:=iT (r:=yn r) (fW hr);exact mE (fW (nJ ic)) ic rfl
theorem aab{r:List Int}(hr:bx n r)(ω:Int×List RP):vk n (-1,fl n (vP r)) ω=Ma n (yn r) ω:=by
 unfold vk eT Ma;rw[if_neg (show¬(-1:Int)%2=0 by decide),aaa hn h2 hr]
theorem anV{r:List Int}(hr:bx n r):∀k∈pX n r,gH n k:=λk hk=>(Es (vJ hn hr) k hk).1
theorem Qj{r:List Int}(hr:bx n r){ω:Int×List RP}(hc:Cv n ω):dM n (gP (pX n r)) ω=Ma n (yn r) ω:=by
 have c:=Vo hn h2 hc (fW hr);have:=qZ hn h2 (pX n r) (anV hn h2 hr) c;rw[Mw hn h2 hr c,abZ hn h2 hc (fW hr)]at this;exact this
theorem Rn(k:Int):∀x∈(yo n k).flatten,gH n x:=λx hx=>by
 have:=(nK hn (h:=k) (rs:=[]) (λr hr=>nomatch hr)).2.2 x;unfold cJ at this;exact this (by simpa using hx)
theorem ID(k:Int):dM n (yo n k).flatten (0,[])=(k,[]):=by
 have:=t8 hn h2 (h0:=0) (Z:=[]) oM k;unfold cJ at this;simpa using this
theorem Mz(k:Int){ω:Int×List RP}(hc:Cv n ω):dM n (yo n k).flatten ω=Vl n (ω.1+k) (eT n k ω.2):=by
 rw[Ey hn h2 (Rn hn h2 k) hc,ID hn h2];unfold AD;rw[bE]
theorem VR(k:Int):dM n (gP (yo n k).flatten) (0,[])=(-k,[]):=by
 have c:=tZ hn h2 (-k);have:=qZ hn h2 (yo n k).flatten (Rn hn h2 k) c;rw[Mz hn h2 k c]at this;rw[show eT n k ((-k,[]):Int×List RP).2=[]by unfold eT;split<;>rfl,show((-k,[]):Int×List RP).1+k=0 by show-k+k=0;lia]at this;exact this
theorem Fl(k:Int){ω:Int×List RP}(hc:Cv n ω):vk n (k,upTo n) ω=dM n (yo n k).flatten ω:=by
 rw[Mz hn h2 k hc];unfold vk;have e:yn (upTo n)=Zr n:=mE (fW (lg n)) (eM n) rfl;have:=Ik hn (ω.1+k) (A:=eT n k ω.2) (B:=[]) (yb hn h2 hc.iv) λx hx=>nomatch hx;rw[bE]at this;rw[<-this,e]
theorem Dn(a b:List Int):gP (a++b)=gP b++gP a:=by
 unfold gP;rw[n8,cj]
theorem Gx:∀(rs:List (List Int)){ω:Int×List RP},(∀r∈rs,bx n r)->Cv n ω->(rs.reverse.map λr=>((-1:Int),fl n (vP r))).foldl (λω q=>vk n q ω) ω=dM n (gP (rs.map (pX n)).flatten) ω/\Cv n (dM n (gP (rs.map (pX n)).flatten) ω)
 |[],ω,_,hc=>⟨rfl,hc⟩
 |r::rs,ω,hr,hc=>by
  obtain⟨e,c⟩:=Gx rs (λx hx=>hr x (by simp[hx])) hc;have h1:=hr r (by simp);rw[kr,cj,uR,e,show((r::rs).map (pX n)).flatten=pX n r++(rs.map (pX n)).flatten from rfl,Dn hn h2,fg,Qj hn h2 h1 c];exact⟨aab hn h2 h1 _,Vo hn h2 c (fW h1)⟩
theorem turn_val{rs:List (List Int)}(hr:∀r∈rs,bx n r)(h:Int):((rs.reverse.map λr=>((-1:Int),fl n (vP r)))++[(-h,upTo n)]).foldl (λω q=>vk n q ω) (0,[])=dM n (gP (cJ n h rs)) (0,[]):=by
 obtain⟨e,c⟩:=Gx hn h2 rs hr oM;rw[uR,e];show vk n (-h,upTo n) _=_;unfold cJ;rw[Fl hn h2 _ c,Dn hn h2,fg];exact VM hn h2 (Rn hn h2 _) (Gv hn h2 (Rn hn h2 h)) (by rw[ID hn h2];exact(VR hn h2 h).symm) _ c
end
def Ez{n:Nat}(hn:n<=7){r:List Int}(hr:bx n r):fY [.lst (aW r)]=.ok (Ck (-1,fl n (vP r))):=by
 unfold fY sF;dsimp [mS,mD,mF,dH,aN,reduceAdd,reduceSub,reduceEqDiff,Gf (mH hr) hn];rfl
def wW(n:Nat):List RP->List RP
 |[]=>[]
 |r::T=>(wW n T).map (gu n)++[yI n r]
def aac{n:Nat}(h2:2<=n){r:RP}(ir:Iv n r.1 r.2)(h:r≠gR n):OY n (yI n r):=kH λhn=>h (by
 have e:=z8 (iT ir) (eM n) hn;refine Im ir (pN n) λt ht=>?_;have:=Eo ir ht;rw[e]at this;rw[show ai (gR n).2 t=_ from gg ht];rw[show ai (upTo n,upTo n).1 t=_ from aP ht]at this;lia)
def aeY{n:Nat}{r:RP}(ir:Iv n r.1 r.2)(h:OY n r):yI n r≠gR n:=λe=>by
 obtain⟨a,ha,hd⟩:=h;have e1:=Eo ir (show a<n by lia);have e2:=Eo ir ha;rw[e,show ai (gR n).1 _=_ from gg (by lia)]at e1 e2;lia
theorem yc{n:Nat}(h2:2<=n):∀{T:List RP},AE n T->AE n (wW n T)
 |[],_=>⟨⟨(λx hx=>nomatch hx),trivial,(λx hx=>nomatch hx)⟩,λx hx=>nomatch hx⟩
 |r::T,h=>by
  have ir:=h.ln.iv r (by simp);have ih:=(yc h2 (T:=T) (AE.Mj (A:=[r]) h)).gu;have iv:ck n (wW n (r::T)):=ih.ln.iv.app (.one (iT ir));refine⟨⟨iv,?_,λx hx=>?_⟩,λx hx=>?_⟩
  ·show ym ((wW n T).map (gu n)++[yI n r]).reverse
   rw[n8];have l:=ih.ln.lw;cases T with
   |nil=>exact trivial
   |cons q T'=>
    have e:((wW n (q::T')).map (gu n)).reverse=gu n (yI n q)::(((wW n T').map (gu n)).map (gu n)).reverse:=by
     show(((wW n T').map (gu n)++[yI n q]).map (gu n)).reverse=_;rw[cj,n8];rfl
    rw[e]at l⊢;exact⟨Z8 ir (h.ln.iv q (by simp)) (h.ln.nb (A:=[]) (B:=T') rfl),l⟩
  ·rcases cu.mp (show x∈(wW n T).map (gu n)++[yI n r]from hx)with z|z
   ·exact ih.ln.ns x z
   ·rw[dC.mp z]
    exact aac h2 ir (h.nh r (by simp))
  ·rcases cu.mp (show x∈(wW n T).map (gu n)++[yI n r]from hx)with z|z
   ·exact ih.nh x z
   ·rw[dC.mp z]
    exact aeY ir (h.ln.ns r (by simp))
theorem KY{n:Nat}:∀T:List RP,(wW n T).length=T.length
 |[]=>rfl
 |r::T=>by
  show((wW n T).map (gu n)++[yI n r]).length=_;rw[bO,aB,KY T];rfl
theorem Gy{n:Nat}{r:RP}(ir:Iv n r.1 r.2):∀T:List RP,∃L,wW n (T++[r])=(if T.length%2=0 then yI n r else gu n (yI n r))::L
 |[]=>⟨[],rfl⟩
 |q::T=>by
  obtain⟨L,e⟩:=Gy ir T;refine⟨L.map (gu n)++[yI n q],?_⟩;show(wW n (T++[r])).map (gu n)++[yI n q]=_;rw[e,bw,gF,bD];congr 1
  by_cases c:T.length%2=0
  ·rw[if_pos c,if_neg (by lia)]
  ·rw[if_neg c,if_pos (by lia),Aw (iT ir)]
section
variable{n:Nat}(hn:n<=7)(h2:2<=n)
include hn h2
theorem KZ:∀{T:List RP},AE n T->dM n (gP ((T.map (·.1)).map (pX n)).flatten) (0,[])=(-(T.length:Int),wW n T)
 |[],_=>rfl
 |r::T,h=>by
  have ir:=h.ln.iv r (by simp);have ih:=KZ (T:=T) (AE.Mj (A:=[r]) h);have hT:=yc h2 (AE.Mj (A:=[r]) h);rw[show(((r::T).map (·.1)).map (pX n)).flatten=pX n r.1++((T.map (·.1)).map (pX n)).flatten from rfl,Dn hn h2,fg,ih,Qj hn h2 (nJ ir) (hT.cv hn _)];have er:yn r.1=r:=mE (fW (nJ ir)) ir rfl;rw[er];unfold Ma;have:=(yc h2 h).vl hn (-((r::T).length:Int));rw[show-((r::T).length:Int)= -(T.length:Int)+ -1 by rw[bD];lia]at this⊢;exact this
theorem aad{T:List RP}(h:AE n T)(k:Int):dM n (gP (cJ n k (T.map (·.1)))) (0,[])=(-(T.length:Int)+ -k,eT n (-k) (wW n T)):=by
 unfold cJ;have c:=(yc h2 h).cv hn (-(T.length:Int));have lk:dM n (gP (yo n k).flatten) (-(T.length:Int),wW n T)=_:=VM hn h2 (Gv hn h2 (Rn hn h2 k)) (Rn hn h2 (-k)) (by rw[ID hn h2];exact VR hn h2 k) _ c;rw[Dn hn h2,fg,KZ hn h2 h,lk,Mz hn h2 _ c];exact((yc h2 h).par (-k)).vl hn _
end
def wY{b:D->DE->R Out}{x:D}{xs:List D}{e e':DE}(h:b x e=.ok (.nx e')):iO b (x::xs) e=iO b xs e':=by
 conv=>lhs;unfold iO
 rw[h];rfl
def aae(ns:List Int)(k:Nat):ie [.lst (aW ns),.int k]=.ok (.int (ai ns k)):=by
 unfold ie wk ai;dsimp [mS,mD,mF,dH,aN,reduceAdd,reduceSub,reduceEqDiff,cM]
 by_cases h:(k:Int)<ns.length
 ·have hk:k<ns.length:=by lia
  dsimp [h,decide_true];rw[g7 (by lia) h];dsimp [bB];unfold ai;rfl
 ·dsimp [mS,mD,mF,dH,aN,reduceAdd,reduceSub,reduceEqDiff,h,decide_false]
  rw[HU (by lia)];rfl
def Ro(r:List Int)(h:r.length<64):JD (aW r)=.ok (aW (sortI r)):=by
 unfold JD;rw[qC];exact if_pos h
def VS{n:Nat}(hn:n<=7):JI [.int n]=.ok (aW (upTo n).reverse):=by
 refine(if_pos ⟨by lia,by lia⟩).trans (congrArg R.ok ?_);rw[bB];have hc:n=0\/n=1\/n=2\/n=3\/n=4\/n=5\/n=6\/n=7:=by lia
 rcases hc with rfl|rfl|rfl|rfl|rfl|rfl|rfl|rfl<;>rfl
def yJ:List RP->D
 |[]=>.non
 |p::_=>.lst (aW p.1)
def aaf(xs:List D):Jw (.lst xs) .non=aa (.bl true):=rfl
def aim{n:Nat}(hn:n<=7)(s0 s1:Sl){A:List RP}{q:RP}(hA:∀p∈A,Iv n p.1 p.2)(iq:Iv n q.1 q.2)(hf:∀p B,A=p::B->pI p q=[]){j:Nat}(hj:j+1<n)(s4:Sl):
  jn (.int ((j:Int)+1)) [s0,s1,.val (yJ A),.val (.lst (aW q.1)),s4]=.ok (.nx [s0,s1,.val (yJ A),.val (.lst (aW q.1)),.val (.int ((j:Int)+1))]):=by
 unfold jn;cases A with
 |nil=>
  unfold yJ;dsimp [mS,mD,mF,dH,aN,reduceAdd,reduceSub,reduceEqDiff,j8,Yo]
 |cons p B=>
  have ip:=hA p (by simp);have h:=(dX ip iq).mp (hf p B rfl) j hj;have e1:pF (aW q.1) (.int ((j:Int)+1-1))=.ok (.int (ai q.2 j)):=by rw[show(j:Int)+1-1=((j:Nat):Int)by lia];exact zX iq (by lia)
  have e2:pF (aW q.1) (.int ((j:Int)+1))=.ok (.int (ai q.2 (j+1))):=by have:=zX iq hj;rw[<-this];congr 2
  unfold yJ;dsimp [mS,mD,mF,dH,aN,reduceAdd,reduceSub,reduceEqDiff,j8,aaf,e1,e2]
  by_cases c:ai q.2 j>ai q.2 (j+1)
  ·have h2:=h c
   dsimp [mS,mD,mF,dH,aN,reduceAdd,reduceSub,reduceEqDiff,c,decide_true];have lp:=ip.lr;rw[g7 (by lia) (by lia),g7 (by lia) (by lia)];dsimp [mS,mD,mF,dH,aN,reduceAdd,reduceSub,reduceEqDiff];rw[show((j:Int)+1-1).toNat=j by lia,show((j:Int)+1).toNat=j+1 by lia,decide_eq_false (by lia)];dsimp [mS,mD,mF,dH,aN,reduceAdd,reduceSub,reduceEqDiff]
  ·dsimp [mS,mD,mF,dH,aN,reduceAdd,reduceSub,reduceEqDiff,c,decide_false]
theorem ab1{n:Nat}(hn:n<=7)(s0 s1:Sl){A:List RP}{q:RP}(hA:∀p∈A,Iv n p.1 p.2)(iq:Iv n q.1 q.2)(hf:∀p B,A=p::B->pI p q=[]):∀(m j:Nat)(s4:Sl),j+1+m<=n->∃My,iO jn (uD ((j:Int)+1) m) [s0,s1,.val (yJ A),.val (.lst (aW q.1)),s4]=.ok (.nx [s0,s1,.val (yJ A),.val (.lst (aW q.1)),My])
 |0,j,s4,_=>⟨s4,by rw[show uD ((j:Int)+1) 0=[]from rfl];rfl⟩
 |m+1,j,s4,h=>by
  obtain⟨s,e⟩:=ab1 hn s0 s1 hA iq hf m (j+1) (.val (.int ((j:Int)+1))) (by lia);refine⟨s,?_⟩;have er:uD ((j:Int)+1) (m+1)=.int ((j:Int)+1)::uD (((j+1:Nat):Int)+1) m:=by
   rw[xK,xK,Hr,bw,eR,<-tj];congr 1;congr 1;apply mG;intro x _;simp_all only [aag];lia
  rw[er,wY (aim hn s0 s1 hA iq hf (by lia) s4)];exact e
def ain{n:Nat}(h1:1<=n)(hn:n<=7)(s0 s4:Sl){A:List RP}{q:RP}(hA:∀p∈A,Iv n p.1 p.2)(iq:Iv n q.1 q.2)(hs:OY n q)(hh:q≠gR n)(hf:∀p B,A=p::B->pI p q=[])(s3:Sl):
  ∃My,jo (.lst (aW q.1)) [s0,.val (.int n),.val (yJ A),s3,s4]=.ok (.nx [s0,.val (.int n),.val (yJ (q::A)),.val (.lst (aW q.1)),My]):=by
 have hi:Iv n (upTo n) (upTo n):=qV n;have lq:=iq.lr;have n1:q.1≠upTo n:=λe=>by
  have i2:=iq;rw[e]at i2;exact UC hs (Prod.ext e (i2.symm.uniq hi.symm))
 have n2:q.1≠(upTo n).reverse:=λe=>by
  have i2:=iq;rw[e]at i2;exact hh (Prod.ext e (i2.symm.uniq (Vx n).symm))
 unfold jo;dsimp [mS,mD,mF,dH,aN,reduceAdd,reduceSub,reduceEqDiff,j8,iW];rw[yP (λ_=>false) q.1 λs _=>⟨_,j8 _ _ _,rfl,rfl⟩];have ef:q.1.filter (λ_=>false)=[]:=ZL.mpr λ_ _=>by simp
 have t1:∀xs:List D,lM (BR (.lst xs)) "list"=true:=λ_=>rfl;rw[ef];dsimp [R.j6,t1,jZ];rw[gq (by decide),show(D.lst [])=.lst (aW [])from rfl];dsimp [Tn,decide_true,jZ];rw[Ro _ (by lia),Uj (nJ iq),A0 _ (by lia),bB,Bb,VS hn];dsimp [Tn,Tj,decide_true,jZ,decide_eq_false n1,decide_eq_false n2];rw[LK _ _ (by lia)];obtain⟨s,e⟩:=ab1 hn s0 (.val (.int n)) hA iq hf (n-1) 0 s4 (by lia);rw[show((n:Int)-1).toNat=n-1 by lia,show(1:Int)=((0:Nat):Int)+1 from rfl];dsimp [e];exact⟨_,rfl⟩
theorem VU{n:Nat}(h1:1<=n)(hn:n<=7)(s0:Sl){R:List RP}(hL:wF n R)(hh:∀x∈R,x≠gR n):∀(B A:List RP)(s3 s4:Sl),R=A.reverse++B->∃s2' s3' My,iO jo (B.map λp=>.lst (aW p.1)) [s0,.val (.int n),.val (yJ A),s3,s4]=.ok (.nx [s0,.val (.int n),s2',s3',My])
 |[],A,s3,s4,_=>⟨_,s3,s4,rfl⟩
 |q::B,A,s3,s4,e=>by
  have mq:q∈R:=by rw[e];simp
  obtain⟨u4,e1⟩:=ain h1 hn s0 s4 (A:=A) (λp hp=>hL.iv p (by rw[e];simp[hp])) (hL.iv q mq) (hL.ns q mq) (hh q mq) (λp C ec=>hL.nb (A:=C.reverse) (B:=B) (by rw[e,ec];simp)) s3;obtain⟨a,b,c,e2⟩:=VU h1 hn s0 hL hh B (q::A) (.val (.lst (aW q.1))) u4 (by rw[e];simp);exact⟨a,b,c,by rw[bw,wY e1];exact e2⟩
def EA{n:Nat}(h1:1<=n)(hn:n<=7){Z:List RP}{h:Int}(hL:wF n Z)(hh:∀x∈Z,x≠gR n)(h0:n=1->h=0):dF [.tup [.int h,.lst (Z.map λp=>.lst (aW p.1))],.int n]=.ok (.bl true):=by
 unfold dF wo;have a0:∀(x y:D),jJ [x,y] 0=aa x:=λ_ _=>rfl;have a1:∀(x y:D),jJ [x,y] 1=aa y:=λ_ _=>rfl;have t1:∀xs:List D,lM (BR (.lst xs)) "list"=true:=λ_=>rfl;have t2:∀xs:List D,lM (BR (.tup xs)) "tuple"=true:=λ_=>rfl;have t3:∀i:Int,lM (BR (.int i)) "int"=true:=λ_=>rfl;have t4:∀i:Int,lM (BR (.int i)) "bool"=false:=λ_=>rfl;dsimp [mS,mD,mF,dH,aN,reduceAdd,reduceSub,reduceEqDiff,t1,t2,jZ,a0,a1,t3,t4];have b2:((2:Int)==2)=true:=rfl;have b3:(((2:Nat):Int)==2)=true:=rfl;dsimp [b2,b3,jZ,a0,a1,t3,t4];obtain⟨s2,s3,s4,e⟩:=VU h1 hn (.val (.tup [.int h,.lst (Z.map λp=>.lst (aW p.1))])) hL hh Z [] .no .no rfl;unfold yJ at e
 by_cases c:n=1
 ·obtain rfl:=h0 c
  subst c;dsimp [mS,mD,mF,dH,aN,reduceAdd,reduceSub,reduceEqDiff,show(((1:Nat):Int)==1)=true from rfl,show((0:Int)==0)=true from rfl,jZ,a1,e]
 ·have c2:((n:Int)==1)=false:=beq_eq_false_iff_ne.mpr (by lia)
  dsimp [c2,a1,e]
def K0(cells:List Int)(hc:cells.length<=63):∃t:List Int,t.length<=63/\ed (bT 2 (pT (bN 0) (pT (bN 1) Fc))) wu qH (ni 2 []) (jz (aW cells))=.ok (aW t):=by
 refine⟨(jz (aW cells)).map λd=>match d with|.tup [.int k,.int c]=>LR c k 16807|_=>0,by rw[aB];unfold jz;rw[aB,OG,cM];exact hc,?_⟩;rw[xJ (λd=>.int (match d with|.tup [.int k,.int c]=>LR c k 16807|_=>0)) _ λx hx=>by
  obtain⟨i,hi,e⟩:=xF hx;obtain⟨y,hy,rfl⟩:=AX (i:=i) (d:=x) (by rw[bj hi,e]);have hz:(aW cells)[i]?=(cells[i]?).map D.int:=by unfold aW;rw[b8]
  have hi2:i<cells.length:=by
   have:(jz (aW cells)).length=cells.length:=by unfold jz;rw[aB,OG,cM]
   lia
  rw[hz,bj hi2]at hy;obtain rfl:=cA.inj hy;refine⟨_,rfl,rfl,?_⟩;unfold qH ni;dsimp [mS,mD,mF,dH,aN,reduceAdd,reduceSub,reduceEqDiff,List.append_eq];exact T8 _ _ _ (by lia) (by decide)]
 unfold aW;rw[eR];rfl
def aah{cells:List Int}{n:Int}(hc:cells.length<=63)(hn:1<=n):∃w:List Int,iD [.lst (aW cells),.int n,.int 12]=.ok (.lst (aW w))/\(∀k∈w,gH n k)/\w.length<=12:=by
 unfold iD wz;dsimp [mS,mD,mF,dH,aN,reduceAdd,reduceSub,reduceEqDiff];rw[rH,A7 _ _ (by decide),JO _ _ _ (by rw[iM];lia) (by lia) (by decide)];dsimp [cM];generalize hw:DS (cells.take (63:Int).toNat) n 189=w;have hx:∀k∈w,gH n k:=hw▸JN
 by_cases h:(w.length:Int)<=12
 ·refine⟨w,?_,hx,by lia⟩
  dsimp [h,decide_true]
 ·obtain⟨t,ht,e⟩:=K0 cells hc
  dsimp [h,decide_false,iW,e,R.j6];rw[gq (by lia)];dsimp [yy,qC,p7,cM];rw[pD _ _ (by lia)];dsimp;have m0:=CU t.sum (show(w.length:Int)-12+1≠0 by lia);have m1:=CV t.sum (show(0:Int)<(w.length:Int)-12+1 by lia);generalize t.sum%((w.length:Int)-12+1)=a at m0 m1;rw[rH];refine⟨_,rfl,λk hk=>hx k ?_,?_⟩
  ·unfold cut at hk
   exact Dl (zQ hk)
  ·unfold cut
   rw[p6 _ _ _ m0,p6 _ _ _ (by lia),iM];lia
def VV{cells:List Int}{n:Int}(hc:cells.length<=63)(hn:1<=n):∃w:List Int,iD [.lst (aW cells),.int n,.int 8]=.ok (.lst (aW w))/\(∀k∈w,gH n k)/\w.length<=8:=by
 unfold iD wz;dsimp [mS,mD,mF,dH,aN,reduceAdd,reduceSub,reduceEqDiff];rw[rH,A7 _ _ (by decide),JO _ _ _ (by rw[iM];lia) (by lia) (by decide)];dsimp [cM];generalize hw:DS (cells.take (63:Int).toNat) n 189=w;have hx:∀k∈w,gH n k:=hw▸JN
 by_cases h:(w.length:Int)<=8
 ·refine⟨w,?_,hx,by lia⟩
  dsimp [h,decide_true]
 ·obtain⟨t,ht,e⟩:=K0 cells hc
  dsimp [h,decide_false,iW,e,R.j6];rw[gq (by lia)];dsimp [yy,qC,p7,cM];rw[pD _ _ (by lia)];dsimp;have m0:=CU t.sum (show(w.length:Int)-8+1≠0 by lia);have m1:=CV t.sum (show(0:Int)<(w.length:Int)-8+1 by lia);generalize t.sum%((w.length:Int)-8+1)=a at m0 m1;rw[rH];refine⟨_,rfl,λk hk=>hx k ?_,?_⟩
  ·unfold cut at hk
   exact Dl (zQ hk)
  ·unfold cut
   rw[p6 _ _ _ m0,p6 _ _ _ (by lia),iM];lia
def aio{n:Nat}(s0 s1 s3 s4:Sl){o:List Int}(hlo:o.length=n)(hn:n<=7){k:Int}(hk:gH n k):∃s3' My,kD (.int k) [s0,s1,.val (.lst (aW o)),s3,s4]=.ok (.nx [s0,s1,.val (.lst (aW (iB o (rf k-1).toNat))),s3',My]):=by
 obtain⟨a,ha,h2⟩:=PV hk;have hab:(if k<0 then-k else k)=(a:Int)+1:=ha;unfold kD;dsimp [mS,mD,mF,dH,aN,reduceAdd,reduceSub,reduceEqDiff,j8,hab];rw[g7 (by lia) (by lia),g7 (by lia) (by lia),rH,rH,A7 _ _ (by lia),DM _ _ (by lia)];dsimp;rw[show((a:Int)+1-1).toNat=a by lia,show((a:Int)+1).toNat=a+1 by lia,show((a:Int)+1+1).toNat=a+2 by lia,show[D.int (ai o (a+1)),D.int (ai o a)]=aW [ai o (a+1),ai o a]from rfl,qc,gq (by rw[bO,iM];simp;lia)];dsimp;rw[qc,gq (by rw[bO,bO,iM,lZ];simp;lia),HV o a (by lia)];dsimp;exact⟨_,_,rfl⟩
theorem Qk{n:Nat}(s0 s1:Sl)(hn:n<=7):∀(w o:List Int)(s3 s4:Sl),(∀k∈w,gH n k)->o.length=n->∃s3' My,iO kD (aW w) [s0,s1,.val (.lst (aW o)),s3,s4]=.ok (.nx [s0,s1,.val (.lst (aW (ph (w.map rf) o))),s3',My])
 |[],o,s3,s4,_,_=>⟨s3,s4,rfl⟩
 |k::w,o,s3,s4,hw,ho=>by
  obtain⟨u3,u4,e⟩:=aio s0 s1 s3 s4 ho hn (hw k (by simp));obtain⟨v3,v4,e2⟩:=Qk s0 s1 hn w (iB o (rf k-1).toNat) u3 u4 (λx hx=>hw x (by simp[hx])) (by rw[jq];exact ho);exact⟨v3,v4,by rw[<-tj,wY e];exact e2⟩
def Gz{n:Nat}(hn:n<=7){w:List Int}(hw:∀k∈w,gH n k):jT [.int n,.lst (aW w)]=.ok (.lst (aW (ph (w.map rf) (upTo n)))):=by
 unfold jT zR;dsimp [mS,mD,mF,dH,aN,reduceAdd,reduceSub,reduceEqDiff];rw[A0 _ (by lia),bB,Bb];dsimp;obtain⟨s3,s4,e⟩:=Qk (.val (.int n)) (.val (.lst (aW w))) hn w (upTo n) .no .no hw (aM n);rw[e];dsimp
def gW(rs:List (List Int)):List D:=rs.map λr=>.lst (aW r)
def Si:D->Prop
 |.int _=>True
 |.bl _=>True
 |.str _=>True
 |.non=>True
 |_=>False
def flD:Nat->D->Prop
 |0,d=>Si d
 |n+1,d=>match d with
  |.lst xs=>∀x∈xs,flD n x
  |.tup xs=>∀x∈xs,flD n x
  |d=>Si d
def wZ{d:D}(h:Si d):eqA d d=aa true:=by
 cases d<;>first|exact h.elim|simp[eqA]
theorem BA{f:D->D->Option Bool}:∀(xs:List D),(∀x∈xs,f x x=aa true)->yj f xs xs=aa true
 |[],_=>rfl
 |x::xs,h=>by
  unfold yj;rw[h x (by simp),BA xs λy hy=>h y (by simp[hy])];rfl
theorem EB:∀(n:Nat)(d:D),flD n d->AY n d d=aa true
 |0,d,h=>wZ h
 |n+1,d,h=>by
  cases d with
  |lst xs=>
   unfold AY;dsimp only;rw[if_pos rfl];exact BA xs λx hx=>EB n x (h x hx)
  |tup xs=>
   unfold AY;dsimp only;rw[BA xs λx hx=>EB n x (h x hx)];simp
  |non=>exact wZ (d:=.non) h
  |bl b=>exact wZ (d:=(.bl b)) h
  |int i=>exact wZ (d:=(.int i)) h
  |str x=>exact wZ (d:=(.str x)) h
  |exc _=>exact h.elim
  |fn _=>exact h.elim
def aai(n:Nat)(ns:List Int):flD (n+1) (.lst (aW ns)):=λx hx=>by
 obtain⟨i,_,rfl⟩:=cC.mp hx;cases n<;>trivial
def aaj(n:Nat)(M:List (List Int)):flD (n+2) (.lst (gW M)):=λx hx=>by
 obtain⟨ns,_,rfl⟩:=cC.mp hx;exact aai n ns
def Rp(s0 s1 s2 s3:Sl)(k:Int):jS (.tup [.int k,.int k]) [s0,s1,s2,s3]=.ok (.nx [s0,s1,.val (.int k),.val (.int k)]):=by
 have t3:∀i:Int,lM (BR (.int i)) "int"=true:=λ_=>rfl;have t4:∀i:Int,lM (BR (.int i)) "bool"=false:=λ_=>rfl;unfold jS;dsimp [mS,mD,mF,dH,aN,reduceAdd,reduceSub,reduceEqDiff,bT2,t3,t4,jZ,beq_self_eq_true]
theorem B6(s0 s1:Sl):∀(w:List Int)(s2 s3:Sl),∃t2 t3,iO jS (E8 (aW w) (aW w)) [s0,s1,s2,s3]=.ok (.nx [s0,s1,t2,t3])
 |[],s2,s3=>⟨s2,s3,rfl⟩
 |k::w,s2,s3=>by
  obtain⟨t2,t3,e⟩:=B6 s0 s1 w (.val (.int k)) (.val (.int k));refine⟨t2,t3,?_⟩;rw[show E8 (aW (k::w)) (aW (k::w))=.tup [.int k,.int k]::E8 (aW w) (aW w)from rfl,wY (Rp s0 s1 s2 s3 k)];exact e
def Rq(w:List Int):i9 [.lst (aW w),.lst (aW w)]=.ok (.bl true):=by
 have t1:∀xs:List D,lM (BR (.lst xs)) "list"=true:=λ_=>rfl;unfold i9 yB;dsimp [mS,mD,mF,dH,aN,reduceAdd,reduceSub,reduceEqDiff,t1,jZ,beq_self_eq_true,ado];obtain⟨t2,t3,e⟩:=B6 (.val (.lst (aW w))) (.val (.lst (aW w))) w .no .no;rw[e];dsimp
def aak(w:List Int)(hw:w.length<=1000):oZ [.lst (aW w)]=.ok (aW (gP w)):=by
 unfold oZ BW;dsimp [mS,mD,mF,dH,aN,reduceAdd,reduceSub,reduceEqDiff,iW,HB];rw[uP (λk=> -k) w.reverse λk _=>⟨_,j8 _ _ _,rfl,by
  unfold wm ni;dsimp [mS,mD,mF,dH,aN,reduceAdd,reduceSub,reduceEqDiff]⟩,R.j6,R.cB,gq (by rw[aB,bH];lia)]
 dsimp [mr];rfl
def eq_self(h:Int)(rs:List (List Int)):AY 6 (.tup [.int h,.lst (gW rs)]) (.tup [.int h,.lst (gW rs)])=aa true:=by
 rw[EB];show∀x∈[_,_],flD 5 x;intro x hx;rcases aX.mp hx with rfl|hx
 ·trivial
 ·rw[dC.mp hx]
  exact aaj 3 rs
def VW(h:Int)(rs:List (List Int)):BU (.tup [.int h,.lst (gW rs)]) (.tup [.int h,.lst (gW rs)])=aa (.bl false):=by
 unfold BU;rw[eq_self];rfl
def r6(h:Int)(rs:List (List Int)):wc (h,rs)=.tup [.int h,.lst (gW rs)]:=rfl
theorem EC{b:D->DE->R DE}{ct:DE->R Bool}{fe:DE->R D}{e₀:DE}(f:List Int->D):∀(rs:List (List Int)),(∀r∈rs,∃e,b (.lst (aW r)) e₀=.ok e/\ct e=.ok true/\fe e=.ok (f r))->ed b ct fe e₀ (gW rs)=.ok (rs.map f)
 |[],_=>rfl
 |x::xs,h=>by
  obtain⟨e,h1,h2,h3⟩:=h x (by simp);have ih:=EC f xs λy hy=>h y (by simp[hy]);unfold gW;rw[bw];unfold ed;rw[h1,R.cB,h2,R.cB,if_pos rfl,h3,R.cB,show(xs.map λr=>D.lst (aW r))=gW xs from rfl,ih];rfl
def K1{n:Nat}(hn:n<=7){rs:List (List Int)}(hr:∀r∈rs,bx n r):ed (bN 0) tU nE (ni 1 []) (gW rs)=.ok (rs.map λr=>Ck (-1,fl n (vP r))):=
 EC _ rs λr h=>⟨_,j8 _ _ _,rfl,by
  unfold nE ni;dsimp [mS,mD,mF,dH,aN,reduceAdd,reduceSub,reduceEqDiff,Ez hn (hr r h)]⟩
def MA{n:Nat}(hn:n<=7)(h2:2<=n){rs:List (List Int)}(hr:∀r∈rs,bx n r)(hl:rs.length<=39)(h:Int):jD [.int n,wc (h,rs)]=.ok (Rm (dM n (gP (cJ n h rs)) (0,[]))):=by
 have a0:∀(x y:D),jJ [x,y] 0=aa x:=λ_ _=>rfl;have a1:∀(x y:D),jJ [x,y] 1=aa y:=λ_ _=>rfl;rw[r6];unfold jD wG YN;dsimp [mS,mD,mF,dH,aN,reduceAdd,reduceSub,reduceEqDiff,a0,a1,iW];rw[show(gW rs).reverse=gW rs.reverse by unfold gW;rw[mw],K1 hn (λr h=>hr r (by simpa using h)),R.j6];dsimp [mS,mD,mF,dH,aN,reduceAdd,reduceSub,reduceEqDiff];rw[uH (big (by rw[aB,bH];lia))];dsimp [a0,a1,o9 n hn];rw[uH (big (by rw[bO,aB,bH,nT];lia))];have e:(rs.reverse.map λr=>Ck (-1,fl n (vP r)))++[D.tup [.int (-h),.lst (aW (upTo n))]]=((rs.reverse.map λr=>((-1:Int),fl n (vP r)))++[(-h,upTo n)]).map Ck:=by
  rw[cj,eR];rfl
 dsimp;rw[e,anU hn h2 (λq hq=>?_) (by rw[bO,aB,bH,nT];lia),turn_val hn h2 hr]
 ·rfl
 ·rcases cu.mp hq with z|z
  ·obtain⟨r,h1,rfl⟩:=cC.mp z
   exact nJ (iT (fW (hr r (by simpa using h1))))
  ·rw[dC.mp z]
   exact lg n
def Rt(rs:List (List Int))(m:Nat):(gW rs).take m=gW (rs.take m):=by unfold gW;rw[Ob]
def Ru(rs:List (List Int))(m:Nat):(gW rs).drop m=gW (rs.drop m):=by unfold gW;rw[nV]
def BC{n:Nat}(hn:1<=n/\n<=7){w:List Int}{h:Int}{rs:List (List Int)}(ef:dS [.int n,.lst (aW w)]=.ok (h,rs))(h0:0<=h)(hr:∀r∈rs,bx n r)(hl:h.natAbs+rs.length<=100):kg [.int n,.lst (aW w)]=.ok [[],cJ n h rs]:=by
 have a0:∀(x y:D),jJ [x,y] 0=aa x:=λ_ _=>rfl;have a1:∀(x y:D),jJ [x,y] 1=aa y:=λ_ _=>rfl;unfold kg D7 mP;dsimp [mS,mD,mF,dH,aN,reduceAdd,reduceSub,reduceEqDiff,ef,r6,a0,a1,decide_eq_true h0];rw[<-r6,r6,show cF [.int n,.tup [.int h,.lst (gW rs)]]=.ok (aW (cJ n h rs))from iU hn hr hl];dsimp [qC,show CO ([]:List D)=aa []from rfl];rfl
def Rv{n:Nat}(hn:n<=7)(h2:2<=n){w:List Int}{h:Int}{rs:List (List Int)}(ef:dS [.int n,.lst (aW w)]=.ok (h,rs))(h0:¬0<=h)(hr:∀r∈rs,bx n r)(hl:rs.length<=39){k:Int}{xs:List (List Int)}
  (ht:Rm (dM n (gP (cJ n h (rs.take (-h).toNat))) (0,[]))=(k,xs))(hx:∀r∈xs,bx n r)(hxl:k.natAbs+xs.length<=100):kg [.int n,.lst (aW w)]=.ok [cJ n k xs,cJ n 0 (rs.drop (-h).toNat)]:=by
 have a0:∀(x y:D),jJ [x,y] 0=aa x:=λ_ _=>rfl;have a1:∀(x y:D),jJ [x,y] 1=aa y:=λ_ _=>rfl;have et:=MA hn h2 (rs:=rs.take (-h).toNat) (λr z=>hr r (zQ z)) (by rw[iM];lia) h;rw[ht,r6]at et;unfold kg D7 mP;dsimp [mS,mD,mF,dH,aN,reduceAdd,reduceSub,reduceEqDiff,ef,r6,a0,a1,decide_eq_false h0];rw[A7 _ _ (by lia),Rt,et];dsimp [r6];rw[show cF [.int n,.tup [.int k,.lst (gW xs)]]=.ok (aW (cJ n k xs))from iU ⟨by lia,hn⟩ hx hxl];dsimp [qC];rw[DM _ _ (by lia),Ru,show cF [.int n,.tup [.int 0,.lst (gW (rs.drop (-h).toNat))]]=.ok (aW (cJ n 0 (rs.drop (-h).toNat)))from iU ⟨by lia,hn⟩ (λr z=>hr r (Dl z)) (by rw[lZ];lia)];dsimp [qC];rfl
def VX{n:Nat}(s0 s2:Sl){k:Int}(hk:0<k/\k<n):kE (.int k) [s0,.val (.int n),s2]=.ok (.nx [s0,.val (.int n),.val (.int k)]):=by
 have t3:∀i:Int,lM (BR (.int i)) "int"=true:=λ_=>rfl;have t4:∀i:Int,lM (BR (.int i)) "bool"=false:=λ_=>rfl;unfold kE;dsimp [mS,mD,mF,dH,aN,reduceAdd,reduceSub,reduceEqDiff,j8,t3,t4,jZ,decide_eq_false (show¬k<1 by lia),decide_eq_false (show¬(n:Int)-1<k by lia)]
def K2{n:Nat}{w:List Int}(hw:∀k∈w,0<k/\k<n):jU [.lst (aW w),.int n]=.ok (.bl true):=by
 have lp:∀(w:List Int)(s0 s2:Sl),(∀k∈w,0<k/\k<n)->∃s2',iO kE (aW w) [s0,.val (.int n),s2]=.ok (.nx [s0,.val (.int n),s2']):=by
  intro w
  induction w with
  |nil=>exact λs0 s2 _=>⟨s2,rfl⟩
  |cons k w ih=>
   intro s0 s2 h;obtain⟨s2',e⟩:=ih s0 (.val (.int k)) λx hx=>h x (by simp[hx]);exact⟨s2',by rw[show aW (k::w)=.int k::aW w from rfl,wY (VX s0 s2 (h k (by simp)))];exact e⟩
 have t1:∀xs:List D,lM (BR (.lst xs)) "list"=true:=λ_=>rfl;unfold jU zU;obtain⟨s2,e⟩:=lp w (.val (.lst (aW w))) .no hw;dsimp [mS,mD,mF,dH,aN,reduceAdd,reduceSub,reduceEqDiff,t1,jZ,e]
def K3(L:List (List Int)):gP L.flatten=((L.map gP).reverse).flatten:=by
 induction L with
 |nil=>rfl
 |cons b L ih=>
  rw[dA,bw,kr,rK,<-ih];unfold gP;rw[n8,cj,List.flatten_singleton]
def aeZ{n:Nat}{A B:List (List Int)}(gA:Bl n A)(gB:Bl n B)(pA:∀k∈A.flatten,k<0)(pB:∀k∈B.flatten,0<k){m:Nat}(hm:A.length+B.length<=m):ZU n (fA [] (A.flatten++B.flatten)) m:=by
 rw[Em,Eu (λx=>x<0) (λ_ _ a b=>.inr ⟨a,b⟩) _ pA];obtain⟨A',A'',B',B'',e1,e2,e3⟩:=Ew _ A.flatten pB;obtain⟨cs,c1,c2,c3⟩:=IC _ _ _ e1 gA;obtain⟨ds,d1,d2,d3⟩:=Dk _ _ _ e2 gB;refine⟨cs++ds,by rw[rK,c2,d2,e3],by rw[bO];lia,λb hb=>?_⟩;rcases cu.mp hb with hb|hb
 ·exact c3 b hb
 ·exact d3 b hb
def VY{n:Nat}(hn:n<=7){rs:List (List Int)}(hr:∀r∈rs,bx n r):Bl n (rs.map (pX n)):=λb hb=>by
 obtain⟨r,h1,rfl⟩:=cC.mp hb;exact Qc hn (hr r h1)
def IE{n:Nat}(hn:n<=7){rs:List (List Int)}(hr:∀r∈rs,bx n r):∀k∈(rs.map (pX n)).flatten,0<k/\k<n:=λk hk=>by
 obtain⟨b,hb,hk⟩:=xO.mp hk;obtain⟨r,h1,rfl⟩:=cC.mp hb;have:=Es (vJ hn (hr r h1)) k hk;have h:=this.1;unfold gH at h;lia
def VZ(n:Nat):bx n (upTo n).reverse:=(uK _).trans (lg n)
def yT{n:Nat}{k:Int}(hk:0<=k)(xs:List (List Int)):∃L:List (List Int),cJ n k xs=(L.map (pX n)).flatten/\L.length=k.natAbs+xs.length/\((∀r∈xs,bx n r)->∀r∈L,bx n r):=by
 refine⟨aZ k.toNat (upTo n).reverse++xs,?_,by rw[bO,xw];lia,λh r hr=>?_⟩
 ·unfold cJ yo
  rw[if_neg (by lia),cj,rK,PK]
 ·rcases cu.mp hr with z|z
  ·rw[(mZ.mp z).2]
   exact VZ n
  ·exact h r z
def Rw{n:Nat}(hn:n<=7){k:Int}(hk:0<=k){xs vs:List (List Int)}(hx:∀r∈xs,bx n r)(hv:∀r∈vs,bx n r){m:Nat}(hm:k.natAbs+xs.length+vs.length<=m):ZU n (fA [] (gP (cJ n k xs)++cJ n 0 vs)) m:=by
 obtain⟨L,e1,l1,r1⟩:=yT (n:=n) hk xs;obtain⟨L2,e2,l2,r2⟩:=yT (n:=n) (x6 0) vs;rw[e1,e2,K3];refine aeZ (λb hb=>?_) (VY hn (r2 hv)) (λx yV=>?_) (λx yV=>(IE hn (r2 hv) x yV).1) (by rw[bH,aB,aB,aB,l1,l2];simp;lia)
 ·obtain⟨c,hc,rfl⟩:=cC.mp (uJ.mp hb)
  exact VD (VY hn (r1 hx) c hc)
 ·rw[<-K3]at yV
  unfold gP at yV;obtain⟨y,hy,rfl⟩:=cC.mp yV;have:=(IE hn (r1 hx) y (by simpa using hy)).1;lia
def nM{n:Nat}(hn:n<=7)(h2:2<=n){w:List Int}(hw:∀k∈w,gH n k)(hl:w.length<=900)(hB:ZU n (fA [] w) 40):dS [.int n,.lst (aW w)]=.ok (Rm (dM n w (0,[])))/\FmS n w (dM n w (0,[])).1 (dM n w (0,[])).2:=by
 obtain⟨e,F⟩:=Ri hn h2 hw hl hB;exact⟨KW (by rw[e];exact congrArg R.ok (anT (dM n w (0,[]))).symm),F⟩
def IF{n:Nat}{w:List Int}(hw:∀k∈w,gH n k)(hl:w.length<=40):ZU n (fA [] w) 40:=by
 obtain⟨bs,b1,b2,b3⟩:=Rg (n:=n) (w:=fA [] w) λk hk=>by
  rcases En w [] k hk with z|z
  ·cases z
  ·exact hw k z
 have:=Av w [];rw[gG]at this;exact⟨bs,b1,by lia,b3⟩
def K4{n:Nat}(hn:1<=n/\n<=7):dS [.int n,.lst (aW [])]=.ok (0,[]):=by
 have hx:∀k∈([]:List Int),gH n k:=λk hk=>nomatch hk;obtain⟨h,Z,e,F,_⟩:=Ir (n:=n) hn.1 hn.2 hx (by simp) (IF hx (by simp));have hb:=F.bd;have Uo:=F.ll;rw[gG]at Uo hb;have h0:h=0:=by lia
 have z0:Z=[]:=aal (by lia);subst h0 z0;exact KW e
theorem Ql{n:Nat}{p:RP}(iv:Iv n p.1 p.2):∀m j:Nat,j+1+m<=n->∃b:List Int,ed (bN 0) jV nC (ni 1 [.lst (aW p.1)]) (uD ((j:Int)+1) m)=.ok (aW b)/\b.length<=m/\∀k∈b,∃i:Nat,k=(i:Int)+1/\i+1<n/\ai p.2 (i+1)<ai p.2 i
 |0,j,_=>⟨[],rfl,bf _,λk hk=>nomatch hk⟩
 |m+1,j,h=>by
  obtain⟨b,e,hl,hb⟩:=Ql iv m (j+1) (by lia);have er:uD ((j:Int)+1) (m+1)=.int ((j:Int)+1)::uD (((j+1:Nat):Int)+1) m:=by
   rw[xK,xK,Hr,bw,eR,<-tj];congr 1;congr 1;apply mG;intro x _;simp_all only [aag];lia
  have e1:pF (aW p.1) (.int ((j:Int)+1-1))=.ok (.int (ai p.2 j)):=by rw[show(j:Int)+1-1=((j:Nat):Int)by lia];exact zX iv (by lia)
  have e2:pF (aW p.1) (.int ((j:Int)+1))=.ok (.int (ai p.2 (j+1))):=by have:=zX iv (show j+1<n by lia);rw[<-this];congr 2
  have et:jV [.val (.int ((j:Int)+1)),.val (.lst (aW p.1))]=.ok (decide (ai p.2 j>ai p.2 (j+1))):=by
   unfold jV;dsimp [mS,mD,mF,dH,aN,reduceAdd,reduceSub,reduceEqDiff,e1,e2]
  have ec:nC [.val (.int ((j:Int)+1)),.val (.lst (aW p.1))]=.ok (.int ((j:Int)+1)):=rfl;rw[er];unfold ed;rw[show(bN 0) (.int ((j:Int)+1)) (ni 1 [.lst (aW p.1)])=.ok [.val (.int ((j:Int)+1)),.val (.lst (aW p.1))]from rfl,R.cB,et,R.cB]
  by_cases c:ai p.2 j>ai p.2 (j+1)
  ·rw[decide_eq_true c,if_pos rfl,ec,R.cB,e]
   refine⟨((j:Int)+1)::b,rfl,by rw[bD];lia,λk hk=>?_⟩;rcases aX.mp hk with rfl|hk
   ·exact⟨j,rfl,by lia,c⟩
   ·exact hb k hk
  ·rw[decide_eq_false c,if_neg di,e]
   exact⟨b,rfl,by lia,hb⟩
def yU{n:Nat}(hn:1<=n/\n<=7){h:Int}(h0:¬0<h){p:RP}{Z:List RP}(iv:Iv n p.1 p.2):∃b:List Int,cO [wc (h,p.1::Z.map (·.1)),.int n]=.ok (.lst (aW b))/\b.length<=600/\∀k∈b,∃i:Nat,k=(i:Int)+1/\i+1<n/\ai p.2 (i+1)<ai p.2 i:=by
 have a0:∀(x y:D),jJ [x,y] 0=aa x:=λ_ _=>rfl;have a1:∀(x y:D),jJ [x,y] 1=aa y:=λ_ _=>rfl;have c0:∀(x:D)(xs:List D),jJ (x::xs) 0=aa x:=λx xs=>l9 (xs:=x::xs) (j:=0) (v:=x) rfl;obtain⟨b,e,hl,hb⟩:=Ql iv (n-1) 0 (by lia);have er:(FQ (.lst (gW (p.1::Z.map (·.1)))) (.lst []))=aa (.bl false):=rfl;refine⟨b,?_,by lia,hb⟩;rw[r6];unfold cO nX;dsimp [mS,mD,mF,dH,aN,reduceAdd,reduceSub,reduceEqDiff,a0,a1,decide_eq_false h0,er];rw[show gW (p.1::Z.map (·.1))=.lst (aW p.1)::gW (Z.map (·.1))from rfl,c0];dsimp [iW];rw[LK 1 n (by lia),show((n:Int)-1).toNat=n-1 by lia];dsimp;rw[show(1:Int)=((0:Nat):Int)+1 from rfl,e,R.j6,R.cB,gq (by lia)];dsimp
def vm{n:Nat}{h:Int}(h0:¬0<h):cO [wc (h,[]),.int n]=.ok (.lst (aW [])):=by
 have a0:∀(x y:D),jJ [x,y] 0=aa x:=λ_ _=>rfl;have a1:∀(x y:D),jJ [x,y] 1=aa y:=λ_ _=>rfl;have er:(FQ (.lst (gW [])) (.lst []))=aa (.bl true):=rfl;rw[r6];unfold cO nX;dsimp [mS,mD,mF,dH,aN,reduceAdd,reduceSub,reduceEqDiff,a0,a1,decide_eq_false h0,er];rfl
def ED{n:Nat}(hn:1<=n/\n<=7){h:Int}(h0:0<h)(rs:List (List Int)):∃b:List Int,cO [wc (h,rs),.int n]=.ok (.lst (aW b))/\b.length<=600:=by
 have a0:∀(x y:D),jJ [x,y] 0=aa x:=λ_ _=>rfl;have e:JJ [.int 1,.int n]=.ok (JF 1 1 (dz 1 n 1).toNat):=if_pos ⟨by lia,by lia,by lia,by lia⟩;have hs:dz 1 n 1<=7:=by rw[Cw];split<;>lia
 refine⟨(b9 (dz 1 n 1).toNat).map λi=>1+(i:Nat)*1,?_,by rw[aB,zF];lia⟩;rw[r6];unfold cO nX;dsimp [mS,mD,mF,dH,aN,reduceAdd,reduceSub,reduceEqDiff,a0,decide_eq_true h0,e];unfold JF aW;rw[eR];rfl
structure Two(n:Nat)(w x y:List Int):Prop where
 pt:kg [.int n,.lst (aW w)]=.ok [x,y]
 ax:∀k∈x,0<k/\k<n
 ay:∀k∈y,0<k/\k<n
 lx:x.length<=600
 ly:y.length<=600
 fw:∃h Z,dS [.int n,.lst (aW w)]=.ok (h,Z)/\dS [.int n,.lst (aW (gP x++y))]=.ok (h,Z)
 od:ph ((gP x++y).map rf) (upTo n)=ph (w.map rf) (upTo n)
 fx:∃h Z b l V c,dS [.int n,.lst (aW x)]=.ok (h,Z)/\dS [.int n,.lst (aW y)]=.ok (l,V)/\dF [wc (h,Z),.int n]=.ok (.bl true)/\dF [wc (l,V),.int n]=.ok (.bl true)/\
  cO [wc (h,Z),.int n]=.ok (.lst (aW b))/\cO [wc (l,V),.int n]=.ok (.lst (aW c))/\(∀k∈c,k∉b)/\c.length<=600/\cF [.int n,wc (h,Z)]=.ok (aW x)/\cF [.int n,wc (l,V)]=.ok (aW y)
 pu:kg [.int n,.lst (aW y)]=.ok [[],y]
def MB{n:Nat}(hn:1<=n/\n<=7){w:List Int}{h:Int}{Z:List RP}(F:FmS n w h Z)(h1:n=1->h=0):dF [wc (h,Z.map (·.1)),.int n]=.ok (.bl true):=by
 rw[r6,show gW (Z.map (·.1))=Z.map λp=>.lst (aW p.1)by unfold gW;rw[eR];rfl];exact EA hn.1 hn.2 F.ln F.nh h1
def yd{n:Nat}{Z:List RP}(h:ck n Z):∀r∈Z.map (·.1),bx n r:=λr hr=>by
 obtain⟨p,hp,rfl⟩:=cC.mp hr;exact nJ (h p hp)
def IG{n:Nat}(hn:n<=7){k:Int}(hk:0<=k){xs:List (List Int)}(hx:∀r∈xs,bx n r):∀z∈cJ n k xs,0<z/\z<n:=by
 obtain⟨L,e,_,r⟩:=yT (n:=n) hk xs;rw[e];exact IE hn (r hx)
def Rx{n:Nat}{w:List Int}(h:∀z∈w,0<z/\z<(n:Int)):∀z∈w,gH n z:=λz hz=>by
 have:=h z hz;unfold gH;lia
def ae0{n:Nat}(hn:n<=7)(h2:2<=n){w:List Int}(hw:∀k∈w,gH n k)(hl:w.length<=12){h:Int}{Z:List RP}(ea:dM n w (0,[])=(h,Z))(h0:h<0):∃x y,Two n w x y:=by
 obtain⟨ef,F⟩:=nM hn h2 hw (by lia) (IF hw (by lia));rw[ea]at ef F;rw[show Rm (h,Z)=(h,Z.map (·.1))from rfl]at ef;dsimp only at F;have hb:=F.bd;have Uo:=F.ll;have hN:AE n Z:=⟨F.ln,F.nh⟩
 obtain⟨m,hm⟩:∃m:Nat,h= -(m:Int):=⟨(-h).toNat,by lia⟩
 obtain⟨T,hT'⟩:∃T,Z.take m=T:=⟨_,rfl⟩
 obtain⟨V,hV'⟩:∃V,Z.drop m=V:=⟨_,rfl⟩
 have BN:Z=T++V:=by rw[<-hT',<-hV'];exact(List.take_append_drop m Z).symm
 have hT:AE n T:=AE.pre (B:=V) (by rw[<-BN];exact hN);have hV:AE n V:=AE.Mj (A:=T) (by rw[<-BN];exact hN);have iv:=aad hn h2 hT h;have lT:T.length=min m Z.length:=by rw[<-hT'];exact iM
 obtain⟨k,hk⟩:∃k:Int,k= -(T.length:Int)+ -h:=⟨_,rfl⟩
 obtain⟨X,hX⟩:∃X,X=eT n (-h) (wW n T):=⟨_,rfl⟩
 rw[<-hk,<-hX]at iv;have XN:AE n X:=by rw[hX];exact(yc h2 hT).par (-h)
 have lX:X.length=T.length:=by
  rw[hX,<-KY (n:=n) T];unfold eT;split
  ·rfl
  ·rw[aB]
 have k0:0<=k:=by lia
 have rZ:=yd F.ln.iv;have rX:=yd XN.ln.iv;have rV:=yd hV.ln.iv;have rT:=yd hT.ln.iv;have lV:V.length<=12:=by rw[<-hV',lZ];lia
 have tk:(Z.map (·.1)).take (-h).toNat=T.map (·.1):=by rw[<-hT',Ob,show(-h).toNat=m by lia]
 have dp:(Z.map (·.1)).drop (-h).toNat=V.map (·.1):=by rw[<-hV',nV,show(-h).toNat=m by lia]
 have px:=IG hn k0 rX;have py:=IG hn (x6 0) rV;have lx:=(nK hn (h:=k) rX).2.1;have ly:=(nK hn (h:=0) rV).2.1;rw[aB]at lx ly;have ax:=t8 hn h2 (XN.cv hn k) k;have ay:=t8 hn h2 (hV.cv hn 0) 0;have au:=t8 hn h2 (hT.cv hn h) h;have xT:=(nK hn (h:=h) rT).2.2;have wX:∀z∈gP (cJ n k (X.map (·.1)))++cJ n 0 (V.map (·.1)),gH n z:=λz hz=>(cu.mp hz).elim (Gv hn h2 (Rx px) z) (Rx py z);have bt:dM n (gP (cJ n k (X.map (·.1)))) (0,[])=(h,T):=by
  have:=aeW hn h2 (Rx px) (Gv hn h2 xT) (by rw[ax];exact iv.symm);have e:((cJ n h (T.map (·.1))).reverse.map λk=> -k).reverse.map (λk=> -k)=cJ n h (T.map (·.1)):=by
   rw[<-mw,kJ,eR]
   conv=>rhs;rw[<-x8 (cJ n h (T.map (·.1)))]
   exact mG λk _=>Iu k
  rw[e,au]at this;exact this
 have aw:dM n (gP (cJ n k (X.map (·.1)))++cJ n 0 (V.map (·.1))) (0,[])=(h,Z):=by
  rw[fg,bt];unfold cJ yo;rw[if_neg (by decide),show aZ (0:Int).toNat (pX n (upTo n).reverse)=[]from rfl,xN,ky];have:=IB hn h2 h (V.map (·.1)) T rV hT.ln.iv;rw[hT.vl hn h,VG hV.ln.iv,<-BN,hN.vl hn h]at this;exact this
 have lw:(gP (cJ n k (X.map (·.1)))++cJ n 0 (V.map (·.1))).length<=900:=by
  rw[bO];unfold gP;rw[aB,bH];lia
 obtain⟨ew,Fw⟩:=nM hn h2 wX lw (Rw hn k0 rX rV (by rw[aB,aB];lia));rw[aw]at ew Fw;rw[show Rm (h,Z)=(h,Z.map (·.1))from rfl]at ew;dsimp only at Fw;obtain⟨ex,Fx⟩:=nM hn h2 (Rx px) (by lia) (By hn rX (m:=40) (by rw[aB];lia));obtain⟨ey,Fy⟩:=nM hn h2 (Rx py) (by lia) (By hn rV (m:=40) (by rw[aB];lia));rw[ax]at ex Fx;rw[ay]at ey Fy;rw[show Rm (k,X)=(k,X.map (·.1))from rfl]at ex;rw[show Rm (0,V)=(0,V.map (·.1))from rfl]at ey;dsimp only at Fx Fy;have V5:1<=n/\n<=7:=⟨by lia,hn⟩
 have fw:∃h Z,dS [.int n,.lst (aW w)]=.ok (h,Z)/\dS [.int n,.lst (aW (gP (cJ n k (X.map (·.1)))++cJ n 0 (V.map (·.1))))]=.ok (h,Z):=by
  refine⟨h,Z.map O8,?_,?_⟩
  ·exact ef
  ·exact ew
 have l1:(cJ n k (X.map (·.1))).length<=600:=by lia
 have l2:(cJ n 0 (V.map (·.1))).length<=600:=by lia
 have pu:=BC V5 ey (x6 0) rV (by rw[aB];simp;lia);refine⟨cJ n k (X.map (·.1)),cJ n 0 (V.map (·.1)),?_⟩;refine{pt:=?_,ax:=px,ay:=py,lx:=l1,ly:=l2,fw:=fw,od:=?_,fx:=?_,pu:=pu}
 ·rw[<-dp]
  exact Rv hn h2 ef (by lia) rZ (by rw[aB];lia) (k:=k) (xs:=X.map (·.1)) (by rw[tk,iv];rfl) rX (by rw[aB];lia)
 ·rw[<-Fw.or,<-F.or]
 ·have wx:cF [.int n,wc (k,X.map (·.1))]=.ok (aW (cJ n k (X.map (·.1)))):=iU V5 rX (by rw[aB];lia)
  have wy:cF [.int n,wc (0,V.map (·.1))]=.ok (aW (cJ n 0 (V.map (·.1)))):=iU V5 rV (by rw[aB];simp;lia);have ix:=MB V5 Fx (λz=>absurd z (by lia));have iy:=MB V5 Fy (λz=>absurd z (by lia))
  by_cases c:0<k
  ·have v0:V=[]:=by
    rw[<-hV'];exact Yd (by lia)
   subst v0;obtain⟨b,eb,_⟩:=ED V5 c (X.map (·.1));have en:=vm (n:=n) (h:=0) (by decide);have hd:∀k∈([]:List Int),k∉b:=λz hz=>nomatch hz;refine⟨k,X.map λx=>x.1,b,0,([]:List RP).map λx=>x.1,[],?_,?_,?_,?_,?_,?_,hd,by simp,?_,?_⟩
   ·exact ex
   ·exact ey
   ·exact ix
   ·exact iy
   ·exact eb
   ·exact en
   ·exact wx
   ·exact wy
  ·
   have tl:T.length=m:=by lia
   obtain⟨T0,r,er⟩:∃T0 r,T=T0++[r]:=by
    have hne:T≠[]:=λz=>by rw[z]at tl;simp at tl;lia
    exact⟨T.dropLast,T.getLast hne,(C7 hne).symm⟩
   have ir:Iv n r.1 r.2:=hT.ln.iv r (by rw[er];simp);obtain⟨L,eL⟩:=Gy ir T0;have hd:∃L',X=gu n (yI n r)::L':=by
    rw[hX,er,eL];have l0:T0.length+1=m:=by rw[<-tl,er,bO];rfl
    unfold eT
    by_cases c0:T0.length%2=0
    ·rw[if_neg (by lia),if_pos c0]
     exact⟨_,rfl⟩
    ·rw[if_pos (by lia),if_neg c0]
     exact⟨_,rfl⟩
   obtain⟨L',eX⟩:=hd;have ip:=sM (iT ir);obtain⟨b,eb,_,hb1⟩:=yU V5 (h:=k) c (p:=gu n (yI n r)) (Z:=L') ip;have eb':cO [wc (k,X.map (·.1)),.int n]=.ok (.lst (aW b)):=by rw[eX];exact eb
   cases V with
   |nil=>
    have en:=vm (n:=n) (h:=0) (by decide);have hd:∀k∈([]:List Int),k∉b:=λz hz=>nomatch hz;refine⟨k,X.map λx=>x.1,b,0,([]:List RP).map λx=>x.1,[],?_,?_,?_,?_,?_,?_,hd,by simp,?_,?_⟩
    ·exact ex
    ·exact ey
    ·exact ix
    ·exact iy
    ·exact eb'
    ·exact en
    ·exact wx
    ·exact wy
   |cons q V'=>
    have iq:=hV.ln.iv q (by simp);obtain⟨c',ec,hcl,hc1⟩:=yU V5 (h:=0) (by decide) (p:=q) (Z:=V') iq;have fr:pI r q=[]:=F.ln.nb (A:=T0) (B:=V') (by rw[BN,er];simp);refine⟨k,X.map λx=>x.1,b,0,(q::V').map λx=>x.1,c',?_,?_,?_,?_,?_,?_,λz hz hz2=>?_,hcl,?_,?_⟩
    ·exact ex
    ·exact ey
    ·exact ix
    ·exact iy
    ·exact eb'
    ·exact ec
    ·obtain⟨i,ei,hi,hd1⟩:=hc1 z hz
     obtain⟨j,ej,hj,hd2⟩:=hb1 z hz2;have:j=i:=by lia
     subst this;have hs:=(dX ir iq).mp fr j hi hd1;have e1:ai (gu n (yI n r)).2 (j+1)=_:=cH (iT ir).ls hj;have e2:ai (gu n (yI n r)).2 j=_:=cH (iT ir).ls (show j<n by lia);rw[e1,e2,B5 ir (by lia),B5 ir (by lia),show n-1-(n-1-(j+1))=j+1 by lia,show n-1-(n-1-j)=j by lia]at hd2;lia
    ·exact wx
    ·exact wy
def BD(n:Nat):cJ n 0 []=[]:=by
 unfold cJ yo;rfl
def V0{n:Nat}(hn:1<=n/\n<=7){w:List Int}(hl:w.length<=12){h:Int}{Z:List RP}(ef:dS [.int n,.lst (aW w)]=.ok (h,Z.map λx=>x.1))(F:FmS n w h Z)(h0:0<=h)(ey:dS [.int n,.lst (aW (cJ n h (Z.map λx=>x.1)))]=.ok (h,Z.map λx=>x.1))(Fy:FmS n (cJ n h (Z.map λx=>x.1)) h Z)(h1:n=1->h=0):Two n w [] (cJ n h (Z.map λx=>x.1)):=by
 have hb:=F.bd;have Uo:=F.ll;have rZ:=yd F.ln.iv;have ly:=(nK hn.2 (h:=h) rZ).2.1;rw[aB]at ly;have en:=K4 hn;have pu:=BC hn ey h0 rZ (by rw[aB];lia);have pt:=BC hn ef h0 rZ (by rw[aB];lia);have fw:∃h' Z',dS [.int n,.lst (aW w)]=.ok (h',Z')/\dS [.int n,.lst (aW (gP []++cJ n h (Z.map λx=>x.1)))]=.ok (h',Z'):=by
  refine⟨h,Z.map λx=>x.1,?_,?_⟩
  ·exact ef
  ·exact ey
 have l2:(cJ n h (Z.map λx=>x.1)).length<=600:=by lia
 have od:ph ((gP []++cJ n h (Z.map λx=>x.1)).map rf) (upTo n)=ph (w.map rf) (upTo n):=by
  rw[<-F.or];exact Fy.or.symm
 refine{pt:=pt,ax:=λk hk=>(nomatch hk),ay:=IG hn.2 h0 rZ,lx:=by simp,ly:=l2,fw:=fw,od:=od,fx:=?_,pu:=pu};have ix:dF [wc (0,[]),.int n]=.ok (.bl true):=EA hn.1 hn.2 (Z:=[]) (h:=0) ⟨(λx hx=>nomatch hx),trivial,(λx hx=>nomatch hx)⟩ (λx hx=>nomatch hx) λ_=>rfl;have iy:=MB hn Fy h1;have wx:cF [.int n,wc (0,[])]=.ok (aW []):=by
  have:=iU hn (h:=0) (rs:=[]) (λr hr=>nomatch hr) (by simp);rw[BD]at this;exact this
 have wy:cF [.int n,wc (h,Z.map λx=>x.1)]=.ok (aW (cJ n h (Z.map λx=>x.1))):=iU hn rZ (by rw[aB];lia);have eb:=vm (n:=n) (h:=0) (by decide);obtain⟨c,ec,hc⟩:∃c:List Int,cO [wc (h,Z.map λx=>x.1),.int n]=.ok (.lst (aW c))/\c.length<=600:=by
  by_cases c0:0<h
  ·exact ED hn c0 _
  ·cases Z with
   |nil=>exact⟨[],vm c0,by simp⟩
   |cons p Z=>
    obtain⟨c,e,hc,_⟩:=yU hn c0 (p:=p) (Z:=Z) (F.ln.iv p (by simp));exact⟨c,e,hc⟩
 have hd:∀k∈c,k∉([]:List Int):=λk _ hk=>nomatch hk;refine⟨0,[],[],h,Z.map λx=>x.1,c,?_,?_,?_,?_,?_,?_,hd,hc,?_,?_⟩
 ·exact en
 ·exact ey
 ·exact ix
 ·exact iy
 ·exact eb
 ·exact ec
 ·exact wx
 ·exact wy
def ae1{n:Nat}(hn:1<=n/\n<=7){w:List Int}(hw:∀k∈w,gH n k)(hl:w.length<=12):∃x y,Two n w x y:=by
 by_cases c:2<=n
 ·obtain⟨e,F⟩:=nM hn.2 c hw (by lia) (IF hw (by lia))
  have cv:=ya hn.2 c w hw oM;obtain⟨h,Z,ea⟩:∃h Z,dM n w (0,[])=(h,Z):=⟨_,_,rfl⟩
  by_cases h0:h<0
  ·exact ae0 hn.2 c hw hl ea h0
  ·rw[ea]at e F cv
   rw[show Rm (h,Z)=(h,Z.map λx=>x.1)from rfl]at e;dsimp only at F;have rZ:=yd F.ln.iv;have hb:=F.bd;have Uo:=F.ll;have px:=IG hn.2 (show 0<=h by lia) rZ;have ly:=(nK hn.2 (h:=h) rZ).2.1;rw[aB]at ly;obtain⟨e2,F2⟩:=nM hn.2 c (Rx px) (by lia) (By hn.2 rZ (m:=40) (by rw[aB];lia));rw[t8 hn.2 c cv h]at e2 F2;rw[show Rm (h,Z)=(h,Z.map λx=>x.1)from rfl]at e2;dsimp only at F2;exact⟨_,_,V0 hn hl e F (by lia) e2 F2 λz=>absurd z (by lia)⟩
 ·have hw0:w=[]:=by
   cases w with
   |nil=>rfl
   |cons k w=>have:=hw k (by simp);unfold gH at this;lia
  subst hw0;have en:=K4 hn;have hx:∀k∈([]:List Int),gH n k:=λk hk=>nomatch hk;obtain⟨h,Z,e,F,_⟩:=Ir (n:=n) hn.1 hn.2 hx (by simp) (IF hx (by simp));have hb:=F.bd;have Uo:=F.ll;rw[gG]at Uo hb;have h0:h=0:=by lia
  have z0:Z=[]:=aal (by lia);subst h0 z0;have:=V0 hn (w:=[]) (by simp) (h:=0) (Z:=[]) en F (by lia) (by rw[ji,BD];exact en) (by rw[ji,BD];exact F) λ_=>rfl;exact⟨_,_,this⟩
def MC(a:List Int):BU (.lst (aW a)) (.lst (aW a))=aa (.bl false):=by rw[Tn];simp
def aam{b c:List Int}(h:∀k∈c,k∉b):ed (bN 0) Aa Kj (ni 1 [.lst (aW b)]) (aW c)=.ok []:=by
 induction c with
 |nil=>rfl
 |cons k c ih=>
  have et:Aa [.val (.int k),.val (.lst (aW b))]=.ok false:=by
   unfold Aa;dsimp [mS,mD,mF,dH,aN,reduceAdd,reduceSub,reduceEqDiff];unfold YQ;simp_all only [qC,p7,decide_eq_false (h k (by simp))];dsimp [mS,mD,mF,dH,aN,reduceAdd,reduceSub,reduceEqDiff]
  rw[show aW (k::c)=.int k::aW c from rfl];unfold ed;rw[show(bN 0) (.int k) (ni 1 [.lst (aW b)])=.ok [.val (.int k),.val (.lst (aW b))]from rfl,R.cB,et,R.cB,if_neg di];exact ih λx hx=>h x (by simp[hx])
def aip(ns:List Int)(hl:ns.length<=63):D8 [.lst (aW ns)]=.ok (.bl true):=by
 have a0:∀(x y:D),jJ [x,y] 0=aa x:=λ_ _=>rfl;have a1:∀(x y:D),jJ [x,y] 1=aa y:=λ_ _=>rfl;unfold D8 aby
 dsimp [mS,mD,mF,dH,aN,reduceAdd,reduceSub,reduceEqDiff,Tf];rw[show ie [.lst (aW ns),.int 0]=.ok (.int (ai ns 0))from aae ns 0];dsimp;rw[pD _ _ (by decide)];dsimp [LS];generalize ai ns 0%1000000000=sd;obtain⟨n1,n7⟩:=JM sd;generalize tw sd=n0 at n1 n7;obtain⟨n,rfl⟩:∃n:Nat,n0=n:=⟨n0.toNat,by lia⟩
 have hn:1<=n/\n<=7:=by lia
 obtain⟨w,ew,hx,hw⟩:∃w:List Int,((((if decide (4<(n:Int))=true then R.ok (D.int 8)else R.ok (D.int 12)).bind λv9=>R.ok [v9]).bind λnc=>R.ok (D.int n::nc)).bind λv20=>R.ok (D.lst (aW ns)::v20)).bind iD=.ok (.lst (aW w))/\(∀k∈w,gH n k)/\w.length<=12:=by
  by_cases c:4<(n:Int)
  ·rw[if_pos (decide_eq_true c)]
   obtain⟨w,e,h1,h2⟩:=VV (cells:=ns) (n:=n) hl (by lia);exact⟨w,e,h1,by lia⟩
  ·rw[if_neg (by rw[decide_eq_true_eq];exact c)]
   exact aah (cells:=ns) (n:=n) hl (by lia)
 obtain⟨x,y,T⟩:=ae1 hn hx hw;obtain⟨h,Z,fw1,fw2⟩:=T.fw;obtain⟨h',Z',b,l,V,c,ex,ey,ix,iy,eb,ec,hd,hcl,wx,wy⟩:=T.fx;have px:=K2 T.ax;have py:=K2 T.ay;have lx:=T.lx;have ly:=T.ly;have lt:(gP x).length=x.length:=by unfold gP;rw[aB,bH]
 have xX:∀k∈gP x++y,gH n k:=λk hk=>by
  rcases cu.mp hk with z|z
  ·unfold gP at z
   obtain⟨j,hj,rfl⟩:=cC.mp z;have:=T.ax j (by simpa using hj);unfold gH;lia
  ·have:=T.ay k z
   unfold gH;lia
 have o1:=Gz hn.2 xX;have o2:=Gz hn.2 hx;rw[T.od]at o1;have t1:∀xs:List D,lM (BR (.tup xs)) "tuple"=true:=λ_=>rfl;have sT:∀(nss:List (List Int))(e:DE),cy 0 (.deep (.tp nss)::e)=.ok (.tup (nss.map λns=>.lst (aW ns))):=λ_ _=>rfl;have tA:∀(s0 s1 s2 s3:Sl)(nss:List (List Int))(e:DE),zM 4 (s0::s1::s2::s3::.deep (.tp nss)::e)=.ok nss:=λ_ _ _ _ _ _=>rfl;have tB':∀(s0 s1 s2 s3 s4 s5 s6 s7 s8 s9 sA sB:Sl)(nss:List (List Int))(e:DE),zM 12 (s0::s1::s2::s3::s4::s5::s6::s7::s8::s9::sA::sB::.deep (.tp nss)::e)=.ok nss:=λ_ _ _ _ _ _ _ _ _ _ _ _ _ _=>rfl;have uO:∀(i j k:Nat)(e:DE)(p q:List Int),YL i j k e [p,q]=.ok (.nx (((e.set k .no).set i (.own (aW p))).set j (.own (aW q)))):=λ_ _ _ _ _ _=>rfl;have pO:∀(i j:Nat)(e:DE)(p q:D),Yp i j e [p,q]=.ok (.nx ((e.set i (.val p)).set j (.val q))):=λ_ _ _ _ _=>rfl;have n2:(((2:Nat):Int)==2)=true:=rfl;rw[ew];dsimp [mS,mD,mF,dH,aN,reduceAdd,reduceSub,reduceEqDiff,T.pt,R.j6,sT,t1,jZ,MC,tA,uO,px,py,aak x (by lia),n2,jZ];rw[qc,gq (by rw[bO];lia)];dsimp [o1,o2,MC,fw1,fw2,r6,VW,R.j6,ex,ey,pO];rw[<-r6,<-r6,ix,iy];dsimp [jZ,eb,ec];have n0:BU (.lst []) (.lst [])=aa (.bl false):=rfl;have s0:∀p q:List Int,zL [p,q] (.int 0)=.ok (0,p):=λ_ _=>rfl;have s1:∀p q:List Int,zL [p,q] (.int 1)=.ok (1,q):=λ_ _=>rfl;have aQ:∀(e:DE)(nss:List (List Int))(k:Nat)(p:List Int)(v:Int),p.length<1000->JG 12 e nss (k,p) (.int v)=.ok (.nx (e.set 12 (.deep (.tp (nss.set k (p++[v])))))):=λe nss k p v hp=>if_pos (dN hp (by decide));dsimp [iW,aam hd,R.j6,n0,wx,wy,Rq,jZ,T.pu,sT,show aW []=[]from rfl,a0,a1,MC,tB',s0,s1,aQ _ _ _ [] _ (by simp),aQ _ _ _ y _ (by lia)];rw[zI (by rw[cM];lia)];dsimp;rw[zI (by rw[cM];lia)];dsimp [Tj,decide_true];rw[show aW y++[D.int (n:Int)]=aW (y++[(n:Int)])from qc y [(n:Int)],gq (by rw[bO,nT];lia)];dsimp [Tj,decide_true]
def ae2{K:ak}{H:Hp}{a:ae}(ns:List Int)(hl:ns.length<=63)(hS:gb K H a (ns.map V.int)):NR K RO D8 [.ref a] H (λv _=>v=.bl true) λ_ _ _=>False:=ahp (aip ns hl) hS
end DL
namespace DL.wH
open PySem PySem.Spec PyProof.Rows L2 DL
section
variable{P:aU}{w:aF}{K:ak}{mg:Str->Option ah}{base:aD}(t:Tb K mg)
def Ry:p9 P w K mg base 1 t.wN t.wO ["word"] qE:=by
 have h:=vZ (P:=P) (w:=w) (base:=base) (k:=0) L7 t.Af λcdv A outer s H E hr=>
  (cG (sY (vY (QQ (N:=["k"]) (nt:=1) (caps:=[]) (az Bj) ["word"] (by decide +kernel)) rfl (DC (iV t.lC (nD 0))) (Kp.ok (A6 (nt:=1) 0)) (λ_ _ _ _ _=>(zG 0 (by show g6 (["k"]:List Str);decide +kernel))) (λ_ _ _ _ _=>ts0) (λ_ _ _ _ _=>(NN kR jl (nB 0))))))
 exact h
def MD:p9 P w K mg base 1 t.xR t.xS ["word"] tE:=by
 have h:=vZ (P:=P) (w:=w) (base:=base) (k:=0) wI t.Bm λcdv A outer s H E hr=>
  (br (yw 1 (se dm) wI.nd)
  (br (AW gO rfl (iL (nD 0)) (zG 2 wI.nd) (cG (yv (FP (cY oQ kT (PE.bC (ng gD jm t.pV jb (aV (nB 1) cP))) (PE.bC cI) (bJ _)) (Jo (cY (pC (cV.u6 hr)) kC (PE.bC (IS (nL 1) (PE.bC (NN kR jl (PE.bC cI))))) (PE.bC (NN kR jl (nB 2))) (bJ _)))).pt (cG (agZ 1)) (cG (Oe 1 (nD 2))))))
  (cG (Jq 1))))
 exact h
def K5:p9 P w K mg base 1 t.lu t.lB ["n"] fE:=by
 have h:=vZ (P:=P) (w:=w) (base:=base) (k:=0) H0 t.iR λcdv A outer s H E hr=>
  (cG (sY (Hs rfl t.jH t.mY (aV (nB 0) cP))))
 exact h
def aan:p9 P w K mg base 1 t.Ef t.Eg ["n"] yO:=by
 have h:=vZ (P:=P) (w:=w) (base:=base) (k:=0) UJ t.Bo λcdv A outer s H E hr=>
  (cG (sY (Yv rfl t.jH t.mY (aV (PE.bC (ee eJ dW (nB 0) (PE.bC cI))) (aV (PE.bC (NN kR jl (PE.bC cI))) (aV (PE.bC (NN kR jl (PE.bC cI))) cP))))))
 exact h
def II:p9 P w K mg base 1 t.lH t.lI ["row"] fX:=by
 have h:=vZ (P:=P) (w:=w) (base:=base) (k:=0) n9 t.lJ λcdv A outer s H E hr=>
  (br (yw 1 (agR (se (bq cI dm)) (PE.bC (ng gD jm t.pV jb (aV (nB 0) cP)))) n9.nd)
  (br (AW gO rfl (iE t.rW (nD 0)) (gT2 2 rfl (rJ (zG 2 n9.nd) (rJ (zG 3 n9.nd) Hw))) (cG (Hz 1 (nB 3) (nD 2))))
  (cG (Jq 1))))
 exact h
def V1:p9 P w K mg base 1 t.Ag t.Ah ["row"] xP:=by
 have h:=vZ (P:=P) (w:=w) (base:=base) (k:=0) Q5 t.xU λcdv A outer s H E hr=>
  (cG (sY (vY (QQ (N:=["k","row"]) (nt:=1) (caps:=[0]) (az Ea) ["row"] (by decide +kernel)) rfl (DC (iR2 t.mY (aV (PE.bC cI) (aV (PE.bC (ng gD jm t.pV jb (aV (nB 0) cP))) cP)))) (Kp.ok (A6 (nt:=1) 0)) (λ_ _ _ _ _=>(zG 0 (by show g6 (["k","row"]:List Str);decide +kernel))) (λ_ _ _ _ _=>(ts1 (cY oQ kT (PE.bC (IS (nL 1) (PE.bC (ee eJ dW (nB 0) (PE.bC cI))))) (PE.bC (IS (nL 1) (nB 0))) (bJ _)))) (λ_ _ _ _ _=>(nD 0)))))
 exact h
def t9:p9 P w K mg base 1 t.dq t.du ["row","k"] cD:=by
 have h:=vZ (P:=P) (w:=w) (base:=base) (k:=0) sH t.cS λcdv A outer s H E hr=>
  (cG (sY (Jp (PE.zr (Jp (PE.zr (uA (nL 0) oNo (E6 (PE.bC (ee eJ dW (nB 1) (PE.bC cI)))))) (PE.zr (se (bq (IS (nL 0) (nB 1)) (bq (IS (nL 0) (PE.bC (ee eJ dW (nB 1) (PE.bC cI)))) dm)))))) (PE.zr (uA (nL 0) (E6 (PE.bC (ee nv hU (nB 1) (PE.bC cI)))) oNo)))))
 exact h
def EE:p9 P w K mg base 1 t.oh t.oi ["row"] j9:=by
 have h:=vZ (P:=P) (w:=w) (base:=base) (k:=0) Cg t.sI λcdv A outer s H E hr=>
  (cG (sY (vY (QQ (N:=["string","row"]) (nt:=1) (caps:=[0]) (az qJ) ["row"] (by decide +kernel)) rfl (DC (iV t.lC (nD 0))) (Kp.ok (A6 (nt:=1) 0)) (λ_ _ _ _ _=>(zG 0 (by show g6 (["string","row"]:List Str);decide +kernel))) (λ_ _ _ _ _=>ts0) (λ_ _ _ _ _=>(ee eJ dW (PE.bC (ee eJ dW (PE.bC (ng gD jm t.pV jb (aV (nB 1) cP))) (PE.bC cI))) (nB 0))))))
 exact h
def ME:Ok P w K mg base 1 t.xV t.xW ["crossings"] tJ:=by
 have h:=X8 (P:=P) (w:=w) (base:=base) (k:=0) rN t.lK λcdv A outer s H E hr=>
  (br (jy 1 cI rN.nd)
  (br (AW gO rfl (iL (nD 0)) (zG 2 rN.nd) (cG (aaV 1 aha (PE.bC (ee acx Yy (PE.bC cI) (PE.bC (ee eJ dW (nB 2) (PE.bC cI))))) rN.nd)))
  (cG (iC (nD 1)))))
 exact h
def K6:Ok P w K mg base 1 t.qP t.qQ ["_law_cell","_law_k","_law_factor"] kY:=by
 have h:=X8 (P:=P) (w:=w) (base:=base) (k:=0) Ia t.uZ λcdv A outer s H E hr=>
  (cG (iC (ee y8 zx (PE.bC (ee qz mh (PE.bC (ee Lj Hg (PE.bC (ee nv hU (PE.bC (ee nv hU (PE.bC (ee Lj Hg (PE.bC (ee qz mh (nB 0) (PE.bC cI))) (PE.bC cI))) (PE.bC (ee Lj Hg (nB 1) (nB 1))))) (PE.bC cI))) (nB 2))) (PE.bC cI))) (PE.bC cI))))
 exact h
def Cm:Ok P w K mg base 1 t.mO t.mQ ["_law_script","_law_k"] ie:=by
 have h:=X8 (P:=P) (w:=w) (base:=base) (k:=0) Bk t.qR λcdv A outer s H E hr=>
  (br (yv (cY za yL (nB 1) (PE.bC (ng gD jm t.pV jb (aV (nB 0) cP))) (bJ _)) (cG (iC (IS (nL 0) (nB 1)))) lL)
  (cG (iC cI)))
 exact h
def Cn:Ok P w K mg base 1 t.mR t.mU ["_law_seed","_law_least","_law_most"] jB:=by
 have h:=X8 (P:=P) (w:=w) (base:=base) (k:=0) tW t.qT λcdv A outer s H E hr=>
  (br (yv (FP (cY (pC (cV.u6 hr)) kC (nB 1) (PE.bC cI) (bJ _)) (Jo (cY (pC (cV.u6 hr)) kC (PE.bC (ee qz mh (nB 0) (PE.bC cI))) (PE.bC cI) (bJ _)))).pt (cG (iC cI)) lL)
  (br (jy 1 (ng (Qy rfl) SS t.abA adb (aV (PE.bC cI) (aV (nB 1) cP))) tW.nd)
  (cG (iC (ee nv hU (nB 1) (PE.bC (ee qz mh (PE.bC (ee y8 zx (nB 0) (PE.bC cI))) (PE.bC (ee nv hU (PE.bC (ee eJ dW (nB 2) (nB 1))) (PE.bC cI))))))))))
 exact h
def EF:Ok P w K mg base 1 t.oE t.oF ["_law_found","_law_due"] i9:=by
 have h:=X8 (P:=P) (w:=w) (base:=base) (k:=0) pJ t.oG λcdv A outer s H E hr=>
  (br (yv (p8 (pR (sX (PE.bC (zB CM nU t.cT t.jH (nB 0))))) (yg (cY (kW (cV.u6 hr)) iP (PE.bC (ng gD jm t.pV jb (aV (nB 0) cP))) (PE.bC (ng gD jm t.pV jb (aV (nB 1) cP))) (bJ _)))).pt (cG (iC FO)) lL)
  (br (AW gO rfl (iZ t.abB (bq (nD 0) (bq (nD 1) dm))) (gT2 2 rfl (rJ (zG 2 pJ.nd) (rJ (zG 3 pJ.nd) Hw))) (cG (yv (p8 (pR (sX (PE.bC (zB Ho Hq t.cT t.Km (nB 2))))) (p8 (sX (PE.bC (zB CL CN t.cT t.Ej (nB 2)))) (yg (cY (kW (cV.u6 hr)) iP (nB 2) (nB 3) (bJ _))))).pt (cG (iC FO)) lL)))
  (cG (iC FO))))
 exact h
def BE:Ok P w K mg base 1 t.kO t.kP ["_law_number","_law_n"] iX:=by
 have h:=X8 (P:=P) (w:=w) (base:=base) (k:=0) rO t.pM λcdv A outer s H E hr=>
  (br (jy 2 (ee nv hU (PE.bC cI) (PE.bC (ee qz mh (nB 0) (PE.bC (ee eJ dW (nB 1) (PE.bC cI)))))) rO.nd)
  (br (yv (cY (pC (cV.u6 hr)) kC (PE.bC (ee qz mh (PE.bC (ee y8 zx (nB 0) (PE.bC cI))) (PE.bC cI))) (PE.bC cI) (bJ _)) (cG (iC (NN kR jl (nB 2)))) lL)
  (cG (iC (nD 2)))))
 exact h
def IJ:p9 P w K mg base 1 t.rR t.rS ["_law_word"] oZ:=by
 have h:=vZ (P:=P) (w:=w) (base:=base) (k:=0) Fj t.wV λcdv A outer s H E hr=>
  (cG (sY (vY (QQ (N:=["_law_k"]) (nt:=1) (caps:=[]) (az uV) ["_law_word"] (by decide +kernel)) rfl (DC (iV t.lC (nD 0))) (Kp.ok (A6 (nt:=1) 0)) (λ_ _ _ _ _=>(zG 0 (by show g6 (["_law_k"]:List Str);decide +kernel))) (λ_ _ _ _ _=>ts0) (λ_ _ _ _ _=>(NN kR jl (nB 0))))))
 exact h
def Fo:Ok P w K mg base 1 t.ql t.qm ["_law_n","_law_word"] jT:=by
 have h:=okD (P:=P) (w:=w) (base:=base) (k:=0) jF t.qo λcdv A outer s H E hr=>
  (br (jy 2 (PE.fH (Hs rfl t.jH t.mY (aV (nB 0) cP))) jF.nd)
  (br (AW gO rfl (iL (nD 1)) (zG 3 jF.nd) (br (jy 4 (ng Ds Hi t.Pg LG (aV (nB 3) cP)) jF.nd)
  (cG (jy 2 (PE.fH (Jp (PE.zr (Jp (PE.zr (uA (nL 2) oNo (E6 (PE.bC (ee eJ dW (nB 4) (PE.bC cI)))))) (PE.zr (se (bq (IS (nL 2) (nB 4)) (bq (IS (nL 2) (PE.bC (ee eJ dW (nB 4) (PE.bC cI)))) dm)))))) (PE.zr (uA (nL 2) (E6 (PE.bC (ee nv hU (nB 4) (PE.bC cI)))) oNo)))) jF.nd))))
  (cG (iC (nD 2)))))
 exact h
def Co:Ok P w K mg base 1 t.mV t.mW ["_law_found","_law_n"] dF:=by
 have h:=X8 (P:=P) (w:=w) (base:=base) (k:=0) iA t.mX λcdv A outer s H E hr=>
  (br (yv (p8 (pR (sX (PE.bC (zB Ju DH t.cT t.Dc (nB 0))))) (p8 (cY (kW (cV.u6 hr)) iP (PE.bC (ng gD jm t.pV jb (aV (nB 0) cP))) (PE.bC cI) (bJ _)) (yg (pR (sX (PE.bC (zB CM nU t.cT t.jH (PE.bC (EL (nD 0) (PE.bC cI)))))))))).pt (cG (iC FO)) lL)
  (br (yv (p8 (pR (sX (PE.bC (zB Ho Hq t.cT t.Km (PE.bC (EL (nD 0) (PE.bC cI))))))) (p8 (sX (PE.bC (zB CL CN t.cT t.Ej (PE.bC (EL (nD 0) (PE.bC cI)))))) (yg (FP (cY (pC (cV.u6 hr)) kC (nB 1) (PE.bC cI) (bJ _)) (Jo (cY (kW (cV.u6 hr)) iP (PE.bC (EL (nD 0) (PE.bC cI))) (PE.bC cI) (bJ _)))).pt))).pt (cG (iC FO)) lL)
  (br (jy 2 cN iA.nd)
  (br (AW gO rfl (iL (EL (nD 0) (PE.bC cI))) (zG 3 iA.nd) (br (yv (p8 (pR (sX (PE.bC (zB CM nU t.cT t.jH (nB 3))))) (yg (cY (kW (cV.u6 hr)) iP (PE.bC (PE.fH (vY (QQ (N:=["_law_s"]) (nt:=1) (caps:=[]) (az pK) ["_law_found","_law_n","_law_last","_law_row","_law_k"] (by decide +kernel)) rfl (DC (iL (nD 3))) (Kp.ok (A6 (nt:=1) 0)) (λ_ _ _ _ _=>(zG 0 (by show g6 (["_law_s"]:List Str);decide +kernel))) (λ_ _ _ _ _=>(ts1 (p8 (pR (sX (PE.bC (zB Ho Hq t.cT t.Km (nB 0))))) (yg (sX (PE.bC (zB CL CN t.cT t.Ej (nB 0)))))).pt)) (λ_ _ _ _ _=>(nD 0))))) (PE.bC (PE.fH (se dm))) (bJ _)))).pt (cG (iC FO)) lL)
  (br (yv (p8 (cY (kW (cV.u6 hr)) iP (PE.bC (PE.fH (Yr t.Kn (nL 3)))) (PE.bC (PE.fH (Hs rfl t.jH t.mY (aV (nB 1) cP)))) (bJ _)) (p8 (cY (pC (cV.u6 hr)) kC (nB 3) (PE.bC (PE.fH (Hs rfl t.jH t.mY (aV (nB 1) cP)))) (bJ _)) (yg (cY (pC (cV.u6 hr)) kC (nB 3) (PE.bC (PE.fH (adH rfl t.jH t.lC t.mY (aV (nB 1) cP)))) (bJ _))))).pt (cG (iC FO)) lL)
  (br (AW gO rfl (iR2 t.mY (aV (PE.bC cI) (aV (nB 1) cP))) (zG 4 iA.nd) (cG (yv (FP (cY WW Tc (nB 2) (PE.bC cN) (bJ _)) (FP (cY oQ kT (PE.bC (HC (nL 3) (PE.bC (ee eJ dW (nB 4) (PE.bC cI))))) (PE.bC (HC (nL 3) (nB 4))) (bJ _)) (Jo (cY za yL (PE.bC (EL (nD 2) (PE.bC (ee eJ dW (nB 4) (PE.bC cI))))) (PE.bC (EL (nD 2) (nB 4))) (bJ _))))).pt (cG (iC FO)) lL)))
  (cG (jy 2 (nD 3) iA.nd))))))
  (cG (iC FO))))))
 exact h
def Fp:Ok P w K mg base 1 t.qp t.qq ["_law_word","_law_n"] jU:=by
 have h:=X8 (P:=P) (w:=w) (base:=base) (k:=0) wM t.qr λcdv A outer s H E hr=>
  (br (yv (pR (sX (PE.bC (zB CM nU t.cT t.jH (nB 0))))) (cG (iC FO)) lL)
  (br (AW gO rfl (iL (nD 0)) (zG 2 wM.nd) (cG (yv (p8 (pR (sX (PE.bC (zB Ho Hq t.cT t.Km (nB 2))))) (p8 (sX (PE.bC (zB CL CN t.cT t.Ej (nB 2)))) (p8 (cY za yL (nB 2) (PE.bC cI) (bJ _)) (yg (cY oQ kT (nB 2) (PE.bC (ee eJ dW (nB 1) (PE.bC cI))) (bJ _)))))).pt (cG (iC FO)) lL)))
  (cG (iC FO))))
 exact h
def EG:Ok P w K mg base 1 t.oH t.oJ ["_law_told","_law_n"] cO:=by
 have h:=okD (P:=P) (w:=w) (base:=base) (k:=0) vI t.oK λcdv A outer s H E hr=>
  (br (yv (cY oQ kT (PE.bC (EL (nD 0) (PE.bC cI))) (PE.bC cI) (bJ _)) (cG (iC (PE.fH (YM rfl t.jH t.mY (aV (PE.bC cI) (aV (nB 1) cP)))))) lL)
  (br (yv (cY (pC (cV.u6 hr)) kC (PE.bC (EL (nD 0) (PE.bC cI))) (PE.bC (PE.fH (se dm))) (bJ _)) (cG (iC (PE.fH (se dm)))) lL)
  (br (jy 2 (EL (EL (nD 0) (PE.bC cI)) (PE.bC cI)) vI.nd)
  (cG (iC (PE.fH (vY (QQ (N:=["_law_k","_law_row"]) (nt:=1) (caps:=[2]) (az qN) ["_law_told","_law_n","_law_row"] (by decide +kernel)) rfl (DC (iR2 t.mY (aV (PE.bC cI) (aV (nB 1) cP)))) (Kp.ok (A6 (nt:=1) 0)) (λ_ _ _ _ _=>(zG 0 (by show g6 (["_law_k","_law_row"]:List Str);decide +kernel))) (λ_ _ _ _ _=>(ts1 (cY oQ kT (PE.bC (HC (nL 1) (PE.bC (ee eJ dW (nB 0) (PE.bC cI))))) (PE.bC (HC (nL 1) (nB 0))) (bJ _)))) (λ_ _ _ _ _=>(nD 0)))))))))
 exact h
def Rz(f9:p9 P w K mg base 1 t.lH t.lI ["row"] fX)(x5:p9 P w K mg base 1 t.Ag t.Ah ["row"] xP):p9 P w K mg base 2 t.wQ t.wR ["row"] qG:=by
 have h:=vZ (P:=P) (w:=w) (base:=base) (k:=1) L8 t.qO λcdv A outer s H E hr=>
  (cG (sY (zD t.xU x5 (hr.mono (by decide)) (bq (PE.fH (zD t.lJ f9 (hr.mono (by decide)) (bq (nD 0) dm))) dm))))
 exact h
def vo(f9:p9 P w K mg base 1 t.lH t.lI ["row"] fX)(cU:p9 P w K mg base 1 t.dq t.du ["row","k"] cD):p9 P w K mg base 2 t.eB t.eI ["row","k"] dD:=by
 have h:=vZ (P:=P) (w:=w) (base:=base) (k:=1) tV t.dE λcdv A outer s H E hr=>
  (cG (sY (zD t.lJ f9 (hr.mono (by decide)) (bq (PE.fH (zD t.cS cU (hr.mono (by decide)) (bq (PE.fH (zD t.lJ f9 (hr.mono (by decide)) (bq (nD 0) dm))) (bq (nD 1) dm)))) dm))))
 exact h
def RA(gj:p9 P w K mg base 1 t.lu t.lB ["n"] fE)(cU:p9 P w K mg base 1 t.dq t.du ["row","k"] cD):p9 P w K mg base 2 t.Ai t.Aj ["n","word"] tK:=by
 have h:=vZ (P:=P) (w:=w) (base:=base) (k:=1) uT t.Ak λcdv A outer s H E hr=>
  (br (yw 2 (zD t.iR gj (hr.mono (by decide)) (bq (nD 0) dm)) uT.nd)
  (br (AW gO rfl (iL (nD 1)) (zG 3 uT.nd) (br (yv (cY za yL (nB 3) (PE.bC cI) (bJ _)) (cG ag1) lL)
  (br (yv (cY oQ kT (PE.bC (IS (nL 2) (PE.bC (ee eJ dW (nB 3) (PE.bC cI))))) (PE.bC (IS (nL 2) (nB 3))) (bJ _)) (cG ag1) lL)
  (cG (yw 2 (adj scl t.cS cU (hr.mono (by decide)) (aV (nB 2) (aV (nB 3) cP))) uT.nd)))))
  (cG (Jq 2))))
 exact h
def V2(f9:p9 P w K mg base 1 t.lH t.lI ["row"] fX):p9 P w K mg base 2 t.C8 t.C9 ["row"] zV:=by
 have h:=vZ (P:=P) (w:=w) (base:=base) (k:=1) Q6 t.Ib λcdv A outer s H E hr=>
  (cG (sY (vY (QQ (N:=["place","row"]) (nt:=1) (caps:=[0]) (az Eb) ["row"] (by decide +kernel)) rfl (DC (iL (PE.fH (zD t.lJ f9 (hr.mono (by decide)) (bq (nD 0) dm))))) (Kp.ok (A6 (nt:=1) 0)) (λ_ _ _ _ _=>(zG 0 (by show g6 (["place","row"]:List Str);decide +kernel))) (λ_ _ _ _ _=>ts0) (λ_ _ _ _ _=>(ee eJ dW (PE.bC (ee eJ dW (PE.bC (ng gD jm t.pV jb (aV (nB 1) cP))) (PE.bC cI))) (nB 0))))))
 exact h
def ae3(gj:p9 P w K mg base 1 t.lu t.lB ["n"] fE):OkT P w K mg base 2 t.Pd t.Pe ["n","word"] JV:=by
 have h:=okT (P:=P) (w:=w) (base:=base) (k:=1) qg t.UM λcdv A outer s H E hr=>
  (br (abk 2 abj qg.nd)
  (br (yw 3 (zD t.iR gj (hr.mono (by decide)) (bq (nD 0) dm)) qg.nd)
  (br (jy 4 FO qg.nd)
  (br (AW gO rfl (iL (nD 1)) (zG 5 qg.nd) (br (jy 6 (ng Ds Hi t.Pg LG (aV (nB 5) cP)) qg.nd)
  (br (yv (p8 (cY (pC (cV.u6 hr)) kC (PE.bC (ng gD jm t.pV jb (aV (nB 2) cP))) (PE.bC cI) (bJ _)) (p8 (cY (kW (cV.u6 hr)) iP (nB 4) (PE.bC (XE oQ kT (nB 5) (PE.bC cI) (bJ _))) (bJ _)) (yg (cY oQ kT (PE.bC (IS (nL 3) (PE.bC (ee eJ dW (nB 6) (PE.bC cI))))) (PE.bC (IS (nL 3) (nB 6))) (bJ _))))).pt (br (abm 2 (se dm))
  (br (yw 3 (zD t.iR gj (hr.mono (by decide)) (bq (nD 0) dm)) qg.nd)
  (cG (jy 4 (XE oQ kT (nB 5) (PE.bC cI) (bJ _)) qg.nd)))) lL)
  (br (adC 2 (PE.bC (NN kR jl (PE.bC cI))) (nB 5))
  (br (jy 7 (IS (nL 3) (nB 6)) qg.nd)
  (br (Hz 3 (nB 6) (IS (nL 3) (PE.bC (ee eJ dW (nB 6) (PE.bC cI)))))
  (cG (Hz 3 (PE.bC (ee eJ dW (nB 6) (PE.bC cI))) (nD 7)))))))))
  (cG (abl 2))))))
 exact h
def EH(sN:p9 P w K mg base 1 t.oh t.oi ["row"] j9):p9 P w K mg base 2 t.ou t.oy ["halves","row"] kc:=by
 have h:=vZ (P:=P) (w:=w) (base:=base) (k:=1) Cj t.sJ λcdv A outer s H E hr=>
  (br (yv (cY (pC (cV.u6 hr)) kC (PE.bC (ee qz mh (nB 0) (PE.bC cI))) (PE.bC cI) (bJ _)) (cG (sY (NQ t.jH (nL 1)))) lL)
  (cG (sY (zD t.sI sN (hr.mono (by decide)) (bq (nD 1) dm)))))
 exact h
def Fq(pP:Ok P w K mg base 1 t.kO t.kP ["_law_number","_law_n"] iX):Ok P w K mg base 2 t.qh t.qi ["_law_number","_law_n"] my:=by
 have h:=okD (P:=P) (w:=w) (base:=base) (k:=1) qM t.u9 λcdv A outer s H E hr=>
  (br (jy 2 (S9 Tp t.pM pP (hr.mono (by decide)) (aV (nB 0) (aV (nB 1) cP))) qM.nd)
  (br (yv (p8 (cY oQ kT (PE.bC (ee qz mh (PE.bC (ee y8 zx (nB 0) (PE.bC cI))) (PE.bC cI))) (PE.bC cI) (bJ _)) (yg (cY za yL (nB 1) (PE.bC cI) (bJ _)))).pt (cG (iC (PE.fH (se (bq (nD 2) dm))))) lL)
  (br (jy 3 (vIf (FP (cY za yL (PE.bC (ng Ds Hi t.Pg LG (aV (PE.bC (ee nv hU (nB 2) (PE.bC cI))) cP))) (nB 1) (bJ _)) (Jo (cY (kW (cV.u6 hr)) iP (PE.bC (ee nv hU (nB 2) (PE.bC cI))) (PE.bC cI) (bJ _)))).pt (ee nv hU (nB 2) (PE.bC cI)) (ee eJ dW (nB 2) (PE.bC cI))) qM.nd)
  (cG (iC (IS (PE.zr (se (bq (PE.fH (se (bq (nD 2) (bq (nD 3) (bq (nD 2) dm))))) (bq (PE.fH (se (bq (nD 2) (bq (nD 3) dm)))) (bq (PE.fH (se (bq (nD 2) (bq (nD 2) dm)))) (bq (PE.fH (se (bq (nD 2) (bq (NN kR jl (nB 3)) (bq (nD 2) dm))))) dm)))))) (PE.bC (ee qz mh (PE.bC (ee y8 zx (nB 0) (PE.bC cI))) (PE.bC cI)))))))))
 exact h
def K7(qU:p9 P w K mg base 2 t.wQ t.wR ["row"] qG)(gw:p9 P w K mg base 2 t.eB t.eI ["row","k"] dD):p9 P w K mg base 3 t.uW t.uX ["row"] kZ:=by
 have h:=vZ (P:=P) (w:=w) (base:=base) (k:=2) jW t.uY λcdv A outer s H E hr=>
  (br (yw 1 (se dm) jW.nd)
  (br (jy 2 (PE.fH (NQ t.jH (nL 0))) jW.nd)
  (br (jy 3 (PE.fH (zD t.qO qU (hr.mono (by decide)) (bq (nD 2) dm))) jW.nd)
  (br (acX (λ_=>400) gO (cY oQ kT (PE.bC (ng gD jm t.pV jb (aV (nB 3) cP))) (PE.bC cI) (bJ _)) (br (Oe 1 (IS (nL 3) (PE.bC cI)))
  (br (jy 2 (PE.fH (zD t.dE gw (hr.mono (by decide)) (bq (nD 2) (bq (IS (nL 3) (PE.bC cI)) dm)))) jW.nd)
  (cG (jy 3 (PE.fH (zD t.qO qU (hr.mono (by decide)) (bq (nD 2) dm))) jW.nd)))))
  (cG (Jq 1))))))
 exact h
def EI(IK:p9 P w K mg base 2 t.C8 t.C9 ["row"] zV):Ok P w K mg base 3 t.ki t.kj ["row"] fY:=by
 have h:=okD (P:=P) (w:=w) (base:=base) (k:=2) Ci t.om λcdv A outer s H E hr=>
  (cG (iC (SR (bq (NN kR jl (PE.bC cI)) (bq (PE.fH (zD t.Ib IK (hr.mono (by decide)) (bq (nD 0) dm))) dm)))))
 exact h
def vM(sO:p9 P w K mg base 2 t.ou t.oy ["halves","row"] kc):OkT P w K mg base 3 t.gK t.gM ["steps"] bU:=by
 have h:=okT (P:=P) (w:=w) (base:=base) (k:=2) dY t.eZ λcdv A outer s H E hr=>
  (br (abk 1 abj dY.nd)
  (br (jy 2 cI dY.nd)
  (br (AW gO rfl (iV t.lC (nD 0)) (zG 3 dY.nd) (br (abm 1 (zD t.sJ sO (hr.mono (by decide)) (bq (nD 2) (bq (EL (nD 3) (PE.bC cI)) dm))))
  (cG (aaV 2 R7 (PE.bC (EL (nD 3) (PE.bC cI))) dY.nd))))
  (br (ahc 1)
  (cG (abl 1))))))
 exact h
def Ft(nN:Ok P w K mg base 1 t.qP t.qQ ["_law_cell","_law_k","_law_factor"] kY)(vp:Ok P w K mg base 2 t.qh t.qi ["_law_number","_law_n"] my):p9 P w K mg base 3 t.qj t.qk ["_law_cells","_law_n","_law_most"] mz:=by
 have h:=vZ (P:=P) (w:=w) (base:=base) (k:=2) jE t.vc λcdv A outer s H E hr=>
  (br (jy 3 (PE.fH (se dm)) jE.nd)
  (br (AW gO rfl (iE t.rW (nD 0)) (gT2 2 rfl (rJ (zG 4 jE.nd) (rJ (zG 5 jE.nd) Hw))) (cG (yv (cY oQ kT (nB 1) (PE.bC cI) (bJ _)) (cG (jy 3 (PE.fH (Jp (nL 3) (PE.ajY (Wd t.u9 vp (hr.mono (by decide)) (bq (S9 Tp t.uZ nN (hr.mono (by decide)) (aV (nB 5) (aV (nB 4) (aV (PE.bC cI) cP)))) (bq (nD 1) dm)))))) jE.nd)) lL)))
  (cG (sY (uA (nL 3) oNo (E6 (nB 2)))))))
 exact h
def IL(uc:p9 P w K mg base 1 t.wN t.wO ["word"] qE)(IM:p9 P w K mg base 1 t.Ef t.Eg ["n"] yO)(vq:p9 P w K mg base 3 t.uW t.uX ["row"] kZ):p9 P w K mg base 4 t.o7 t.o8 ["n","form"] cF:=by
 have h:=vZ (P:=P) (w:=w) (base:=base) (k:=3) kh t.jG λcdv A outer s H E hr=>
  (br (yw 2 (zD t.uY vq (hr.mono (by decide)) (bq (PE.fH (zD t.Bo IM (hr.mono (by decide)) (bq (nD 0) dm))) dm)) kh.nd)
  (br (yv (cY za yL (PE.bC (EL (nD 1) (PE.bC cI))) (PE.bC cI) (bJ _)) (cG (yw 3 (agR (adj scl t.Af uc (hr.mono (by decide)) (aV (nB 2) cP)) (PE.bC (NN kR jl (PE.bC (EL (nD 1) (PE.bC cI)))))) kh.nd)) (cG (yw 3 (ahe (mNm 2) (PE.bC (EL (nD 1) (PE.bC cI)))) kh.nd)))
  (br (AW gO rfl (iL (EL (nD 1) (PE.bC cI))) (zG 4 kh.nd) (cG (ag0 3 (zD t.uY vq (hr.mono (by decide)) (bq (nD 4) dm)))))
  (cG (Jq 3)))))
 exact h
def MF(uc:p9 P w K mg base 1 t.wN t.wO ["word"] qE)(AF:p9 P w K mg base 2 t.Ai t.Aj ["n","word"] tK)(ja:Ok P w K mg base 3 t.ki t.kj ["row"] fY):Ok P w K mg base 4 t.xY t.xZ ["n","piece"] tN:=by
 have h:=okD (P:=P) (w:=w) (base:=base) (k:=3) Kl t.Bp λcdv A outer s H E hr=>
  (br (yv (cY oQ kT (PE.bC (IS (nL 1) (PE.bC cI))) (PE.bC cI) (bJ _)) (cG (iC (SR (bq cI (bq (PE.fH (zD t.Ak AF (hr.mono (by decide)) (bq (nD 0) (bq (nD 1) dm)))) dm))))) lL)
  (cG (iC (Wd t.om ja (hr.mono (by decide)) (bq (PE.fH (zD t.Ak AF (hr.mono (by decide)) (bq (nD 0) (bq (PE.fH (zD t.Af uc (hr.mono (by decide)) (bq (nD 1) dm))) dm)))) dm)))))
 exact h
def IP(nN:Ok P w K mg base 1 t.qP t.qQ ["_law_cell","_law_k","_law_factor"] kY)(vv:p9 P w K mg base 3 t.qj t.qk ["_law_cells","_law_n","_law_most"] mz):Ok P w K mg base 4 t.rP t.rQ ["_law_cells","_law_n","_law_most"] iD:=by
 have h:=okD (P:=P) (w:=w) (base:=base) (k:=3) og t.wU λcdv A outer s H E hr=>
  (br (jy 3 (PE.fH (zD t.vc vv (hr.mono (by decide)) (bq (PE.fH (uA (nL 0) oNo (E6 (PE.bC cI)))) (bq (nD 1) (bq cI dm))))) og.nd)
  (br (yv (cY afX acR (PE.bC (ng gD jm t.pV jb (aV (nB 3) cP))) (nB 2) (bJ _)) (cG (iC (nD 3))) lL)
  (br (jy 4 (ag2 rfl t.UO (PE.zr (vY (QQ (N:=["_law_k","_law_cell"]) (nt:=2) (caps:=[]) (az uU) ["_law_cells","_law_n","_law_most","_law_word","_law_total","_law_at"] (by decide +kernel)) rfl (DC (iE t.rW (nD 0))) (Kp.ok (akz 2 (Oc (A6 (nt:=2) 0) (Oc (A6 (nt:=2) 1) adt)))) (λ_ _ _ _ _=>(gT2 2 rfl (rJ (zG 0 (by show g6 (["_law_k","_law_cell"]:List Str);decide +kernel)) (rJ (zG 1 (by show g6 (["_law_k","_law_cell"]:List Str);decide +kernel)) Hw)))) (λ_ _ _ _ _=>ts0) (λ_ _ _ _ _=>(S9 Tp t.uZ nN (hr.mono (by decide)) (aV (nB 1) (aV (nB 0) (aV (PE.bC cI) cP)))))))) og.nd)
  (br (jy 5 (ee qz mh (nB 4) (PE.bC (ee nv hU (PE.bC (ee eJ dW (PE.bC (ng gD jm t.pV jb (aV (nB 3) cP))) (nB 2))) (PE.bC cI)))) og.nd)
  (cG (iC (PE.fH (uA (nL 3) (E6 (nB 5)) (E6 (PE.bC (ee nv hU (nB 5) (nB 2))))))))))))
 exact h
def BF(BG:p9 P w K mg base 1 t.xR t.xS ["word"] tE)(V3:OkT P w K mg base 2 t.Pd t.Pe ["n","word"] JV)(BH:Ok P w K mg base 4 t.xY t.xZ ["n","piece"] tN):Ok P w K mg base 5 t.kM t.kN ["n","word"] fG:=by
 have h:=okD (P:=P) (w:=w) (base:=base) (k:=4) Ae t.pL λcdv A outer s H E hr=>
  (cG (iC (PE.fH (vY (QQ (N:=["piece","n"]) (nt:=1) (caps:=[0]) (az nH) ["n","word"] (by decide +kernel)) rfl (iLS (PE.akO (fT1 t.UM V3 (hr.mono (by decide)) (aV (nB 0) (aV (PE.bC (PE.fH (zD t.Bm BG (hr.mono (by decide)) (bq (nD 1) dm)))) cP))))) (Kp.ok (A6 (nt:=1) 0)) (λ_ _ _ _ _=>(zG 0 (by show g6 (["piece","n"]:List Str);decide +kernel))) (λ_ _ _ _ _=>ts0) (λ_ _ _ _ _=>(Wd t.Bp BH (hr.mono (by decide)) (bq (nD 1) (bq (nD 0) dm))))))))
 exact h
def aao(gz:Fd P w K mg base 9 t.iY t.i6 ["n","steps"] cX)(pQ:Ok P w K mg base 5 t.kM t.kN ["n","word"] fG):Fd P w K mg base 10 t.Eh t.Ei ["n","word"] dS:=by
 have h:=ahi (P:=P) (w:=w) (base:=base) (k:=9) UL t.yR λcdv A outer s H E hr=>
  (cG (TV (JK t.kL gz (hr.mono (by decide)) (aV (nB 0) (aV (PE.bC (Wd t.pL pQ (hr.mono (by decide)) (bq (nD 0) (bq (nD 1) dm)))) cP)))))
 exact h
def EJ(gj:p9 P w K mg base 1 t.lu t.lB ["n"] fE)(ja:Ok P w K mg base 3 t.ki t.kj ["row"] fY)(gz:Fd P w K mg base 9 t.iY t.i6 ["n","steps"] cX):Fd P w K mg base 10 t.oA t.oB ["n","one"] jD:=by
 have h:=ahi (P:=P) (w:=w) (base:=base) (k:=9) vE t.sL λcdv A outer s H E hr=>
  (br (agS 2 (agG 2 (QQ (N:=["row"]) (nt:=1) (caps:=[]) (az qK) ["n","one","steps"] (by decide +kernel)) rfl (DC (iV t.lC (EL (nD 1) (PE.bC cI)))) (Kp.ok (A6 (nt:=1) 0)) (λ_ _ _ _ _=>(zG 0 (by show g6 (["row"]:List Str);decide +kernel))) (λ_ _ _ _ _=>ts0) (λ_ _ _ _ _=>(Wd t.om ja (hr.mono (by decide)) (bq (nD 0) dm))) vE.nd))
  (cG (TV (JK t.kL gz (hr.mono (by decide)) (aV (nB 0) (aV (PE.bC (PE.fH (Jp (nL 2) (PE.zr (se (bq (SR (bq (NN kR jl (PE.bC (EL (nD 1) (PE.bC cI)))) (bq (PE.fH (zD t.iR gj (hr.mono (by decide)) (bq (nD 0) dm))) dm))) dm)))))) cP))))))
 exact h
def RB(gQ:p9 P w K mg base 4 t.o7 t.o8 ["n","form"] cF)(vx:Fd P w K mg base 10 t.Eh t.Ei ["n","word"] dS)(sP:Fd P w K mg base 10 t.oA t.oB ["n","one"] jD):OkP P w K mg base 11 t.Al t.Am ["n","word"] kg:=by
 have h:=okP (P:=P) (w:=w) (base:=base) (k:=10) qL t.An λcdv A outer s H E hr=>
  (br (jy 2 (PE.F0 (JK t.yR vx (hr.mono (by decide)) (aV (nB 0) (aV (nB 1) cP)))) qL.nd)
  (br (jy 3 (EL (nD 2) (PE.bC cI)) qL.nd)
  (br (jy 4 (EL (nD 2) (PE.bC cI)) qL.nd)
  (br (yv (cY afY acS (nB 3) (PE.bC cI) (bJ _)) (cG (TU (se dm) (zD t.jG gQ (hr.mono (by decide)) (bq (nD 0) (bq (nD 2) dm))))) lL)
  (br (jy 5 (SR (bq (nD 3) (bq (PE.fH (uA (nL 4) oNo (E6 (PE.bC (NN kR jl (nB 3)))))) dm))) qL.nd)
  (cG (TU (zD t.jG gQ (hr.mono (by decide)) (bq (nD 0) (bq (PE.F0 (JK t.sL sP (hr.mono (by decide)) (aV (nB 0) (aV (nB 5) cP)))) dm))) (zD t.jG gQ (hr.mono (by decide)) (bq (nD 0) (bq (SR (bq cI (bq (PE.fH (uA (nL 4) (E6 (PE.bC (NN kR jl (nB 3)))) oNo)) dm))) dm))))))))))
 exact h
def ae4(gQ:p9 P w K mg base 4 t.o7 t.o8 ["n","form"] cF)(vx:Fd P w K mg base 10 t.Eh t.Ei ["n","word"] dS)(AG:OkP P w K mg base 11 t.Al t.Am ["n","word"] kg)(q8:Ok P w K mg base 1 t.mO t.mQ ["_law_script","_law_k"] ie)(q9:Ok P w K mg base 1 t.mR t.mU ["_law_seed","_law_least","_law_most"] jB)(oN:Ok P w K mg base 1 t.oE t.oF ["_law_found","_law_due"] i9)(w9:Ok P w K mg base 4 t.rP t.rQ ["_law_cells","_law_n","_law_most"] iD)(xf:p9 P w K mg base 1 t.rR t.rS ["_law_word"] oZ)(qt:Ok P w K mg base 1 t.ql t.qm ["_law_n","_law_word"] jT)(m7:Ok P w K mg base 1 t.mV t.mW ["_law_found","_law_n"] dF)(qu:Ok P w K mg base 1 t.qp t.qq ["_law_word","_law_n"] jU)(oO:Ok P w K mg base 1 t.oH t.oJ ["_law_told","_law_n"] cO):Ok P w K mg base 12 t.UN t.Pf ["_law_script"] D8:=by
 have h:=X8 (P:=P) (w:=w) (base:=base) (k:=11) mK t.abz λcdv A outer s H E hr=>
  (br (jy 1 (S9 Tp t.qT q9 (hr.mono (by decide)) (aV (PE.bC (ee qz mh (PE.bC (S9 Tp t.qR q8 (hr.mono (by decide)) (aV (nB 0) (aV (PE.bC cI) cP)))) (PE.bC (ee acw XF (PE.bC cI) (PE.bC cI))))) (aV (PE.bC cI) (aV (PE.bC cI) cP)))) mK.nd)
  (br (jy 2 (Wd t.wU w9 (hr.mono (by decide)) (bq (nD 0) (bq (nD 1) (bq (vIf (cY oQ kT (nB 1) (PE.bC cI) (bJ _)) cI cI) dm)))) mK.nd)
  (br (jy 3 (PE.fH (NQ t.jH (nL 2))) mK.nd)
  (br (abn 4 (fP1 t.An AG (hr.mono (by decide)) (aV (nB 1) (aV (nB 3) cP))) mK.nd)
  (br (yv (p8 (pR (sX (PE.bC (zB Ju DH t.cT t.Dc (nB 4))))) (p8 (cY (kW (cV.u6 hr)) iP (PE.bC (ng gD jm t.pV jb (aV (nB 4) cP))) (PE.bC cI) (bJ _)) (yg (cY (kW (cV.u6 hr)) iP (nB 3) (nB 2) (bJ _))))).pt (cG (iC FO)) lL)
  (br (akT 5 6 4 rfl mK.nd)
  (br (yv (p8 (pR (sX (PE.bC (S9 Tp t.qr qu (hr.mono (by decide)) (aV (nB 5) (aV (nB 1) cP)))))) (yg (pR (sX (PE.bC (S9 Tp t.qr qu (hr.mono (by decide)) (aV (nB 6) (aV (nB 1) cP)))))))).pt (cG (iC FO)) lL)
  (br (jy 7 (PE.fH (Jp (PE.zr (adj scl t.wV xf (hr.mono (by decide)) (aV (nB 5) cP))) (nL 6))) mK.nd)
  (br (yv (p8 (cY (kW (cV.u6 hr)) iP (PE.bC (Wd t.qo qt (hr.mono (by decide)) (bq (nD 1) (bq (nD 7) dm)))) (PE.bC (Wd t.qo qt (hr.mono (by decide)) (bq (nD 1) (bq (nD 2) dm)))) (bJ _)) (yg (cY (kW (cV.u6 hr)) iP (PE.bC (PE.F0 (JK t.yR vx (hr.mono (by decide)) (aV (nB 1) (aV (nB 7) cP))))) (PE.bC (PE.F0 (JK t.yR vx (hr.mono (by decide)) (aV (nB 1) (aV (nB 2) cP))))) (bJ _)))).pt (cG (iC FO)) lL)
  (br (akE 8 9 rfl mK.nd (bq (PE.F0 (JK t.yR vx (hr.mono (by decide)) (aV (nB 1) (aV (nB 5) cP)))) (bq (PE.F0 (JK t.yR vx (hr.mono (by decide)) (aV (nB 1) (aV (nB 6) cP)))) dm)))
  (br (yv (p8 (pR (sX (PE.bC (S9 Tp t.mX m7 (hr.mono (by decide)) (aV (nB 8) (aV (nB 1) cP)))))) (yg (pR (sX (PE.bC (S9 Tp t.mX m7 (hr.mono (by decide)) (aV (nB 9) (aV (nB 1) cP)))))))).pt (cG (iC FO)) lL)
  (br (jy 10 (Wd t.oK oO (hr.mono (by decide)) (bq (nD 8) (bq (nD 1) dm))) mK.nd)
  (br (yv (cY (kW (cV.u6 hr)) iP (PE.bC (PE.fH (vY (QQ (N:=["_law_k","_law_begins_here"]) (nt:=1) (caps:=[10]) (az L9) ["_law_script","_law_n","_law_word","_law_handed","_law_found","_law_x","_law_y","_law_whole","_law_one","_law_other","_law_begins_here","_law_above_here","_law_again"] (by decide +kernel)) rfl (DC (iL (Wd t.oK oO (hr.mono (by decide)) (bq (nD 9) (bq (nD 1) dm))))) (Kp.ok (A6 (nt:=1) 0)) (λ_ _ _ _ _=>(zG 0 (by show g6 (["_law_k","_law_begins_here"]:List Str);decide +kernel))) (λ_ _ _ _ _=>(ts1 (cY QC YR (nB 0) (nB 1) rfl))) (λ_ _ _ _ _=>(nD 0))))) (PE.bC (PE.fH (se dm))) (bJ _)) (cG (iC FO)) lL)
  (br (yv (p8 (pR (sX (PE.bC (S9 Tp t.oG oN (hr.mono (by decide)) (aV (PE.bC (PE.fH (zD t.jG gQ (hr.mono (by decide)) (bq (nD 1) (bq (nD 8) dm))))) (aV (nB 5) cP)))))) (yg (pR (sX (PE.bC (S9 Tp t.oG oN (hr.mono (by decide)) (aV (PE.bC (PE.fH (zD t.jG gQ (hr.mono (by decide)) (bq (nD 1) (bq (nD 9) dm))))) (aV (nB 6) cP)))))))).pt (cG (iC FO)) lL)
  (br (jy 11 (PE.fH (NQ t.jH (nL 6))) mK.nd)
  (br (abn 12 (fP1 t.An AG (hr.mono (by decide)) (aV (nB 1) (aV (nB 11) cP))) mK.nd)
  (br (yv (p8 (cY (kW (cV.u6 hr)) iP (bIx (nB 12) (PE.bC cI)) (PE.bC (PE.fH (se dm))) (bJ _)) (yg (cY (kW (cV.u6 hr)) iP (bIx (nB 12) (PE.bC cI)) (nB 6) (bJ _)))).pt (cG (iC FO)) lL)
  (br (abo 12 (PE.bC cI) (nB 1))
  (br (abo 12 (PE.bC cI) (nB 1))
  (br (Oe 5 (nD 1))
  (br (Oe 6 (nD 1))
  (cG (iC (aj0 (PE.bC (XE (pC (cV.u6 hr)) kC (nB 3) (nB 2) (bJ _))) (ajZ (XE (pC (cV.u6 hr)) kC (PE.bC (PE.fH (Jp (nL 11) (PE.zr (se (bq (nD 1) dm)))))) (nB 6) (bJ _)))))))))))))))))))))))))))
 exact h
end
@[irreducible] noncomputable def Kw (w:aF):ak:=H.K w.params
def ab2(w:aF):Kw w=H.K w.params:=by kernel_rfl
def vz{K:ak}{h:aD}{mg:Str->Option ah}{x:String}{st:aC}{ps:List Str}{f c:ae}{m:ah}(X:K.In h)(G:h.Ns eg mg)
  (e:(ux K eg (dB x),K.lookup f,zc K (.ref c) (dB x),ko K (.ref f))=(aa (aa (.ref f)),aa (DL.H.hf (dB x) (dB x) st m c),true,true))
  (hb:∀(kV doc pm:ah)(an:Option ae)(cdv ct:ah)(us:List ah),us.length=ps.length->p4 (gE (dB x) (dB x) (jj st) (dQ st) (az st) .none kV doc pm an cdv ct) ⟨us,[]⟩=bc (ps.zip us)):
  Df K mg (dB x) st ps f (gE (dB x) (dB x) (jj st) (dQ st) (az st) .none .none .none m none (.ref c) .none):=dfm X G (congrArg (·.1) e) (congrArg (·.2.1) e) (congrArg (·.2.2.1) e) (congrArg (·.2.2.2) e) hb
def Lb{x q:Str}{a:CC}{b:List aC}{s:dw}{p0:Str}(h:∀(kV doc pm:ah)(an:Option ae)(cdv ct v0:ah),p4 (gE x q a b s .none kV doc pm an cdv ct) ⟨[v0],[]⟩=bc [(p0,v0)])(kV doc pm:ah)(an:Option ae)(cdv ct:ah)(us:List ah)(hl:us.length=[p0].length):p4 (gE x q a b s .none kV doc pm an cdv ct) ⟨us,[]⟩=bc ([p0].zip us):=match us,hl with|[v0],_=>h _ _ _ _ _ _ _
def EK{x q:Str}{a:CC}{b:List aC}{s:dw}{p0 p1:Str}(h:∀(kV doc pm:ah)(an:Option ae)(cdv ct v0 v1:ah),p4 (gE x q a b s .none kV doc pm an cdv ct) ⟨[v0,v1],[]⟩=bc [(p0,v0),(p1,v1)])(kV doc pm:ah)(an:Option ae)(cdv ct:ah)(us:List ah)(hl:us.length=[p0,p1].length):p4 (gE x q a b s .none kV doc pm an cdv ct) ⟨us,[]⟩=bc ([p0,p1].zip us):=match us,hl with|[v0,v1],_=>h _ _ _ _ _ _ _ _
def bd3{x q:Str}{a:CC}{b:List aC}{s:dw}{p0 p1 p2:Str}(h:∀(kV doc pm:ah)(an:Option ae)(cdv ct v0 v1 v2:ah),p4 (gE x q a b s .none kV doc pm an cdv ct) ⟨[v0,v1,v2],[]⟩=bc [(p0,v0),(p1,v1),(p2,v2)])(kV doc pm:ah)(an:Option ae)(cdv ct:ah)(us:List ah)(hl:us.length=[p0,p1,p2].length):p4 (gE x q a b s .none kV doc pm an cdv ct) ⟨us,[]⟩=bc ([p0,p1,p2].zip us):=match us,hl with|[v0,v1,v2],_=>h _ _ _ _ _ _ _ _ _
def mth(K:ak){C:ae}{x q:String}{st:aC}{f c:ae}{m:ah}
  (e:(eQ K (.ref C) (dB x),G2 K (.ref f),K.lookup f,zc K (.ref c) (dB q),ko K (.ref f))=(aa (aa (.ref f)),true,aa (DL.H.hf (dB x) (dB q) st m c),true,true)):
  Jf K (dB x) (dB q) st f (gE (dB x) (dB q) (jj st) (dQ st) (az st) .none .none .none m none (.ref c) .none)/\Meth K C (dB x) f:=
 ⟨Lx (congrArg (·.2.2.1) e) (congrArg (·.2.2.2.1) e) (congrArg (·.2.2.2.2) e),congrArg (·.1) e,congrArg (·.2.1) e,congrArg (·.2.2.2.2) e⟩
def all_mk{l:ND}{w:aF}{h:aD}{mg:Str->Option ah}{fa:ae}(X:(Kw w).In h)(G:h.Ns eg mg)(hfa:mg "law"=aa (.ref fa)):
  ∃fd:aL,(∀(s:aj)(v:ah),xu s fd ⟨[v],[]⟩ [("_law_script",v)])/\∀base:aD,(Kw w).In base->base.Ns eg mg->fM l.prog w (Kw w) mg base qv 12 fa fd ["_law_script"] (NR (Kw w) RO D8):=by
 have e:=hfa.symm.trans (HF X G (show ux (Kw w) eg "law"=aa (aa (.ref 356))by kernel_rfl));cases e;have yC:ux (Kw w) eg "Comb"=aa (aa (.ref 193)):=by kernel_rfl
 have ypg:Cy (Kw w) 193 M7=true:=by kernel_rfl
 have yhd:G1 (Kw w) 193=true:=by kernel_rfl
 have ypo:M4 (Kw w) 193=true:=by kernel_rfl
 have ysa:eQ (Kw w) (.ref 193) "__setattr__"=aa (aa (.builtin "object.__setattr__")):=by kernel_rfl
 have ymk:M6 (Kw w) 193=true:=by kernel_rfl
 have ykc:ko (Kw w) (.ref 193)=true:=by kernel_rfl
 have yn0:eQ (Kw w) (.ref 193) "known"=aa none:=by kernel_rfl
 have yn1:eQ (Kw w) (.ref 193) "numbers"=aa none:=by kernel_rfl
 have yn2:eQ (Kw w) (.ref 193) "firsts"=aa none:=by kernel_rfl
 have yn3:eQ (Kw w) (.ref 193) "lasts"=aa none:=by kernel_rfl
 have yn4:eQ (Kw w) (.ref 193) "shorter"=aa none:=by kernel_rfl
 have yn5:eQ (Kw w) (.ref 193) "longer"=aa none:=by kernel_rfl
 have yn6:eQ (Kw w) (.ref 193) "kept"=aa none:=by kernel_rfl
 have yn7:eQ (Kw w) (.ref 193) "line"=aa none:=by kernel_rfl
 have yn8:eQ (Kw w) (.ref 193) "none"=aa none:=by kernel_rfl
 have yn9:eQ (Kw w) (.ref 193) "whole"=aa none:=by kernel_rfl
 let t:Tb (Kw w) mg:={wN:=44,wO:=_,Af:=vz X G (c:=43) (m:=H.w1) (by kernel_rfl) (Lb λ_ _ _ _ _ _ _=>rfl),xR:=51,xS:=_,Bm:=vz X G (c:=50) (m:=H.w1) (by kernel_rfl) (Lb λ_ _ _ _ _ _ _=>rfl),lu:=58,lB:=_,iR:=vz X G (c:=57) (m:=H.w2) (by kernel_rfl) (Lb λ_ _ _ _ _ _ _=>rfl),Ef:=65,Eg:=_,Bo:=vz X G (c:=64) (m:=H.w2) (by kernel_rfl) (Lb λ_ _ _ _ _ _ _=>rfl),lH:=72,lI:=_,lJ:=vz X G (c:=71) (m:=H.w2) (by kernel_rfl) (Lb λ_ _ _ _ _ _ _=>rfl),Ag:=77,Ah:=_,xU:=vz X G (c:=76) (m:=H.w2) (by kernel_rfl) (Lb λ_ _ _ _ _ _ _=>rfl),wQ:=84,wR:=_,qO:=vz X G (c:=83) (m:=H.w2) (by kernel_rfl) (Lb λ_ _ _ _ _ _ _=>rfl),dq:=91,du:=_,cS:=vz X G (c:=90) (m:=H.w2) (by kernel_rfl) (EK λ_ _ _ _ _ _ _ _=>rfl),eB:=98,eI:=_,dE:=vz X G (c:=97) (m:=H.w2) (by kernel_rfl) (EK λ_ _ _ _ _ _ _ _=>rfl),uW:=105,uX:=_,uY:=vz X G (c:=104) (m:=H.w2) (by kernel_rfl) (Lb λ_ _ _ _ _ _ _=>rfl),Ai:=112,Aj:=_,Ak:=vz X G (c:=111) (m:=H.w2) (by kernel_rfl) (EK λ_ _ _ _ _ _ _ _=>rfl),C8:=117,C9:=_,Ib:=vz X G (c:=116) (m:=H.w2) (by kernel_rfl) (Lb λ_ _ _ _ _ _ _=>rfl),oh:=122,oi:=_,sI:=vz X G (c:=121) (m:=H.w2) (by kernel_rfl) (Lb λ_ _ _ _ _ _ _=>rfl),xV:=129,xW:=_,lK:=vz X G (c:=128) (m:=H.w3) (by kernel_rfl) (Lb λ_ _ _ _ _ _ _=>rfl),o7:=204,o8:=_,jG:=vz X G (c:=203) (m:=H.w4) (by kernel_rfl) (EK λ_ _ _ _ _ _ _ _=>rfl),Pd:=211,Pe:=_,UM:=vz X G (c:=210) (m:=H.w4) (by kernel_rfl) (EK λ_ _ _ _ _ _ _ _=>rfl),ki:=218,kj:=_,om:=vz X G (c:=217) (m:=H.w4) (by kernel_rfl) (Lb λ_ _ _ _ _ _ _=>rfl),xY:=225,xZ:=_,Bp:=vz X G (c:=224) (m:=H.w4) (by kernel_rfl) (EK λ_ _ _ _ _ _ _ _=>rfl),ou:=232,oy:=_,sJ:=vz X G (c:=231) (m:=H.w4) (by kernel_rfl) (EK λ_ _ _ _ _ _ _ _=>rfl),gK:=239,gM:=_,eZ:=vz X G (c:=238) (m:=H.w4) (by kernel_rfl) (Lb λ_ _ _ _ _ _ _=>rfl),iY:=244,i6:=_,kL:=vz X G (c:=243) (m:=H.w4) (by kernel_rfl) (EK λ_ _ _ _ _ _ _ _=>rfl),kM:=249,kN:=_,pL:=vz X G (c:=248) (m:=H.w4) (by kernel_rfl) (EK λ_ _ _ _ _ _ _ _=>rfl),Eh:=256,Ei:=_,yR:=vz X G (c:=255) (m:=H.w4) (by kernel_rfl) (EK λ_ _ _ _ _ _ _ _=>rfl),oA:=261,oB:=_,sL:=vz X G (c:=260) (m:=H.w4) (by kernel_rfl) (EK λ_ _ _ _ _ _ _ _=>rfl),Al:=268,Am:=_,An:=vz X G (c:=267) (m:=H.w5) (by kernel_rfl) (EK λ_ _ _ _ _ _ _ _=>rfl),qP:=275,qQ:=_,uZ:=vz X G (c:=274) (m:=H.w6) (by kernel_rfl) (bd3 λ_ _ _ _ _ _ _ _ _=>rfl),mO:=282,mQ:=_,qR:=vz X G (c:=281) (m:=H.w6) (by kernel_rfl) (EK λ_ _ _ _ _ _ _ _=>rfl),mR:=289,mU:=_,qT:=vz X G (c:=288) (m:=H.w6) (by kernel_rfl) (bd3 λ_ _ _ _ _ _ _ _ _=>rfl),oE:=296,oF:=_,oG:=vz X G (c:=295) (m:=H.w6) (by kernel_rfl) (EK λ_ _ _ _ _ _ _ _=>rfl),kO:=303,kP:=_,pM:=vz X G (c:=302) (m:=H.w6) (by kernel_rfl) (EK λ_ _ _ _ _ _ _ _=>rfl),qh:=310,qi:=_,u9:=vz X G (c:=309) (m:=H.w6) (by kernel_rfl) (EK λ_ _ _ _ _ _ _ _=>rfl),qj:=317,qk:=_,vc:=vz X G (c:=316) (m:=H.w6) (by kernel_rfl) (bd3 λ_ _ _ _ _ _ _ _ _=>rfl),rP:=322,rQ:=_,wU:=vz X G (c:=321) (m:=H.w6) (by kernel_rfl) (bd3 λ_ _ _ _ _ _ _ _ _=>rfl),rR:=327,rS:=_,wV:=vz X G (c:=326) (m:=H.w6) (by kernel_rfl) (Lb λ_ _ _ _ _ _ _=>rfl),ql:=334,qm:=_,qo:=vz X G (c:=333) (m:=H.w6) (by kernel_rfl) (EK λ_ _ _ _ _ _ _ _=>rfl),mV:=339,mW:=_,mX:=vz X G (c:=338) (m:=H.w6) (by kernel_rfl) (EK λ_ _ _ _ _ _ _ _=>rfl),qp:=346,qq:=_,qr:=vz X G (c:=345) (m:=H.w6) (by kernel_rfl) (EK λ_ _ _ _ _ _ _ _=>rfl),oH:=351,oJ:=_,oK:=vz X G (c:=350) (m:=H.w6) (by kernel_rfl) (EK λ_ _ _ _ _ _ _ _=>rfl),UN:=356,Pf:=_,abz:=vz X G (c:=355) (m:=H.w6) (by kernel_rfl) (Lb λ_ _ _ _ _ _ _=>rfl),Pg:=j0 X G (by kernel_rfl),Ej:=j0 X G (by kernel_rfl),rW:=j0 X G (by kernel_rfl),Km:=j0 X G (by kernel_rfl),cT:=j0 X G (by kernel_rfl),pV:=j0 X G (by kernel_rfl),jH:=j0 X G (by kernel_rfl),abA:=j0 X G (by kernel_rfl),mY:=j0 X G (by kernel_rfl),lC:=j0 X G (by kernel_rfl),Kn:=j0 X G (by kernel_rfl),UO:=j0 X G (by kernel_rfl),Dc:=j0 X G (by kernel_rfl),abB:=j0 X G (by kernel_rfl),Ao:=329,Aq:=HF X G (by kernel_rfl)}
 refine⟨_,λs v=>(?_:xu s t.Pf ⟨[v],[]⟩ [("_law_script",v)]),λbase _ _=>?_⟩
 ·exact .of_eq rfl
 have uc:= @Ry l.prog w (Kw w) mg base t;have BG:= @MD l.prog w (Kw w) mg base t;have gj:= @K5 l.prog w (Kw w) mg base t;have IM:= @aan l.prog w (Kw w) mg base t;have f9:= @II l.prog w (Kw w) mg base t;have x5:= @V1 l.prog w (Kw w) mg base t;have cU:= @t9 l.prog w (Kw w) mg base t;have sN:= @EE l.prog w (Kw w) mg base t;have RD:= @ME l.prog w (Kw w) mg base t;have nN:= @K6 l.prog w (Kw w) mg base t;have q8:= @Cm l.prog w (Kw w) mg base t;have q9:= @Cn l.prog w (Kw w) mg base t;have oN:= @EF l.prog w (Kw w) mg base t;have pP:= @BE l.prog w (Kw w) mg base t;have xf:= @IJ l.prog w (Kw w) mg base t;have qt:= @Fo l.prog w (Kw w) mg base t;have m7:= @Co l.prog w (Kw w) mg base t;have qu:= @Fp l.prog w (Kw w) mg base t;have oO:= @EG l.prog w (Kw w) mg base t;have qU:= @Rz l.prog w (Kw w) mg base t f9 x5;have gw:= @vo l.prog w (Kw w) mg base t f9 cU;have AF:= @RA l.prog w (Kw w) mg base t gj cU;have IK:= @V2 l.prog w (Kw w) mg base t f9;have V3:= @ae3 l.prog w (Kw w) mg base t gj;have sO:= @EH l.prog w (Kw w) mg base t sN;have vp:= @Fq l.prog w (Kw w) mg base t pP;have vq:= @K7 l.prog w (Kw w) mg base t qU gw;have ja:= @EI l.prog w (Kw w) mg base t IK;have xg:= @vM l.prog w (Kw w) mg base t sO;have vv:= @Ft l.prog w (Kw w) mg base t nN vp;have gQ:= @IL l.prog w (Kw w) mg base t uc IM vq;have BH:= @MF l.prog w (Kw w) mg base t uc AF ja;have w9:= @IP l.prog w (Kw w) mg base t nN vv;have pQ:= @BF l.prog w (Kw w) mg base t BG V3 BH;have TC:Wf (Kw w) mg 193:=⟨⟨ypg,yhd,ypo,ysa⟩,yn0,yn1,yn2,yn3,yn4,yn5,yn6,yn7,yn8,yn9,HF X G yC,t.Dc,t.jH,t.pV⟩
 have⟨YF0,aiq⟩:=mth (Kw w) (C:=193) (x:="__init__") (q:="Comb.__init__") (st:=Md) (f:=143) (c:=142) (m:=H.w3) (by kernel_rfl);have YB0:=YF0.binds (ps:=["self","n"]) (EK λ_ _ _ _ _ _ _ _=>rfl);have⟨YF1,anZ⟩:=mth (Kw w) (C:=193) (x:="number_of") (q:="Comb.number_of") (st:=UQ) (f:=150) (c:=149) (m:=H.w3) (by kernel_rfl);have YB1:=YF1.binds (ps:=["self","row"]) (EK λ_ _ _ _ _ _ _ _=>rfl);have YM1:=anZ;have⟨YF2,an0⟩:=mth (Kw w) (C:=193) (x:="without_first") (q:="Comb.without_first") (st:=UU) (f:=157) (c:=156) (m:=H.w3) (by kernel_rfl);have YB2:=YF2.binds (ps:=["self","number","k"]) (bd3 λ_ _ _ _ _ _ _ _ _=>rfl);have YM2:=an0;have⟨YF3,an1⟩:=mth (Kw w) (C:=193) (x:="with_last") (q:="Comb.with_last") (st:=UY) (f:=164) (c:=163) (m:=H.w3) (by kernel_rfl);have YB3:=YF3.binds (ps:=["self","number","k"]) (bd3 λ_ _ _ _ _ _ _ _ _=>rfl);have YM3:=an1;have⟨YF4,an2⟩:=mth (Kw w) (C:=193) (x:="slide") (q:="Comb.slide") (st:=U0) (f:=171) (c:=170) (m:=H.w3) (by kernel_rfl);have YB4:=YF4.binds (ps:=["self","one","other"]) (bd3 λ_ _ _ _ _ _ _ _ _=>rfl);have YM4:=an2;have⟨YF5,an3⟩:=mth (Kw w) (C:=193) (x:="slide_kept") (q:="Comb.slide_kept") (st:=U3) (f:=178) (c:=177) (m:=H.w3) (by kernel_rfl);have YB5:=YF5.binds (ps:=["self","one","other"]) (bd3 λ_ _ _ _ _ _ _ _ _=>rfl);have YM5:=an3;have⟨YF6,an4⟩:=mth (Kw w) (C:=193) (x:="put") (q:="Comb.put") (st:=U5) (f:=185) (c:=184) (m:=H.w3) (by kernel_rfl);have YB6:=YF6.binds (ps:=["self","row"]) (EK λ_ _ _ _ _ _ _ _=>rfl);have YM6:=an4;have⟨YF7,an5⟩:=mth (Kw w) (C:=193) (x:="form_told") (q:="Comb.form_told") (st:=Pj) (f:=190) (c:=189) (m:=H.w3) (by kernel_rfl);have YB7:=YF7.binds (ps:=["self"]) (Lb λ_ _ _ _ _ _ _=>rfl);have YM7:=an5;have YG1:=aet (P:=l.prog) (w:=w) (base:=base) YF1 TC t qU x5 RD ZA;have YG2:=ahD (P:=l.prog) (w:=w) (base:=base) YF2 TC t YM1 YB1 YG1 gw;have YG3:=ahG (P:=l.prog) (w:=w) (base:=base) YF3 TC t YM1 YB1 YG1 cU;have YG4:=ahH (P:=l.prog) (w:=w) (base:=base) YF4 TC YM2 YB2 YG2 YM3 YB3 YG3;have YG5:=ahM (P:=l.prog) (w:=w) (base:=base) YF5 TC t YM4 YB4 YG4;have YG6:=ahQ (P:=l.prog) (w:=w) (base:=base) YF6 TC YM1 YB1 YG1 YM5 YB5 YG5;have YG7:=ahU (P:=l.prog) (w:=w) (base:=base) YF7 TC;have YG0:=ahV (P:=l.prog) (w:=w) (base:=base) YF0 TC t YM1 YB1 YG1 gj IM (λn hn=>o9 n hn) (λn hn=>Pz n hn) ZC qV;have gz:=aeH (P:=l.prog) (w:=w) (base:=base) TC ⟨_,_,_,_,_,_,⟨ymk,aiq.1,aiq.2,ykc⟩,YB0,YG0,YM6,YB6,YG6,YM7,YB7,YG7⟩ t xg;have vx:= @aao l.prog w (Kw w) mg base t gz pQ;have sP:= @EJ l.prog w (Kw w) mg base t gj ja gz;have AG:= @RB l.prog w (Kw w) mg base t gQ vx sP;have air:= @ae4 l.prog w (Kw w) mg base t gQ vx AG q8 q9 oN w9 xf qt m7 qu oO;exact air
def walk{l:ND}{q:aU}{loose:List Str}{XP:(Str->Option ah)->aD->Prop}{YP:aF->aD->Prop}{d:DefRec}{K:mf->ak}(hn:l.most=aa 63)(hdf:d.params.defaults=[])
  (hY:∀(w:aF)(h:aD),YP w h->(K w.params).In h)
  (F:∀(w:aF)(mg:Str->Option ah)(fa:ae)(h:aD),(K w.params).In h->h.Ns eg mg->mg d.name=aa (.ref fa)->
   ∃fd:aL,(∀(s:aj)(u:ah),xu s fd ⟨[u],[]⟩ [("_law_script",u)])/\∀base:aD,(K w.params).In base->base.Ns eg mg->fM l.prog w (K w.params) mg base qv 12 fa fd ["_law_script"] (NR (K w.params) RO D8)):
  Xp q loose XP YP l.row.toRowW d [] (λf vs=>PySem.call f vs):=
 L2.Xo (n:=63) (k:=12) (x:="_law_script") (CX:=λ_=>qv) (sp:=λw=>NR (K w.params) RO D8) hn (by decide) hdf ⟨rfl,by decide,by decide⟩ hY F (λw H a ns hl _ hS=>ae2 ns hl hS) λ_ _ _ _ _ z=>z
end DL.wH
open PySem PySem.W PyProof.Rows
set_option maxRecDepth 100000 in
set_option maxHeartbeats 0 in
theorem PySem.Challenge.cw_braidcomb_k37_two_least_words_holds : PySem.Challenge.rw_braidcomb_k37_two_least_words.Holds := by
 w_on;refine holds_law (l:=PySem.Challenge.rw_braidcomb_k37_two_least_words) (by kernel_rfl) λsaid=>?_;refine holds_open (q:=DL.wH.H.q) (Xt:=DL.wH.H.Xt) (XP:=XL DL.wH.H.q []) (Yf:=DL.wH.H.hk.obs) (Ya:=DL.wH.H.hk.val) (YP:=DL.wH.H.hk.says) DL.wH.H.left DL.wH.H.hk.of DL.wH.H.hk.keeps (λs e=>xl_of s (aap.mp e).1) XL.keeps (by rfl) (by rfl) (by rfl) (λs e=>recFacts_of (aap.mp e).2) (by rfl) said (by decide +kernel) ⟨rfl,rfl,rfl,rfl,rfl,by decide +kernel⟩ ?hw ?hc
 case hw=>w_witness2
 refine DL.wH.walk (l:=PySem.Challenge.rw_braidcomb_k37_two_least_words) rfl rfl (λw h Y=>kIn_of Y) ?F
 case F=>
  intro w mg fa h KX G hmg;have hh:=DL.wH.all_mk (l:=PySem.Challenge.rw_braidcomb_k37_two_least_words) ((DL.wH.ab2 w).symm▸KX) G hmg;rw[DL.wH.ab2 w]at hh;exact hh
