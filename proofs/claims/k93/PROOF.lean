import PyProof.Rows.All
import Wide.All
import OpenK.AllK
import Wide.FinOn
import Lean
import PyProof.EqAt
import PyProof.EqKinds
import PyProof.TupleCall
import PyProof.NeKinds
import PyProof.ListRange
import OpenK.KOwn
import KE.KTryMore
import KE.KSorted
import KE.KSort
import PyProof.Rows.SortWalk
import PyProof.SeqI3
import PyProof.Rows.SumAny
import PyProof.Rows.SeqMore2
import KE.KListMore
import PyProof.Rows.Range3
import PyProof.Cells
import KE.KTabLook
import PyProof.SliceStr2
import PyProof.StrBlockI
import PyProof.Rows.FStr
import PyProof.Rows.StrNews2
import PyProof.ListStr
import PyProof.Rows.StrStep
import PyProof.Rows.StrJoinStr
import PyProof.AutoSeq1
import PyProof.ListRange
import KE.KRevIter
import PyProof.CollectIter
import PyProof.FactsAll.range_iterator_1
import PyProof.Rows.RuleM_int
import PyProof.FactsAll.int_6
import OpenK.AllK
import PySem.Challenge.RW_braidcomb_k93_whole_strings_out
open PySem renaming Value→ah,World→aD,Program→aS,Addr→ae,Heap→aF,sizeLine→aK,sysModules→p4,tupleKind→yz,Within→HK,mainGlobals→ed,builtinsNs→N3,bootBuiltins→fV,Around→bx,Shared→aj,Scope→du,wpAny→aG,storeName→N7,Expr→ao,model→aE,eval→az,backTo→bF,starEach→ar,Stmt→aw,wpAny_mono→mY,wpAny_Name→Au,wpAny_loadName_local→N8,wpAny_loadName_cell→N9,wpAny_loadName_free→X1,CmpOp→vL,compareOp→jf,behindInMarks→tK,wpAny_isTrue_Compare1→X5,wpAny_truthy_bool→DN,standAt→yA,holding→lE,wpAny_execs_nil→HU,wpAny_execs_cons→X8,swapsWith→iH,assign→p6,assignEach→jg,setItem→DP,Operator→Aw,wpAny_bind→bJ,wpAny_holding→DQ,swapsWithSole→Ob,swappedStores→Oc,PassesOwn→HW,wpAny_passesOwn→yB,letOwnedTupleGo→HX,wpAny_pure→ee,foldedSetIterable→DT,binaryOp→p8,unaryOp→HY,rule→vM,sizeLine_eq→Ol,DictEntry→Ia,getMethod→Ie,Result→DV,codeAny→p9,attributeBase→jP,cLine→iK,Code→vN,FuncData→aL,BindsTo→yH,bindArgs→m9,codeAny_mono→Ii,wpAny_Call_Name_kw→vO,backToKw→nc,keywordEach→ng,NameKind→iM,bindL→vP,bindC→vQ,cellsFrom→Il,Arguments→AB,typeLookup→Im,getItem→AE,seqIndex_of→OJ,seqIndex_neg→OO,subscripted→Ip,slot_list_getitem→YD,sliceBounds→yL,typeIs_int→OS,Keyword→gX,call_meets→yM,Params→ni,callerA→yN,valueAt→yO,atKey→tU,tupleKind_room_in1→IB,wpAny_specialOf→O3,call_meetsIn→O4,compEnvC→AU,relabel→D7,wpAny_tests_nil→Y8,wpAny_comprehension_free→Za,wpAny_newObj_type→Zc,wpAny_newFunctionEnv→Zd,codeAny_compStart_list→Zf,wpAny_pyIter_enum→Zi,wpAny_pyNext_rev_item→Zj,wpAny_pyNext_rev_end→Zk,wpAny_pyIter_revIter→IJ,call_reversed_list→Zl,revObj→AW,call_list_range→Zw,typeLookup_type→ZJ,builtinLookup_eq_fast→ZK,wpAny_ite_split→IU,ItemsOf→IV,Builtin→Ed,OsState→g8,treeTable→wQ,importedModules→aar
open PySem.Value renaming isInt→XR,isStrOf→XS,int→DK,str→DM,bool→HJ,bytes→XT,float→NY,ref→dq,type→vI
open Sum renaming inl→iF,inr→vH
open PySem.SeqAt renaming EqAt→Aq,RcAt→yS,RcNeAt→yT
open Option renaming some→aa,some→ck,isSome_iff_exists→OC,getD_none→YG,map_some→AK,isSome_map→YS
open PySem.W renaming instObj→vJ,methodObj→NZ,Frag→ak,lookIn→H0,plainGet→DU,hasDictIn→Ib,findIn→eY,handedIn→Yq,plainGet_of→Om,isFn→Ic,plainOver→Oo,takerIn→Oq,makesIn→Ot,emptyDict→tQ,keepIn→kG,kitOne→Ow,kia_one→lF,kitx_list→Ox,kitx_tuple→Yt,kitx_dict→Yu,callWith_K→Ij,methodCall_KW→Yx,cellsFrom_some→Yz,fnOf→fX,codeIn→AD,OpenLaw→O0,WalkO→YR,nsIn→vY,mg_of→Ef,mg_none_of→lV
open PySem.Heap renaming lt_size→bW,SameBut→HQ,get?_push_of_some→dg,get?_push_size→kE,size_push→Ov,get?_update_self→YF,get?_update_other→OP
open Nat renaming lt_of_lt_of_le→dZ,lt_irrefl→vK,ne_of_lt→eU,le_trans→lD,le_of_lt→HN,ne_of_gt→DR,le_refl→aY,zero_le→iJ,le_of_eq→Az,lt_succ_self→Ig,le_succ→Ik,succ_mul→IA,add_comm→YM,le_of_not_lt→OW,lt_of_le_of_lt→AH,lt_trans→YT,zero_add→lH,sub_zero→Pp,le_total→IP,min_eq_left→AZ,min_eq_right→IQ,sub_self→Ec,add_mul→aam,mul_le_mul→P6,lt_or_ge→Js
open List renaming range→bG,mem_filter→Ar,mem_range→gA,filterMap_cons→N4,mem_cons_self→je,mem_cons_of_mem→bE,mem_cons→aX,mem_append→cu,mem_append_left→mW,getElem?_eq_some_iff→bH,getElem_inj→XY,getElem?_set_self→mX,getElem?_set_ne→bw,mem_filterMap→Yd,mem_append_right→jh,size_toArray→cO,length_cons→aR,lookup→yF,map_cons→bq,length_map→aN,append_nil→bg,nodup_cons→ji,of_mem_zip→OB,replicate→aO,length_take→fA,getElem?_append_right→jR,getElem?_replicate→qe,getElem?_append_left→fE,getElem?_map→bK,mem_of_getElem?→dU,length_append→br,length_replicate→AA,map_nil→dz,length_drop→fG,length_set→qh,reverse_cons→jS,replicate_succ→cA,flatten_cons→dM,foldl→OU,append_assoc→aZ,foldl_cons→D0,length_singleton→tR,length_dropLast→OV,length_reverse→bR,nil_append→dh,Pairwise→OY,find?_cons→AI,any_cons→O1,cons_append→cB,length_nil→cD,nodup_nil→YX,getElem_of_mem→D2,getElem?_eq_getElem→aP,dropLast_eq_take→IF,drop_zero→IG,drop_eq_getElem_cons→rh,drop_length→II,lookup_cons→tW,not_mem_nil→AV,getElem?_reverse→tX,range_succ_eq_map→Ph,range'→Zt,range'_succ→Zu,range_eq_range'→Zv,length_range→Pk,all_eq_true→gZ,map_drop→tZ,map_map→jV,map_append→cF,take_length→A0,take_of_length_le→yX,take_zero→ZA,drop_eq_nil_of_le→Pq,take_nil→ZC,map_set→A5,map_reverse→rz,replicate_zero→eB,set_cons_zero→gD,set_cons_succ→gE,mem_singleton→dN,ext_getElem?→ZO,getElem?_eq_none→A6,getElem_idxOf→Pz,nodup_append→ZX,mem_reverse→yZ,reverse_perm→qj,range_succ→PH,flatten_append→ue,flatten_nil→Bc,mem_flatten→Eh,mem_map→dQ,mem_of_mem_take→wz,take_succ→Ei,map→I8,pairwise_map→I9,pairwise_lt_range→PR,Nodup→rB,Perm→Ja,idxOf_lt_length_of_mem→Z8,length_filter_le→aaa,sum_append→PX,sum_cons→rC,perm_ext_iff_of_nodup→aac,nodup_range→aad,filter_append→aae,filter_cons→aaf,filter_cons_of_pos→aaj,filter_cons_of_neg→aak,map_congr_left→y6,map_dropLast→En,mem_of_getLast?→Bh,getLast?_eq_some_iff→P8,getLast?_eq_getElem?→Qa,getLast?_map→aan,reverse_append→Er,takeWhile_cons_of_neg→Jc,takeWhile_cons_of_pos→Jd,foldl_append→Bj,reverse_reverse→oQ,drop_succ_cons→Qg,dropLast_concat_getLast→Jg,getLast?_eq_some_getLast→Qk,set_append_right→aaw,getElem_mem→Jp,mem_replicate→rK,singleton_append→aaJ,replicate_succ'→Jv,reverse_replicate→aaK,map_replicate→aaO,map_id→JC,append_eq_nil_iff→BJ,append_eq_append_iff→QQ,mem_of_mem_drop→BK,map_singleton→aaY,dropLast_sublist→aa0,take_append_drop→JN
open PyProof.Rows renaming AllBare→qW,Call_→yD,callWith_type1→p7,kindOf→kH,envOfC→gW,IntsAre→yJ,Subscript_→OG,subscriptTail→OH,subscriptTail_builtinR→YC
open PySem.Calls renaming Name_function_global→X2,call_len_list→Yp,spliced_nil→DX,spliced_cons→DY,callWith_builtin→OT,evalArgs_plain→YH
open PySem.CmpOp renaming NotIn→X4
open Array renaming length_toList→X6,toList→X7
open False renaming elim→kC
open Pure renaming pure→bj
open Bool renaming false_ne_true→iI,false_and→tP,eq_iff_iff→yE,or_false→YE,false_or→vW,and_eq_true→di,false_eq_true→fH,or_eq_true→yV,true_eq_false→gC,not_eq_true'→Ri,true_and→xf,not_true→iO,not_false→Rk,and_self→JM,and_eq_true_iff→abo
open PySem.Builtin.Range renaming rangeSize→kF,small→ZT
open PyProof renaming noPylong_small→Yj
open PySem.Builtin renaming bitAnd→Oh,bitNot→Oi,bitOr→IZ
open PySem.Str renaming empty→Ou,ofString→dF
open True renaming intro→qc
open PySem.Around renaming under→Oz
open PySem.Code renaming frames→Yv,isFrame→OA
open Int renaming toNat_natCast→bu,ediv_nonneg→ZR,emod_nonneg→Bb,emod_lt_of_pos→Eg,add_mul→Ej,natCast_zero→QD,le_of_lt→aaE,le_refl→Jt,add_zero→qz,zero_mul→aaR,natCast_add→QS,neg_neg→JF,add_assoc→QV
open PySem.Obj renaming mapSeq→yK
open PySem.Builtin.List renaming listTooLong→Iz,listLengthHint→ZL,listExtendWith→IW,listSameRef→ZM,listItems→ZN
open PySem.F renaming slot_int_rmul→YN,slot_dict_get→O5,entry_dict_get→YY,args_dict_get_2→YZ,plainAttrs_list→nj,slot_list_append→yQ,type_list_append→yR,slot_list_pop→Y6,type_list_pop→Y7,slot_list_index→ZQ,slot_dict_len→Z6
open Classical renaming propDecidable→gB,byContradiction→oO
open ForInStep renaming yield→wg
open PySem.NameKind renaming cell→ZW
open PySem.Builtin.Int renaming intBits→PQ
open Or renaming inl→fM
open PySem.PassesOwn renaming never→gK
open PySem.W (Looks typeIn mroIn kIn_of)
open List (length reverse)
open Nat (reduceAdd reduceSub reduceEqDiff ble)
open Classical (not_not)
set_option compiler.extract_closed false
def uK:Array String:=#["null","Lean.Parser.Tactic.optConfig","Lean.Parser.Tactic.omega omega","Lean.Parser.Tactic.tacticSeq1Indented","Lean.Parser.Tactic.tacticSeq","Lean.Parser.Tactic.decide decide","Lean.Parser.Tactic.intro intro","Lean.Parser.Tactic.tacticRfl","null ;","Lean.Parser.Tactic.exact exact","Lean.Parser.Tactic.posConfigItem +","Lean.Parser.Tactic.configItem","Lean.Parser.Term.letConfig","Lean.Parser.Term.letId","Lean.Parser.Term.proj .","Lean.Parser.Term.typeSpec :","Lean.Parser.Term.letIdDecl","Lean.Parser.Term.letDecl","Lean.Parser.Tactic.tacticHave__","hygieneInfo","term_-_ -","term__[_]","Lean.Parser.Tactic.rwRule","null ,","Lean.Parser.Tactic.rwRuleSeq","Lean.Parser.Tactic.rwSeq","Lean.Parser.Term.byTactic by","Lean.Parser.Term.hygienicLParen (","Lean.Parser.Term.typeAscription","term_+_ +","Lean.Parser.Term.syntheticHole","Lean.Parser.Tactic.refine refine","Lean.Parser.Term.fromTerm from","Lean.Parser.Term.show","term_=_ =","Lean.Parser.Tactic.rcasesPat.tuple","Lean.Parser.Tactic.rcasesPatMed","null :=","Lean.Parser.Tactic.obtain","term_≤_ <=","Lean.Parser.Tactic.show show","term_::_ ::","termIfThenElse","Lean.Parser.Term.nomatch nomatch","Lean.Parser.Tactic.lia lia","term_×_ ×","Lean.Parser.Tactic.elimTarget","Lean.Parser.Tactic.cases","Lean.Parser.Tactic.locationHyp","Lean.Parser.Tactic.location at","Lean.Parser.Tactic.dsimp","Lean.Parser.Term.forall","Lean.Parser.Tactic.subst subst","Lean.Parser.Term.arrow ->","term_++_ ++"]
def uN(s:String):Lean.Name:=(s.splitOn ".").foldl Lean.Name.mkStr .anonymous
def uI(s:String):Lean.Syntax:=.ident .none s.toRawSubstring (if s="" then .anonymous else uN s) []
def uL(q:List Lean.Syntax):Lean.Syntax:=.node .none `null (q.reverse.intersperse (.atom .none ",")).toArray
def uA(k:Char):List String:=let c:=k.toNat;(uK.getD (if c<91 then c-65 else if c<123 then c-71 else c-140) "").splitOn " "
def uS(q:List Lean.Syntax)(s:String):List Lean.Syntax:=match s.toList with
|'@'::r=>let m:=(String.ofList r).toNat!
 .node .none `Lean.Parser.Term.app #[q.getD m .missing,.node .none `null (q.take m).reverse.toArray]::q.drop (m+1)
|'~'::k::r=>let m:=(String.ofList r).toNat!
 .node .none (uN ((uA k).headD "")) (q.take m).reverse.toArray::q.drop m
|['%',k]=>.node .none (uN ((uA k).headD "")) #[q.getD 1 .missing,.atom .none ((uA k).getD 1 ""),q.headD .missing]::q.drop 2
|['&',k]=>.node .none (uN ((uA k).headD "")) #[.atom .none ((uA k).getD 1 ""),q.headD .missing]::q.drop 1
|'#'::r=>.node .none `num #[.atom .none (String.ofList r)]::q
|'\''::r=>.node .none `char #[.atom .none ("'"++String.ofList r++"'")]::q
|'.'::r=>.node .none `Lean.Parser.Term.dotIdent #[.atom .none ".",uI (String.ofList r)]::q
|']'::r=>let m:=(String.ofList r).toNat!
 .node .none (uN "term[_]") #[.atom .none "[",uL (q.take m),.atom .none "]"]::q.drop m
|'>'::r=>let m:=(String.ofList r).toNat!
 .node .none `Lean.Parser.Term.anonymousCtor #[.atom .none "⟨",uL (q.take m),.atom .none "⟩"]::q.drop m
|')'::r=>let m:=(String.ofList r).toNat!
 .node .none `Lean.Parser.Term.tuple #[.node .none `Lean.Parser.Term.hygienicLParen #[.atom .none "(",.node .none `hygieneInfo #[uI ""]],.node .none `null #[q.getD (m-1) .missing,.atom .none ",",uL (q.take (m-1))],.atom .none ")"]::q.drop m
|'!'::r=>let m:=(String.ofList r).toNat!
 .node .none `Lean.Parser.Term.forall #[.atom .none "∀",.node .none `null ((q.drop 1).take m).reverse.toArray,.node .none `null #[],.atom .none ",",q.headD .missing]::q.drop (m+1)
|'$'::r=>let m:=(String.ofList r).toNat!
 .node .none `Lean.Parser.Term.fun #[.atom .none "λ",.node .none `Lean.Parser.Term.basicFun #[.node .none `null ((q.drop 1).take m).reverse.toArray,.node .none `null #[],.atom .none "=>",q.headD .missing]]::q.drop (m+1)
|'|'::r=>.node .none `Lean.Parser.Term.proj #[q.headD .missing,.atom .none ".",.node .none `fieldIdx #[.atom .none (String.ofList r)]]::q.drop 1
|'('::r=>let m:=(String.ofList r).toNat!
 .node .none `Lean.Parser.Term.explicitBinder #[.atom .none "(",.node .none `null ((q.drop 1).take m).reverse.toArray,.node .none `null #[.atom .none ":",q.headD .missing],.node .none `null #[],.atom .none ")"]::q.drop (m+1)
|[':']=>.node .none `Lean.Parser.Term.namedArgument #[.atom .none "(",q.getD 1 .missing,.atom .none ":=",q.headD .missing,.atom .none ")"]::q.drop 2
|'*'::r=>.node .none `Lean.Parser.Tactic.rcasesPatLo #[.node .none `Lean.Parser.Tactic.rcasesPatMed #[.node .none `null #[.node .none `Lean.Parser.Tactic.rcasesPat.one #[uI (String.ofList r)]]],.node .none `null #[]]::q
|'`'::r=>.atom .none (String.ofList r)::q
|['_']=>.node .none `Lean.Parser.Term.hole #[.atom .none "_"]::q
|['^']=>uI ""::q
|_=>uI s::q
def uX(s:List String):Lean.Syntax:=(s.foldl uS []).headD .missing
def xL:Lean.Syntax:=uX ("~A0 ~B1 &C ~A1 ~D1 ~E1".splitOn " ")
def xI:Lean.Syntax:=uX ("~A0 ~B1 &F ~A1 ~D1 ~E1".splitOn " ")
def wT:Lean.Syntax:=uX ("_ ~A1 &G `rfl ~H1 %I ~D1 ~E1".splitOn " ")
def wS:Lean.Syntax:=uX ("`rfl ~H1 ~A1 ~D1 ~E1".splitOn " ")
def wP:Lean.Syntax:=uX ("_ _ rfl $2 &J ~A1 ~D1 ~E1".splitOn " ")
def wE:Lean.Syntax:=uX ("kernel &K ~L1 ~A1 ~B1 &F ~A1 ~D1 ~E1".splitOn " ")
def uT:Array String:=#["a `have ~A0 ~M1 hh ~N1 ~A0 bO n upTo n @1 reverse %O @2 &P ~A1 `:= qj _ @1 trans %O jy n @1 @1 ~Q5 ~R1 ~S3",
"b pins s σ H x y v u Q I rx ry h ~A13 &G",
"c pins s σ H Q I h ~A7 &G",
"d `have ~A0 ~M1 ^ ~T1 ~N1 ~A0 ~A0 `:= qe n N.length ds.length %U : a Sl.no : i i ds.map Sl.val @1 length %O %U : @3 ~Q5 ~R1 ~S3",
"e _ rfl a A.dx _ rfl c1.ob rfl _ rfl a C A.dx _ _ rfl c1.ob T.cl T.kn Hi _ rfl A.kn A.ks.map V.ref @1 i .ref A.ks `[ i `] ~V4 @1 rfl rfl gS.of c1.hkn @1 qg `rw ~A0 ~B1 `[ ~A0 bK ~W2 ~A0 aP UO @1 ~W2 %X `] ~Y3 ~A0 ~Z4 `rfl ~H1 %I ~D1 ~E1 &a @1 _ rfl _ True $1 .lst bp p |1 @1 @1 .int ^ ~T1 &b j `: Int ~A1 `) ~c5 #1 %d @1 ]2 _ _ rfl _ _ rfl .inl trivial .inl hb1 @1 >2 @1 fg _ @1 >5 _ _ rfl rfl rfl >5 >5 `? `_ ~e2 >36 &f",
"f c rfl q1 H' r.ext.trans s1.trans s' @1 @1 @2 >3 &J",
"g _ hb cdv A outer s H E hr @7 Pa H >2 aB N.length ds @2 ]0 Cj i @1 `? `_ ~e2 >5 >3 &f",
"h q1 a ws H' s1.trans s' @1 s1.free hn @1 hH IsL.ext b o pb _ `have ~A0 ~M1 z ~N1 ~A0 g.P os b @2 &P ~A1 `:= pb |1 elim %O z z $1 z r.same s1 @1 fresh %O z @1 $1 @2 ~Q5 ~R1 ~S3 z |1 hm aX.mp hm @1 elim %O pb |2 z |2 @2 $1 >2 &J %I ~D1 ~E1 &a $4 _ _ _ z z $4 >2 _ _ i' @4 @7 &J",
"i σ4 H4 Uw r4 z e4 Uw r4 Oe.trans z @1 Good.mono `show Good E g.H₀ iS _ _ e4 @3 _ @4 q &g ~h3 o _ q jU.step z9.same s2 k9 @2 trans %O z @1 q @2 $3 @2 >5 $5 &J",
"j absurd `show false true %i hs &g ~h3 iI @2 &J",
"k σ4 H4 Uw r4 z e4 Uw r4 Good.mono `show Good E g.H₀ uD _ _ n e4 @4 _ @4 q &g ~h3 o _ q jU.step z9.same s2 k9 @2 trans %O z @1 q @2 $3 @2 >4 $5 &J",
"l pt _ rfl .inl s1.trans sx @1 free %O hpt @1 .inl aU @1 >2 @1 _ _ rfl rfl _ _ rfl Dd _ rfl .inl hD0 .inl st _ _ SG @3 @1 >2 @1 `? `_ ~e2 >5 rfl >13 &f",
"m X hP hw hK hc i pins s σ H E I hf st hg ~A15 &G",
"n pins s σ H D I h ~A7 &G",
"o `show False r &g ~h3 elim %O &J",
"p `obtain `⟨ *t' *rfl %X `⟩ ~j3 ~A1 ~k1 ~A1 ~A0 ry ~A1 &l ~m4",
"q g env os r.same s @1 Good.mono `show Good E g.H₀ k env @1 _ @4 q &g ~h3 b _ q2 H2 s2 q2 H2 s.trans s2 @1 @2 $5 @2 >5 &J",
"r _ rfl _ rfl a C A.dx _ _ rfl c.ob T.cl T.li Ll _ rfl _ rfl A.li _ rfl gS.of c.hli @1 q hq `? `_ ~e2 $2 >23 &f",
"s t i' j' p q h1 h2 h3 kp _ _ nt h4 @1 h4 @4 h5 >10 &J",
"t value slice pins s σ H x y v u Q I rx ry h hs ~A16 &G",
"u pins s σ H xs us Q I r h ~A10 &G",
"v σ4 H4 Uw r4 z `show jU X.K g H' k9 De .nx e4 @1 @6 q &g ~h3 σ4 H4 Uw r4 z9.same s2 k9 @2 trans %O z @1 @5 $5 &J",
"w Yx pl pl : gh he pins s σ H _ I h @7 u s1 x H1 I1 rx a dx fs ex ea l q >11 `? `_ ~e2 $3 @2 ht @3 &f",
"x _ rfl _ rfl #2 aK %n &o ~A0 ~B1 &F %I ~D1 ~E1 &a l hl `? `_ ~e2 $2 >6 &f",
"y _ rfl a C A.dx _ _ rfl cx.ob T.cl T.kn Hi _ rfl A.kn A.ks.map V.ref @1 m .ref A.ks `[ m `] ~V4 @1 rfl rfl gS.of cx.hkn @1 qg `rw ~A0 ~B1 `[ ~A0 bK ~W2 ~A0 aP UH @1 ~W2 %X `] ~Y3 ~A0 ~Z4 `rfl ~H1 %I ~D1 ~E1 &a @1 A.ks `[ m `] ~V4 _ rfl .inl gS.of hb @1 @1 l2 hl2 `? `_ ~e2 $2 >27 &f",
"z q rfl _ gS.of hq1 @1 >2 q _ .ref a @1 ]1 rfl gS.of hq1 @1 rfl j i' v e1 e2 `? `_ ~e2 $5 Dd hD `? `_ ~e2 $2 >11 &f",
"A v h1 Is.ext ex _ _ h2 @4 >3 &J",
"B `rw ~A0 ~B1 `[ ~A0 `show rQ f v k x )2 r %p @3 `if k f %i `then k v )2 r %p `else k x )2 rQ f v r @3 %p ~q6 %i rfl &g ~h3 ~W2 ~A1 `] ~Y3 ~A0 ~Z4",
"C `obtain `⟨ *a `, *vs `, *h1 `, *h2 `, *h3 `, *h4 ~A11 `⟩ ~j3 ~A1 ~k1 ~A1 ~A0 r.own i xs e @3 ~A1 &l ~m4",
"D _ rfl .inl rfl _ gS.of hli @1 >3 @1 A.li _ _ rfl rfl hli P9 Ep hm1 @1 @1 `? `_ ~e2 >11 &f",
"E `obtain `⟨ *hk *q2 %X `⟩ ~j3 ~A1 ~k1 ~A1 ~A0 f k _ q2 z z ~A1 &r $1 @4 ~A1 &l ~m4",
"F bM.refl _ @1 Is.ext _ _ p _ .inl p @1 $4 _ _ _ z z $4 >2 _ _ hi @4 >2 &J",
"G `obtain `⟨ *t *rfl %X `⟩ ~j3 ~A1 ~k1 ~A1 ~A0 rx ~A1 &l ~m4",
"H i j rfl rfl c rfl >6 &J",
"I hw _ sP ~A0 ~B1 &s ~A1 ~D1 ~E1 &a ~A0 ~B1 &s ~A1 ~D1 ~E1 &a @2 @2 &J",
"J I1.RB aY _ @1 I1.hok.fresh aY _ @1 @1 @2 &J",
"K _ rfl H v w Q i1 i2 q x y b i1 i2 h q >7 $7 >3 &J",
"L ~A0 ~B1 &s ~A1 ~D1 ~E1 &a ~A0 ~B1 &s ~A1 ~D1 ~E1 &a `? `_ ~e2 >3 &f",
"M F.ok S vs H Q E h `? `_ ~e2 $5 cdv A outer s H vs Q E hr h `? `_ ~e2 $10 @3 &f",
"N _ rfl H vs Q i q `? `_ ~e2 $5 >3 &f",
"O wh pins s σ H Q I h ~A8 &G",
"P lF Yu I.B1 o h1 h2 |1 >3 e z z ~A1 &r $1 h @6 &J",
"Q lF Ox I.B1 _ h1 rfl >3 e z z ~A1 &r $1 h @6 &J",
"R Zf loop _ I4 Uy @3 T.self _ #0 _ _ _ Uy loop _ I4 Uy @3 @7 @2 &J",
"S `obtain `⟨ *t' *rfl %X `⟩ ~j3 ~A1 ~k1 ~A1 ~A0 xq ~A1 &l ~m4",
"T Pj I n A.in1 _ _ _ _ _ _ _ hu1 XA XC ru1 ru2 f @16 |1 &J",
"U ob es ep k _ ob z hf _ z @2 |2 |1 rfl @1 $1 ho @4 r >5 &J",
"V bY hl2 _ _ _ `? `_ ~e2 @5 &f",
"W `have ~A0 ~M1 I4 ~N1 ~A0 ~A0 `:= S.start t' s2.toks ^ ~T1 &b ]0 `: List Str ah %t @1 ~A1 `) ~c5 length %O %d : I3 f3 aY _ @1 MK k3 ady hvl j i v e1 e2 hvs j i v e1 e2 @5 $5 _ rfl @11 ~Q5 ~R1 ~S3",
"X `obtain `⟨ *its `, *rv `, *p `, *hz ~A7 `⟩ ~j3 ~A1 ~k1 ~A1 ~A0 I.list hq @1 ~A1 &l ~m4",
"Y hc .inl BR hc @1 |2 _ _ q `cases ~A0 q ~u2 ~A1 ~A0 ~A0 ~v4 ~A1 ~D1 ~E1 &a $3 @1 @1 >2 &J",
"Z q.elim &J",
"0 `dsimp ~A0 ~B1 ~A0 `only ~A1 ~A0 hp ~A1 ~w1 &x ~A1 ~y6",
"1 `have ~A0 ~M1 a1 ~N1 ~A0 `∀ x y D (2 ~A1 ~A0 `, mO x y ]2 #1 @2 aa y @1 %i ~z5 &P ~A1 `:= _ _ rfl $2 ~Q5 ~R1 ~S3",
"2 `obtain `⟨ *t *rfl %X `⟩ ~j3 ~A1 ~k1 ~A1 ~A0 rv ~A1 &l ~m4",
"3 `have ~A0 ~M1 fC ~N1 ~A0 xJ X pins Hx s3.heap.objs.size @4 &P ~A1 `:= hxC I3.RB aY _ @1 I3.hok.fresh aY _ @1 @1 @2 |2 >2 ~Q5 ~R1 ~S3",
"4 _ _ rfl rfl ih >5 &J",
"5 m.elim &J",
"6 h.elim &J",
"7 hne ds c e @3 elim %O &J",
"8 vO pQ I hgl UH wj `? `_ ~e2 @5 @1 &f",
"9 g.P os @1 ds i1 `? `_ ~e2 >4 &f",
"! h1 h2 `? `_ ~e2 >3 &f",
"# s68 _ _ `? `_ ~e2 @3 &f",
"% s35 _ _ `? `_ ~e2 @3 &f",
"& `obtain `⟨ *g `, *env `, *os `, *r `, *m ~A9 `⟩ ~j3 ~A1 ~k1 ~A1 ~A0 h ~A1 &l ~m4",
"* a ws H' s' hn hH i' ~A7 &G",
"+ `rw ~A0 ~B1 `[ ~A0 w9 p0 ~A0 ~B1 &s ~A1 ~D1 ~E1 &a ~A0 ~B1 &s ~A1 ~D1 ~E1 &a @3 ~W2 ~A1 `] ~Y3 ~A0 ~Z4",
", o e ex |1 >3 a e2 `? `_ ~e2 $2 >2 &f",
"- `have ~A0 ~M1 hq1 ~N1 ~A0 upd H2 q .lst nI ls.drop i @1 @1 map %O V.int @1 @1 @3 q @1 aa .lst nI ls.drop i @1 @1 map %O V.int @1 @1 @1 %i &P ~A1 `:= aU ~Q5 ~R1 ~S3",
". _ rfl _ _ rfl rfl _ rfl `? `_ ~e2 >9 &f",
"/ pins s σ H x vs v us Q I rx rv h ~A13 &G",
": hP hw hK ~A3 &À",
"; oO hc `? `_ ~e2 $1 @1 &f",
"< `have ~A0 ~M1 k3 ~N1 ~A0 b o s3.heap.get? b @1 aa o @1 %i h₁.get? b @1 aa o @1 %i %Á !2 &P ~A1 `:= b o e hsb₁.extBut b o eU bW e @1 @1 dg _ e @2 @4 $3 ~Q5 ~R1 ~S3",
"= `have ~A0 ~M1 hpa ~N1 ~A0 PA X a ]1 Tc X.K E env f env @1 bind %O x R.ok ]0 @1 bind %O xs .ok x xs %p @1 $1 @1 $1 @1 $1 @3 @3 &P ~A1 `:= aJ ha cL hs @3 ~Q5 ~R1 ~S3",
"> pins s σ H R I h ~A7 &G",
"? r.inj j k xs ys c q1 q2 q3 q4 @9 &J",
"@ r.inj j k xs ys b q1 q2 q3 q4 @9 &J",
"^ `have ~A0 ~M1 hlen ~N1 ~A0 ~A0 `:= r'.length ~Q5 ~R1 ~S3",
"_ m' hm σ3 H3 I3 w3 >6 &J",
"| dd.typeIs b q `? `_ ~e2 $2 hd >3 &f",
"~ _ rfl H vs Q h q `? `_ ~e2 $5 >3 &f",
"À gS.of sx _ _ hq1 @3 @1 SG >2 &J",
"Á z3.mem x hx @2 |1 aH hxb @1 >2 &J",
"Â hb wh pins s1 σ H1 Q I1 q1 @8 &J",
"Ã IU hab absurd hab ~A0 ~B1 &F ~A1 ~D1 ~E1 &a @2 $1 _ `? `_ ~e2 $1 @2 &f",
"Ä EF.refl _ _ _ _ @4 &J",
"Å `have ~A0 ~M1 hg' ~N1 ~A0 ~A0 `:= hg s3 upd H2 Dd .lst ]0 @1 @3 fp s3.heap.objs.size X.pn pins %Â @5 ~Q5 ~R1 ~S3",
"Æ `have ~A0 ~M1 he' ~N1 ~A0 ~A0 `:= he s3 upd H2 Dd .lst ]0 @1 @3 fp s3.heap.objs.size X.pn pins %Â @5 ~Q5 ~R1 ~S3",
"Ç `have ~A0 ~M1 Jo ~N1 ~A0 ~A0 `:= pI.same s1 a A.all %p @2 ~Q5 ~R1 ~S3",
"È rfl rfl >2 &J",
"É r.raw j v q @3 &J",
"Ê m2.elim &J",
"Ë Tg X.K xc m vs ]0 %Â H1 Q _ @7 &o",
"Ì O9 X.K xc m vs ]0 %Â H1 Q _ @7 &o",
"Í #2 aK %n &o ~A0 ~B1 &F %I ~D1 ~E1 &a pt hpt `? `_ ~e2 $2 >2 &f",
"Î st _ _ hat k' b r e1 hr @5 @3 &J",
"Ï hw k wz q @1 @2 &J",
"Ð hw k BK q @1 @2 &J",
"Ñ hb pins s1 σ H1 Q I1 q1 @7 &J"]
def uZ(c:Lean.CharLit):Lean.MacroM Lean.Syntax:=match uT.find? (λ s=>s.startsWith (c.getChar.toString++" ")) with|some s=>pure (uX ((s.splitOn " ").drop 1))|_=>Lean.Macro.throwUnsupported
local macro_rules|`($c:char)=>uZ c
local macro_rules|`(tactic|show $c:char)=>uZ c
set_option bootstrap.genMatcherCode false
set_option compiler.extract_closed false
set_option hygiene false
local macro_rules
|`(tactic|simp_all [$l,*])=>`(tactic|dsimp [mS,mD,mF,cg,aB,reduceAdd,reduceSub,reduceEqDiff,$l,*])
|`(tactic|simp_all)=>`(tactic|dsimp [mS,mD,mF,cg,aB,reduceAdd,reduceSub,reduceEqDiff])
local macro_rules
|`(tactic|dsimp [$l,*] $[$c]?)=>`(tactic|simp only [reduceIte,aA,aC,aR,cD,bq,dz,cB,dh,eB,cA,if_true,ite_true,fH,gC,nX,nY,nZ,ju,n8,n9,jv,og,oh,oi,om,ou,gD,gE,R.bX,R.dE,R.my,nM,nN,nP,fJ,jo,jq,nq,nv,nA,nC,nE,nG,nH,nJ,UI,fY,jr,jt,nQ,nR,nS,wo,wq,wu,wx,wy,fZ,f9,dW,nT,nU,nV,nW,gb,oy,oA,oB,oE,oF,oG,$l,*] $[$c]?)
|`(tactic|dsimp $[$c:location]?)=>`(tactic|dsimp [reduceIte] $[$c]?)
local macro_rules|`(tactic|omega)=>`(tactic|first|exact Or.inl rfl|exact Or.inr rfl|exact Or.inr (Or.inl rfl)|exact Or.inr (Or.inr rfl)|assumption)
local macro_rules|`(tactic|simp_all only [$l,*])=>`(tactic|simp only [$l,*])
local macro_rules|`($a>=>$b)=>`(R.bind $a $b)
set_option hygiene true
noncomputable section
abbrev Ap:=List Int
variable {n:Nat}{x:Str}{w:Ap}{a:ae}{i:Nat}{l:Ap}{e:ao}{os:List ae}{r:Ap}{k:Nat}{j:Nat}{pins:List (ae×Obj)}
set_option Elab.async false
set_option linter.all false
set_option maxRecDepth 100000
namespace L2
open PySem PySem.Spec PyProof.Rows
abbrev Key:=Sum Int Str
def GK:Key->ah->Bool
 |.inl k,v=>XR k v
 |.inr x,v=>XS x v
def ajM(w:aD):Key->Int
 |.inl k=>hashInt k
 |.inr x=>hashStr w x
def gV:∀{k:Key}{v:ah},GK k v=true->(∃i t,k=iF i/\v=DK i t)\/(∃x t,k=vH x/\v=DM x t)
 |.inl i,v,h=>by obtain⟨t,e⟩:=ah.isInt_shape (k:=i) (v:=v) h;exact .inl ⟨i,t,rfl,e⟩
 |.inr x,v,h=>by obtain⟨t,e⟩:=ah.isStrOf_shape (x:=x) (v:=v) h;exact .inr ⟨x,t,rfl,e⟩
def Rv(i:Int)(t:Tok):GK (.inl i) (.int i t)=true:=by simp[GK,XR]
def Rw(x:Str)(t:Tok):GK (.inr x) (.str x t)=true:=by simp[GK,XS]
def acD(a b:Int):decide ((iF a:Key)=iF b)=(a==b):=by
 by_cases e:a=b
 ·subst e;simp
 ·have h:¬(iF a:Key)=iF b:=λq=>e (iF.inj q)
  rw[decide_eq_false h];exact(beq_eq_false_iff_ne.mpr e).symm
def acE(a b:Str):decide ((vH a:Key)=vH b)=decide (a=b):=by
 by_cases e:a=b
 ·subst e;simp
 ·have h:¬(vH a:Key)=vH b:=λq=>e (vH.inj q)
  rw[decide_eq_false h,decide_eq_false e]
def acF(a:Int)(b:Str):decide ((iF a:Key)=vH b)=false:=decide_eq_false (λq=>nomatch q)
def acG(a:Str)(b:Int):decide ((vH a:Key)=iF b)=false:=decide_eq_false (λq=>nomatch q)
noncomputable def iG(prog:aS)(w:aD):PySem.KeyKind prog w Key where
 is:=GK
 hash:=ajM w
 inj:=λv a b ha hb=>by
  rcases gV ha with⟨i,t,rfl,rfl⟩|⟨x,t,rfl,rfl⟩
  ·rcases gV hb with⟨j,u,rfl,e⟩|⟨y,u,rfl,e⟩
   ·injection e with e1 _;rw[e1]
   ·exact nomatch e
  ·rcases gV hb with⟨j,u,rfl,e⟩|⟨y,u,rfl,e⟩
   ·exact nomatch e
   ·injection e with e1 _;rw[e1]
 byValue:=λk v h=>by rcases gV h with⟨i,t,rfl,rfl⟩|⟨x,t,rfl,rfl⟩<;>rfl
 pyHash:=λhv h=>by
  rcases gV hv with⟨i,t,rfl,rfl⟩|⟨x,t,rfl,rfl⟩
  ·exact wpAny_pyHash_int h
  ·exact wpAny_pyHash_str h
 eqBool:=λhu hv h=>by
  rcases gV hu with⟨i,t,rfl,rfl⟩|⟨x,t,rfl,rfl⟩
  ·rcases gV hv with⟨j,u,rfl,rfl⟩|⟨y,u,rfl,rfl⟩
   ·rw[acD]at h;exact wpAny_eqBool_int h
   ·rw[acF]at h;exact Aq.int_str i t y u _ _ _ _ h
  ·rcases gV hv with⟨j,u,rfl,rfl⟩|⟨y,u,rfl,rfl⟩
   ·rw[acG]at h;exact Aq.str_int x t j u _ _ _ _ h
   ·rw[acE]at h;exact wpAny_eqBool_str h
 «strs»:=λk x t v h=>by
  rcases gV h with⟨i,u,rfl,e⟩|⟨y,u,rfl,e⟩
  ·exact nomatch e
  ·injection e with e1 _
   subst e1;cases v<;>rfl
def J0(prog:aS)(w:aD)(i:Int)(t:Tok):(iG prog w).is (.inl i) (.int i t)=true:=Rv i t
def J1(prog:aS)(w:aD)(x:Str)(t:Tok):(iG prog w).is (.inr x) (.str x t)=true:=Rw x t
end L2
namespace L2
open PySem PySem.Spec PyProof.Rows
inductive V where
 |non|bl (b:Bool)|int (i:Int)|str (x:Str)|S7 (b:Array UInt8)|flt (b:UInt64)|ref (a:ae)|ty (n:String)
 deriving DecidableEq
def RelV:V->ah->Prop
 |.non,u=>u=ah.none
 |.bl b,u=>u=HJ b
 |.int i,u=>∃t,u=DK i t
 |.str x,u=>∃t,u=DM x t
 |.S7 b,u=>∃t,u=XT b t
 |.flt b,u=>∃t,u=NY b t
 |.ref a,u=>u=dq a
 |.ty n,u=>u=vI n
abbrev Vals:List V->List ah->Prop:=Paired RelV
theorem Vals.length {xs:List V}{us:List ah}(r:Vals xs us):xs.length=us.length:=Paired.length r
theorem Vals.get:∀{xs:List V}{us:List ah}{i:Nat}{x:V},Vals xs us->xs[i]?=aa x->∃u,us[i]?=aa u/\RelV x u
 |_,_,_,_,.nil,e=>by simp at e
 |_,_,0,_,.cons r _,e=>by simp at e;subst e;exact⟨_,rfl,r⟩
 |_,_,i+1,x,.cons _ t,e=>by obtain⟨u,h1,h2⟩:=Vals.get (i:=i) (x:=x) t (by simpa using e);exact⟨u,by simpa using h1,h2⟩
theorem Vals.set {x:V}{u:ah}(r:RelV x u):∀{xs:List V}{us:List ah}(i:Nat),Vals xs us->Vals (xs.set i x) (us.set i u)
 |_,_,_,.nil=>.nil
 |_,_,0,.cons _ t=>.cons r t
 |_,_,i+1,.cons q t=>.cons q (Vals.set r i t)
theorem Vals.append:∀{xs ys:List V}{us ws:List ah},Vals xs us->Vals ys ws->Vals (xs++ys) (us++ws)
 |_,_,_,_,.nil,s=>s
 |_,_,_,_,.cons r t,s=>.cons r (Vals.append t s)
theorem Vals.take:∀{xs:List V}{us:List ah}(n:Nat),Vals xs us->Vals (xs.take n) (us.take n)
 |_,_,0,_=>.nil
 |_,_,_+1,.nil=>.nil
 |_,_,n+1,.cons r t=>.cons r (Vals.take n t)
theorem Vals.drop:∀{xs:List V}{us:List ah}(n:Nat),Vals xs us->Vals (xs.drop n) (us.drop n)
 |_,_,0,r=>r
 |_,_,_+1,.nil=>.nil
 |_,_,n+1,.cons _ t=>Vals.drop n t
def xH:Option V->Option ah->Prop
 |some v,aa u=>RelV v u
 |none,none=>True
 |_,_=>False
def KV{κ:Type}:List (κ×V)->List (κ×ah)->Prop:=Paired λ(p:κ×V)(q:κ×ah)=>p.1=q.1/\RelV p.2 q.2
def kV:Key->V
 |.inl i=>.int i
 |.inr x=>.str x
inductive HO where
 |lst (xs:List V)
 |tup (xs:List V)
 |dK (kvs:List (Key×V))|dT (kvs:List (List Key×V))
 |set (S:Int->Bool) (n:Nat)
 |ins (C dx:ae) (fs:List (Str×V))
 |own (x:ae)
 |xd (fs:List (Str×V))
 |met (f x:ae)
 |rng (lo hi:Int)
 |Gi (o:Obj) (u:HO)
 |tbl (ps:Array ah)
 |ext (φ:aF->Prop)
abbrev Hp:=ae->Option HO
def upd(H:Hp)(a:ae)(o:HO):Hp:=λb=>if b=a then aa o else H b
def aU{H:Hp}{o:HO}:upd H a o a=aa o:=by unfold upd;rw[if_pos rfl]
def aH{H:Hp}{a b:ae}{o:HO}(h:b≠a):upd H a o b=H b:=by unfold upd;rw[if_neg h]
def eT{H:Hp}{a b:ae}{o u:HO}(h:H a=aa o)(h':H b=aa u)(d:o≠u):a≠b:=by intro e;subst e;rw[h]at h';exact d (ck.inj h')
def aV{H:Hp}{a b:ae}{o:HO}(h:H a=aa o)(h':H b=none):a≠b:=by intro e;subst e;rw[h]at h';cases h'
section
variable(P:aS)(w:aD)
noncomputable def ig(H:Hp)(h:aF)(a:ae):HO->Prop
 |.lst xs=>xs.length<=aK/\∃(its:List ah)(n:Nat),Vals xs its/\h.get? a=aa {cls:=.type "list",data:=.seq its.toArray n}
 |.tup xs=>xs.length<=aK/\∃its:List ah,Vals xs its/\IsTup h a its.toArray
 |.dK kvs=>kvs.length<=aK/\(a==p4)=false/\∃vs,KV kvs vs/\h.DictOf (iG P w) a vs
 |.dT kvs=>kvs.length<=aK/\(a==p4)=false/\∃xs:List (List Key×ae×ah),
   Paired (λ(p:List Key×V)(q:List Key×ae×ah)=>p.1=q.1/\H q.2.1=aa (.tup (p.1.map kV))/\RelV p.2 q.2.2) kvs xs/\
   ∃o es ep,h.get? a=aa o/\o.ExactDict/\o.data=.dict es ep/\es.toList=xs.map (entryOfKey (yz (iG P w)))/\(xs.map (·.1)).Nodup
 |.set S n=>h.SetOf (intKind P w) a S n
 |.ins C dx fs=>H dx=aa (.own a)/\fs.length<=1000/\dx≠a/\h.get? a=aa (vJ C dx)/\
   ∃mA,h.Ns1 dx mA/\(∀f,xH (fs.lookup f) (mA f))/\HK mA (fs.map (·.1))
 |.own _=>∃o,h.get? a=aa o
 |.xd fs=>∃mA,h.Ns1 a mA/\∀f,xH (fs.lookup f) (mA f)
 |.rng lo hi=>∃t u v,h.get? a=aa {cls:=.type "range",data:=.fields #[.int lo t,.int hi u,.int 1 v]}
 |.Gi o u=>h.get? a=aa o/\ig H h a u
 |.tbl ps=>h.get? a=aa {cls:=.none,data:=.fields ps}
 |.met f x=>h.get? a=aa (NZ (.ref f) (.ref x))
 |.ext φ=>φ h/\(∃o,h.get? a=aa o)/\∀h1 h2:aF,φ h1->(∀o,h1.get? a=aa o->h2.get? a=aa o)->φ h2
def zA(H:Hp)(h:aF):Prop:=∀a o,H a=aa o->ig P w H h a o
end
section
variable{P:aS}{w:aD}{H H':Hp}{h h':aF}{a:ae}{o:HO}
theorem ig.lt (x:ig P w H h a o):a<h.objs.size:=by
 cases o with
 |lst xs=>obtain⟨_,_,_,_,e⟩:=x;exact bW e
 |tup xs=>obtain⟨_,_,_,p⟩:=x;exact p.lt
 |dK kvs=>obtain⟨_,_,_,_,o,_,_,e,_⟩:=x;exact bW e
 |dT kvs=>obtain⟨_,_,_,_,o,_,_,e,_⟩:=x;exact bW e
 |set S n=>obtain⟨o,_,_,_,e,_⟩:=x;exact bW e
 |ins C dx fs=>obtain⟨_,_,_,e,_⟩:=x;exact bW e
 |own y=>obtain⟨_,e⟩:=x;exact bW e
 |xd fs=>obtain⟨_,⟨_,_,_,e,_⟩,_⟩:=x;exact bW e
 |rng lo hi=>obtain⟨_,_,_,e⟩:=x;exact bW e
 |Gi ob u=>obtain⟨e,_⟩:=x;exact bW e
 |tbl ps=>exact bW (show h.get? a=aa _ from x)
 |met f y=>exact bW (show h.get? a=aa _ from x)
 |ext φ=>obtain⟨_,⟨_,e⟩,_⟩:=x;exact bW e
theorem Paired.acJ {α β:Type}{F G:α->β->Prop}:∀{l₁:List α}{l₂:List β},Paired F l₁ l₂->(∀a b,F a b->G a b)->Paired G l₁ l₂
 |_,_,.nil,_=>.nil
 |_,_,.cons r t,f=>.cons (f _ _ r) (Paired.acJ t f)
def ig.Ml (x:ig P w H h a o)(k:∀b u,(b=a\/H b=aa (.own a))->h.get? b=aa u->h'.get? b=aa u)
  (ho:∀b,H b=aa (.own a)->H' b=aa (.own a))(ht:∀b xs,H b=aa (.tup xs)->H' b=aa (.tup xs)):ig P w H' h' a o:=by
 induction o with
 |lst xs=>obtain⟨z,its,n,r,e⟩:=x;exact⟨z,its,n,r,k _ _ (.inl rfl) e⟩
 |tup xs=>obtain⟨z,its,r,ob,e,c⟩:=x;exact⟨z,its,r,ob,k _ _ (.inl rfl) e,c⟩
 |dK kvs=>obtain⟨z,y,vs,r,ob,es,ep,e,c⟩:=x;exact⟨z,y,vs,r,ob,es,ep,k _ _ (.inl rfl) e,c⟩
 |dT kvs=>
  obtain⟨z,y,xs,r,ob,es,ep,e,c⟩:=x;exact⟨z,y,xs,Paired.acJ r λp q z=>⟨z.1,ht _ _ z.2.1,z.2.2⟩,ob,es,ep,k _ _ (.inl rfl) e,c⟩
 |set S n=>obtain⟨ob,es,ep,t,e,c⟩:=x;exact⟨ob,es,ep,t,k _ _ (.inl rfl) e,c⟩
 |ins C dx fs=>
  obtain⟨d,z,ne,e,mA,⟨od,es,ep,e2,c⟩,r⟩:=x;exact⟨ho _ d,z,ne,k _ _ (.inl rfl) e,mA,⟨od,es,ep,k _ _ (.inr d) e2,c⟩,r⟩
 |own y=>obtain⟨ob,e⟩:=x;exact⟨ob,k _ _ (.inl rfl) e⟩
 |xd fs=>obtain⟨mA,⟨od,es,ep,e,c⟩,r⟩:=x;exact⟨mA,⟨od,es,ep,k _ _ (.inl rfl) e,c⟩,r⟩
 |rng lo hi=>obtain⟨t,u,v,e⟩:=x;exact⟨t,u,v,k _ _ (.inl rfl) e⟩
 |Gi ob u ih=>obtain⟨e,q⟩:=x;exact⟨k _ _ (.inl rfl) e,ih q⟩
 |tbl ps=>
  have e:h.get? a=aa {cls:=.none,data:=.fields ps}:=x;show h'.get? a=aa {cls:=.none,data:=.fields ps};exact k a _ (.inl rfl) e
 |met f y=>
  have e:h.get? a=aa (NZ (.ref f) (.ref y)):=x;show h'.get? a=aa (NZ (.ref f) (.ref y));exact k a _ (.inl rfl) e
 |ext φ=>obtain⟨p,⟨o,e⟩,st⟩:=x;exact⟨st _ _ p λo q=>k _ _ (.inl rfl) q,⟨o,k _ _ (.inl rfl) e⟩,st⟩
theorem zA.lt (x:zA P w H h)(e:H a=aa o):a<h.objs.size:=(x a o e).lt
def zA.fresh (x:zA P w H h)(e:h.objs.size<=a):H a=none:=by
 cases q:H a with
 |none=>rfl
 |some u=>exact absurd (dZ (x.lt q) e) (vK _)
def zA.kept (x:zA P w H h)(k:∀b u,h.get? b=aa u->h'.get? b=aa u):zA P w H h':=λa o e=>
 (x a o e).Ml (λb u _ q=>k b u q) (λ_ q=>q) λ_ _ q=>q
def zA.laid (x:zA P w H h)(k:∀b u,h.get? b=aa u->h'.get? b=aa u)(hp:h.objs.size<=a)(new:ig P w (upd H a o) h' a o):zA P w (upd H a o) h':=λb u e=>by
 have hn:=x.fresh hp
 by_cases hb:b=a
 ·subst hb;rw[aU]at e;cases e;exact new
 ·rw[aH hb]at e
  exact(x b u e).Ml (λc v _ q=>k c v q) (λc q=>by rw[aH (aV q hn)];exact q) λc xs q=>by rw[aH (aV q hn)];exact q
end
def Rd(H:Hp)(a:ae)(u:HO):Prop:=H a=aa u\/∃o,H a=aa (.Gi o u)
def Rd.ok {P:aS}{w:aD}{H:Hp}{h:aF}{u:HO}(r:Rd H a u)(x:zA P w H h):ig P w H h a u:=by
 rcases r with r|⟨o,r⟩
 ·exact x a u r
 ·obtain⟨_,q⟩:=x a _ r
  exact q
def Mut:Option HO->Prop
 |some (.lst _)=>True
 |some (.dK _)=>True
 |some (.dT _)=>True
 |some (.set _ _)=>True
 |some (.ins _ _ _)=>True
 |some (.ext _)=>True
 |_=>False
section
variable{P:aS}{w:aD}{H:Hp}{h h':aF}{x e:ae}{o':HO}
def zA.write (ok:zA P w H h)(mu:Mut (H x))(he:e=x\/H e=aa (.own x))(k:∀b u,b≠e->h.get? b=aa u->h'.get? b=aa u)(heo:∃u,h'.get? e=aa u)
  (new:ig P w (upd H x o') h' x o'):zA P w (upd H x o') h':=λb u q=>by
 have agk:∀c y,H c=aa (.own y)->c≠x:=λc y r z=>by subst z;rw[r]at mu;exact mu
 have ajO:∀c xs,H c=aa (.tup xs)->c≠x:=λc xs r z=>by subst z;rw[r]at mu;exact mu
 by_cases hb:b=x
 ·subst hb;rw[aU]at q;cases q;exact new
 ·rw[aH hb]at q
  by_cases hbe:b=e
  ·have q':H b=aa (.own x):=by
    rcases he with z|z
    ·exact absurd (hbe.trans z) hb
    ·rw[hbe];exact z
   rw[q]at q';cases q';obtain⟨v,hv⟩:=heo;exact⟨v,by rw[hbe];exact hv⟩
  ·refine(ok b u q).Ml (λc v hc r=>k c v ?_ r) (λc r=>by rw[aH (agk c b r)];exact r) λc xs r=>by rw[aH (ajO c xs r)];exact r
   rcases hc with rfl|hc
   ·exact hbe
   ·rintro rfl
    rcases he with z|z
    ·exact agk c b hc z
    ·rw[hc]at z;cases z;exact hb rfl
end
structure Un(fs ex:List ae)(H H':Hp)(h h':aF):Prop where
 keep:∀b o,h.get? b=aa o->H b=none->b∉fs->b∉ex->h'.get? b=aa o
 slot:∀b o,h.get? b=aa o->H b=none->b∈fs->b∉ex->∃sl,h'.get? b=aa {o with slots:=sl}
 free:∀b o,h.get? b=aa o->H b=none->b∉ex->H' b=none
 there:∀b o,h.get? b=aa o->b∉ex->∃o',h'.get? b=aa o'
 z6:∀b xs,H b=aa (.tup xs)->H' b=aa (.tup xs)
 HL:∀b o u,H b=aa (.Gi o u)->H' b=aa (.Gi o u)
 J2:∀b ps,H b=aa (.tbl ps)->∃more,H' b=aa (.tbl (ps++more))
section
variable{fs fs' ex ex':List ae}{H H1 H2:Hp}{h h1 h2 h':aF}{a x e:ae}{o:HO}
def Un.any (u:Un fs ex H H1 h h1){b:ae}{ob:Obj}(q:h.get? b=aa ob)(n:H b=none)(hx:b∉ex):∃sl,h1.get? b=aa {ob with slots:=sl}:=by
 by_cases hb:b∈fs
 ·exact u.slot b ob q n hb hx
 ·exact⟨ob.slots,u.keep b ob q n hb hx⟩
def Un.kept (k:∀b u,h.get? b=aa u->h'.get? b=aa u):Un fs ex H H h h':=
 ⟨λb ob q _ _ _=>k b ob q,λb ob q _ _ _=>⟨ob.slots,k b ob q⟩,λ_ _ _ n _=>n,λb ob q _=>⟨ob,k b ob q⟩,λ_ _ q=>q,λ_ _ _ q=>q,λ_ ps q=>⟨#[],by rw[q];simp⟩⟩
def Un.refl:Un fs ex H H h h:=Un.kept λ_ _ q=>q
def Un.laid (k:∀b u,h.get? b=aa u->h'.get? b=aa u)(hp:h.objs.size<=a)(hn:H a=none):Un fs ex H (upd H a o) h h' where
 keep:=λb u q _ _ _=>k b u q
 slot:=λb u q _ _ _=>⟨u.slots,k b u q⟩
 free:=λb u q n _=>by rw[aH (eU (dZ (bW q) hp))];exact n
 there:=λb u q _=>⟨u,k b u q⟩
 z6:=λb xs q=>by rw[aH (aV q hn)];exact q
 HL:=λb u xs q=>by rw[aH (aV q hn)];exact q
 J2:=λb ps q=>⟨#[],by rw[aH (aV q hn),q];simp⟩
def Un.write (mu:Mut (H x))(he:e=x\/H e=aa (.own x))(k:∀b u,b≠e->h.get? b=aa u->h'.get? b=aa u)(heo:∃u,h'.get? e=aa u):Un fs ex H (upd H x o) h h':=by
 have hx:∀b,H b=none->b≠x:=λb n z=>by subst z;rw[n]at mu;exact mu
 have hb:∀b,H b=none->b≠e:=λb n z=>by
  subst z;rcases he with r|r
  ·exact hx b n r
  ·rw[n]at r;cases r
 have hm:∀b u,H b=aa u->¬Mut (aa u)->b≠x:=λb u q nm z=>by subst z;rw[q]at mu;exact nm mu
 refine⟨λb u q n _ _=>k b u (hb b n) q,λb u q n _ _=>⟨u.slots,k b u (hb b n) q⟩,λb u q n _=>by rw[aH (hx b n)];exact n,λb u q _=>?_,
  λb xs q=>by rw[aH (hm b _ q λz=>z)];exact q,λb u xs q=>by rw[aH (hm b _ q λz=>z)];exact q,λb ps q=>⟨#[],by rw[aH (hm b _ q λz=>z),q];simp⟩⟩
 by_cases hbe:b=e
 ·subst hbe;exact heo
 ·exact⟨u,k b u hbe q⟩
end
def trk(h:aF)(H:Hp):List ae:=(bG h.objs.size).filter λa=>(H a).isSome
def HM(h:aF)(H:Hp):aF:=PySem.W.hideAll h (trk h H)
def Rx(h:aF)(H:Hp):(HM h H).objs.size=h.objs.size:=PySem.W.hideAll_size _ _
def Tv{h:aF}{H:Hp}{b:ae}{o:Obj}(e:h.get? b=aa o)(n:H b=none):(HM h H).get? b=aa o:=
 PySem.W.hideAll_get _ e λhm=>by have q:(H b).isSome=true:=(Ar.mp hm).2;rw[n]at q;simp at q
def XU{h:aF}{H:Hp}{b:ae}{o:Obj}(e:(HM h H).get? b=aa o):h.get? b=aa o/\H b=none:=by
 have e':h.get? b=aa o:=PySem.W.of_hideAll (trk h H) e;refine⟨e',?_⟩;cases q:H b with
 |none=>rfl
 |some x=>
  have hm:b∈trk h H:=Ar.mpr ⟨gA.mpr (bW e'),by simp[q]⟩;have z:(HM h H).get? b=none:=PySem.W.hideAll_none (trk h H) hm;rw[z]at e;cases e
def XW(g h:aF)(L:ae):List (ae×Obj):=(bG h.objs.size).filterMap λa=>if a=L\/(g.get? a).isSome=true then none else(h.get? a).map λo=>(a,o)
def rest(g h:aF)(L d:ae):List (ae×Obj):=(XW g h L).filter λp=>decide (p.1≠d)
end L2
namespace L2
open PySem PySem.Spec PyProof.Rows
structure Mod(K:ak)(mg:Str->Option ah)(base:aF):Prop where
 kin:K.In base
 glob:base.Ns ed mg
 blt:∃mb,base.Ns N3 mb/\∀x:Str,x≠"__name__"->mb x=fV x
 nolimit:base.NoLimit
structure Cx where
 prog:aS
 w:aD
 K:ak
 mg:Str->Option ah
 base:aF
 A:bx
 N:List Str
 s₀:aj
 H₀:Hp
 env:Env
 outer:List Env
 stack:List Env
 ex:List ae
 fn:Str->Bool
 calm:Bool
 pn:List (ae×Obj)
 xe:ah->aj->Prop
def Me(l:List Env):List ae:=l.filterMap (·.frame)
abbrev Cx.fs (X:Cx):List ae:=Me X.outer
def Dm(sc:du)(x:Str):Prop:=sc.names.lookup x=aa .local\/sc.names.lookup x=aa .cell\/sc.names.lookup x=aa .free
def Loc(sc:du)(x:Str):Prop:=sc.names.lookup x=aa .local\/sc.names.lookup x=aa .cell
def Look(env:Env)(h:aF)(m:Str->Option ah)(x:Str)(u:ah):Prop:=
 (env.kindOf x=aa .local/\m x=aa u)\/((env.kindOf x=aa .cell\/env.kindOf x=aa .free)/\∃c,env.cells.lookup x=aa c/\h.IsCell c (aa u))
structure Cx.Ok (X:Cx):Prop where
 mod:Mod X.K X.mg X.base
 kind:X.env.scope.kind=.function
 glob:X.env.globals=ed
 blt:X.env.builtins=N3
 above:X.s₀.heap.objs.size<=X.env.locals
 inj:∀x y c,X.env.cells.lookup x=aa c->X.env.cells.lookup y=aa c->x=y
 has:∀x,(X.env.kindOf x=aa .cell\/X.env.kindOf x=aa .free)->∃c,X.env.cells.lookup x=aa c
 cab:∀x c,X.fn x=true->X.env.cells.lookup x=aa c->X.s₀.heap.objs.size<=c
 hd:X.calm=true->X.A.handled=none
 frames:X.A.frames=aa X.stack
 stk:X.stack=X.outer\/(X.stack=X.env::X.outer/\X.env.frame=aa X.env.locals)
 exf:∀b∈X.ex,b≠X.env.locals/\∀x c,X.env.cells.lookup x=aa c->c≠b
 bs:∀b o,X.base.get? b=aa o->X.s₀.heap.get? b=aa o/\X.H₀ b=none
 Xw:X.base.objs.size<=X.s₀.heap.objs.size
 Ry:∀b o,X.base.get? b=aa o->b∉X.ex
 Mm:∀b∈X.ex,b∉X.fs
 B5:X.s₀.heap.FunFrames X.base X.outer
 frf:∀b∈X.fs,X.H₀ b=none
structure Inv(X:Cx)(pins:List (ae×Obj))(σ:List (Option V))(H:Hp)(s:aj):Prop where
 ok:X.Ok
 os:s.os=X.s₀.os
 bare:qW s.gens
 base:Un X.fs X.ex X.H₀ H X.s₀.heap s.heap
 loc:∃m,s.heap.Ns X.env.locals m/\∀(i:Nat)(x:Str)(v:V),X.N[i]?=aa x->σ[i]?=aa (aa v)->Dm X.env.scope x->∃u,RelV v u/\Look X.env s.heap m x u
 cell:∀x c,X.env.cells.lookup x=aa c->∃v,s.heap.IsCell c v
 free:H X.env.locals=none
 zK:∀x c,X.env.cells.lookup x=aa c->H c=none
 pin:∀p∈X.pn++pins,s.heap.get? p.1=aa p.2/\H p.1=none/\p.1≠X.env.locals/\p.1∉X.fs/\∀v,p.2.data≠.cell v
 hok:zA X.prog X.w H s.heap
 len:σ.length=X.N.length
section
variable{X:Cx}{pins:List (ae×Obj)}{σ:List (Option V)}{H H':Hp}{s:aj}{h':aF}
def Cx.Ok.ajP (ok:X.Ok){b:ae}{o:Obj}(e:X.base.get? b=aa o):b∉X.fs:=λhb=>by have:=(ok.B5.mem hb).1;rw[e]at this;cases this
theorem Inv.bs (I:Inv X pins σ H s):∀b o,X.base.get? b=aa o->s.heap.get? b=aa o/\H b=none:=λb o e=>
 ⟨I.base.keep b o (I.ok.bs b o e).1 (I.ok.bs b o e).2 (I.ok.ajP e) (I.ok.Ry b o e),I.base.free b o (I.ok.bs b o e).1 (I.ok.bs b o e).2 (I.ok.Ry b o e)⟩
def Inv.bk (I:Inv X pins σ H s):∀b o,X.base.get? b=aa o->s.heap.get? b=aa o:=λb o e=>(I.bs b o e).1
theorem Inv.mod (I:Inv X pins σ H s):Mod X.K X.mg X.base:=I.ok.mod
def Inv.B1 (I:Inv X pins σ H s):X.K.In s.heap:=I.ok.mod.kin.keeps I.bk
theorem Inv.lt (I:Inv X pins σ H s):X.env.locals<s.heap.objs.size:=let⟨_,hn,_⟩:=I.loc;hn.lt
def Inv.sz (I:Inv X pins σ H s):X.s₀.heap.objs.size<=s.heap.objs.size:=lD I.ok.above (HN I.lt)
def Inv.ajQ (I:Inv X pins σ H s)(h:s.heap.objs.size<=a):a∉X.fs:=λhb=>by obtain⟨_,o,ho,_⟩:=I.ok.B5.mem hb;exact absurd (dZ (bW ho) (lD I.sz h)) (vK _)
def Inv.cne (I:Inv X pins σ H s):∀x c,X.env.cells.lookup x=aa c->c≠X.env.locals:=λx c e z=>by obtain⟨v,o,ho,hd⟩:=I.cell x c e;obtain⟨m,⟨o',es,ep,ho',XX,_⟩,_⟩:=I.loc;rw[z,ho']at ho;cases ho;rw[XX]at hd;cases hd
theorem Inv.B5 (I:Inv X pins σ H s):s.heap.FunFrames X.base X.outer:=by
 have all:∀(l:List Env),(∀b∈Me l,b∈X.fs)->X.s₀.heap.FunFrames X.base l->s.heap.FunFrames X.base l:=by
  intro l
  induction l with
  |nil=>intro _ _;trivial
  |cons env r ih=>
   intro hs hl;obtain⟨hk,⟨L,o,hf,hn,ho,hd⟩,hr⟩:=hl;have hL:L∈X.fs:=hs L (by unfold Me;rw[N4,hf];exact je);obtain⟨sl,e⟩:=I.base.slot L o ho (I.ok.frf L hL) hL λz=>I.ok.Mm L z hL;exact⟨hk,⟨L,_,hf,hn,e,hd⟩,ih (λb hb=>hs b (by unfold Me;rw[N4,hf];exact bE _ hb)) hr⟩
 exact all X.outer (λ_ hb=>hb) I.ok.B5
theorem Inv.stack (I:Inv X pins σ H s):s.heap.FunFrames X.base X.stack:=by
 rcases I.ok.stk with e|⟨e,hf⟩
 ·rw[e];exact I.B5
 ·rw[e]
  obtain⟨m,hn,_⟩:=I.loc;refine .cons (by rw[I.ok.kind];decide) hf hn ?_ I.B5;exact aF.get?_none_of_le (lD I.ok.Xw I.ok.above)
def Inv.HP (I:Inv X pins σ H s):∀b∈Me X.stack,b∈X.env.locals::X.fs:=λb hb=>by
 rcases I.ok.stk with e|⟨e,hf⟩
 ·rw[e]at hb;exact bE _ hb
 ·rw[e]at hb
  unfold Me at hb;rw[N4,hf]at hb;exact hb
def Inv.N5 (I:Inv X pins σ H s):∀b∈Me X.stack,H b=none:=λb hb=>by
 rcases aX.mp (I.HP b hb)with e|hb
 ·rw[e];exact I.free
 ·obtain⟨_,o,ho,_⟩:=I.ok.B5.mem hb
  exact I.base.free b o ho (I.ok.frf b hb) λz=>I.ok.Mm b z hb
def Inv.step {g':Array GenState}{t':Nat}{d':Drawn}{ch:List ae}(I:Inv X pins σ H s)
  (hch:∀b∈ch,(b∈X.ex\/X.s₀.heap.objs.size<=b)/\b≠X.env.locals/\(∀x c,X.env.cells.lookup x=aa c->c≠b)/\∀p∈X.pn++pins,p.1≠b)
  (keep:∀b o,b≠X.env.locals->b∉X.fs->b∉ch->s.heap.get? b=aa o->H b=none->h'.get? b=aa o)
  (slot:∀b o,b≠X.env.locals->b∈X.fs->b∉ch->s.heap.get? b=aa o->H b=none->∃sl,h'.get? b=aa {o with slots:=sl})(free:∀b o,b∉ch->s.heap.get? b=aa o->H b=none->H' b=none)
  (there:∀b o,b∉ch->s.heap.get? b=aa o->∃o',h'.get? b=aa o')
  (z6:∀b xs,H b=aa (.tup xs)->H' b=aa (.tup xs))(HL:∀b o u,H b=aa (.Gi o u)->H' b=aa (.Gi o u))(J2:∀b ps,H b=aa (.tbl ps)->∃more,H' b=aa (.tbl (ps++more)))
  (ns:∀m,s.heap.Ns X.env.locals m->h'.Ns X.env.locals m)(hok:zA X.prog X.w H' h')(hg:qW g'):
  Inv X pins σ H' {s with heap:=h',gens:=g',drawn:=d',toks:=t'}:=by
 have neL:∀b o,X.s₀.heap.get? b=aa o->b≠X.env.locals:=λb o e=>eU (dZ (bW e) I.ok.above);have neC:∀b o,X.s₀.heap.get? b=aa o->b∉X.ex->b∉ch:=λb o e hx hb=>by
  rcases(hch b hb).1 with z|z
  ·exact hx z
  ·exact absurd (dZ (bW e) z) (vK _)
 have cellK:∀x c,X.env.cells.lookup x=aa c->∀v,s.heap.IsCell c v->h'.IsCell c v:=λx c e v ⟨o,ho,hd⟩=>by
  have nch:c∉ch:=λz=>(hch c z).2.2.1 x c e rfl
  by_cases hc:c∈X.fs
  ·obtain⟨sl,q⟩:=slot c o (I.cne x c e) hc nch ho (I.zK x c e)
   exact⟨_,q,hd⟩
  ·exact⟨o,keep c o (I.cne x c e) hc nch ho (I.zK x c e),hd⟩
 refine⟨I.ok,I.os,hg,⟨λb o e n hb hx=>?_,λb o e n hb hx=>?_,λb o e n hx=>?_,λb o e hx=>?_,λb xs e=>z6 b xs (I.base.z6 b xs e),λb o xs e=>HL b o xs (I.base.HL b o xs e),λb ps e=>?_⟩,?_,λx c e=>?_,?_,λx c e=>?_,λp hp=>?_,hok,I.len⟩
 ·exact keep b o (neL b o e) hb (neC b o e hx) (I.base.keep b o e n hb hx) (I.base.free b o e n hx)
 ·obtain⟨sl,e1⟩:=I.base.slot b o e n hb hx
  obtain⟨sl',e2⟩:=slot b _ (neL b o e) hb (neC b o e hx) e1 (I.base.free b o e n hx);exact⟨sl',e2⟩
 ·obtain⟨o',e1⟩:=I.base.there b o e hx
  exact free b o' (neC b o e hx) e1 (I.base.free b o e n hx)
 ·obtain⟨o',e1⟩:=I.base.there b o e hx
  exact there b o' (neC b o e hx) e1
 ·obtain⟨m1,e1⟩:=I.base.J2 b ps e
  obtain⟨m2,e2⟩:=J2 b _ e1;exact⟨m1++m2,by rw[e2,Array.append_assoc]⟩
 ·obtain⟨m,hn,hl⟩:=I.loc
  refine⟨m,ns m hn,λi x v e1 e2 e3=>?_⟩;obtain⟨u,r,l⟩:=hl i x v e1 e2 e3;refine⟨u,r,?_⟩;rcases l with l|⟨k,c,e,z⟩
  ·exact .inl l
  ·exact .inr ⟨k,c,e,cellK x c e _ z⟩
 ·obtain⟨v,z⟩:=I.cell x c e
  exact⟨v,cellK x c e v z⟩
 ·obtain⟨m,⟨o,_,_,ho,_⟩,_⟩:=I.loc
  exact free _ o (λz=>(hch _ z).2.1 rfl) ho I.free
 ·obtain⟨v,o,ho,hd⟩:=I.cell x c e
  exact free c o (λz=>(hch c z).2.2.1 x c e rfl) ho (I.zK x c e)
 ·obtain⟨e,n,ne,nf,d⟩:=I.pin p hp
  have nch:p.1∉ch:=λz=>(hch p.1 z).2.2.2 p hp rfl;exact⟨keep p.1 p.2 ne nf nch e n,free p.1 p.2 nch e n,ne,nf,d⟩
def Inv.un {t':Nat}(I:Inv X pins σ H s)(u:Un X.fs [] H H' s.heap h')(hok:zA X.prog X.w H' h'):Inv X pins σ H' {s with heap:=h',toks:=t'}:=by
 obtain⟨m,⟨o,es,ep,ho,r⟩,_⟩:=id I.loc;obtain⟨sl,hL⟩:=u.any ho I.free (by simp);exact I.step (g':=s.gens) (d':=s.drawn) (ch:=[]) (λ_ z=>nomatch z) (λb o _ hb _ e n=>u.keep b o e n hb (by simp)) (λb o _ hb _ e n=>u.slot b o e n hb (by simp)) (λb o _ e n=>u.free b o e n (by simp)) (λb o _ e=>u.there b o e (by simp)) u.z6 u.HL u.J2 (λm' hm=>by obtain⟨o',es',ep',ho',r'⟩:=hm;rw[ho]at ho';cases ho';exact⟨_,es',ep',hL,r'⟩) hok I.bare
def Inv.call {g':Array GenState}{t':Nat}{d':Drawn}{ch:List ae}(I:Inv X pins σ H s)(u:Un (Me X.stack) ch H H' s.heap h')(hok:zA X.prog X.w H' h')(hg:qW g')
  (hch:∀b∈ch,(b∈X.ex\/X.s₀.heap.objs.size<=b)/\b≠X.env.locals/\(∀x c,X.env.cells.lookup x=aa c->c≠b)/\∀p∈X.pn++pins,p.1≠b):
  Inv X pins σ H' {s with heap:=h',gens:=g',drawn:=d',toks:=t'}:=by
 obtain⟨m,⟨o,es,ep,ho,r⟩,_⟩:=id I.loc;obtain⟨sl,hL⟩:=u.any ho I.free λz=>(hch _ z).2.1 rfl;exact I.step (ch:=ch) hch (λb o hL hb hc e n=>u.keep b o e n (λz=>(aX.mp (I.HP b z)).elim hL hb) hc) (λb o _ _ hc e n=>u.any e n hc) (λb o hc e n=>u.free b o e n hc) (λb o hc e=>u.there b o e hc) u.z6 u.HL u.J2 (λm' hm=>by obtain⟨o',es',ep',ho',r'⟩:=hm;rw[ho]at ho';cases ho';exact⟨_,es',ep',hL,r'⟩) hok hg
def Inv.turned {t':Nat}{it:ae}(I:Inv X pins σ H s)(k:∀b o,b≠it->s.heap.get? b=aa o->h'.get? b=aa o)(hn:H it=none)(hL:it≠X.env.locals)
  (h1:it∈X.ex\/X.s₀.heap.objs.size<=it)(h2:∀x c,X.env.cells.lookup x=aa c->c≠it)(h3:∀p∈X.pn++pins,p.1≠it):Inv X pins σ H {s with heap:=h',toks:=t'}:=by
 have nit:∀b u,H b=aa u->b≠it:=λb u e z=>by rw[z,hn]at e;cases e
 refine I.step (g':=s.gens) (d':=s.drawn) (ch:=[it]) (λb hb=>?_) (λb o _ _ hc e _=>k b o (λz=>hc (by simp[z])) e) (λb o _ _ hc e _=>⟨o.slots,k b o (λz=>hc (by simp[z])) e⟩) (λ_ _ _ _ n=>n)
  (λb o hc e=>⟨o,k b o (λz=>hc (by simp[z])) e⟩) (λ_ _ e=>e) (λ_ _ _ e=>e) (λb ps e=>⟨#[],by rw[e];simp⟩) (λm hm=>?_) (λb u e=>?_) I.bare
 ·have e:b=it:=by simpa using hb
  subst e;exact⟨h1,hL,h2,h3⟩
 ·obtain⟨o,es,ep,ho,r⟩:=hm
  exact⟨o,es,ep,k _ o (Ne.symm hL) ho,r⟩
 ·refine(I.hok b u e).Ml (λc v hc q=>k c v ?_ q) (λ_ q=>q) λ_ _ q=>q
  rcases hc with z|z
  ·rw[z];exact nit b u e
  ·exact nit c _ z
def Inv.tok (I:Inv X pins σ H s)(t:Nat):Inv X pins σ H {s with toks:=t}:=I.un (h':=s.heap) (t':=t) Un.refl I.hok
theorem Inv.kept {t':Nat}(I:Inv X pins σ H s)(k:∀b u,s.heap.get? b=aa u->h'.get? b=aa u):Inv X pins σ H {s with heap:=h',toks:=t'}:=I.un (Un.kept k) (I.hok.kept k)
theorem Inv.laid {o:HO}{t':Nat}(I:Inv X pins σ H s)(k:∀b u,s.heap.get? b=aa u->h'.get? b=aa u)(hp:s.heap.objs.size<=a)(new:ig X.prog X.w (upd H a o) h' a o):
  Inv X pins σ (upd H a o) {s with heap:=h',toks:=t'}:=I.un (Un.laid k hp (I.hok.fresh hp)) (I.hok.laid k hp new)
theorem Inv.write {x e:ae}{o:HO}{t':Nat}(I:Inv X pins σ H s)(mu:Mut (H x))(he:e=x\/H e=aa (.own x))(k:∀b u,b≠e->s.heap.get? b=aa u->h'.get? b=aa u)(heo:∃u,h'.get? e=aa u)
  (new:ig X.prog X.w (upd H x o) h' x o):Inv X pins σ (upd H x o) {s with heap:=h',toks:=t'}:=I.un (Un.write mu he k heo) (I.hok.write mu he k heo new)
def Inv.N6 {abr:List (ae×Obj)}(I:Inv X pins σ H s)(h:∀p∈abr,s.heap.get? p.1=aa p.2/\H p.1=none/\p.1≠X.env.locals/\p.1∉X.fs/\∀v,p.2.data≠.cell v):Inv X abr σ H s:=
 ⟨I.ok,I.os,I.bare,I.base,I.loc,I.cell,I.free,I.zK,λp hp=>(cu.mp hp).elim (λz=>I.pin p (mW _ z)) (h p),I.hok,I.len⟩
def J3{N:List Str}(hN:N.Nodup){i j:Nat}(a:N[i]?=aa x)(b:N[j]?=aa x):i=j:=by obtain⟨h1,e1⟩:=bH.mp a;obtain⟨h2,e2⟩:=bH.mp b;exact(XY hN).mp (e1.trans e2.symm)
def Rz{M:Model}{A:bx}{E:ah->aj->Prop}{v:V}{u:ah}{Q:Unit->aj->Prop}(I:Inv X pins σ H s)(hN:X.N.Nodup)(hi:X.N[i]?=aa x)(hx:Loc X.env.scope x)(r:RelV v u)
  (h:∀s',Inv X pins (σ.set i (aa v)) H s'->(∃a,HQ a s.heap s'.heap/\(a=X.env.locals\/X.env.cells.lookup x=aa a))->Q () s')(hf:autoParam (X.fn x=true\/X.env.scope.names.lookup x=aa .local) xL):aG M A (N7 X.env x u) Q E s:=by
 obtain⟨m,hn,hl⟩:=id I.loc;have hcls:(X.env.scope.kind==.class||(X.env.scope.kind==.module&&X.env.locals !=X.env.globals))=false:=by rw[I.ok.kind];rfl
 have hiσ:i<σ.length:=by rw[I.len];exact(bH.mp hi).1
 have cne:=I.cne;have tracked:∀{a:ae}{h':aF},(∃o,s.heap.get? a=aa o/\H a=none)->HQ a s.heap h'->zA X.prog X.w H h':=λ{a h'} ha hs b ob e=>by
  obtain⟨_,_,hfree⟩:=ha;refine(I.hok b ob e).Ml (λc w' hc q=>(hs.2 c ?_).trans q) (λ_ q=>q) λ_ _ q=>q;rintro rfl;rcases hc with rfl|hc
  ·rw[hfree]at e;cases e
  ·rw[hfree]at hc;cases hc
 rcases hx with hk|hk
 ·refine wpAny_storeName_local hk hn (λh' hn' hs=>?_) hcls
  obtain⟨oL,_,_,hoL,_⟩:=id hn;refine h _ ⟨I.ok,I.os,I.bare,⟨λb o e n hb hx=>?_,λb o e n hb hx=>?_,I.base.free,λb o e hx=>?_,I.base.z6,I.base.HL,I.base.J2⟩,⟨_,hn',λj y v' e1 e2 e3=>?_⟩,λy c e=>?_,I.free,I.zK,λp hp=>?_,tracked ⟨oL,hoL,I.free⟩ hs,by simpa using I.len⟩ ⟨_,hs,.inl rfl⟩
  ·exact(hs.2 b (eU (dZ (bW e) I.ok.above))).trans (I.base.keep b o e n hb hx)
  ·obtain⟨sl,e1⟩:=I.base.slot b o e n hb hx
   exact⟨sl,(hs.2 b (eU (dZ (bW e) I.ok.above))).trans e1⟩
  ·obtain⟨o',e1⟩:=I.base.there b o e hx
   exact⟨o',(hs.2 b (eU (dZ (bW e) I.ok.above))).trans e1⟩
  ·by_cases hj:j=i
   ·subst hj
    rw[hi]at e1;cases e1;rw[mX hiσ]at e2;cases e2;exact⟨u,r,.inl ⟨hk,by simp⟩⟩
   ·rw[bw (Ne.symm hj)]at e2
    obtain⟨u',r',q⟩:=hl j y v' e1 e2 e3;refine⟨u',r',?_⟩;rcases q with⟨k,e⟩|⟨k,c,e,z⟩
    ·refine .inl ⟨k,?_⟩
     have:y≠x:=λe=>hj (J3 hN e1 (e▸hi));simp[this,e]
    ·exact .inr ⟨k,c,e,z.sameBut hs (cne y c e)⟩
  ·obtain⟨w',z⟩:=I.cell y c e
   exact⟨w',z.sameBut hs (cne y c e)⟩
  ·obtain⟨e,n,ne,nf,d⟩:=I.pin p hp
   exact⟨(hs.2 p.1 ne).trans e,n,ne,nf,d⟩
 ·have hfn:X.fn x=true:=by
   rcases hf with z|z
   ·exact z
   ·rw[z]at hk;cases hk
  obtain⟨c,hc⟩:=I.ok.has x (.inl hk);obtain⟨w',z⟩:=I.cell x c hc;refine wpAny_storeName_cell I.ok.kind hk hc z (λh' Tw hs=>?_);obtain⟨oc,hoc,ajT⟩:=id z;refine h {s with heap:=h'} ⟨I.ok,I.os,I.bare,⟨λb o e n hb hx=>?_,λb o e n hb hx=>?_,I.base.free,λb o e hx=>?_,I.base.z6,I.base.HL,I.base.J2⟩,⟨m,hn.sameBut hs (Ne.symm (cne x c hc)),λj y v' e1 e2 e3=>?_⟩,λy c' e=>?_,I.free,I.zK,λp hp=>?_,tracked ⟨oc,hoc,I.zK x c hc⟩ hs,by simpa using I.len⟩ ⟨c,hs,.inr hc⟩
  ·exact(hs.2 b (eU (dZ (bW e) (I.ok.cab x c hfn hc)))).trans (I.base.keep b o e n hb hx)
  ·obtain⟨sl,e1⟩:=I.base.slot b o e n hb hx
   exact⟨sl,(hs.2 b (eU (dZ (bW e) (I.ok.cab x c hfn hc)))).trans e1⟩
  ·obtain⟨o',e1⟩:=I.base.there b o e hx
   exact⟨o',(hs.2 b (eU (dZ (bW e) (I.ok.cab x c hfn hc)))).trans e1⟩
  ·by_cases hj:j=i
   ·subst hj
    rw[hi]at e1;cases e1;rw[mX hiσ]at e2;cases e2;exact⟨u,r,.inr ⟨.inl hk,c,hc,Tw⟩⟩
   ·rw[bw (Ne.symm hj)]at e2
    obtain⟨u',r',q⟩:=hl j y v' e1 e2 e3;refine⟨u',r',?_⟩;rcases q with q|⟨k,c',e,z'⟩
    ·exact .inl q
    ·refine .inr ⟨k,c',e,z'.sameBut hs ?_⟩
     rintro rfl;exact hj (J3 hN e1 (I.ok.inj _ _ _ e hc▸hi))
  ·by_cases hcc:c'=c
   ·subst hcc;exact⟨_,Tw⟩
   ·obtain⟨w2,z2⟩:=I.cell y c' e
    exact⟨w2,z2.sameBut hs hcc⟩
  ·obtain⟨e,n,ne,nf,d⟩:=I.pin p hp
   refine⟨(hs.2 p.1 ?_).trans e,n,ne,nf,d⟩;intro q;rw[q,hoc]at e;have q':oc=p.2:=ck.inj e;exact d w' (by rw[<-q'];exact ajT)
def EG{M:Model}{A:bx}{E:ah->aj->Prop}{v:V}{u:ah}{Q:Unit->aj->Prop}(I:Inv X pins σ H s)(hN:X.N.Nodup)(hi:X.N[i]?=aa x)(hx:Loc X.env.scope x)(r:RelV v u)
  (h:∀s',Inv X pins (σ.set i (aa v)) H s'->Q () s')(hf:autoParam (X.fn x=true\/X.env.scope.names.lookup x=aa .local) xL):aG M A (N7 X.env x u) Q E s:=
 Rz I hN hi hx r (λs' I' _=>h s' I') hf
def Inv.abt {s':aj}{ch:List ae}(I:Inv X pins σ H s)(ho:s'.os=s.os)(u:Un (Me X.stack) ch H H' s.heap s'.heap)(hok:zA X.prog X.w H' s'.heap)(hg:qW s'.gens)
  (hch:∀b∈ch,(b∈X.ex\/X.s₀.heap.objs.size<=b)/\b≠X.env.locals/\(∀x c,X.env.cells.lookup x=aa c->c≠b)/\∀p∈X.pn++pins,p.1≠b):Inv X pins σ H' s':=by
 obtain⟨h',g',d',t',o'⟩:=s';have e:o'=s.os:=ho;subst e;exact I.call (g':=g') (t':=t') (d':=d') u hok hg hch
end
abbrev XK:=ah->Option ae->Hp->Prop
abbrev St:=List (Option V)
abbrev VK:=V->Hp->Prop
abbrev TE:=St->Hp->VK->Prop
abbrev TT:=St->Hp->(Bool->Hp->Prop)->Prop
abbrev TA:=St->Hp->(List V->Hp->Prop)->Prop
structure Ends where
 nx:St->Hp->Prop
 rt:VK
 bk:St->Hp->Prop:=λ_ _=>False
 ct:St->Hp->Prop:=λ_ _=>False
abbrev TS:=Ends->St->Hp->Prop
inductive EP (X:Cx) (pins:List (ae×Obj)) (σ:St) (Q:VK) (u:ah) (s':aj):Prop
 |mk (v:V) (H':Hp):Inv X pins σ H' s'->RelV v u->Q v H'->EP X pins σ Q u s'
def TP(X:Cx)(pins:List (ae×Obj))(σ:St)(Q:Bool->Hp->Prop)(b:Bool)(s':aj):Prop:=∃H',Inv X pins σ H' s'/\Q b H'
def AP(X:Cx)(pins:List (ae×Obj))(σ:St)(Q:List V->Hp->Prop)(us:List ah)(s':aj):Prop:=∃vs H',Inv X pins σ H' s'/\Vals vs us/\Q vs H'
noncomputable def SP(X:Cx)(pins:List (ae×Obj))(D:Ends)(f:Flow)(s':aj):Prop:=
 match f with
 |.next=>∃σ' H',Inv X pins σ' H' s'/\D.nx σ' H'
 |.brk=>∃σ' H',Inv X pins σ' H' s'/\D.bk σ' H'
 |.cont=>∃σ' H',Inv X pins σ' H' s'/\D.ct σ' H'
 |.ret u=>∃v σ' H',Inv X pins σ' H' s'/\RelV v u/\D.rt v H'
def PE(X:Cx)(e:ao)(t:TE):Prop:=
 ∀(pins:List (ae×Obj))(s:aj)(σ:St)(H:Hp)(Q:VK),Inv X pins σ H s->t σ H Q->aG (aE X.prog X.w) X.A (az e X.env) (EP X pins σ Q) X.xe s
def PT(X:Cx)(e:ao)(t:TT):Prop:=
 ∀(pins:List (ae×Obj))(s:aj)(σ:St)(H:Hp)(Q:Bool->Hp->Prop),Inv X pins σ H s->t σ H Q->aG (aE X.prog X.w) X.A (isTrue e X.env (az e X.env)) (TP X pins σ Q) X.xe s
def PW(X:Cx)(e:ao)(t:TT):Prop:=
 ∀(whole:Sem ah)(pins:List (ae×Obj))(s:aj)(σ:St)(H:Hp)(Q:Bool->Hp->Prop),Inv X pins σ H s->t σ H Q->aG (aE X.prog X.w) X.A (isTrue e X.env whole) (TP X pins σ Q) X.xe s
def PW.pt {X:Cx}{t:TT}(h:PW X e t):PT X e t:=h _
def PA(X:Cx)(es:List ao)(t:TA):Prop:=
 ∀(pos:Pos)(pins:List (ae×Obj))(s:aj)(σ:St)(H:Hp)(Q:List V->Hp->Prop),Inv X pins σ H s->t σ H Q->aG (aE X.prog X.w) X.A (spliced (bF pos (ar es X.env))) (AP X pins σ Q) X.xe s
def PS(X:Cx)(st:aw)(t:TS):Prop:=
 ∀(pins:List (ae×Obj))(s:aj)(σ:St)(H:Hp)(D:Ends),Inv X pins σ H s->t D σ H->aG (aE X.prog X.w) X.A (exec st X.env) (SP X pins D) X.xe s
def zL(X:Cx)(st:List aw)(t:TS):Prop:=
 ∀(pins:List (ae×Obj))(s:aj)(σ:St)(H:Hp)(D:Ends),Inv X pins σ H s->t D σ H->aG (aE X.prog X.w) X.A (execs st X.env) (SP X pins D) X.xe s
def gh{α:Type}{t:Sem α}{Q Q':α->aj->Prop}{M:Model}{A:bx}{E:ah->aj->Prop}{s:aj}(h:aG M A t Q E s)(hQ:∀a s,Q a s->Q' a s):aG M A t Q' E s:=mY h hQ λ_ _ x=>x
end L2
variable {H:L2.Hp}{σ:L2.St}
namespace L2
open PySem PySem.Spec PyProof.Rows
section
variable{X:Cx}
def X0(i:Nat):TE:=λσ H Q=>∃v,σ[i]?=aa (aa v)/\Q v H
def tC(v:V):TE:=λ_ H Q=>Q v H
def mZ{pos:Pos}(hN:X.N[i]?=aa x)(hv:Dm X.env.scope x)(hd:autoParam ((x==("__debug__":Str))=false) xI)(hcd:autoParam ((x==("__classdict__":Str))=false) xI):PE X (.Name x pos) (X0 i):=by
 show 'c';obtain⟨v,e,h⟩:=h;obtain⟨m,hn,hl⟩:=I.loc;obtain⟨u,r,l⟩:=hl i x v hN e hv;have fin:EP X pins σ Q u s:=⟨v,H,I,r,h⟩
 rcases l with⟨hk,hm⟩|⟨hk,c,hc,hcell⟩
 ·exact Au (N8 I.ok.kind hk hn hm fin) hd
 ·rcases hk with hk|hk
  ·exact Au (N9 I.ok.kind hk hc hcell fin) hd
  ·exact Au (X1 I.ok.kind hk hc hcell fin hcd) hd
def m7{i j pos}:PE X (.Constant (.int i) j pos) (tC (.int i)):=λ_ _ _ H _ I h=>wpAny_Constant_int ⟨.int i,H,I.tok _,⟨_,rfl⟩,h⟩
def agp{b j pos}:PE X (.Constant (.bool b) j pos) (tC (.bl b)):=λ_ _ _ H _ I h=>Constant_bool ⟨.bl b,H,I,rfl,h⟩
def Tz{j pos}:PE X (.Constant .none j pos) (tC .non):=λ_ _ _ H _ I h=>Constant_none ⟨.non,H,I,rfl,h⟩
def acN{x j pos}:PE X (.Constant (.str x) j pos) (tC (.str x)):=λ_ _ _ H _ I h=>Calls.Constant_str ⟨.str x,H,I.tok _,⟨_,rfl⟩,h⟩
def Gl(X:Cx)(x:Str):Prop:=X.env.kindOf x=aa .globalImplicit
def HR{E:ah->aj->Prop}{s:aj}{u:ah}{pos:Pos}{Q:ah->aj->Prop}(I:Inv X pins σ H s)(hg:Gl X x)(hm:X.mg x=aa u)(h:Q u s)
  (hd:autoParam ((x==("__debug__":Str))=false) xI):aG (aE X.prog X.w) X.A (az (.Name x pos) X.env) Q E s:=
 X2 I.ok.kind hg (Calls.loadGlobal_global (by rw[I.ok.glob];exact I.mod.glob.keeps I.bk) hm h) hd
def pQ{E:ah->aj->Prop}{s:aj}{u:ah}{pos:Pos}{Q:ah->aj->Prop}(I:Inv X pins σ H s)(hg:Gl X x)(hm:X.mg x=none)(hv:fV x=aa u)(h:Q u s)
  (hn:autoParam (x≠"__name__") xI)(hd:autoParam ((x==("__debug__":Str))=false) xI):aG (aE X.prog X.w) X.A (az (.Name x pos) X.env) Q E s:=by
 obtain⟨mb,h1,h2⟩:=I.mod.blt;exact X2 I.ok.kind hg (Calls.loadGlobal_builtin (by rw[I.ok.glob];exact I.mod.glob.keeps I.bk) hm (by rw[I.ok.blt];exact h1.keeps I.bk) ((h2 x hn).trans hv) h) hd
def HS{v:V}{u:ah}{pos:Pos}(hg:Gl X x)(hm:X.mg x=aa u)(r:RelV v u)(hd:autoParam ((x==("__debug__":Str))=false) xI):PE X (.Name x pos) (tC v):=
 λ_ _ _ H _ I h=>HR I hg hm ⟨v,H,I,r,h⟩ hd
def X3{v:V}{u:ah}{pos:Pos}(hg:Gl X x)(hm:X.mg x=none)(hv:fV x=aa u)(r:RelV v u)(hn:autoParam (x≠"__name__") xI)(hd:autoParam ((x==("__debug__":Str))=false) xI):PE X (.Name x pos) (tC v):=
 λ_ _ _ H _ I h=>pQ I hg hm hv ⟨v,H,I,r,h⟩ hn hd
variable{a b:ao}{ta tb:TE}{pos:Pos}
noncomputable def PC(X:Cx)(op:vL)(a b:ao)(t:TE):Prop:=
 ∀(pins:List (ae×Obj))(s:aj)(σ:St)(H:Hp)(Q:VK),Inv X pins σ H s->t σ H Q->
  aG (aE X.prog X.w) X.A (az a X.env) (λv s₁=>aG (aE X.prog X.w) X.A (az b X.env) (λu s₂=>aG (aE X.prog X.w) X.A (jf op v u) (EP X pins σ Q) X.xe s₂) X.xe s₁) X.xe s
def TF(b:ao){op:vL}(h:op≠.In)(h2:op≠.NotIn):tK op b=false:=by
 have e1:(op==CmpOp.In)=false:=by cases op<;>first|rfl|exact absurd rfl h
 have e2:(op==X4)=false:=by cases op<;>first|rfl|exact absurd rfl h2
 cases b<;>simp[tK,e1,e2]
def tB(t:TE):TT:=λσ H Q=>t σ H λx H1=>∃c,x=.bl c/\Q c H1
def Mn{op:vL}{t:TE}(h:PC X op a b t)(h1:tK op b=false:=by first|exact TF _ (by decide) (by decide)|rfl):PT X (.Compare a [op] [b] pos) (tB t):=by intro pins s σ H Q I hw;refine X5 (gh (h pins s σ H _ I hw) λv s1 h1=>gh h1 λu s2 h2=>gh h2 λc s3 ⟨x,H1,I1,r1,q1⟩=>?_) h1;obtain⟨d,rfl,q⟩:=q1;cases r1;exact DN ⟨H1,I1,q⟩
def acO{t:TE}(h:PE X e t)(he:autoParam (∀whole,isTrue e X.env whole=(do let v<-whole;yA e.pos;lE [v] (truthy v))) wT):PT X e (tB t):=by intro pins s σ H Q I hw;refine isTrue_plain (gh (h pins s σ H _ I hw) λv s1 ⟨x,H1,I1,r1,q1⟩=>?_) (he _);obtain⟨d,rfl,q⟩:=q1;cases r1;exact DN ⟨H1,I1,q⟩
variable{tA tB':TT}{rest:List ao}
def ajU(t u:TT):TT:=λσ H Q=>t σ H λc H1=>if c=true then u σ H1 Q else Q false H1
def tOr(t u:TT):TT:=λσ H Q=>t σ H λc H1=>if c=true then Q true H1 else u σ H1 Q
def ajV(t:TT):TT:=λσ H Q=>t σ H λc H1=>Q (!c) H1
def pw_and1(ha:PT X a tA):PW X (.BoolOp .And [a] pos) tA:=by
 show 'O';refine isTrue_and (gh (ha pins s σ H Q I h) λc s1 e=>?_);cases c with
 |true=>exact isTrue_and_nil e
 |false=>exact e
def pw_or1(ha:PT X a tA):PW X (.BoolOp .Or [a] pos) tA:=by
 show 'O';refine isTrue_or (gh (ha pins s σ H Q I h) λc s1 e=>?_);cases c with
 |false=>exact isTrue_or_nil e
 |true=>exact e
def pw_and(ha:PT X a tA)(hb:PW X (.BoolOp .And (b::rest) pos) tB'):PW X (.BoolOp .And (a::b::rest) pos) (ajU tA tB'):=by
 show 'O';refine isTrue_and (gh (ha pins s σ H _ I h) λc s1 ⟨H1,I1,q1⟩=>?_);cases c with
 |true=>show 'Â'
 |false=>exact⟨H1,I1,q1⟩
def pw_or(ha:PT X a tA)(hb:PW X (.BoolOp .Or (b::rest) pos) tB'):PW X (.BoolOp .Or (a::b::rest) pos) (tOr tA tB'):=by
 show 'O';refine isTrue_or (gh (ha pins s σ H _ I h) λc s1 ⟨H1,I1,q1⟩=>?_);cases c with
 |true=>exact⟨H1,I1,q1⟩
 |false=>show 'Â'
def acP(ha:PT X a tA):PT X (.UnaryOp .Not a pos) (ajV tA):=by intro pins s σ H Q I h;exact isTrue_not (ha pins s σ H (λc H1=>Q (!c) H1) I h)
def agq(ta tb:TE):TE:=λσ H Q=>ta σ H λx H1=>∃c,x=.bl c/\if c=true then tb σ H1 Q else Q (.bl false) H1
def agr(ta:TE):TE:=λσ H Q=>ta σ H λx H1=>∃c,x=.bl c/\Q (.bl (!c)) H1
def acQ{op}{t:TE}(h:PE X a t):PE X (.BoolOp op [a] pos) t:=λpins s σ H Q I hw=>BoolOp_one (h pins s σ H Q I hw)
def acR(ha:PE X a ta)(hb:PE X (.BoolOp .And (b::rest) pos) tb):PE X (.BoolOp .And (a::b::rest) pos) (agq ta tb):=by
 show 'c';refine BoolOp_and (gh (ha pins s σ H _ I h) λv s1 ⟨x,H1,I1,r1,q1⟩=>?_);obtain⟨c,rfl,q1⟩:=q1;cases r1;refine DN ?_;cases c with
 |true=>show 'Ñ'
 |false=>exact⟨.bl false,H1,I1,rfl,q1⟩
def acS(ha:PE X a ta):PE X (.UnaryOp .Not a pos) (agr ta):=by intro pins s σ H Q I h;refine UnaryOp_ (gh (ha pins s σ H _ I h) λv s1 ⟨x,H1,I1,r1,q1⟩=>?_);obtain⟨c,rfl,q1⟩:=q1;cases r1;exact not_of (DN ⟨.bl (!c),H1,I1,rfl,q1⟩)
def tIf(t:TT)(ta tb:TE):TE:=λσ H Q=>t σ H λc H1=>if c=true then ta σ H1 Q else tb σ H1 Q
def TH{c:ao}(hc:PT X c tA)(ha:PE X a ta)(hb:PE X b tb):PE X (.IfExp c a b pos) (tIf tA ta tb):=by
 show 'c';refine wpAny_IfExp (gh (hc pins s σ H _ I h) λd s1 ⟨H1,I1,q1⟩=>?_);cases d with
 |true=>exact ha pins s1 σ H1 Q I1 q1
 |false=>show 'Ñ'
end
end L2
namespace L2
open PySem PySem.Spec PyProof.Rows
def gS(K:ak)(H:Hp)(a:ae)(xs:List V):Prop:=
 Rd H a (.lst xs)\/
  ∃(o:Obj)(its:Array ah)(n:Nat),K.lookup a=aa o/\o.cls=.type "list"/\o.dict=none/\o.data=.seq its n/\its.size<=aK/\Vals xs its.toList
def Ka(K:ak)(H:Hp)(a:ae)(xs:List V):Prop:=
 Rd H a (.tup xs)\/
  ∃(o:Obj)(its:Array ah)(n:Nat),K.lookup a=aa o/\o.cls=.type "tuple"/\o.data=.seq its n/\its.size<=aK/\Vals xs its.toList
def ajW:ah->Option V
 |.none=>aa .non
 |.bool b=>aa (.bl b)
 |.int i _=>aa (.int i)
 |.str x _=>aa (.str x)
 |.bytes b _=>aa (.S7 b)
 |.float b _=>aa (.flt b)
 |.ref a=>aa (.ref a)
 |.type n=>aa (.ty n)
 |_=>none
def RelV.abs {x:V}{u:ah}(r:RelV x u):ajW u=aa x:=by
 cases x with
 |non=>cases r;rfl
 |bl _=>cases r;rfl
 |ref _=>cases r;rfl
 |ty _=>cases r;rfl
 |_=>obtain⟨t,rfl⟩:=r;rfl
theorem RelV.inj {x y:V}{u:ah}(r:RelV x u)(q:RelV y u):x=y:=ck.inj (r.abs.symm.trans q.abs)
theorem Vals.inj:∀{xs ys:List V}{us:List ah},Vals xs us->Vals ys us->xs=ys
 |_,_,_,.nil,.nil=>rfl
 |_,_,_,.cons r t,.cons r' t'=>by rw[r.inj r',Vals.inj t t']
section
variable{X:Cx}{pins:List (ae×Obj)}{σ:St}{H:Hp}{s:aj}{a:ae}{xs ys:List V}
def gS.of {K:ak}(h:H a=aa (.lst xs)):gS K H a xs:=.inl (.inl h)
def Ka.of {K:ak}(h:H a=aa (.tup xs)):Ka K H a xs:=.inl (.inl h)
def Inv.list (I:Inv X pins σ H s)(h:gS X.K H a xs):∃its:List ah,Vals xs its/\PlainL s.heap a its.toArray/\xs.length<=aK:=by
 rcases h with h|⟨o,its,n,hk,hc,hd,hs,hz,r⟩
 ·obtain⟨z,its,n,r,e⟩:=h.ok I.hok
  exact⟨its,r,⟨_,n,e,rfl,rfl,rfl⟩,z⟩
 ·refine⟨its.toList,r,⟨o,n,I.B1 a o hk,hc,hd,by simpa using hs⟩,?_⟩
  have e:=r.length;simp only [X6]at e;lia
def Inv.tuple (I:Inv X pins σ H s)(h:Ka X.K H a xs):∃its:List ah,Vals xs its/\IsTup s.heap a its.toArray/\xs.length<=aK:=by
 rcases h with h|⟨o,its,n,hk,hc,hs,hz,r⟩
 ·obtain⟨z,its,r,p⟩:=h.ok I.hok
  exact⟨its,r,p,z⟩
 ·refine⟨its.toList,r,⟨o,I.B1 a o hk,hc,n,by simpa using hs⟩,?_⟩
  have e:=r.length;simp only [X6]at e;lia
def Inv.Av (I:Inv X pins σ H s)(h:gS X.K H a xs)(h':gS X.K H a ys):xs=ys:=by
 obtain⟨its,r,⟨o,n,e,_,_,d⟩,_⟩:=I.list h;obtain⟨its',r',⟨o',n',e',_,_,d'⟩,_⟩:=I.list h';rw[e]at e';cases e';rw[d]at d';injection d' with d1 _;have:its=its':=by simpa using congrArg X7 d1
 subst this;exact r.inj r'
def Inv.RA (I:Inv X pins σ H s)(h:Ka X.K H a xs)(h':Ka X.K H a ys):xs=ys:=by
 obtain⟨its,r,⟨o,e,_,n,d⟩,_⟩:=I.tuple h;obtain⟨its',r',⟨o',e',_,n',d'⟩,_⟩:=I.tuple h';rw[e]at e';cases e';rw[d]at d';injection d' with d1 _;have:its=its':=by simpa using congrArg X7 d1
 subst this;exact r.inj r'
end
abbrev Cx.Gj (X:Cx)(E:ah->aj->Prop):Cx:={X with xe:=E}
abbrev Cx.S8 (X:Cx):Cx:=X.Gj λ_ _=>False
theorem Cx.Ok.Gj {X:Cx}(ok:X.Ok)(E:ah->aj->Prop):(X.Gj E).Ok:=
 ⟨ok.mod,ok.kind,ok.glob,ok.blt,ok.above,ok.inj,ok.has,ok.cab,ok.hd,ok.frames,ok.stk,ok.exf,ok.bs,ok.Xw,ok.Ry,ok.Mm,ok.B5,ok.frf⟩
def Cx.Ok.xP {X:Cx}{E:ah->aj->Prop}(ok:(X.Gj E).Ok):X.Ok:=
 ⟨ok.mod,ok.kind,ok.glob,ok.blt,ok.above,ok.inj,ok.has,ok.cab,ok.hd,ok.frames,ok.stk,ok.exf,ok.bs,ok.Xw,ok.Ry,ok.Mm,ok.B5,ok.frf⟩
section
variable{X:Cx}{pins:List (ae×Obj)}{σ:St}{H:Hp}{s:aj}{E:ah->aj->Prop}
theorem Inv.Gj (I:Inv X pins σ H s)(E:ah->aj->Prop):Inv (X.Gj E) pins σ H s:=⟨I.ok.Gj E,I.os,I.bare,I.base,I.loc,I.cell,I.free,I.zK,I.pin,I.hok,I.len⟩
theorem Inv.xP (I:Inv (X.Gj E) pins σ H s):Inv X pins σ H s:=⟨I.ok.xP,I.os,I.bare,I.base,I.loc,I.cell,I.free,I.zK,I.pin,I.hok,I.len⟩
theorem SP.xP {D:Ends}{f:Flow}{s':aj}(h:SP (X.Gj E) pins D f s'):SP X pins D f s':=by
 cases f with
 |ret u=>obtain⟨v,σ',H',I,r,q⟩:=h;exact⟨v,σ',H',I.xP,r,q⟩
 |_=>obtain⟨σ',H',I,q⟩:=h;exact⟨σ',H',I.xP,q⟩
theorem zL.S8 {st:List aw}{t:TS}(h:zL X.S8 st t):zL X st t:=λpins s σ H D I hw=>
 mY (h pins s σ H D (I.Gj _) hw) (λ_ _ q=>q.xP) λ_ _ z=>kC z
end
section
variable{X:Cx}{st:aw}{rest:List aw}{t u:TS}{e:ao}{te:TE}{pos:Pos}
def ags:TS:=λD σ H=>D.nx σ H
def ajX(t u:TS):TS:=λD σ H=>t {D with nx:=u D} σ H
def tN:zL X [] ags:=λ_ _ σ H _ I h=>HU ⟨σ,H,I,h⟩
def bz(h1:PS X st t)(h2:zL X rest u):zL X (st::rest) (ajX t u):=by
 show 'n';refine X8 (gh (h1 pins s σ H {D with nx:=u D} I h) λf s1 q=>?_);cases f with
 |next=>
  obtain⟨σ',H',I',q⟩:=q;exact h2 pins s1 σ' H' D I' q
 |ret v=>exact q
 |_=>exact q
def fz(h1:PS X st t):zL X [st] t:=by
 show 'n';refine X8 (gh (h1 pins s σ H D I h) λf s1 q=>?_);cases f with
 |next=>exact HU q
 |ret v=>exact q
 |_=>exact q
def acT:TS:=λD σ H=>D.bk σ H
def TJ:PS X (.Break pos) acT:=λ_ _ σ H _ I h=>wpAny_Break ⟨σ,H,I,h⟩
def Inv.quiet {s:aj}(I:Inv X pins σ H s):interactive X.env=false:=by simp[interactive,I.ok.kind]
def agt(te:TE):TS:=λD σ H=>te σ H λ_ H1=>D.nx σ H1
def kD(he:PE X e te)(hs:autoParam (iH e none pos.line X.env=bj false) wS):PS X (.Expr e pos) (agt te):=by intro pins s σ H D I h;exact wpAny_Expr_any (gh (he pins s σ H _ I h) λv s1 ⟨x,H1,I1,r1,q1⟩=>⟨σ,H1,I1,q1⟩) I.quiet hs
def ajY(te:TE):TS:=λD σ H=>te σ H D.rt
def uA(he:PE X e te):PS X (.Return (aa e) pos) (ajY te):=by intro pins s σ H D I h;exact wpAny_Return_some (gh (he pins s σ H _ I h) λv s1 ⟨x,H1,I1,r1,q1⟩=>⟨x,σ,H1,I1,r1,q1⟩)
def ajZ(c:TT)(t u:TS):TS:=λD σ H=>c σ H λb H1=>if b=true then t D σ H1 else u D σ H1
def C1{c:ao}{a b:List aw}{tc:TT}(hc:PT X c tc)(ha:zL X a t)(hb:zL X b u):PS X (.If c a b pos) (ajZ tc t u):=by
 show 'n';refine wpAny_If (gh (hc pins s σ H _ I h) λd s1 ⟨H1,I1,q1⟩=>?_);cases d with
 |true=>exact ha pins s1 σ H1 D I1 q1
 |false=>exact hb pins s1 σ H1 D I1 q1
end
abbrev TG:=V->St->Hp->(St->Hp->Prop)->Prop
abbrev X9:=List V->St->Hp->(St->Hp->Prop)->Prop
def PG(X:Cx)(target:ao)(t:TG):Prop:=
 ∀(pins:List (ae×Obj))(s:aj)(σ:St)(H:Hp)(v:V)(u:ah)(Q:St->Hp->Prop),Inv X pins σ H s->RelV v u->t v σ H Q->
  aG (aE X.prog X.w) X.A (p6 target X.env u) (λ_ s'=>∃σ' H',Inv X pins σ' H' s'/\Q σ' H') X.xe s
noncomputable def Oa(X:Cx)(ts:List ao)(t:X9):Prop:=
 ∀(pins:List (ae×Obj))(s:aj)(σ:St)(H:Hp)(vs:List V)(us:List ah)(Q:St->Hp->Prop),Inv X pins σ H s->Vals vs us->t vs σ H Q->
  aG (aE X.prog X.w) X.A (assignInOrder ((jg ts X.env).map (·.2)) us) (λ_ s'=>∃σ' H',Inv X pins σ' H' s'/\Q σ' H') X.xe s
abbrev acU:=V->V->V->Hp->(Hp->Prop)->Prop
def agu(X:Cx)(t:acU):Prop:=
 ∀(pins:List (ae×Obj))(s:aj)(σ:St)(H:Hp)(o i v:V)(ov iv u:ah)(Q:Hp->Prop),Inv X pins σ H s->RelV o ov->RelV i iv->RelV v u->t o i v H Q->
  aG (aE X.prog X.w) X.A (DP ov iv u) (λ_ s'=>∃H',Inv X pins σ H' s'/\Q H') X.xe s
abbrev TIp:=V->V->Hp->VK->Prop
def PIp(X:Cx)(op:Aw)(t:TIp):Prop:=
 ∀(pins:List (ae×Obj))(s:aj)(σ:St)(H:Hp)(x y:V)(v u:ah)(Q:VK),Inv X pins σ H s->RelV x v->RelV y u->t x y H Q->
  aG (aE X.prog X.w) X.A (inplaceOp op v u) (EP X pins σ Q) X.xe s
section
variable{X:Cx}{pos:Pos}
def TN(i:Nat):TG:=λv σ H Q=>Q (σ.set i (aa v)) H
def HV(hN:X.N.Nodup)(hi:X.N[i]?=aa x)(hx:Loc X.env.scope x)(hf:autoParam (X.fn x=true\/X.env.scope.names.lookup x=aa .local) xL):PG X (.Name x pos) (TN i):=by intro pins s σ H v u Q I r h;exact wpAny_assign_Name (EG I hN hi hx r (λs' I'=>⟨_,H,I',h⟩) hf)
def aj0:X9:=λvs σ H Q=>vs=[]/\Q σ H
def agv(t:TG)(u:X9):X9:=λvs σ H Q=>∃v r,vs=v::r/\t v σ H λσ' H'=>u r σ' H' Q
def Yb:Oa X [] aj0:=by intro pins s σ H vs us Q I r h;obtain⟨e,h⟩:=h;subst e;cases r;exact assignInOrder_nil ⟨σ,H,I,h⟩
def TQ{e:ao}{es:List ao}{t:TG}{u:X9}(h1:PG X e t)(h2:Oa X es u)
  (hs:autoParam ((jg (e::es) X.env).map (·.2)=p6 e X.env::(jg es X.env).map (·.2)) wS):Oa X (e::es) (agv t u):=by
 intro pins s σ H vs us Q I r h;obtain⟨v,vr,e1,h⟩:=h;subst e1;cases r with
 |cons r rr=>
  rw[hs];refine assignInOrder_cons (gh (h1 pins s σ H _ _ _ I r h) λ_ s1 ⟨σ1,H1,I1,q1⟩=>?_);exact h2 pins s1 σ1 H1 _ _ Q I1 rr q1
def aj1(K:ak)(n:Nat)(t:X9):TG:=λv σ H Q=>∃a xs,v=.ref a/\Ka K H a xs/\xs.length=n/\t xs σ H Q
def acV{es:List ao}{t:X9}(hc:X.calm=true)(h:Oa X es t)
  (hn:autoParam ((jg es X.env).length=n) wS)(hst:autoParam ((jg es X.env).findIdx? (·.1)=none) wS):PG X (.Tuple es k pos) (aj1 X.K n t):=by
 intro pins s σ H v u Q I r hw;obtain⟨a,xs,e1,hq,hl,hw⟩:=hw;subst e1;cases r;obtain⟨its,rv,ht,hz⟩:=I.tuple hq;refine assign_Tuple_tuple (I.ok.hd hc) ht (by simp[hn,<-hl,rv.length]) hst λh' hx=>?_;have I1:Inv X pins σ H {s with heap:=h'}:=I.kept (t':=s.toks) λb o e=>hx b o (eU (bW e)) e;exact h pins _ σ H xs _ Q I1 (by simpa using rv) hw
def aj2(to ti:TE)(t:acU):TG:=λv σ H Q=>to σ H λo H1=>ti σ H1 λi H2=>t o i v H2 λH3=>Q σ H3
def Mp{o i:ao}{to ti:TE}{t:acU}(ho:PE X o to)(hi:PE X i ti)(hs:agu X t)
  (ha:autoParam (∀v,p6 (.Subscript o i pos) X.env v=(do
   let ov<-lE [v] (az o X.env);let iv<-lE [v,ov] (az i X.env)
   yA pos
   lE [v,ov,iv] (DP ov iv v)
   release [v,ov,iv] [])) wT):PG X (.Subscript o i pos) (aj2 to ti t):=by
 intro pins s σ H v u Q I r h;rw[ha];refine bJ (DQ (gh (ho pins s σ H _ I h) λov s1 ⟨x,H1,I1,r1,q1⟩=>?_));refine bJ (DQ (gh (hi pins s1 σ H1 _ I1 q1) λiv s2 ⟨y,H2,I2,r2,q2⟩=>?_));refine bJ (wpAny_standAt (bJ (DQ (gh (hs pins s2 σ H2 x y v ov iv u _ I2 r1 r2 r q2) λ_ s3 ⟨H3,I3,q3⟩=>?_))));exact wpAny_release ⟨σ,H3,I3,q3⟩
def agw(te:TE)(g:TG):TS:=λD σ H=>te σ H λx H1=>g x σ H1 D.nx
def Mq{tg e:ao}{te:TE}{g:TG}(he:PE X e te)(hg:PG X tg g)(hs:autoParam (Ob [tg] e pos.line X.env=bj false) wS)(hw:autoParam (Oc [tg] e X.env=bj none) wS)
  (h1:autoParam ((jg [tg] X.env).map (·.2)=[p6 tg X.env]) wS):PS X (.Assign [tg] e pos) (agw te g):=by
 show 'n';refine wpAny_Assign_stores (gh (he pins s σ H _ I h) λv s1 ⟨x,H1,I1,r1,q1⟩=>?_) hs hw;rw[h1];exact gh (hg pins s1 σ H1 x v _ I1 r1 q1) λ_ s2 q=>q
def iP{te:TE}{pos':Pos}(hN:X.N.Nodup)(hi:X.N[i]?=aa x)(hx:Loc X.env.scope x)(he:PE X e te)(hs:autoParam (iH e (aa (.Name x pos')) pos.line X.env=bj false) wS)(hf:autoParam (X.fn x=true\/X.env.scope.names.lookup x=aa .local) xL):
  PS X (.Assign [.Name x pos'] e pos) (agw te (TN i)):=by
 show 'n';refine wpAny_Assign_Name (gh (he pins s σ H _ I h) λv s1 ⟨y,H1,I1,r1,q1⟩=>?_) hs;exact EG I1 hN hi hx r1 (λs2 I2=>⟨_,H1,I2,q1⟩) hf
def aj3(i:Nat)(te:TE)(ti:TIp):TS:=λD σ H=>∃x,σ[i]?=aa (aa x)/\te σ H λy H1=>ti x y H1 λz H2=>D.nx (σ.set i (aa z)) H2
def Mr{te:TE}{op:Aw}{ti:TIp}{pos':Pos}(hN:X.N.Nodup)(hi:X.N[i]?=aa x)(hx:Loc X.env.scope x)(he:PE X e te)(ho:PIp X op ti)(hf:autoParam (X.fn x=true\/X.env.scope.names.lookup x=aa .local) xL):
  PS X (.AugAssign (.Name x pos') op e pos) (aj3 i te ti):=by
 show 'n';obtain⟨v,e1,h⟩:=h;obtain⟨m,hn,hl⟩:=I.loc;have vis:Dm X.env.scope x:=by rcases hx with k|k;exact .inl k;exact .inr (.inl k)
 obtain⟨u,r,l⟩:=hl i x v hi e1 vis;refine wpAny_AugAssign_Name ?_;have go:aG (aE X.prog X.w) X.A (az e X.env) (λw s₂=>aG (aE X.prog X.w) X.A (inplaceOp op u w) (λr s₃=>aG (aE X.prog X.w) X.A (N7 X.env x r) (λ_=>SP X pins D .next) X.xe s₃) X.xe s₂) X.xe s:=by refine gh (he pins s σ H _ I h) λw s1 ⟨y,H1,I1,r1,q1⟩=>?_;refine gh (ho pins s1 σ H1 v y u w _ I1 r r1 q1) λz s2 ⟨zv,H2,I2,r2,q2⟩=>?_;exact EG I2 hN hi hx r2 (λs3 I3=>⟨_,H2,I3,q2⟩) hf
 rcases l with⟨hk,hm⟩|⟨hk,c,hc,hcell⟩
 ·exact N8 I.ok.kind hk hn hm go
 ·rcases hk with hk|hk
  ·exact N9 I.ok.kind hk hc hcell go
  ·rcases hx with k|k
   ·have:X.env.scope.names.lookup x=aa .free:=hk
    rw[k]at this;cases this
   ·have:X.env.scope.names.lookup x=aa .free:=hk
    rw[k]at this;cases this
def ipI(f:Int->Int->Int):TIp:=λx y H Q=>∃i j,x=.int i/\y=.int j/\Q (.int (f i j)) H
def TR:PIp X .Add (ipI λi j=>i+j):=by intro pins s σ H x y v u Q I r1 r2 h;obtain⟨i,j,e1,e2,q⟩:=h;subst e1;subst e2;obtain⟨t,rfl⟩:=r1;obtain⟨t',rfl⟩:=r2;exact iadd_int ⟨.int _,H,I.tok _,⟨_,rfl⟩,q⟩
def acW:PIp X .Sub (ipI λi j=>i-j):=by intro pins s σ H x y v u Q I r1 r2 h;obtain⟨i,j,e1,e2,q⟩:=h;subst e1;subst e2;obtain⟨t,rfl⟩:=r1;obtain⟨t',rfl⟩:=r2;exact isub_int ⟨.int _,H,I.tok _,⟨_,rfl⟩,q⟩
end
section
variable{X:Cx}{pos:Pos}
def acX(c:TT)(tb:TS):TS:=λD σ H=>∃W:Nat->St->Hp->Prop,(∃m,W m σ H)/\∀m σ H,W m σ H->
 c σ H λb H1=>if b=true then∃N:St->Hp->Prop,(∀σ' H',N σ' H'->∃m',m'<m/\W m' σ' H')/\tb {D with nx:=N,ct:=N,bk:=D.nx} σ H1 else D.nx σ H1
def Ay{c:ao}{body:List aw}{tc:TT}{tb:TS}(hp:HW (aE X.prog X.w) X.A X.env X.xe)(hc:PT X c tc)(hb:zL X body tb):PS X (.While c body [] pos) (acX tc tb):=by
 show 'n';obtain⟨W,⟨m0,w0⟩,turn⟩:=h;refine wpAny_While (codeAny_whileLoop (λn s'=>∃σ' H',Inv X pins σ' H' s'/\W n σ' H') ?_ m0 ⟨σ,H,I,w0⟩);rintro n s1 ⟨σ1,H1,I1,w1⟩;refine yB hp (gh (hc pins s1 σ1 H1 _ I1 (turn n σ1 H1 w1)) λb s2 ⟨H2,I2,q2⟩=>?_);cases b with
 |true=>
  obtain⟨N,hN,q2⟩:=q2;rw[if_pos rfl];refine yB hp (gh (hb pins s2 σ1 H2 _ I2 q2) λf s3 q3=>?_);cases f with
  |next=>
   obtain⟨σ3,H3,I3,n3⟩:=q3;obtain⟨m',hm,w3⟩:=hN σ3 H3 n3;show '_'
  |cont=>
   obtain⟨σ3,H3,I3,n3⟩:=q3;obtain⟨m',hm,w3⟩:=hN σ3 H3 n3;show '_'
  |brk=>exact q3
  |ret v=>exact q3
 |false=>
  rw[if_neg iI];exact HU ⟨σ1,H2,I2,q2⟩
end
structure It where
 go:Nat->Hp->Prop
 yld:Nat->Hp->V->Hp->Prop
 stop:Nat->Hp->Prop
def xJ(X:Cx)(pins:List (ae×Obj))(H:Hp)(b:ae):Prop:=
 H b=none/\b≠X.env.locals/\b∉X.fs/\(b∈X.ex\/X.s₀.heap.objs.size<=b)/\(∀x c,X.env.cells.lookup x=aa c->c≠b)/\∀p∈X.pn++pins,p.1≠b
def Inv.RB {X:Cx}{H H':Hp}{s:aj}{b:ae}(I:Inv X pins σ H s)(hb:s.heap.objs.size<=b)(hn:H' b=none):xJ X pins H' b:=by
 refine⟨hn,DR (dZ I.lt hb),I.ajQ hb,.inr (lD I.sz hb),λx c e z=>?_,λp hp z=>?_⟩
 ·obtain⟨v,q⟩:=I.cell x c e
  exact absurd (dZ q.lt (by rw[z];exact hb)) (vK _)
 ·exact absurd (dZ (bW (I.pin p hp).1) (by rw[z];exact hb)) (vK _)
structure Turn(P:aS)(w:aD)(K:ak)(tg:ao)(J:It)(fp:List ae)(it:ae)(tn:Nat->aF->Prop):Prop where
 mem:it∈fp
 obj:∀i h,tn i h->∀b∈fp,∃o,h.get? b=aa o/\∀v,o.data≠.cell v
 keep:∀i h h',tn i h->(∀b∈fp,∀o,h.get? b=aa o->h'.get? b=aa o)->tn i h'
 item:∀(X:Cx),X.prog=P->X.w=w->X.K=K->X.calm=true->∀(i:Nat)(pins:List (ae×Obj))(s:aj)(σ:St)(H:Hp)(E:ah->aj->Prop),Inv X pins σ H s->(∀b∈fp,xJ X pins H b)->tn i s.heap->J.go i H->
  aG (aE P w) X.A (pyNext (.ref it)) (λr s1=>∃u,r=aa u/\
   aG (aE P w) X.A (HX tg (.ref it) u) (λ_ s2=>∃x H',Inv X pins σ H' s2/\RelV x u/\J.yld i H x H'/\tn (i+1) s2.heap/\∀b∈fp,H' b=none) E s1) E s
 done:∀(X:Cx),X.prog=P->X.w=w->X.K=K->X.calm=true->∀(i:Nat)(pins:List (ae×Obj))(s:aj)(σ:St)(H:Hp)(E:ah->aj->Prop),Inv X pins σ H s->(∀b∈fp,xJ X pins H b)->tn i s.heap->J.stop i H->
  aG (aE P w) X.A (pyNext (.ref it)) (λr s1=>r=none/\Inv X pins σ H s1) E s
 self:∀(A:bx)(i:Nat)(s:aj)(Q:ah->aj->Prop)(E:ah->aj->Prop),tn i s.heap->Q (.ref it) s->aG (aE P w) A (pyIter (.ref it)) Q E s
abbrev TI:=St->Hp->(It->Hp->Prop)->Prop
def PIE(X:Cx)(pins:List (ae×Obj))(σ:St)(tg:ao)(R:It->Hp->Prop)(itv:ah)(s2:aj):Prop:=
 ∃(it:ae)(fp:List ae)(tn:Nat->aF->Prop)(J:It)(H':Hp),itv=.ref it/\Inv X pins σ H' s2/\Turn X.prog X.w X.K tg J fp it tn/\tn 0 s2.heap/\(∀b∈fp,xJ X pins H' b)/\R J H'
def PI(X:Cx)(tg iter:ao)(wi:TI):Prop:=
 ∀(pins:List (ae×Obj))(s:aj)(σ:St)(H:Hp)(R:It->Hp->Prop),Inv X pins σ H s->wi σ H R->
  aG (aE X.prog X.w) X.A (az iter X.env) (λv s1=>aG (aE X.prog X.w) X.A (pyIter v) (PIE X pins σ tg R) X.xe s1) X.xe s
def TU{M:Model}{A:bx}{E:ah->aj->Prop}{s:aj}{tg:ao}{it:ae}{u:ah}{o:Obj}{n:String}{vs:Array ah}{Q:Unit->aj->Prop}(ho:s.heap.get? it=aa o)(hc:o.cls=.type n)(hd:o.data=.fields vs)
  (hn:["enumerate","zip","dict_itemiterator","dict_reverseitemiterator","odict_iterator","itertools.zip_longest","itertools.pairwise"].contains n=false)(hQ:Q () s):aG M A (HX tg (.ref it) u) Q E s:=by
 unfold HX;cases tg<;>first
  |exact ee hQ
  |(cases u<;>first
    |exact ee hQ
    |(refine bJ (wpAny_load ho ?_)
      rw[hc,hd];show aG M A (if(["enumerate","zip","dict_itemiterator","dict_reverseitemiterator","odict_iterator","itertools.zip_longest","itertools.pairwise"].contains n&&vs[0]?==aa (rawInt _))=true then _ else _) Q E s;rw[if_neg (by intro h;rw[hn,tP]at h;cases h)];exact ee hQ))
def Itl(K:ak)(a:ae):It:=
 ⟨λi H=>∃xs x,gS K H a xs/\xs[i]?=aa x,λi H x H'=>H'=H/\∀xs,gS K H a xs->xs[i]?=aa x,λi H=>∃xs,gS K H a xs/\xs.length<=i⟩
def Itr(lo:Int)(n:Nat):It:=⟨λi _=>i<n,λi H x H'=>H'=H/\x=.int (lo+i),λi _=>n<=i⟩
def RD{P:aS}{w:aD}{K:ak}{tg:ao}(a it:ae):Turn P w K tg (Itl K a) [it] it (λi h=>h.IsListIter it a i) where
 mem:=by simp
 obj:=λi h st b hb=>by
  have e:b=it:=by simpa using hb
  subst e;obtain⟨o,e,c,d⟩:=st;exact⟨o,e,λv z=>by rw[d]at z;cases z⟩
 keep:=λi h h' st k=>st.at λo e=>k it (by simp) o e
 item:=by intro X hP hw hK hc i pins s σ H E I hf st hg;show ':';obtain⟨xs,x,hq,hx⟩:=hg;show 'X';obtain⟨u,hu,ru⟩:=rv.get hx;obtain⟨f0,f1,f2,f3,f4,f5⟩:=hf it (by simp);refine wpAny_pyNext_list_item st p.isList (x:=u) (by simpa using hu) λh' Yc sb=>?_;have I1:Inv X pins σ H {s with heap:=h'}:=I.turned (t':=s.toks) (λb o hb e=>(sb.2 b hb).trans e) f0 f1 f3 f4 f5;obtain⟨o,e,c,d⟩:=id Yc;exact⟨u,rfl,TU (s:={s with heap:=h'}) e c d (by decide) ⟨x,H,I1,ru,⟨rfl,λys hy=>by rw[I.Av hy hq];exact hx⟩,Yc,λb hb=>(hf b hb).1⟩⟩
 done:=by intro X hP hw hK hc i pins s σ H E I hf st hg;show ':';obtain⟨xs,hq,hx⟩:=hg;show 'X';obtain⟨f0,f1,f2,f3,f4,f5⟩:=hf it (by simp);have hl:=rv.length;exact wpAny_pyNext_list_end (I.ok.hd hc) st p.isList (by simp;lia) λh' eb=>⟨rfl,I.turned (t':=s.toks) (λb o hb e=>eb b o hb e) f0 f1 f3 f4 f5⟩
 self:=λ_ _ _ _ _ st h=>wpAny_pyIter_listiter st h
def Ms{P:aS}{w:aD}{K:ak}{tg:ao}(it:ae)(lo:Int)(n:Nat):Turn P w K tg (Itr lo n) [it] it (λi h=>IsRangeIter h it (lo+(i:Nat)*1) ((n:Int)-(i:Nat)) 1) where
 mem:=by simp
 obj:=λi h st b hb=>by
  have e:b=it:=by simpa using hb
  subst e;exact⟨_,st,λv z=>by have z':Data.fields _=Data.cell v:=z;cases z'⟩
 keep:=λi h h' st k=>k it (by simp) _ st
 item:=by intro X hP hw hK hc i pins s σ H E I hf st hg;show ':';obtain⟨f0,f1,f2,f3,f4,f5⟩:=hf it (by simp);have W:=Walks.range (prog:=X.prog) (w:=X.w) (I.ok.hd hc) it lo 1 n;refine W.item i s _ _ hg st λv h' tk hv Yc kk=>?_;obtain⟨t,rfl⟩:=hv;have I1:Inv X pins σ H {s with heap:=h',toks:=tk}:=I.turned (λb o hb e=>kk b o (by simpa using hb) e) f0 f1 f3 f4 f5;refine⟨_,rfl,TU (s:={s with heap:=h',toks:=tk}) (n:="range_iterator") Yc rfl rfl (by decide) ⟨.int (lo+i),H,I1,⟨t,?_⟩,⟨rfl,rfl⟩,Yc,λb hb=>(hf b hb).1⟩⟩;rw[Int.mul_one]
 done:=by intro X hP hw hK hc i pins s σ H E I hf st hg;show ':';obtain⟨f0,f1,f2,f3,f4,f5⟩:=hf it (by simp);exact wpAny_pyNext_range_end (I.ok.hd hc) st (by have:n<=i:=hg;lia) λh' eb=>⟨rfl,I.turned (t':=s.toks) (λb o hb e=>eb b o hb e) f0 f1 f3 f4 f5⟩
 self:=λ_ _ _ _ _ st h=>wpAny_pyIter_rangeiter st h
end L2
namespace L2
open PySem PySem.Spec PyProof.Rows
section
variable{X:Cx}{tg:ao}
def TV(K:ak)(tl:TE):TI:=λσ H R=>tl σ H λx H1=>∃a,x=.ref a/\(∃xs,gS K H1 a xs)/\R (Itl K a) H1
def DS{l:ao}{tl:TE}(hl:PE X l tl):PI X tg l (TV X.K tl):=by
 show '>';refine gh (hl pins s σ H _ I h) λv s1 ⟨x,H1,I1,r1,q1⟩=>?_;obtain⟨a,e,⟨xs,hq⟩,q⟩:=q1;subst e;cases r1;obtain⟨its,rv,p,hz⟩:=I1.list hq;refine wpAny_pyIter_list p.isList ?_;refine⟨s1.heap.objs.size,[s1.heap.objs.size],_,_,H1,rfl,I1.kept (t':=s1.toks) λb o e=>dg _ e,RD a _,⟨_,kE _ rfl,rfl,rfl⟩,λb hb=>?_,q⟩;have e:b=s1.heap.objs.size:=by simpa using hb
 subst e;show 'J'
def Kb{s:aj}{R:It->Hp->Prop}{E:ah->aj->Prop}{lo hi:Int}{t u v:Tok}{tk:Nat}(I:Inv X pins σ H s)(h1: -(2^62)<=lo)(h2:lo<2^62)(h3: -(2^62)<=hi)(h4:hi<2^62)
  (q:R (Itr lo (hi-lo).toNat) H):aG (aE X.prog X.w) X.A (pyIter (.ref s.heap.objs.size)) (PIE X pins σ tg R) E {s with heap:=s.heap.push {cls:=.type "range",data:=.fields #[.int lo t,.int hi u,.int 1 v]},toks:=tk}:=by
 refine wpAny_pyIter_range (IsRange.new ..) (small_one h1 h2 h3 h4) ?_;have I1:Inv X pins σ H {s with heap:=s.heap.push {cls:=.type "range",data:=.fields #[.int lo t,.int hi u,.int 1 v]},toks:=tk}:=I.kept λb o e=>dg _ e;refine⟨(s.heap.push {cls:=.type "range",data:=.fields #[.int lo t,.int hi u,.int 1 v]}).objs.size,[(s.heap.push {cls:=.type "range",data:=.fields #[.int lo t,.int hi u,.int 1 v]}).objs.size],_,_,H,rfl,
  I1.kept (t':=tk) λb o e=>dg _ e,Ms _ lo (hi-lo).toNat,?_,λb hb=>?_,q⟩
 ·have e1:lo+((0:Nat):Int)*1=lo:=by simp
  have e2:(((hi-lo).toNat:Nat):Int)-((0:Nat):Int)=kF lo hi 1:=by rw[rangeSize_one];split<;>lia
  show IsRangeIter _ _ (lo+((0:Nat):Int)*1) ((((hi-lo).toNat:Nat):Int)-((0:Nat):Int)) 1;rw[e1,e2];exact kE _ rfl
 ·have e:b=(s.heap.push {cls:=.type "range",data:=.fields #[.int lo t,.int hi u,.int 1 v]}).objs.size:=by simpa using hb
  subst e;show 'J'
def agA(ta:TA):TI:=λσ H R=>ta σ H λvs H1=>∃j:Int,vs=[.int j]/\ -(2^62)<=j/\j<2^62/\R (Itr 0 j.toNat) H1
def agB(ta:TA):TI:=λσ H R=>ta σ H λvs H1=>∃i j:Int,vs=[.int i,.int j]/\(-(2^62)<=i/\i<2^62/\ -(2^62)<=j/\j<2^62)/\R (Itr i (j-i).toNat) H1
def RE{a:ao}{ta:TA}{p pos:Pos}(hg:Gl X "range")(hm:X.mg "range"=none)(ha:PA X [a] ta)(hs:autoParam (ar [a] X.env=[(false,az a X.env)]) wS):PI X tg (.Call (.Name "range" p) [a] [] pos) (agA ta):=by
 show '>';refine yD (pQ I hg hm boot_range (p7 (gh (ha pos pins s σ H _ I h) λus s1 ⟨vs,H1,I1,r1,q1⟩=>?_) hs rfl));obtain⟨j,e,q1,q2,q⟩:=q1;subst e;cases r1 with
 |cons r rr=>
  cases rr;obtain⟨t,rfl⟩:=r;exact call_range_1 (Kb I1 (by lia) (by lia) q1 q2 (by simpa using q))
def RG{a b:ao}{ta:TA}{p pos:Pos}(hg:Gl X "range")(hm:X.mg "range"=none)(ha:PA X [a,b] ta)(hs:autoParam (ar [a,b] X.env=[(false,az a X.env),(false,az b X.env)]) wS)(hs2:autoParam (ar [b] X.env=[(false,az b X.env)]) wS):
  PI X tg (.Call (.Name "range" p) [a,b] [] pos) (agB ta):=by
 show '>';refine yD (pQ I hg hm boot_range (p7 (gh (ha pos pins s σ H _ I h) λus s1 ⟨vs,H1,I1,r1,q1⟩=>?_) (by rw[hs,hs2]) (by rw[hs2];rfl)));obtain⟨i,j,e,⟨q1,q2,q3,q4⟩,q⟩:=q1;subst e;cases r1 with
 |cons r rr=>
  cases rr with
  |cons r' rr=>
   cases rr;obtain⟨t,rfl⟩:=r;obtain⟨t',rfl⟩:=r';exact call_range_2 (Kb I1 q1 q2 q3 q4 q)
noncomputable def aj4(wi:TI)(g:TG)(tb:TS):TS:=λD σ H=>wi σ H λJ H1=>∃W:Nat->Nat->St->Hp->Prop,(∃m,W 0 m σ H1)/\∀i m σ H,W i m σ H->
 (J.stop i H/\D.nx σ H)\/(J.go i H/\∃N:St->Hp->Prop,(∀σ' H',N σ' H'->∃m',m'<m/\W (i+1) m' σ' H')/\∀x H',J.yld i H x H'->g x σ H' λσ2 H2=>tb {D with nx:=N,ct:=N,bk:=D.nx} σ2 H2)
def B6(fp:List ae)(h:aF):List (ae×Obj):=fp.filterMap λb=>(h.get? b).map λo=>(b,o)
def pR{fp:List ae}{h:aF}{b:ae}{o:Obj}(hb:b∈fp)(e:h.get? b=aa o):(b,o)∈B6 fp h:=Yd.mpr ⟨b,hb,by rw[e];rfl⟩
def RH{fp:List ae}{h:aF}{p:ae×Obj}(hp:p∈B6 fp h):p.1∈fp/\h.get? p.1=aa p.2:=by
 obtain⟨b,hb,e⟩:=Yd.mp hp;cases q:h.get? b with
 |none=>rw[q]at e;cases e
 |some o=>
  rw[q]at e;have e':(b,o)=p:=ck.inj e;subst e';exact⟨hb,q⟩
def Inv.pinned {s:aj}{fp:List ae}(I:Inv X pins σ H s)(hf:∀b∈fp,xJ X pins H b)(ho:∀b∈fp,∃o,s.heap.get? b=aa o/\∀v,o.data≠.cell v):Inv X (pins++B6 fp s.heap) σ H s:=
 I.N6 λp hp=>(cu.mp hp).elim (λz=>I.pin p (jh _ z)) λz=>by obtain⟨hb,e⟩:=RH z;obtain⟨f0,f1,f2,_⟩:=hf p.1 hb;obtain⟨o,e',d⟩:=ho p.1 hb;rw[e]at e';cases e';exact⟨e,f0,f1,f2,d⟩
def Inv.uU {pins pl:List (ae×Obj)}{s:aj}(I:Inv X (pins++pl) σ H s):Inv X pins σ H s:=I.N6 λp hp=>I.pin p (jh _ (mW _ hp))
def TX{iter:ao}{body:List aw}{wi:TI}{g:TG}{tb:TS}{pos:Pos}(hp:HW (aE X.prog X.w) X.A X.env X.xe)(hc:X.calm=true)(hi:PI X tg iter wi)(hg:PG X tg g)(hb:zL X body tb)
  (hs:autoParam (∀x,DT iter X.env x=bj x) wT):PS X (.For tg iter body [] pos) (aj4 wi g tb):=by
 show 'n';refine wpAny_For (gh (hi pins s σ H _ I h) λv s1 h1=>gh h1 λitv s2 h2=>?_) hs;obtain⟨it,fp,tn,J,H2,e,I2,T,Oe,f2,W,⟨m0,w0⟩,turn⟩:=h2;subst e;have acZ:∀{H':Hp},(∀b∈fp,H' b=none)->∀b∈fp,xJ X pins H' b:=λhn b hb=>⟨hn b hb,(f2 b hb).2⟩
 refine codeAny_forLoop_any (λn s'=>∃i σ' H',Inv X pins σ' H' s'/\tn i s'.heap/\(∀b∈fp,H' b=none)/\W i n σ' H') ?_ m0 ⟨0,σ,H2,I2,Oe,λb hb=>(f2 b hb).1,w0⟩;rintro n s3 ⟨i,σ3,H3,I3,st3,B7,w3⟩;rcases turn i n σ3 H3 w3 with⟨stop,qn⟩|⟨go,N,hN,step⟩
 ·refine yB hp (gh (T.done X rfl rfl rfl hc i pins s3 σ3 H3 X.xe I3 (acZ B7) st3 stop) λr s4 ⟨hr,I4⟩=>?_)
  subst hr;exact HU ⟨σ3,H3,I4,qn⟩
 ·refine yB hp (gh (T.item X rfl rfl rfl hc i pins s3 σ3 H3 X.xe I3 (acZ B7) st3 go) λr s4 ⟨u,hr,h4⟩=>?_)
  subst hr;refine yB hp (gh h4 λ_ s5 ⟨x,H5,I5,r5,y5,Ye,Xx⟩=>?_);have I5':=I5.pinned (acZ Xx) (T.obj _ _ Ye);refine yB hp (gh (hg _ s5 σ3 H5 x u _ I5' r5 (step x H5 y5)) λ_ s6 ⟨σ6,H6,I6,q6⟩=>?_);refine yB hp (gh (hb _ s6 σ6 H6 _ I6 q6) λf s7 q7=>?_);have again:∀{σ7:St}{H7:Hp},Inv X (pins++B6 fp s5.heap) σ7 H7 s7->N σ7 H7->∃m,m<n/\∃i σ' H',Inv X pins σ' H' s7/\tn i s7.heap/\(∀b∈fp,H' b=none)/\W i m σ' H':=λ{σ7 H7} I7 n7=>by obtain⟨m',hm,w7⟩:=hN σ7 H7 n7;refine⟨m',hm,i+1,σ7,H7,I7.uU,T.keep _ _ _ Ye λb hb o e=>(I7.pin (b,o) (jh _ (jh _ (pR hb e)))).1,λb hb=>?_,w7⟩;obtain⟨o,e,d⟩:=T.obj _ _ Ye b hb;exact(I7.pin (b,o) (jh _ (jh _ (pR hb e)))).2.1
  cases f with
  |brk=>obtain⟨σ7,H7,I7,q7⟩:=q7;exact⟨σ7,H7,I7.uU,q7⟩
  |ret v=>obtain⟨x7,σ7,H7,I7,r7,q7⟩:=q7;exact⟨x7,σ7,H7,I7.uU,r7,q7⟩
  |_=>obtain⟨σ7,H7,I7,n7⟩:=q7;exact again I7 n7
end
def TY{K:ak}{xs:List V}{g:TG}{tb:TS}{D:Ends}(Pv:Nat->St->Hp->Prop)(h0:Pv 0 σ H)(hl:∀i σ H,i<=xs.length->Pv i σ H->gS K H a xs)
  (hs:∀i x σ H,xs[i]?=aa x->Pv i σ H->g x σ H λσ2 H2=>tb {D with nx:=Pv (i+1),ct:=Pv (i+1),bk:=D.nx} σ2 H2)(hd:∀σ H,Pv xs.length σ H->D.nx σ H):
  ∃W:Nat->Nat->St->Hp->Prop,(∃m,W 0 m σ H)/\∀i m σ H,W i m σ H->
   ((Itl K a).stop i H/\D.nx σ H)\/((Itl K a).go i H/\∃N:St->Hp->Prop,(∀σ' H',N σ' H'->∃m',m'<m/\W (i+1) m' σ' H')/\∀x H',(Itl K a).yld i H x H'->g x σ H' λσ2 H2=>tb {D with nx:=N,ct:=N,bk:=D.nx} σ2 H2):=by
 refine⟨λi m σ H=>m=xs.length-i/\i<=xs.length/\Pv i σ H,⟨xs.length,by simp,iJ _,h0⟩,?_⟩;rintro i m σ H ⟨rfl,hi,p⟩;have q:=hl i σ H hi p
 by_cases hlt:i<xs.length
 ·refine .inr ⟨⟨xs,xs[i],q,by simp[hlt]⟩,Pv (i+1),λσ' H' p'=>⟨xs.length-(i+1),by lia,rfl,hlt,p'⟩,λx H' y=>?_⟩
  obtain⟨e,y⟩:=y;subst e;exact hs i x σ _ (y xs q) p
 ·have e:i=xs.length:=by lia
  subst e;exact .inl ⟨⟨xs,q,aY _⟩,hd σ H p⟩
end L2
namespace L2
open PySem PySem.Spec PyProof.Rows
abbrev R2:=V->V->Hp->VK->Prop
def B3(X:Cx)(f:ah->ah->Sem ah)(r:R2):Prop:=
 ∀(pins:List (ae×Obj))(s:aj)(σ:St)(H:Hp)(x y:V)(v u:ah)(Q:VK),Inv X pins σ H s->RelV x v->RelV y u->r x y H Q->
  aG (aE X.prog X.w) X.A (f v u) (EP X pins σ Q) X.xe s
def UnR(X:Cx)(f:ah->Sem ah)(r:V->Hp->VK->Prop):Prop:=
 ∀(pins:List (ae×Obj))(s:aj)(σ:St)(H:Hp)(x:V)(v:ah)(Q:VK),Inv X pins σ H s->RelV x v->r x H Q->
  aG (aE X.prog X.w) X.A (f v) (EP X pins σ Q) X.xe s
def zM(X:Cx)(f:ah)(r:List V->Hp->VK->Prop):Prop:=
 ∀(pins:List (ae×Obj))(s:aj)(σ:St)(H:Hp)(xs:List V)(us:List ah)(Q:VK),Inv X pins σ H s->Vals xs us->r xs H Q->
  aG (aE X.prog X.w) X.A (call f us) (EP X pins σ Q) X.xe s
def tOp(r:R2)(ta tb:TE):TE:=λσ H Q=>ta σ H λx H1=>tb σ H1 λy H2=>r x y H2 Q
def tUn(r:V->Hp->VK->Prop)(ta:TE):TE:=λσ H Q=>ta σ H λx H1=>r x H1 Q
def rI(C:Int->Int->Prop)(g:Int->Int->V):R2:=λx y H Q=>∃i j,x=.int i/\y=.int j/\C i j/\Q (g i j) H
def Mf(g:Int->Int->V):R2:=λx y H Q=>∃i j,x=.int i/\y=.int j/\Q (g i j) H
def rU(g:Int->V):V->Hp->VK->Prop:=λx H Q=>∃i,x=.int i/\Q (g i) H
section
variable{X:Cx}{a b c:ao}{ta tb tc:TE}{pos:Pos}
def ac0(ha:PE X a ta)(hb:PE X b tb){s:aj}{R:V->V->Hp->Prop}(I:Inv X pins σ H s)
  (h:ta σ H λx H1=>tb σ H1 λy H2=>R x y H2){Q:ah->aj->Prop}{f:ah->ah->Sem ah}
  (hf:∀v u s2 x y H2,Inv X pins σ H2 s2->RelV x v->RelV y u->R x y H2->aG (aE X.prog X.w) X.A (f v u) Q X.xe s2):
  aG (aE X.prog X.w) X.A (az a X.env) (λv s₁=>aG (aE X.prog X.w) X.A (az b X.env) (λu s₂=>aG (aE X.prog X.w) X.A (f v u) Q X.xe s₂) X.xe s₁) X.xe s:=by
 refine gh (ha pins s σ H _ I h) λv s1 ⟨x,H1,I1,r1,q1⟩=>?_;refine gh (hb pins s1 σ H1 _ I1 q1) λu s2 ⟨y,H2,I2,r2,q2⟩=>?_;exact hf v u s2 x y H2 I2 r1 r2 q2
def zN{op:Aw}{r:R2}(ho:B3 X (p8 op) r)(ha:PE X a ta)(hb:PE X b tb):PE X (.BinOp a op b pos) (tOp r ta tb):=by intro pins s σ H Q I h;exact wpAny_BinOp (ac0 ha hb I h λv u s2 x y H2 I2 rx ry q=>ho pins s2 σ H2 x y v u Q I2 rx ry q)
def Og{op:UnaryOp}{r:V->Hp->VK->Prop}(ho:UnR X (HY op) r)(ha:PE X a ta):PE X (.UnaryOp op a pos) (tUn r ta):=by intro pins s σ H Q I h;exact UnaryOp_ (gh (ha pins s σ H _ I h) λv s1 ⟨x,H1,I1,r1,q1⟩=>ho pins s1 σ H1 x v Q I1 r1 q1)
def opI{f:ah->ah->Sem ah}{C:Int->Int->Prop}{g:Int->Int->Int}
  (vM:∀(i j:Int)(t u:Tok)(s:aj)(Q:ah->aj->Prop)(E:ah->aj->Prop),C i j->Q (.int (g i j) s.toks) {s with toks:=s.toks+1}->aG (aE X.prog X.w) X.A (f (.int i t) (.int j u)) Q E s):
  B3 X f (rI C λi j=>.int (g i j)):=by
 show 'b';obtain⟨i,j,rfl,rfl,hc,q⟩:=h;show 'G';show 'p';exact vM i j t t' s _ _ hc ⟨.int (g i j),H,I.tok _,⟨_,rfl⟩,q⟩
def ac1{f:ah->ah->Sem ah}{g:Int->Int->Int}
  (vM:∀(i j:Int)(t u:Tok)(s:aj)(Q:ah->aj->Prop)(E:ah->aj->Prop),Q (.int (g i j) s.toks) {s with toks:=s.toks+1}->aG (aE X.prog X.w) X.A (f (.int i t) (.int j u)) Q E s):
  B3 X f (Mf λi j=>.int (g i j)):=by
 show 'b';obtain⟨i,j,rfl,rfl,q⟩:=h;show 'G';show 'p';exact vM i j t t' s _ _ ⟨.int (g i j),H,I.tok _,⟨_,rfl⟩,q⟩
def Yg{f:ah->ah->Sem ah}{g:Int->Int->Bool}
  (vM:∀(i j:Int)(t u:Tok)(s:aj)(Q:ah->aj->Prop)(E:ah->aj->Prop),Q (.bool (g i j)) s->aG (aE X.prog X.w) X.A (f (.int i t) (.int j u)) Q E s):
  B3 X f (Mf λi j=>.bl (g i j)):=by
 show 'b';obtain⟨i,j,rfl,rfl,q⟩:=h;show 'G';show 'p';exact vM i j t t' s _ _ ⟨.bl (g i j),H,I,rfl,q⟩
def agE(i j:Int):Prop:=0<j/\j<1073741824
def Yh(i j:Int):Prop:=0<=j/\j<=1000000/\i.natAbs<2^64
def Yi(i j:Int):Prop:=(-(2^64)<i/\i<2^64)\/(-(2^64)<j/\j<2^64)
def Yi.ok {i j:Int}(h:Yi i j):IntMulOk i j:=by
 rcases h with⟨h1,h2⟩|⟨h1,h2⟩
 ·exact .of_left (intBits_le_64 h1 h2)
 ·exact .of_right (intBits_le_64 h1 h2)
def fO:B3 X (p8 .Add) (Mf λi j=>.int (i+j)):=ac1 λ_ _ _ _ _ _ _ q=>add_int q
def dw:B3 X (p8 .Sub) (Mf λi j=>.int (i-j)):=ac1 λ_ _ _ _ _ _ _ q=>sub_int q
def HZ:B3 X (p8 .Mult) (rI Yi λi j=>.int (i*j)):=opI λ_ _ _ _ _ _ _ hc q=>mul_int q hc.ok
def qX:B3 X (p8 .FloorDiv) (rI agE λi j=>.int (i/j)):=opI λi j _ _ _ _ _ hc q=>by have h1:(0:Int)<j:=hc.1;have h2:j<1073741824:=hc.2;exact floordiv_int (by lia) (by rw[Int.fdiv_eq_ediv_of_nonneg i (by lia)];exact q) (.inl (Yj (by lia)))
def lW:B3 X (p8 .Mod) (rI (λ_ j=>0<j) λi j=>.int (i%j)):=opI λi j _ _ _ _ _ hc q=>by have h1:(0:Int)<j:=hc;exact mod_int' (by lia) (by rw[Int.fmod_eq_emod_of_nonneg i (by lia)];exact q)
def ac2:B3 X (p8 .LShift) (rI Yh λi j=>.int (i*2^j.toNat)):=opI λ_ _ _ _ _ _ _ hc q=>lshift_int_small hc.1 hc.2.1 hc.2.2 q
def TZ:B3 X (p8 .BitAnd) (Mf λi j=>.int (Oh i j)):=ac1 λ_ _ _ _ _ _ _ q=>and_int q
def unI{f:ah->Sem ah}{g:Int->Int}
  (vM:∀(i:Int)(t:Tok)(s:aj)(Q:ah->aj->Prop)(E:ah->aj->Prop),Q (.int (g i) s.toks) {s with toks:=s.toks+1}->aG (aE X.prog X.w) X.A (f (.int i t)) Q E s):
  UnR X f (rU λi=>.int (g i)):=by
 intro pins s σ H x v Q I rx h;obtain⟨i,rfl,q⟩:=h;show 'G';exact vM i t s _ _ ⟨.int (g i),H,I.tok _,⟨_,rfl⟩,q⟩
def m8:UnR X (HY .USub) (rU λi=>.int (-i)):=unI λ_ _ _ _ _ q=>neg_int q
def T3:UnR X (HY .Invert) (rU λi=>.int (Oi i)):=unI λ_ _ _ _ _ q=>invert_int q
end
noncomputable def aj5:V->V->Bool
 |.non,.non=>true|.non,.int _=>true|.int _,.non=>true|.non,.bl _=>true|.bl _,.non=>true|.non,.str _=>true|.str _,.non=>true
 |.int _,.int _=>true|.bl _,.bl _=>true|.str _,.str _=>true|.S7 _,.S7 _=>true
 |.int _,.str _=>true|.str _,.int _=>true|.bl _,.str _=>true|.str _,.bl _=>true
 |_,_=>false
def rEq:R2:=λx y H Q=>aj5 x y=true/\Q (.bl (decide (x=y))) H
def Yk{i j:Int}:decide (V.int i=V.int j)=(i==j):=by rw[yE];simp
def ac3{i j:Bool}:decide (V.bl i=V.bl j)=(i==j):=by rw[yE];simp
def Ym{i j:Str}:decide (V.str i=V.str j)=(i==j):=by rw[yE];simp
def Yn{i j:Array UInt8}:decide (V.S7 i=V.S7 j)=(i.toList==j.toList):=by rw[yE];cases i;cases j;simp
section
variable{X:Cx}{a b c:ao}{ta tb tc:TE}{pos:Pos}
def j5{s:aj}{Q:VK}{k k':Bool}(I:Inv X pins σ H s)(q:Q (.bl k) H)(e:k=k'):EP X pins σ Q (.bool k') s:=by subst e;exact⟨.bl k,H,I,rfl,q⟩
def T4:B3 X (jf .Eq) rEq:=by
 show 'b';obtain⟨hs,q⟩:=h;cases x with
 |non=>
  cases rx;cases y with
  |non=>cases ry;exact PySem.EqNone.eq_none_none (j5 I q (by simp))
  |bl j=>cases ry;exact PySem.EqNone.eq_none_bool (j5 I q (by simp))
  |int j=>show 'p';exact PySem.EqNone.eq_none_int (j5 I q (by simp))
  |str j=>show 'p';exact PySem.EqNone.eq_none_str (j5 I q (by simp))
  |_=>show 'j'
 |bl i=>
  cases rx;cases y with
  |non=>cases ry;exact PySem.EqNone.eq_bool_none (j5 I q (by simp))
  |bl j=>cases ry;exact eq_bool (j5 I q ac3)
  |str j=>show 'p';exact PySem.EqMixed.eq_bool_str (j5 I q (by simp))
  |_=>show 'j'
 |int i=>
  show 'G';cases y with
  |non=>cases ry;exact PySem.EqNone.eq_int_none (j5 I q (by simp))
  |int j=>show 'p';exact eq_int (j5 I q Yk)
  |str j=>show 'p';exact PySem.EqMixed.eq_int_str (j5 I q (by simp))
  |_=>show 'j'
 |str i=>
  show 'G';cases y with
  |non=>cases ry;exact PySem.EqNone.eq_str_none (j5 I q (by simp))
  |bl j=>cases ry;exact PySem.EqMixed.eq_str_bool (j5 I q (by simp))
  |int j=>show 'p';exact PySem.EqMixed.eq_str_int (j5 I q (by simp))
  |str j=>show 'p';exact eq_str (j5 I q Ym)
  |_=>show 'j'
 |S7 i=>
  show 'G';cases y with
  |S7 j=>show 'p';exact PySem.W.eq_bytes (j5 I q Yn)
  |_=>show 'j'
 |_=>cases y<;>exact absurd (show false=true from hs) iI
def xp:B3 X (jf .Lt) (Mf λi j=>.bl (decide (i<j))):=Yg λ_ _ _ _ _ _ _ q=>lt_int q
def agF:B3 X (jf .LtE) (Mf λi j=>.bl (decide (i<=j))):=Yg λ_ _ _ _ _ _ _ q=>le_int q
def jO:B3 X (jf .Gt) (Mf λi j=>.bl (decide (j<i))):=Yg λ_ _ _ _ _ _ _ q=>gt_int q
def agG:B3 X (jf .GtE) (Mf λi j=>.bl (decide (j<=i))):=Yg λ_ _ _ _ _ _ _ q=>ge_int q
def ac4:B3 X (jf .Is) (λx y H Q=>y=.non/\Q (.bl (decide (x=.non))) H):=by
 show 'b';obtain⟨rfl,q⟩:=h;cases ry;refine is_none_gen (j5 I q ?_);cases x<;>first
  |(cases rx;rfl)
  |(obtain⟨t,rfl⟩:=rx;rfl)
def Oj:B3 X (jf .IsNot) (λx y H Q=>y=.non/\Q (.bl (!decide (x=.non))) H):=by
 show 'b';obtain⟨rfl,q⟩:=h;cases ry;refine isnot_none_gen (j5 I q ?_);cases x<;>first
  |(cases rx;rfl)
  |(obtain⟨t,rfl⟩:=rx;rfl)
def bf(b:ao){op:vL}(h:autoParam (op≠.In) xI)(h2:autoParam (op≠.NotIn) xI):tK op b=false:=by
 have e1:(op==CmpOp.In)=false:=by cases op<;>first|rfl|exact absurd rfl h
 have e2:(op==X4)=false:=by cases op<;>first|rfl|exact absurd rfl h2
 cases b<;>simp[tK,e1,e2]
def Yo{op:vL}{r:R2}(ho:B3 X (jf op) r)(ha:PE X a ta)(hb:PE X b tb)(hm:tK op b=false):PE X (.Compare a [op] [b] pos) (tOp r ta tb):=by intro pins s σ H Q I h;exact wpAny_Compare1 (ac0 ha hb I h λv u s2 x y H2 I2 rx ry q=>ho pins s2 σ H2 x y v u Q I2 rx ry q) hm
def agH(t:TE):TT:=λσ H Q=>t σ H λx H'=>∃k,x=.bl k/\Q k H'
def qY{op:vL}{r:R2}(ho:B3 X (jf op) r)(ha:PE X a ta)(hb:PE X b tb)(hm:tK op b=false):PT X (.Compare a [op] [b] pos) (agH (tOp r ta tb)):=by
 show 'c';refine X5 (gh (ha pins s σ H _ I h) λv s1 ⟨x,H1,I1,r1,q1⟩=>gh (hb pins s1 σ H1 _ I1 q1) λu s2 ⟨y,H2,I2,r2,q2⟩=>
  gh (ho pins s2 σ H2 x y v u _ I2 r1 r2 q2) λc s3 ⟨z,H3,I3,r3,k,e,q3⟩=>?_) hm
 subst e;cases r3;exact DN ⟨H3,I3,q3⟩
def z7:(aK:Nat)<2^63:=by rw[Ol];decide
def vals1{x:V}{us:List ah}(r:Vals [x] us):∃u,us=[u]/\RelV x u:=by
 cases r with
 |cons r1 r2=>cases r2;exact⟨_,rfl,r1⟩
def vals2{x y:V}{us:List ah}(r:Vals [x,y] us):∃u w',us=[u,w']/\RelV x u/\RelV y w':=by
 cases r with
 |cons r1 r2=>
  cases r2 with
  |cons r3 r4=>cases r4;exact⟨_,_,rfl,r1,r3⟩
def jC:zM X (.builtin "abs") (λxs H Q=>∃i,xs=[.int i]/\Q (.int (if i<0 then-i else i)) H):=by intro pins s σ H xs us Q I r h;obtain⟨i,rfl,q⟩:=h;obtain⟨u,rfl,t,rfl⟩:=vals1 r;exact call_abs_int λu tk=>⟨.int (if i<0 then-i else i),H,I.tok _,⟨_,rfl⟩,q⟩
def RJ(hc:X.calm=true):zM X (.builtin "max") (λxs H Q=>∃i j,xs=[.int i,.int j]/\Q (.int (if j>i then j else i)) H):=by
 show 'u';obtain⟨i,j,rfl,q⟩:=h;obtain⟨u,w',rfl,⟨t,rfl⟩,⟨t',rfl⟩⟩:=vals2 r;refine max_two_ints (I.ok.hd hc) λh' tk k=>⟨_,H,I.kept k,?_,q⟩
 by_cases hj:j>i
 ·rw[if_pos hj,if_pos hj];exact⟨_,rfl⟩
 ·rw[if_neg hj,if_neg hj];exact⟨_,rfl⟩
def agI(K:ak)(x:V)(H:Hp)(n:Nat):Prop:=
 match x with
 |.str y=>y.length<=aK/\n=y.length
 |.S7 y=>y.size<=aK/\n=y.size
 |.ref p=>(∃xs,gS K H p xs/\n=xs.length)\/∃xs,Ka K H p xs/\n=xs.length
 |_=>False
def gu:zM X (.builtin "len") (λxs H Q=>∃x n,xs=[x]/\agI X.K x H n/\Q (.int n) H):=by
 show 'u';obtain⟨x,n,rfl,e,q⟩:=h;obtain⟨u,rfl,rx⟩:=vals1 r;have hl:=z7;have hs:aK=16777216:=Ol;cases x with
 |str y=>
  show 'G';obtain⟨hy,e'⟩:y.length<=aK/\n=y.length:=e;subst e';exact len_str (by lia) ⟨.int _,H,I.tok _,⟨_,rfl⟩,q⟩
 |S7 y=>
  show 'G';obtain⟨hy,e'⟩:y.size<=aK/\n=y.size:=e;subst e';exact PySem.W.len_bytes (by lia) ⟨.int _,H,I.tok _,⟨_,rfl⟩,q⟩
 |ref p=>
  cases rx;have e':(∃xs,gS X.K H p xs/\n=xs.length)\/∃xs,Ka X.K H p xs/\n=xs.length:=e;rcases e' with⟨xs,hx,e'⟩|⟨xs,hx,e'⟩
  ·subst e'
   obtain⟨its,r',pl,hz⟩:=I.list hx;show '^';exact Yp pl.isList (by simp only [cO];lia) ⟨.int xs.length,H,I.tok _,⟨_,by simp only [cO];rw[hlen]⟩,q⟩
  ·subst e'
   obtain⟨its,r',pl,hz⟩:=I.tuple hx;show '^';exact len_tuple pl (by simp only [cO];lia) ⟨.int xs.length,H,I.tok _,⟨_,by simp only [cO];rw[hlen]⟩,q⟩
 |_=>exact(show False from e).elim
end
end L2
namespace L2
open PySem PySem.Spec PyProof.Rows
structure Mt(h:aF)(x dx C:ae)(mA:Str->Option ah):Prop where
 obj:h.get? x=aa (vJ C dx)
 ns:h.Ns1 dx mA
 ne:dx≠x
def RK{h:aF}{dx:ae}{mA:Str->Option ah}(n:h.Ns1 dx mA):∃od,h.get? dx=aa od/\∀name,H0 name od=aa (mA name):=by
 obtain⟨o,es,ep,ho,hd,hk,_,hm⟩:=n;refine⟨o,ho,λname=>?_⟩;have e:=hm name;unfold nsFind findBy at e;rw[<-Array.find?_toList]at e;unfold H0;rw[hd];dsimp only;split
 ·rename_i y q
  rw[q]at e;exact congrArg aa e
 ·rename_i q
  rw[q]at e;have a:es.toList.any (·.refKey)=false:=by rw[List.any_eq_false];intro y hy;obtain⟨z,t,hkey⟩:=hk y (Array.mem_toList_iff.mp hy);simp[Ia.refKey,hkey]
  have a':¬es.toList.any (·.refKey)=true:=by rw[a];exact iI
  rw[if_neg a'];exact congrArg aa e
def Mt.look {h:aF}{x dx C:ae}{mA:Str->Option ah}(I:Mt h x dx C mA):∃od,PySem.W.InstAt h x (vJ C dx) C (aa od)/\∀name,H0 name od=aa (mA name):=
 let⟨od,ho,hl⟩:=RK I.ns
 ⟨od,⟨I.obj,rfl,rfl,ho⟩,hl⟩
section
variable{prog:aS}{w:aD}{A:bx}{E:ah->aj->Prop}{s:aj}{K:ak}{x dx C f:ae}{mA:Str->Option ah}{name:Str}{v:ah}
def get_map{expr:Bool}{Q:ah->aj->Prop}(X:K.In s.heap)(I:Mt s.heap x dx C mA)(hg:DU K C name=true)(hh:Ib K C=true)
  (ha:eY K (.ref C) name=aa none)(hv:mA name=aa v)(hv':Yq v=true)(h:Q v {s with toks:=s.toks+1}):
  aG (aE prog w) A (getAttr (.ref x) name expr) Q E s:=by
 obtain⟨od,J,hl⟩:=I.look;exact PySem.W.get_value X J (Om hg).1 (PySem.W.findObj_own hh ha rfl (by rw[hl,hv])) hv' h
def T5{pl:Sem Bool}{Q:ah×List ah->aj->Prop}(X:K.In s.heap)(I:Mt s.heap x dx C mA)(hg:DU K C name=true)
  (hf:eY K (.ref C) name=aa (aa (.ref f)))(ht:Ic K (.ref f)=true)(hv:mA name=none)(h:Q (.ref f,[.ref x]) s):
  aG (aE prog w) A (Ie (.ref x) name pl) Q E s:=by
 obtain⟨od,J,hl⟩:=I.look;exact PySem.W.method_fn X J (Om hg).1 (Om hg).2 hf (beq_iff_eq.mp ht) (by show(H0 name od).map (·.isSome)=aa false;rw[hl,hv];rfl) h
def Yr{ns:List Str}{Q:Unit->aj->Prop}(X:K.In s.heap)(I:Mt s.heap x dx C mA)
  (hs:eY K (.ref C) "__setattr__"=aa (aa (.builtin "object.__setattr__")))(hp:Oo K C=true)(ht:Oq K C name=aa none)(hh:Ib K C=true)
  (hw:HK mA ns)(hsz:ns.length<=aK)
  (h:∀h',Mt h' x dx C (λy=>if y=name then aa v else mA y)->HQ dx s.heap h'->Q () {s with heap:=h',toks:=s.toks+2}):
  aG (aE prog w) A (setAttr (.ref x) name v) Q E s:=by
 obtain⟨od,J,hl⟩:=I.look;refine PySem.W.set_plain X J hs (PySem.W.osa_open (s:={s with toks:=s.toks+1}) (r:=none) X J hp ht λb=>?_);obtain⟨cd,hc,XX⟩:=PySem.W.any_some hh;have hx:s.heap.get? x=aa ⟨.ref C,aa dx,.plain,#[]⟩:=I.obj;refine bJ (ee (bJ (bJ (wpAny_loadPart hx (bJ (Looks.here (s:={s with toks:=s.toks+1}) (PySem.W.looks_clsIn X hc) ?_))))));rw[XX];refine ee (a:=aa dx) (bJ (ee (bJ ?_)));refine wpAny_nsSet1 (s:={s with toks:=s.toks+1}) I.ns λh' hn2 hs2=>?_;obtain⟨oD,esD,epD,hoD,hdD,hcD⟩:=hn2.count (HK.cons name v hw);refine bJ (wpAny_lookBehind hoD (by rw[hdD];exact pastItsLine_dict (lD hcD (by rw[aR];lia))) ?_);exact ee (h _ ⟨(hs2.2 _ (Ne.symm I.ne)).trans I.obj,hn2,I.ne⟩ hs2)
def T6{R:DV->aj->Prop}{vs:List ah}{kw:List (Str×ah)}(X:K.In s.heap)(hm:Ot K C=true)
  (hi:eY K (.ref C) "__init__"=aa (aa (.ref f)))(hf:typeIn K (.ref f)=aa (.type "function"))
  (h:p9 (aE prog w) (A.under (.builtin "type.__call__" ⟨.ref C::vs,kw⟩)) (.call (.ref f) ⟨.ref (s.heap.objs.size+1)::vs,kw⟩) (PySem.W.InitBack (s.heap.objs.size+1) R)
   {s with heap:=(s.heap.push tQ).push (vJ C s.heap.objs.size)}):
  p9 (aE prog w) A (.call (.ref C) ⟨vs,kw⟩) R s:=by
 obtain⟨hh,g,d,t,os⟩:=s;exact PySem.W.make_core (PySem.W.makes_of X hm) (PySem.W.looks_findIn X hi) (λself=>PySem.W.bind_fn X self hf) (.inl rfl) h
end
def rQ(f:Str)(v:V):List (Str×V)->List (Str×V)
 |[]=>[(f,v)]
 |(g,x)::r=>if g=f then(g,v)::r else(g,x)::rQ f v r
theorem C2(f g:Str)(v:V):∀fs:List (Str×V),(rQ f v fs).lookup g=if g=f then aa v else fs.lookup g
 |[]=>by
  show yF g [(f,v)]=_
  by_cases h:g=f
  ·have hb:(g==f)=true:=beq_iff_eq.mpr h
   simp only [yF,hb,if_pos h]
  ·have hb:(g==f)=false:=beq_eq_false_iff_ne.mpr h
   simp only [yF,hb,if_neg h]
 |(k,x)::r=>by
  have ih:=C2 f g v r;show 'B'
  by_cases hk:k=f
  ·rw[if_pos hk]
   by_cases h:g=k
   ·have hb:(g==k)=true:=beq_iff_eq.mpr h
    simp only [yF,hb,if_pos (h.trans hk)]
   ·have hb:(g==k)=false:=beq_eq_false_iff_ne.mpr h
    simp only [yF,hb,if_neg (λe:g=f=>h (e.trans hk.symm))]
  ·rw[if_neg hk]
   by_cases h:g=k
   ·have hb:(g==k)=true:=beq_iff_eq.mpr h
    simp only [yF,hb,if_neg (λe:g=f=>hk (h.symm.trans e))]
   ·have hb:(g==k)=false:=beq_eq_false_iff_ne.mpr h
    simp only [yF,hb];exact ih
theorem B8(f:Str)(v:V):∀fs:List (Str×V),f∈(rQ f v fs).map (·.1)/\∀g,g∈fs.map (·.1)->g∈(rQ f v fs).map (·.1)
 |[]=>⟨by simp[rQ],λg h=>by simp at h⟩
 |(k,x)::r=>by
  obtain⟨i1,i2⟩:=B8 f v r;show 'B'
  by_cases hk:k=f
  ·rw[if_pos hk]
   subst hk;exact⟨by simp,λg h=>by simpa using h⟩
  ·rw[if_neg hk]
   refine⟨?_,λg h=>?_⟩
   ·rw[bq]
    exact bE _ i1
   ·rw[bq]at h⊢
    rcases aX.mp h with e|e
    ·exact aX.mpr (.inl e)
    ·exact bE _ (i2 g e)
theorem C3(f:Str)(v:V):∀fs:List (Str×V),(rQ f v fs).length<=fs.length+1
 |[]=>by simp[rQ]
 |(k,x)::r=>by
  have ih:=C3 f v r;show 'B'
  by_cases hk:k=f
  ·rw[if_pos hk,aR,aR];lia
  ·rw[if_neg hk,aR,aR];lia
def xH.some_of {v:V}{o:Option ah}(r:xH (aa v) o):∃u,o=aa u/\RelV v u:=by
 cases o with
 |none=>show 'o'
 |some u=>exact⟨u,rfl,r⟩
def xH.none_of {o:Option ah}(r:xH none o):o=none:=by
 cases o with
 |none=>rfl
 |some u=>show 'o'
def RL{v:V}{u:ah}(r:RelV v u):Yq u=true:=by
 cases v with
 |non=>cases (show u=ah.none from r);rfl
 |bl b=>cases (show u=HJ b from r);rfl
 |int i=>obtain⟨t,e⟩:=(show∃t,u=DK i t from r);cases e;rfl
 |str x=>obtain⟨t,e⟩:=(show∃t,u=DM x t from r);cases e;rfl
 |S7 b=>obtain⟨t,e⟩:=(show∃t,u=XT b t from r);cases e;rfl
 |flt b=>obtain⟨t,e⟩:=(show∃t,u=NY b t from r);cases e;rfl
 |ref a=>cases (show u=dq a from r);rfl
 |ty n=>cases (show u=vI n from r);rfl
section
variable{P:aS}{w:aD}{H H':Hp}{h h':aF}{a C dx:ae}{fs fs':List (Str×V)}
def DW(hok:zA P w H h)(e:H a=aa (.ins C dx fs)):∃mA,Mt h a dx C mA/\(∀f,xH (fs.lookup f) (mA f))/\HK mA (fs.map (·.1))/\fs.length<=1000/\H dx=aa (.own a):=by
 obtain⟨d,z,ne,ob,mA,n,r,q⟩:=(show ig P w H h a (.ins C dx fs)from hok a _ e)
 exact⟨mA,⟨ob,n,ne⟩,r,q,z,d⟩
end
structure T7(K:ak)(C:ae):Prop where
 pg:DU K C Ou=true
 hd:Ib K C=true
 po:Oo K C=true
 sa:eY K (.ref C) "__setattr__"=aa (aa (.builtin "object.__setattr__"))
def T7.get {K:ak}{C:ae}(c:T7 K C)(f:Str):DU K C f=true:=c.pg
def kX(K:ak)(C:ae)(f:Str):Prop:=eY K (.ref C) f=aa none
def kX.agJ {K:ak}{C:ae}{f:Str}(n:kX K C f):Oq K C f=aa none:=by unfold Oq;rw[show eY K (.ref C) f=aa none from n];rfl
structure Meth(K:ak)(C:ae)(m:Str)(f:ae):Prop where
 at_:eY K (.ref C) m=aa (aa (.ref f))
 fn:Ic K (.ref f)=true
 kp:kG K (.ref f)=true
section
variable{X:Cx}{pins:List (ae×Obj)}{σ:St}{H:Hp}{s:aj}{a C dx:ae}{fs:List (Str×V)}{f:Str}{v:V}{A:bx}{E:ah->aj->Prop}
def Mu{b:Bool}{Q:ah->aj->Prop}(I:Inv X pins σ H s)(e:H a=aa (.ins C dx fs))(c:T7 X.K C)(n:kX X.K C f)(l:fs.lookup f=aa v)
  (h:∀u s',Inv X pins σ H s'->RelV v u->Q u s'):aG (aE X.prog X.w) A (getAttr (.ref a) f b) Q E s:=by
 obtain⟨mA,O,r,_,_,_⟩:=DW I.hok e;obtain⟨u,hu,ru⟩:=xH.some_of (v:=v) (o:=mA f) (by rw[<-l];exact r f);exact get_map I.B1 O (c.get f) c.hd n hu (RL ru) (h u _ (I.tok _) ru)
def EH{m:Str}{g:ae}{pl:Sem Bool}{Q:ah×List ah->aj->Prop}(I:Inv X pins σ H s)(e:H a=aa (.ins C dx fs))(c:T7 X.K C)(k:Meth X.K C m g)(l:fs.lookup m=none)
  (h:Q (.ref g,[.ref a]) s):aG (aE X.prog X.w) A (Ie (.ref a) m pl) Q E s:=by
 obtain⟨mA,O,r,_,_,_⟩:=DW I.hok e;have hn:mA m=none:=xH.none_of (by rw[<-l];exact r m);exact T5 I.B1 O (c.get m) k.at_ k.fn hn h
def Mw{y:V}{u:ah}{Q:Unit->aj->Prop}(I:Inv X pins σ H s)(e:H a=aa (.ins C dx fs))(c:T7 X.K C)(n:kX X.K C f)(hl:fs.length<1000)(ry:RelV y u)
  (h:∀s',Inv X pins σ (upd H a (.ins C dx (rQ f y fs))) s'->Q () s'):aG (aE X.prog X.w) A (setAttr (.ref a) f u) Q E s:=by
 obtain⟨mA,O,r,wi,_,ho⟩:=DW I.hok e;have hz:(fs.map (·.1)).length<=aK:=by rw[aN,Ol];lia
 refine Yr I.B1 O c.sa c.po n.agJ c.hd wi hz λh' O' sb=>h _ ?_;have hd:∃o,h'.get? dx=aa o:=let⟨o,_,_,e',_⟩:=O'.ns;⟨o,e'⟩
 refine I.write (x:=a) (e:=dx) (by rw[e];exact qc) (.inr ho) (λb q hb z=>(sb.2 b hb).trans z) hd ?_;refine⟨by rw[aH O.ne];exact ho,?_,O.ne,O'.obj,_,O'.ns,λg=>?_,λg hg=>?_⟩
 ·have:=C3 f y fs;lia
 ·show xH ((rQ f y fs).lookup g) (if g=f then aa u else mA g)
  rw[C2]
  by_cases q:g=f
  ·rw[if_pos q,if_pos q];exact ry
  ·rw[if_neg q,if_neg q];exact r g
 ·by_cases q:g=f
  ·rw[q];exact(B8 f y fs).1
  ·refine(B8 f y fs).2 g (wi g λz=>hg ?_)
   show(if g=f then aa u else mA g)=none;rw[if_neg q];exact z
def Inv.made (I:Inv X pins σ H s):Inv X pins σ (upd (upd H s.heap.objs.size (.own (s.heap.objs.size+1))) (s.heap.objs.size+1) (.ins C s.heap.objs.size []))
  {s with heap:=(s.heap.push tQ).push (vJ C s.heap.objs.size)}:=by
 have e1:(s.heap.push tQ).get? s.heap.objs.size=aa tQ:=kE s.heap rfl;have e2:((s.heap.push tQ).push (vJ C s.heap.objs.size)).get? (s.heap.objs.size+1)=aa (vJ C s.heap.objs.size):=by
  have:=kE (s.heap.push tQ) (o:=vJ C s.heap.objs.size) rfl
  rwa [Ov]at this
 have e3:(s.heap.push tQ).Ns s.heap.objs.size (λ_=>none):=⟨tQ,#[],_,e1,rfl,(λe he=>absurd he (by simp)),λ_=>rfl⟩
 have I1:=I.laid (a:=s.heap.objs.size) (o:=.own (s.heap.objs.size+1)) (h':=s.heap.push tQ) (t':=s.toks) (λb u q=>dg _ q) (aY _) ⟨_,e1⟩;refine I1.laid (a:=s.heap.objs.size+1) (o:=.ins C s.heap.objs.size []) (t':=s.toks) (λb u q=>dg _ q) (Az (Ov _ _)) ?_;have ne:s.heap.objs.size≠s.heap.objs.size+1:=eU (Ig _);refine⟨by rw[aH ne,aU],iJ _,ne,e2,λ_=>none,(aF.Ns1.of_empty e3).at λo q=>dg _ q,λ_=>qc,λy hy=>absurd rfl hy⟩
def Ys{prog:aS}{w:aD}{env:Env}{f:Str}{pos:Pos}{s:aj}{Q:ah->aj->Prop}(hb:jP e f env (az e env)=az e env)
  (h:aG (aE prog w) A (az e env) (λo s₁=>aG (aE prog w) A (getAttr o f true) Q E s₁) E s):aG (aE prog w) A (az (.Attribute e f pos) env) Q E s:=
 Attribute_any_ h (by rw[arm_eval_Attribute,hb])
end
inductive agK (K:ak) (f:Str) (x:V) (H1:Hp) (Q:VK):Prop
 |mk (a C dx:ae) (fs:List (Str×V)) (v:V):x=.ref a->H1 a=aa (.ins C dx fs)->T7 K C->kX K C f->fs.lookup f=aa v->Q v H1->agK K f x H1 Q
def agL(K:ak)(ta:TE)(f:Str):TE:=λσ H Q=>ta σ H λx H1=>agK K f x H1 Q
inductive abu (K:ak) (f:Str) (y x:V) (H2:Hp) (Q:Hp->Prop):Prop
 |mk (a C dx:ae) (fs:List (Str×V)):x=.ref a->H2 a=aa (.ins C dx fs)->T7 K C->kX K C f->fs.length<1000->Q (upd H2 a (.ins C dx (rQ f y fs)))->abu K f y x H2 Q
def aj6(K:ak)(ta tv:TE)(f:Str):TS:=λD σ H=>tv σ H λy H1=>ta σ H1 λx H2=>abu K f y x H2 (D.nx σ)
section
variable{X:Cx}{o e value:ao}{f:Str}{pos pos' aj7:Pos}{ta tv:TE}
def dS(he:PE X e ta)(hb:jP e f X.env (az e X.env)=az e X.env):PE X (.Attribute e f pos) (agL X.K ta f):=by intro pins s σ H Q I h;refine Ys hb (gh (he pins s σ H _ I h) λu s1 ⟨x,H1,I1,rx,a,C,dx,fs,v,ex,ea,c,n,l,q⟩=>?_);subst ex;obtain rfl:u=dq a:=rx;exact Mu I1 ea c n l λu' s2 I2 ru=>⟨v,H1,I2,ru,q⟩
def uB(ha:PE X o ta)(hv:PE X value tv)(hs:iH value (aa (.Attribute o f pos')) pos.line X.env=bj false):PS X (.Assign [.Attribute o f pos'] value pos) (aj6 X.K ta tv f):=by intro pins s σ H D I h;refine plainObj_wpAny_Assign_Attribute (gh (hv pins s σ H _ I h) λu s1 ⟨y,H1,I1,ry,q⟩=>gh (ha pins s1 σ H1 _ I1 q) λov s2 ⟨x,H2,I2,rx,a,C,dx,fs,ex,ea,c,n,l,q2⟩=>?_) hs;subst ex;obtain rfl:ov=dq a:=rx;exact Mw I2 ea c n l ry λs3 I3=>⟨σ,_,I3,q2⟩
end
section
variable{X:Cx}{pins:List (ae×Obj)}{σ:St}{H:Hp}{s:aj}{A:bx}{E:ah->aj->Prop}{Q:ah->aj->Prop}{c:ah}{b:Bool}
inductive Dn (K:ak) (H:Hp):V->ah->Prop where
 |non:Dn K H .non (.type "NoneType")
 |bl (x:Bool):Dn K H (.bl x) (.type "bool")
 |int (i:Int):Dn K H (.int i) (.type "int")
 |str (x:Str):Dn K H (.str x) (.type "str")
 |flt (x:UInt64):Dn K H (.flt x) (.type "float")
 |lst {a:ae} {xs:List V} (e:H a=aa (.lst xs)):Dn K H (.ref a) (.type "list")
 |Gi {a:ae} {o:Obj} {xs:List V} (e:H a=aa (.Gi o (.lst xs))):Dn K H (.ref a) (.type "list")
 |tup {a:ae} {xs:List V} (e:H a=aa (.tup xs)):Dn K H (.ref a) (.type "tuple")
 |dK {a:ae} {kvs:List (Key×V)} (e:H a=aa (.dK kvs)):Dn K H (.ref a) (.type "dict")
 |dT {a:ae} {kvs:List (List Key×V)} (e:H a=aa (.dT kvs)):Dn K H (.ref a) (.type "dict")
 |ins {a C dx:ae} {fs:List (Str×V)} (e:H a=aa (.ins C dx fs)) (cl:T7 K C) (ha:eY K (.ref C) "__class__"=aa (aa (.builtin "object.__class__")))
   (hn:PySem.W.specialIn K (.builtin "object.__class__") "__get__"=aa (aa (.builtin "getset_descriptor.__get__"))) (htk:PySem.W.takesIn K (.builtin "object.__class__")=aa true)
   (hm:mroIn K C (.type "object")=aa true):Dn K H (.ref a) (.ref C)
def yG{x:V}{u t:ah}(I:Inv X pins σ H s)(rx:RelV x u)(ty:Dn X.K H x t)(e:Ow X.K t c=aa b)(h:∀tk,Q (.bool b) {s with toks:=tk}):
  aG (aE X.prog X.w) A (call (.builtin "isinstance") [u,c]) Q E s:=by
 cases ty with
 |non=>cases (show u=ah.none from rx);exact lF PySem.W.kitx_none I.B1 qc e (λz=>nomatch z) h
 |bl y=>cases (show u=HJ y from rx);exact lF PySem.W.kitx_bool I.B1 qc e (λz=>nomatch z) h
 |int i=>obtain⟨t,q⟩:=(show∃t,u=DK i t from rx);cases q;exact lF PySem.W.kitx_int I.B1 qc e (λz=>nomatch z) h
 |str y=>obtain⟨t,q⟩:=(show∃t,u=DM y t from rx);cases q;exact lF PySem.W.kitx_str I.B1 qc e (λz=>nomatch z) h
 |flt y=>obtain⟨t,q⟩:=(show∃t,u=NY y t from rx);cases q;exact lF PySem.W.kitx_float I.B1 qc e (λz=>nomatch z) h
 | @lst a xs ea=>
  cases (show u=dq a from rx);obtain⟨_,_,n,_,h1⟩:=(show ig X.prog X.w H s.heap a (.lst xs)from I.hok a _ ea)
  show 'Q'
 | @Gi a ob xs ea=>
  cases (show u=dq a from rx);obtain⟨_,_,_,n,_,h1⟩:=(show ig X.prog X.w H s.heap a (.Gi ob (.lst xs))from I.hok a _ ea)
  show 'Q'
 | @tup a xs ea=>
  cases (show u=dq a from rx);obtain⟨_,_,_,p⟩:=(show ig X.prog X.w H s.heap a (.tup xs)from I.hok a _ ea)
  obtain⟨o,h1,h2,_⟩:=p;exact lF Yt I.B1 ⟨o,h1,h2⟩ e (λz=>nomatch z) h
 | @dK a kvs ea=>
  cases (show u=dq a from rx);obtain⟨_,_,vs,_,p⟩:=(show ig X.prog X.w H s.heap a (.dK kvs)from I.hok a _ ea)
  obtain⟨o,es,ep,h1,h2,_⟩:=p;show 'P'
 | @dT a kvs ea=>
  cases (show u=dq a from rx);obtain⟨_,_,xs,_,o,es,ep,h1,h2,_⟩:=(show ig X.prog X.w H s.heap a (.dT kvs)from I.hok a _ ea)
  show 'P'
 | @ins a C dx fs ea cl ha hn htk hm=>
  cases (show u=dq a from rx);obtain⟨mA,O,_⟩:=DW I.hok ea;obtain⟨od,J,_⟩:=O.look;exact lF (PySem.W.kitx_own (cl.get _) cl.hd ha hn htk hm) I.B1 J e (λz=>nomatch z) h
end
end L2
namespace L2
open PySem PySem.Spec PyProof.Rows
structure cP(k:Nat)(A:bx):Prop where
 hd:A.handled=none
 dp:A.depth+3*k+5<recursionLimit
 un:A.units+16*k+200<iK
def cP.mono {j k:Nat}{A:bx}(r:cP k A)(h:autoParam (j<=k) xI):cP j A:=⟨r.hd,by have:=r.dp;lia,by have:=r.un;lia⟩
theorem cP.deeper {A:bx}(r:cP (k+1) A)(env:Env):cP k (A.deeper env):=
 ⟨r.hd,by have:=r.dp;show A.depth+1+3*k+5<_;lia,by have:=r.un;show A.units+3+16*k+200<_;lia⟩
def My{A:bx}{C:ae}{us:List ah}{kw:List (Str×ah)}:(A.under (.builtin "type.__call__" ⟨.ref C::us,kw⟩)).depth=A.depth+1:=by first|rfl|simp[Oz,vN.weight,vN.isCreation,vN.isGuard,vN.isCaller,Yv,OA,guardIds]
def Mz{A:bx}{C:ae}{us:List ah}{kw:List (Str×ah)}:(A.under (.builtin "type.__call__" ⟨.ref C::us,kw⟩)).units=A.units+1:=by first|rfl|simp[Oz,vN.cUnits,Yv,OA]
def cP.make {A:bx}(r:cP (k+1) A)(C:ae)(us:List ah)(kw:List (Str×ah)):cP k (A.under (.builtin "type.__call__" ⟨.ref C::us,kw⟩)):=
 ⟨r.hd,by have:=r.dp;rw[My];lia,by have:=r.un;rw[Mz];lia⟩
theorem cP.depth {A:bx}(r:cP k A):A.depth<recursionLimit:=by have:=r.dp;lia
theorem cP.units {A:bx}(r:cP k A):A.units+64<iK:=by have:=r.un;lia
def Yw:TA:=λ_ H Q=>Q [] H
def T8(ta:TE)(tr:TA):TA:=λσ H Q=>ta σ H λx H1=>tr σ H1 λxs H2=>Q (x::xs) H2
section
variable{X:Cx}{e:ao}{es:List ao}{te:TE}{t:TA}{pos:Pos}
def bQ:PA X [] Yw:=λ_ _ _ _ H Q I h=>DX ⟨[],H,I,.nil,h⟩
def bc(ha:PE X e te)(hr:PA X es t)(hs:autoParam (ar (e::es) X.env=(false,az e X.env)::ar es X.env) wS):PA X (e::es) (T8 te t):=by intro pos pins s σ H Q I h;rw[hs];show aG _ _ (spliced ((false,az e X.env)::bF pos (ar es X.env))) _ _ s;refine DY (gh (ha pins s σ H _ I h) λu s1 ⟨x,H1,I1,r1,q1⟩=>?_);exact gh (hr pos pins s1 σ H1 _ I1 q1) λus s2 ⟨xs,H2,I2,r2,q2⟩=>⟨x::xs,H2,I2,.cons r1 r2,q2⟩
def aj8(t:TA):TE:=λσ H Q=>t σ H λxs H1=>xs.length<=aK/\∀p,H1 p=none->Q (.ref p) (upd H1 p (.tup xs))
def aj9(t:TA):TE:=λσ H Q=>t σ H λxs H1=>xs.length<=aK/\∀p,H1 p=none->Q (.ref p) (upd H1 p (.lst xs))
def B9{x1}(h:PA X es t):PE X (.Tuple es x1 pos) (aj8 t):=by intro pins s σ H Q I hq;refine wpAny_Tuple_spliced (gh (h pos pins s σ H _ I hq) λus s1 ⟨xs,H1,I1,r,z,q⟩=>⟨by rw[<-r.length];exact z,?_⟩);have hf:H1 s1.heap.objs.size=none:=I1.hok.fresh (aY _);refine⟨.ref s1.heap.objs.size,upd H1 s1.heap.objs.size (.tup xs),I1.laid (t':=s1.toks) (λb u e=>dg _ e) (aY _) ?_,rfl,q _ hf⟩;exact⟨z,us,r,⟨_,kE _ rfl,rfl,_,rfl⟩⟩
def Ca(h:PA X es t):PE X (.List es pos) (aj9 t):=by intro pins s σ H Q I hq;refine wpAny_List_spliced (gh (h pos pins s σ H _ I hq) λus s1 ⟨xs,H1,I1,r,z,q⟩=>⟨by rw[<-r.length];exact z,?_⟩);have hf:H1 s1.heap.objs.size=none:=I1.hok.fresh (aY _);refine⟨.ref s1.heap.objs.size,upd H1 s1.heap.objs.size (.lst xs),I1.laid (t':=s1.toks) (λb u e=>dg _ e) (aY _) ?_,rfl,q _ hf⟩;exact⟨z,us,0,r,kE _ rfl⟩
end
abbrev Sp:=List V->Hp->VK->XK->Prop
abbrev RM:=List Env->Hp->aj->XK->ah->aj->Prop
structure MA(P:aS)(w:aD)(K:ak)(mg:Str->Option ah)(base:aF)(A:bx)(outer:List Env)(s:aj)(H:Hp):Prop where
 frames:A.frames=aa outer
 mod:Mod K mg base
 bs:∀b o,base.get? b=aa o->s.heap.get? b=aa o/\H b=none
 Xw:base.objs.size<=s.heap.objs.size
 B5:s.heap.FunFrames base outer
 frf:∀b∈Me outer,H b=none
 hok:zA P w H s.heap
 bare:qW s.gens
def CE(outer:List Env)(P:aS)(w:aD)(H:Hp)(s:aj)(Q:VK)(u:ah)(s':aj):Prop:=
 ∃v H',s'.os=s.os/\qW s'.gens/\Un (Me outer) [] H H' s.heap s'.heap/\zA P w H' s'.heap/\RelV v u/\Q v H'
def CR(CX:RM)(outer:List Env)(P:aS)(w:aD)(H:Hp)(s:aj)(Q:VK)(E:XK)(r:DV)(s':aj):Prop:=
 match r with
 |.ok (.ret u)=>CE outer P w H s Q u s'
 |.ok _=>False
 |.error e=>CX outer H s E e s'
structure fW(P:aS)(w:aD)(K:ak)(mg:Str->Option ah)(base:aF)(CX:RM)(k:Nat)(f:ae)(fd:aL)(ps:List Str)(sp:Sp):Prop where
 len:∀vs H Q E,sp vs H Q E->vs.length=ps.length
 run:∀(A:bx)(outer:List Env)(s:aj)(H:Hp)(args:Args)(us:List ah)(vs:List V)(Q:VK)(E:XK),cP k A->MA P w K mg base A outer s H->yH s fd args (ps.zip us)->Vals vs us->sp vs H Q E->
  p9 (aE P w) A (.call (.ref f) args) (CR CX outer P w H s Q E) s
def MA.make {P:aS}{w:aD}{K:ak}{mg:Str->Option ah}{base:aF}{A:bx}{outer:List Env}{s:aj}(e:MA P w K mg base A outer s H)(C:ae)(us:List ah)(kw:List (Str×ah)):
  MA P w K mg base (A.under (.builtin "type.__call__" ⟨.ref C::us,kw⟩)) outer s H:=⟨by first|exact e.frames|(simpa[Oz,vN.envs,OA,pushEnvs]using e.frames),e.mod,e.bs,e.Xw,e.B5,e.frf,e.hok,e.bare⟩
section
variable{X:Cx}{pins:List (ae×Obj)}{σ:St}{H:Hp}{s s':aj}
def Inv.agM (I:Inv X pins σ H s):MA X.prog X.w X.K X.mg X.base X.A X.stack s H:=
 ⟨I.ok.frames,I.ok.mod,I.bs,lD I.ok.Xw I.sz,I.stack,I.N5,I.hok,I.bare⟩
def Inv.after {Q:VK}{u:ah}(I:Inv X pins σ H s)(h:CE X.stack X.prog X.w H s Q u s'):EP X pins σ Q u s':=by obtain⟨v,H',os,bare,un,hok,r,q⟩:=h;obtain⟨hh,g,d,t,k9⟩:=s';obtain rfl:k9=s.os:=os;exact⟨v,H',I.call (h':=hh) (g':=g) (d':=d) (t':=t) (ch:=[]) un hok bare (λb z=>absurd z (by simp)),r,q⟩
end
def abv(sp:Sp)(dvs:List V)(E:XK)(t:TA):TE:=λσ H Q=>t σ H λvs H1=>sp (vs++dvs) H1 Q E
inductive abw (C:ae) (m:Str) (x:V) (H1:Hp) (Q:Prop):Prop
 |mk (a dx:ae) (fs:List (Str×V)):x=.ref a->H1 a=aa (.ins C dx fs)->fs.lookup m=none->Q->abw C m x H1 Q
def abx(C:ae)(m:Str)(sp:Sp)(dvs:List V)(E:XK)(ta:TE)(t:TA):TE:=λσ H Q=>ta σ H λx H1=>abw C m x H1 (t σ H1 λvs H2=>sp (x::(vs++dvs)) H2 Q E)
def agN(C:ae)(sp:Sp)(dvs:List V)(E:XK)(t:TA):TE:=λσ H Q=>t σ H λvs H1=>∀x dx,H1 x=none->H1 dx=none->dx≠x->
 sp (.ref x::(vs++dvs)) (upd (upd H1 dx (.own x)) x (.ins C dx [])) (λv H2=>v=.non/\Q (.ref x) H2) E
def Binds(K:ak)(fd:aL)(ps:List Str)(ds:List ah):Prop:=
 ∀(s:aj)(us:List ah),K.In s.heap->(us++ds).length=ps.length->yH s fd ⟨us,[]⟩ (ps.zip (us++ds))
def Binds.all {K:ak}{fd:aL}{ps:List Str}(h:∀us:List ah,us.length=ps.length->m9 fd ⟨us,[]⟩=bj (ps.zip us)):Binds K fd ps []:=λs us _ hl=>by rw[bg]at hl⊢;exact .of_eq (h us hl)
def Passes(CX:RM)(X:Cx)(E:XK):Prop:=∀(pins:List (ae×Obj))(σ:St)(H:Hp)(s:aj)(e:ah)(s':aj),Inv X pins σ H s->CX X.stack H s E e s'->X.xe e s'
section
variable{X:Cx}{CX:RM}{k:Nat}{f C:ae}{fd:aL}{ps:List Str}{sp:Sp}{dvs:List V}{ds:List ah}{E:XK}{x m:Str}{p pos apos:Pos}{e o:ao}{es:List ao}{ta:TE}{t:TA}
def Ih{s:aj}{Q:VK}{us:List ah}{vs:List V}(F:fW X.prog X.w X.K X.mg X.base CX k f fd ps sp)(hr:cP k X.A)(hb:Binds X.K fd ps ds)(hd:Vals dvs ds)(hx:Passes CX X E)
  (I:Inv X pins σ H s)(r:Vals vs us)(h:sp (vs++dvs) H Q E):aG (aE X.prog X.w) X.A (call (.ref f) us) (EP X pins σ Q) X.xe s:=by
 have r2:Vals (vs++dvs) (us++ds):=r.append hd;have hl:(us++ds).length=ps.length:=by rw[<-r2.length];exact F.len _ _ _ _ h
 refine wpAny_call (Ii (F.run X.A X.stack s H ⟨us,[]⟩ (us++ds) (vs++dvs) Q E hr I.agM (hb s us I.B1 hl) r2 h) λr s' hq=>?_);cases r with
 |error e=>exact hx pins σ H s e s' I hq
 |ok fl=>
  cases fl with
  |ret u=>exact I.after hq
  |_=>exact kC hq
def jQ(F:fW X.prog X.w X.K X.mg X.base CX k f fd ps sp)(hr:cP k X.A)(hg:Gl X x)(hm:X.mg x=aa (.ref f))(hk:kG X.K (.ref f)=true)(hb:Binds X.K fd ps ds)(hd:Vals dvs ds)(hx:Passes CX X E)
  (ha:PA X (e::es) t)(hdb:autoParam ((x==("__debug__":Str))=false) xI)(he:autoParam (ar (e::es) X.env=(false,az e X.env)::ar es X.env) wS)(hpl:autoParam ((bF pos (ar es X.env)).any (·.1)=false) wS):
  PE X (.Call (.Name x p) (e::es) [] pos) (abv sp dvs E t):=by
 show 'c';refine vO (HR I hg hm ?_ hdb);refine Ij (h₀:=X.base) I.ok.mod.kin hk (gh (ha pos pins s σ H _ I h) λus s1 ⟨vs,H1,I1,r,q⟩=>⟨I1.B1,?_⟩) he hpl;exact Ih F hr hb hd hx I1 r q
def qd{pl:Sem Bool}(he:PE X o ta)(c:T7 X.K C)(hm:Meth X.K C m f)(F:fW X.prog X.w X.K X.mg X.base CX k f fd ps sp)(hr:cP k X.A)(hb:Binds X.K fd ps ds)(hd:Vals dvs ds)(hx:Passes CX X E)(ha:PA X (e::es) t)
  (hst:autoParam (ar (e::es) X.env=(false,az e X.env)::ar es X.env) wS)(hpl:autoParam ((bF pos (ar es X.env)).any (·.1)=false) wS)
  (ht:autoParam (az (.Call (.Attribute o m apos) (e::es) [] pos) X.env=(do
   let ov<-az o X.env
   yA apos.atName
   let(f,first)<-lE [ov] (Ie ov m pl)
   callWith pos f first (bF pos (ar (e::es) X.env)) (nc pos (ng [] X.env)))) wS):
  PE X (.Call (.Attribute o m apos) (e::es) [] pos) (abx C m sp dvs E ta t):=by
 show 'c';show 'w';subst ex;obtain rfl:u=dq a:=rx;refine EH I1 ea c hm l ?_;refine Ij (first:=[.ref a]) (h₀:=X.base) I.ok.mod.kin hm.kp (gh (ha pos pins s1 σ H1 _ I1 q) λus s2 ⟨vs,H2,I2,r,q2⟩=>⟨I2.B1,?_⟩) hst hpl;exact Ih (us:=.ref a::us) (vs:=.ref a::vs) F hr hb hd hx I2 (.cons rfl r) q2
def T9{pl:Sem Bool}(he:PE X o ta)(c:T7 X.K C)(hm:Meth X.K C m f)(F:fW X.prog X.w X.K X.mg X.base CX k f fd ps sp)(hr:cP k X.A)(hb:Binds X.K fd ps ds)(hd:Vals dvs ds)(hx:Passes CX X E)
  (ht:autoParam (az (.Call (.Attribute o m apos) [] [] pos) X.env=(do
   let ov<-az o X.env
   yA apos.atName
   let(f,first)<-lE [ov] (Ie ov m pl)
   callWith pos f first (bF pos (ar [] X.env)) (nc pos (ng [] X.env)))) wS):
  PE X (.Call (.Attribute o m apos) [] [] pos) (abx C m sp dvs E ta Yw):=by
 show 'c';show 'w';subst ex;obtain rfl:u=dq a:=rx;refine EH I1 ea c hm l ?_;exact PySem.W.callWith_K0 (first:=[.ref a]) I1.B1 hm.kp (Ih (us:=[.ref a]) (vs:=[.ref a]) F hr hb hd hx I1 (.cons rfl .nil) q)
structure Mk(K:ak)(C f:ae):Prop where
 makes:Ot K C=true
 init:eY K (.ref C) "__init__"=aa (aa (.ref f))
 fn:Ic K (.ref f)=true
 kp:kG K (.ref C)=true
def Ua{s:aj}{Q:VK}{us:List ah}{vs:List V}(M:Mk X.K C f)(F:fW X.prog X.w X.K X.mg X.base CX k f fd ps sp)(hr:cP (k+1) X.A)(hb:Binds X.K fd ps ds)(hd:Vals dvs ds)
  (hx:Passes CX X E)(I:Inv X pins σ H s)(r:Vals vs us)
  (h:∀x dx,H x=none->H dx=none->dx≠x->sp (.ref x::(vs++dvs)) (upd (upd H dx (.own x)) x (.ins C dx [])) (λv H2=>v=.non/\Q (.ref x) H2) E):
  aG (aE X.prog X.w) X.A (call (.ref C) us) (EP X pins σ Q) X.xe s:=by
 have hq:=h (s.heap.objs.size+1) s.heap.objs.size (I.hok.fresh (Ik _)) (I.hok.fresh (aY _)) (eU (Ig _));have I2:=Inv.made (C:=C) I;have r2:Vals (V.ref (s.heap.objs.size+1)::(vs++dvs)) (dq (s.heap.objs.size+1)::(us++ds)):=.cons rfl (r.append hd);have hl:(dq (s.heap.objs.size+1)::us++ds).length=ps.length:=by have e:=r2.length;rw[F.len _ _ _ _ hq]at e;exact e.symm
 refine wpAny_call (T6 (f:=f) I.B1 M.makes M.init (beq_iff_eq.mp M.fn) (Ii (F.run _ X.stack _ _ ⟨dq (s.heap.objs.size+1)::us,[]⟩ (dq (s.heap.objs.size+1)::(us++ds)) _ _ E (hr.make C us [])
  (I2.agM.make C us []) (hb _ (dq (s.heap.objs.size+1)::us) I2.B1 hl) r2 hq) λr s' JU=>?_))
 cases r with
 |error e=>exact hx pins σ _ _ e s' I2 JU
 |ok fl=>
  cases fl with
  |ret u=>
   obtain⟨v,H',I3,rv,ev,q3⟩:=I2.after JU;subst ev;exact⟨rv,⟨V.ref (s.heap.objs.size+1),H',I3,rfl,q3⟩⟩
  |_=>exact kC JU
def Yy(M:Mk X.K C f)(F:fW X.prog X.w X.K X.mg X.base CX k f fd ps sp)(hr:cP (k+1) X.A)(hg:Gl X x)(hm:X.mg x=aa (.ref C))(hb:Binds X.K fd ps ds)(hd:Vals dvs ds)(hx:Passes CX X E)
  (ha:PA X (e::es) t)(hdb:autoParam ((x==("__debug__":Str))=false) xI)(he:autoParam (ar (e::es) X.env=(false,az e X.env)::ar es X.env) wS)(hpl:autoParam ((bF pos (ar es X.env)).any (·.1)=false) wS):
  PE X (.Call (.Name x p) (e::es) [] pos) (agN C sp dvs E t):=by
 show 'c';refine vO (HR I hg hm ?_ hdb);refine Ij (h₀:=X.base) I.ok.mod.kin M.kp (gh (ha pos pins s σ H _ I h) λus s1 ⟨vs,H1,I1,r,q⟩=>⟨I1.B1,?_⟩) he hpl;exact Ua M F hr hb hd hx I1 r q
end
structure aT(N P:List Str)(sc:du):Prop where
 kind:sc.kind=.function
 co:sc.isCoroutine=false
 gen:sc.isGenerator=false
 nd:N.Nodup
 pre:N.take P.length=P
 par:∀x∈P,sc.names.lookup x=aa .local\/sc.names.lookup x=aa .cell
 ac5:∀y∈sc.names,y.2≠.free
theorem GO{kH:Str->Option iM}:∀{binds:List (Str×ah)}{m:Str->Option ah},(∀v,(x,v)∉binds)->vP kH binds m x=m x
 |[],_,_=>rfl
 |(n,v)::r,m,h=>by
  unfold vP;rw[GO λw hw=>h w (bE _ hw)];split
  ·have:x≠n:=by rintro rfl;exact h v je
   simp[this]
  ·rfl
theorem GQ{kH:Str->Option iM}:∀{binds:List (Str×ah)}{m:Str->Option ah},(∀v,(x,v)∉binds)->vQ kH binds m x=m x
 |[],_,_=>rfl
 |(n,v)::r,m,h=>by
  unfold vQ;rw[GQ λw hw=>h w (bE _ hw)];split
  ·rfl
  ·have:x≠n:=by rintro rfl;exact h v je
   simp[this]
theorem GR{kH:Str->Option iM}{v:ah}:∀{P:List Str}{vs:List ah}{i:Nat}{m:Str->Option ah},P.Nodup->P[i]?=aa x->vs[i]?=aa v->kH x=aa .local->
  vP kH (P.zip vs) m x=aa v
 |[],_,_,_,_,h,_,_=>by simp at h
 |_::_,[],_,_,_,_,h,_=>by simp at h
 |p::P,w::vs,0,m,nd,h1,h2,hk=>by simp at h1 h2;subst h1;subst h2;show vP kH ((p,w)::P.zip vs) m p=_;unfold vP;rw[GO λv hv=>(ji.mp nd).1 (OB hv).1,if_pos hk];simp
 |p::P,w::vs,i+1,m,nd,h1,h2,hk=>by show vP kH ((p,w)::P.zip vs) m x=_;unfold vP;exact GR (i:=i) (ji.mp nd).2 (by simpa using h1) (by simpa using h2) hk
theorem GU{kH:Str->Option iM}{v:ah}:∀{P:List Str}{vs:List ah}{i:Nat}{m:Str->Option ah},P.Nodup->P[i]?=aa x->vs[i]?=aa v->kH x≠aa .local->
  vQ kH (P.zip vs) m x=aa v
 |[],_,_,_,_,h,_,_=>by simp at h
 |_::_,[],_,_,_,_,h,_=>by simp at h
 |p::P,w::vs,0,m,nd,h1,h2,hk=>by simp at h1 h2;subst h1;subst h2;show vQ kH ((p,w)::P.zip vs) m p=_;unfold vQ;rw[GQ λv hv=>(ji.mp nd).1 (OB hv).1,if_neg hk];simp
 |p::P,w::vs,i+1,m,nd,h1,h2,hk=>by show vQ kH ((p,w)::P.zip vs) m x=_;unfold vQ;exact GU (i:=i) (ji.mp nd).2 (by simpa using h1) (by simpa using h2) hk
def start(N:List Str)(vs:List V):St:=vs.map aa++aO (N.length-vs.length) none
noncomputable def z8(CX:RM)(P:aS)(w:aD)(K:ak)(mg:Str->Option ah)(base:aF)(N:List Str)(qual:Str)(scope:du)(f:ae)(cd:ah)(A:bx)(outer:List Env)(s:aj)(H:Hp)(E:XK):Cx where
 prog:=P
 w:=w
 K:=K
 mg:=mg
 base:=base
 A:=A.deeper (gW qual scope s.heap.objs.size f cd)
 N:=N
 s₀:=s
 H₀:=H
 env:=gW qual scope s.heap.objs.size f cd
 outer:=outer
 stack:=gW qual scope s.heap.objs.size f cd::outer
 ex:=[]
 calm:=true
 fn:=λ_=>true
 pn:=[]
 xe:=λe s'=>aG (aE P w) (A.deeper (gW qual scope s.heap.objs.size f cd)) (leaving (gW qual scope s.heap.objs.size f cd) e) (λ_ s''=>CX outer H s E e s'') (λe' s''=>CX outer H s E e' s'') s'
def Kc{sc:du}(h:sc.names.lookup x=aa .cell):∃c,(Il n sc.names []).lookup x=aa c:=by have q:=Yz sc.names n [] (.inl h);exact OC.mp q
def RN{CX:RM}{P:aS}{w:aD}{K:ak}{mg:Str->Option ah}{base:aF}{N ps:List Str}{qual:Str}{scope:du}{f:ae}{cd:ah}{A:bx}{outer:List Env}{s s1:aj}{E:XK}{us:List ah}{vs:List V}
  (S:aT N ps scope)(hd:A.handled=none)(e0:MA P w K mg base A outer s H)(hl:vs.length=ps.length)(r:Vals vs us)
  (x:InCallC s s.heap.objs.size (vP (gW qual scope s.heap.objs.size f cd).kindOf (ps.zip us) λ_=>none) (Il (s.heap.objs.size+1) scope.names []) (vQ (gW qual scope s.heap.objs.size f cd).kindOf (ps.zip us) λ_=>none) s1):
  Inv (z8 CX P w K mg base N qual scope f cd A outer s H E) [] (start N vs) H s1:=by
 have hpl:ps.length<=N.length:=by have:=congrArg length S.pre;rw[fA]at this;lia
 obtain⟨h1,tk,rfl,hk⟩:=x.done;have noA:∀b:ae,b∉(z8 CX P w K mg base N qual scope f cd A outer s H E).ex:=λb z=>absurd (show b∈([]:List ae)from z) (by simp);refine⟨⟨e0.mod,S.kind,rfl,rfl,aY _,λy z c h1 h2=>?_,λy hy=>?_,λy c _ h=>?_,λ_=>hd,bx.frames_deeper e0.frames,.inr ⟨rfl,rfl⟩,λb z=>absurd z (noA b),e0.bs,e0.Xw,λb _ _=>noA b,λb z=>absurd z (noA b),e0.B5,e0.frf⟩,
  rfl,e0.bare,Un.kept hk,⟨_,x.toInCall.ns,λi y v h1 h2 h3=>?_⟩,λy c h=>⟨_,x.cell y c h⟩,e0.hok.fresh (aY _),λy c h=>?_,λp hp=>absurd (show p∈([]:List (ae×Obj))from hp) (by simp),e0.hok.kept hk,?_⟩
 ·exact name_of_addr x.apart (PySem.mem_of_lookup h1) (PySem.mem_of_lookup h2)
 ·have hy:scope.names.lookup y=aa .cell\/scope.names.lookup y=aa .free:=hy
  rcases hy with hy|hy
  ·exact Kc hy
  ·exact absurd rfl (S.ac5 _ (PySem.mem_of_lookup hy))
 ·exact HN (x.above y c (PySem.mem_of_lookup h))
 ·have hi:i<vs.length:=by
   unfold start at h2
   by_cases hi:i<vs.length
   ·exact hi
   ·rw[jR (by simpa using hi)]at h2
    rw[qe]at h2;split at h2<;>cases h2
  have ha:vs[i]?=aa v:=by
   unfold start at h2;rw[fE (by simpa using hi),bK]at h2;cases e:vs[i]? with
   |none=>rw[e]at h2;cases h2
   |some a=>rw[e]at h2;cases h2;rfl
  obtain⟨u,hu,rv⟩:=r.get ha;have hp:ps[i]?=aa y:=by rw[<-S.pre,List.getElem?_take_of_lt (by lia)];exact h1
  have ndP:ps.Nodup:=by rw[<-S.pre];exact S.nd.sublist (List.take_sublist _ _)
  refine⟨u,rv,?_⟩;rcases S.par y (dU hp)with k|k
  ·exact .inl ⟨k,GR ndP hp hu k⟩
  ·obtain⟨c,e⟩:=Kc (n:=s.heap.objs.size+1) k
   refine .inr ⟨.inl k,c,e,?_⟩;have q:=x.cell y c e;rw[GU ndP hp hu (by show scope.names.lookup y≠_;rw[k];decide)]at q;exact q
 ·exact e0.hok.fresh (HN (x.above y c (PySem.mem_of_lookup h)))
 ·unfold start
  show _=N.length;rw[br,aN,AA];lia
def agP{CX:RM}{P:aS}{w:aD}{K:ak}{mg:Str->Option ah}{base:aF}{f:ae}{name qual:Str}{params:AB}{body:List aw}{scope:du}{dV kV doc pm cdv ct oc:ah}{an od:Option ae}
  {S9:Array (Option ah)}{N ps:List Str}{sp:Sp}(lk:K.lookup f=aa ⟨oc,od,.func (fX name qual params body scope dV kV doc pm an cdv ct),S9⟩)(hcd:AD K cdv qual=true)(S:aT N ps scope)
  (len:∀vs H Q E,sp vs H Q E->vs.length=ps.length)
  (hbody:∀(A:bx)(outer:List Env)(s:aj)(H:Hp)(vs:List V)(Q:VK)(E:XK),cP k (A.deeper (gW qual scope s.heap.objs.size f cdv))->sp vs H Q E->
   ∃t,zL (z8 CX P w K mg base N qual scope f cdv A outer s H E) body t/\t {nx:=λ_ H'=>Q .non H',rt:=Q} (start N vs) H):
  fW P w K mg base CX (k+1) f (fX name qual params body scope dV kV doc pm an cdv ct) ps sp:=by
 refine⟨len,λA outer s H args us vs Q E hr e0 hb r Gk=>?_⟩;have hl:=len _ _ _ _ Gk;have KX:K.In s.heap:=e0.mod.kin.keeps λb o e=>(e0.bs b o e).1;have lim:s.heap.NoLimit:=e0.mod.nolimit.keeps λb o e=>(e0.bs b o e).1;have hkind:∀y∈ps.zip us,scope.names.lookup y.1=aa .local\/(scope.names.lookup y.1=aa .cell/\((Il (s.heap.objs.size+1) scope.names []).lookup y.1).isSome=true):=λ⟨n,v⟩ hy=>by
  rcases S.par n (OB hy).1 with q|q
  ·exact .inl q
  ·exact .inr ⟨q,Yz _ _ _ (.inl q)⟩
 refine codeAny_call_function hr.depth (KX _ _ lk) rfl S.co S.gen rfl (PySem.W.codeRec_of KX hcd) (hb _ _ _ _ ?_);refine wpAny_newFunctionEnv_cells S.kind hkind λenv he s1 x=>?_;subst he;refine⟨lim.keeps x.toInCall.keep,codeAny_func ?_⟩;obtain⟨t,ht,hq⟩:=hbody A outer s H vs Q E (hr.deeper _) Gk;have I:Inv (z8 CX P w K mg base N qual scope f cdv A outer s H E) [] (start N vs) H s1:=RN S hr.hd e0 hl r x;refine mY (ht [] s1 (start N vs) H _ I hq) (λfl s' hs=>?_) λe s' hs=>hs;have fin:∀{σ':St}{H':Hp}{v:V}{u:ah},Inv (z8 CX P w K mg base N qual scope f cdv A outer s H E) [] σ' H' s'->RelV v u->Q v H'->CE outer P w H s Q u s':=
  λ{σ' H' v u} J rv q=>⟨v,H',J.os,J.bare,J.base,J.hok,rv,q⟩
 cases fl with
 |ret u=>
  obtain⟨v,σ',H',J,rv,q⟩:=hs;exact fin J rv q
 |next=>
  obtain⟨σ',H',J,q⟩:=hs;exact fin (v:=V.non) (u:=ah.none) J rfl q
 |brk=>
  obtain⟨_,_,_,q⟩:=hs;exact kC q
 |cont=>
  obtain⟨_,_,_,q⟩:=hs;exact kC q
end L2
namespace L2
open PySem PySem.Spec PyProof.Rows
section
variable{X:Cx}{x:Str}{p pos:Pos}{e:ao}{es:List ao}{t:TA}{id T:String}{r:List V->Hp->VK->Prop}
def tCB(r:List V->Hp->VK->Prop)(t:TA):TE:=λσ H Q=>t σ H λvs H1=>r vs H1 Q
def qA(hc:zM X (.builtin id) r)(hg:Gl X x)(hm:X.mg x=none)(hv:fV x=aa (.builtin id))(ha:PA X (e::es) t)(hn:autoParam (x≠"__name__") xI)(hdb:autoParam ((x==("__debug__":Str))=false) xI)
  (he:autoParam (ar (e::es) X.env=(false,az e X.env)::ar es X.env) wS)(hpl:autoParam ((bF pos (ar es X.env)).any (·.1)=false) wS):PE X (.Call (.Name x p) (e::es) [] pos) (tCB r t):=by
 show 'c';refine vO (pQ I hg hm hv ?_ hn hdb);exact PyProof.Rows.callWith_builtin1 (gh (ha pos pins s σ H _ I h) λus s1 ⟨vs,H1,I1,r1,q1⟩=>hc pins s1 σ H1 vs us Q I1 r1 q1) he hpl
def yI(hc:zM X (.type T) r)(hg:Gl X x)(hm:X.mg x=none)(hv:fV x=aa (.type T))(ha:PA X (e::es) t)(hn:autoParam (x≠"__name__") xI)(hdb:autoParam ((x==("__debug__":Str))=false) xI)
  (he:autoParam (ar (e::es) X.env=(false,az e X.env)::ar es X.env) wS)(hpl:autoParam ((bF pos (ar es X.env)).any (·.1)=false) wS):PE X (.Call (.Name x p) (e::es) [] pos) (tCB r t):=by
 show 'c';refine vO (pQ I hg hm hv ?_ hn hdb);exact p7 (gh (ha pos pins s σ H _ I h) λus s1 ⟨vs,H1,I1,r1,q1⟩=>hc pins s1 σ H1 vs us Q I1 r1 q1) he hpl
end
end L2
namespace HT
open PySem PyProof.Rows
section
open PySem.SeqAt
open PySem.AutoSeq1 (wpAny_loadPart')
open PySem.MeetsSeq PySem.MeetsSeq2 PySem.MeetsSeq3
end
section
variable{prog:aS}{w:aD}{A:bx}{E:ah->aj->Prop}{s:aj}
def EI(n d:Nat):Option Int->Nat
 |none=>d
 |some v=>if v<0 then(v+(n:Int)).toNat else min v.toNat n
theorem xQ(n d:Nat):EI n d none=d:=rfl
def vR(n d k:Nat):EI n d (aa (k:Int))=min k n:=by show(if(k:Int)<0 then((k:Int)+(n:Int)).toNat else min (k:Int).toNat n)=min k n;rw[if_neg (by lia),bu]
end
end HT
namespace L2
open PySem PySem.Spec PyProof.Rows
abbrev TO:=St->Hp->(Option Int->Hp->Prop)->Prop
def PO(X:Cx)(e:Option ao)(t:TO):Prop:=
 ∀(pins:List (ae×Obj))(s:aj)(σ:St)(H:Hp)(Q:Option Int->Hp->Prop),Inv X pins σ H s->t σ H Q->
  aG (aE X.prog X.w) X.A (evalPart e X.env) (λu s'=>∃o H',Inv X pins σ H' s'/\IsPart u o/\Q o H') X.xe s
def YA:TO:=λ_ H Q=>Q none H
def agQ(t:TE):TO:=λσ H Q=>t σ H λx H1=>∃i,x=.int i/\Q (aa i) H1
def intsAre_of{ns:Ap}:∀{us:List ah},Vals (ns.map V.int) us->yJ us ns:=by
 induction ns with
 |nil=>intro us r;rw[dz]at r;cases r;exact .nil
 |cons n ns ih=>
  intro us r;rw[bq]at r;cases r with
  |cons r1 r2=>
   obtain⟨t,e⟩:=r1;subst e;exact .cons n t (ih r2)
section
variable{X:Cx}{e:ao}{te:TE}{lo hi:Option ao}{tl th:TO}{pos p2:Pos}
def OD:PO X none YA:=by intro pins s σ H Q I h;rw[evalPart_none];exact ee ⟨none,H,I,.none,h⟩
def OE(h:PE X e te):PO X (aa e) (agQ te):=by intro pins s σ H Q I hw;rw[evalPart_some];refine gh (h pins s σ H _ I hw) λu s1 ⟨x,H1,I1,r1,q1⟩=>?_;obtain⟨i,rfl,q⟩:=q1;obtain⟨t,rfl⟩:=r1;exact⟨aa i,H1,I1,.int i t,q⟩
noncomputable def SlR(X:Cx)(r:V->Option Int->Option Int->Hp->VK->Prop):Prop:=
 ∀(pins:List (ae×Obj))(s:aj)(σ:St)(H:Hp)(x:V)(v vl vu:ah)(lo hi:Option Int)(sl:ae)(Q:VK),Inv X pins σ H s->RelV x v->s.heap.IsSliceOf sl vl vu .none->IsPart vl lo->IsPart vu hi->r x lo hi H Q->
  ∃T id,Im (.type T) "__getitem__"=bj (aa (.builtin id))/\s.TypeIs v T/\aG (aE X.prog X.w) X.A (AE v (.ref sl)) (EP X pins σ Q) X.xe s
def tSl(r:V->Option Int->Option Int->Hp->VK->Prop)(te:TE)(tl th:TO):TE:=λσ H Q=>te σ H λx H1=>tl σ H1 λl H2=>th σ H2 λu H3=>r x l u H3 Q
def Kd{r:V->Option Int->Option Int->Hp->VK->Prop}(hr:SlR X r)(he:PE X e te)(hl:PO X lo tl)(hu:PO X hi th):PE X (.Subscript e (.Slice lo hi none p2) pos) (tSl r te tl th):=by intro pins s σ H Q I h;refine OG (gh (he pins s σ H _ I h) λv s1 ⟨x,H1,I1,r1,q1⟩=>?_);refine wpAny_Slice (gh (hl pins s1 σ H1 _ I1 q1) λvl s2 ⟨l,H2,I2,pl,q2⟩=>gh (hu pins s2 σ H2 _ I2 q2) λvu s3 ⟨u,H3,I3,pu,q3⟩=>?_);rw[evalPart_none];refine ee ?_;have I4:Inv X pins σ H3 {s3 with heap:=s3.heap.push {cls:=.type "slice",data:=.fields #[vl,vu,.none]}}:=I3.kept (t':=s3.toks) λb ob q=>dg _ q;obtain⟨T,id,hT,ht,hg⟩:=hr pins {s3 with heap:=s3.heap.push {cls:=.type "slice",data:=.fields #[vl,vu,.none]}} σ H3 x v vl vu l u s3.heap.objs.size Q I4 r1 (aF.IsSliceOf.new ..) pl pu q3;show aG (aE X.prog X.w) X.A (OH e (.Slice lo hi none p2) v (.ref s3.heap.objs.size)) (EP X pins σ Q) X.xe {s3 with heap:=s3.heap.push {cls:=.type "slice",data:=.fields #[vl,vu,.none]}};exact tail_any (ops:=[.ref s3.heap.objs.size,v]) ht hT hg (by with_unfolding_all rfl)
def Gm(xs:List V)(lo hi:Option Int):List V:=(xs.drop (HT.EI xs.length 0 lo)).take (HT.EI xs.length xs.length hi-HT.EI xs.length 0 lo)
def Ke(xs:List V)(lo hi:Option Int):(Gm xs lo hi).length<=xs.length:=by unfold Gm;rw[fA,fG];lia
end
end L2
namespace L2
open PySem PySem.Spec PyProof.Rows
def Ao(n:Nat)(i:Int):Option Nat:=if 0<=i then(if i<n then aa i.toNat else none)else if-(n:Int)<=i then aa (i+n).toNat else none
def mO{α:Type}(xs:List α)(i:Int):Option α:=(Ao xs.length i).bind λj=>xs[j]?
def OI{i:Int}(h:Ao n i=aa j):seqIndex? i n=aa j/\j<n/\ -(n:Int)<=i/\i<n:=by
 unfold Ao at h
 by_cases h0:0<=i
 ·rw[if_pos h0]at h
  by_cases h1:i<n
  ·rw[if_pos h1]at h
   have e:i.toNat=j:=ck.inj h;exact⟨by rw[OJ h0 h1,e],by lia,by lia,h1⟩
  ·rw[if_neg h1]at h;cases h
 ·rw[if_neg h0]at h
  by_cases h1: -(n:Int)<=i
  ·rw[if_pos h1]at h
   have e:(i+n).toNat=j:=ck.inj h;exact⟨by rw[OO (by lia) h1,e],by lia,h1,by lia⟩
  ·rw[if_neg h1]at h;cases h
def Io{α:Type}{xs:List α}{i:Int}{v:α}(h:mO xs i=aa v):∃j,seqIndex? i xs.length=aa j/\xs[j]?=aa v/\j<xs.length/\ -(xs.length:Int)<=i/\i<xs.length:=by
 unfold mO at h;cases e:Ao xs.length i with
 |none=>rw[e]at h;cases h
 |some j=>
  rw[e]at h;obtain⟨h1,h2,h3,h4⟩:=OI e;exact⟨j,h1,h,h2,h3,h4⟩
def qg{α:Type}{xs:List α}{v:α}(h:xs[j]?=aa v):mO xs (j:Int)=aa v:=by
 have hj:j<xs.length:=(bH.mp h).1;have e:Ao xs.length (j:Int)=aa j:=by unfold Ao;rw[if_pos (by lia),if_pos (by lia)];simp
 unfold mO;rw[e];exact h
def EJ{α:Type}(xs:List α)(v:α):mO (xs++[v]) (-1)=aa v:=by
 have hl:(xs++[v]).length=xs.length+1:=by simp
 have e:Ao (xs++[v]).length (-1)=aa xs.length:=by unfold Ao;rw[hl,if_neg (by decide),if_pos (by lia)];congr 1;lia
 unfold mO;rw[e];show(xs++[v])[xs.length]?=aa v;simp
def DZ(b:ao):Prop:=∀o i,Ip b false o i=operate [o,i] (AE o i)
noncomputable def YB(X:Cx)(r:R2):Prop:=
 ∀(value slice:ao)(pins:List (ae×Obj))(s:aj)(σ:St)(H:Hp)(x y:V)(v u:ah)(Q:VK),Inv X pins σ H s->RelV x v->RelV y u->r x y H Q->
  Ip slice false v u=operate [v,u] (AE v u)->aG (aE X.prog X.w) X.A (OH value slice v u) (EP X pins σ Q) X.xe s
noncomputable def MtR(X:Cx)(id:String)(r:V->List V->Hp->VK->Prop):Prop:=
 ∀(pins:List (ae×Obj))(s:aj)(σ:St)(H:Hp)(x:V)(xs:List V)(v:ah)(us:List ah)(Q:VK),Inv X pins σ H s->RelV x v->Vals xs us->r x xs H Q->
  aG (aE X.prog X.w) X.A (call (.builtin id) (v::us)) (EP X pins σ Q) X.xe s
section
variable{X:Cx}{a b:ao}{ta tb:TE}{pos:Pos}
def YB.or {r r':R2}(h:YB X r)(h':YB X r'):YB X (λx y H Q=>r x y H Q\/r' x y H Q):=by
 intro value slice pins s σ H x y v u Q I rx ry q hs;rcases q with q|q
 ·exact h value slice pins s σ H x y v u Q I rx ry q hs
 ·exact h' value slice pins s σ H x y v u Q I rx ry q hs
def pK{r:R2}(hr:YB X r)(ha:PE X a ta)(hb:PE X b tb)(hs:DZ b):PE X (.Subscript a b pos) (tOp r ta tb):=by intro pins s σ H Q I h;exact OG (ac0 ha hb I h λv u s2 x y H2 I2 rx ry q=>hr a b pins s2 σ H2 x y v u Q I2 rx ry q (hs _ _))
inductive agR (K:ak) (x y:V) (H:Hp) (Q:VK):Prop
 |mk (p:ae) (xs:List V) (i:Int) (v:V):x=.ref p->y=.int i->gS K H p xs->mO xs i=aa v->Q v H->agR K x y H Q
def ac6(K:ak):R2:=agR K
inductive agS (K:ak) (x y:V) (H:Hp) (Q:VK):Prop
 |mk (p:ae) (xs:List V) (i:Int) (v:V):x=.ref p->y=.int i->Ka K H p xs->mO xs i=aa v->Q v H->agS K x y H Q
def agT(K:ak):R2:=agS K
def agU:R2:=λx y H Q=>∃z i c,x=.str z/\y=.int i/\z.length<=aK/\mO z.cps.toList i=aa c/\Q (.str ⟨#[c]⟩) H
def jj:YB X (ac6 X.K):=by
 show 't';obtain⟨p,xs,i,z,rfl,rfl,hq,he,q⟩:=h;cases rx;obtain⟨t,rfl⟩:=ry;obtain⟨its,r,pl,hz⟩:=I.list hq;obtain⟨j,h1,h2,h3,h4,h5⟩:=Io he;obtain⟨w,ew,xq⟩:=r.get h2;have hl:=r.length;have hn:=z7;have fin:EP X pins σ Q w s:=⟨z,H,I,xq,q⟩
 by_cases h0:0<=i
 ·have hj:i.toNat=j:=by
   rw[OJ h0 h5]at h1;exact ck.inj h1
  exact item_listR pl.isList h0 (by lia) (by rw[hj];simpa using ew) fin hs
 ·have hj:(i+(its.toArray.size:Int)).toNat=j:=by
   rw[OO (by lia) h4]at h1;rw[cO,<-hl];exact ck.inj h1
  exact YC (x:=w) pl.isList.typeIs YD.lookup
   (wpAny_getItem_list_neg (Q:=λr s'=>r=w/\EP X pins σ Q r s') pl.isList (by lia) (by rw[cO]<;>lia) (by lia) (by rw[hj];simpa using ew) ⟨rfl,fin⟩) hs
def Ir:YB X (agT X.K):=by
 show 't';obtain⟨p,xs,i,z,rfl,rfl,hq,he,q⟩:=h;cases rx;obtain⟨t,rfl⟩:=ry;obtain⟨its,r,pl,hz⟩:=I.tuple hq;obtain⟨j,h1,h2,h3,h4,h5⟩:=Io he;obtain⟨w,ew,xq⟩:=r.get h2;have hl:=r.length;have hn:=z7;have fin:EP X pins σ Q w s:=⟨z,H,I,xq,q⟩
 exact YC (x:=w) pl.typeIs slot_tuple_getitem.lookup
  (getItem_tuple (j:=j) (Q:=λr s'=>r=w/\EP X pins σ Q r s') pl (by lia) (by lia) (by rw[cO,<-hl];exact h1) (by simpa using ew) ⟨rfl,fin⟩) hs
def ac7:YB X agU:=by
 show 't';obtain⟨z,i,c,rfl,rfl,hz,he,q⟩:=h;show 'G';show 'p';obtain⟨j,h1,h2,h3,h4,h5⟩:=Io he;have hl:z.cps.toList.length=z.length:=by simp[Str.length]
 rw[hl]at h1 h4 h5;have hn:=z7;exact tail_any (typeIs_str s z t) slot_str_getitem.lookup (getItem_str (c:=c) (by have e1:decide (i< -(2^63:Int))=false:=decide_eq_false (by lia);have e2:decide (i>=2^63)=false:=decide_eq_false (by lia);rw[e1,e2,YE]) (by rw[h1];simpa using h2) ⟨.str ⟨#[c]⟩,H,I.tok _,⟨_,rfl⟩,q⟩) hs
def rIx(K:ak):R2:=λx y H Q=>ac6 K x y H Q\/agT K x y H Q\/agU x y H Q
def ac8:YB X (rIx X.K):=jj.or (Ir.or ac7)
def MB(its:List ah)(n j:Nat)(u:ah):yK (·.setIfInBounds j u) {cls:=.type "list",data:=.seq its.toArray n}={cls:=.type "list",data:=.seq (its.set j u).toArray n}:=by simp[yK]
theorem Inv.lst {s:aj}{p:ae}{xs:List V}(I:Inv X pins σ H s)(h:H p=aa (.lst xs)):
  ∃(its:List ah)(n:Nat),Vals xs its/\s.heap.get? p=aa {cls:=.type "list",data:=.seq its.toArray n}/\xs.length<=aK:=by
 obtain⟨z,its,n,r,e⟩:=I.hok p _ h;exact⟨its,n,r,e,z⟩
def Inv.ac9 {s:aj}{p:ae}{xs ys:List V}{its its':List ah}{n n':Nat}{f:Obj->Obj}(I:Inv X pins σ H s)(h:H p=aa (.lst xs))
  (ho:s.heap.get? p=aa {cls:=.type "list",data:=.seq its.toArray n})(hf:f {cls:=.type "list",data:=.seq its.toArray n}={cls:=.type "list",data:=.seq its'.toArray n'})(r:Vals ys its')(hz:ys.length<=aK)(t:Nat):
  Inv X pins σ (upd H p (.lst ys)) {s with heap:=s.heap.update p f,toks:=t}:=by
 have e:(s.heap.update p f).get? p=aa {cls:=.type "list",data:=.seq its'.toArray n'}:=by rw[YF f ho (by rw[hf]<;>rfl),hf]
 refine I.write (x:=p) (e:=p) (by rw[h];trivial) (.inl rfl) (λb u hb q=>(OP _ _ (Ne.symm hb)).trans q) ⟨_,e⟩ ?_;exact⟨hz,its',n',r,e⟩
def agV:V->V->V->Hp->(Hp->Prop)->Prop:=λo i v H Q=>∃p xs k j,o=.ref p/\i=.int k/\H p=aa (.lst xs)/\Ao xs.length k=aa j/\Q (upd H p (.lst (xs.set j v)))
def set_list:agu X agV:=by
 intro pins s σ H o i v ov iv u Q I ro ri rv h;obtain⟨p,xs,k,j,rfl,rfl,hp,hj,q⟩:=h;cases ro;obtain⟨t,rfl⟩:=ri;obtain⟨its,n,r,ho,hz⟩:=I.lst hp;obtain⟨h1,h2,h3,h4⟩:=OI hj;have hl:=r.length;have hn:=z7;have I':Inv X pins σ (upd H p (.lst (xs.set j v))) {s with heap:=s.heap.update p (yK (·.setIfInBounds j u))}:=
  I.ac9 hp ho (MB its n j u) (r.set rv j) (by rw[qh];exact hz) s.toks
 by_cases h0:0<=k
 ·have hk:k.toNat=j:=by
   rw[OJ h0 h4]at h1;exact ck.inj h1
  exact PySem.W.ki_setAt ho h0 (by lia) (by rw[cO,<-hl];exact h4) (by rw[hk];exact⟨_,I',q⟩)
 ·have hk:(k+(its.toArray.size:Int)).toNat=j:=by
   rw[OO (by lia) h3]at h1;rw[cO,<-hl];exact ck.inj h1
  exact PySem.W.ki_setBack ho (by lia) (by rw[cO,<-hl];exact h3) (by lia) (by rw[hk];exact⟨_,I',q⟩)
def Iu(lo hi:Option Int)(n:Nat):(yL lo hi none n).1=((HT.EI n 0 lo:Nat):Int)/\(yL lo hi none n).2.1=((HT.EI n n hi:Nat):Int)/\(yL lo hi none n).2.2=1:=by
 refine⟨?_,?_,rfl⟩
 ·cases lo with
  |none=>simp[yL,HT.EI]
  |some i=>
   simp only [yL,HT.EI,YG,show(1:Int)>0 by decide,if_true]
   by_cases h:i<0
   ·simp only [h,if_true]<;>lia
   ·simp only [h,if_false]<;>lia
 ·cases hi with
  |none=>simp[yL,HT.EI]
  |some i=>
   simp only [yL,HT.EI,YG,show(1:Int)>0 by decide,if_true]
   by_cases h:i<0
   ·simp only [h,if_true]<;>lia
   ·simp only [h,if_false]<;>lia
def Gn(its:List ah)(lo hi:Option Int):slicePick its.toArray lo hi none=((its.drop (HT.EI its.length 0 lo)).take (HT.EI its.length its.length hi-HT.EI its.length 0 lo)).toArray:=by obtain⟨h1,h2,h3⟩:=Iu lo hi its.toArray.size;unfold slicePick;rw[h1,h2,h3];simp only [sliceRange_one,pick_run,cO]<;>rfl
def akc(K:ak):V->Option Int->Option Int->Hp->VK->Prop:=λx lo hi H Q=>∃a xs,x=.ref a/\gS K H a xs/\∀p,H p=none->Q (.ref p) (upd H p (.lst (Gm xs lo hi)))
def OQ:SlR X (akc X.K):=by intro pins s σ H x v vl vu lo hi sl Q I rx hs pl pu h;obtain⟨a,xs,rfl,hx,q⟩:=h;cases rx;obtain⟨its,r,ht,hz⟩:=I.list hx;have hlen:=r.length;refine⟨"list",_,YD.lookup,ht.isList.typeIs,?_⟩;refine wpAny_getItem_list_slice ht.isList hs pl pu .none (by simp) ?_ (by rw[cO]<;>lia);rw[Gn,<-hlen];refine⟨.ref s.heap.objs.size,_,I.laid (t':=s.toks) (o:=.lst (Gm xs lo hi)) (λb ob q=>dg _ q) (aY _) ?_,rfl,q _ (I.hok.fresh (aY _))⟩;exact⟨lD (Ke xs lo hi) hz,_,0,(r.drop (HT.EI xs.length 0 lo)).take (HT.EI xs.length xs.length hi-HT.EI xs.length 0 lo),kE _ rfl⟩
def vU:zM X (.builtin "len") (λxs H Q=>∃p ys,xs=[.ref p]/\(gS X.K H p ys\/Ka X.K H p ys)/\Q (.int ys.length) H):=by
 show 'u';obtain⟨p,ys,rfl,hq,q⟩:=h;obtain⟨u,rfl,rx⟩:=vals1 r;cases rx;have hn:=z7;rcases hq with hq|hq
 ·obtain⟨its,r',pl,hz⟩:=I.list hq
  show '^';exact Yp pl.isList (by simp only [cO]<;>lia) ⟨.int ys.length,H,I.tok _,⟨s.toks+1,by rw[cO,hlen]⟩,q⟩
 ·obtain⟨its,r',pl,hz⟩:=I.tuple hq
  show '^';exact len_tuple pl (by simp only [cO]<;>lia) ⟨.int ys.length,H,I.tok _,⟨s.toks+1,by rw[cO,hlen]⟩,q⟩
def vV:zM X (.type "list") (λxs H Q=>∃p ys,xs=[.ref p]/\(gS X.K H p ys\/Ka X.K H p ys)/\∀l,H l=none->Q (.ref l) (upd H l (.lst ys))):=by
 show 'u';obtain⟨p,ys,rfl,hq,q⟩:=h;obtain⟨u,rfl,rx⟩:=vals1 r;cases rx;have fin:∀(its:List ah),Vals ys its->ys.length<=aK->∀(h':aF)(c':Nat),(∀b o',s.heap.get? b=aa o'->h'.get? b=aa o')->
   h'.get? s.heap.objs.size=aa {cls:=.type "list",dict:=none,data:=.seq its.toArray c',slots:=#[]}->EP X pins σ Q (.ref s.heap.objs.size) {s with heap:=h'}:=λits r' hz h' c' kp e=>
  ⟨.ref s.heap.objs.size,_,I.laid (t':=s.toks) kp (aY _) (show ig X.prog X.w _ h' _ (.lst ys)from⟨hz,its,c',r',e⟩),rfl,q _ (I.hok.fresh (aY _))⟩
 rcases hq with hq|hq
 ·obtain⟨its,r',pl,hz⟩:=I.list hq
  show '^';obtain⟨o,ho,hc,n,hd⟩:=pl.isList;exact call_list_seq p (.inl rfl) ho hc hd (λh' c' kp e=>fin its r' hz h' c' kp e) (by simp only [cO]<;>lia)
 ·obtain⟨its,r',pl,hz⟩:=I.tuple hq
  show '^';obtain⟨o,ho,hc,n,hd⟩:=pl;exact call_list_seq p (.inr rfl) ho hc hd (λh' c' kp e=>fin its r' hz h' c' kp e) (by simp only [cO]<;>lia)
def Gq:zM X (.type "tuple") (λxs H Q=>∃p ys,xs=[.ref p]/\((gS X.K H p ys/\∀l,H l=none->Q (.ref l) (upd H l (.tup ys)))\/(Ka X.K H p ys/\Q (.ref p) H))):=by
 show 'u';obtain⟨p,ys,rfl,h⟩:=h;obtain⟨u,rfl,rx⟩:=vals1 r;cases rx;rcases h with⟨hq,q⟩|⟨hq,q⟩
 ·obtain⟨its,r',pl,hz⟩:=I.list hq
  show '^';refine call_tuple_list pl.isList (λh' kp=>?_) (by simp only [cO]<;>lia);have I1:Inv X pins σ H {s with heap:=h'}:=I.kept (t':=s.toks) kp;have I2:Inv X pins σ (upd H h'.objs.size (.tup ys)) {s with heap:=h'.push {cls:=.type "tuple",data:=.seq its.toArray}}:=
   I1.laid (t':=s.toks) (λb o e=>dg _ e) (aY _) (show ig X.prog X.w _ _ _ (.tup ys)from⟨hz,its,r',IsTup.new _ _⟩)
  exact⟨.ref h'.objs.size,_,I2,rfl,q _ (I1.hok.fresh (aY _))⟩
 ·obtain⟨its,r',pl,hz⟩:=I.tuple hq
  exact call_tuple_same pl ⟨.ref p,H,I,rfl,q⟩
noncomputable def tyV(K:ak)(T:String)(x:V)(H:Hp):Prop:=match x with
 |.str _=>T="str"
 |.int _=>T="int"
 |.ref p=>(T="list"/\∃xs,gS K H p xs)\/(T="tuple"/\∃o,K.lookup p=aa o/\o.cls=.type "tuple"/\o.dict=none)\/
   (T="dict"/\((∃kvs,H p=aa (.dK kvs))\/∃kvs,H p=aa (.dT kvs)))\/(T="set"/\∃S n,H p=aa (.set S n))
 |_=>False
def Ub{s:aj}{T:String}{x:V}{v:ah}(I:Inv X pins σ H s)(r:RelV x v)(ty:tyV X.K T x H):
  s.TypeIs v T/\∀a,v=.ref a->∃ob,s.heap.get? a=aa ob/\ob.dict=none:=by
 cases x with
 |str z=>
  obtain⟨t,rfl⟩:=r;cases (show T="str" from ty);exact⟨typeIs_str s z t,λ_ e=>nomatch e⟩
 |int i=>
  obtain⟨t,rfl⟩:=r;cases (show T="int" from ty);exact⟨OS s i t,λ_ e=>nomatch e⟩
 |ref p=>
  cases r;rcases ty with⟨rfl,xs,hq⟩|⟨rfl,o,hk,hc,hd⟩|⟨rfl,hk⟩|⟨rfl,S,n,hk⟩
  ·obtain⟨its,_,pl,_⟩:=I.list hq
   refine⟨pl.isList.typeIs,λa e=>?_⟩;cases e;obtain⟨o,n,e,c,hd,_⟩:=pl;exact⟨o,e,hd⟩
  ·refine⟨⟨o,I.B1 p o hk,hc⟩,λa e=>?_⟩
   cases e;exact⟨o,I.B1 _ o hk,hd⟩
  ·have z:∃o,s.heap.get? p=aa o/\o.ExactDict:=by
    rcases hk with⟨kvs,hk⟩|⟨kvs,hk⟩
    ·obtain⟨_,_,_,_,o,_,_,e,ex,_⟩:=I.hok p _ hk
     exact⟨o,e,ex⟩
    ·obtain⟨_,_,_,_,o,_,_,e,ex,_⟩:=I.hok p _ hk
     exact⟨o,e,ex⟩
   obtain⟨o,e,ex⟩:=z;show ',';cases e2;exact⟨o,e,ex.2.1⟩
  ·obtain⟨o,_,_,_,e,ex,_⟩:=I.hok p _ hk
   show ',';cases e2;exact⟨o,e,ex.2.1⟩
 |_=>exact kC ty
def ake(K:ak)(T:String)(r:V->List V->Hp->VK->Prop)(to:TE):TE:=λσ H Q=>to σ H λx H1=>tyV K T x H1/\r x [] H1 Q
def tBM(K:ak)(T:String)(r:V->List V->Hp->VK->Prop)(to:TE)(t:TA):TE:=λσ H Q=>to σ H λx H1=>tyV K T x H1/\t σ H1 λxs H2=>r x xs H2 Q
variable{o e:ao}{es:List ao}{to:TE}{t:TA}{name:Str}{apos cU:Pos}{T id:String}{r:V->List V->Hp->VK->Prop}
def Iw(pa:PlainAttrs T)(slot:Slot T name id)(hty:typeOf (.builtin id)=bj (.type "method_descriptor"))(hm:MtR X id r)(ho:PE X o to)
  (hbase:autoParam (jP o name X.env (az o X.env)=az o X.env) wS)(hline:autoParam ((apos.endLine==cU.line)=true) wS):PE X (.Call (.Attribute o name apos) [] [] cU) (ake X.K T r to):=by
 show 'c';refine wpAny_Call_method0_late hbase hline (gh (ho pins s σ H _ I h) λv s1 ⟨x,H1,I1,r1,ty,q1⟩=>?_);obtain⟨h1,h2⟩:=Ub I1 r1 ty;exact⟨T,id,pa,slot,hty,h1,h2,OT rfl (PySem.evalArgs_none (hm pins s1 σ H1 x [] v [] Q I1 r1 .nil q1))⟩
def AF(pa:PlainAttrs T)(slot:Slot T name id)(hty:typeOf (.builtin id)=bj (.type "method_descriptor"))(hm:MtR X id r)(ho:PE X o to)(ha:PA X (e::es) t)
  (hbase:autoParam (jP o name X.env (az o X.env)=az o X.env) wS)
  (hfew:autoParam (((bF cU (ar (e::es) X.env)).all (λx=> !x.1)&&(nc cU (ng [] X.env)).all (λx=>x.1.isSome)
   &&decide ((e::es).length+([]:List gX).length+(if([]:List gX).isEmpty then 0 else 1)<30))=true) wS)
  (hline:autoParam ((apos.endLine==cU.line)=true) wS)(hs:autoParam (ar (e::es) X.env=(false,az e X.env)::ar es X.env) wS)(hplain:autoParam ((bF cU (ar es X.env)).any (·.1)=false) wS):
  PE X (.Call (.Attribute o name apos) (e::es) [] cU) (tBM X.K T r to t):=by
 show 'c';refine wpAny_Call_method_late hbase hfew hline rfl (gh (ho pins s σ H _ I h) λv s1 ⟨x,H1,I1,r1,ty,q1⟩=>?_);obtain⟨h1,h2⟩:=Ub I1 r1 ty;refine⟨T,id,pa,slot,hty,h1,h2,?_⟩;have hA:=ha cU pins s1 σ H1 _ I1 q1;rw[hs]at hA⊢;refine OT (by show(false||(bF cU (ar es X.env)).any (·.1))=false;rw[hplain]<;>rfl) (YH ?_);exact gh hA λus s2 ⟨vs,H2,I2,r2,q2⟩=>hm pins s2 σ H2 x vs v us Q I2 r1 r2 q2
end
end L2
namespace L2
open PySem PySem.Spec PyProof.Rows
noncomputable def MtM(X:Cx)(id:String)(r:V->List V->Hp->VK->Prop):Prop:=
 ∀(pins:List (ae×Obj))(s:aj)(σ:St)(H:Hp)(x:V)(xs:List V)(v:ah)(us:List ah)(Q:VK),Inv X pins σ H s->RelV x v->Vals xs us->r x xs H Q->
  aG (aE X.prog X.w) X.A (call (.builtin id) (v::us)) (EP X pins σ Q) X.xe s
def Vals.one:∀{x:V}{us:List ah},Vals [x] us->∃u,us=[u]/\RelV x u
 |_,_,.cons r .nil=>⟨_,rfl,r⟩
def Vals.zero:∀{us:List ah},Vals [] us->us=[]
 |_,.nil=>rfl
theorem Vals.dropLast {xs:List V}{us:List ah}(h:Vals xs us):Vals xs.dropLast us.dropLast:=by
 induction h with
 |nil=>exact .nil
 |cons r t ih=>
  cases t with
  |nil=>exact .nil
  |cons q t'=>exact .cons r ih
theorem Vals.reverse {xs:List V}{us:List ah}(h:Vals xs us):Vals xs.reverse us.reverse:=by
 induction h with
 |nil=>exact .nil
 |cons r t ih=>rw[jS,jS];exact Vals.append ih (.cons r .nil)
theorem Vals.rep {xs:List V}{us:List ah}(h:Vals xs us):∀k:Nat,Vals (aO k xs).flatten (aO k us).flatten
 |0=>.nil
 |k+1=>by rw[cA,cA,dM,dM];exact Vals.append h (Vals.rep h k)
def MC{α:Type}(l:List α):l.eraseIdx (l.length-1)=l.dropLast:=by
 induction l with
 |nil=>rfl
 |cons a r ih=>
  cases r with
  |nil=>rfl
  |cons b r=>
   have e:(a::b::r).length-1=((b::r).length-1)+1:=by have h1:(a::b::r).length=r.length+2:=rfl;have h2:(b::r).length=r.length+1:=rfl;lia
   rw[e,List.eraseIdx_cons_succ,ih]
   all_goals rfl
theorem foldl_rep(its:List ah):∀(k:Nat)(acc:List ah),
  OU (λx1 x2=>x1++x2) acc.toArray (aO k its.toArray)=(acc++(aO k its).flatten).toArray
 |0,acc=>by simp
 |k+1,acc=>by
  have e:acc.toArray++its.toArray=(acc++its).toArray:=by simp
  have e2:(acc++its)++(aO k its).flatten=acc++(aO (k+1) its).flatten:=by rw[cA,dM,aZ]
  rw[<-e2,<-foldl_rep its k (acc++its),<-e,cA,D0]
section
variable{X:Cx}{pins:List (ae×Obj)}{σ:St}{H:Hp}{s:aj}{l b:ae}{xs ys zs:List V}
def Inv.YJ {its its':List ah}{f:Array ah->Array ah}{t':Nat}(I:Inv X pins σ H s)(hH:H l=aa (.lst xs))
  (e:s.heap.get? l=aa {cls:=.type "list",data:=.seq its.toArray n})(hf:f its.toArray=its'.toArray)(hv:Vals ys its')(hz:ys.length<=aK):
  Inv X pins σ (upd H l (.lst ys)) {s with heap:=s.heap.update l (yK f),toks:=t'}:=by
 have q:=PySem.IsL.update e f;rw[hf]at q;refine I.write (x:=l) (e:=l) (by rw[hH];exact trivial) (.inl rfl) (λb' u hb hu=>(OP s.heap (yK f) (Ne.symm hb)).trans hu) ⟨_,q⟩ ?_;exact⟨hz,its',_,hv,q⟩
def Inv.agW {its:List ah}{t':Nat}(I:Inv X pins σ H s)(hv:Vals ys its)(hz:ys.length<=aK):
  Inv X pins σ (upd H s.heap.objs.size (.lst ys)) {s with heap:=s.heap.push {cls:=.type "list",data:=.seq its.toArray},toks:=t'}:=
 I.laid (λ_ _ q=>dg _ q) (aY _) ⟨hz,its,0,hv,kE _ rfl⟩
theorem Inv.fresh (I:Inv X pins σ H s):H s.heap.objs.size=none:=I.hok.fresh (aY _)
def Inv.RO (I:Inv X pins σ H s)(hH:H l=aa (.lst xs)):xs.length<=aK/\∃(its:List ah)(n:Nat),Vals xs its/\xs.length=its.length/\s.heap.get? l=aa {cls:=.type "list",data:=.seq its.toArray n}:=by obtain⟨z,its,n,r,e⟩:=I.hok l _ hH;exact⟨z,its,n,r,r.length,e⟩
def Kf(h:n<=aK):Iz n=false:=by unfold Iz;exact decide_eq_false (by lia)
end
section
variable{X:Cx}
def YK:V->List V->Hp->VK->Prop:=λx vs H Q=>∃l xs y,x=.ref l/\vs=[y]/\H l=aa (.lst xs)/\xs.length<aK/\Q .non (upd H l (.lst (xs++[y])))
def kI:MtM X "list.append" YK:=by intro pins s σ H x vs v us Q I rx rv h;obtain⟨l,xs,y,rfl,rfl,hH,hz,q⟩:=h;cases rx;obtain⟨u,rfl,ru⟩:=rv.one;obtain⟨z,its,n,r,hl,e⟩:=I.RO hH;refine yM F.slot_list_append ⟨_,e,rfl⟩ F.entry_list_append (F.args_list_append_2 _ _) (PySem.list_append l its.toArray n u (by rw[cO];lia)) ⟨e,?_⟩;refine⟨.non,_,I.YJ (its':=its++[u]) hH e (by simp) (r.append (.cons ru .nil)) ?_,rfl,q⟩;rw[br,tR];lia
def YL:V->List V->Hp->VK->Prop:=λx vs H Q=>∃l b xs zs,x=.ref l/\vs=[.ref b]/\H l=aa (.lst xs)/\H b=aa (.lst zs)/\xs.length+zs.length<=aK/\Q .non (upd H l (.lst (xs++zs)))
def RQ:MtM X "list.extend" YL:=by
 show '/';obtain⟨l,b,xs,zs,rfl,rfl,hH,hB,hz,q⟩:=h;cases rx;obtain⟨u,rfl,ru⟩:=rv.one;cases ru;obtain⟨z,its,n,r,hl,e⟩:=I.RO hH;obtain⟨z2,its2,n2,r2,hl2,e2⟩:=I.RO hB;have hsz:its.toArray.size+its2.toArray.size<=aK:=by rw[cO,cO];lia
 have Uc:¬(!its.toArray.isEmpty&&Iz (its.toArray.size+its2.toArray.size))=true:=by rw[Kf hsz,Bool.and_false];exact iI
 refine yM F.slot_list_extend ⟨_,e,rfl⟩ F.entry_list_extend (F.args_list_extend_2 _ _)
  (AutoSeq1.list_extend_list_list_0 l its.toArray n b its2.toArray n2 Uc (by rw[cO];lia) (by lia)) ⟨e,e2,?_⟩
 refine⟨.non,_,I.YJ (its':=its++its2) hH e (by simp) (r.append r2) ?_,rfl,q⟩;rw[br];lia
def akf:V->List V->Hp->VK->Prop:=λx vs H Q=>∃l xs y,x=.ref l/\vs=[]/\H l=aa (.lst xs)/\xs[xs.length-1]?=aa y/\Q y (upd H l (.lst xs.dropLast))
def Ud:MtM X "list.pop" akf:=by
 show '/';obtain⟨l,xs,y,rfl,rfl,hH,hy,q⟩:=h;cases rx;have hus:=rv.zero;subst hus;obtain⟨z,its,n,r,hl,e⟩:=I.RO hH;obtain⟨u,hu,ru⟩:=r.get hy;have hy':its.toArray[its.toArray.size-1]?=aa u:=by show its.toArray[its.length-1]?=aa u;rw[<-Array.getElem?_toList,<-hl];exact hu
 refine yM F.slot_list_pop ⟨_,e,rfl⟩ F.entry_list_pop (F.args_list_pop_1 _) (MeetsSeq.list_pop_last l its.toArray n u hy' (by rw[cO];lia)) ⟨e,?_⟩;refine⟨y,_,I.YJ (its':=its.dropLast) hH e ?_ r.dropLast ?_,ru,q⟩
 ·show its.toArray.eraseIdxIfInBounds (its.toArray.size-1)=its.dropLast.toArray
  rw[cO,List.eraseIdxIfInBounds_toArray,MC]
 ·rw[OV]
  lia
def Ue:V->List V->Hp->VK->Prop:=λx vs H Q=>∃l xs,x=.ref l/\vs=[]/\H l=aa (.lst xs)/\Q .non (upd H l (.lst xs.reverse))
def MD:MtM X "list.reverse" Ue:=by intro pins s σ H x vs v us Q I rx rv h;obtain⟨l,xs,rfl,rfl,hH,q⟩:=h;cases rx;have hus:=rv.zero;subst hus;obtain⟨z,its,n,r,hl,e⟩:=I.RO hH;refine yM F.slot_list_reverse ⟨_,e,rfl⟩ F.entry_list_reverse (F.args_list_reverse_1 _) (AutoSeq1.list_reverse_list_0 l its.toArray n (by rw[cO];lia)) ⟨e,?_⟩;refine⟨.non,_,I.YJ (its':=its.reverse) hH e (by simp) r.reverse ?_,rfl,q⟩;rw[bR];lia
def aki:R2:=λx y H Q=>∃l k xs,x=.ref l/\y=.int k/\H l=aa (.lst xs)/\ -(2^63)<=k/\k<2^63/\xs.length*k.toNat<=aK/\
 ∀p,H p=none->Q (.ref p) (upd H p (.lst (aO k.toNat xs).flatten))
def len_rep{α:Type}(xs:List α)(k:Nat):(aO k xs).flatten.length=k*xs.length:=by
 induction k with
 |zero=>simp
 |succ k ih=>rw[cA,dM,br,ih,IA,YM]
def Ug:B3 X (p8 .Mult) aki:=by
 show 'b';obtain⟨l,k,xs,rfl,rfl,hH,h1,h2,hz,q⟩:=h;cases rx;obtain⟨t,rfl⟩:=ry;obtain⟨z,its,n,r,hl,e⟩:=I.RO hH;have hlen:its.toArray.size*k.toNat<=aK:=by rw[cO,<-hl];exact hz
 have akj:¬its.toArray.size*k.toNat>(2^63-1)/8:=by
  have:(aK:Nat)<=(2^63-1)/8:=by decide
  lia
 have hfit:¬(!Builtin.List.listFitsIndex k)=true:=by rw[fitsIndex_both h1 h2];exact iI
 have Uc:¬Iz (its.toArray.size*k.toNat)=true:=by rw[Kf hlen];exact iI
 have hnew:OU (λx1 x2=>x1++x2) #[] (aO (if its.toArray.isEmpty=true then 0 else k.toNat) its.toArray)=(aO k.toNat its).flatten.toArray:=by
  have f0:∀m:Nat,OU (λx1 x2=>x1++x2) #[] (aO m its.toArray)=(aO m its).flatten.toArray:=λm=>by have:=foldl_rep its m [];rw[dh]at this;exact this
  rw[f0];cases its with
  |nil=>simp
  |cons a r'=>rw[if_neg (by simp)]
 refine wpAny_binaryOp_repeat_ref (T:="list") (U:="int") (by decide) ⟨_,e,rfl⟩ (λs'=>OS s' k t) noFill_list_mul F.fills_int_mul YN repeat_list F.slot_int_index.lookup
  (yM YN (OS s k t) F.entry_int_rmul (F.args_int_rmul_2 _ _) (int___rmul___int_list k t l its.toArray n)
   ⟨e,rfl,⟨_,e,rfl⟩,yM F.slot_list_mul ⟨_,e,rfl⟩ F.entry_list_mul (F.args_list_mul_2 _ _) (AutoListH.list___mul___list_int_3 l its.toArray n k t hfit akj Uc) ⟨e,?_⟩⟩)
 rw[hnew];exact⟨.ref _,_,I.agW (t':=s.toks) (r.rep k.toNat) (by rw[len_rep,Nat.mul_comm];exact hz),rfl,q _ I.fresh⟩
end
section
variable{prog:aS}{w:aD}{A:bx}{E:ah->aj->Prop}{s:aj}
set_option maxRecDepth 100000 in
end
end L2
namespace Att
open PySem PySem.W PySem.Calls PyProof.Rows
def Dq{P:ni}{h:aF}:∀(ns:Ap)(vs:List ah),WellAll P h vs (ns.map WData.int)->yJ vs ns:=by
 intro ns
 induction ns with
 |nil=>
  intro vs w;rw[dz]at w;cases w;exact .nil
 |cons n ns ih=>
  intro vs w;rw[bq]at w;cases w with
  |cons a b=>
   cases a;exact .cons _ _ (ih _ b)
def RT{l:OpenLaw}(hn:l.most=aa n){P:ni}{h:aF}{args:List WData}{vals:List ah}
  (hpre:l.row.toRowW.claim.pre args=true)(hwl:WellAll P h vals args):
  ∃a vs ns,vals=[dq a]/\args=[WData.list (ns.map WData.int)]/\h.get? a=aa {cls:=.type "list",data:=.seq vs.toArray}/\yJ vs ns/\ns.length<=n:=by
 have hsh:WShape.hasAll [] args [.list .int]=true:=(pre_splitW hpre).1;have hc:l.pre.holds [] {args:=args}=true:=(pre_splitW hpre).2;obtain⟨d,r,rfl,h1,h2⟩:=hasAllW_cons hsh;obtain rfl:=hasAllW_nil h2;obtain⟨xs,rfl,h3⟩:=hasW_list h1;obtain⟨ns,rfl⟩:=items_int h3;have hlen:ns.length<=n:=by
  unfold OpenLaw.pre at hc;have h4:(WTm.not (.lt (.lit (.int (n:Int))) (.len (.arg 0)))).holds [] {args:=[.list (ns.map .int)]}=true:=by have h4:=(holds_andW hc).1;rw[hn]at h4;exact h4
  have h5:=condW_of h4 (w_not (w_lt w_lit (w_len_list (w_arg rfl))));rw[aN]at h5;refine OW λq=>?_;have q':(n:Int)<((ns.length:Nat):Int):=by lia
  first
   |(rw[decide_eq_true q']at h5;exact absurd h5 (by decide))
   |(simp at h5;lia)
 cases hwl with
 |cons w1 w2=>
  cases w2;cases w1 with
  |list ho hall=>exact⟨_,_,ns,rfl,rfl,ho,Dq ns _ hall,hlen⟩
def RU(l:OpenLaw)(args:List WData):l.row.toRowW.claim.post args (.bool true) args=true:=
 postW_of (r:=l.row.toRowW) (X:=(true==true))
  (show WShape.has [] (.bool true) .bool=true by first|rfl|decide|simp[WShape.has,WShape.arms,WShape.armsAll])
  (show(WTm.eq .res (.lit (.bool true))).value [] {args:=args,res:=aa (.bool true),after:=args}=aa (.bool (true==true))from w_eq_bool (w_res rfl) w_lit) rfl
def Kg{l:OpenLaw}{q:aS}{loose:List Str}{XP:(Str->Option ah)->aF->Prop}{YP:aD->aF->Prop}{d:DefRec}
  (hn:l.most=aa n)(hdf:d.params.defaults=[])
  (call:∀(w:aD)(s₀ s₁:aj)(mg mb:Str->Option ah)(fa:ae)(o:Obj)(pm cd doc:ah)(a:ae)(vs:List ah)(ns:Ap),
   Ground q loose [] XP w s₀ mg mb s₁.heap->YP w s₁.heap->
   s₁.heap.get? fa=aa o->o.data=.func (docDef d.name d.params d.body d.scope pm cd doc)->s₁.heap.CodeRec cd d.name->mg d.name=aa (.ref fa)->
   s₁.heap.get? a=aa {cls:=.type "list",data:=.seq vs.toArray}->yJ vs ns->ns.length<=n->s₁.gens=#[]->
   p9 (aE l.prog w) yN (.call (.ref fa) ⟨[.ref a],[]⟩) (λr s'=>r=.ok (.ret (.bool true))/\OldK s₁.heap s'.heap/\s'.os=s₁.os/\qW s'.gens) s₁):
  WalkO q loose XP YP l.row.toRowW d [] (λf vs=>PySem.call f vs):=by
 intro w s₀ s₁ mg mb G Y fa o pm cd doc dV kV ho hd hcd hD hmg hg args vals as hpre hlay hrd hwl hlo;obtain rfl:dV=.none:=Dflts.none hD hdf;obtain rfl:kV=.none:=Dflts.noKw hD;obtain⟨a,vs,ns,rfl,rfl,hobj,hints,hlen⟩:=RT hn hpre hwl;refine enter_call (Ii (call w s₀ s₁ mg mb fa o pm cd doc a vs ns G Y ho (fd_plain hd) hcd hmg hobj hints hlen hg) λr s' hq=>?_);obtain⟨rfl,h2,h3,h4⟩:=hq;exact⟨.inl ⟨.bool true,.bool true,[],rfl,λ_=>rfl,.bool true,RU l _,λ_=>⟨OY.nil,λ_ hm=>(nomatch hm)⟩⟩,h2,h3,h4⟩
section
variable{prog:aS}{w:aD}{A:bx}{E:ah->aj->Prop}{s:aj}{K:Frag}
def ledger(h:aF)(L d:ae):List (ae×Obj):=(bG h.objs.size).filterMap λa=>if a=L\/a=d then none else(h.get? a).map λo=>(a,o)
end
end Att
namespace L2
open PySem PySem.Spec PyProof.Rows
theorem Cb:∀{vs:List ah}{ns:Ap},yJ vs ns->Vals (ns.map V.int) vs
 |_,_,.nil=>.nil
 |_,_,.cons n t h=>.cons ⟨t,rfl⟩ (Cb h)
def ada(H:Hp):Prop:=∀b,H b=none\/∃o xs,H b=aa (.Gi o (.lst xs))
def Uh{P:aS}{w:aD}{K:ak}{mg mb:Str->Option ah}{CX:RM}{fa a:ae}{fd:aL}{sp:Sp}{s₁:aj}{vs:List ah}{ns:Ap}
  (KX:K.In s₁.heap)(hns:s₁.heap.Ns ed mg)(hb:s₁.heap.Ns N3 mb)(hbb:∀x:Str,x≠"__name__"->mb x=fV x)(hlim:s₁.heap.NoLimit)(hg:s₁.gens=#[])
  (ha:s₁.heap.get? a=aa {cls:=.type "list",data:=.seq vs.toArray})(hi:yJ vs ns)(hl:ns.length<=aK)(hr:cP k yN)
  (F:∀base:aF,K.In base->base.Ns ed mg->fW P w K mg base CX k fa fd [x] sp)(hbind:∀(s:aj)(u:ah),yH s fd ⟨[u],[]⟩ [(x,u)])
  (Gk:∀H:Hp,ada H->gS K H a (ns.map V.int)->sp [.ref a] H (λv _=>v=.bl true) λ_ _ _=>False)
  (hCX:∀H e s',CX [] H s₁ (λ_ _ _=>False) e s'->False):
  p9 (aE P w) yN (.call (.ref fa) ⟨[.ref a],[]⟩) (λr s'=>r=.ok (.ret (.bool true))/\OldK s₁.heap s'.heap/\s'.os=s₁.os/\qW s'.gens) s₁:=by
 have rv:=Cb hi;have akm:=hi.length;have core:∀H:Hp,ada H->gS K H a (ns.map V.int)->zA P w H s₁.heap->(∀b,H b≠none->b=a)->(H a≠none->K.lookup a=none)->
   p9 (aE P w) yN (.call (.ref fa) ⟨[.ref a],[]⟩) (λr s'=>r=.ok (.ret (.bool true))/\OldK s₁.heap s'.heap/\s'.os=s₁.os/\qW s'.gens) s₁:=by
  intro H hO hS hok hA hK;have OZ:∀{b:ae}{o:Obj},s₁.heap.get? b=aa o->H b=none->(HM s₁.heap H).get? b=aa o:=λe n=>Tv e n;have noA:∀{b:ae}{o:Obj}{es:Array Ia}{ep:Nat},s₁.heap.get? b=aa o->o.data=.dict es ep->H b=none:=λ{b o es ep} e d=>by
   cases q:H b with
   |none=>rfl
   |some u=>
    have e':b=a:=hA b (by rw[q];simp);subst e';rw[ha]at e;cases e;have d':Data.seq vs.toArray _=Data.dict es ep:=d;cases d'
  have nsK:∀{b:ae}{m:Str->Option ah},s₁.heap.Ns b m->(HM s₁.heap H).Ns b m:=λ{b m}⟨o,es,ep,e,d,r⟩=>⟨o,es,ep,OZ e (noA e d),d,r⟩
  have hKb:K.In (HM s₁.heap H):=λb o e=>OZ (KX b o e) (by
   cases q:H b with
   |none=>rfl
   |some u=>
    have e':b=a:=hA b (by rw[q];simp);subst e';rw[hK (by rw[q];simp)]at e;cases e)
  have hM:Mod K mg (HM s₁.heap H):=⟨hKb,nsK hns,⟨mb,nsK hb,hbb⟩,let⟨mc,h1,h2⟩:=hlim;⟨mc,nsK h1,h2⟩⟩
  have e0:MA P w K mg (HM s₁.heap H) yN [] s₁ H:=⟨rfl,hM,λb o e=>XU e,Az (Rx _ _),trivial,λb hb=>absurd (show b∈([]:List ae)from hb) (by simp),hok,.of_eq hg⟩
  refine Ii ((F _ hKb (nsK hns)).run yN [] s₁ H ⟨[.ref a],[]⟩ [.ref a] [.ref a] _ _ hr e0 (hbind s₁ (.ref a)) (.cons rfl .nil) (Gk H hO hS)) λr s' h=>?_;cases r with
  |error e=>exact(hCX H e s' h).elim
  |ok fl=>
   cases fl with
   |ret u=>
    obtain⟨v,H',os,bare,un,ako,r',q⟩:=h;have q':v=.bl true:=q;subst q';obtain rfl:u=HJ true:=r';refine⟨rfl,OldK.of_keep λb o e=>?_,os,bare⟩;cases q:H b with
    |none=>exact un.keep b o e q (by intro z;exact absurd (show b∈([]:List ae)from z) (by simp)) (by simp)
    |some u=>
     rcases hO b with z|⟨ob,xs,z⟩
     ·rw[q]at z;cases z
     ·have z2:=un.HL b ob _ z
      obtain⟨e1,_⟩:=hok b _ z;obtain⟨e2,_⟩:=ako b _ z2;rw[e]at e1;cases e1;exact e2
   |_=>exact kC h
 cases hk:K.lookup a with
 |some o=>
  have e:=KX a o hk;rw[ha]at e;cases e;refine core (λ_=>none) (λ_=>.inl rfl) (.inr ⟨_,vs.toArray,_,hk,rfl,rfl,rfl,by rw[cO,akm];exact hl,by simpa using rv⟩) (λb u z=>by have z':(none:Option HO)=aa u:=z;cases z') (λb z=>absurd rfl z) λz=>absurd rfl z
 |none=>
  refine core (λb=>if b=a then aa (.Gi {cls:=.type "list",data:=.seq vs.toArray} (.lst (ns.map V.int)))else none) (λb=>?_) (.inl (.inr ⟨{cls:=.type "list",data:=.seq vs.toArray},if_pos rfl⟩)) (λb u z=>?_) (λb z=>?_) λ_=>hk
  ·by_cases hb:b=a
   ·exact .inr ⟨_,_,if_pos hb⟩
   ·exact .inl (if_neg hb)
  ·by_cases hb:b=a
   ·have z':=(if_pos hb).symm.trans z
    cases z';subst hb;exact⟨ha,by rw[aN];exact hl,vs,_,rv,ha⟩
   ·have z':=(if_neg hb).symm.trans z
    cases z'
  ·by_cases hb:b=a
   ·exact hb
   ·exact absurd (if_neg hb) z
end L2
namespace L2
open PySem PySem.Spec PyProof.Rows
abbrev KOf{K:ak}{h:aF}(_:K.In h):ak:=K
def YQ{l:O0}{n k:Nat}{q:aS}{loose:List Str}{XP:(Str->Option ah)->aF->Prop}{YP:aD->aF->Prop}{d:DefRec}{K:ni->ak}{CX:aD->RM}{sp:aD->Sp}
  (hn:l.most=aa n)(hn2:n<=aK)(hdf:d.params.defaults=[])(hr:cP k yN)
  (hY:∀(w:aD)(h:aF),YP w h->(K w.params).In h)
  (F:∀(w:aD)(mg:Str->Option ah)(fa:ae)(h:aF),(K w.params).In h->h.Ns ed mg->mg d.name=aa (.ref fa)->
   ∃fd:aL,(∀(s:aj)(u:ah),yH s fd ⟨[u],[]⟩ [(x,u)])/\
    ∀base:aF,(K w.params).In base->base.Ns ed mg->fW l.prog w (K w.params) mg base (CX w) k fa fd [x] (sp w))
  (Gk:∀(w:aD)(H:Hp)(a:ae)(ns:Ap),ns.length<=n->ada H->gS (K w.params) H a (ns.map V.int)->sp w [.ref a] H (λv _=>v=.bl true) λ_ _ _=>False)
  (hCX:∀(w:aD)(H:Hp)(s:aj)(e:ah)(s':aj),CX w [] H s (λ_ _ _=>False) e s'->False):
  YR q loose XP YP l.row.toRowW d [] (λf vs=>PySem.call f vs):=by
 refine Att.Kg hn hdf λw s₀ s₁ mg mb fa o pm cd doc a vs ns G Y ho hd hcd hmg hobj hints hlen hg=>?_;have KX:=hY w _ Y;obtain⟨fd,hb,hF⟩:=F w mg fa _ KX G.T.g hmg;exact Uh KX G.T.g G.T.b G.T.builtins G.T.nolimit hg hobj hints (lD hlen hn2) hr hF hb (λH hO hS=>Gk w H a ns hlen hO hS) λH e s'=>hCX w H s₁ e s'
end L2
namespace L2
open PySem PySem.Spec PyProof.Rows
def inClass(s:aw)(j:Nat):aw:=match s with
 |.ClassDef _ _ _ body _ _ _ _ _ _ _=>body.getD j (.Pass ⟨0,0,0,0⟩)
 |_=>.Pass ⟨0,0,0,0⟩
def jT(s:aw):AB:=match s with
 |.FunctionDef _ a _ _ _ _ _ _ _ _=>a
 |_=>{posonlyargs:=[],args:=[],vararg:=none,kwonlyargs:=[],kw_defaults:=[],kwarg:=none,defaults:=[]}
def eg(s:aw):List aw:=match s with
 |.FunctionDef _ _ b _ _ _ _ _ _ _=>b
 |_=>[]
def au(s:aw):du:=match s with
 |.FunctionDef _ _ _ _ _ _ sc _ _ _=>sc
 |_=>{kind:=.function,names:=[],isGenerator:=false,isCoroutine:=false}
abbrev tw:RM:=λ_ _ _ _ _ _=>False
abbrev E0:XK:=λ_ _ _=>False
def xr{X:Cx}:Passes tw X E0:=λ_ _ _ _ _ _ _ h=>h.elim
structure Kh(K:ak)(x qual:Str)(st:aw)(f:ae)(fd:aL):Prop where
 ex:∃(oc:ah)(od:Option ae)(kV doc pm:ah)(an:Option ae)(cdv ct:ah)(S9:Array (Option ah)),
  fd=fX x qual (jT st) (eg st) (au st) .none kV doc pm an cdv ct/\K.lookup f=aa ⟨oc,od,.func fd,S9⟩/\AD K cdv qual=true
 kp:kG K (.ref f)=true
section
variable{P:aS}{w:aD}{K:ak}{mg:Str->Option ah}{base:aF}
def Kh.ok {x qual:Str}{st:aw}{f:ae}{fd:aL}{N ps:List Str}{sp:Sp}(F:Kh K x qual st f fd)(S:aT N ps (au st))(len:∀vs H Q E,sp vs H Q E->vs.length=ps.length)
  (hbody:∀(cdv:ah)(A:bx)(outer:List Env)(s:aj)(H:Hp)(vs:List V)(Q:VK)(E:XK),cP k (A.deeper (gW qual (au st) s.heap.objs.size f cdv))->sp vs H Q E->
   ∃t,zL (z8 tw P w K mg base N qual (au st) f cdv A outer s H E).S8 (eg st) t/\t {nx:=λ_ H'=>Q .non H',rt:=Q} (start N vs) H):fW P w K mg base tw (k+1) f fd ps sp:=by
 obtain⟨oc,od,kV,doc,pm,an,cdv,ct,S9,rfl,lk,hcd⟩:=F.ex;refine agP lk hcd S len λA outer s H vs Q E hr Gk=>?_;obtain⟨t,h,q⟩:=hbody cdv A outer s H vs Q E hr Gk;exact⟨t,h.S8,q⟩
def Kh.binds {x qual:Str}{st:aw}{f:ae}{fd:aL}{ps:List Str}(F:Kh K x qual st f fd)
  (h:∀(kV doc pm:ah)(an:Option ae)(cdv ct:ah)(us:List ah),us.length=ps.length->m9 (fX x qual (jT st) (eg st) (au st) .none kV doc pm an cdv ct) ⟨us,[]⟩=bj (ps.zip us)):Binds K fd ps []:=by
 obtain⟨oc,od,kV,doc,pm,an,cdv,ct,S9,rfl,lk,hcd⟩:=F.ex;exact .all (h kV doc pm an cdv ct)
def ME{x qual:Str}{st:aw}{f:ae}{oc:ah}{od an:Option ae}{S9:Array (Option ah)}{kV doc pm cdv ct:ah}(l:K.lookup f=aa ⟨oc,od,.func (fX x qual (jT st) (eg st) (au st) .none kV doc pm an cdv ct),S9⟩)
  (c:AD K cdv qual=true)(k:kG K (.ref f)=true):Kh K x qual st f (fX x qual (jT st) (eg st) (au st) .none kV doc pm an cdv ct):=⟨⟨oc,od,kV,doc,pm,an,cdv,ct,S9,rfl,l,c⟩,k⟩
end
def AG{A:bx}(hr:cP k A):A.units+1<iK:=AH (Nat.add_le_add_left (by decide:1<=64) _) hr.units
section
variable{X:Cx}
def pv(i:Nat){pos:Pos}(hN:autoParam (X.N[i]?=aa x) wS)(hv:autoParam (Dm X.env.scope x) xL)(hd:autoParam ((x==("__debug__":Str))=false) xI)
  (hcd:autoParam ((x==("__classdict__":Str))=false) xI):PE X (.Name x pos) (X0 i):=mZ hN hv hd hcd
end
def Cc{A B:Prop}(h:B):if false=true then A else B:=by rw[if_neg iI];exact h
def Dr{A B:Prop}(h:A):if true=true then A else B:=by rw[if_pos rfl];exact h
def bM(H H':Hp):Prop:=∀b o,H b=aa o->H' b=aa o
def bM.refl (H:Hp):bM H H:=λ_ _ h=>h
def bM.trans {H H1 H2:Hp}(a:bM H H1)(b:bM H1 H2):bM H H2:=λc o h=>b c o (a c o h)
def bM.free {H H':Hp}(e:bM H H'){l:ae}(h:H' l=Option.none):H l=Option.none:=by
 cases q:H l with
 |none=>rfl
 |some o=>
  rw[e l o q]at h;cases h
def bM.seq {K:ak}{H H':Hp}{xs:List V}(e:bM H H')(h:gS K H a xs):gS K H' a xs:=by
 rcases h with(h|⟨o,h⟩)|h
 ·exact .inl (.inl (e _ _ h))
 ·exact .inl (.inr ⟨o,e _ _ h⟩)
 ·exact .inr h
end L2
set_option maxHeartbeats 4000000
namespace L2
open PySem PySem.Spec PyProof.Rows
section
variable{κ:Type}[DecidableEq κ]
def iQ(kvs:List (κ×V))(k:κ):Option V:=(kvs.find? λkv=>decide (kv.1=k)).map (·.2)
def putK(kvs:List (κ×V))(k:κ)(v:V):List (κ×V):=
 if(kvs.any λkv=>decide (kv.1=k))=true then kvs.map (λkv=>if kv.1=k then(kv.1,v)else kv)else kvs++[(k,v)]
def anT(kvs:List (κ×V))(k:κ):List (κ×V):=kvs.filter λkv=>decide (kv.1≠k)
def j6{p:κ×V}{r:List (κ×V)}{k:κ}(e:p.1=k):iQ (p::r) k=aa p.2:=by simp[iQ,AI,e]
def j7{p:κ×V}{r:List (κ×V)}{k:κ}(e:¬p.1=k):iQ (p::r) k=iQ r k:=by simp[iQ,AI,e]
theorem AJ(k:κ):∀kvs:List (κ×V),(kvs.any λkv=>decide (kv.1=k))=(iQ kvs k).isSome
 |[]=>rfl
 |p::r=>by
  rw[O1]
  by_cases e:p.1=k
  ·simp only [j6 e,decide_eq_true e,Bool.true_or,Option.isSome_some]
  ·rw[j7 e,decide_eq_false e,vW];exact AJ k r
theorem Kj(k j:κ)(y:V):∀kvs:List (κ×V),iQ (kvs.map λkv=>if kv.1=k then(kv.1,y)else kv) j=(iQ kvs j).map λx=>if j=k then y else x
 |[]=>rfl
 |p::r=>by
  have ih:=Kj k j y r;rw[bq]
  by_cases h:p.1=k
  ·rw[if_pos h]
   by_cases e:p.1=j
   ·rw[j6 (p:=(p.1,y)) e,j6 e,AK,if_pos (e.symm.trans h)]
   ·rw[j7 (p:=(p.1,y)) e,j7 e,ih]
  ·rw[if_neg h]
   by_cases e:p.1=j
   ·rw[j6 (p:=p) e,j6 e,AK,if_neg (λz=>h (e.trans z))]
   ·rw[j7 (p:=p) e,j7 e,ih]
theorem GV(k j:κ)(y:V):∀kvs:List (κ×V),iQ kvs k=none->iQ (kvs++[(k,y)]) j=if j=k then aa y else iQ kvs j
 |[],_=>by
  by_cases e:k=j
  ·rw[if_pos e.symm];exact j6 (p:=(k,y)) e
  ·rw[if_neg (λz=>e z.symm)];exact j7 (p:=(k,y)) e
 |p::r,hn=>by
  rw[cB];have hk:¬p.1=k:=λz=>by rw[j6 z]at hn;cases hn
  rw[j7 hk]at hn;have ih:=GV k j y r hn
  by_cases e:p.1=j
  ·rw[j6 e,j6 e,if_neg (λz=>hk (e.trans z))]
  ·rw[j7 e,j7 e,ih]
def rR(kvs:List (κ×V))(k j:κ)(y:V):iQ (putK kvs k y) j=if j=k then aa y else iQ kvs j:=by
 unfold putK
 by_cases a:(kvs.any λkv=>decide (kv.1=k))=true
 ·rw[if_pos a,Kj]
  rw[AJ]at a
  by_cases e:j=k
  ·obtain⟨x,hx⟩:=OC.mp a
   rw[if_pos e,e,hx,AK,if_pos rfl]
  ·rw[if_neg e]
   cases iQ kvs j with
   |none=>rfl
   |some x=>rw[AK,if_neg e]
 ·rw[if_neg a]
  refine GV k j y kvs ?_;rw[AJ]at a;cases q:iQ kvs k with
  |none=>rfl
  |some x=>rw[q]at a;exact(a rfl).elim
def mw(kvs:List (κ×V))(k:κ)(v:V):(putK kvs k v).length<=kvs.length+1:=by
 unfold putK;split
 ·rw[aN];lia
 ·rw[br,aR,cD];lia
def xH.Cd {o:Option V}{u:Option ah}(r:xH o u):o.isSome=u.isSome:=by
 cases o with
 |none=>cases u with
  |none=>rfl
  |some _=>show 'o'
 |some _=>cases u with
  |none=>show 'o'
  |some _=>rfl
theorem xH.getD {o:Option V}{u:Option ah}{d:V}{d':ah}(r:xH o u)(rd:RelV d d'):RelV (o.getD d) (u.getD d'):=by
 cases o with
 |none=>cases u with
  |none=>exact rd
  |some _=>show 'o'
 |some _=>cases u with
  |none=>show 'o'
  |some _=>exact r
def KV.val {kvs:List (κ×V)}{vs:List (κ×ah)}(r:KV kvs vs)(k:κ):xH (iQ kvs k) (yO vs k):=by
 unfold KV at r
 induction r with
 |nil=>exact qc
 | @cons p q ps qs h t ih=>
  obtain⟨h1,h2⟩:=h
  by_cases e:p.1=k
  ·have e':q.1=k:=h1.symm.trans e
   have b:yO (q::qs) k=aa q.2:=(by simp[yO,AI,e']);rw[j6 e,b];exact h2
  ·have e':¬q.1=k:=λz=>e (h1.trans z)
   have b:yO (q::qs) k=yO qs k:=(by simp[yO,AI,e']);rw[j7 e,b];exact ih
theorem KV.any {kvs:List (κ×V)}{vs:List (κ×ah)}(r:KV kvs vs)(k:κ):(kvs.any λkv=>decide (kv.1=k))=vs.any λkv=>decide (kv.1=k):=by
 unfold KV at r
 induction r with
 |nil=>rfl
 |cons h t ih=>rw[O1,O1,ih,h.1]
def KV.adb {kvs:List (κ×V)}{vs:List (κ×ah)}(r:KV kvs vs)(k:κ){y:V}{u:ah}(ry:RelV y u):
  KV (kvs.map λkv=>if kv.1=k then(kv.1,y)else kv) (vs.map λkv=>if kv.1=k then(kv.1,u)else kv):=by
 unfold KV at r⊢
 induction r with
 |nil=>exact .nil
 | @cons p q ps qs h t ih=>
  rw[bq,bq];refine .cons ?_ ih;obtain⟨h1,h2⟩:=h
  by_cases e:p.1=k
  ·rw[if_pos e,if_pos (h1.symm.trans e)];exact⟨h1,ry⟩
  ·rw[if_neg e,if_neg (λz=>e (h1.trans z))];exact⟨h1,h2⟩
def KV.put {kvs:List (κ×V)}{vs:List (κ×ah)}(r:KV kvs vs)(k:κ){y:V}{u:ah}(ry:RelV y u):KV (putK kvs k y) (stored vs k u):=by
 unfold putK stored;rw[r.any k]
 by_cases e:(vs.any λkv=>decide (kv.1=k))=true
 ·rw[if_pos e,if_pos e];exact r.adb k ry
 ·rw[if_neg e,if_neg e];exact Paired.snoc r ⟨rfl,ry⟩
theorem KV.length {kvs:List (κ×V)}{vs:List (κ×ah)}(r:KV kvs vs):kvs.length=vs.length:=Paired.length r
end
def Kl{P:aS}{w:aD}{k:Key}{u:ah}(r:RelV (kV k) u):(iG P w).is k u=true:=by
 cases k with
 |inl i=>obtain⟨t,e⟩:=(show∃t,u=DK i t from r);subst e;exact J0 P w i t
 |inr x=>obtain⟨t,e⟩:=(show∃t,u=DM x t from r);subst e;exact J1 P w x t
theorem GW{P:aS}{w:aD}:∀{ks:List Key}{us:List ah},Vals (ks.map kV) us->ItemsAre (iG P w) ks us
 |[],_,r=>by rw[dz]at r;cases r;exact .nil
 |k::ks,_,r=>by
  rw[bq]at r;cases r with
  |cons h t=>exact .cons (Kl h) (GW t)
abbrev KT(H:Hp):List (List Key×V)->List (List Key×ae×ah)->Prop:=Paired λp q=>p.1=q.1/\H q.2.1=aa (.tup (p.1.map kV))/\RelV p.2 q.2.2
def KT.val {kvs:List (List Key×V)}{xs:List (List Key×ae×ah)}(r:KT H kvs xs)(k:List Key):xH (iQ kvs k) ((tU xs k).map (·.2)):=by
 induction r with
 |nil=>exact qc
 | @cons p q ps qs h t ih=>
  obtain⟨h1,_,h2⟩:=h
  by_cases e:p.1=k
  ·have e':q.1=k:=h1.symm.trans e
   have b:tU (q::qs) k=aa q.2:=(by simp[tU,AI,e']);rw[j6 e,b];exact h2
  ·have e':¬q.1=k:=λz=>e (h1.trans z)
   have b:tU (q::qs) k=tU qs k:=(by simp[tU,AI,e']);rw[j7 e,b];exact ih
def KT.adb {kvs:List (List Key×V)}{xs:List (List Key×ae×ah)}(r:KT H kvs xs)(k:List Key){y:V}{u:ah}(ry:RelV y u):
  KT H (kvs.map λkv=>if kv.1=k then(kv.1,y)else kv) (xs.map (putAt k u)):=by
 induction r with
 |nil=>exact .nil
 | @cons p q ps qs h t ih=>
  rw[bq,bq];refine .cons ?_ ih;obtain⟨h1,h2,h3⟩:=h;unfold putAt
  by_cases e:p.1=k
  ·rw[if_pos e,if_pos (h1.symm.trans e)];exact⟨h1,h2,ry⟩
  ·rw[if_neg e,if_neg (λz=>e (h1.trans z))];exact⟨h1,h2,h3⟩
def KT.put {kvs:List (List Key×V)}{xs:List (List Key×ae×ah)}(r:KT H kvs xs)(k:List Key){b:ae}{y:V}{u:ah}(hb:H b=aa (.tup (k.map kV)))(ry:RelV y u):
  KT H (putK kvs k y) (storedH xs k b u):=by
 have e:(kvs.any λkv=>decide (kv.1=k))=(tU xs k).isSome:=by rw[AJ,(r.val k).Cd,YS]
 unfold putK storedH;rw[e]
 by_cases q:(tU xs k).isSome=true
 ·rw[if_pos q,if_pos q];exact r.adb k ry
 ·rw[if_neg q,if_neg q];exact Paired.snoc r ⟨rfl,hb,ry⟩
def KT.keeps {H H':Hp}{kvs:List (List Key×V)}{xs:List (List Key×ae×ah)}(r:KT H kvs xs)(ht:∀b ys,H b=aa (.tup ys)->H' b=aa (.tup ys)):KT H' kvs xs:=
 Paired.acJ r λ_ _ z=>⟨z.1,ht _ _ z.2.1,z.2.2⟩
section
variable{P:aS}{w:aD}{H:Hp}{h:aF}{a:ae}
def aby{u:HO}(ok:zA P w H h)(e:Rd H a u):ig P w H h a u:=e.ok ok
def GX{kvs:List (Key×V)}(ok:zA P w H h)(e:Rd H a (.dK kvs)):kvs.length<=aK/\(a==p4)=false/\∃vs,KV kvs vs/\h.DictOf (iG P w) a vs:=
 show ig P w H h a (.dK kvs)from aby ok e
def agZ{kvs:List (Key×V)}(ok:zA P w H h)(e:H a=aa (.dK kvs)):kvs.length<=aK/\(a==p4)=false/\∃vs,KV kvs vs/\h.DictOf (iG P w) a vs:=GX ok (.inl e)
def EK{ks:List Key}(ok:zA P w H h)(e:H a=aa (.tup (ks.map kV))):(yz (iG P w)).is h ks a:=by
 obtain⟨_,its,r,o,h1,h2,n,h3⟩:=(show ig P w H h a (.tup (ks.map kV))from ok a _ e)
 exact⟨o,its.toArray,n,h1,h2,h3,by simpa using GW r⟩
def EL{kvs:List (List Key×V)}(ok:zA P w H h)(e:Rd H a (.dT kvs)):kvs.length<=aK/\(a==p4)=false/\
  ∃xs,KT H kvs xs/\h.DictOfH (yz (iG P w)) a xs:=by
 obtain⟨z,y,xs,r,o,es,ep,h1,h2,h3,h4,h5⟩:=(show ig P w H h a (.dT kvs)from aby ok e)
 refine⟨z,y,xs,r,o,es,ep,h1,h2,h3,h4,λx hx=>?_,h5⟩;have all:∀{l:List (List Key×V)}{m:List (List Key×ae×ah)},KT H l m->∀x∈m,(yz (iG P w)).is h x.1 x.2.1:=by
  intro l m q
  induction q with
  |nil=>intro x hx;exact nomatch hx
  | @cons p q ps qs hq t ih=>
   intro x hx;rcases aX.mp hx with e|hx
   ·subst e
    exact EK ok (by rw[<-hq.1];exact hq.2.1)
   ·exact ih x hx
 exact all r x hx
def ag0{kvs:List (List Key×V)}(ok:zA P w H h)(e:H a=aa (.dT kvs)):kvs.length<=aK/\(a==p4)=false/\
  ∃xs,KT H kvs xs/\h.DictOfH (yz (iG P w)) a xs:=EL ok (.inl e)
end
def vX(H:Hp)(a:ae)(y:V)(r:Option V):Prop:=
 (∃kvs k,Rd H a (.dK kvs)/\y=kV k/\r=iQ kvs k)\/∃kvs k b,Rd H a (.dT kvs)/\y=.ref b/\H b=aa (.tup (k.map kV))/\r=iQ kvs k
def Km(H:Hp)(a:ae)(y v:V)(H':Hp):Prop:=
 (∃kvs k,H a=aa (.dK kvs)/\y=kV k/\kvs.length<aK/\H'=upd H a (.dK (putK kvs k v)))\/
 ∃kvs k b,H a=aa (.dT kvs)/\y=.ref b/\H b=aa (.tup (k.map kV))/\kvs.length<aK/\H'=upd H a (.dT (putK kvs k v))
def vX.t {a b:ae}{kvs:List (List Key×V)}{k:List Key}(e:H a=aa (.dT kvs))(eb:H b=aa (.tup (k.map kV))):vX H a (.ref b) (iQ kvs k):=.inr ⟨kvs,k,b,.inl e,rfl,eb,rfl⟩
def Km.t {a b:ae}{kvs:List (List Key×V)}{k:List Key}{v:V}(e:H a=aa (.dT kvs))(eb:H b=aa (.tup (k.map kV)))(hl:kvs.length<aK):
  Km H a (.ref b) v (upd H a (.dT (putK kvs k v))):=.inr ⟨kvs,k,b,e,rfl,eb,hl,rfl⟩
section
variable{X:Cx}{pins:List (ae×Obj)}{σ:St}{H:Hp}{s:aj}{a:ae}{y v:V}{u r:ah}{o:Option V}{A:bx}{E:ah->aj->Prop}
def Inv.big (I:Inv X pins σ H s):p4<s.heap.objs.size:=by have h:ed<s.heap.objs.size:=(I.mod.glob.keeps I.bk).lt;exact YT (by decide) h
def RV{Q:ah->aj->Prop}(hu:A.units+1<iK)(I:Inv X pins σ H s)(g:vX H a y (aa v))(ry:RelV y u)(h:∀w' s',Inv X pins σ H s'->RelV v w'->Q w' s'):
  aG (aE X.prog X.w) A (AE (.ref a) u) Q E s:=by
 rcases g with⟨kvs,k,e,ey,l⟩|⟨kvs,k,b,e,ey,eb,l⟩
 ·subst ey
  obtain⟨z,hd,vs,rel,dd⟩:=GX I.hok e;obtain⟨w',hw,xq⟩:=xH.some_of (v:=v) (o:=yO vs k) (by rw[l];exact rel.val k);exact wpAny_getItem_of (Kl ry) dd.mapOf hw (h w' _ (I.tok _) xq)
 ·subst ey
  cases (show u=dq b from ry);obtain⟨z,hd,xs,rel,dd⟩:=EL I.hok e;obtain⟨w',hw,xq⟩:=xH.some_of (v:=v) (o:=(tU xs k).map (·.2)) (by rw[l];exact rel.val k);obtain⟨p,hp,hp2⟩:=Option.map_eq_some_iff.mp hw;refine wpAny_getItem_heap (IB hu) (EK I.hok eb) dd hp ?_;rw[hp2];exact h w' _ (I.tok _) xq
def YU{Q:ah->aj->Prop}(hu:A.units+1<iK)(I:Inv X pins σ H s)(g:vX H a y o)(ry:RelV y u)(h:∀s',Inv X pins σ H s'->Q (.bool (!o.isSome)) s'):
  aG (aE X.prog X.w) A (jf .NotIn u (.ref a)) Q E s:=by
 rcases g with⟨kvs,k,e,ey,l⟩|⟨kvs,k,b,e,ey,eb,l⟩
 ·subst ey
  obtain⟨z,hd,vs,rel,dd⟩:=GX I.hok e;refine wpAny_notIn_of (Kl ry) hd dd.mapOf ?_;rw[<-(rel.val k).Cd,<-l];exact h _ (I.tok _)
 ·subst ey
  cases (show u=dq b from ry);obtain⟨z,hd,xs,rel,dd⟩:=EL I.hok e;refine wpAny_notIn_heap (IB hu) (EK I.hok eb) hd dd ?_;have q:=(rel.val k).Cd;rw[YS]at q;rw[<-q,<-l];exact h _ (I.tok _)
def O2{h':aF}{t':Nat}{ob:HO}(I:Inv X pins σ H s)(mu:Mut (H a))(hs:HQ a s.heap h')(he:∃q,h'.get? a=aa q)(new:ig X.prog X.w (upd H a ob) h' a ob):
  Inv X pins σ (upd H a ob) {s with heap:=h',toks:=t'}:=
 I.write (x:=a) (e:=a) mu (.inl rfl) (λb q hb z=>(hs.2 b hb).trans z) he new
def ade{P:aS}{w:aD}{H':Hp}{h':aF}{kvs:List (Key×V)}{vs:List (Key×ah)}(z:kvs.length<=aK)(hd:(a==p4)=false)(rel:KV kvs vs)(dd:h'.DictOf (iG P w) a vs):
  ig P w H' h' a (.dK kvs):=⟨z,hd,vs,rel,dd⟩
def RW{H':Hp}{Q:Unit->aj->Prop}(hu:A.units+1<iK)(I:Inv X pins σ H s)(g:Km H a y v H')(ry:RelV y u)(rv:RelV v r)(h:∀s',Inv X pins σ H' s'->Q () s'):
  aG (aE X.prog X.w) A (DP (.ref a) u r) Q E s:=by
 rcases g with⟨kvs,k,e,ey,l,eH⟩|⟨kvs,k,b,e,ey,eb,l,eH⟩
 ·subst ey eH
  obtain⟨z,hd,vs,rel,dd⟩:=agZ I.hok e;have hz:vs.length<=aK:=by rw[<-rel.length];exact z
  have hl:(putK kvs k v).length<=aK:=by have:=mw kvs k v;lia
  refine wpAny_setItem_pairs (hsz:=hz) (Kl ry) dd λh' dd' hs=>h _ ?_;have he:∃q,h'.get? a=aa q:=let⟨q,_,_,hq,_⟩:=dd';⟨q,hq⟩
  exact O2 I (by rw[e];exact qc) hs he (ade hl hd (rel.put k rv) dd')
 ·subst ey eH
  cases (show u=dq b from ry);obtain⟨z,hd,xs,rel,dd⟩:=ag0 I.hok e;have hz:xs.length<=aK:=by rw[<-Paired.length rel];exact z
  have hl:(putK kvs k v).length<=aK:=by have:=mw kvs k v;lia
  refine wpAny_setItem_heap (hsz:=hz) (IB hu) (EK I.hok eb) dd λh' dd' hs=>h _ ?_;obtain⟨q,es,ep,hq,h2,h3,h4,_,h5⟩:=dd';refine O2 I (by rw[e];exact qc) hs ⟨q,hq⟩ ⟨hl,hd,_,(rel.put k eb rv).keeps λc ys ec=>?_,q,es,ep,hq,h2,h3,h4,h5⟩;rw[aH (eT ec e (λz=>nomatch z))];exact ec
end
def ag1(i:ao):Prop:=∀ov iv,Ip i false ov iv=operate [ov,iv] (AE ov iv)
def YV{prog:aS}{w:aD}{A:bx}{E:ah->aj->Prop}{s:aj}{env:Env}{value slice:ao}{pos:Pos}{T id:String}{Q:ah->aj->Prop}
  (hl:Im (.type T) "__getitem__"=bj (aa (.builtin id)))(hs:ag1 slice)
  (h:aG (aE prog w) A (az value env) (λo s₁=>aG (aE prog w) A (az slice env) (λi s₂=>s₂.TypeIs o T/\aG (aE prog w) A (AE o i) Q E s₂) E s₁) E s):
  aG (aE prog w) A (az (.Subscript value slice pos) env) Q E s:=by
 refine OG (mY h (λo s₁ h₁=>mY h₁ (λi s₂ h₂=>?_) λ_ _ x=>x) λ_ _ x=>x);obtain⟨hT,h₂⟩:=h₂;unfold OH;refine bJ ?_;rw[getitemInPython_of_ne hT.not_modules];refine bJ (O3 hT hl ?_);have fin:aG (aE prog w) A (Ip slice false o i) (λr s₃=>aG (aE prog w) A (letTemporaryGo value o r>>=λ_=>bj r) Q E s₃) E s₂:=by rw[hs o i];exact wpAny_operating (mY h₂ (λr s₃ h₃=>bJ (wpAny_letTemporaryGo (ee h₃))) λ_ _ x=>x)
 first
  |exact ee (bJ fin)
  |exact bJ (ee (bJ fin))
  |exact bJ fin
def Kn{X:Cx}{s:aj}{y:V}{o:Option V}(I:Inv X pins σ H s)(g:vX H a y o):s.TypeIs (.ref a) "dict":=by
 rcases g with⟨kvs,k,e,_,_⟩|⟨kvs,k,b,e,_,_,_⟩
 ·obtain⟨_,_,vs,_,dd⟩:=GX I.hok e
  exact dd.typeIs
 ·obtain⟨_,_,xs,_,dd⟩:=EL I.hok e
  exact dd.typeIs
def ag2(td ty:TE):TE:=λσ H Q=>td σ H λx H1=>ty σ H1 λy H2=>∃a v,x=.ref a/\vX H2 a y (aa v)/\Q v H2
def YW(ty td:TE):TE:=λσ H Q=>ty σ H λy H1=>td σ H1 λx H2=>∃a o,x=.ref a/\vX H2 a y o/\Q (.bl (!o.isSome)) H2
def ag3(td ty tv:TE):TS:=λD σ H=>tv σ H λv H1=>td σ H1 λx H2=>ty σ H2 λy H3=>∃a H4,x=.ref a/\Km H3 a y v H4/\D.nx σ H4
section
variable{X:Cx}{o i e value:ao}{pos pos' aj7:Pos}{td ty tv:TE}
def IC(hu:X.A.units+1<iK)(ho:PE X o td)(hi:PE X i ty)(hs:ag1 i):PE X (.Subscript o i pos) (ag2 td ty):=by intro pins s σ H Q I h;refine YV PySem.F.slot_dict_getitem.lookup hs (gh (ho pins s σ H _ I h) λu s1 ⟨x,H1,I1,rx,q1⟩=>gh (hi pins s1 σ H1 _ I1 q1) λiv s2 ⟨y,H2,I2,ry,a,v,ex,g,q2⟩=>?_);subst ex;obtain rfl:u=dq a:=rx;exact⟨Kn I2 g,RV hu I2 g ry λw' s3 I3 xq=>⟨v,H2,I3,xq,q2⟩⟩
def Ce(hu:X.A.units+1<iK)(hi:PE X i ty)(ho:PE X o td):PC X .NotIn i o (YW ty td):=by intro pins s σ H Q I h;refine gh (hi pins s σ H _ I h) λiv s1 ⟨y,H1,I1,ry,q1⟩=>gh (ho pins s1 σ H1 _ I1 q1) λu s2 ⟨x,H2,I2,rx,a,ov,ex,g,q2⟩=>?_;subst ex;obtain rfl:u=dq a:=rx;exact YU hu I2 g ry λs3 I3=>⟨.bl (!ov.isSome),H2,I3,rfl,q2⟩
def D1(hu:X.A.units+1<iK)(ho:PE X o td)(hi:PE X i ty)(hv:PE X value tv)(hs:iH value (aa (.Subscript o i pos')) pos.line X.env=bj false):
  PS X (.Assign [.Subscript o i pos'] value pos) (ag3 td ty tv):=by
 show 'n';refine wpAny_Assign_Subscript (gh (hv pins s σ H _ I h) λr s1 ⟨v,H1,I1,rv,q1⟩=>gh (ho pins s1 σ H1 _ I1 q1) λu s2 ⟨x,H2,I2,rx,q2⟩=>gh (hi pins s2 σ H2 _ I2 q2) λiv s3 ⟨y,H3,I3,ry,a,H4,ex,g,q3⟩=>?_) hs;subst ex;obtain rfl:u=dq a:=rx;exact RW hu I3 g ry rv λs4 I4=>⟨σ,H4,I4,q3⟩
end
def Ui{P:aS}{w:aD}(h:aF)(hb:p4<h.objs.size):ig P w H (h.push {cls:=.type "dict",data:=.dict #[]}) h.objs.size (.dT []):=
 ⟨iJ _,beq_eq_false_iff_ne.mpr (Ne.symm (eU hb)),[],.nil,_,#[],0,kE _ rfl,⟨rfl,rfl,rfl⟩,rfl,rfl,YX⟩
def adf:TE:=λ_ H Q=>∀p,H p=none->Q (.ref p) (upd H p (.dT []))
section
variable{X:Cx}{pos:Pos}
def AL:PE X (.Dict [] [] pos) adf:=λpins s σ H Q I h=>
 wpAny_Dict_empty ⟨.ref s.heap.objs.size,_,I.laid (a:=s.heap.objs.size) (o:=.dT []) (t':=s.toks) (λ_ _ q=>dg _ q) (aY _) (Ui s.heap I.big),rfl,h _ (I.hok.fresh (aY _))⟩
end
end L2
namespace L2
open PySem PySem.Spec PyProof.Rows
variable{X:Cx}
structure M1(X:Cx)(o:ao)(m:Str)(apos:Pos)(e:ao)(cU:Pos):Prop where
 base:jP o m X.env (az o X.env)=az o X.env
 few:((bF cU (ar [e] X.env)).all (λx=> !x.1)&&(nc cU (ng [] X.env)).all (λx=>x.1.isSome)
  &&decide (([e]:List ao).length+([]:List gX).length+(if([]:List gX).isEmpty then 0 else 1)<30))=true
 line:(apos.endLine==cU.line)=true
 trees:bF cU (ar [e] X.env)=[(false,az e X.env)]
def IsD(H:Hp)(a:ae):Prop:=(∃kvs,Rd H a (.dK kvs))\/∃kvs,Rd H a (.dT kvs)
def adg{X:Cx}{s:aj}(I:Inv X pins σ H s)(d:IsD H a):
  s.TypeIs (.ref a) "dict"/\(∀b,dq a=.ref b->∃ob,s.heap.get? b=aa ob/\ob.dict=none)/\(a==p4)=false:=by
 rcases d with⟨kvs,e⟩|⟨kvs,e⟩
 ·obtain⟨_,hd,vs,_,dd⟩:=GX I.hok e
  show '|';cases q;obtain⟨ob,_,_,h1,h2,_⟩:=dd;exact⟨ob,h1,h2.2.1⟩
 ·obtain⟨_,hd,xs,_,dd⟩:=EL I.hok e
  show '|';cases q;obtain⟨ob,_,_,h1,h2,_⟩:=dd;exact⟨ob,h1,h2.2.1⟩
section
variable{X:Cx}{pins:List (ae×Obj)}{σ:St}{H:Hp}{s:aj}{a:ae}{y d:V}{u r:ah}{o:Option V}{A:bx}{E:ah->aj->Prop}
def adh{Q:ah->aj->Prop}(hu:A.units+1<iK)(I:Inv X pins σ H s)(g:vX H a y o)(ry:RelV y u)(h:∀w' s',Inv X pins σ H s'->RelV (o.getD .non) w'->Q w' s'):
  aG (aE X.prog X.w) A (call (.builtin "dict.get") [.ref a,u]) Q E s:=by
 rcases g with⟨kvs,k,e,ey,l⟩|⟨kvs,k,b,e,ey,eb,l⟩
 ·subst ey
  obtain⟨z,hd,vs,rel,dd⟩:=GX I.hok e;refine O4 O5 dd.typeIs YY (YZ _ _) (meets_dict_get (iG X.prog X.w) a (Kl ry) hd) ⟨_,dd.mapOf,h _ _ (I.tok _) ?_⟩;rw[l];exact(rel.val k).getD rfl
 ·subst ey
  cases (show u=dq b from ry);obtain⟨z,hd,xs,rel,dd⟩:=EL I.hok e;refine O4 O5 dd.typeIs YY (YZ _ _) (meetsH_dict_get (yz (iG X.prog X.w)) a b hd) ⟨IB hu,k,xs,EK I.hok eb,dd,h _ _ (I.tok _) ?_⟩;rw[l];exact(rel.val k).getD rfl
end
def adi(td ty:TE):TE:=λσ H Q=>td σ H λx H1=>∃a,x=.ref a/\IsD H1 a/\ty σ H1 λy H2=>∃o,vX H2 a y o/\Q (o.getD .non) H2
section
variable{X:Cx}{o e f:ao}{apos cU:Pos}{td ty tx:TE}
def Uj(hu:X.A.units+1<iK)(ho:PE X o td)(he:PE X e ty)(m:M1 X o "get" apos e cU):PE X (.Call (.Attribute o "get" apos) [e] [] cU) (adi td ty):=by intro pins s σ H Q I h;refine wpAny_Call_method m.base m.few m.line PySem.F.plainAttrs_dict O5 PySem.F.type_dict_get (gh (ho pins s σ H _ I h) λu s1 ⟨x,H1,I1,rx,a,ex,d,q1⟩=>?_);subst ex;obtain rfl:u=dq a:=rx;obtain⟨t1,t2,_⟩:=adg I1 d;refine⟨t1,t2,?_⟩;rw[m.trees];refine OT rfl (YH (DY (gh (he pins s1 σ H1 _ I1 q1) λiv s2 ⟨y,H2,I2,ry,ov,g,q2⟩=>DX ?_)));exact adh hu I2 g ry λw' s3 I3 xq=>⟨_,H2,I3,xq,q2⟩
end
end L2
namespace DL
open PySem PySem.Spec PyProof.Rows L2
abbrev St:=L2.St
inductive D where
 |non|bl (b:Bool)|int (i:Int)|str (x:Str)|lst (xs:List D)|tup (xs:List D)|exc (n:Str)|fn (n:Str)
 deriving Inhabited
abbrev AN:=List D
inductive R (α:Type) where
 |ok (a:α)|err (c:Str)|bad
def R.bind {α β:Type}(r:R α)(f:α->R β):R β:=match r with
 |.ok a=>f a
 |.err c=>.err c
 |.bad=>.bad
def R.of {α:Type}:Option α->R α
 |some a=>.ok a
 |none=>.bad
theorem R.bX {α β:Type}(a:α)(f:α->R β):(R.ok a).bind f=f a:=rfl
theorem R.dE {α:Type}(a:α):R.of (aa a)=.ok a:=rfl
def Good{α:Type}(E:Str->Hp->Prop)(H₀:Hp)(r:R α)(post:α->Prop):Prop:=match r with
 |.ok a=>post a
 |.err c=>∀H',bM H₀ H'->E c H'
 |.bad=>False
theorem Good.bind {α β:Type}{E:Str->Hp->Prop}{H₀:Hp}{r:R α}{k:α->R β}{post:β->Prop}(h:Good E H₀ (r.bind k) post):Good E H₀ r (λa=>Good E H₀ (k a) post):=by
 cases r with
 |ok a=>exact h
 |err c=>exact h
 |bad=>exact h
def Good.mono {α:Type}{E:Str->Hp->Prop}{H₀:Hp}{r:R α}{p q:α->Prop}(h:Good E H₀ r p)(w:∀a,r=.ok a->p a->q a):Good E H₀ r q:=by
 cases r with
 |ok a=>exact w a rfl h
 |err c=>exact h
 |bad=>exact h
def Good.O6 {α β:Type}{E:Str->Hp->Prop}{H₀:Hp}{r:R α}{k:α->R β}{p:α->Prop}{q:β->Prop}(h:Good E H₀ r p)(w:∀a,r=.ok a->p a->Good E H₀ (k a) q):Good E H₀ (r.bind k) q:=by
 cases r with
 |ok a=>exact w a rfl h
 |err c=>exact h
 |bad=>exact h
theorem Good.of {α:Type}{E:Str->Hp->Prop}{H₀:Hp}{o:Option α}{p:α->Prop}(h:Good E H₀ (R.of o) p):∃a,o=aa a/\p a:=by
 cases o with
 |none=>exact kC h
 |some a=>exact⟨a,rfl,h⟩
def KL(K:ak)(a:ae)(xs:List V):Prop:=∃(o:Obj)(its:Array ah)(n:Nat),K.lookup a=aa o/\o.cls=.type "list"/\o.dict=none/\o.data=.seq its n/\its.size<=aK/\Vals xs its.toList
def KT(K:ak)(a:ae)(xs:List V):Prop:=∃(o:Obj)(its:Array ah)(n:Nat),K.lookup a=aa o/\o.cls=.type "tuple"/\o.data=.seq its n/\its.size<=aK/\Vals xs its.toList
def Ds(K:ak)(P:ae->Prop)(H:Hp)(a:ae)(vs:List V):Prop:=(P a/\Rd H a (.lst vs))\/KL K a vs
def RX(K:ak)(P:ae->Prop)(H:Hp)(a:ae)(vs:List V):Prop:=(P a/\Rd H a (.tup vs))\/KT K a vs
def Ds.sq {K:ak}{P:ae->Prop}{vs:List V}(h:Ds K P H a vs):gS K H a vs:=h.elim (λz=>.inl z.2) .inr
def RX.sq {K:ak}{P:ae->Prop}{vs:List V}(h:RX K P H a vs):Ka K H a vs:=h.elim (λz=>.inl z.2) .inr
def Ds.any {K:ak}{vs:List V}(h:gS K H a vs):Ds K (λ_=>True) H a vs:=h.elim (λz=>.inl ⟨trivial,z⟩) .inr
def akp(a C:ae):aF->Prop:=λh=>∃vs,h.get? a=aa {cls:=.ref C,data:=.fields vs}
noncomputable def Is(K:ak)(P:ae->Prop)(H:Hp):D->V->Prop
 |.non,v=>v=.non
 |.bl b,v=>v=.bl b
 |.int i,v=>v=.int i
 |.str x,v=>v=.str x
 |.lst ds,v=>∃a vs,v=.ref a/\Ds K P H a vs/\IsL ds vs
 |.tup ds,v=>∃a vs,v=.ref a/\RX K P H a vs/\IsL ds vs
 |.exc n,v=>∃a C,v=.ref a/\P a/\vY K ed n=aa (aa (.ref C))/\H a=aa (.ext (akp a C))
 |.fn n,v=>∃a,v=.ref a/\vY K ed n=aa (aa (.ref a))
where
 IsL:AN->List V->Prop
 |[],vs=>vs=[]
 |d::ds,vs=>∃v r,vs=v::r/\Is K P H d v/\IsL ds r
abbrev IsL(K:ak)(P:ae->Prop)(H:Hp):AN->List V->Prop:=Is.IsL K P H
section
variable{K:ak}{P P':ae->Prop}{H H':Hp}
structure Ext(P P':ae->Prop)(H H':Hp):Prop where
 p:∀a o,P a->H a=aa o->P' a
 h:∀a o,P a->H a=aa o->H' a=aa o
def Ext.rd (e:Ext P P' H H'){u:HO}(p:P a)(r:Rd H a u):P' a/\Rd H' a u:=by
 rcases r with r|⟨o,r⟩
 ·exact⟨e.p a _ p r,.inl (e.h a _ p r)⟩
 ·exact⟨e.p a _ p r,.inr ⟨o,e.h a _ p r⟩⟩
def Ds.ext (e:Ext P P' H H'){vs:List V}(h:Ds K P H a vs):Ds K P' H' a vs:=h.elim (λz=>.inl (e.rd z.1 z.2)) .inr
def RX.ext (e:Ext P P' H H'){vs:List V}(h:RX K P H a vs):RX K P' H' a vs:=h.elim (λz=>.inl (e.rd z.1 z.2)) .inr
mutual
theorem Is.ext (e:Ext P P' H H'):∀(d:D)(v:V),Is K P H d v->Is K P' H' d v
 |.non,_,h=>h
 |.bl _,_,h=>h
 |.int _,_,h=>h
 |.str _,_,h=>h
 |.lst ds,_,⟨a,vs,e1,l,q⟩=>⟨a,vs,e1,l.ext e,IsL.ext e ds vs q⟩
 |.tup ds,_,⟨a,vs,e1,l,q⟩=>⟨a,vs,e1,l.ext e,IsL.ext e ds vs q⟩
 |.exc n,_,⟨a,C,e1,p,c,q⟩=>⟨a,C,e1,e.p a _ p q,c,e.h a _ p q⟩
 |.fn _,_,h=>h
theorem IsL.ext (e:Ext P P' H H'):∀(ds:AN)(vs:List V),IsL K P H ds vs->IsL K P' H' ds vs
 |[],_,h=>h
 |d::ds,_,⟨v,r,e1,p,q⟩=>⟨v,r,e1,Is.ext e d v p,IsL.ext e ds r q⟩
end
def Ext.same (s:bM H H'):Ext P P H H':=⟨λ_ _ p _=>p,λa o _ h=>s a o h⟩
theorem Is.same (s:bM H H'){d:D}{v:V}(h:Is K P H d v):Is K P H' d v:=Is.ext (.same s) d v h
theorem IsL.same (s:bM H H'){d:AN}{v:List V}(h:IsL K P H d v):IsL K P H' d v:=IsL.ext (.same s) d v h
def Is.weak {d:D}{v:V}(h:Is K P H d v):Is K (λ_=>True) H d v:=Is.ext ⟨λ_ _ _ _=>trivial,λ_ _ _ q=>q⟩ d v h
def IsL.weak {d:AN}{v:List V}(h:IsL K P H d v):IsL K (λ_=>True) H d v:=IsL.ext ⟨λ_ _ _ _=>trivial,λ_ _ _ q=>q⟩ d v h
def toV:D->Option V
 |.non=>aa .non
 |.bl b=>aa (.bl b)
 |.int i=>aa (.int i)
 |.str x=>aa (.str x)
 |_=>none
def Is.sc {d:D}{z:V}(h:toV d=aa z):Is K P H d z:=by
 cases d with
 |non=>cases h;rfl
 |bl b=>cases h;rfl
 |int b=>cases h;rfl
 |str b=>cases h;rfl
 |lst b=>cases h
 |tup b=>cases h
 |_=>cases h
def Is.abz {d:D}{z v:V}(h:toV d=aa z)(i:Is K P H d v):v=z:=by
 cases d with
 |non=>cases h;exact i
 |bl b=>cases h;exact i
 |int b=>cases h;exact i
 |str b=>cases h;exact i
 |lst b=>cases h
 |tup b=>cases h
 |_=>cases h
theorem IsL.length:∀{ds:AN}{vs:List V},IsL K P H ds vs->vs.length=ds.length
 |[],_,h=>by subst h;rfl
 |d::ds,_,⟨v,r,e,_,q⟩=>by subst e;simp[IsL.length q]
theorem IsL.get:∀{ds:AN}{vs:List V}{i:Nat}{d:D},IsL K P H ds vs->ds[i]?=aa d->∃v,vs[i]?=aa v/\Is K P H d v
 |[],_,_,_,_,e=>by simp at e
 |d::ds,_,0,_,⟨v,r,e,p,q⟩,e2=>by subst e;simp at e2;subst e2;exact⟨v,rfl,p⟩
 |d::ds,_,i+1,_,⟨v,r,e,p,q⟩,e2=>by subst e;obtain⟨v',h1,h2⟩:=IsL.get (i:=i) q (by simpa using e2);exact⟨v',by simpa using h1,h2⟩
theorem IsL.app:∀{ds es:AN}{vs ws:List V},IsL K P H ds vs->IsL K P H es ws->IsL K P H (ds++es) (vs++ws)
 |[],_,_,_,h,q=>by have h':_=[]:=h;subst h';exact q
 |d::ds,_,_,_,⟨v,r,e,p,q⟩,q2=>by subst e;exact⟨v,_,rfl,p,IsL.app q q2⟩
def IsL.one {d:D}{v:V}(h:Is K P H d v):IsL K P H [d] [v]:=⟨v,[],rfl,h,rfl⟩
def IsL.cons {d:D}{v:V}{ds:AN}{vs:List V}(h:Is K P H d v)(q:IsL K P H ds vs):IsL K P H (d::ds) (v::vs):=⟨v,vs,rfl,h,q⟩
theorem IsL.drop:∀{ds:AN}{vs:List V}(n:Nat),IsL K P H ds vs->IsL K P H (ds.drop n) (vs.drop n)
 |_,_,0,h=>h
 |[],_,n+1,h=>by have h':_=[]:=h;subst h';exact rfl
 |d::ds,_,n+1,⟨v,r,e,p,q⟩=>by subst e;exact IsL.drop n q
theorem IsL.take:∀{ds:AN}{vs:List V}(n:Nat),IsL K P H ds vs->IsL K P H (ds.take n) (vs.take n)
 |_,_,0,_=>rfl
 |[],_,n+1,h=>by have h':_=[]:=h;subst h';exact rfl
 |d::ds,_,n+1,⟨v,r,e,p,q⟩=>by subst e;exact⟨v,_,rfl,p,IsL.take n q⟩
theorem IsL.set:∀{ds:AN}{vs:List V}{d:D}{v:V}(i:Nat),IsL K P H ds vs->Is K P H d v->IsL K P H (ds.set i d) (vs.set i v)
 |[],_,_,_,_,h,_=>by have h':_=[]:=h;subst h';exact rfl
 |d::ds,_,_,_,0,⟨v,r,e,p,q⟩,h=>by subst e;exact⟨_,_,rfl,h,q⟩
 |d::ds,_,_,_,i+1,⟨v,r,e,p,q⟩,h=>by subst e;exact⟨v,_,rfl,p,IsL.set i q h⟩
end
abbrev Y0:=Int×Int×Ap
inductive Ct where
 |ls (nss:List Ap)|tp (nss:List Ap)|dk (ks:Ap)|tq (n:Int) (ns:Ap)|tr (ts:List Y0)|tv (ds:AN) (ns:Ap)|tf (h:Int) (nss:List Ap)
instance:Coe (List Ap) Ct:=⟨Ct.ls⟩
inductive Sl where
 |no|val (d:D)|own (xs:AN)|raw (v:V)|deep (c:Ct)
abbrev DE:=List Sl
variable {nss:List Ap}{env:DE}{ds:AN}
structure Gh where
 P₀:ae->Prop
 H₀:Hp
def Gh.P (g:Gh)(os:List ae)(a:ae):Prop:=(g.P₀ a\/g.H₀ a=none)/\a∉os
structure GY(hd:List V->HO)(H:Hp)(os:List ae)(a:ae)(as:List ae)(nss:List Ap):Prop where
 ma:a∈os
 ha:H a=aa (hd (as.map V.ref))
 len:as.length=nss.length
 nd:(a::as).Nodup
 it:∀(k:Nat)(b:ae)(ns:Ap),as[k]?=aa b->nss[k]?=aa ns->b∈os/\H b=aa (.lst (ns.map V.int))
def GY.mem {hd:List V->HO}{as:List ae}(d:GY hd H os a as nss):∀x∈a::as,x∈os/\∃o,H x=aa o:=λx hx=>by
 rcases aX.mp hx with rfl|hx
 ·exact⟨d.ma,_,d.ha⟩
 ·obtain⟨k,hk,rfl⟩:=D2 hx
  have RY:k<nss.length:=by rw[<-d.len];exact hk
  have q:=d.it k _ _ (aP hk) (aP RY);exact⟨q.1,_,q.2⟩
def GY.to {hd:List V->HO}{H H':Hp}{os k9:List ae}{as:List ae}(d:GY hd H os a as nss)(h:∀x∈a::as,x∈k9/\H' x=H x):GY hd H' k9 a as nss:=
 ⟨(h a (by simp)).1,by rw[(h a (by simp)).2];exact d.ha,d.len,d.nd,λk b ns e1 e2=>by have q:=d.it k b ns e1 e2;have hb:=h b (bE _ (dU e1));exact⟨hb.1,by rw[hb.2];exact q.2⟩⟩
def TrI(H:Hp)(as:List ae)(t:Y0)(v:V):Prop:=∃b c,v=.ref b/\b∈as/\c∈as/\H b=aa (.tup [.int t.1,.int t.2.1,.ref c])/\H c=aa (.lst (t.2.2.map V.int))
structure DpR(H:Hp)(os:List ae)(a:ae)(as:List ae)(ts:List Y0):Prop where
 ma:a∈os
 na:a∉as
 mem:∀x∈as,x∈os/\∃o,H x=aa o
 at_:∃vs,H a=aa (.lst vs)/\vs.length=ts.length/\∀(k:Nat)(t:Y0)(v:V),ts[k]?=aa t->vs[k]?=aa v->TrI H as t v
def TrI.to {H H':Hp}{as as':List ae}{t:Y0}{v:V}(d:TrI H as t v)(h:∀x∈as,x∈as'/\H' x=H x):TrI H' as' t v:=by obtain⟨b,c,e,h1,h2,h3,h4⟩:=d;exact⟨b,c,e,(h b h1).1,(h c h2).1,by rw[(h b h1).2];exact h3,by rw[(h c h2).2];exact h4⟩
theorem DpR.to {H H':Hp}{os k9:List ae}{as:List ae}{ts:List Y0}(d:DpR H os a as ts)(h:∀x∈a::as,x∈k9/\H' x=H x):DpR H' k9 a as ts:=by
 obtain⟨vs,h1,h2,h3⟩:=d.at_
 refine⟨(h a (by simp)).1,d.na,λx hx=>?_,vs,by rw[(h a (by simp)).2];exact h1,h2,λk t v e1 e2=>(h3 k t v e1 e2).to λx hx=>⟨hx,(h x (bE _ hx)).2⟩⟩;obtain⟨q1,o,q2⟩:=d.mem x hx;have q:=h x (bE _ hx);exact⟨q.1,o,by rw[q.2];exact q2⟩
def kvT(ks:Ap):List (Key×V):=ks.map λk=>(iF k,V.bl true)
abbrev Dp(K:ak)(H:Hp)(os:List ae)(a:ae)(as:List ae)(c:Ct):Prop:=match c with
 |.ls nss=>GY HO.lst H os a as nss
 |.tp nss=>GY HO.tup H os a as nss
 |.dk ks=>a∈os/\as=[]/\H a=aa (.dK (kvT ks))
 |.tq n ns=>∃b,as=[b]/\a∈os/\b∈os/\a≠b/\H a=aa (.tup [.int n,.ref b])/\H b=aa (.lst (ns.map V.int))
 |.tr ts=>DpR H os a as ts
 |.tf h nss=>∃m bs,as=m::bs/\a∈os/\a∉as/\H a=aa (.tup [.int h,.ref m])/\GY HO.lst H os m bs nss
 |.tv ds ns=>∃b m ws,b∈as/\m∈as/\m≠b/\a∉as/\(∀x∈a::as,x∈os/\∃o,H x=aa o)/\H a=aa (.tup [.ref m,.ref b])/\H b=aa (.lst (ns.map V.int))/\H m=aa (.lst ws)/\IsL K (λc=>c∈as/\c≠b/\c≠m) H ds ws
theorem Dp.mem {K:ak}{as:List ae}{c:Ct}(d:Dp K H os a as c):∀x∈a::as,x∈os/\∃o,H x=aa o:=by
 cases c with
 |ls nss=>exact GY.mem d
 |tp nss=>exact GY.mem d
 |dk ks=>
  obtain⟨h1,rfl,h2⟩:=d;intro x hx;rcases aX.mp hx with rfl|hx
  ·exact⟨h1,_,h2⟩
  ·cases hx
 |tq n ns=>
  obtain⟨b,rfl,h1,h2,h3,h4,h5⟩:=d;intro x hx;rcases aX.mp hx with rfl|hx
  ·exact⟨h1,_,h4⟩
  ·rcases aX.mp hx with rfl|hx
   ·exact⟨h2,_,h5⟩
   ·cases hx
 |tr ts=>
  have d':DpR H os a as ts:=d;intro x hx;rcases aX.mp hx with rfl|hx
  ·obtain⟨vs,h1,_⟩:=d'.at_
   exact⟨d'.ma,_,h1⟩
  ·exact d'.mem x hx
 |tv ds ns=>
  obtain⟨b,m,ws,_,_,_,_,h,_⟩:=d;exact h
 |tf h nss=>
  obtain⟨m,bs,rfl,h1,_,h3,h4⟩:=d;intro x hx;rcases aX.mp hx with rfl|hx
  ·exact⟨h1,_,h3⟩
  ·exact GY.mem h4 x hx
theorem Dp.to {K:ak}{H H':Hp}{os k9:List ae}{as:List ae}{c:Ct}(d:Dp K H os a as c)(h:∀x∈a::as,x∈k9/\H' x=H x):Dp K H' k9 a as c:=by
 cases c with
 |ls nss=>exact GY.to d h
 |tp nss=>exact GY.to d h
 |dk ks=>
  obtain⟨h1,rfl,h2⟩:=d;exact⟨(h a (by simp)).1,rfl,by rw[(h a (by simp)).2];exact h2⟩
 |tq n ns=>
  obtain⟨b,rfl,h1,h2,h3,h4,h5⟩:=d;exact⟨b,rfl,(h a (by simp)).1,(h b (by simp)).1,h3,by rw[(h a (by simp)).2];exact h4,by rw[(h b (by simp)).2];exact h5⟩
 |tr ts=>exact DpR.to d h
 |tf k nss=>
  obtain⟨m,bs,rfl,h1,h2,h3,h4⟩:=d;exact⟨m,bs,rfl,(h a (by simp)).1,h2,by rw[(h a (by simp)).2];exact h3,h4.to λx hx=>h x (bE _ hx)⟩
 |tv ds ns=>
  obtain⟨b,m,ws,h1,h2,h3,h4,h5,h6,h7,h8,h9⟩:=d;have hb:=h b (bE _ h1);have hm:=h m (bE _ h2);refine⟨b,m,ws,h1,h2,h3,h4,λx hx=>?_,by rw[(h a (by simp)).2];exact h6,by rw[hb.2];exact h7,by rw[hm.2];exact h8,IsL.ext ⟨λc o p _=>p,λc o p q=>by rw[(h c (bE _ p.1)).2];exact q⟩ _ _ h9⟩;obtain⟨_,o,q⟩:=h5 x hx;exact⟨(h x hx).1,o,by rw[(h x hx).2];exact q⟩
theorem Dp.ma {K:ak}{as:List ae}(d:Dp K H os a as (.ls nss)):a∈os:=GY.ma d
theorem Dp.ha {K:ak}{as:List ae}(d:Dp K H os a as (.ls nss)):H a=aa (.lst (as.map V.ref)):=GY.ha d
theorem Dp.len {K:ak}{as:List ae}(d:Dp K H os a as (.ls nss)):as.length=nss.length:=GY.len d
theorem Dp.nd {K:ak}{as:List ae}(d:Dp K H os a as (.ls nss)):(a::as).Nodup:=GY.nd d
theorem Dp.it {K:ak}{as:List ae}(d:Dp K H os a as (.ls nss)):∀(k:Nat)(b:ae)(ns:Ap),as[k]?=aa b->nss[k]?=aa ns->b∈os/\H b=aa (.lst (ns.map V.int)):=GY.it d
structure Dps(K:ak)(A:Nat->List ae)(env:DE)(σ:St)(H:Hp)(os:List ae):Prop where
 dp:∀(i:Nat)(nss:Ct),env[i]?=aa (.deep nss)->∃a as,A i=a::as/\σ[i]?=aa (aa (.ref a))/\Dp K H os a as nss
 ow:∀(i:Nat)(nss:Ct)(j:Nat)(xs:AN)(b:ae),env[i]?=aa (.deep nss)->env[j]?=aa (.own xs)->σ[j]?=aa (aa (.ref b))->b∉A i
 dj:∀(i j:Nat)(nss zO:Ct),i≠j->env[i]?=aa (.deep nss)->env[j]?=aa (.deep zO)->∀x∈A i,x∉A j
theorem Dps.mem {K:ak}{A:Nat->List ae}(d:Dps K A env σ H os){nss:Ct}(e:env[i]?=aa (.deep nss)):∀x∈A i,x∈os/\∃o,H x=aa o:=λx hx=>by obtain⟨a,as,h1,_,h3⟩:=d.dp i nss e;rw[h1]at hx;exact h3.mem x hx
theorem Dps.to {K:ak}{A:Nat->List ae}{env vZ:DE}{σ σ':St}{H H':Hp}{os k9:List ae}(d:Dps K A env σ H os)
  (hd:∀(j:Nat)(nss:Ct),vZ[j]?=aa (.deep nss)->env[j]?=aa (.deep nss)/\σ'[j]?=σ[j]?)
  (ho:∀(j:Nat)(xs:AN)(b:ae),vZ[j]?=aa (.own xs)->σ'[j]?=aa (aa (.ref b))->(∃ys,env[j]?=aa (.own ys)/\σ[j]?=aa (aa (.ref b)))\/b∉os)
  (hH:∀(i:Nat)(nss:Ct),env[i]?=aa (.deep nss)->∀x∈A i,x∈k9/\H' x=H x):Dps K A vZ σ' H' k9 where
 dp i nss e:=by obtain⟨e',q⟩:=hd i nss e;obtain⟨a,as,h1,h2,h3⟩:=d.dp i nss e';exact⟨a,as,h1,by rw[q];exact h2,h3.to λx hx=>hH i nss e' x (by rw[h1];exact hx)⟩
 ow i nss j xs b e1 e2 e3:=by
  obtain⟨Y1,_⟩:=hd i nss e1;rcases ho j xs b e2 e3 with⟨ys,q1,q2⟩|q
  ·exact d.ow i nss j ys b Y1 q1 q2
  ·exact λz=>q (d.mem Y1 b z).1
 dj i j nss zO hij e1 e2:=d.dj i j nss zO hij (hd i nss e1).1 (hd j zO e2).1
def MF(K:ak)(env:DE)(σ:St)(H:Hp)(os:List ae):Prop:=∃A,Dps K A env σ H os
def MF.none {K:ak}(h:∀(i:Nat)(nss:Ct),env[i]?≠aa (.deep nss)):MF K env σ H os:=
 ⟨λ_=>[],λi nss e=>(h i nss e).elim,λi nss _ _ _ e=>(h i nss e).elim,λi _ nss _ _ e=>(h i nss e).elim⟩
structure Rel(K:ak)(g:Gh)(env:DE)(σ:St)(H:Hp)(os:List ae):Prop where
 len:σ.length=env.length
 ext:bM g.H₀ H
 val:∀(i:Nat)(d:D),env[i]?=aa (.val d)->∃v,σ[i]?=aa (aa v)/\Is K (g.P os) H d v
 own:∀(i:Nat)(xs:AN),env[i]?=aa (.own xs)->∃a vs,σ[i]?=aa (aa (.ref a))/\a∈os/\H a=aa (.lst vs)/\IsL K (g.P os) H xs vs
 inj:∀(i j:Nat)(xs ys:AN)(a:ae),env[i]?=aa (.own xs)->env[j]?=aa (.own ys)->σ[i]?=aa (aa (.ref a))->σ[j]?=aa (aa (.ref a))->i=j
 new:∀a∈os,g.H₀ a=none/\∃o,H a=aa o
 raw:∀(i:Nat)(v:V),env[i]?=aa (.raw v)->σ[i]?=aa (aa v)
 Uk:MF K env σ H os
section
variable{K:ak}{g:Gh}{env:DE}{σ:St}{H H':Hp}{os:List ae}
theorem Rel.same (r:Rel K g env σ H os)(s:bM H H'):Rel K g env σ H' os:=
 ⟨r.len,r.ext.trans s,λi d e=>let⟨v,h1,h2⟩:=r.val i d e;⟨v,h1,h2.same s⟩,
  λi xs e=>let⟨a,vs,h1,h2,h3,h4⟩:=r.own i xs e;⟨a,vs,h1,h2,s a _ h3,h4.same s⟩,r.inj,λa ha=>⟨(r.new a ha).1,let⟨o,h⟩:=(r.new a ha).2;⟨o,s a o h⟩⟩,r.raw,by
  obtain⟨A,d⟩:=r.Uk;exact⟨A,d.to (λj nss e=>⟨e,rfl⟩) (λj xs b e q=>.inl ⟨xs,e,q⟩) λi nss e x hx=>by obtain⟨q1,o,q2⟩:=d.mem e x hx;exact⟨q1,by rw[s x o q2,q2]⟩⟩⟩
def Rel.fresh (r:Rel K g env σ H os)(h:H a=none):g.P os a:=by refine⟨.inr (r.ext.free h),λhm=>?_⟩;obtain⟨o,e⟩:=(r.new a hm).2;rw[h]at e;cases e
def bY{p:ae}(h:H p=none)(o:HO):bM H (upd H p o):=λb u q=>by rw[aH (aV q h)];exact q
theorem Rel.set (r:Rel K g env σ H os)(i:Nat){d:D}{v:V}(h:Is K (g.P os) H d v):Rel K g (env.set i (.val d)) (σ.set i (aa v)) H os:=by
 refine⟨by simp[r.len],r.ext,λj d' e=>?_,λj xs e=>?_,λj k xs ys a e1 e2 e3 e4=>?_,r.new,λj w e=>?_,?_⟩
 ·by_cases hj:i=j
  ·subst hj
   have hi:i<env.length:=by have:=(bH.mp e).1;simpa using this
   rw[mX hi]at e;cases e;exact⟨v,by rw[mX (by rw[r.len];exact hi)],h⟩
  ·rw[bw hj]at e
   obtain⟨v',h1,h2⟩:=r.val j d' e;exact⟨v',by rw[bw hj];exact h1,h2⟩
 ·by_cases hj:i=j
  ·subst hj
   have hi:i<env.length:=by have:=(bH.mp e).1;simpa using this
   rw[mX hi]at e;cases e
  ·rw[bw hj]at e
   obtain⟨a,vs,h1,h2⟩:=r.own j xs e;exact⟨a,vs,by rw[bw hj];exact h1,h2⟩
 ·have f:∀(j:Nat)(xs:AN),(env.set i (Sl.val d))[j]?=aa (.own xs)->i≠j:=λj xs e hj=>by
   subst hj;have hi:i<env.length:=by have:=(bH.mp e).1;simpa using this
   rw[mX hi]at e;cases e
  have hj:=f j xs e1;have hk:=f k ys e2;rw[bw hj]at e1 e3;rw[bw hk]at e2 e4;exact r.inj j k xs ys a e1 e2 e3 e4
 ·by_cases hj:i=j
  ·subst hj
   have hi:i<env.length:=by have:=(bH.mp e).1;simpa using this
   rw[mX hi]at e;cases e
  ·rw[bw hj]at e⊢
   exact r.raw j w e
 ·obtain⟨A,dd⟩:=r.Uk
  have f:∀(j:Nat)(sl:Sl),(env.set i (Sl.val d))[j]?=aa sl->(∀d',sl≠.val d')->i≠j/\env[j]?=aa sl:=λj sl q hn=>by
   by_cases hj:i=j
   ·subst hj
    have hi:i<env.length:=by have:=(bH.mp q).1;simpa using this
    rw[mX hi]at q;exact(hn d (ck.inj q).symm).elim
   ·rw[bw hj]at q
    exact⟨hj,q⟩
  refine⟨A,dd.to (λj nss q=>?_) (λj xs b q z=>?_) λj nss q x hx=>⟨(dd.mem q x hx).1,rfl⟩⟩
  ·obtain⟨hj,q⟩:=f j _ q (λ_ z=>nomatch z)
   exact⟨q,by rw[bw hj]⟩
  ·obtain⟨hj,q⟩:=f j _ q (λ_ z=>nomatch z)
   rw[bw hj]at z;exact .inl ⟨xs,q,z⟩
def Rel.apart (r:Rel K g env σ H os)(s:bM H H')(hn:H a=none):Ext (g.P os) (g.P (a::os)) H H':=
 ⟨λb o p e=>⟨p.1,λhm=>by
  rcases aX.mp hm with z|z
  ·rw[z,hn]at e;cases e
  ·exact p.2 z⟩,λb o _ e=>s b o e⟩
def dD{α:Type}{l:List α}{x y:α}(e:(l.set i x)[i]?=aa y):y=x:=by
 have hi:i<l.length:=by have:=(bH.mp e).1;simpa using this
 rw[mX hi]at e;cases e;rfl
def GZ{α:Type}{l:List α}{i j:Nat}{x y:α}(e:(l.set i x)[j]?=aa y):j<l.length:=by have:=(bH.mp e).1;simpa using this
def Rel.akq (r:Rel K g env σ H os)(s:bM H H')(i:Nat){xs:AN}{vs:List V}{a:ae}(hn:H a=none)(hH:H' a=aa (.lst vs))(h:IsL K (g.P (a::os)) H' xs vs):
  Rel K g (env.set i (.own xs)) (σ.set i (aa (.ref a))) H' (a::os):=by
 have ap:=r.apart s hn;have old:∀(j:Nat)(ys:AN),env[j]?=aa (.own ys)->σ[j]?=aa (aa (.ref a))->False:=λj ys e q=>by obtain⟨b,ws,h1,h2,h3,_⟩:=r.own j ys e;rw[q]at h1;cases h1;rw[hn]at h3;cases h3
 refine⟨by simp[r.len],r.ext.trans s,λj d' e=>?_,λj ys e=>?_,λj k ys zs b e1 e2 e3 e4=>?_,λb hb=>?_,λj w e=>?_,?_⟩
 ·by_cases hj:i=j
  ·subst hj
   exact nomatch dD e
  ·rw[bw hj]at e
   obtain⟨v,h1,h2⟩:=r.val j d' e;exact⟨v,by rw[bw hj];exact h1,Is.ext ap _ _ h2⟩
 ·by_cases hj:i=j
  ·subst hj
   have hi:=GZ e;have e':=dD e;cases e';exact⟨a,vs,by rw[mX (by rw[r.len];exact hi)],by simp,hH,h⟩
  ·rw[bw hj]at e
   obtain⟨b,ws,h1,h2,h3,h4⟩:=r.own j ys e;exact⟨b,ws,by rw[bw hj];exact h1,bE _ h2,s _ _ h3,IsL.ext ap _ _ h4⟩
 ·by_cases hj:i=j
  ·subst hj
   by_cases hk:i=k
   ·exact hk
   ·have e3':=dD e3
    cases e3';rw[bw hk]at e2 e4;exact(old k zs e2 e4).elim
  ·by_cases hk:i=k
   ·subst hk
    have e4':=dD e4;cases e4';rw[bw hj]at e1 e3;exact(old j ys e1 e3).elim
   ·rw[bw hj]at e1 e3
    rw[bw hk]at e2 e4;exact r.inj j k ys zs b e1 e2 e3 e4
 ·rcases aX.mp hb with rfl|hb
  ·exact⟨r.ext.free hn,_,hH⟩
  ·obtain⟨h1,o,h2⟩:=r.new b hb
   exact⟨h1,o,s _ _ h2⟩
 ·by_cases hj:i=j
  ·subst hj
   exact nomatch dD e
  ·rw[bw hj]at e⊢
   exact r.raw j w e
 ·obtain⟨A,dd⟩:=r.Uk
  have f:∀(j:Nat)(sl:Sl),(env.set i (Sl.own xs))[j]?=aa sl->i≠j->env[j]?=aa sl:=λj sl q hj=>by rwa [bw hj]at q
  refine⟨A,dd.to (λj nss q=>?_) (λj ys b q z=>?_) λj nss q x hx=>?_⟩
  ·by_cases hj:i=j
   ·subst hj
    exact nomatch dD q
   ·exact⟨f j _ q hj,by rw[bw hj]⟩
  ·by_cases hj:i=j
   ·subst hj
    have z':=dD z;cases z';exact .inr λhm=>by obtain⟨o,ho⟩:=(r.new a hm).2;rw[hn]at ho;cases ho
   ·rw[bw hj]at z
    exact .inl ⟨ys,f j _ q hj,z⟩
  ·obtain⟨q1,o,q2⟩:=dd.mem q x hx
   exact⟨bE _ q1,by rw[s x o q2,q2]⟩
def Rel.mut (r:Rel K g env σ H os){xs xs':AN}{O7:List V}(e:env[i]?=aa (.own xs))(hσ:σ[i]?=aa (aa (.ref a)))(ha:a∈os)(h:IsL K (g.P os) H xs' O7):
  Rel K g (env.set i (.own xs')) σ (upd H a (.lst O7)) os:=by
 have ex:Ext (g.P os) (g.P os) H (upd H a (.lst O7)):=⟨λ_ _ p _=>p,λb o p q=>by rw[aH (λz=>p.2 (by rw[z];exact ha))];exact q⟩
 refine⟨by simp[r.len],λb o q=>?_,λj d' e'=>?_,λj ys e'=>?_,λj k ys zs b e1 e2 e3 e4=>?_,λb hb=>?_,λj w e'=>?_,?_⟩
 ·rw[aH (λz=>by rw[z,(r.new a ha).1]at q;cases q)]
  exact r.ext b o q
 ·by_cases hj:i=j
  ·subst hj
   exact nomatch dD e'
  ·rw[bw hj]at e'
   obtain⟨v,h1,h2⟩:=r.val j d' e';show 'A'
 ·by_cases hj:i=j
  ·subst hj
   have e2:=dD e';cases e2;exact⟨a,O7,hσ,ha,aU,IsL.ext ex _ _ h⟩
  ·rw[bw hj]at e'
   obtain⟨b,ws,h1,h2,h3,h4⟩:=r.own j ys e';have hb:b≠a:=λz=>by subst z;exact hj (r.inj i j xs ys b e e' hσ h1)
   exact⟨b,ws,h1,h2,by rw[aH hb];exact h3,IsL.ext ex _ _ h4⟩
 ·have f:∀(j:Nat)(ys:AN),(env.set i (Sl.own xs'))[j]?=aa (.own ys)->∃ys',env[j]?=aa (.own ys'):=λj ys q=>by
   by_cases hj:i=j
   ·subst hj;exact⟨xs,e⟩
   ·rw[bw hj]at q;exact⟨ys,q⟩
  obtain⟨y1,f1⟩:=f j ys e1;obtain⟨y2,f2⟩:=f k zs e2;exact r.inj j k y1 y2 b f1 f2 e3 e4
 ·obtain⟨h1,o,h2⟩:=r.new b hb
  refine⟨h1,?_⟩
  by_cases z:b=a
  ·exact⟨_,by rw[z];exact aU⟩
  ·exact⟨o,by rw[aH z];exact h2⟩
 ·by_cases hj:i=j
  ·subst hj
   exact nomatch dD e'
  ·rw[bw hj]at e'
   exact r.raw j w e'
 ·obtain⟨A,dd⟩:=r.Uk
  refine⟨A,dd.to (λj nss q=>?_) (λj ys b q z=>?_) λj nss q x hx=>⟨(dd.mem q x hx).1,?_⟩⟩
  ·by_cases hj:i=j
   ·subst hj
    exact nomatch dD q
   ·rw[bw hj]at q
    exact⟨q,rfl⟩
  ·by_cases hj:i=j
   ·subst hj
    exact .inl ⟨xs,e,z⟩
   ·rw[bw hj]at q
    exact .inl ⟨ys,q,z⟩
  ·have hxa:x≠a:=λz=>dd.ow j nss i xs a q e hσ (by rw[<-z];exact hx)
   rw[aH hxa]
end
inductive Rg {α:Type} (K:ak) (E:Str->Hp->Prop) (f:DE->R α) (σ:St) (H:Hp) (post:Gh->List ae->α->Prop):Prop
 |mk (g:Gh) (env:DE) (os:List ae):Rel K g env σ H os->Good E g.H₀ (f env) (post g os)->Rg K E f σ H post
section
variable(K:ak)(E:Str->Hp->Prop)
def tD(f:DE->R D):TE:=λσ H Q=>Rg K E f σ H λg os d=>∀v H',bM H H'->Is K (g.P os) H' d v->Q v H'
def tB(f:DE->R D):TE:=λσ H Q=>Rg K E f σ H λg os d=>∀v H',bM H H'->Is K (λ_=>True) H' d v->Q v H'
def tF(f:DE->R AN):TE:=λσ H Q=>Rg K E f σ H λg os xs=>∀a vs H',bM H H'->H a=none->H' a=aa (.lst vs)->IsL K (g.P (a::os)) H' xs vs->Q (.ref a) H'
def tL(f:DE->R AN):TE:=λσ H Q=>Rg K E f σ H λg os xs=>∀a vs H',bM H H'->gS K H' a vs->IsL K (g.P os) H' xs vs->Q (.ref a) H'
def tT(f:DE->R Bool):TT:=λσ H Q=>Rg K E f σ H λg os b=>∀H',bM H H'->Q b H'
def Tc(f:DE->R AN):TA:=λσ H Q=>Rg K E f σ H λg os ds=>∀vs H',bM H H'->IsL K (g.P os) H' ds vs->Q vs H'
def Cf(f:DE->R AN):TA:=λσ H Q=>Rg K E f σ H λg os ds=>∀vs H',bM H H'->IsL K (λ_=>True) H' ds vs->Q vs H'
end
inductive Out where
 |nx (e:DE)|bk (e:DE)|ct (e:DE)|rt (d:D)|qZ (xs:AN)|Ko (nss:List Ap)|RZ (nss:List Ap)|Td (q:Int×Ap)|Te (c:Ct)
structure z9(H:Hp)(os:List ae)(H':Hp)(k9:List ae):Prop where
 own:∀a∈k9,a∈os\/H a=none
 grow:∀a,H' a=none->H a=none
 keep:∀a o,a∉os->H a=aa o->H' a=aa o
def z9.refl (H:Hp)(os:List ae):z9 H os H os:=⟨λ_ h=>.inl h,λ_ h=>h,λ_ _ _ h=>h⟩
def z9.same {H H':Hp}(s:bM H H')(os:List ae):z9 H os H' os:=⟨λ_ h=>.inl h,λ_ h=>s.free h,λ_ _ _ h=>s _ _ h⟩
def z9.trans {H H1 H2:Hp}{os os1 Y2:List ae}(a:z9 H os H1 os1)(b:z9 H1 os1 H2 Y2):z9 H os H2 Y2 where
 own:=λx h=>(b.own x h).elim (λz=>a.own x z) λz=>.inr (a.grow x z)
 grow:=λx h=>a.grow x (b.grow x h)
 keep:=λx o hn h=>b.keep x o (λz=>(a.own x z).elim hn λq=>by rw[h]at q;cases q) (a.keep x o hn h)
def z9.ext {g:Gh}{H H':Hp}{os k9:List ae}(s:z9 H os H' k9):Ext (g.P os) (g.P k9) H H':=
 ⟨λa o p h=>⟨p.1,λz=>(s.own a z).elim p.2 λq=>by rw[h]at q;cases q⟩,λa o p h=>s.keep a o p.2 h⟩
structure Ul(hd:List V->HO)(H₀ H:Hp)(a:ae)(as:List ae)(nss:List Ap):Prop where
 fr:∀b∈a::as,H₀ b=none
 nd:(a::as).Nodup
 len:as.length=nss.length
 ha:H a=aa (hd (as.map V.ref))
 it:∀(k:Nat)(b:ae)(ns:Ap),as[k]?=aa b->nss[k]?=aa ns->H b=aa (.lst (ns.map V.int))
def Ul.back {hd:List V->HO}{H₀ H1 H:Hp}{as:List ae}(d:Ul hd H1 H a as nss)(s:bM H₀ H1):Ul hd H₀ H a as nss:=⟨λb hb=>s.free (d.fr b hb),d.nd,d.len,d.ha,d.it⟩
abbrev adk:=Ul HO.lst
abbrev aks:=Ul HO.tup
structure akt(H₀ H:Hp)(a b:ae)(q:Int×Ap):Prop where
 fa:H₀ a=none
 fb:H₀ b=none
 ne:a≠b
 ha:H a=aa (.tup [.int q.1,.ref b])
 hb:H b=aa (.lst (q.2.map V.int))
def aku(K:ak)(H₀ H:Hp)(a:ae)(c:Ct):Prop:=∃as,(∀x∈a::as,H₀ x=none)/\Dp K H (a::as) a as c
def akv(K:ak)(g:Gh)(H:Hp)(a:ae)(ds:AN)(ns:Ap):Prop:=∃b m ws,g.H₀ a=none/\g.H₀ b=none/\g.H₀ m=none/\a≠b/\a≠m/\m≠b/\H a=aa (.tup [.ref m,.ref b])/\H b=aa (.lst (ns.map V.int))/\H m=aa (.lst ws)/\IsL K (g.P [a,b,m]) H ds ws
def akw(K:ak)(g:Gh)(H:Hp)(a:ae):Ct->Prop
 |.tv ds ns=>akv K g H a ds ns
 |c=>aku K g.H₀ H a c
noncomputable def jU(K:ak)(g:Gh)(H:Hp)(os:List ae)(De:Ends):Out->Prop
 |.nx e=>∀σ' H' k9,Rel K g e σ' H' k9->z9 H os H' k9->De.nx σ' H'
 |.bk e=>∀σ' H' k9,Rel K g e σ' H' k9->z9 H os H' k9->De.bk σ' H'
 |.ct e=>∀σ' H' k9,Rel K g e σ' H' k9->z9 H os H' k9->De.ct σ' H'
 |.rt d=>∀v H',bM g.H₀ H'->Is K (g.P []) H' d v->De.rt v H'
 |.qZ xs=>∀a vs H',bM g.H₀ H'->g.H₀ a=none->H' a=aa (.lst vs)->IsL K (g.P [a]) H' xs vs->De.rt (.ref a) H'
 |.RZ nss=>∀(a:ae)(as:List ae)(H':Hp),bM g.H₀ H'->aks g.H₀ H' a as nss->De.rt (.ref a) H'
 |.Td q=>∀(a b:ae)(H':Hp),bM g.H₀ H'->akt g.H₀ H' a b q->De.rt (.ref a) H'
 |.Ko nss=>∀(a:ae)(as:List ae)(H':Hp),bM g.H₀ H'->adk g.H₀ H' a as nss->De.rt (.ref a) H'
 |.Te c=>∀(a:ae)(H':Hp),bM g.H₀ H'->akw K g H' a c->De.rt (.ref a) H'
def jU.step {K:ak}{g:Gh}{H H1:Hp}{os os1:List ae}{De:Ends}(s:z9 H os H1 os1):∀{o:Out},jU K g H os De o->jU K g H1 os1 De o
 |.nx e,h=>λσ' H' k9 r z=>h σ' H' k9 r (s.trans z)
 |.bk e,h=>λσ' H' k9 r z=>h σ' H' k9 r (s.trans z)
 |.ct e,h=>λσ' H' k9 r z=>h σ' H' k9 r (s.trans z)
 |.rt d,h=>h
 |.qZ xs,h=>h
 |.RZ xs,h=>h
 |.Td xs,h=>h
 |.Ko xs,h=>h
 |.Te xs,h=>h
def tS(K:ak)(E:Str->Hp->Prop)(f:DE->R Out):TS:=λDe σ H=>Rg K E f σ H λg os=>jU K g H os De
section
variable{X:Cx}{E:Str->Hp->Prop}{pos:Pos}
def imp{t t':TE}(h:PE X e t)(w:∀σ H Q,t' σ H Q->t σ H Q):PE X e t':=λpins s σ H Q I q=>h pins s σ H Q I (w σ H Q q)
def adl{t t':TT}(h:PT X e t)(w:∀σ H Q,t' σ H Q->t σ H Q):PT X e t':=λpins s σ H Q I q=>h pins s σ H Q I (w σ H Q q)
def ag6{t t':TT}(h:PW X e t)(w:∀σ H Q,t' σ H Q->t σ H Q):PW X e t':=λwh pins s σ H Q I q=>h wh pins s σ H Q I (w σ H Q q)
def Um{e:List ao}{t t':TA}(h:PA X e t)(w:∀σ H Q,t' σ H Q->t σ H Q):PA X e t':=λpos pins s σ H Q I q=>h pos pins s σ H Q I (w σ H Q q)
def wb{e:aw}{t t':TS}(h:PS X e t)(w:∀De σ H,t' De σ H->t De σ H):PS X e t':=λpins s σ H Q I q=>h pins s σ H Q I (w Q σ H q)
def abA{e:List aw}{t t':TS}(h:zL X e t)(w:∀De σ H,t' De σ H->t De σ H):zL X e t':=λpins s σ H Q I q=>h pins s σ H Q I (w Q σ H q)
def cZ(i:Nat)(env:DE):R D:=match env[i]? with
 |some (.val d)=>.ok d
 |_=>.bad
def dT(t:Y0):D:=.tup [.int t.1,.int t.2.1,.lst (t.2.2.map .int)]
noncomputable def bZ(i:Nat)(env:DE):R D:=match env[i]? with
 |some (.val d)=>.ok d
 |some (.own xs)=>.ok (.lst xs)
 |some (.deep (.ls nss))=>.ok (.lst (nss.map λns=>.lst (ns.map .int)))
 |some (.deep (.tp nss))=>.ok (.tup (nss.map λns=>.lst (ns.map .int)))
 |some (.deep (.tq n ns))=>.ok (.tup [.int n,.lst (ns.map .int)])
 |some (.deep (.tr ts))=>.ok (.lst (ts.map dT))
 |some (.deep (.tf h nss))=>.ok (.tup [.int h,.lst (nss.map λns=>.lst (ns.map .int))])
 |some (.deep (.tv ds ns))=>.ok (.tup [.lst ds,.lst (ns.map .int)])
 |_=>.bad
theorem fg{K:ak}{P:ae->Prop}:∀(ns:Ap),IsL K P H (ns.map D.int) (ns.map V.int)
 |[]=>rfl
 |n::ns=>⟨_,_,rfl,rfl,fg ns⟩
theorem AM{K:ak}:∀{as:List ae}{nss:List Ap},as.length=nss.length->(∀(k:Nat)(b:ae)(ns:Ap),as[k]?=aa b->nss[k]?=aa ns->b∈os/\H b=aa (.lst (ns.map V.int)))->IsL K (λ_=>True) H (nss.map λns=>.lst (ns.map D.int)) (as.map V.ref)
 |[],[],_,_=>rfl
 |[],_::_,h,_=>by simp at h
 |_::_,[],h,_=>by simp at h
 |a::as,ns::nss,h,hi=>⟨_,_,rfl,⟨a,_,rfl,.inl ⟨trivial,.inl (hi 0 a ns rfl rfl).2⟩,fg ns⟩,AM (by simpa using h) λk b ms e1 e2=>hi (k+1) b ms e1 e2⟩
theorem Kq{K:ak}{P:ae->Prop}{as:List ae}(hp:∀x∈as,P x):∀{ts:List Y0}{vs:List V},vs.length=ts.length->(∀(k:Nat)(t:Y0)(v:V),ts[k]?=aa t->vs[k]?=aa v->TrI H as t v)->IsL K P H (ts.map dT) vs
 |[],[],_,_=>rfl
 |[],_::_,h,_=>by simp at h
 |_::_,[],h,_=>by simp at h
 |t::ts,v::vs,h,hi=>by obtain⟨b,c,rfl,h1,h2,h3,h4⟩:=hi 0 t v rfl rfl;exact⟨_,_,rfl,⟨b,_,rfl,.inl ⟨hp b h1,.inl h3⟩,⟨_,_,rfl,rfl,⟨_,_,rfl,rfl,⟨_,_,rfl,⟨c,_,rfl,.inl ⟨hp c h2,.inl h4⟩,fg t.2.2⟩,rfl⟩⟩⟩⟩,Kq hp (by simpa using h) λk t v e1 e2=>hi (k+1) t v e1 e2⟩
def mV(i:Nat)(env:DE):R AN:=match env[i]? with
 |some (.val (.lst xs))=>.ok xs
 |some (.own xs)=>.ok xs
 |_=>.bad
def nD(i:Nat)(hN:autoParam (X.N[i]?=aa x) wS)(hv:autoParam (Dm X.env.scope x) xL)(hd:autoParam ((x==("__debug__":Str))=false) xI)
  (hcd:autoParam ((x==("__classdict__":Str))=false) xI):PE X (.Name x pos) (tD X.K E (cZ i)):=imp (mZ hN hv hd hcd) λσ H Q ⟨g,env,os,r,m⟩=>by
 unfold cZ at m;cases e:env[i]? with
 |none=>rw[e]at m;show '5'
 |some sl=>
  cases sl with
  |own xs=>rw[e]at m;show '5'
  |val d=>
   rw[e]at m;obtain⟨v,h1,h2⟩:=r.val i d e;exact⟨v,h1,m v H (bM.refl H) h2⟩
  |_=>rw[e]at m;show '5'
def nB(i:Nat)(hN:autoParam (X.N[i]?=aa x) wS)(hv:autoParam (Dm X.env.scope x) xL)(hd:autoParam ((x==("__debug__":Str))=false) xI)
  (hcd:autoParam ((x==("__classdict__":Str))=false) xI):PE X (.Name x pos) (tB X.K E (bZ i)):=imp (mZ hN hv hd hcd) λσ H Q ⟨g,env,os,r,m⟩=>by
 unfold bZ at m;cases e:env[i]? with
 |none=>rw[e]at m;show '5'
 |some sl=>
  cases sl with
  |own xs=>
   rw[e]at m;obtain⟨a,vs,h1,_,h3,h4⟩:=r.own i xs e;exact⟨.ref a,h1,m _ H (bM.refl H) ⟨a,vs,rfl,.inl ⟨trivial,.inl h3⟩,h4.weak⟩⟩
  |deep c=>
   obtain⟨A,dd⟩:=r.Uk;obtain⟨a,as,_,h1,h3⟩:=dd.dp i c e;cases c with
   |ls nss=>
    rw[e]at m;exact⟨.ref a,h1,m _ H (bM.refl H) ⟨a,_,rfl,.inl ⟨trivial,.inl h3.ha⟩,AM h3.len h3.it⟩⟩
   |tp nss=>
    rw[e]at m;have h4:GY HO.tup H os a as nss:=h3;exact⟨.ref a,h1,m _ H (bM.refl H) ⟨a,_,rfl,.inl ⟨trivial,.inl h4.ha⟩,AM h4.len h4.it⟩⟩
   |dk ks=>rw[e]at m;show '5'
   |tq n ns=>
    rw[e]at m;obtain⟨b,_,_,_,_,h4,h5⟩:=h3;exact⟨.ref a,h1,m _ H (bM.refl H) ⟨a,_,rfl,.inl ⟨trivial,.inl h4⟩,⟨_,_,rfl,rfl,⟨_,_,rfl,⟨b,_,rfl,.inl ⟨trivial,.inl h5⟩,fg ns⟩,rfl⟩⟩⟩⟩
   |tr ts=>
    rw[e]at m;have h4:DpR H os a as ts:=h3;obtain⟨vs,q1,q2,q3⟩:=h4.at_
    exact⟨.ref a,h1,m _ H (bM.refl H) ⟨a,_,rfl,.inl ⟨trivial,.inl q1⟩,Kq (λ_ _=>trivial) q2 q3⟩⟩
   |tf k nss=>
    rw[e]at m;obtain⟨b,bs,_,_,_,h4,h5⟩:=h3;exact⟨.ref a,h1,m _ H (bM.refl H) ⟨a,_,rfl,.inl ⟨trivial,.inl h4⟩,⟨_,_,rfl,rfl,⟨_,_,rfl,⟨b,_,rfl,.inl ⟨trivial,.inl h5.ha⟩,AM h5.len h5.it⟩,rfl⟩⟩⟩⟩
   |tv ds ns=>
    rw[e]at m;obtain⟨b,c,ws,_,_,_,_,_,h4,h5,h6,h7⟩:=h3;exact⟨.ref a,h1,m _ H (bM.refl H) ⟨a,_,rfl,.inl ⟨trivial,.inl h4⟩,⟨_,_,rfl,⟨c,ws,rfl,.inl ⟨trivial,.inl h6⟩,IsL.ext ⟨λ_ _ _ _=>trivial,λ_ _ _ q=>q⟩ _ _ h7⟩,⟨_,_,rfl,⟨b,_,rfl,.inl ⟨trivial,.inl h5⟩,fg ns⟩,rfl⟩⟩⟩⟩
  |val d=>
   rw[e]at m;obtain⟨v,h1,h2⟩:=r.val i d e;exact⟨v,h1,m v H (bM.refl H) h2.weak⟩
  |_=>rw[e]at m;show '5'
def nL(i:Nat)(hN:autoParam (X.N[i]?=aa x) wS)(hv:autoParam (Dm X.env.scope x) xL)(hd:autoParam ((x==("__debug__":Str))=false) xI)
  (hcd:autoParam ((x==("__classdict__":Str))=false) xI):PE X (.Name x pos) (tL X.K E (mV i)):=imp (mZ hN hv hd hcd) λσ H Q ⟨g,env,os,r,m⟩=>by
 unfold mV at m;cases e:env[i]? with
 |none=>rw[e]at m;show '5'
 |some sl=>
  cases sl with
  |own xs=>
   rw[e]at m;obtain⟨a,vs,h1,_,h3,h4⟩:=r.own i xs e;exact⟨.ref a,h1,m _ _ H (bM.refl H) (gS.of h3) h4⟩
  |val d=>
   cases d with
   |lst xs=>
    rw[e]at m;obtain⟨v,h1,a,vs,rfl,h3,h4⟩:=r.val i _ e;exact⟨_,h1,m _ _ H (bM.refl H) h3.sq h4⟩
   |_=>rw[e]at m;show '5'
  |_=>rw[e]at m;show '5'
def cI{i j}:PE X (.Constant (.int i) j pos) (tD X.K E λ_=>.ok (.int i)):=imp m7 λσ H Q ⟨g,env,os,r,m⟩=>m _ H (bM.refl H) rfl
def MG{i j}:PE X (.Constant (.bool i) j pos) (tD X.K E λ_=>.ok (.bl i)):=imp agp λσ H Q ⟨g,env,os,r,m⟩=>m _ H (bM.refl H) rfl
def cN{j}:PE X (.Constant .none j pos) (tD X.K E λ_=>.ok .non):=imp Tz λσ H Q ⟨g,env,os,r,m⟩=>m _ H (bM.refl H) rfl
def cS{i j}:PE X (.Constant (.str i) j pos) (tD X.K E λ_=>.ok (.str i)):=imp acN λσ H Q ⟨g,env,os,r,m⟩=>m _ H (bM.refl H) rfl
def PE.aW {f:DE->R D}(h:PE X e (tD X.K E f)):PE X e (tB X.K E f):=imp h λσ H Q ⟨g,env,os,r,m⟩=>⟨g,env,os,r,m.mono λd _ q v H' s i=>q v H' s i.weak⟩
def PE.iR {f:DE->R AN}(h:PE X e (tF X.K E f)):PE X e (tD X.K E λenv=>(f env).bind λxs=>.ok (.lst xs)):=imp h λσ H Q ⟨g,env,os,r,m⟩=>⟨g,env,os,r,m.bind.mono λd _ q a vs H' s hn hH i=>by refine q _ H' s ⟨a,vs,rfl,.inl ⟨r.fresh hn,.inl hH⟩,IsL.ext ⟨λb o p _=>⟨p.1,λz=>p.2 (bE _ z)⟩,λ_ _ _ q=>q⟩ _ _ i⟩⟩
def PE.uV {f:DE->R AN}(h:PE X e (tF X.K E f)):PE X e (tL X.K E f):=imp h λσ H Q ⟨g,env,os,r,m⟩=>⟨g,env,os,r,m.mono λd _ q a vs H' s hn hH i=>
 q _ vs H' s (gS.of hH) (IsL.ext ⟨λb o p _=>⟨p.1,λz=>p.2 (bE _ z)⟩,λ_ _ _ q=>q⟩ _ _ i)⟩
def D3:D->R AN
 |.lst xs=>.ok xs
 |_=>.bad
def PE.akx {f:DE->R D}(h:PE X e (tD X.K E f)):PE X e (tL X.K E λenv=>(f env).bind D3):=imp h λσ H Q ⟨g,env,os,r,m⟩=>⟨g,env,os,r,m.bind.mono λd _ q v H' s i=>by
 cases d with
 |lst xs=>
  obtain⟨a,vs,rfl,h3,h4⟩:=i;exact q a vs H' s h3.sq h4
 |_=>exact q.elim⟩
abbrev Tr:ae->Prop:=λ_=>True
def wc(X:Cx)(r:R2)(k:D->D->Option D):Prop:=∀x y d,k x y=aa d->∃z,toV d=aa z/\∀H v w (Q:VK),Is X.K Tr H x v->Is X.K Tr H y w->Q z H->r v w H Q
def cJ{op:Aw}{r:R2}{a b:ao}{fa fb:DE->R D}{k:D->D->Option D}(ho:B3 X (p8 op) r)(hk:wc X r k)(ha:PE X a (tB X.K E fa))(hb:PE X b (tB X.K E fb)):
  PE X (.BinOp a op b pos) (tD X.K E λenv=>(fa env).bind λx=>(fb env).bind λy=>R.of (k x y)):=
 imp (zN ho ha hb) λσ H Q ⟨g,env,os,r,m⟩=>⟨g,env,os,r,m.bind.mono λx _ m1 v H1 s1 i1=>⟨g,env,os,r.same s1,m1.bind.mono λy _ m2 w H2 s2 i2=>by obtain⟨d,e,q⟩:=m2.of;obtain⟨z,hz,hk⟩:=hk x y d e;exact hk H2 v w Q (i1.same s2) i2 (q z H2 (s1.trans s2) (Is.sc hz))⟩⟩
def MH{op:vL}{r:R2}{a b:ao}{fa fb:DE->R D}{k:D->D->Option D}(ho:B3 X (jf op) r)(hk:wc X r k)(ha:PE X a (tB X.K E fa))(hb:PE X b (tB X.K E fb))(hm:tK op b=false):
  PE X (.Compare a [op] [b] pos) (tD X.K E λenv=>(fa env).bind λx=>(fb env).bind λy=>R.of (k x y)):=
 imp (Yo ho ha hb hm) λσ H Q ⟨g,env,os,r,m⟩=>⟨g,env,os,r,m.bind.mono λx _ m1 v H1 s1 i1=>⟨g,env,os,r.same s1,m1.bind.mono λy _ m2 w H2 s2 i2=>by obtain⟨d,e,q⟩:=m2.of;obtain⟨z,hz,hk⟩:=hk x y d e;exact hk H2 v w Q (i1.same s2) i2 (q z H2 (s1.trans s2) (Is.sc hz))⟩⟩
def jk:D->R Bool
 |.bl b=>.ok b
 |_=>.bad
def cy{op:vL}{r:R2}{a b:ao}{fa fb:DE->R D}{k:D->D->Option D}(ho:B3 X (jf op) r)(hk:wc X r k)(ha:PE X a (tB X.K E fa))(hb:PE X b (tB X.K E fb))(hm:tK op b=false):
  PT X (.Compare a [op] [b] pos) (tT X.K E λenv=>(fa env).bind λx=>(fb env).bind λy=>(R.of (k x y)).bind jk):=
 adl (qY ho ha hb hm) λσ H Q ⟨g,env,os,r,m⟩=>⟨g,env,os,r,m.bind.mono λx _ m1 v H1 s1 i1=>⟨g,env,os,r.same s1,m1.bind.mono λy _ m2 w H2 s2 i2=>by
  obtain⟨d,e,q⟩:=m2.bind.of;obtain⟨z,hz,hk⟩:=hk x y d e;refine hk H2 v w _ (i1.same s2) i2 ?_;cases d with
  |bl b=>
   cases hz;exact⟨b,rfl,q H2 (s1.trans s2)⟩
  |_=>exact q.elim⟩⟩
def ag7(X:Cx)(r:V->Hp->VK->Prop)(k:D->Option D):Prop:=∀x d,k x=aa d->∃z,toV d=aa z/\∀H v (Q:VK),Is X.K Tr H x v->Q z H->r v H Q
def R0{op:UnaryOp}{r:V->Hp->VK->Prop}{a:ao}{fa:DE->R D}{k:D->Option D}(ho:UnR X (HY op) r)(hk:ag7 X r k)(ha:PE X a (tB X.K E fa)):
  PE X (.UnaryOp op a pos) (tD X.K E λenv=>(fa env).bind λx=>R.of (k x)):=
 imp (Og ho ha) λσ H Q ⟨g,env,os,r,m⟩=>⟨g,env,os,r,m.bind.mono λx _ m1 v H1 s1 i1=>by obtain⟨d,e,q⟩:=m1.of;obtain⟨z,hz,hk⟩:=hk x d e;exact hk H1 v Q i1 (q z H1 s1 (Is.sc hz))⟩
def kY:D->D->Option D
 |.int i,.int j=>aa (.int (i-j))
 |_,_=>none
def MI:D->D->Option D
 |.int i,.int j=> @ite _ ((-(2^64)<i/\i<2^64)\/(-(2^64)<j/\j<2^64)) (gB _) (aa (.int (i*j))) (none)
 |_,_=>none
def Cg:D->D->Option D
 |.int i,.int j=> @ite _ (0<j/\j<1073741824) (gB _) (aa (.int (i/j))) (none)
 |_,_=>none
def uW:D->D->Option D
 |.int i,.int j=> @ite _ (0<j) (gB _) (aa (.int (i%j))) (none)
 |_,_=>none
def zB:D->Option D
 |.int i=>aa (.int (-i))
 |_=>none
def R3:D->D->Option D
 |.int i,.int j=>aa (.bl (decide (i<j)))
 |_,_=>none
def kLe:D->D->Option D
 |.int i,.int j=>aa (.bl (decide (i<=j)))
 |_,_=>none
def Dt:D->D->Option D
 |.int i,.int j=>aa (.bl (decide (j<i)))
 |_,_=>none
def kGe:D->D->Option D
 |.int i,.int j=>aa (.bl (decide (j<=i)))
 |_,_=>none
def uX{g:Int->Int->V}{h:Int->Int->D}{k:D->D->Option D}(hg:∀i j,toV (h i j)=aa (g i j))(hk:∀x y d,k x y=aa d->∃i j,x=.int i/\y=.int j/\d=h i j):wc X (Mf g) k:=λx y d e=>by obtain⟨i,j,rfl,rfl,rfl⟩:=hk x y d e;refine⟨g i j,hg i j,λH v w Q h1 h2 q=>⟨i,j,h1,h2,q⟩⟩
def D4{C:Int->Int->Prop}{g:Int->Int->V}{h:Int->Int->D}{k:D->D->Option D}(hg:∀i j,toV (h i j)=aa (g i j))(hk:∀x y d,k x y=aa d->∃i j,x=.int i/\y=.int j/\C i j/\d=h i j):wc X (rI C g) k:=λx y d e=>by obtain⟨i,j,rfl,rfl,c,rfl⟩:=hk x y d e;refine⟨g i j,hg i j,λH v w Q h1 h2 q=>⟨i,j,h1,h2,c,q⟩⟩
def cW:wc X (Mf λi j=>.int (i-j)) kY:=uX (h:=λi j=>.int (i-j)) (λ_ _=>rfl) λx y d e=>by unfold kY at e;split at e<;>cases e;exact⟨_,_,rfl,rfl,rfl⟩
def uC:wc X (Mf λi j=>.bl (decide (i<j))) R3:=uX (h:=λi j=>.bl (decide (i<j))) (λ_ _=>rfl) λx y d e=>by unfold R3 at e;split at e<;>cases e;exact⟨_,_,rfl,rfl,rfl⟩
def adm:wc X (Mf λi j=>.bl (decide (i<=j))) kLe:=uX (h:=λi j=>.bl (decide (i<=j))) (λ_ _=>rfl) λx y d e=>by unfold kLe at e;split at e<;>cases e;exact⟨_,_,rfl,rfl,rfl⟩
def gP:wc X (Mf λi j=>.bl (decide (j<i))) Dt:=uX (h:=λi j=>.bl (decide (j<i))) (λ_ _=>rfl) λx y d e=>by unfold Dt at e;split at e<;>cases e;exact⟨_,_,rfl,rfl,rfl⟩
def adn:wc X (Mf λi j=>.bl (decide (j<=i))) kGe:=uX (h:=λi j=>.bl (decide (j<=i))) (λ_ _=>rfl) λx y d e=>by unfold kGe at e;split at e<;>cases e;exact⟨_,_,rfl,rfl,rfl⟩
def D5:wc X (rI Yi λi j=>.int (i*j)) MI:=D4 (h:=λi j=>.int (i*j)) (λ_ _=>rfl) λx y d e=>by
 unfold MI at e;split at e
 ·split at e
  ·rename_i i j c
   cases e;show 'H'
  ·cases e
 ·cases e
def q8:wc X (rI agE λi j=>.int (i/j)) Cg:=D4 (h:=λi j=>.int (i/j)) (λ_ _=>rfl) λx y d e=>by
 unfold Cg at e;split at e
 ·split at e
  ·rename_i i j c
   cases e;show 'H'
  ·cases e
 ·cases e
def jl:wc X (rI (λ_ j=>0<j) λi j=>.int (i%j)) uW:=D4 (h:=λi j=>.int (i%j)) (λ_ _=>rfl) λx y d e=>by
 unfold uW at e;split at e
 ·split at e
  ·rename_i i j c
   cases e;show 'H'
  ·cases e
 ·cases e
def kJ:ag7 X (rU λi=>.int (-i)) zB:=λx d e=>by unfold zB at e;split at e<;>cases e;exact⟨_,rfl,λH v Q h1 q=>⟨_,h1,q⟩⟩
def AO{a:ao}{f:DE->R Bool}(h:PT X a (tT X.K E f)):PT X (.UnaryOp .Not a pos) (tT X.K E λenv=>(f env).bind λb=>.ok (!b)):=
 adl (acP h) λσ H Q ⟨g,env,os,r,m⟩=>⟨g,env,os,r,m.bind.mono λb _ q H' s=>q H' s⟩
def AQ{a:ao}{f:DE->R Bool}(h:PT X a (tT X.K E f)):PW X (.BoolOp .And [a] pos) (tT X.K E f):=pw_and1 h
def Uo{a:ao}{f:DE->R Bool}(h:PT X a (tT X.K E f)):PW X (.BoolOp .Or [a] pos) (tT X.K E f):=pw_or1 h
def tV{a b:ao}{rest:List ao}{f k:DE->R Bool}(h:PT X a (tT X.K E f))(h2:PW X (.BoolOp .And (b::rest) pos) (tT X.K E k)):PW X (.BoolOp .And (a::b::rest) pos) (tT X.K E λenv=>(f env).bind λt=>if t=true then k env else .ok false):=
 ag6 (pw_and h h2) λσ H Q ⟨g,env,os,r,m⟩=>⟨g,env,os,r,m.bind.mono λt _ q H' s=>by
  cases t with
  |true=>show 'q'
  |false=>exact q H' s⟩
def Kr{a b:ao}{rest:List ao}{f k:DE->R Bool}(h:PT X a (tT X.K E f))(h2:PW X (.BoolOp .Or (b::rest) pos) (tT X.K E k)):PW X (.BoolOp .Or (a::b::rest) pos) (tT X.K E λenv=>(f env).bind λt=>if t=true then .ok true else k env):=
 ag6 (pw_or h h2) λσ H Q ⟨g,env,os,r,m⟩=>⟨g,env,os,r,m.bind.mono λt _ q H' s=>by
  cases t with
  |false=>show 'q'
  |true=>exact q H' s⟩
def ID{f:DE->R D}(h:PE X e (tB X.K E f))(he:autoParam (∀whole,isTrue e X.env whole=(do let v<-whole;yA e.pos;lE [v] (truthy v))) wT):PT X e (tT X.K E λenv=>(f env).bind jk):=
 adl (acO h he) λσ H Q ⟨g,env,os,r,m⟩=>⟨g,env,os,r,m.bind.mono λd _ q v H' s i=>by
  cases d with
  |bl b=>exact⟨b,i,q H' s⟩
  |_=>exact q.elim⟩
def ado{op}{a:ao}{f:DE->R D}(h:PE X a (tD X.K E f)):PE X (.BoolOp op [a] pos) (tD X.K E f):=acQ h
def Y3{a b:ao}{rest:List ao}{f k:DE->R D}(h:PE X a (tB X.K E f))(h2:PE X (.BoolOp .And (b::rest) pos) (tD X.K E k)):PE X (.BoolOp .And (a::b::rest) pos) (tD X.K E λenv=>(f env).bind λx=>(jk x).bind λt=>if t=true then k env else .ok (.bl false)):=
 imp (acR h h2) λσ H Q ⟨g,env,os,r,m⟩=>⟨g,env,os,r,m.bind.mono λd _ q v H' s i=>by
  cases d with
  |bl b=>
   refine⟨b,i,?_⟩;cases b with
   |true=>
    rw[if_pos rfl];exact⟨g,env,os,r.same s,Good.mono (show Good E g.H₀ (k env) _ from q) λb _ q2 v2 H2 s2 i2=>q2 v2 H2 (s.trans s2) i2⟩
   |false=>
    rw[if_neg iI];exact q _ H' s rfl
  |_=>exact q.elim⟩
def aky{a:ao}{f:DE->R D}(h:PE X a (tB X.K E f)):PE X (.UnaryOp .Not a pos) (tD X.K E λenv=>(f env).bind λx=>(jk x).bind λt=>.ok (.bl (!t))):=
 imp (acS h) λσ H Q ⟨g,env,os,r,m⟩=>⟨g,env,os,r,m.bind.mono λd _ q v H' s i=>by
  cases d with
  |bl b=>exact⟨b,i,q _ H' s rfl⟩
  |_=>exact q.elim⟩
def vIf{c a b:ao}{fc:DE->R Bool}{fa fb:DE->R D}(hc:PT X c (tT X.K E fc))(ha:PE X a (tD X.K E fa))(hb:PE X b (tD X.K E fb)):PE X (.IfExp c a b pos) (tD X.K E λenv=>(fc env).bind λt=>if t=true then fa env else fb env):=
 imp (TH hc ha hb) λσ H Q ⟨g,env,os,r,m⟩=>⟨g,env,os,r,m.bind.mono λt _ q H' s=>by
  cases t with
  |true=>
   rw[if_pos rfl];exact⟨g,env,os,r.same s,Good.mono (show Good E g.H₀ (fa env) _ from q) λb _ q2 v2 H2 s2 i2=>q2 v2 H2 (s.trans s2) i2⟩
  |false=>
   rw[if_neg iI];exact⟨g,env,os,r.same s,Good.mono (show Good E g.H₀ (fb env) _ from q) λb _ q2 v2 H2 s2 i2=>q2 v2 H2 (s.trans s2) i2⟩⟩
def cL:PA X [] (Tc X.K E λ_=>.ok []):=Um bQ λσ H Q ⟨g,env,os,r,m⟩=>m [] H (bM.refl H) rfl
def cG:PA X [] (Cf X.K E λ_=>.ok []):=Um bQ λσ H Q ⟨g,env,os,r,m⟩=>m [] H (bM.refl H) rfl
def aJ{e:ao}{es:List ao}{f:DE->R D}{k:DE->R AN}(ha:PE X e (tD X.K E f))(hr:PA X es (Tc X.K E k))(hs:autoParam (ar (e::es) X.env=(false,az e X.env)::ar es X.env) wS):
  PA X (e::es) (Tc X.K E λenv=>(f env).bind λx=>(k env).bind λxs=>.ok (x::xs)):=
 Um (bc ha hr hs) λσ H Q ⟨g,env,os,r,m⟩=>⟨g,env,os,r,m.bind.mono λx _ m1 v H1 s1 i1=>⟨g,env,os,r.same s1,m1.bind.mono λxs _ m2 vs H2 s2 i2=>m2 (v::vs) H2 (s1.trans s2) (.cons (i1.same s2) i2)⟩⟩
def aQ{e:ao}{es:List ao}{f:DE->R D}{k:DE->R AN}(ha:PE X e (tB X.K E f))(hr:PA X es (Cf X.K E k))(hs:autoParam (ar (e::es) X.env=(false,az e X.env)::ar es X.env) wS):
  PA X (e::es) (Cf X.K E λenv=>(f env).bind λx=>(k env).bind λxs=>.ok (x::xs)):=
 Um (bc ha hr hs) λσ H Q ⟨g,env,os,r,m⟩=>⟨g,env,os,r,m.bind.mono λx _ m1 v H1 s1 i1=>⟨g,env,os,r.same s1,m1.bind.mono λxs _ m2 vs H2 s2 i2=>m2 (v::vs) H2 (s1.trans s2) (.cons (i1.same s2) i2)⟩⟩
def fit{α:Type}(xs:List α):R (List α):= @ite _ (xs.length<=aK) (gB _) (.ok xs) (.bad)
theorem Good.fit {α:Type}{H₀:Hp}{xs:List α}{p:List α->Prop}(h:Good E H₀ (fit xs) p):xs.length<=aK/\p xs:=by
 unfold DL.fit at h;split at h
 ·rename_i c
  exact⟨c,h⟩
 ·show '6'
def Ks{K:ak}{g:Gh}{H H1:Hp}{vs:List V}{p:ae}(r:Rel K g env σ H os)(s1:bM H H1)(hp:H1 p=none)(i:IsL K (g.P os) H1 ds vs):
  bM H (upd H1 p (.lst vs))/\H p=none/\upd H1 p (.lst vs) p=aa (.lst vs)/\IsL K (g.P (p::os)) (upd H1 p (.lst vs)) ds vs:=
 ⟨s1.trans (bY hp _),s1.free hp,aU,IsL.ext ((r.same s1).apart (bY hp _) hp) _ _ i⟩
def q9{es:List ao}{f:DE->R AN}(h:PA X es (Tc X.K E f)):PE X (.List es pos) (tF X.K E λenv=>(f env).bind fit):=
 imp (Ca h) λσ H Q ⟨g,env,os,r,m⟩=>⟨g,env,os,r,m.bind.mono λds _ m1 vs H1 s1 i1=>by obtain⟨z,q⟩:=m1.fit;refine⟨by rw[i1.length];exact z,λp hp=>?_⟩;obtain⟨a1,a2,a3,a4⟩:=Ks r s1 hp i1;exact q p vs _ a1 a2 a3 a4⟩
def MJ{es:List ao}{x1}{f:DE->R AN}(h:PA X es (Tc X.K E f)):PE X (.Tuple es x1 pos) (tD X.K E λenv=>((f env).bind fit).bind λds=>.ok (.tup ds)):=
 imp (B9 h) λσ H Q ⟨g,env,os,r,m⟩=>⟨g,env,os,r,m.bind.bind.mono λds _ m1 vs H1 s1 i1=>by obtain⟨z,q⟩:=m1.fit;refine⟨by rw[i1.length];exact z,λp hp=>?_⟩;exact q _ _ (s1.trans (bY hp _)) ⟨p,vs,rfl,.inl ⟨(r.same s1).fresh hp,.inl aU⟩,i1.same (bY hp _)⟩⟩
end
section
variable{X:Cx}{E:Str->Hp->Prop}{pos:Pos}
def ag8(K:ak):R2:=λx y H Q=>∃l b xs zs,x=.ref l/\y=.ref b/\gS K H l xs/\gS K H b zs/\xs.length+zs.length<=aK/\∀p,H p=none->Q (.ref p) (upd H p (.lst (xs++zs)))
def Y4:B3 X (p8 .Add) (ag8 X.K):=by
 show 'b';obtain⟨l,b,xs,zs,rfl,rfl,hH,hB,hz,q⟩:=h;cases rx;cases ry;obtain⟨its,r,p1,z1⟩:=I.list hH;obtain⟨its2,r2,p2,z2⟩:=I.list hB;have hl:=r.length;have hl2:=r2.length;obtain⟨o1,n1,e1,c1,d1,t1⟩:=p1;obtain⟨o2,n2,e2,c2,d2,t2⟩:=p2;obtain⟨oc,od,oda,S9⟩:=o1;obtain⟨oc2,od2,akz,akA⟩:=o2;have c1':oc=_:=c1;have d1':od=_:=d1;have t1':oda=_:=t1;have c2':oc2=_:=c2;have d2':od2=_:=d2;have t2':akz=_:=t2;subst c1' d1' t1' c2' d2' t2';have ea:its.toArray++its2.toArray=(its++its2).toArray:=by simp
 refine concat_meets ⟨_,e1,rfl⟩ ⟨_,e2,rfl⟩ noFill_list_add seq_list_add PySem.F.slot_list_add PySem.F.entry_list_add (PySem.F.args_list_add_2 _ _) (list_addW l b its.toArray its2.toArray n1 n2 none none S9 akA (by rw[cO,cO];lia)) ⟨e1,e2,?_⟩;rw[ea];exact⟨.ref _,_,I.agW (t':=s.toks) (r.append r2) (by rw[br];lia),rfl,q _ I.fresh⟩
def Gr{a b:ao}{fa fb:DE->R AN}(ha:PE X a (tL X.K E fa))(hb:PE X b (tL X.K E fb)):PE X (.BinOp a .Add b pos) (tF X.K E λenv=>(fa env).bind λx=>(fb env).bind λy=>fit (x++y)):=
 imp (zN Y4 ha hb) λσ H Q ⟨g,env,os,r,m⟩=>⟨g,env,os,r,m.bind.mono λx _ m1 a1 v1 H1 s1 q1 i1=>⟨g,env,os,r.same s1,m1.bind.mono λy _ m2 a2 v2 H2 s2 q2 i2=>by obtain⟨z,q⟩:=m2.fit;rw[br]at z;refine⟨a1,a2,v1,v2,rfl,rfl,s2.seq q1,q2,by rw[i1.length,i2.length];exact z,λp hp=>?_⟩;obtain⟨b1,b2,b3,b4⟩:=Ks r (s1.trans s2) hp ((i1.same s2).app i2);exact q p _ _ b1 b2 b3 b4⟩⟩
def tO(K:ak)(E:Str->Hp->Prop)(f:DE->R (Option Int)):TO:=λσ H Q=>Rg K E f σ H λg os o=>∀H',bM H H'->Q o H'
def ag9{e:Option ao}{t t':TO}(h:L2.PO X e t)(w:∀σ H Q,t' σ H Q->t σ H Q):L2.PO X e t':=λpins s σ H Q I q=>h pins s σ H Q I (w σ H Q q)
def Tf:L2.PO X none (tO X.K E λ_=>.ok none):=ag9 OD λσ H Q ⟨g,env,os,r,m⟩=>m H (bM.refl H)
def Mg:D->R (Option Int)
 |.int i=>.ok (aa i)
 |_=>.bad
def AR{f:DE->R D}(h:PE X e (tB X.K E f)):L2.PO X (aa e) (tO X.K E λenv=>(f env).bind Mg):=ag9 (OE h) λσ H Q ⟨g,env,os,r,m⟩=>⟨g,env,os,r,m.bind.mono λd _ q v H' s i=>by
 cases d with
 |int k=>exact⟨k,i,q H' s⟩
 |_=>exact q.elim⟩
def cut{α:Type}(xs:List α)(lo hi:Option Int):List α:=(xs.drop (HT.EI xs.length 0 lo)).take (HT.EI xs.length xs.length hi-HT.EI xs.length 0 lo)
theorem IsL.cut {K:ak}{P:ae->Prop}{vs:List V}(h:IsL K P H ds vs)(lo hi:Option Int):IsL K P H (DL.cut ds lo hi) (Gm vs lo hi):=by unfold DL.cut Gm;rw[h.length];exact(h.drop _).take _
def pS{lo hi:Option ao}{f:DE->R AN}{fl fh:DE->R (Option Int)}{p2:Pos}(he:PE X e (tL X.K E f))(hl:L2.PO X lo (tO X.K E fl))(hh:L2.PO X hi (tO X.K E fh)):
  PE X (.Subscript e (.Slice lo hi none p2) pos) (tF X.K E λenv=>(f env).bind λx=>(fl env).bind λl=>(fh env).bind λh=>.ok (cut x l h)):=
 imp (Kd OQ he hl hh) λσ H Q ⟨g,env,os,r,m⟩=>⟨g,env,os,r,m.bind.mono λx _ m1 a1 v1 H1 s1 q1 i1=>⟨g,env,os,r.same s1,m1.bind.mono λl _ m2 H2 s2=>⟨g,env,os,r.same (s1.trans s2),m2.bind.mono λh _ m3 H3 s3=>by refine⟨a1,v1,rfl,s3.seq (s2.seq q1),λp hp=>?_⟩;obtain⟨b1,b2,b3,b4⟩:=Ks r (s1.trans (s2.trans s3)) hp (((i1.same s2).same s3).cut l h);exact m3 p _ _ b1 b2 b3 b4⟩⟩⟩
theorem IsL.mO {K:ak}{P:ae->Prop}{vs:List V}{i:Int}{d:D}(h:IsL K P H ds vs)(e:L2.mO ds i=aa d):∃v,L2.mO vs i=aa v/\Is K P H d v:=by
 unfold L2.mO at e⊢;rw[h.length];cases q:Ao ds.length i with
 |none=>rw[q]at e;cases e
 |some j=>
  rw[q]at e;exact h.get e
def Aa:D->D->R D
 |.lst xs,.int i=>R.of (mO xs i)
 |.tup xs,.int i=>R.of (mO xs i)
 |_,_=>.bad
def Ci{a b:ao}{fa fb:DE->R D}(ha:PE X a (tD X.K E fa))(hb:PE X b (tB X.K E fb))(hs:autoParam (DZ b) wP):PE X (.Subscript a b pos) (tD X.K E λenv=>(fa env).bind λx=>(fb env).bind λy=>Aa x y):=
 imp (pK ac8 ha hb hs) λσ H Q ⟨g,env,os,r,m⟩=>⟨g,env,os,r,m.bind.mono λx _ m1 v H1 s1 i1=>⟨g,env,os,r.same s1,m1.bind.mono λy _ m2 w H2 s2 i2=>by
  unfold Aa at m2;split at m2
  ·rename_i xs i _ _
   obtain⟨d,e,q⟩:=m2.of;have i1':=i1.same s2;obtain⟨a,vs,rfl,h1,h2⟩:=i1';obtain⟨z,e2,h3⟩:=IsL.mO h2 e;exact .inl ⟨a,vs,i,z,rfl,i2,h1.sq,e2,q z H2 (s1.trans s2) h3⟩
  ·rename_i xs i _ _
   obtain⟨d,e,q⟩:=m2.of;have i1':=i1.same s2;obtain⟨a,vs,rfl,h1,h2⟩:=i1';obtain⟨z,e2,h3⟩:=IsL.mO h2 e;exact .inr (.inl ⟨a,vs,i,z,rfl,i2,h1.sq,e2,q z H2 (s1.trans s2) h3⟩)
  ·exact m2.elim⟩⟩
def yP(xs:AN):D->R D
 |.int i=>R.of (mO xs i)
 |_=>.bad
def Ab{a b:ao}{fa:DE->R AN}{fb:DE->R D}(ha:PE X a (tL X.K E fa))(hb:PE X b (tB X.K E fb))(hs:autoParam (DZ b) wP):PE X (.Subscript a b pos) (tD X.K E λenv=>(fa env).bind λx=>(fb env).bind λy=>yP x y):=
 imp (pK jj ha hb hs) λσ H Q ⟨g,env,os,r,m⟩=>⟨g,env,os,r,m.bind.mono λx _ m1 a1 v1 H1 s1 q1 i1=>⟨g,env,os,r.same s1,m1.bind.mono λy _ m2 w H2 s2 i2=>by
  unfold yP at m2;split at m2
  ·rename_i i _
   obtain⟨d,e,q⟩:=m2.of;obtain⟨z,e2,h3⟩:=(i1.same s2).mO e;exact⟨a1,v1,i,z,rfl,i2,s2.seq q1,e2,q z H2 (s1.trans s2) h3⟩
  ·exact m2.elim⟩⟩
def Y5(X:Cx)(r:List V->Hp->VK->Prop)(k:AN->Option D):Prop:=∀ds d,k ds=aa d->∃z,toV d=aa z/\∀H vs (Q:VK),IsL X.K Tr H ds vs->Q z H->r vs H Q
def ik{id:String}{p:Pos}{e:ao}{es:List ao}{f:DE->R AN}{r:List V->Hp->VK->Prop}{k:AN->Option D}(hc:zM X (.builtin id) r)(hk:Y5 X r k)(hm:X.mg x=none)(hv:fV x=aa (.builtin id))(ha:PA X (e::es) (Cf X.K E f))
  (hg:autoParam (Gl X x) wS)(hn:autoParam (x≠"__name__") xI)(hdb:autoParam ((x==("__debug__":Str))=false) xI)
  (he:autoParam (ar (e::es) X.env=(false,az e X.env)::ar es X.env) wS)(hpl:autoParam ((bF pos (ar es X.env)).any (·.1)=false) wS):PE X (.Call (.Name x p) (e::es) [] pos) (tD X.K E λenv=>(f env).bind λds=>R.of (k ds)):=
 imp (qA hc hg hm hv ha hn hdb he hpl) λσ H Q ⟨g,env,os,r,m⟩=>⟨g,env,os,r,m.bind.mono λds _ m1 vs H1 s1 i1=>by obtain⟨d,e,q⟩:=m1.of;obtain⟨z,hz,hk⟩:=hk ds d e;exact hk H1 vs Q i1 (q z H1 s1 (Is.sc hz))⟩
def IsL.IE {K:ak}{P:ae->Prop}{d:D}{vs:List V}(h:IsL K P H [d] vs):∃v,vs=[v]/\Is K P H d v:=by obtain⟨v,r,rfl,p,q⟩:=h;have q':r=[]:=q;subst q';exact⟨v,rfl,p⟩
def IsL.adp {K:ak}{P:ae->Prop}{d d2:D}{vs:List V}(h:IsL K P H [d,d2] vs):∃v w,vs=[v,w]/\Is K P H d v/\Is K P H d2 w:=by obtain⟨v,r,rfl,p,q⟩:=h;obtain⟨w,rfl,p2⟩:=IsL.IE q;exact⟨v,w,rfl,p,p2⟩
def we:AN->Option D
 |[.lst xs]=>aa (.int xs.length)
 |[.tup xs]=>aa (.int xs.length)
 |[.str x]=> @ite _ (x.length<=aK) (gB _) (aa (.int x.length)) (none)
 |_=>none
def jm:Y5 X (λxs H Q=>∃x n,xs=[x]/\agI X.K x H n/\Q (.int n) H) we:=λds d e=>by
 unfold we at e;split at e
 ·rename_i xs
  cases e;show 'N';obtain⟨v,rfl,a,ws,rfl,h1,h2⟩:=IsL.IE i;exact⟨_,_,rfl,.inl ⟨ws,h1.sq,(IsL.length h2).symm⟩,q⟩
 ·rename_i xs
  cases e;show 'N';obtain⟨v,rfl,a,ws,rfl,h1,h2⟩:=IsL.IE i;exact⟨_,_,rfl,.inr ⟨ws,h1.sq,(IsL.length h2).symm⟩,q⟩
 ·split at e
  ·rename_i x c
   cases e;show 'N';obtain⟨v,rfl,i2⟩:=IsL.IE i;have i':v=.str x:=i2;subst i';exact⟨_,_,rfl,⟨c,rfl⟩,q⟩
  ·cases e
 ·cases e
def zC:AN->Option D
 |[.int i]=>aa (.int (if i<0 then-i else i))
 |_=>none
def lG:Y5 X (λxs H Q=>∃i,xs=[.int i]/\Q (.int (if i<0 then-i else i)) H) zC:=λds d e=>by
 unfold zC at e;split at e
 ·rename_i i
  cases e;show '~';obtain⟨v,rfl,h1⟩:=IsL.IE h;have h':v=.int i:=h1;subst h';exact⟨i,rfl,q⟩
 ·cases e
def O8:AN->Option D
 |[.int i,.int j]=>aa (.int (if j>i then j else i))
 |_=>none
def Up:Y5 X (λxs H Q=>∃i j,xs=[.int i,.int j]/\Q (.int (if j>i then j else i)) H) O8:=λds d e=>by
 unfold O8 at e;split at e
 ·rename_i i j
  cases e;show '~';obtain⟨v,w,rfl,h1,h2⟩:=IsL.adp h;have h':v=.int i:=h1;have Uq:w=.int j:=h2;subst h' Uq;exact⟨i,j,rfl,q⟩
 ·cases e
def G0{p:Pos}{a:ao}{f:DE->R AN}(hm:X.mg "list"=none)(ha:PE X a (tL X.K E f))(hg:autoParam (Gl X "list") wS)
  (he:autoParam (ar [a] X.env=(false,az a X.env)::ar [] X.env) wS)(hpl:autoParam ((bF pos (ar [] X.env)).any (·.1)=false) wS):PE X (.Call (.Name "list" p) [a] [] pos) (tF X.K E f):=
 imp (yI vV hg hm (by decide +kernel) (bc ha bQ he) (by decide) (by decide) he hpl) λσ H Q ⟨g,env,os,r,m⟩=>⟨g,env,os,r,m.mono λx _ m1 a1 v1 H1 s1 q1 i1=>
  ⟨a1,v1,rfl,.inl q1,λp hp=>by obtain⟨b1,b2,b3,b4⟩:=Ks r s1 hp i1;exact m1 p _ _ b1 b2 b3 b4⟩⟩
def O9(K:ak)(xc:Str->ah)(m:AN->R D):Sp:=λvs H Q E=>∃P ds,IsL K P H ds vs/\(match m ds with
 |.ok d=>∀v H',bM H H'->Is K (λa=>P a\/H a=none) H' d v->Q v H'
 |.err c=>∀H',bM H H'->E (xc c) none H'
 |.bad=>False)
noncomputable def Tg(K:ak)(xc:Str->ah)(m:AN->R AN):Sp:=λvs H Q E=>∃P ds,IsL K P H ds vs/\(match m ds with
 |.ok xs=>∀a ws H',bM H H'->H a=none->H' a=aa (.lst ws)->IsL K (λb=>(P b\/H b=none)/\b≠a) H' xs ws->Q (.ref a) H'
 |.err c=>∀H',bM H H'->E (xc c) none H'
 |.bad=>False)
def EX(xc:Str->ah)(E:Str->Hp->Prop):XK:=λc _ H'=>∃n,c=xc n/\E n H'
def rS{E:XK}:Passes tw X E:=λ_ _ _ _ _ _ _ h=>h.elim
variable{CX:RM}{k:Nat}{fa:ae}{fd:aL}{ps:List Str}{xc:Str->ah}{x:Str}{p:Pos}{e:ao}{es:List ao}{f:DE->R AN}
def fD{m:AN->R D}(F:fW X.prog X.w X.K X.mg X.base CX k fa fd ps (O9 X.K xc m))(hm:X.mg x=aa (.ref fa))(hk:kG X.K (.ref fa)=true)(hb:Binds X.K fd ps [])(hr:cP k X.A)(hx:Passes CX X (EX xc E))
  (ha:PA X (e::es) (Tc X.K E f))(hg:autoParam (Gl X x) wS)(hdb:autoParam ((x==("__debug__":Str))=false) xI)(he:autoParam (ar (e::es) X.env=(false,az e X.env)::ar es X.env) wS)(hpl:autoParam ((bF pos (ar es X.env)).any (·.1)=false) wS):
  PE X (.Call (.Name x p) (e::es) [] pos) (tD X.K E λenv=>(f env).bind m):=
 imp (jQ F hr hg hm hk hb .nil hx ha hdb he hpl) λσ H Q ⟨g,env,os,r,q⟩=>⟨g,env,os,r,q.bind.mono λds _ q1 vs H1 s1 i1=>by
  show 'Ì';rw[bg];show '9';cases em:m ds with
  |ok d=>
   rw[em]at q1;intro v H' s' i';exact q1 v H' (s1.trans s') (Is.ext ⟨λa o pa _=>pa.elim (λz=>z) λz=>(r.same s1).fresh z,λ_ _ _ z=>z⟩ _ _ i')
  |err c=>
   rw[em]at q1;intro H' s';show 'f'
  |bad=>rw[em]at q1;exact q1⟩
def fB{m:AN->R D}(F:fW X.prog X.w X.K X.mg X.base CX k fa fd ps (O9 X.K xc m))(hsc:∀ds d,m ds=.ok d->∃z,toV d=aa z)(hm:X.mg x=aa (.ref fa))(hk:kG X.K (.ref fa)=true)(hb:Binds X.K fd ps [])(hr:cP k X.A)(hx:Passes CX X (EX xc E))
  (ha:PA X (e::es) (Cf X.K E f))(hg:autoParam (Gl X x) wS)(hdb:autoParam ((x==("__debug__":Str))=false) xI)(he:autoParam (ar (e::es) X.env=(false,az e X.env)::ar es X.env) wS)(hpl:autoParam ((bF pos (ar es X.env)).any (·.1)=false) wS):
  PE X (.Call (.Name x p) (e::es) [] pos) (tD X.K E λenv=>(f env).bind m):=
 imp (jQ F hr hg hm hk hb .nil hx ha hdb he hpl) λσ H Q ⟨g,env,os,r,q⟩=>⟨g,env,os,r,q.bind.mono λds _ q1 vs H1 s1 i1=>by
  show 'Ì';rw[bg];refine⟨Tr,ds,i1,?_⟩;cases em:m ds with
  |ok d=>
   rw[em]at q1;intro v H' s' i';obtain⟨z,hz⟩:=hsc ds d em;have e2:=Is.abz hz i';subst e2;exact q1 _ H' (s1.trans s') (Is.sc hz)
  |err c=>
   rw[em]at q1;intro H' s';show 'f'
  |bad=>rw[em]at q1;exact q1⟩
def fF{m:AN->R AN}(F:fW X.prog X.w X.K X.mg X.base CX k fa fd ps (Tg X.K xc m))(hm:X.mg x=aa (.ref fa))(hk:kG X.K (.ref fa)=true)(hb:Binds X.K fd ps [])(hr:cP k X.A)(hx:Passes CX X (EX xc E))
  (ha:PA X (e::es) (Tc X.K E f))(hg:autoParam (Gl X x) wS)(hdb:autoParam ((x==("__debug__":Str))=false) xI)(he:autoParam (ar (e::es) X.env=(false,az e X.env)::ar es X.env) wS)(hpl:autoParam ((bF pos (ar es X.env)).any (·.1)=false) wS):
  PE X (.Call (.Name x p) (e::es) [] pos) (tF X.K E λenv=>(f env).bind m):=
 imp (jQ F hr hg hm hk hb .nil hx ha hdb he hpl) λσ H Q ⟨g,env,os,r,q⟩=>⟨g,env,os,r,q.bind.mono λds _ q1 vs H1 s1 i1=>by
  show 'Ë';rw[bg];show '9';cases em:m ds with
  |ok d=>
   rw[em]at q1;show '*';show 'h'
  |err c=>
   rw[em]at q1;intro H' s';show 'f'
  |bad=>rw[em]at q1;exact q1⟩
theorem scs{K:ak}{P P':ae->Prop}:∀{ds:AN}{vs:List V},(∀d∈ds,∃z,toV d=aa z)->IsL K P H ds vs->IsL K P' H ds vs
 |[],_,_,h=>h
 |d::ds,_,hs,⟨v,r,e,p,q⟩=>by obtain⟨z,hz⟩:=hs d (by simp);have e2:=Is.abz hz p;exact⟨v,r,e,by rw[e2];exact Is.sc hz,scs (λd hd=>hs d (by simp[hd])) q⟩
def fFB{m:AN->R AN}(F:fW X.prog X.w X.K X.mg X.base CX k fa fd ps (Tg X.K xc m))(hsc:∀ds xs,m ds=.ok xs->∀d∈xs,∃z,toV d=aa z)(hm:X.mg x=aa (.ref fa))(hk:kG X.K (.ref fa)=true)(hb:Binds X.K fd ps [])(hr:cP k X.A)(hx:Passes CX X (EX xc E))
  (ha:PA X (e::es) (Cf X.K E f))(hg:autoParam (Gl X x) wS)(hdb:autoParam ((x==("__debug__":Str))=false) xI)(he:autoParam (ar (e::es) X.env=(false,az e X.env)::ar es X.env) wS)(hpl:autoParam ((bF pos (ar es X.env)).any (·.1)=false) wS):
  PE X (.Call (.Name x p) (e::es) [] pos) (tF X.K E λenv=>(f env).bind m):=
 imp (jQ F hr hg hm hk hb .nil hx ha hdb he hpl) λσ H Q ⟨g,env,os,r,q⟩=>⟨g,env,os,r,q.bind.mono λds _ q1 vs H1 s1 i1=>by
  show 'Ë';rw[bg];refine⟨Tr,ds,i1,?_⟩;cases em:m ds with
  |ok d=>
   rw[em]at q1;show '*';exact q1 a ws H' (s1.trans s') (s1.free hn) hH (scs (hsc ds d em) i')
  |err c=>
   rw[em]at q1;intro H' s';show 'f'
  |bad=>rw[em]at q1;exact q1⟩
end
def bV(r:R Out)(k:DE->R Out):R Out:=r.bind λo=>match o with
 |.nx e=>k e
 |o=>.ok o
noncomputable def iS(b:D->DE->R Out):AN->DE->R Out
 |[],e=>.ok (.nx e)
 |x::xs,e=>(b x e).bind λo=>match o with
  |.nx e'=>iS b xs e'
  |.ct e'=>iS b xs e'
  |.bk e'=>.ok (.nx e')
  |.rt d=>.ok (.rt d)
  |.qZ ys=>.ok (.qZ ys)
  |.Te ys=>.ok (.Te ys)
  |.RZ ys=>.ok (.RZ ys)
  |.Td ys=>.ok (.Td ys)
  |.Ko ys=>.ok (.Ko ys)
noncomputable def uD(c:DE->R Bool)(b:DE->R Out):Nat->DE->R Out
 |0,_=>.bad
 |n+1,e=>(c e).bind λt=>if t=true then(b e).bind λo=>match o with
  |.nx e'=>uD c b n e'
  |.ct e'=>uD c b n e'
  |.bk e'=>.ok (.nx e')
  |.rt d=>.ok (.rt d)
  |.qZ ys=>.ok (.qZ ys)
  |.Te ys=>.ok (.Te ys)
  |.RZ ys=>.ok (.RZ ys)
  |.Td ys=>.ok (.Td ys)
  |.Ko ys=>.ok (.Ko ys)else .ok (.nx e)
section
variable{X:Cx}{E:Str->Hp->Prop}{pos:Pos}
def iT:zL X [] (tS X.K E λe=>.ok (.nx e)):=abA tN λDe σ H ⟨g,env,os,r,m⟩=>m σ H os r (.refl H os)
def bh{st:aw}{rest:List aw}{f k:DE->R Out}(h1:PS X st (tS X.K E f))(h2:zL X rest (tS X.K E k)):zL X (st::rest) (tS X.K E λe=>bV (f e) k):=
 abA (bz h1 h2) λDe σ H ⟨g,env,os,r,m⟩=>⟨g,env,os,r,(show Good E g.H₀ ((f env).bind _) _ from m).bind.mono λo _ q=>by
  cases o with
  |nx e'=>exact λσ' H' k9 r' z=>⟨g,e',k9,r',Good.mono (show Good E g.H₀ (k e') _ from q) λo _ q=>jU.step z q⟩
  |bk e'=>exact q
  |ct e'=>exact q
  |rt d=>exact q
  |qZ xs=>exact q
  |Te xs=>exact q
  |RZ xs=>exact q
  |Td xs=>exact q
  |Ko xs=>exact q⟩
def bU{st:aw}{f:DE->R Out}(h1:PS X st (tS X.K E f)):zL X [st] (tS X.K E f):=fz h1
def abB{f:DE->R D}(he:PE X e (tB X.K E f))(hs:autoParam (iH e none pos.line X.env=bj false) wS):PS X (.Expr e pos) (tS X.K E λenv=>(f env).bind λ_=>.ok (.nx env)):=
 wb (kD he hs) λDe σ H ⟨g,env,os,r,m⟩=>⟨g,env,os,r,m.bind.mono λd _ q v H' s i=>q σ H' os (r.same s) (.same s os)⟩
def aha{g:Gh}{K:ak}{d:D}{v:V}(h:Is K (g.P os) H d v):Is K (g.P []) H d v:=Is.ext ⟨λ_ _ p _=>⟨p.1,by simp⟩,λ_ _ _ q=>q⟩ _ _ h
def gY{f:DE->R D}(he:PE X e (tD X.K E f)):PS X (.Return (aa e) pos) (tS X.K E λenv=>(f env).bind λd=>.ok (.rt d)):=
 wb (uA he) λDe σ H ⟨g,env,os,r,m⟩=>⟨g,env,os,r,m.bind.mono λd _ q v H' s i=>q v H' (r.ext.trans s) (aha i)⟩
def jD{f:DE->R AN}(he:PE X e (tF X.K E f)):PS X (.Return (aa e) pos) (tS X.K E λenv=>(f env).bind λd=>.ok (.qZ d)):=
 wb (uA he) λDe σ H ⟨g,env,os,r,m⟩=>⟨g,env,os,r,m.bind.mono λxs _ q a vs H' s hn hH i=>
  q a vs H' (r.ext.trans s) (r.ext.free hn) hH (IsL.ext ⟨λb o p _=>⟨p.1,λz=>p.2 (by simp at z;simp[z])⟩,λ_ _ _ q=>q⟩ _ _ i)⟩
def ownAt(i:Nat)(env:DE):R AN:=match env[i]? with
 |some (.own xs)=>.ok xs
 |_=>.bad
theorem Good.own {H₀:Hp}{p:AN->Prop}(h:Good E H₀ (ownAt i env) p):∃xs,env[i]?=aa (.own xs)/\p xs:=by
 unfold ownAt at h;split at h
 ·rename_i xs e
  exact⟨xs,e,h⟩
 ·show '6'
def G1(i:Nat){p:Pos}(hN:autoParam (X.N[i]?=aa x) wS)(hv:autoParam (Dm X.env.scope x) xL)(hd:autoParam ((x==("__debug__":Str))=false) xI)
  (hcd:autoParam ((x==("__classdict__":Str))=false) xI):PS X (.Return (aa (.Name x p)) pos) (tS X.K E λenv=>(ownAt i env).bind λxs=>.ok (.qZ xs)):=
 wb (uA (mZ hN hv hd hcd)) λDe σ H ⟨g,env,os,r,m⟩=>by obtain⟨xs,e,q⟩:=m.bind.own;show 'C';exact⟨.ref a,h1,q a vs H r.ext (r.new a h2).1 h3 (IsL.ext ⟨λb o p _=>⟨p.1,λz=>p.2 (by simp at z;rw[z];exact h2)⟩,λ_ _ _ q=>q⟩ _ _ h4)⟩
def uE{c:ao}{a b:List aw}{fc:DE->R Bool}{fa fb:DE->R Out}(hc:PT X c (tT X.K E fc))(ha:zL X a (tS X.K E fa))(hb:zL X b (tS X.K E fb)):PS X (.If c a b pos) (tS X.K E λenv=>(fc env).bind λt=>if t=true then fa env else fb env):=
 wb (C1 hc ha hb) λDe σ H ⟨g,env,os,r,m⟩=>⟨g,env,os,r,m.bind.mono λt _ q H' s=>by
  cases t with
  |true=>
   rw[if_pos rfl];exact⟨g,env,os,r.same s,Good.mono (show Good E g.H₀ (fa env) _ from q) λo _ q2=>jU.step (.same s os) q2⟩
  |false=>
   rw[if_neg iI];exact⟨g,env,os,r.same s,Good.mono (show Good E g.H₀ (fb env) _ from q) λo _ q2=>jU.step (.same s os) q2⟩⟩
def jZ(i:Nat){f:DE->R D}{pos':Pos}(he:PE X e (tD X.K E f))(hN:X.N.Nodup)(hi:autoParam (X.N[i]?=aa x) wS)(hx:autoParam (Loc X.env.scope x) xL)(hs:autoParam (iH e (aa (.Name x pos')) pos.line X.env=bj false) wS)
  (hf:autoParam (X.fn x=true\/X.env.scope.names.lookup x=aa .local) xL):PS X (.Assign [.Name x pos'] e pos) (tS X.K E λenv=>(f env).bind λd=>.ok (.nx (env.set i (.val d)))):=
 wb (iP hN hi hx he hs hf) λDe σ H ⟨g,env,os,r,m⟩=>⟨g,env,os,r,m.bind.mono λd _ q v H' s h=>q _ H' os ((r.same s).set i h) (.same s os)⟩
def z9.new {H H':Hp}(s:bM H H')(hn:H a=none):z9 H os H' (a::os):=
 ⟨λb hb=>(aX.mp hb).elim (λz=>.inr (by rw[z];exact hn)) .inl,λ_ h=>s.free h,λ_ _ _ h=>s _ _ h⟩
def xR(i:Nat){f:DE->R AN}{pos':Pos}(he:PE X e (tF X.K E f))(hN:X.N.Nodup)(hi:autoParam (X.N[i]?=aa x) wS)(hx:autoParam (Loc X.env.scope x) xL)(hs:autoParam (iH e (aa (.Name x pos')) pos.line X.env=bj false) wS)
  (hf:autoParam (X.fn x=true\/X.env.scope.names.lookup x=aa .local) xL):PS X (.Assign [.Name x pos'] e pos) (tS X.K E λenv=>(f env).bind λd=>.ok (.nx (env.set i (.own d)))):=
 wb (iP hN hi hx he hs hf) λDe σ H ⟨g,env,os,r,m⟩=>⟨g,env,os,r,m.bind.mono λd _ q a vs H' s hn hH h=>q _ H' (a::os) (r.akq s i hn hH h) (.new s hn)⟩
def z9.mut {o:HO}(ha:a∈os):z9 H os (upd H a o) os:=
 ⟨λb hb=>.inl hb,λb h=>by
  by_cases z:b=a
  ·subst z;rw[aU]at h;cases h
  ·rw[aH z]at h;exact h,λb u hb h=>by rw[aH (λz=>hb (by rw[z];exact ha))];exact h⟩
def Gi(i:Nat)(env:DE):DE:=match env[i]? with
 |some (.own xs)=>env.set i (.val (.lst xs))
 |_=>env
def akB(i:Nat){f:DE->R D}{p apos cU:Pos}(he:PE X e (tD X.K E f))(hN:autoParam (X.N[i]?=aa x) wS)(hv:autoParam (Dm X.env.scope x) xL)(hd:autoParam ((x==("__debug__":Str))=false) xI)
  (hcd:autoParam ((x==("__classdict__":Str))=false) xI)
  (hbase:autoParam (jP (.Name x p) "append" X.env (az (.Name x p) X.env)=az (.Name x p) X.env) wS)
  (hfew:autoParam (((bF cU (ar [e] X.env)).all (λx=> !x.1)&&(nc cU (ng [] X.env)).all (λx=>x.1.isSome)
   &&decide ([e].length+([]:List gX).length+(if([]:List gX).isEmpty then 0 else 1)<30))=true) wS)
  (hline:autoParam ((apos.endLine==cU.line)=true) wS)(hst:autoParam (ar [e] X.env=(false,az e X.env)::ar [] X.env) wS)(hplain:autoParam ((bF cU (ar [] X.env)).any (·.1)=false) wS)
  (hs:autoParam (iH (.Call (.Attribute (.Name x p) "append" apos) [e] [] cU) none pos.line X.env=bj false) wS):
  PS X (.Expr (.Call (.Attribute (.Name x p) "append" apos) [e] [] cU) pos) (tS X.K E λenv=>(ownAt i env).bind λxs=>(f env).bind λd=> @ite _ (xs.length<aK) (gB _) (.ok (.nx (env.set i (.own (xs++[d]))))) (.bad)):=
 wb (kD (AF nj yQ yR kI (mZ hN hv hd hcd) (bc he bQ hst) hbase hfew hline hst hplain) hs) λDe σ H ⟨g,env,os,r,m⟩=>by
  obtain⟨xs,e,m1⟩:=m.bind.own;show 'C';refine⟨.ref a,h1,.inl ⟨rfl,vs,gS.of h3⟩,g,env,os,r,m1.bind.mono λd _ q v H' s hi=>?_⟩;split at q
  ·rename_i c
   refine⟨a,vs,v,rfl,rfl,s _ _ h3,by rw[h4.length];exact c,?_⟩;exact q σ _ os ((r.same s).mut e h1 h2 ((h4.same s).app (.one hi))) ((z9.same s os).trans (.mut h2))
  ·show 'Z'
def akC(i:Nat){p apos cU:Pos}(hN:autoParam (X.N[i]?=aa x) wS)(hv:autoParam (Dm X.env.scope x) xL)(hd:autoParam ((x==("__debug__":Str))=false) xI)
  (hcd:autoParam ((x==("__classdict__":Str))=false) xI)
  (hbase:autoParam (jP (.Name x p) "pop" X.env (az (.Name x p) X.env)=az (.Name x p) X.env) wS)(hline:autoParam ((apos.endLine==cU.line)=true) wS)
  (hs:autoParam (iH (.Call (.Attribute (.Name x p) "pop" apos) [] [] cU) none pos.line X.env=bj false) wS):
  PS X (.Expr (.Call (.Attribute (.Name x p) "pop" apos) [] [] cU) pos) (tS X.K E λenv=>(ownAt i env).bind λxs=>if 0<xs.length then .ok (.nx (env.set i (.own xs.dropLast)))else .bad):=
 wb (kD (Iw nj Y6 Y7 Ud (mZ hN hv hd hcd) hbase hline) hs) λDe σ H ⟨g,env,os,r,m⟩=>by
  obtain⟨xs,e,m1⟩:=m.bind.own;show 'C';split at m1
  ·rename_i c
   have hl:=h4.length;refine⟨.ref a,h1,.inl ⟨rfl,vs,gS.of h3⟩,a,vs,vs[vs.length-1],rfl,rfl,h3,by rw[aP (by lia)],?_⟩;refine m1 σ _ os (r.mut e h1 h2 ?_) (.mut h2);rw[IF,IF,hl];exact h4.take _
  ·exact m1.elim
def akD(i:Nat){f:DE->R AN}{p apos cU:Pos}(he:PE X e (tF X.K E f))(hN:autoParam (X.N[i]?=aa x) wS)(hv:autoParam (Dm X.env.scope x) xL)(hd:autoParam ((x==("__debug__":Str))=false) xI)
  (hcd:autoParam ((x==("__classdict__":Str))=false) xI)
  (hbase:autoParam (jP (.Name x p) "extend" X.env (az (.Name x p) X.env)=az (.Name x p) X.env) wS)
  (hfew:autoParam (((bF cU (ar [e] X.env)).all (λx=> !x.1)&&(nc cU (ng [] X.env)).all (λx=>x.1.isSome)
   &&decide ([e].length+([]:List gX).length+(if([]:List gX).isEmpty then 0 else 1)<30))=true) wS)
  (hline:autoParam ((apos.endLine==cU.line)=true) wS)(hst:autoParam (ar [e] X.env=(false,az e X.env)::ar [] X.env) wS)(hplain:autoParam ((bF cU (ar [] X.env)).any (·.1)=false) wS)
  (hs:autoParam (iH (.Call (.Attribute (.Name x p) "extend" apos) [e] [] cU) none pos.line X.env=bj false) wS):
  PS X (.Expr (.Call (.Attribute (.Name x p) "extend" apos) [e] [] cU) pos) (tS X.K E λenv=>(ownAt i env).bind λxs=>(f env).bind λys=> @ite _ (xs.length+ys.length<=aK) (gB _) (.ok (.nx (env.set i (.own (xs++ys))))) (.bad)):=
 wb (kD (AF nj PySem.F.slot_list_extend PySem.F.type_list_extend RQ (mZ hN hv hd hcd) (bc he bQ hst) hbase hfew hline hst hplain) hs) λDe σ H ⟨g,env,os,r,m⟩=>by
  obtain⟨xs,e,m1⟩:=m.bind.own;show 'C';refine⟨.ref a,h1,.inl ⟨rfl,vs,gS.of h3⟩,g,env,os,r,m1.bind.mono λys _ q b ws H' s hn hH hi=>?_⟩;split at q
  ·rename_i c
   refine⟨a,b,vs,ws,rfl,rfl,s _ _ h3,hH,by rw[h4.length,hi.length];exact c,?_⟩;have ER:IsL X.K (g.P os) H' ys ws:=IsL.ext ⟨λb o p _=>⟨p.1,λz=>p.2 (bE _ z)⟩,λ_ _ _ q=>q⟩ _ _ hi;exact q σ _ os ((r.same s).mut e h1 h2 ((h4.same s).app ER)) ((z9.same s os).trans (.mut h2))
  ·show 'Z'
def adq(i:Nat){ek e:ao}{fk f:DE->R D}{p tp:Pos}(hk:PE X ek (tB X.K E fk))(he:PE X e (tD X.K E f))(hN:autoParam (X.N[i]?=aa x) wS)(hv:autoParam (Dm X.env.scope x) xL)(hd:autoParam ((x==("__debug__":Str))=false) xI)
  (hcd:autoParam ((x==("__classdict__":Str))=false) xI)
  (ha:autoParam (∀v,p6 (.Subscript (.Name x p) ek tp) X.env v=(do
   let ov<-lE [v] (az (.Name x p) X.env);let iv<-lE [v,ov] (az ek X.env)
   yA tp
   lE [v,ov,iv] (DP ov iv v)
   release [v,ov,iv] [])) wT)
  (hs:autoParam (Ob [.Subscript (.Name x p) ek tp] e pos.line X.env=bj false) wS)(hw:autoParam (Oc [.Subscript (.Name x p) ek tp] e X.env=bj none) wS)
  (h1:autoParam ((jg [.Subscript (.Name x p) ek tp] X.env).map (·.2)=[p6 (.Subscript (.Name x p) ek tp) X.env]) wS):
  PS X (.Assign [.Subscript (.Name x p) ek tp] e pos) (tS X.K E λenv=>(f env).bind λd=>(ownAt i env).bind λxs=>(fk env).bind λkd=>match kd with
   |.int j=>(match Ao xs.length j with
    |some n=>.ok (.nx (env.set i (.own (xs.set n d))))
    |none=>.bad)
   |_=>.bad):=
 wb (Mq he (Mp (mZ hN hv hd hcd) hk set_list ha) hs hw h1) λDe σ H ⟨g,env,os,r,m⟩=>⟨g,env,os,r,m.bind.mono λd _ m1 v H1 s1 i1=>by
  obtain⟨xs,e,m2⟩:=m1.bind.own;obtain⟨a,vs,h1,h2,h3,h4⟩:=(r.same s1).own i xs e;refine⟨.ref a,h1,g,env,os,r.same s1,m2.bind.mono λkd _ m3 w H2 s2 i2=>?_⟩;cases kd with
  |int j=>
   cases q:Ao xs.length j with
   |none=>
    simp only [q]at m3;exact m3.elim
   |some n=>
    simp only [q]at m3;refine⟨a,vs,j,n,rfl,i2,s2 _ _ h3,by rw[h4.length];exact q,?_⟩;exact m3 σ _ os ((r.same (s1.trans s2)).mut e h1 h2 ((h4.same s2).set n (i1.same s2))) ((z9.same (s1.trans s2) os).trans (.mut h2))
  |_=>exact m3.elim⟩
def akE(i:Nat){op:Aw}{h:Int->Int->Int}{f:DE->R D}{pos':Pos}(ho:PIp X op (ipI h))(he:PE X e (tB X.K E f))(hN:X.N.Nodup)(hi:autoParam (X.N[i]?=aa x) wS)(hx:autoParam (Loc X.env.scope x) xL)
  (hf:autoParam (X.fn x=true\/X.env.scope.names.lookup x=aa .local) xL):
  PS X (.AugAssign (.Name x pos') op e pos) (tS X.K E λenv=>(cZ i env).bind λa=>(f env).bind λb=>match a,b with
   |.int u,.int w=>.ok (.nx (env.set i (.val (.int (h u w)))))
   |_,_=>.bad):=
 wb (Mr hN hi hx he ho hf) λDe σ H ⟨g,env,os,r,m⟩=>by
  dsimp only [cZ]at m;cases q:env[i]? with
  |none=>rw[q]at m;show '5'
  |some sl=>
   cases sl with
   |val a=>
    rw[q]at m;obtain⟨v,h1,h2⟩:=r.val i a q;have m':Good E g.H₀ ((f env).bind _) _:=m;refine⟨v,h1,g,env,os,r,m'.bind.mono λb _ m2 w H' s i2=>?_⟩;cases a with
    |int u=>
     cases b with
     |int w'=>exact⟨u,w',h2,i2,m2 _ H' os ((r.same s).set i rfl) (.same s os)⟩
     |_=>show 'Ê'
    |_=>show 'Ê'
   |_=>rw[q]at m;show '5'
def Yl(K:ak)(P:ae->Prop)(J:It)(H:Hp)(xs:AN):Prop:=
 ∀(i:Nat)(H':Hp)(P':ae->Prop),Ext P P' H H'->(∀d,xs[i]?=aa d->J.go i H'/\∀x H'',J.yld i H' x H''->bM H' H''/\Is K (λa=>P' a\/H' a=none) H'' d x)/\(xs.length=i->J.stop i H')
def tI(K:ak)(E:Str->Hp->Prop)(f:DE->R AN):TI:=λσ H Rr=>Rg K E f σ H λg os xs=>∀J H1,bM H H1->Yl K (g.P os) J H1 xs->Rr J H1
def Ur{tg e:ao}{t t':TI}(h:PI X tg e t)(w:∀σ H Q,t' σ H Q->t σ H Q):PI X tg e t':=λpins s σ H Q I q=>h pins s σ H Q I (w σ H Q q)
def Yls(K:ak)(P:ae->Prop)(J:It)(H:Hp)(xs:AN):Prop:=
 ∀(i:Nat)(H':Hp)(P':ae->Prop),bM H H'->Ext P P' H H'->(∀d,xs[i]?=aa d->J.go i H'/\∀x H'',J.yld i H' x H''->bM H' H''/\Is K (λa=>P' a\/H' a=none) H'' d x)/\(xs.length=i->J.stop i H')
def tIS(K:ak)(E:Str->Hp->Prop)(f:DE->R AN):TI:=λσ H Rr=>Rg K E f σ H λg os xs=>∀J H1,bM H H1->Yls K (g.P os) J H1 xs->Rr J H1
def Us{tg e:ao}{f:DE->R AN}(h:PI X tg e (tI X.K E f)):PI X tg e (tIS X.K E f):=Ur h λσ H Q ⟨g,env,os,r,m⟩=>⟨g,env,os,r,m.mono λxs _ q J H1 s1 yl=>q J H1 s1 λi H' P' _ ex=>yl i H' P' ex⟩
def iLS{tg e:ao}{f:DE->R AN}(he:PE X e (tL X.K E f)):PI X tg e (tIS X.K E f):=
 Ur (DS he) λσ H Q ⟨g,env,os,r,m⟩=>⟨g,env,os,r,m.mono λxs _ q a vs H' s h1 h2=>by
  refine⟨a,rfl,⟨vs,h1⟩,q _ H' s λj H2 P' ss ex=>⟨λd hd=>?_,λhj=>?_⟩⟩
  ·obtain⟨x,hx,hi⟩:=(IsL.ext ex _ _ h2).get hd
   refine⟨⟨vs,x,ss.seq h1,hx⟩,λy H3 hy=>?_⟩;obtain⟨rfl,hy⟩:=hy;have e2:=hy vs (ss.seq h1);rw[hx]at e2;cases e2;show 'F'
  ·exact⟨vs,ss.seq h1,by rw[IsL.length h2];exact Az hj⟩⟩
def iL{tg e:ao}{f:DE->R D}(he:PE X e (tD X.K E f)):PI X tg e (tI X.K E λenv=>(f env).bind D3):=
 Ur (DS he) λσ H Q ⟨g,env,os,r,m⟩=>⟨g,env,os,r,m.bind.mono λd _ q v H' s i=>by
  cases d with
  |lst xs=>
   obtain⟨a,vs,rfl,h1,h2⟩:=i;refine⟨a,rfl,⟨vs,h1.sq⟩,q _ H' s λj H2 P' ex=>⟨λd hd=>?_,λhj=>?_⟩⟩
   ·obtain⟨x,hx,hi⟩:=(IsL.ext ex _ _ h2).get hd
    refine⟨⟨vs,x,(h1.ext ex).sq,hx⟩,λy H3 hy=>?_⟩;obtain⟨rfl,hy⟩:=hy;have e2:=hy vs (h1.ext ex).sq;rw[hx]at e2;cases e2;show 'F'
   ·exact⟨vs,(h1.ext ex).sq,by rw[IsL.length h2];exact Az hj⟩
  |_=>exact q.elim⟩
def xK(lo:Int)(n:Nat):AN:=(bG n).map λi=>.int (lo+(i:Nat))
def Ut:AN->R AN
 |[.int j]=> @ite _ (-(2^62)<=j/\j<2^62) (gB _) (.ok (xK 0 j.toNat)) (.bad)
 |_=>.bad
def R4:AN->R AN
 |[.int i,.int j]=> @ite _ (-(2^62)<=i/\i<2^62/\ -(2^62)<=j/\j<2^62) (gB _) (.ok (xK i (j-i).toNat)) (.bad)
 |_=>.bad
def Uu{K:ak}{P:ae->Prop}(lo:Int)(n:Nat):Yl K P (Itr lo n) H (xK lo n):=λi H' P' ex=>⟨λd hd=>by
 unfold xK at hd;rw[bK]at hd;have hi:i<n:=by
  cases q:(bG n)[i]? with
  |none=>rw[q]at hd;cases hd
  |some j=>simpa using(bH.mp q).1
 rw[List.getElem?_range hi]at hd;cases hd;refine⟨hi,λx H2 hy=>?_⟩;obtain⟨rfl,rfl⟩:=hy;exact⟨bM.refl _,rfl⟩,λh=>by
 unfold xK at h;exact Az (by simpa using h)⟩
def iR1{tg a:ao}{p:Pos}{f:DE->R AN}(hm:X.mg "range"=none)(ha:PA X [a] (Cf X.K E f))(hg:autoParam (Gl X "range") wS)(hs:autoParam (ar [a] X.env=[(false,az a X.env)]) wS):
  PI X tg (.Call (.Name "range" p) [a] [] pos) (tI X.K E λenv=>(f env).bind Ut):=
 Ur (RE hg hm ha hs) λσ H Q ⟨g,env,os,r,m⟩=>⟨g,env,os,r,m.bind.mono λds _ q vs H' s i=>by
  unfold Ut at q;split at q
  ·rename_i j _
   split at q
   ·rename_i c
    obtain⟨v,rfl,h1⟩:=IsL.IE i;have h':v=.int j:=h1;subst h';exact⟨j,rfl,c.1,c.2,q _ H' s (Uu 0 _)⟩
   ·show 'Z'
  ·exact q.elim⟩
def iR2{tg a b:ao}{p:Pos}{f:DE->R AN}(hm:X.mg "range"=none)(ha:PA X [a,b] (Cf X.K E f))(hg:autoParam (Gl X "range") wS)(hs:autoParam (ar [a,b] X.env=[(false,az a X.env),(false,az b X.env)]) wS)(hs2:autoParam (ar [b] X.env=[(false,az b X.env)]) wS):
  PI X tg (.Call (.Name "range" p) [a,b] [] pos) (tI X.K E λenv=>(f env).bind R4):=
 Ur (RG hg hm ha hs hs2) λσ H Q ⟨g,env,os,r,m⟩=>⟨g,env,os,r,m.bind.mono λds _ q vs H' s i=>by
  unfold R4 at q;split at q
  ·rename_i u j _
   split at q
   ·rename_i c
    obtain⟨v,w,rfl,h1,h2⟩:=IsL.adp i;have h':v=.int u:=h1;have Uq:w=.int j:=h2;subst h' Uq;exact⟨u,j,rfl,c,q _ H' s (Uu u _)⟩
   ·show 'Z'
  ·exact q.elim⟩
def tG(K:ak)(E:Str->Hp->Prop)(b:D->DE->R DE):TG:=λv σ H Q=>∃g env os d,Rel K g env σ H os/\Is K (g.P os) H d v/\Good E g.H₀ (b d env) λe'=>∀σ',Rel K g e' σ' H os->Q σ' H
def tGs(K:ak)(E:Str->Hp->Prop)(b:AN->DE->R DE):X9:=λvs σ H Q=>∃g env os ds,Rel K g env σ H os/\IsL K (g.P os) H ds vs/\Good E g.H₀ (b ds env) λe'=>∀σ',Rel K g e' σ' H os->Q σ' H
def ahb{t t':TG}(h:PG X e t)(w:∀v σ H Q,t' v σ H Q->t v σ H Q):PG X e t':=λpins s σ H v u Q I r q=>h pins s σ H v u Q I r (w v σ H Q q)
def abD{e:List ao}{t t':X9}(h:Oa X e t)(w:∀v σ H Q,t' v σ H Q->t v σ H Q):Oa X e t':=λpins s σ H v u Q I r q=>h pins s σ H v u Q I r (w v σ H Q q)
def gN(i:Nat)(hN:X.N.Nodup)(hi:autoParam (X.N[i]?=aa x) wS)(hx:autoParam (Loc X.env.scope x) xL)(hf:autoParam (X.fn x=true\/X.env.scope.names.lookup x=aa .local) xL):
  PG X (.Name x pos) (tG X.K E λd env=>.ok (env.set i (.val d))):=ahb (HV hN hi hx hf) λv σ H Q ⟨g,env,os,d,r,h,m⟩=>m _ (r.set i h)
def ahc:Oa X [] (tGs X.K E λds env=>match ds with
  |[]=>.ok env
  |_=>.bad):=abD Yb λvs σ H Q ⟨g,env,os,ds,r,h,m⟩=>by
 cases ds with
 |nil=>exact⟨h,m σ r⟩
 |cons _ _=>show '5'
def adu{e:ao}{es:List ao}{b:D->DE->R DE}{k:AN->DE->R DE}(h1:PG X e (tG X.K E b))(h2:Oa X es (tGs X.K E k))(hs:autoParam ((jg (e::es) X.env).map (·.2)=p6 e X.env::(jg es X.env).map (·.2)) wS):
  Oa X (e::es) (tGs X.K E λds env=>match ds with
   |d::r=>(b d env).bind λe'=>k r e'
   |_=>.bad):=abD (TQ h1 h2 hs) λvs σ H Q ⟨g,env,os,ds,r,h,m⟩=>by
 cases ds with
 |nil=>show '5'
 |cons d rest=>
  obtain⟨v,vr,rfl,p,q⟩:=h;have m':Good E g.H₀ ((b d env).bind λe'=>k rest e') _:=m;exact⟨v,vr,rfl,g,env,os,d,r,p,m'.bind.mono λe' _ m2 σ' r'=>⟨g,e',os,rest,r',q,m2⟩⟩
def gT{es:List ao}{kk:Nat}{b:AN->DE->R DE}(hc:X.calm=true)(h:Oa X es (tGs X.K E b))(hn:autoParam ((jg es X.env).length=n) wS)(hst:autoParam ((jg es X.env).findIdx? (·.1)=none) wS):
  PG X (.Tuple es kk pos) (tG X.K E λd env=>match d with
   |.tup ds=>if ds.length=n then b ds env else .bad
   |_=>.bad):=ahb (acV hc h hn hst) λv σ H Q ⟨g,env,os,d,r,h,m⟩=>by
 cases d with
 |tup ds=>
  obtain⟨a,vs,rfl,h1,h2⟩:=h;have m':Good E g.H₀ (if ds.length=n then b ds env else .bad) _:=m;split at m'
  ·rename_i c
   exact⟨a,vs,rfl,h1.sq,by rw[IsL.length h2];exact c,g,env,os,ds,r,h2,m'⟩
  ·exact m'.elim
 |_=>show '5'
def AS{tg iter:ao}{body:List aw}{f:DE->R AN}{b:D->DE->R DE}{k:DE->R Out}(hp:HW (aE X.prog X.w) X.A X.env X.xe)(hc:X.calm=true)(hi:PI X tg iter (tI X.K E f))(hg:PG X tg (tG X.K E b))(hb:zL X body (tS X.K E k))
  (hs:autoParam (∀x,DT iter X.env x=bj x) wT):PS X (.For tg iter body [] pos) (tS X.K E λenv=>(f env).bind λxs=>iS (λd e=>(b d e).bind k) xs env):=
 wb (TX hp hc hi hg hb hs) λDe σ H ⟨g,env,os,r,m⟩=>⟨g,env,os,r,m.bind.mono λxs _ m1 J H1 s1 yl=>by
  refine⟨λi n σ' H'=>n=xs.length-i/\i<=xs.length/\∃vZ k9,Rel X.K g vZ σ' H' k9/\z9 H1 os H' k9/\Good E g.H₀ (iS (λd e=>(b d e).bind k) (xs.drop i) vZ) (jU X.K g H' k9 De),
   ⟨xs.length,by simp,iJ _,env,os,r.same s1,.refl _ _,by rw[IG];exact m1.mono λo _ q=>jU.step (.same s1 os) q⟩,?_⟩
  rintro i n σ' H' ⟨rfl,hi,vZ,k9,r',st,m2⟩;obtain⟨y1,y2⟩:=yl i H' (g.P k9) st.ext
  by_cases hlt:i<xs.length
  ·have hx:xs[i]?=aa xs[i]:=aP hlt
   obtain⟨go,y3⟩:=y1 _ hx;rw[rh hlt]at m2;refine .inr ⟨go,λσ2 H2=>∃Uv Y2,Rel X.K g Uv σ2 H2 Y2/\z9 H1 os H2 Y2/\Good E g.H₀ (iS (λd e=>(b d e).bind k) (xs.drop (i+1)) Uv) (jU X.K g H2 Y2 De),λσ2 H2 ⟨e2,o2,r2,t2,g2⟩=>⟨xs.length-(i+1),by lia,rfl,hlt,e2,o2,r2,t2,g2⟩,λx H2 hy=>?_⟩;obtain⟨s2,hx2⟩:=y3 x H2 hy;have r2:=r'.same s2;have ix:Is X.K (g.P k9) H2 xs[i] x:=Is.ext ⟨λa o p _=>p.elim (λz=>z) λz=>r'.fresh z,λ_ _ _ z=>z⟩ _ _ hx2;have m3:Good E g.H₀ (((b xs[i] vZ).bind k).bind _) _:=m2;refine⟨g,vZ,k9,xs[i],r2,ix,m3.bind.bind.mono λe3 _ m4 σ3 r3=>⟨g,e3,k9,r3,Good.mono m4 λo _ q=>?_⟩⟩;have Oe:=st.trans (z9.same s2 k9);cases o with
   |nx e4=>show 'i'
   |ct e4=>show 'i'
   |bk e4=>show 'v'
   |rt d=>exact q
   |qZ ys=>exact q
   |Te ys=>exact q
   |RZ ys=>exact q
   |Td ys=>exact q
   |Ko ys=>exact q
  ·have e:i=xs.length:=by lia
   subst e;rw[II]at m2;exact .inl ⟨y2 rfl,(show jU X.K g H' k9 De (.nx vZ)from m2) σ' H' k9 r' (.refl _ _)⟩⟩
def adv{c:ao}{body:List aw}{fc:DE->R Bool}{k:DE->R Out}(fuel:DE->Nat)(hp:HW (aE X.prog X.w) X.A X.env X.xe)(hc:PT X c (tT X.K E fc))(hb:zL X body (tS X.K E k)):
  PS X (.While c body [] pos) (tS X.K E λenv=>uD fc k (fuel env) env):=
 wb (Ay hp hc hb) λDe σ H ⟨g,env,os,r,m⟩=>by
  refine⟨λn σ' H'=>∃vZ k9,Rel X.K g vZ σ' H' k9/\Good E g.H₀ (uD fc k n vZ) (jU X.K g H' k9 De),⟨fuel env,env,os,r,m⟩,?_⟩;rintro n σ' H' ⟨vZ,k9,r',m2⟩;cases n with
  |zero=>show 'Ê'
  |succ n=>
   have m3:Good E g.H₀ ((fc vZ).bind _) _:=m2;refine⟨g,vZ,k9,r',m3.bind.mono λt _ m4 H2 s2=>?_⟩;cases t with
   |false=>
    rw[if_neg iI];exact(show jU X.K g H' k9 De (.nx vZ)from m4) σ' H2 k9 (r'.same s2) (.same s2 k9)
   |true=>
    rw[if_pos rfl];have m5:Good E g.H₀ ((k vZ).bind _) _:=m4;refine⟨λσ2 H2'=>∃Uv Y2,Rel X.K g Uv σ2 H2' Y2/\Good E g.H₀ (uD fc k n Uv) (jU X.K g H2' Y2 De),λσ2 H3 q=>⟨n,Ig n,q⟩,g,vZ,k9,r'.same s2,m5.bind.mono λo _ q=>?_⟩;cases o with
    |nx e4=>show 'k'
    |ct e4=>show 'k'
    |bk e4=>show 'v'
    |rt d=>exact q
    |qZ ys=>exact q
    |Te ys=>exact q
    |RZ ys=>exact q
    |Td ys=>exact q
    |Ko ys=>exact q
end
def aB(n:Nat)(ds:AN):DE:=ds.map .val++aO (n-ds.length) .no
def Cj{K:ak}{N:List Str}{P:ae->Prop}{vs:List V}(h:IsL K P H ds vs):Rel K ⟨P,H⟩ (aB N.length ds) (L2.start N vs) H []:=by
 have hl:=h.length;refine⟨by simp[aB,L2.start,hl],bM.refl H,λi d e=>?_,λi xs e=>?_,λi j xs ys a e=>?_,(λa ha=>nomatch ha),λi v e=>?_,MF.none λi v e=>?_⟩
 ·unfold aB at e
  by_cases hi:i<ds.length
  ·rw[fE (by simpa using hi),bK,aP hi]at e
   have e':Sl.val ds[i]=Sl.val d:=ck.inj e;cases e';obtain⟨v,h1,h2⟩:=h.get (aP hi);refine⟨v,?_,Is.ext ⟨λa o p _=>⟨.inl p,by simp⟩,λ_ _ _ z=>z⟩ _ _ h2⟩;unfold L2.start;rw[fE (by simp;lia),bK,h1]<;>rfl
  ·rw[jR (by simp;lia)]at e
   show 'd';rw[this]at e;split at e<;>cases e
 ·exfalso
  unfold aB at e
  by_cases hi:i<ds.length
  ·rw[fE (by simpa using hi),bK,aP hi]at e
   cases e
  ·rw[jR (by simp;lia)]at e
   show 'd';rw[this]at e;split at e<;>cases e
 ·exfalso
  unfold aB at e
  by_cases hi:i<ds.length
  ·rw[fE (by simpa using hi),bK,aP hi]at e
   cases e
  ·rw[jR (by simp;lia)]at e
   show 'd';rw[this]at e;split at e<;>cases e
 ·exfalso
  unfold aB at e
  by_cases hi:i<ds.length
  ·rw[fE (by simpa using hi),bK,aP hi]at e
   cases e
  ·rw[jR (by simp;lia)]at e
   show 'd';rw[this]at e;split at e<;>cases e
 ·exfalso
  unfold aB at e
  by_cases hi:i<ds.length
  ·rw[fE (by simpa using hi),bK,aP hi]at e
   cases e
  ·rw[jR (by simp;lia)]at e
   show 'd';rw[this]at e;split at e<;>cases e
def aA:Out->R D
 |.rt d=>.ok d
 |.qZ xs=>.ok (.lst xs)
 |.nx _=>.ok .non
 |_=>.bad
def aC:Out->R AN
 |.qZ xs=>.ok xs
 |_=>.bad
abbrev EN:Str->Hp->Prop:=λ_ _=>False
section
variable{P:aS}{w:aD}{K:ak}{mg:Str->Option ah}{base:aF}
def Is.P0 {Q:ae->Prop}{H H':Hp}{d:D}{v:V}(h:Is K ((⟨Q,H⟩:Gh).P []) H' d v):Is K (λa=>Q a\/H a=none) H' d v:=Is.ext ⟨λ_ _ p _=>p.1,λ_ _ _ z=>z⟩ _ _ h
def akF{x qual:Str}{st:aw}{f:ae}{fd:aL}{N ps:List Str}{xc:Str->ah}{m:AN->R D}{b:DE->R Out}(F:Kh K x qual st f fd)(S:aT N ps (au st))
  (hm:∀ds d,m ds=.ok d->ds.length=ps.length/\(b (aB N.length ds)).bind aA=.ok d)(hne:∀ds c,m ds≠.err c)
  (hb:∀(cdv:ah)(A:bx)(outer:List Env)(s:aj)(H:Hp)(E:XK),cP k (A.deeper (gW qual (au st) s.heap.objs.size f cdv))->zL (z8 tw P w K mg base N qual (au st) f cdv A outer s H E).S8 (eg st) (tS K EN b)):
  fW P w K mg base tw (k+1) f fd ps (O9 K xc m):=by
 show 'M'
 ·obtain⟨Pa,ds,i,h⟩:=h
  cases e:m ds with
  |ok d=>rw[i.length];exact(hm ds d e).1
  |err c=>show '7'
  |bad=>rw[e]at h;show '6'
 ·obtain⟨Pa,ds,i,h⟩:=h
  show 'g';cases e:m ds with
  |err c=>show '7'
  |bad=>rw[e]at h;show '6'
  |ok d=>
   rw[e]at h;obtain⟨_,q⟩:=hm ds d e;cases eb:b (aB N.length ds)with
   |bad=>rw[eb]at q;cases q
   |err c=>rw[eb]at q;cases q
   |ok o=>
    rw[eb]at q;cases o with
    |rt d'=>
     cases q;exact λv H' s' i'=>h v H' s' i'.P0
    |qZ xs=>
     cases q;intro a O7 H' s' hn hH i';exact h _ H' s' ⟨a,O7,rfl,.inl ⟨.inr hn,.inl hH⟩,IsL.ext ⟨λb o p _=>p.1,λ_ _ _ z=>z⟩ _ _ i'⟩
    |nx e'=>
     cases q;exact λσ' H' k9 r' _=>h _ H' r'.ext rfl
    |_=>cases q
def akG{x qual:Str}{st:aw}{f:ae}{fd:aL}{N ps:List Str}{xc:Str->ah}{m:AN->R AN}{b:DE->R Out}(F:Kh K x qual st f fd)(S:aT N ps (au st))
  (hm:∀ds d,m ds=.ok d->ds.length=ps.length/\(b (aB N.length ds)).bind aC=.ok d)(hne:∀ds c,m ds≠.err c)
  (hb:∀(cdv:ah)(A:bx)(outer:List Env)(s:aj)(H:Hp)(E:XK),cP k (A.deeper (gW qual (au st) s.heap.objs.size f cdv))->zL (z8 tw P w K mg base N qual (au st) f cdv A outer s H E).S8 (eg st) (tS K EN b)):
  fW P w K mg base tw (k+1) f fd ps (Tg K xc m):=by
 show 'M'
 ·obtain⟨Pa,ds,i,h⟩:=h
  cases e:m ds with
  |ok d=>rw[i.length];exact(hm ds d e).1
  |err c=>show '7'
  |bad=>rw[e]at h;show '6'
 ·obtain⟨Pa,ds,i,h⟩:=h
  show 'g';cases e:m ds with
  |err c=>show '7'
  |bad=>rw[e]at h;show '6'
  |ok d=>
   rw[e]at h;obtain⟨_,q⟩:=hm ds d e;cases eb:b (aB N.length ds)with
   |bad=>rw[eb]at q;cases q
   |err c=>rw[eb]at q;cases q
   |ok o=>
    rw[eb]at q;cases o with
    |rt d'=>cases q
    |qZ xs=>
     cases q;intro a O7 H' s' hn hH i';exact h a O7 H' s' hn hH (IsL.ext ⟨λb o p _=>⟨p.1,λz=>p.2 (by simp[z])⟩,λ_ _ _ z=>z⟩ _ _ i')
    |nx e'=>cases q
    |_=>cases q
end
def JV(cells:List (Str×ae)):List (Str×iM)->List (Str×ae)->List (Str×ae)
 |[],acc=>acc
 |(n,k)::r,acc=>if(k==iM.free)=true then JV cells r ((n,(cells.lookup n).getD 0)::acc)else JV cells r acc
def zP{scope:du}{env:Env}(h:∀y∈scope.names,y.2=.free->∃c,env.cells.lookup y.1=aa c):closureFor scope env=bj (JV env.cells scope.names []):=by
 have gen:∀(l:List (Str×iM))(acc:List (Str×ae)),(∀y∈l,y.2=.free->∃c,env.cells.lookup y.1=aa c)->
   (forIn l acc λ(x:Str×iM)(r:List (Str×ae))=>(if(x.2==iM.free)=true then(do let a<-cellOf env x.1;bj (wg ((x.1,a)::r)))else bj (wg r):Sem (ForInStep (List (Str×ae)))))=bj (JV env.cells l acc):=by
  intro l
  induction l with
  |nil=>intro acc _;rfl
  |cons y r ih=>
   intro acc hy;obtain⟨n,k⟩:=y;rw[List.forIn_cons];have hr:∀y∈r,y.2=.free->∃c,env.cells.lookup y.1=aa c:=λy h=>hy y (bE _ h)
   by_cases hk:(k==iM.free)=true
   ·obtain⟨c,hc⟩:=hy (n,k) je (by simpa using hk)
    have Tw:env.cells.lookup n=aa c:=hc;simp only [hk,if_true,JV,cellOf,Tw,Option.getD_some];exact ih _ hr
   ·simp only [hk,JV]
    exact ih _ hr
 show((forIn scope.names ([]:List (Str×ae)) λ(x:Str×iM)(r:List (Str×ae))=>(if(x.2==iM.free)=true then(do let a<-cellOf env x.1;bj (wg ((x.1,a)::r)))else bj (wg r):Sem (ForInStep (List (Str×ae)))))>>=λs=>bj s)=_;rw[gen scope.names [] h];rfl
theorem Ac{cells:List (Str×ae)}:∀(l:List (Str×iM))(acc:List (Str×ae)),(∀y∈l,y.2=.free->∃c,cells.lookup y.1=aa c)->(∀c,acc.lookup x=aa c->cells.lookup x=aa c)->
  ∀c,(JV cells l acc).lookup x=aa c->cells.lookup x=aa c
 |[],acc,_,h,c,e=>h c e
 |(n,k)::r,acc,hy,h,c,e=>by
  unfold JV at e;have hr:∀y∈r,y.2=.free->∃c,cells.lookup y.1=aa c:=λy h=>hy y (bE _ h);split at e
  ·rename_i hk
   refine Ac r _ hr (λc' e'=>?_) c e;rw[tW]at e';obtain⟨c0,hc0⟩:=hy (n,k) je (by simpa using hk);have ahf:cells.lookup n=aa c0:=hc0;cases hx:x==n with
   |true=>
    rw[hx]at e';have ex:x=n:=(by simpa using hx);rw[ahf]at e';cases e';rw[ex];exact ahf
   |false=>
    rw[hx]at e';exact h c' e'
  ·exact Ac r _ hr h c e
theorem D6{cells:List (Str×ae)}:∀(l:List (Str×iM))(acc:List (Str×ae)),((∃c,acc.lookup x=aa c)\/(x,iM.free)∈l)->∃c,(JV cells l acc).lookup x=aa c
 |[],acc,h=>h.elim (λz=>z) λz=>nomatch z
 |(n,k)::r,acc,h=>by
  unfold JV;split
  ·rename_i hk
   refine D6 r _ ?_
   by_cases hx:x=n
   ·exact .inl ⟨_,by rw[tW,beq_iff_eq.mpr hx]⟩
   ·rcases h with⟨c,h⟩|h
    ·refine .inl ⟨c,?_⟩
     rw[tW,beq_eq_false_iff_ne.mpr hx];exact h
    ·rcases aX.mp h with z|z
     ·cases z;exact absurd rfl hx
     ·exact .inr z
  ·rename_i hk
   refine D6 r _ ?_;rcases h with h|h
   ·exact .inl h
   ·rcases aX.mp h with z|z
    ·cases z;exact absurd (by simp) hk
    ·exact .inr z
noncomputable def Ck(X:Cx)(scope:du)(N:List Str)(s:aj)(H:Hp)(fp:List ae)(C:ae)(pl:List (ae×Obj)):Cx where
 prog:=X.prog
 w:=X.w
 K:=X.K
 mg:=X.mg
 base:=X.base
 A:=X.A
 N:=N
 s₀:=s
 H₀:=H
 env:=AU scope (JV X.env.cells scope.names []) C X.env
 outer:=X.stack
 stack:=X.stack
 ex:=fp
 fn:=λ_=>false
 calm:=X.calm
 pn:=pl
 xe:=λ_ _=>False
structure qi(X:Cx)(scope:du)(N:List Str)(nt:Nat)(caps:List Nat):Prop where
 kind:scope.kind=.function
 cell:∀y∈scope.names,y.2≠.cell
 names:∀y∈scope.names,y.2=.local->scope.names.lookup y.1=aa .local
 free:∀y∈scope.names,y.2=.free->X.env.kindOf y.1=aa .cell\/X.env.kindOf y.1=aa .free
 len:N.length=nt+caps.length
 nd:N.Nodup
 caps:∀(j i:Nat),caps[j]?=aa i->∃x,N[nt+j]?=aa x/\X.N[i]?=aa x/\scope.names.lookup x=aa .free/\Dm X.env.scope x
def lX{scope:du}{env:Env}{k:iM}(h:(D7 scope env).names.lookup x=aa k):∃k',scope.names.lookup x=aa k'/\(k=k'\/(k'=.free/\k=.cell)):=by
 unfold D7 at h
 try dsimp only at h
 generalize scope.names=l at h
 induction l with
 |nil=>cases h
 |cons y r ih=>
  obtain⟨n,kk⟩:=y;rw[bq]at h
  by_cases hc:(kk==iM.free&&env.scope.kind==.function&&env.kindOf n==aa .cell)=true
  ·simp only [hc,if_true]at h
   rw[tW]at h⊢;cases hx:x==n with
   |true=>
    rw[hx]at h;cases h;simp only [di]at hc;exact⟨kk,rfl,.inr ⟨by simpa using hc.1.1,rfl⟩⟩
   |false=>
    rw[hx]at h;exact ih h
  ·simp only [hc,fH,if_false]at h
   rw[tW]at h⊢;cases hx:x==n with
   |true=>
    rw[hx]at h;exact⟨kk,rfl,.inl (ck.inj h).symm⟩
   |false=>
    rw[hx]at h;exact ih h
def mem_of_lookup{α:Type}{l:List (Str×α)}{k:α}(h:l.lookup x=aa k):(x,k)∈l:=by
 induction l with
 |nil=>cases h
 |cons y r ih=>
  obtain⟨n,kk⟩:=y;rw[tW]at h;cases hx:x==n with
  |true=>
   rw[hx]at h;cases h;have ex:x=n:=(by simpa using hx);rw[ex];exact je
  |false=>
   rw[hx]at h;exact bE _ (ih h)
section
variable{X:Cx}{scope:du}{N:List Str}{nt:Nat}{caps:List Nat}{pins:List (ae×Obj)}{σ:St}{H:Hp}{s:aj}
theorem qi.cells (S:qi X scope N nt caps)(I:Inv X pins σ H s):∀y∈scope.names,y.2=.free->∃c,X.env.cells.lookup y.1=aa c:=λy hy hf=>I.ok.has y.1 (S.free y hy hf)
def qi.lk (S:qi X scope N nt caps)(I:Inv X pins σ H s){c:ae}(h:(JV X.env.cells scope.names []).lookup x=aa c):X.env.cells.lookup x=aa c:=
 Ac scope.names [] (S.cells I) (λc e=>by cases e) c h
def qi.start (S:qi X scope N nt caps)(I:Inv X pins σ H s){fp:List ae}(hf:∀b∈fp,xJ X pins H b){C:ae}{h':aF}{m:Str->Option ah}{t':Nat}(hC:s.heap.objs.size<=C)(hn:h'.Ns C m)(k:∀b o,s.heap.get? b=aa o->h'.get? b=aa o)
  (hpin:∀b∈fp,∃o,s.heap.get? b=aa o)
  {vs:List V}(hv:vs.length=caps.length)(hvs:∀(j i:Nat)(v:V),caps[j]?=aa i->vs[j]?=aa v->σ[i]?=aa (aa v))(σ':St)(hσ:σ'=aO nt none++vs.map aa):
  Inv (Ck X scope N s H fp C (X.pn++pins)) [] σ' H {s with heap:=h',toks:=t'}:=by
 subst hσ;have hH:∀b,s.heap.objs.size<=b->H b=none:=λb hb=>I.hok.fresh hb;have lk:=λ{x c}(h:(JV X.env.cells scope.names []).lookup x=aa c)=>S.lk I h;have ok:(Ck X scope N s H fp C (X.pn++pins)).Ok:={
  mod:=I.ok.mod
  kind:=S.kind
  glob:=I.ok.glob
  blt:=I.ok.blt
  above:=hC
  inj:=λx y c h1 h2=>I.ok.inj x y c (lk h1) (lk h2)
  has:=λx h=>by
   have h':(D7 scope X.env).names.lookup x=aa .cell\/(D7 scope X.env).names.lookup x=aa .free:=h;have hfree:scope.names.lookup x=aa .free:=by
    rcases h' with h'|h'
    ·obtain⟨k',e,q⟩:=lX h'
     rcases q with rfl|⟨rfl,_⟩
     ·exact absurd rfl (S.cell _ (mem_of_lookup e))
     ·exact e
    ·obtain⟨k',e,q⟩:=lX h'
     rcases q with rfl|⟨rfl,q⟩
     ·exact e
     ·exact e
   exact D6 scope.names [] (.inr (mem_of_lookup hfree))
  cab:=λx c h=>nomatch h
  hd:=I.ok.hd
  frames:=I.ok.frames
  stk:=.inl rfl
  exf:=λb hb=>by obtain⟨o,e⟩:=hpin b hb;exact⟨λz=>absurd (dZ (bW e) (by rw[z];exact hC)) (vK _),λx c h=>(hf b hb).2.2.2.2.1 x c (lk h)⟩
  bs:=I.bs
  Xw:=lD I.ok.Xw I.sz
  Ry:=λb o e hb=>by
   rcases(hf b hb).2.2.2.1 with z|z
   ·exact I.ok.Ry b o e z
   ·exact absurd (dZ (bW e) (lD I.ok.Xw z)) (vK _)
  Mm:=λb hb z=>by
   rcases aX.mp (I.HP b z)with q|q
   ·exact(hf b hb).2.1 q
   ·exact(hf b hb).2.2.1 q
  B5:=I.stack
  frf:=I.N5}
 refine⟨ok,rfl,I.bare,Un.kept k,⟨m,hn,λi x v e1 e2 e3=>?_⟩,λx c e=>?_,hH C hC,λx c e=>I.zK x c (lk e),λp hp=>?_,I.hok.kept k,?_⟩
 ·have hi:nt<=i:=by
   refine OW λz=>?_;rw[fE (by simpa using z),qe]at e2;split at e2<;>cases e2
  rw[jR (by simpa using hi),bK]at e2;have e2':(vs[i-nt]?).map aa=aa (aa v):=by simpa using e2
  cases q:vs[i-nt]? with
  |none=>rw[q]at e2';cases e2'
  |some v'=>
   rw[q]at e2';cases e2';have hj:i-nt<caps.length:=(by rw[<-hv];exact(bH.mp q).1);obtain⟨x',h1,h2,h3,h4⟩:=S.caps (i-nt) caps[i-nt] (aP hj);have ex:x'=x:=by have Y1:N[i]?=aa x:=e1;rw[show nt+(i-nt)=i by lia,Y1]at h1;exact(ck.inj h1).symm
   subst ex;have hs:=hvs (i-nt) _ v (aP hj) q;obtain⟨m0,hn0,hl0⟩:=I.loc;obtain⟨u,r,l⟩:=hl0 _ x' v h2 hs h4;refine⟨u,r,?_⟩;have hkx:=S.free _ (mem_of_lookup h3) rfl;rcases l with⟨k1,_⟩|⟨k1,c,hc,hcell⟩
   ·have k1':X.env.kindOf x'=aa .local:=k1
    rcases hkx with z|z
    ·have z':X.env.kindOf x'=aa .cell:=z
     rw[k1']at z';cases z'
    ·have z':X.env.kindOf x'=aa .free:=z
     rw[k1']at z';cases z'
   ·obtain⟨c',Tw⟩:=D6 (cells:=X.env.cells) (x:=x') scope.names [] (.inr (mem_of_lookup h3))
    have:=lk Tw;rw[hc]at this;cases this;refine .inr ⟨?_,c,Tw,let⟨o,ho,hd⟩:=hcell;⟨o,k _ o ho,hd⟩⟩;rcases e3 with z|z|z
    ·exfalso
     obtain⟨k',e,q⟩:=lX (show(D7 scope X.env).names.lookup x'=aa .local from z);rcases q with rfl|⟨_,q⟩
     ·rw[h3]at e;cases e
     ·cases q
    ·exact .inl z
    ·exact .inr z
 ·obtain⟨v,z⟩:=I.cell x c (lk e)
  exact⟨v,let⟨o,ho,hd⟩:=z;⟨o,k _ o ho,hd⟩⟩
 ·have hp':p∈X.pn++pins:=by simpa[Ck]using hp
  obtain⟨e,n,ne,nf,d⟩:=I.pin p hp';refine⟨k _ _ e,n,λz=>absurd (dZ (bW e) (by rw[z];exact hC)) (vK _),λz=>?_,d⟩;rcases aX.mp (I.HP _ z)with q|q
  ·exact ne q
  ·exact nf q
 ·show(aO nt none++vs.map aa).length=N.length
  rw[S.len];simp[hv]
end
section
variable{prog:aS}{w:aD}{A:bx}{E:ah->aj->Prop}{R:DV->aj->Prop}{s:aj}
def C4{elt target iter:ao}{ifs:List ao}{scope:du}{pos:Pos}{it acc:ah}{env:Env}(I:Nat->aj->Prop)
  (turn:∀n s,I n s->aG (aE prog w) A (pyNext it) (λr s₁=>match r with
   |none=>R (.ok .next) s₁
   |some v=>aG (aE prog w) A (HX target it v) (λ_ s₁'=>aG (aE prog w) A (p6 target env v) (λ_ s₂=>
     aG (aE prog w) A (forIn ifs true λc r=>if r=true then do let ok<-isTrue c env (az c env);bj (wg ok)else bj (wg r)) (λok s₃=>
      if ok=true then aG (aE prog w) A (az elt env) (λx s₄=>
       aG (aE prog w) A (call (.builtin "list.append") [acc,x]) (λ_ s₅=>∃m,m<n/\I m s₅) (λ_ _=>False) s₄) (λ_ _=>False) s₃
      else∃m,m<n/\I m s₃) (λ_ _=>False) s₂) (λ_ _=>False) s₁') (λ_ _=>False) s₁) (λ_ _=>False) s)
  (n:Nat)(h:I n s):
  p9 (aE prog w) A (.compLoop (.ListComp elt [⟨target,iter,ifs,0⟩] scope pos) 0 it acc env) R s:=by
 refine codeAny_loop rfl I (λn s hI=>?_) n h;show aG _ A ((compTurn (.ListComp elt [⟨target,iter,ifs,0⟩] scope pos) 0 it acc env).onRaise (λx=>do noteFrame x env;theTreesLotGoes x)) _ _ s;refine wpAny_noted ?_;rw[compTurn_list];refine bJ (wpAny_standAt (bJ (mY (turn n s hI) (λr s₁ h₁=>?_) λ_ _ h'=>h'.elim)));cases r with
 |none=>exact ee h₁
 |some v=>
  refine bJ (mY h₁ (λ_ s₁' h₁'=>?_) λ_ _ h'=>h'.elim);refine bJ (mY h₁' (λ_ s₂ h₂=>bJ (mY h₂ (λok s₃ h₃=>?_) λ_ _ h'=>h'.elim)) λ_ _ h'=>h'.elim);cases ok with
  |false=>exact ee ⟨rfl,h₃⟩
  |true=>
   exact bJ (bJ (mY h₃ (λx s₄ h₄=>bJ (mY h₄ (λ_ s₅ h₅=>ee (ee ⟨rfl,h₅⟩)) λ_ _ h'=>h'.elim)) λ_ _ h'=>h'.elim))
end
noncomputable def PTs(X:Cx)(ifs:List ao)(t:TT):Prop:=
 ∀(pins:List (ae×Obj))(s:aj)(σ:St)(H:Hp)(Q:Bool->Hp->Prop),Inv X pins σ H s->t σ H Q->
  aG (aE X.prog X.w) X.A (forIn ifs true λc r=>if r=true then do let ok<-isTrue c X.env (az c X.env);bj (wg ok)else bj (wg r)) (TP X pins σ Q) X.xe s
def ts0{X:Cx}{E:Str->Hp->Prop}:PTs X [] (tT X.K E λ_=>.ok true):=λpins s σ H Q I ⟨g,env,os,r,m⟩=>Y8 ⟨H,I,m H (bM.refl H)⟩
def ts1{X:Cx}{E:Str->Hp->Prop}{c:ao}{f:DE->R Bool}(h:PT X c (tT X.K E f)):PTs X [c] (tT X.K E f):=λpins s σ H Q I q=>wpAny_tests_one (h pins s σ H Q I q)
def kW(b:D->DE->R DE)(ct:DE->R Bool)(fe:DE->R D)(e₀:DE):AN->R AN
 |[]=>.ok []
 |x::xs=>(b x e₀).bind λe=>(ct e).bind λt=>if t=true then(fe e).bind λd=>(kW b ct fe e₀ xs).bind λds=>.ok (d::ds)else kW b ct fe e₀ xs
def uF(env:DE):List Nat->R AN
 |[]=>.ok []
 |i::r=>(cZ i env).bind λd=>(uF env r).bind λds=>.ok (d::ds)
theorem Good.uF {K:ak}{E:Str->Hp->Prop}{H₀ H:Hp}{g:Gh}(r:Rel K g env σ H os):∀{caps:List Nat}{p:AN->Prop},Good E H₀ (uF env caps) p->
  ∃ds vs,p ds/\vs.length=caps.length/\ds.length=caps.length/\IsL K (g.P os) H ds vs/\∀(j i:Nat)(v:V),caps[j]?=aa i->vs[j]?=aa v->σ[i]?=aa (aa v)
 |[],p,h=>⟨[],[],h,rfl,rfl,rfl,λj i v e=>by simp at e⟩
 |i::rest,p,h=>by
  have h1:=h.bind;unfold cZ at h1;split at h1
  ·rename_i d e
   have h2:Good E H₀ ((DL.uF env rest).bind λds=>.ok (d::ds)) p:=h1;obtain⟨ds,vs,q1,q2,q3,q4,q5⟩:=Good.uF r h2.bind;obtain⟨v,s1,s2⟩:=r.val i d e;refine⟨d::ds,v::vs,q1,by simp[q2],by simp[q3],.cons s2 q4,λj i' v' e1 e2=>?_⟩;cases j with
   |zero=>simp at e1 e2;subst e1 e2;exact s1
   |succ j=>exact q5 j i' v' (by simpa using e1) (by simpa using e2)
  ·exact h1.elim
def xt(nt:Nat)(ds:AN):DE:=aO nt Sl.no++ds.map .val
def Pb{nt:Nat}{d:D}(h:(xt nt ds)[i]?=aa (.val d)):nt<=i/\ds[i-nt]?=aa d:=by
 unfold xt at h;have hi:nt<=i:=by refine OW λz=>?_;rw[fE (by simpa using z),qe]at h;split at h<;>cases h
 rw[jR (by simpa using hi),bK]at h;refine⟨hi,?_⟩;simp only [AA]at h;cases q:ds[i-nt]? with
 |none=>rw[q]at h;cases h
 |some d'=>rw[q]at h;cases h;rfl
def D8{nt:Nat}{xs:AN}(h:(xt nt ds)[i]?=aa (.own xs)):False:=by
 unfold xt at h
 by_cases hi:i<nt
 ·rw[fE (by simpa using hi),qe]at h
  split at h<;>cases h
 ·rw[jR (by simp;lia),bK]at h
  cases q:ds[i-(aO nt Sl.no).length]? with
  |none=>rw[q]at h;cases h
  |some d'=>rw[q]at h;cases h
def Ku{nt:Nat}{w:Ct}(h:(xt nt ds)[i]?=aa (.deep w)):False:=by
 unfold xt at h
 by_cases hi:i<nt
 ·rw[fE (by simpa using hi),qe]at h
  split at h<;>cases h
 ·rw[jR (by simp;lia),bK]at h
  cases q:ds[i-(aO nt Sl.no).length]? with
  |none=>rw[q]at h;cases h
  |some d'=>rw[q]at h;cases h
def Pd{nt:Nat}{w:V}(h:(xt nt ds)[i]?=aa (.raw w)):False:=by
 unfold xt at h
 by_cases hi:i<nt
 ·rw[fE (by simpa using hi),qe]at h
  split at h<;>cases h
 ·rw[jR (by simp;lia),bK]at h
  cases q:ds[i-(aO nt Sl.no).length]? with
  |none=>rw[q]at h;cases h
  |some d'=>rw[q]at h;cases h
section
variable{X:Cx}{pins:List (ae×Obj)}{σ:St}{H:Hp}{s:aj}{h':aF}
def Kv{fp:List ae}{t':Nat}(I:Inv X pins σ H s)(hf:∀b∈fp,xJ X pins H b)(k:∀b u,b∉fp->s.heap.get? b=aa u->h'.get? b=aa u):Inv X pins σ H {s with heap:=h',toks:=t'}:=by
 have nfp:∀b u,H b=aa u->b∉fp:=λb u e z=>by rw[(hf b z).1]at e;cases e
 refine I.step (g':=s.gens) (d':=s.drawn) (ch:=fp) (λb hb=>⟨(hf b hb).2.2.2.1,(hf b hb).2.1,(hf b hb).2.2.2.2.1,(hf b hb).2.2.2.2.2⟩) (λb u _ _ hc e _=>k b u hc e) (λb u _ _ hc e _=>⟨u.slots,k b u hc e⟩)
  (λb u _ e n=>n) (λb u hc e=>⟨u,k b u hc e⟩) (λb xs e=>e) (λb u xs e=>e) (λb ps e=>⟨#[],by rw[e];simp⟩) (λm hm=>?_) (λb u e=>?_) I.bare
 ·obtain⟨ob,es,ep,ho,r⟩:=hm
  show 'U'
 ·refine(I.hok b u e).Ml (λc v hc q=>k c v ?_ q) (λc q=>q) λc xs q=>q
  rcases hc with z|z
  ·rw[z];exact nfp b u e
  ·exact nfp c _ z
end
def R.ne {α:Type}:R α->R α
 |.ok a=>.ok a
 |_=>.bad
theorem R.my {α:Type}(a:α):(R.ok a).ne=.ok a:=rfl
def R.kK {α β:Type}{r:R α}{k:α->R β}{y:β}(h:r.bind k=.ok y):∃a,r=.ok a/\k a=.ok y:=by
 cases r with
 |ok a=>exact⟨a,rfl,h⟩
 |err c=>cases h
 |bad=>cases h
def D9{α:Type}{E:Str->Hp->Prop}{H₀:Hp}{r:R α}{a:α}{p:α->Prop}(e:r=.ok a)(h:p a):Good E H₀ r p:=by rw[e];exact h
section
variable{X:Cx}{E:Str->Hp->Prop}{pos:Pos}{scope:du}{N:List Str}{nt:Nat}{caps:List Nat}
def Pe{K:ak}{g:Gh}{e:DE}{H H':Hp}{ts:DE}(r:Rel K g e σ H [a])(he:e=ts++ds.map .val)(hl:ts.length=nt)(x:Ext (g.P [a]) (g.P [a]) H H')(s:bM g.H₀ H')(hn:∃o,H' a=aa o):
  Rel K g (xt nt ds) σ H' [a]:=by
 subst he;refine⟨by rw[r.len];simp[xt,hl],s,λi d e=>?_,λi xs e=>(D8 e).elim,λi j xs ys b e=>(D8 e).elim,λb hb=>?_,λi w e=>(Pd e).elim,MF.none λi w e=>Ku e⟩
 ·obtain⟨h1,h2⟩:=Pb e
  obtain⟨v,q1,q2⟩:=r.val i d (by rw[jR (by lia),hl,bK,h2];rfl);exact⟨v,q1,Is.ext x _ _ q2⟩
 ·have e:b=a:=by simpa using hb
  subst e;exact⟨(r.new b hb).1,hn⟩
noncomputable def akH(X:Cx)(pins:List (ae×Obj))(σ:St)(g:Gh)(os:List ae)(H:Hp)(use:Option (ah->Sem Unit))(Qv:ah->aj->Prop)(ys:AN):Prop:=
 ∀(Dd C:ae)(acc:List V)(Hx:Hp)(s6:aj),Inv X pins σ Hx s6->(∃m,s6.heap.Ns C m)->xJ X pins Hx C->bM H Hx->H Dd=none->Hx Dd=aa (.lst acc)->IsL X.K (g.P (Dd::os)) Hx ys acc->
  compPost (aE X.prog X.w) X.A X.xe use Qv (.ref Dd) C (.ok .next) s6
def Y9{elt tg iter:ao}{ifs:List ao}{fi:DE->R AN}{b:D->DE->R DE}{ct:DE->R Bool}{fe:DE->R D}(S:qi X scope N nt caps)(Kx:X.calm=true)(hi:PI X tg iter (tIS X.K E fi))
  (hb1:∀ds d e,b d (xt nt ds)=.ok e->∃ts,e=ts++ds.map .val/\ts.length=nt)
  (hg:∀s H fp C pl,PG (Ck X scope N s H fp C pl) tg (tG X.K EN b))(ht:∀s H fp C pl,PTs (Ck X scope N s H fp C pl) ifs (tT X.K EN ct))(he:∀s H fp C pl,PE (Ck X scope N s H fp C pl) elt (tD X.K EN fe))
  (hs:∀x,DT iter X.env x=bj x){use:Option (ah->Sem Unit)}{Qv:ah->aj->Prop}{s:aj}{H:Hp}{env:DE}{g:Gh}(I:Inv X pins σ H s)(r:Rel X.K g env σ H os)
  (m:Good E g.H₀ ((fi env).bind λxs=>(uF env caps).bind λds=>(kW b ct fe (xt nt ds) xs).ne.bind fit) (akH X pins σ g os H use Qv)){ps:Pos}:
  aG (aE X.prog X.w) X.A (comprehension (.ListComp elt [⟨tg,iter,ifs,0⟩] scope pos) scope X.env ps (newList []) false (az iter X.env) use) Qv X.xe s:=by
 refine Za (use:=use) rfl hs (zP (S.cells I)) S.kind S.names ?_;refine gh (hi pins s σ H (λJ H1=>∃xs,bM H H1/\Yls X.K (g.P os) J H1 xs/\Good E g.H₀ ((uF env caps).bind λds=>(kW b ct fe (xt nt ds) xs).ne.bind fit) _) I ⟨g,env,os,r,m.bind.mono λxs _ m1 J H1 s1 yl=>⟨xs,s1,yl,m1⟩⟩) λv s1 h1=>gh h1 λitv s2 h2=>?_;obtain⟨it,fp,tn,J,H2,rfl,I2,T,Oe,f2,xs,Zb,yl,m1⟩:=h2;have r2:=r.same Zb;obtain⟨ds,vs,m2,hvl,hdl,hds,hvs⟩:=m1.bind.uF r2;cases ec:kW b ct fe (xt nt ds) xs with
 |bad=>rw[ec]at m2;show 'Ê'
 |err c=>rw[ec]at m2;show 'Ê'
 |ok ys=>
 rw[ec]at m2;obtain⟨hz,q⟩:=(show Good E g.H₀ (fit ys) _ from m2).fit;refine Zc (Zd S.cell (by intro y hy;simp at hy) (λh₁ MK hsb₁=>?_) S.kind);dsimp only at MK hsb₁⊢;have hDn:H2 s2.heap.objs.size=none:=I2.hok.fresh (aY _);have I3:Inv X pins σ (upd H2 s2.heap.objs.size (.lst [])) {s2 with heap:=s2.heap.push {cls:=.type "list",dict:=none,data:=.seq ([]:List ah).toArray}}:=
  I2.laid (t':=s2.toks) (λb u e=>dg _ e) (aY _) ⟨iJ _,[],0,.nil,kE _ rfl⟩
 generalize hs3:({s2 with heap:=s2.heap.push {cls:=.type "list",dict:=none,data:=.seq ([]:List ah).toArray}}:aj)=s3 at I3;have hh3:s3.heap=s2.heap.push {cls:=.type "list",dict:=none,data:=.seq ([]:List ah).toArray}:=by rw[<-hs3]
 rw[<-hh3]at MK hsb₁⊢;generalize hDd:s2.heap.objs.size=Dd at*;show '<';have Ux:∀b∈fp,∃o,s2.heap.get? b=aa o:=λb hb=>let⟨o,e,_⟩:=T.obj 0 _ Oe b hb;⟨o,e⟩
 have ady:∀b∈fp,∃o,s3.heap.get? b=aa o:=λb hb=>let⟨o,e⟩:=Ux b hb;⟨o,by rw[hh3];exact dg _ e⟩
 have hfD:∀b∈fp,b≠Dd:=λb hb=>let⟨o,e⟩:=Ux b hb;by rw[<-hDd];exact eU (bW e)
 have f3:∀b∈fp,xJ X pins (upd H2 Dd (.lst [])) b:=λb hb=>⟨by rw[aH (hfD b hb)];exact(f2 b hb).1,(f2 b hb).2⟩
 have sD:bM H2 (upd H2 Dd (.lst [])):=bY hDn _;show 'W';generalize hX:Ck X scope N s3 (upd H2 Dd (.lst [])) fp s3.heap.objs.size (X.pn++pins)=X' at I4;show 'Å';have Th:=ht s3 (upd H2 Dd (.lst [])) fp s3.heap.objs.size (X.pn++pins);show 'Æ';rw[hX]at hg' Th he';have eK:X'.K=X.K:=by rw[<-hX];rfl
 have eP:X'.prog=X.prog:=by rw[<-hX];rfl
 have eW:X'.w=X.w:=by rw[<-hX];rfl
 have eA:X'.A=X.A:=by rw[<-hX];rfl
 have eE:X'.xe=λ_ _=>False:=by rw[<-hX];rfl
 have eC:X'.calm=true:=by rw[<-hX];exact Kx
 have eL:X'.env.locals=s3.heap.objs.size:=by rw[<-hX];rfl
 have eS:X'.s₀=s3:=by rw[<-hX];rfl
 have eX:X'.ex=fp:=by rw[<-hX];rfl
 have eF:X'.fs=Me X.stack:=by rw[<-hX];rfl
 have eN:X'.pn=X.pn++pins:=by rw[<-hX];rfl
 have eH:X'.H₀=upd H2 Dd (.lst []):=by rw[<-hX];rfl
 have eV:X'.env=AU scope (JV X.env.cells scope.names []) s3.heap.objs.size X.env:=by rw[<-hX];rfl
 have fpX:∀{Hx:Hp},(∀b∈fp,Hx b=none)->∀b∈fp,xJ X' [] Hx b:=λ{Hx} hn b hb=>by obtain⟨_,c1,c2,c3,c4,c5⟩:=f3 b hb;have q:=I4.ok.exf b (by rw[eX];exact hb);refine⟨hn b hb,q.1,I4.ok.Mm b (by rw[eX];exact hb),.inl (by rw[eX];exact hb),q.2,λp hp=>?_⟩;rw[eN,bg]at hp;exact c5 p hp
 let g':Gh:=⟨g.P os,H2⟩
 have exP:∀{Hx:Hp},bM H2 Hx->Ext (g.P os) (g'.P [Dd]) H2 Hx:=λsx=>⟨λa o p e=>⟨.inl p,λz=>by
  have z':a=Dd:=by simpa using z
  rw[z',hDn]at e;cases e⟩,λa o _ e=>sx a o e⟩
 have akK:Rel X.K g' (xt nt ds) (aO nt none++vs.map aa) (upd H2 Dd (.lst [])) [Dd]:=by
  refine⟨by simp[xt,hvl,hdl],sD,λi d e=>?_,λi xs e=>(D8 e).elim,λi j xs ys b e=>(D8 e).elim,λb hb=>?_,λi w e=>(Pd e).elim,MF.none λi w e=>Ku e⟩
  ·obtain⟨h1,h2⟩:=Pb e
   obtain⟨v,q1,q2⟩:=hds.get h2;refine⟨v,?_,Is.ext (exP sD) _ _ q2⟩;rw[jR (by simpa using h1),bK,AA,q1]<;>rfl
  ·have e:b=Dd:=by simpa using hb
   subst e;exact⟨hDn,_,aU⟩
 have loop:∀s4:aj,Inv X' [] (aO nt none++vs.map aa) (upd H2 Dd (.lst [])) s4->tn 0 s4.heap->
   p9 (aE X.prog X.w) X.A (.compLoop (.ListComp elt [⟨tg,iter,ifs,0⟩] scope pos) 0 (.ref it) (.ref Dd) (AU scope (JV X.env.cells scope.names []) s3.heap.objs.size X.env))
    (compPost (aE X.prog X.w) X.A X.xe use Qv (.ref Dd) s3.heap.objs.size) s4:=by
  intro s4 J4 Uy;refine C4 (λn s'=>∃i acc as rest Hx σ',n=xs.length-i/\i<=xs.length/\Inv X' [] σ' Hx s'/\tn i s'.heap/\(∀b∈fp,Hx b=none)/\Hx Dd=aa (.lst acc)/\IsL X.K (g'.P [Dd]) Hx as acc/\
   kW b ct fe (xt nt ds) (xs.drop i)=.ok rest/\as++rest=ys/\Rel X.K g' (xt nt ds) σ' Hx [Dd]) ?_ xs.length
   ⟨0,[],[],ys,_,_,by simp,iJ _,J4,Uy,λb hb=>(f3 b hb).1,aU,rfl,by rw[IG];exact ec,rfl,akK⟩
  rintro n s5 ⟨i,acc,as,rest,Hx,σ5,rfl,hi5,J5,Ye,Xx,hD5,ia5,c5,e5,r5⟩;obtain⟨y1,y2⟩:=yl i Hx (g'.P [Dd]) r5.ext (exP r5.ext)
  by_cases hlt:i<xs.length
  ·have hx:xs[i]?=aa xs[i]:=aP hlt
   obtain⟨go,y3⟩:=y1 _ hx;rw[rh hlt]at c5;obtain⟨e1,hb5,c6⟩:=R.kK (show(b xs[i] (xt nt ds)).bind _=.ok rest from c5);obtain⟨t,ht5,c7⟩:=R.kK c6;have TI:=T.item X' eP eW eK eC i [] s5 σ5 Hx (λ_ _=>False) J5 (fpX Xx) Ye go;rw[eA]at TI;refine gh TI λr s6 h6=>?_;obtain⟨u,rfl,h6⟩:=h6;refine gh h6 λ_ s7 h7=>?_;obtain⟨x,H7,J7,rx,hy,st7,fr7⟩:=h7;obtain⟨s57,hix⟩:=y3 x H7 hy;have ix:Is X.K (g'.P [Dd]) H7 xs[i] x:=Is.ext ⟨λa o p _=>p.elim (λz=>z) λz=>r5.fresh z,λ_ _ _ z=>z⟩ _ _ hix;have J7':=J7.pinned (fpX fr7) (T.obj _ _ st7);have TG:=hg' _ s7 σ5 H7 x u (λσ8 H8=>∃e8,b xs[i] (xt nt ds)=.ok e8/\Rel X.K g' e8 σ8 H8 [Dd]/\H8=H7) J7' rx ⟨g',xt nt ds,[Dd],xs[i],r5.same s57,ix,D9 hb5 λσ8 r8=>⟨e1,hb5,r8,rfl⟩⟩;rw[eP,eW,eA,eE,eV]at TG;refine gh TG λ_ s8 h8=>?_;obtain⟨σ8,H8,J8,e8,hb8,r8,hH8⟩:=h8;rw[hH8]at J8 r8;rw[hb5]at hb8;cases hb8;have TT:=Th _ s8 σ8 H7 (λt' H9=>t'=t/\bM H7 H9) J8 ⟨g',e1,[Dd],r8,D9 ht5 λH9 s9=>⟨rfl,s9⟩⟩;rw[eP,eW,eA,eE,eV]at TT;refine gh TT λok s9 h9=>?_;obtain⟨H9,J9,rfl,Xy⟩:=h9;obtain⟨ts,hts,htl⟩:=hb1 ds _ _ hb5;have Pf:∀{σx:St}{Hy:Hp}{sx:aj},Inv X' ([]++B6 fp s7.heap) σx Hy sx->tn (i+1) sx.heap/\∀b∈fp,Hy b=none:=λ{σx Hy sx} Jx=>
    ⟨T.keep _ _ _ st7 λb hb o e=>(Jx.pin (b,o) (jh _ (jh _ (pR hb e)))).1,λb hb=>by obtain⟨o,e,d⟩:=T.obj _ _ st7 b hb;exact(Jx.pin (b,o) (jh _ (jh _ (pR hb e)))).2.1⟩
   cases ok with
   |false=>
    rw[if_neg iI];have c8:kW b ct fe (xt nt ds) (xs.drop (i+1))=.ok rest:=c7;obtain⟨k1,k2⟩:=Pf J9;exact⟨xs.length-(i+1),by lia,i+1,acc,as,rest,H9,σ8,rfl,hlt,J9.uU,k1,k2,Xy _ _ (s57 _ _ hD5),(ia5.same s57).same Xy,c8,e5,
     Pe r8 hts htl (.same Xy) (r8.ext.trans Xy) ⟨_,Xy _ _ (s57 _ _ hD5)⟩⟩
   |true=>
    rw[if_pos rfl];obtain⟨d,he5,c8⟩:=R.kK (show(fe e1).bind _=.ok rest from c7);obtain⟨Uz,hr5,c9⟩:=R.kK c8;have c9':rest=d::Uz:=by cases c9;rfl
    subst c9';have TE:=he' _ s9 σ8 H9 (λv Ky=>bM H9 Ky/\Is X.K (g'.P [Dd]) Ky d v) J9 ⟨g',e1,[Dd],r8.same Xy,D9 he5 λv Ky s10 i10=>⟨s10,i10⟩⟩;rw[eP,eW,eA,eE,eV]at TE;refine gh TE λy s10 h10=>?_;obtain⟨v,Ky,J10,rv,Ze,iv⟩:=h10;have adC:Ky Dd=aa (.lst acc):=Ze _ _ (Xy _ _ (s57 _ _ hD5));have ahm:IsL X.K (g'.P [Dd]) Ky as acc:=((ia5.same s57).same Xy).same Ze;have TM:=kI (X:=X') _ s10 σ8 Ky (.ref Dd) [v] (.ref Dd) [y] (λ_ H11=>H11=upd Ky Dd (.lst (acc++[v]))) J10 rfl (.cons rv .nil) ⟨Dd,acc,v,rfl,rfl,adC,by rw[ahm.length];have:(as++d::Uz).length<=aK:=(by rw[e5];exact hz);rw[br,aR]at this;lia,rfl⟩
    rw[eP,eW,eA,eE]at TM;refine gh TM λ_ s11 h11=>?_;obtain⟨v',H11,J11,_,rfl⟩:=h11;obtain⟨k1,k2⟩:=Pf J11;have exD:Ext (g'.P [Dd]) (g'.P [Dd]) Ky (upd Ky Dd (.lst (acc++[v]))):=⟨λ_ _ p _=>p,λa o p e=>by rw[aH (λz=>p.2 (by simp[z]))];exact e⟩
    have akQ:bM H2 Ky:=(r8.ext.trans Xy).trans Ze;refine⟨xs.length-(i+1),by lia,i+1,acc++[v],as++[d],Uz,_,σ8,rfl,hlt,J11.uU,k1,k2,aU,IsL.ext exD _ _ (ahm.app (.one iv)),hr5,by rw[aZ];exact e5,?_⟩;exact Pe (r8.same (Xy.trans Ze)) hts htl exD (λa o e=>by rw[aH (aV (show H2 a=aa o from e) hDn)];exact akQ a o e) ⟨_,aU⟩
  ·have e:i=xs.length:=by lia
   subst e;rw[II]at c5;have c5':rest=[]:=by cases c5;rfl
   subst c5';rw[bg]at e5;subst e5;have TD:=T.done X' eP eW eK eC xs.length [] s5 σ5 Hx (λ_ _=>False) J5 (fpX Xx) Ye (y2 rfl);rw[eA]at TD;refine gh TD λr s6 h6=>?_;obtain⟨rfl,J6⟩:=h6;obtain⟨m6,hn6,_⟩:=J6.loc;rw[eL]at hn6;have un6:Un (Me X.stack) fp (upd H2 Dd (.lst [])) Hx s3.heap s6.heap:=by have u:=J6.base;rw[eF,eX,eH,eS]at u;exact u
   have hxC:Hx s3.heap.objs.size=none:=(by have:=J6.free;rw[eL]at this;exact this);have adE:zA X.prog X.w Hx s6.heap:=by have z:=J6.hok;rw[eP,eW]at z;exact z
   have os6:s6.os=s3.os:=(by have:=J6.os;rw[eS]at this;exact this);have I6:Inv X pins σ Hx s6:=I3.abt (s':=s6) os6 un6 adE J6.bare λb hb=>by obtain⟨_,c1,c2,c3,c4,c5⟩:=f3 b hb;exact⟨c3,c1,c4,c5⟩
   show '3'
   refine q Dd s3.heap.objs.size acc Hx s6 I6 ⟨m6,hn6⟩ fC (Zb.trans r5.ext) (Zb.free hDn) hD5 (IsL.ext ⟨λa o p _=>?_,λ_ _ _ z=>z⟩ _ _ ia5);have z:g.P os a:=p.1.elim (λz=>z) λz=>r2.fresh z;exact⟨z.1,λhm=>(aX.mp hm).elim (λz=>p.2 (by simp[z])) z.2⟩
 have Uy:tn 0 h₁:=T.keep _ _ _ Oe λb hb o e=>k3 b o (by rw[hh3];exact dg _ e);have eG:({heap:=h₁,gens:=s3.gens,drawn:=s3.drawn,toks:=s2.toks+([]:List (Str×ah)).length,os:=s3.os}:aj)={heap:=h₁,gens:=s2.gens,drawn:=s2.drawn,toks:=s2.toks+([]:List (Str×ah)).length,os:=s2.os}:=by rw[<-hs3]
 rw[eG]at I4;show 'R'
variable{elt tg iter:ao}{ifs:List ao}{fi:DE->R AN}{b:D->DE->R DE}{ct:DE->R Bool}{fe:DE->R D}
def G2(S:qi X scope N nt caps)(Kx:X.calm=true)(hi:PI X tg iter (tIS X.K E fi))
  (hb1:∀ds d e,b d (xt nt ds)=.ok e->∃ts,e=ts++ds.map .val/\ts.length=nt)
  (hg:∀s H fp C pl,PG (Ck X scope N s H fp C pl) tg (tG X.K EN b))(ht:∀s H fp C pl,PTs (Ck X scope N s H fp C pl) ifs (tT X.K EN ct))(he:∀s H fp C pl,PE (Ck X scope N s H fp C pl) elt (tD X.K EN fe))
  (hs:autoParam (∀x,DT iter X.env x=bj x) wT):
  PE X (.ListComp elt [⟨tg,iter,ifs,0⟩] scope pos) (tF X.K E λenv=>(fi env).bind λxs=>(uF env caps).bind λds=>(kW b ct fe (xt nt ds) xs).ne.bind fit):=by
 show 'c';show '&';rw[eval_ListComp];refine Y9 S Kx hi hb1 hg ht he hs I r (m.mono λys _ q Dd C acc Hx s6 I6 hn fC sm hD hx ia=>?_);obtain⟨m6,hn6⟩:=hn;refine⟨m6,hn6,λh7 hs7=>⟨.ref Dd,Hx,Kv (fp:=[C]) (t':=s6.toks) I6 (λb hb=>by
  have z:b=C:=by simpa using hb
  rw[z];exact fC) (λb u hb e=>(hs7.2 b (λz=>hb (by simp[z]))).trans e),rfl,q Dd acc Hx sm hD hx ia⟩⟩
end
section
variable{X:Cx}{pins:List (ae×Obj)}{σ:St}{H:Hp}{s:aj}{h':aF}
def Zg{fp:List ae}{t:ae}{o:HO}{t':Nat}(I:Inv X pins σ H s)(hf:∀b∈fp,xJ X pins H b)(k:∀b u,b∉fp->s.heap.get? b=aa u->h'.get? b=aa u)(hex:∀b∈fp,∀u,s.heap.get? b=aa u->∃u',h'.get? b=aa u')(ht:s.heap.objs.size<=t)
  (new:ig X.prog X.w (upd H t o) h' t o):Inv X pins σ (upd H t o) {s with heap:=h',toks:=t'}:=by
 have hn:H t=none:=I.hok.fresh ht;have nfp:∀b u,H b=aa u->b∉fp:=λb u e z=>by rw[(hf b z).1]at e;cases e
 refine I.step (g':=s.gens) (d':=s.drawn) (ch:=fp) (λb hb=>⟨(hf b hb).2.2.2.1,(hf b hb).2.1,(hf b hb).2.2.2.2.1,(hf b hb).2.2.2.2.2⟩) (λb u _ _ hc e _=>k b u hc e) (λb u _ _ hc e _=>⟨u.slots,k b u hc e⟩)
  (λb u _ e n=>by rw[aH (eU (dZ (bW e) ht))];exact n) (λb u hc e=>⟨u,k b u hc e⟩)
  (λb xs e=>by rw[aH (aV e hn)];exact e) (λb u xs e=>by rw[aH (aV e hn)];exact e) (λb ps e=>⟨#[],by rw[aH (aV e hn),e];simp⟩)
  (λm hm=>?_) (λb u e=>?_) I.bare
 ·obtain⟨ob,es,ep,ho,r⟩:=hm
  show 'U'
 ·by_cases hb:b=t
  ·subst hb;rw[aU]at e;cases e;exact new
  ·rw[aH hb]at e
   refine(I.hok b u e).Ml (λc v hc q=>k c v ?_ q) (λc q=>by rw[aH (aV q hn)];exact q) λc xs q=>by rw[aH (aV q hn)];exact q
   rcases hc with z|z
   ·rw[z];exact nfp b u e
   ·exact nfp c _ z
end
def Ite(K:ak)(l:ae):It:=
 ⟨λi H=>∃xs x,gS K H l xs/\xs[i]?=aa x,λi H x H'=>∃t y,H t=none/\H'=upd H t (.tup [.int (i:Nat),y])/\x=.ref t/\∀xs,gS K H l xs->xs[i]?=aa y,λi H=>∃xs,gS K H l xs/\xs.length<=i⟩
def R5{P:aS}{w:aD}{K:ak}{elts:List ao}{kk:Nat}{pp:Pos}(l e it:ae)(hei:e≠it):
  Turn P w K (.Tuple elts kk pp) (Ite K l) [e,it] e (λi h=>(∃old,IsEnum h e it (i:Nat) old)/\h.IsListIter it l i) where
 mem:=by simp
 obj:=λi h st b hb=>by
  obtain⟨⟨old,he⟩,o,e2,c,d⟩:=st;rcases aX.mp hb with rfl|hb
  ·exact⟨_,he,λv z=>by cases z⟩
  ·have z:b=it:=by simpa using hb
   subst z;exact⟨o,e2,λv z=>by rw[d]at z;cases z⟩
 keep:=λi h h' st k=>by obtain⟨⟨old,he⟩,hit⟩:=st;exact⟨⟨old,k e (by simp) _ he⟩,hit.at λo q=>k it (by simp) o q⟩
 item:=by
  show 'm';show ':';obtain⟨xs,x,hq,hx⟩:=hg;show 'X';obtain⟨u,hu,ru⟩:=rv.get hx;obtain⟨⟨old,he⟩,hit⟩:=st;refine wpAny_pyNext_enum_item he hit p.isList (x:=u) (by simpa using hu) hei λh' ho ML hT hsz hk=>?_;refine⟨_,rfl,wpAny_letOwnedTupleGo_enum ho λh'' aho Zh=>?_⟩;have hlt:e<s.heap.objs.size:=bW he;have akU:it<s.heap.objs.size:=by obtain⟨_,z,_⟩:=hit;exact bW z
  have kk:∀b o,b∉[e,it]->s.heap.get? b=aa o->h''.get? b=aa o:=λb o hb q=>by have h1:b≠e:=λz=>hb (by simp[z]);have h2:b≠it:=λz=>hb (by simp[z]);exact(Zh.2 b h1).trans (hk b o h1 h2 q)
  have akV:h''.get? s.heap.objs.size=aa {cls:=.type "tuple",data:=.seq #[.int i s.toks,u]}:=(Zh.2 _ (DR hlt)).trans hT;have hn:H s.heap.objs.size=none:=I.hok.fresh (aY _);refine⟨.ref s.heap.objs.size,upd H s.heap.objs.size (.tup [.int (i:Nat),x]),?_,rfl,⟨_,x,hn,rfl,rfl,λys hy=>by rw[I.Av hy hq];exact hx⟩,⟨⟨u,by simpa using aho⟩,ML.at λo q=>(Zh.2 it hei.symm).trans q⟩,λb hb=>?_⟩
  ·refine Zg (s:=s) I hf kk (λb hb u hu=>?_) (aY _) ⟨(by show 2<=aK;decide),[.int i s.toks,u],.cons ⟨_,rfl⟩ (.cons ru .nil),⟨_,akV,rfl,_,rfl⟩⟩
   rcases aX.mp hb with rfl|hb
   ·exact⟨_,aho⟩
   ·have z:b=it:=by simpa using hb
    subst z;obtain⟨o,q,_⟩:=ML;exact⟨o,(Zh.2 b hei.symm).trans q⟩
  ·rw[aH]
   ·exact(hf b hb).1
   ·rcases aX.mp hb with rfl|hb
    ·exact eU hlt
    ·have z:b=it:=by simpa using hb
     subst z;exact eU akU
 done:=by
  show 'm';show ':';obtain⟨xs,hq,hx⟩:=hg;show 'X';obtain⟨⟨old,he⟩,hit⟩:=st;have hl:=rv.length;refine wpAny_pyNext_enum_end (I.ok.hd hc) he hit p.isList (by simp;lia) λh' eb=>⟨rfl,?_⟩
  exact Kv (fp:=[e,it]) (t':=s.toks) I hf λb o hb q=>eb b o (λz=>hb (by simp[z])) q
 self:=λ_ _ _ _ _ st h=>by obtain⟨⟨old,he⟩,_⟩:=st;exact Zi he h
def Itv(K:ak)(l:ae)(n:Nat):It:=
 ⟨λi H=>i<n/\∃xs x,gS K H l xs/\xs.length=n/\xs[n-1-i]?=aa x,λi H x H'=>H'=H/\∀xs,gS K H l xs->xs[n-1-i]?=aa x,λi H=>i=n/\∃xs,gS K H l xs⟩
def UA{P:aS}{w:aD}{K:ak}{tg:ao}(l it:ae)(n:Nat):Turn P w K tg (Itv K l n) [it] it (λi h=>h.IsRevIter it l ((n:Int)-1-(i:Nat))) where
 mem:=by simp
 obj:=λi h st b hb=>by
  have z:b=it:=by simpa using hb
  subst z;obtain⟨o,e,c,d⟩:=st;exact⟨o,e,λv z=>by rw[d]at z;cases z⟩
 keep:=λi h h' st k=>st.at λo e=>k it (by simp) o e
 item:=by
  show 'm';show ':';obtain⟨hin,xs,x,hq,hl,hx⟩:=hg;show 'X';obtain⟨u,hu,ru⟩:=rv.get hx;have e1:(n:Int)-1-(i:Nat)=((n-1-i:Nat):Int):=by lia
  rw[e1]at st;refine Zj st p.isList (x:=u) (by simpa using hu) λh' Yc sb=>?_;have I1:Inv X pins σ H {s with heap:=h'}:=Kv (fp:=[it]) (t':=s.toks) I hf λb o hb q=>(sb.2 b (λz=>hb (by simp[z]))).trans q;obtain⟨o,e,c,d⟩:=id Yc;have e2:((n-1-i:Nat):Int)-1=(n:Int)-1-((i+1:Nat):Int):=by lia
  rw[e2]at Yc;exact⟨u,rfl,TU (s:={s with heap:=h'}) e c d (by decide) ⟨x,H,I1,ru,⟨rfl,λys hy=>by rw[I.Av hy hq];exact hx⟩,Yc,λb hb=>(hf b hb).1⟩⟩
 done:=by
  show 'm';show ':';obtain⟨rfl,xs,hq⟩:=hg;have e1:(i:Int)-1-(i:Nat)= -1:=by lia
  rw[e1]at st;exact Zk (I.ok.hd hc) st λh' eb=>⟨rfl,Kv (fp:=[it]) (t':=s.toks) I hf λb o hb q=>eb b o (λz=>hb (by simp[z])) q⟩
 self:=λ_ _ _ _ _ st h=>IJ st h
section
variable{X:Cx}{E:Str->Hp->Prop}{pos:Pos}
def nk(xs:AN):AN:=xs.zipIdx.map λp=>.tup [.int (p.2:Nat),p.1]
def G3{xs:AN}{d:D}(h:(nk xs)[i]?=aa d):∃x,xs[i]?=aa x/\d=.tup [.int (i:Nat),x]:=by
 unfold nk at h;rw[bK,List.getElem?_zipIdx]at h;cases q:xs[i]? with
 |none=>rw[q]at h;cases h
 |some x=>
  rw[q]at h;refine⟨x,rfl,?_⟩;have h':aa (D.tup [.int ((0+i:Nat):Int),x])=aa d:=h;rw[lH]at h';exact(ck.inj h').symm
def iE{a:ao}{elts:List ao}{kk:Nat}{pp p:Pos}{f:DE->R D}(hm:X.mg "enumerate"=none)(ha:PE X a (tD X.K E f))(hg:autoParam (Gl X "enumerate") wS)(hs:autoParam (ar [a] X.env=[(false,az a X.env)]) wS):
  PI X (.Tuple elts kk pp) (.Call (.Name "enumerate" p) [a] [] pos) (tI X.K E λenv=>(f env).bind λd=>(D3 d).bind λxs=>.ok (nk xs)):=by
 intro pins s σ H Rr I h;show '&';show '=';refine yD (pQ I hg hm boot_enumerate (p7 (gh (hpa pos pins s σ H (λvs H1=>bM H H1/\∃d,f env=.ok d/\∃v,vs=[v]/\Is X.K (g.P os) H1 d v/\Good E g.H₀ ((D3 d).bind λxs=>.ok (nk xs)) (λxs=>∀J H1,bM H H1->Yl X.K (g.P os) J H1 xs->Rr J H1)) I
  ⟨g,env,os,r,?_⟩) λus s1 ⟨vs,H1,I1,r1,q1⟩=>?_) hs rfl))
 ·exact Good.O6 m.bind (λd e q=>by
   show Good E g.H₀ (R.ok [d]) _;exact λvs H' s' i'=>by obtain⟨v,rfl,iv⟩:=IsL.IE i';exact⟨s',d,e,v,rfl,iv,q⟩)
 ·obtain⟨s1',d,_,v,rfl,iv,q⟩:=q1
  cases d with
  |lst xs=>
   obtain⟨l,ws,rfl,h1,h2⟩:=iv;obtain⟨u,rfl,ru⟩:=vals1 r1;cases ru;obtain⟨its,rv,pl,hz⟩:=I1.list h1.sq;refine call_enumerate_list pl.isList λh' he hit hsz hk=>?_;refine Zi he ?_;have I2:Inv X pins σ H1 {s1 with heap:=h'}:=I1.kept (t':=s1.toks) hk;have f1:∀b∈[s1.heap.objs.size+1,s1.heap.objs.size],xJ X pins H1 b:=λb hb=>by
    have Xz:s1.heap.objs.size<=b:=by simp only [aX,AV,or_false]at hb;rcases hb with rfl|rfl<;>lia
    exact I1.RB Xz (I1.hok.fresh Xz)
   refine⟨s1.heap.objs.size+1,[s1.heap.objs.size+1,s1.heap.objs.size],_,Ite X.K l,H1,rfl,I2,R5 l _ _ (DR (Ig _)),⟨⟨_,he⟩,hit⟩,f1,?_⟩;refine(show∀J H1,bM H H1->Yl X.K (g.P os) J H1 (nk xs)->Rr J H1 from q) _ H1 s1' λi H' P' ex=>⟨λd hd=>?_,λhi=>?_⟩
   ·obtain⟨x,hx,rfl⟩:=G3 hd
    obtain⟨y,hy,iy⟩:=(IsL.ext ex _ _ h2).get hx;refine⟨⟨ws,y,(h1.ext ex).sq,hy⟩,λz H2 hyl=>?_⟩;obtain⟨t,y',ht,rfl,rfl,hall⟩:=hyl;have e2:=hall ws (h1.ext ex).sq;rw[hy]at e2;cases e2;refine⟨bY ht _,t,_,rfl,.inl ⟨.inr ht,.inl aU⟩,IsL.cons rfl (IsL.one (Is.ext ⟨λ_ _ p _=>.inl p,λa o _ e=>bY ht _ a o e⟩ _ _ iy))⟩
   ·refine⟨ws,(h1.ext ex).sq,?_⟩
    rw[IsL.length h2];refine Az ?_;have:(nk xs).length=xs.length:=(by simp[nk]);lia
  |_=>show 'Z'
def C5:fV "reversed"=aa (.type "reversed"):=by decide +kernel
def iV{a tg:ao}{p:Pos}{f:DE->R D}(hm:X.mg "reversed"=none)(ha:PE X a (tD X.K E f))(hg:autoParam (Gl X "reversed") wS)(hs:autoParam (ar [a] X.env=[(false,az a X.env)]) wS):
  PI X tg (.Call (.Name "reversed" p) [a] [] pos) (tI X.K E λenv=>(f env).bind λd=>(D3 d).bind λxs=>.ok xs.reverse):=by
 intro pins s σ H Rr I h;show '&';show '=';refine yD (pQ I hg hm C5 (p7 (gh (hpa pos pins s σ H (λvs H1=>bM H H1/\∃d,f env=.ok d/\∃v,vs=[v]/\Is X.K (g.P os) H1 d v/\Good E g.H₀ ((D3 d).bind λxs=>.ok xs.reverse) (λxs=>∀J H1,bM H H1->Yl X.K (g.P os) J H1 xs->Rr J H1)) I
  ⟨g,env,os,r,?_⟩) λus s1 ⟨vs,H1,I1,r1,q1⟩=>?_) hs rfl))
 ·exact Good.O6 m.bind (λd e q=>by
   show Good E g.H₀ (R.ok [d]) _;exact λvs H' s' i'=>by obtain⟨v,rfl,iv⟩:=IsL.IE i';exact⟨s',d,e,v,rfl,iv,q⟩)
 ·obtain⟨s1',d,_,v,rfl,iv,q⟩:=q1
  cases d with
  |lst xs=>
   obtain⟨l,ws,rfl,h1,h2⟩:=iv;obtain⟨u,rfl,ru⟩:=vals1 r1;cases ru;obtain⟨its,rv,pl,hz⟩:=I1.list h1.sq;have hl:=rv.length;have hl2:ws.length=xs.length:=IsL.length h2;refine Zl pl.isList ?_;have e0:((its.toArray.size:Nat):Int)-1=(xs.length:Int)-1:=(by rw[cO];lia);rw[e0];have hit:({s1 with heap:=s1.heap.push (AW l ((xs.length:Int)-1))}:aj).heap.IsRevIter s1.heap.objs.size l ((xs.length:Int)-1):=⟨_,kE _ rfl,rfl,rfl⟩
   refine IJ hit ?_;have I2:Inv X pins σ H1 {s1 with heap:=s1.heap.push (AW l ((xs.length:Int)-1))}:=I1.kept (t':=s1.toks) λb o e=>dg _ e;have f1:∀b∈[s1.heap.objs.size],xJ X pins H1 b:=λb hb=>by have z:b=s1.heap.objs.size:=(by simpa using hb);subst z;show 'J'
   refine⟨_,[s1.heap.objs.size],_,Itv X.K l xs.length,H1,rfl,I2,UA l _ xs.length,?_,f1,?_⟩
   ·have e1:(xs.length:Int)-1-((0:Nat):Int)=(xs.length:Int)-1:=by lia
    rw[e1];exact hit
   refine(show∀J H1,bM H H1->Yl X.K (g.P os) J H1 xs.reverse->Rr J H1 from q) _ H1 s1' λi H' P' ex=>⟨λd hd=>?_,λhi=>?_⟩
   ·have hi:i<xs.length:=by
     have:=(bH.mp hd).1;simpa using this
    rw[tX hi]at hd;obtain⟨y,hy,iy⟩:=(IsL.ext ex _ _ h2).get hd;refine⟨⟨hi,ws,y,(h1.ext ex).sq,hl2,hy⟩,λz H2 hyl=>?_⟩;obtain⟨rfl,hall⟩:=hyl;have e2:=hall ws (h1.ext ex).sq;rw[hy]at e2;cases e2;exact⟨bM.refl _,Is.ext ⟨λ_ _ p _=>.inl p,λ_ _ _ e=>e⟩ _ _ iy⟩
   ·exact⟨by simpa using hi.symm,ws,(h1.ext ex).sq⟩
  |_=>show 'Z'
end
def JW:D->String
 |.non=>"NoneType"
 |.bl _=>"bool"
 |.int _=>"int"
 |.str _=>"str"
 |.lst _=>"list"
 |.tup _=>"tuple"
 |.exc _=>"tuple"
 |.fn _=>"tuple"
def tE(t T:String):Bool:=t==T||(t=="bool"&&T=="int")
def Kz(t T:String):Option Bool:=if((vI t)==(vI T))=true then aa true else if PySem.W.kitMeta T=true then(fastBuiltinMro t).map (·.contains (.type T))else none
theorem Zm(K:ak)(t T:String):Ow K (.type t) (.type T)=Kz t T:=rfl
def MM(T:String):Prop:=∀d:D,Kz (JW d) T=aa (tE (JW d) T)
def Ea{T:String}(h:Kz "NoneType" T=aa (tE "NoneType" T)/\Kz "bool" T=aa (tE "bool" T)/\Kz "int" T=aa (tE "int" T)/\Kz "str" T=aa (tE "str" T)/\Kz "list" T=aa (tE "list" T)/\Kz "tuple" T=aa (tE "tuple" T)):MM T:=λd=>by
 cases d with
 |non=>exact h.1
 |bl _=>exact h.2.1
 |int _=>exact h.2.2.1
 |str _=>exact h.2.2.2.1
 |lst _=>exact h.2.2.2.2.1
 |_=>exact h.2.2.2.2.2
def adF:MM "int":=Ea (by decide +kernel)
def Zn:MM "bool":=Ea (by decide +kernel)
def Pg:MM "list":=Ea (by decide +kernel)
def UB:MM "tuple":=Ea (by decide +kernel)
section
variable{X:Cx}{E:Str->Hp->Prop}{pos:Pos}
def adG{s:aj}{A:bx}{E:ah->aj->Prop}{Q:ah->aj->Prop}{d:D}{x:V}{u:ah}{T:String}{P:ae->Prop}(I:Inv X pins σ H s)(rx:RelV x u)(hd:Is X.K P H d x)(hne:∀n,d≠.exc n/\d≠.fn n)(kt:MM T)(h:∀tk,Q (.bool (tE (JW d) T)) {s with toks:=tk}):
  aG (aE X.prog X.w) A (call (.builtin "isinstance") [u,.type T]) Q E s:=by
 have e:Ow X.K (.type (JW d)) (.type T)=aa (tE (JW d) T):=(Zm _ _ _).trans (kt d);cases d with
 |non=>cases hd;exact yG I rx .non e h
 |bl b=>cases hd;exact yG I rx (.bl b) e h
 |int b=>cases hd;exact yG I rx (.int b) e h
 |str b=>cases hd;exact yG I rx (.str b) e h
 |lst ds=>
  obtain⟨a,vs,rfl,h1,h2⟩:=hd;cases rx;obtain⟨its,rv,⟨o,n,e1,c1,d1,t1⟩,hz⟩:=I.list h1.sq;exact lF Ox I.B1 ⟨o,e1,c1⟩ e (λz=>nomatch z) h
 |tup ds=>
  obtain⟨a,vs,rfl,h1,h2⟩:=hd;cases rx;obtain⟨its,rv,⟨o,e1,c1,d1⟩,hz⟩:=I.tuple h1.sq;exact lF Yt I.B1 ⟨o,e1,c1⟩ e (λz=>nomatch z) h
 |exc n=>exact((hne n).1 rfl).elim
 |fn n=>exact((hne n).2 rfl).elim
def R6(T:String)(d:D):R D:=match d with
 |.exc _=>.bad
 |.fn _=>.bad
 |d=>.ok (.bl (tE (JW d) T))
def adH{T:String}{d:D}(h:∀n,d≠.exc n/\d≠.fn n):R6 T d=.ok (.bl (tE (JW d) T)):=by
 cases d with
 |exc n=>exact((h n).1 rfl).elim
 |fn n=>exact((h n).2 rfl).elim
 |_=>rfl
def Gs:fV "isinstance"=aa (.builtin "isinstance"):=by decide +kernel
def adI:fV "int"=aa (.type "int"):=by decide +kernel
def Zo:fV "bool"=aa (.type "bool"):=by decide +kernel
def wj:fV "list"=aa (.type "list"):=by decide +kernel
def KA:fV "tuple"=aa (.type "tuple"):=by decide +kernel
def jn:fV "len"=aa (.builtin "len"):=by decide +kernel
def qI:fV "abs"=aa (.builtin "abs"):=by decide +kernel
def adJ:fV "max"=aa (.builtin "max"):=by decide +kernel
def UC{T:String}{p p2:Pos}{a:ao}{f:DE->R D}(kt:MM T)(hv:fV x=aa (.type T))(hm:X.mg "isinstance"=none)(hmt:X.mg x=none)(ha:PE X a (tB X.K E f))(hg:autoParam (Gl X "isinstance") wS)(hgt:autoParam (Gl X x) wS)
  (hn:autoParam (x≠"__name__") xI)(hdb:autoParam ((x==("__debug__":Str))=false) xI)
  (hs:autoParam (ar [a,.Name x p2] X.env=(false,az a X.env)::ar [.Name x p2] X.env) wS)(hpl:autoParam ((bF pos (ar [.Name x p2] X.env)).any (·.1)=false) wS)(hs2:autoParam (ar [.Name x p2] X.env=(false,az (.Name x p2) X.env)::ar [] X.env) wS):
  PE X (.Call (.Name "isinstance" p) [a,.Name x p2] [] pos) (tD X.K E λenv=>(f env).bind (R6 T)):=by
 have hty:PE X (.Name x p2) (tC (.ty T)):=X3 hgt hmt hv rfl hn hdb;refine imp (qA (r:=λxs H Q=>∃d v,xs=[v,.ty T]/\(∀n,d≠.exc n/\d≠.fn n)/\Is X.K Tr H d v/\Q (.bl (tE (JW d) T)) H) ?_ hg hm Gs (bc ha (bc hty bQ hs2) hs) (by decide) (by decide) hs hpl) λσ H Q ⟨g,env,os,r,m⟩=>⟨g,env,os,r,m.bind.mono λd _ q v H' s i=>?_⟩
 ·intro pins s σ H xs us Q I r h
  obtain⟨d,v,rfl,hne,hd,q⟩:=h;obtain⟨u,w,rfl,ru,xq⟩:=vals2 r;have e:w=.type T:=xq;subst e;exact adG I ru hd hne kt λtk=>⟨.bl _,H,I.tok _,rfl,q⟩
 ·by_cases hne:∀n,d≠.exc n/\d≠.fn n
  ·rw[adH hne]at q
   exact⟨d,v,rfl,hne,i,q _ H' s rfl⟩
  ·cases d with
   |exc n=>show 'Z'
   |fn n=>show 'Z'
   |_=>exact(hne λn=>⟨λz=>(nomatch z),λz=>(nomatch z)⟩).elim
def bools:AN->Option (List Bool)
 |[]=>aa []
 |.bl b::r=>(bools r).map (b::·)
 |_::_=>none
end
noncomputable def eqA:D->D->Option Bool
 |.non,.non=>aa true
 |.bl a,.bl b=>aa (a==b)
 |.int a,.int b=>aa (a==b)
 |.str a,.str b=>aa (a==b)
 |.bl a,.int b=>aa ((if a then 1 else 0)==b)
 |.int a,.bl b=>aa (a==(if b then 1 else 0))
 |.non,.bl _=>aa false
 |.non,.int _=>aa false
 |.non,.str _=>aa false
 |.bl _,.non=>aa false
 |.bl _,.str _=>aa false
 |.int _,.non=>aa false
 |.int _,.str _=>aa false
 |.str _,.non=>aa false
 |.str _,.bl _=>aa false
 |.str _,.int _=>aa false
 |_,_=>none
def xM(f:D->D->Option Bool):AN->AN->Option Bool
 |x::xs,y::ys=>(f x y).bind λb=>(xM f xs ys).map (b&&·)
 |_,_=>aa true
def zQ:Nat->D->D->Option Bool
 |0,x,y=>eqA x y
 |n+1,x,y=>match x,y with
  |.lst xs,.lst ys=>if xs.length=ys.length then xM (zQ n) xs ys else aa false
  |.tup xs,.tup ys=>(xM (zQ n) xs ys).map (·&&xs.length==ys.length)
  |x,y=>eqA x y
def eqJ(f:D->D->Option Bool)(xs ys:AN)(j:Nat):Bool:=((xs[j]?).bind λx=>(ys[j]?).bind λy=>f x y).getD false
def ES(n:Nat)(e:Nat->Bool):(bG (n+1)).all e=(e 0&&(bG n).all λj=>e (j+1)):=by rw[Ph,List.all_cons,List.all_map];rfl
theorem Cm{f:D->D->Option Bool}:∀{xs ys:AN}{b:Bool},xM f xs ys=aa b->(∀(j:Nat)(x y:D),xs[j]?=aa x->ys[j]?=aa y->f x y=aa (eqJ f xs ys j))/\b=(bG (min xs.length ys.length)).all (eqJ f xs ys)
 |[],ys,b,h=>by
  have h':aa true=aa b:=by cases ys<;>exact h
  cases h';exact⟨λj x y e=>by simp at e,by simp⟩
 |x::xs,[],b,h=>by cases h;exact⟨λj x y _ e=>by simp at e,by simp⟩
 |x::xs,y::ys,b,h=>by
  unfold xM at h;cases e1:f x y with
  |none=>rw[e1]at h;cases h
  |some c=>
   cases e2:xM f xs ys with
   |none=>rw[e1,e2]at h;cases h
   |some d=>
    rw[e1,e2]at h;have h':(c&&d)=b:=ck.inj h;obtain⟨q1,q2⟩:=Cm e2;refine⟨λj x' y' h1 h2=>?_,?_⟩
    ·cases j with
     |zero=>
      simp at h1 h2;subst h1 h2;show f x y=aa (((aa x).bind λx=>(aa y).bind λy=>f x y).getD false);simp[e1]
     |succ j=>exact q1 j x' y' (by simpa using h1) (by simpa using h2)
    ·have e3:min (x::xs).length (y::ys).length=min xs.length ys.length+1:=by simp[Nat.succ_min_succ]
     rw[e3,ES,<-h',q2];have e4:eqJ f (x::xs) (y::ys) 0=c:=by show(((aa x).bind λx=>(aa y).bind λy=>f x y).getD false)=c;simp[e1]
     rw[e4];rfl
section
variable{X:Cx}{pins:List (ae×Obj)}{σ:St}{H:Hp}{s:aj}
def UD{A:bx}{P:ae->Prop}{x y:D}{v w:V}{u u':ah}{b:Bool}(hx:Is X.K P H x v)(hy:Is X.K P H y w)(rv:RelV v u)(xq:RelV w u')(e:eqA x y=aa b):Aq A s u u' b/\yS A s u u' b/\yT A s u u' (!b):=by
 unfold eqA at e;split at e<;>first|cases e|skip
 ·cases hx;cases hy;cases rv;cases xq;exact⟨.same _,.none_none,.none_none⟩
 ·cases hx;cases hy;cases rv;cases xq;exact⟨.bool_bool _ _,.bool_bool _ _,.bool_bool _ _⟩
 ·cases hx;cases hy;show '2';show 'S';exact⟨.int_int _ _ _ _,.int_int _ _ _ _,.int_int _ _ _ _⟩
 ·cases hx;cases hy;show '2';show 'S';exact⟨.str_str _ _ _ _,.str_str _ _ _ _,.str_str _ _ _ _⟩
 ·cases hx;cases hy;cases rv;show 'S';exact⟨.bool_int _ _ _,.bool_int _ _ _,.bool_int _ _ _⟩
 ·cases hx;cases hy;show '2';cases xq;exact⟨.int_bool _ _ _,.int_bool _ _ _,.int_bool _ _ _⟩
 ·cases hx;cases hy;cases rv;cases xq;exact⟨.none_bool _,.none_bool _,.none_bool _⟩
 ·cases hx;cases hy;cases rv;show 'S';exact⟨.none_int _ _,.none_int _ _,.none_int _ _⟩
 ·cases hx;cases hy;cases rv;show 'S';exact⟨.none_str _ _,.none_str _ _,.none_str _ _⟩
 ·cases hx;cases hy;cases rv;cases xq;exact⟨.bool_none _,.bool_none _,.bool_none _⟩
 ·cases hx;cases hy;cases rv;show 'S';exact⟨.bool_str _ _ _,.bool_str _ _ _,.bool_str _ _ _⟩
 ·cases hx;cases hy;show '2';cases xq;exact⟨.int_none _ _,.int_none _ _,.int_none _ _⟩
 ·cases hx;cases hy;show '2';show 'S';exact⟨.int_str _ _ _ _,.int_str _ _ _ _,.int_str _ _ _ _⟩
 ·cases hx;cases hy;show '2';cases xq;exact⟨.str_none _ _,.str_none _ _,.str_none _ _⟩
 ·cases hx;cases hy;show '2';cases xq;exact⟨.str_bool _ _ _,.str_bool _ _ _,.str_bool _ _ _⟩
 ·cases hx;cases hy;show '2';show 'S';exact⟨.str_int _ _ _ _,.str_int _ _ _ _,.str_int _ _ _ _⟩
def KC{P:ae->Prop}{x y:D}{v:V}{b:Bool}(hx:Is X.K P H x v)(hy:Is X.K P H y v)(e:eqA x y=aa b):b=true:=by
 unfold eqA at e;split at e<;>first|cases e|skip
 all_goals cases hx
 all_goals cases hy
 all_goals simp
theorem ET{P:ae->Prop}{f:D->D->Option Bool}:∀{xs ys:AN}{vs:List V}{b:Bool},(∀x y v b,Is X.K P H x v->Is X.K P H y v->f x y=aa b->b=true)->IsL X.K P H xs vs->IsL X.K P H ys vs->xM f xs ys=aa b->b=true/\xs.length=ys.length
 |[],ys,vs,b,_,hx,hy,e=>by
  have e':vs=[]:=hx;subst e';have:=IsL.length hy;cases ys with
  |nil=>cases e;show 'È'
  |cons _ _=>simp at this
 |x::xs,[],vs,b,_,hx,hy,e=>by have:=IsL.length hx;have e':vs=[]:=hy;subst e';simp at this
 |x::xs,y::ys,vs,b,hf,⟨v,r,e1,p1,q1⟩,⟨v',r',e2,p2,q2⟩,e=>by
  subst e1;cases e2;unfold xM at e;cases h1:f x y with
  |none=>rw[h1]at e;cases e
  |some c=>
   cases h2:xM f xs ys with
   |none=>rw[h1,h2]at e;cases e
   |some d=>
    rw[h1,h2]at e;have e':(c&&d)=b:=ck.inj e;obtain⟨z1,z2⟩:=ET hf q1 q2 h2;have z3:=hf x y v c p1 p2 h1;subst z1 z3 e';exact⟨rfl,by simp[z2]⟩
theorem AX(I:Inv X pins σ H s){P:ae->Prop}:∀(n:Nat)(x y:D)(v:V)(b:Bool),Is X.K P H x v->Is X.K P H y v->zQ n x y=aa b->b=true
 |0,x,y,v,b,hx,hy,e=>KC hx hy e
 |n+1,x,y,v,b,hx,hy,e=>by
  unfold zQ at e;split at e
  ·rename_i xs ys
   obtain⟨a,vs,rfl,h1,h2⟩:=hx;obtain⟨a',O7,ea,h3,h4⟩:=hy;cases ea;have ev:=I.Av h1.sq h3.sq;subst ev;split at e
   ·exact(ET (AX I n) h2 h4 e).1
   ·rename_i c
    exact absurd ((IsL.length h2).symm.trans (IsL.length h4)) c
  ·rename_i xs ys
   obtain⟨a,vs,rfl,h1,h2⟩:=hx;obtain⟨a',O7,ea,h3,h4⟩:=hy;cases ea;have ev:=I.RA h1.sq h3.sq;subst ev;cases ez:xM (zQ n) xs ys with
   |none=>rw[ez]at e;cases e
   |some c=>
    rw[ez]at e;obtain⟨z1,z2⟩:=ET (AX I n) h2 h4 ez;subst z1;have e':(true&&(xs.length==ys.length))=b:=ck.inj e;rw[<-e',z2];simp
  ·exact KC hx hy e
theorem in1_units(A:bx):A.in1.units=A.units+1:=rfl
def Pj(I:Inv X pins σ H s){P:ae->Prop}:∀(n:Nat)(A:bx)(x y:D)(v w:V)(u u':ah)(b:Bool),A.units+n<iK->Is X.K P H x v->Is X.K P H y w->RelV v u->RelV w u'->zQ n x y=aa b->Aq A s u u' b/\yS A s u u' b/\yT A s u u' (!b)
 |0,A,x,y,v,w,u,u',b,hu,hx,hy,rv,xq,e=>UD hx hy rv xq e
 |n+1,A,x,y,v,w,u,u',b,hu,hx,hy,rv,xq,e=>by
  have e0:=e;unfold zQ at e;have hu1:A.in1.units+n<iK:=by rw[in1_units];lia
  have hu0:A.units<iK:=by lia
  split at e
  ·rename_i xs ys
   have hx0:=hx;have hy0:=hy;obtain⟨a,vs,rfl,h1,h2⟩:=hx;obtain⟨a',O7,rfl,h3,h4⟩:=hy;cases rv;cases xq;obtain⟨its,rvs,pl,hz⟩:=I.list h1.sq;obtain⟨its',UE,pl',hz'⟩:=I.list h3.sq;have l1:=rvs.length;have l2:=UE.length;have l3:vs.length=xs.length:=IsL.length h2;have l4:O7.length=ys.length:=IsL.length h4;have main:yS A s (.ref a) (.ref a') b/\yT A s (.ref a) (.ref a') (!b):=by
    split at e
    ·rename_i c
     obtain⟨q1,q2⟩:=Cm e;have hsz:its.toArray.size=its'.toArray.size:=(by simp;lia);have ak0:min xs.length ys.length=its.toArray.size:=(by simp;lia);rw[ak0]at q2;subst q2;have he:∀j (g1:j<its.toArray.size)(g2:j<its'.toArray.size),Aq A.in1 s its.toArray[j] its'.toArray[j] (eqJ (zQ n) xs ys j):=λj g1 g2=>by
      have j1:j<xs.length:=(by simp at g1;lia);have j2:j<ys.length:=(by simp at g2;lia);have f:=q1 j _ _ (aP j1) (aP j2);obtain⟨v1,hv1,XA⟩:=IsL.get h2 (aP j1);obtain⟨v2,hv2,XC⟩:=IsL.get h4 (aP j2);obtain⟨u1,adM,ru1⟩:=rvs.get hv1;obtain⟨u2,adN,ru2⟩:=UE.get hv2;have E1:its.toArray[j]=u1:=by have:=bH.mp adM;obtain⟨_,h⟩:=this;simpa using h
      have E2:its'.toArray[j]=u2:=by have:=bH.mp adN;obtain⟨_,h⟩:=this;simpa using h
      rw[E1,E2];show 'T'
     exact⟨yS.lists pl.isList pl'.isList hsz hu0 he,yT.lists pl.isList pl'.isList hsz hu0 he⟩
    ·rename_i c
     cases e;have hsz:(its.toArray.size !=its'.toArray.size)=true:=(by simp;lia);exact⟨yS.lists_lengths pl.isList pl'.isList hsz hu0,yT.lists_lengths pl.isList pl'.isList hsz hu0⟩
   refine⟨?_,main⟩
   by_cases ha:a=a'
   ·subst ha
    have:=AX I (n+1) _ _ _ _ hx0 hy0 e0;subst this;exact .same _
   ·exact .of_refs ha main.1
  ·rename_i xs ys
   have hx0:=hx;have hy0:=hy;obtain⟨a,vs,rfl,h1,h2⟩:=hx;obtain⟨a',O7,rfl,h3,h4⟩:=hy;cases rv;cases xq;obtain⟨its,rvs,pl,hz⟩:=I.tuple h1.sq;obtain⟨its',UE,pl',hz'⟩:=I.tuple h3.sq;have l1:=rvs.length;have l2:=UE.length;have l3:vs.length=xs.length:=IsL.length h2;have l4:O7.length=ys.length:=IsL.length h4;have main:yS A s (.ref a) (.ref a') b/\yT A s (.ref a) (.ref a') (!b):=by
    cases ez:xM (zQ n) xs ys with
    |none=>rw[ez]at e;cases e
    |some c=>
     rw[ez]at e;obtain⟨q1,q2⟩:=Cm ez;have s1:xs.length=its.toArray.size:=(by simp;lia);have s2:ys.length=its'.toArray.size:=(by simp;lia);have e':(c&&(xs.length==ys.length))=b:=ck.inj e;rw[q2]at e';have he:∀j (g1:j<its.toArray.size)(g2:j<its'.toArray.size),Aq A.in1 s its.toArray[j] its'.toArray[j] (eqJ (zQ n) xs ys j):=λj g1 g2=>by
      have j1:j<xs.length:=(by simp at g1;lia);have j2:j<ys.length:=(by simp at g2;lia);have f:=q1 j _ _ (aP j1) (aP j2);obtain⟨v1,hv1,XA⟩:=IsL.get h2 (aP j1);obtain⟨v2,hv2,XC⟩:=IsL.get h4 (aP j2);obtain⟨u1,adM,ru1⟩:=rvs.get hv1;obtain⟨u2,adN,ru2⟩:=UE.get hv2;have E1:its.toArray[j]=u1:=by have:=bH.mp adM;obtain⟨_,h⟩:=this;simpa using h
      have E2:its'.toArray[j]=u2:=by have:=bH.mp adN;obtain⟨_,h⟩:=this;simpa using h
      rw[E1,E2];show 'T'
     subst e';have R1:=yS.tuples (A:=A) (e:=eqJ (zQ n) xs ys) pl pl' hu0 he;have R2:=yT.tuples (A:=A) (e:=eqJ (zQ n) xs ys) pl pl' hu0 he;rw[<-s1,<-s2]at R1 R2;exact⟨R1,R2⟩
   refine⟨?_,main⟩
   by_cases ha:a=a'
   ·subst ha
    have:=AX I (n+1) _ _ _ _ hx0 hy0 e0;subst this;exact .same _
   ·exact .of_refs ha main.1
  ·exact UD hx hy rv xq e
end
section
variable{X:Cx}{E:Str->Hp->Prop}{pos:Pos}
def Zp(K:ak)(ne:Bool):R2:=λv w H Q=>∃x y b,Is K Tr H x v/\Is K Tr H y w/\zQ 6 x y=aa b/\Q (.bl (if ne=true then !b else b)) H
def gQ(hu:X.A.units+6<iK):B3 X (jf .Eq) (Zp X.K false):=by intro pins s σ H v w u u' Q I rx ry h;obtain⟨x,y,b,hx,hy,e,q⟩:=h;exact(Pj I 6 X.A x y v w u u' b hu hx hy rx ry e).2.1 X.prog X.w _ _ ⟨.bl b,H,I,rfl,q⟩
def wk(hu:X.A.units+6<iK):B3 X (jf .NotEq) (Zp X.K true):=by intro pins s σ H v w u u' Q I rx ry h;obtain⟨x,y,b,hx,hy,e,q⟩:=h;exact(Pj I 6 X.A x y v w u u' b hu hx hy rx ry e).2.2 X.prog X.w _ _ ⟨.bl (!b),H,I,rfl,q⟩
def Ae(x y:D):Option D:=(zQ 6 x y).map .bl
def G4(x y:D):Option D:=(zQ 6 x y).map λb=>.bl (!b)
def eu:wc X (Zp X.K false) Ae:=λx y d e=>by
 unfold Ae at e;cases h:zQ 6 x y with
 |none=>rw[h]at e;cases e
 |some b=>
  rw[h]at e;cases e;show 'K'
def rn:wc X (Zp X.K true) G4:=λx y d e=>by
 unfold G4 at e;cases h:zQ 6 x y with
 |none=>rw[h]at e;cases e
 |some b=>
  rw[h]at e;cases e;show 'K'
def cP.u6 {A:bx}(r:cP k A):A.units+6<iK:=by have:=r.un;lia
end
def Kp(nt:Nat)(b:D->DE->R DE):Prop:=∀(d:D)(r ts e':DE),ts.length=nt->b d (ts++r)=.ok e'->∃ts',e'=ts'++r/\ts'.length=nt
def kpN{nt:Nat}(i:Nat)(hi:autoParam (i<nt) xI):Kp nt λd env=>.ok (env.set i (.val d)):=λd r ts e' hl h=>by cases h;exact⟨ts.set i (.val d),by rw[List.set_append_left _ _ (by lia)],by simp[hl]⟩
theorem Kp.ok {nt:Nat}{b:D->DE->R DE}(h:Kp nt b):∀ds d e,b d (xt nt ds)=.ok e->∃ts,e=ts++ds.map Sl.val/\ts.length=nt:=λds d e q=>h d _ _ e (by simp) q
structure Df(K:ak)(mg:Str->Option ah)(x:Str)(st:aw)(ps:List Str)(f:ae)(fd:aL):Prop where
 F:Kh K x x st f fd
 b:Binds K fd ps []
 m:mg x=aa (.ref f)
 ns:vY K ed x=aa (aa (.ref f))
abbrev MN:Str->ah:=λ_=>.none
section
variable{X:Cx}{E:Str->Hp->Prop}{pos:Pos}{k:Nat}{fa:ae}{fd:aL}{st:aw}{ps:List Str}{x:Str}{p:Pos}{e:ao}{es:List ao}{f:DE->R AN}
def MO{m:AN->R D}(d:Df X.K X.mg x st ps fa fd)(F:fW X.prog X.w X.K X.mg X.base tw k fa fd ps (O9 X.K MN m))(hr:cP k X.A)
  (ha:PA X (e::es) (Tc X.K E f))(hg:autoParam (Gl X x) wS)(hdb:autoParam ((x==("__debug__":Str))=false) xI)(he:autoParam (ar (e::es) X.env=(false,az e X.env)::ar es X.env) wS)(hpl:autoParam ((bF pos (ar es X.env)).any (·.1)=false) wS):
  PE X (.Call (.Name x p) (e::es) [] pos) (tD X.K E λenv=>(f env).bind m):=fD F d.m d.F.kp d.b hr rS ha hg hdb he hpl
def ScD(m:AN->R D):Prop:=∀ds d,m ds=.ok d->∃z,toV d=aa z
def ScL(m:AN->R AN):Prop:=∀ds xs,m ds=.ok xs->∀d∈xs,∃z,toV d=aa z
def G5{m:AN->R D}(hsc:ScD m)(d:Df X.K X.mg x st ps fa fd)(F:fW X.prog X.w X.K X.mg X.base tw k fa fd ps (O9 X.K MN m))(hr:cP k X.A)
  (ha:PA X (e::es) (Cf X.K E f))(hg:autoParam (Gl X x) wS)(hdb:autoParam ((x==("__debug__":Str))=false) xI)(he:autoParam (ar (e::es) X.env=(false,az e X.env)::ar es X.env) wS)(hpl:autoParam ((bF pos (ar es X.env)).any (·.1)=false) wS):
  PE X (.Call (.Name x p) (e::es) [] pos) (tD X.K E λenv=>(f env).bind m):=fB F hsc d.m d.F.kp d.b hr rS ha hg hdb he hpl
def zD{m:AN->R AN}(d:Df X.K X.mg x st ps fa fd)(F:fW X.prog X.w X.K X.mg X.base tw k fa fd ps (Tg X.K MN m))(hr:cP k X.A)
  (ha:PA X (e::es) (Tc X.K E f))(hg:autoParam (Gl X x) wS)(hdb:autoParam ((x==("__debug__":Str))=false) xI)(he:autoParam (ar (e::es) X.env=(false,az e X.env)::ar es X.env) wS)(hpl:autoParam ((bF pos (ar es X.env)).any (·.1)=false) wS):
  PE X (.Call (.Name x p) (e::es) [] pos) (tF X.K E λenv=>(f env).bind m):=fF F d.m d.F.kp d.b hr rS ha hg hdb he hpl
def ahr{m:AN->R AN}(hsc:ScL m)(d:Df X.K X.mg x st ps fa fd)(F:fW X.prog X.w X.K X.mg X.base tw k fa fd ps (Tg X.K MN m))(hr:cP k X.A)
  (ha:PA X (e::es) (Cf X.K E f))(hg:autoParam (Gl X x) wS)(hdb:autoParam ((x==("__debug__":Str))=false) xI)(he:autoParam (ar (e::es) X.env=(false,az e X.env)::ar es X.env) wS)(hpl:autoParam ((bF pos (ar es X.env)).any (·.1)=false) wS):
  PE X (.Call (.Name x p) (e::es) [] pos) (tF X.K E λenv=>(f env).bind m):=fFB F hsc d.m d.F.kp d.b hr rS ha hg hdb he hpl
end
abbrev Ok(P:aS)(w:aD)(K:ak)(mg:Str->Option ah)(base:aF)(k:Nat)(f:ae)(fd:aL)(ps:List Str)(m:AN->R D):Prop:=fW P w K mg base tw k f fd ps (O9 K MN m)
abbrev pF(P:aS)(w:aD)(K:ak)(mg:Str->Option ah)(base:aF)(k:Nat)(f:ae)(fd:aL)(ps:List Str)(m:AN->R AN):Prop:=fW P w K mg base tw k f fd ps (Tg K MN m)
section
variable{P:aS}{w:aD}{K:ak}{mg:Str->Option ah}{base:aF}
def mkD{st:aw}{f:ae}{fd:aL}{N ps:List Str}{m:AN->R D}{b:DE->R Out}(S:aT N ps (au st))(d:Df K mg x st ps f fd)
  (hb:∀(cdv:ah)(A:bx)(outer:List Env)(s:aj)(H:Hp)(E:XK),cP k (A.deeper (gW x (au st) s.heap.objs.size f cdv))->zL (z8 tw P w K mg base N x (au st) f cdv A outer s H E).S8 (eg st) (tS K EN b))
  (hm:∀ds d,m ds=.ok d->ds.length=ps.length/\(b (aB N.length ds)).bind aA=.ok d)(hne:∀ds c,m ds≠.err c):
  Ok P w K mg base (k+1) f fd ps m:=akF d.F S hm hne hb
def mkF{st:aw}{f:ae}{fd:aL}{N ps:List Str}{m:AN->R AN}{b:DE->R Out}(S:aT N ps (au st))(d:Df K mg x st ps f fd)
  (hb:∀(cdv:ah)(A:bx)(outer:List Env)(s:aj)(H:Hp)(E:XK),cP k (A.deeper (gW x (au st) s.heap.objs.size f cdv))->zL (z8 tw P w K mg base N x (au st) f cdv A outer s H E).S8 (eg st) (tS K EN b))
  (hm:∀ds d,m ds=.ok d->ds.length=ps.length/\(b (aB N.length ds)).bind aC=.ok d)(hne:∀ds c,m ds≠.err c):
  pF P w K mg base (k+1) f fd ps m:=akG d.F S hm hne hb
end
section
variable{X:Cx}{E:Str->Hp->Prop}{pos:Pos}
def G6(x y:D):Option D:=match y with
 |.non=>aa (.bl (match x with
  |.non=>false
  |_=>true))
 |_=>none
def Zq{K:ak}{P:ae->Prop}{x:D}{v:V}(h:Is K P H x v):decide (v=V.non)=(match x with
  |.non=>true
  |_=>false):=by
 cases x with
 |non=>cases h;rfl
 |bl _=>cases h;rfl
 |int _=>cases h;rfl
 |str _=>cases h;rfl
 |fn _=>obtain⟨a,rfl,_⟩:=h;rfl
 |_=>obtain⟨a,vs,rfl,_⟩:=h;rfl
def KD:wc X (λx y H Q=>y=.non/\Q (.bl (!decide (x=.non))) H) G6:=λx y d e=>by
 unfold G6 at e;split at e
 ·cases e
  refine⟨_,rfl,λH v w Q h1 h2 q=>⟨h2,?_⟩⟩;rw[Zq h1];cases x<;>exact q
 ·cases e
def KG(xs:AN):D->R AN
 |.int k=> @ite _ (-(2^63)<=k/\k<2^63/\xs.length*k.toNat<=aK) (gB _) (.ok (aO k.toNat xs).flatten) .bad
 |_=>.bad
theorem IsL.rep {K:ak}{P:ae->Prop}{vs:List V}(h:IsL K P H ds vs):∀n:Nat,IsL K P H (aO n ds).flatten (aO n vs).flatten
 |0=>rfl
 |n+1=>by rw[cA,cA,dM,dM];exact h.app (IsL.rep h n)
def ahs{a b:ao}{fa:DE->R AN}{fb:DE->R D}(ha:PE X a (tF X.K E fa))(hb:PE X b (tB X.K E fb)):PE X (.BinOp a .Mult b pos) (tF X.K E λenv=>(fa env).bind λx=>(fb env).bind λy=>KG x y):=
 imp (zN Ug ha hb) λσ H Q ⟨g,env,os,r,m⟩=>⟨g,env,os,r,m.bind.mono λx _ m1 a1 v1 H1 s1 hn hH i1=>⟨g,env,os,r.same s1,m1.bind.mono λy _ m2 w H2 s2 i2=>by
  unfold KG at m2;split at m2
  ·rename_i k _
   split at m2
   ·rename_i c
    have i1':IsL X.K (g.P os) H1 x v1:=IsL.ext ⟨λb o p _=>⟨p.1,λz=>p.2 (bE _ z)⟩,λ_ _ _ q=>q⟩ _ _ i1;refine⟨a1,k,v1,rfl,i2,s2 _ _ hH,c.1,c.2.1,by rw[i1'.length];exact c.2.2,λp hp=>?_⟩;obtain⟨b1,b2,b3,b4⟩:=Ks r (s1.trans s2) hp ((i1'.same s2).rep k.toNat);exact m2 p _ _ b1 b2 b3 b4
   ·show 'Ê'
  ·exact m2.elim⟩⟩
def KH:fV "range"=aa (.type "range"):=by decide +kernel
def yU:AN->R AN
 |[.int j]=> @ite _ (0<=j/\j<=1000000) (gB _) (.ok (xK 0 j.toNat)) .bad
 |_=>.bad
def Zs{K:ak}{P:ae->Prop}:IsL K P H (xK 0 n) ((bG n).map λi=>V.int (0+(i:Nat))):=by
 unfold xK
 induction (bG n)with
 |nil=>rfl
 |cons x r ih=>show '4'
def Gu{acc:List ah}(h1:acc.length=n)(h2:∀(j:Nat)(v:ah),acc[j]?=aa v->∃t,v=.int (0+(j:Nat)) t):Vals ((bG n).map λi=>V.int (0+(i:Nat))) acc:=by
 have gen:∀(l:List ah)(k:Nat),(∀(j:Nat)(v:ah),l[j]?=aa v->∃t,v=.int (0+((k+j:Nat):Int)) t)->Vals ((Zt k l.length).map λi=>V.int (0+(i:Nat))) l:=by
  intro l
  induction l with
  |nil=>intro k _;exact .nil
  |cons x r ih=>
   intro k hk;rw[aR,Zu,bq];refine .cons ?_ (ih (k+1) λj v e=>?_)
   ·obtain⟨t,e⟩:=hk 0 x (by simp)
    exact⟨t,e⟩
   ·obtain⟨t,e⟩:=hk (j+1) v (by simpa using e)
    exact⟨t,by rw[e];congr 2;lia⟩
 subst h1;rw[Zv];exact gen acc 0 λj v e=>by obtain⟨t,q⟩:=h2 j v e;exact⟨t,by rw[q];congr 2;lia⟩
def UG{a:ao}{p p2 Af:Pos}{f:DE->R AN}(hc:X.calm=true)(UH:X.mg "list"=none)(hmr:X.mg "range"=none)(ha:PA X [a] (Cf X.K E f))(hgl:autoParam (Gl X "list") wS)(hgr:autoParam (Gl X "range") wS)
  (hs:autoParam (ar [a] X.env=[(false,az a X.env)]) wS)(he:autoParam (ar [.Call (.Name "range" p2) [a] [] Af] X.env=(false,az (.Call (.Name "range" p2) [a] [] Af) X.env)::ar [] X.env) wS)(hpl:autoParam ((bF pos (ar [] X.env)).any (·.1)=false) wS):
  PE X (.Call (.Name "list" p) [.Call (.Name "range" p2) [a] [] Af] [] pos) (tF X.K E λenv=>(f env).bind yU):=by
 show 'c';show '&';show '8';refine p7 ?_ he hpl;rw[he];refine DY ?_;refine yD (pQ I hgr hmr KH (p7 (gh (ha Af pins s σ H _ I ⟨g,env,os,r,m.bind.mono λds _ q vs H1 s1 i1=>(⟨ds,s1,i1,q⟩:∃ds,bM H H1/\IsL X.K Tr H1 ds vs/\Good E g.H₀ (yU ds) _)⟩) λus s1 ⟨vs,H1,I1,r1,ds,sm,i1,q⟩=>?_) hs rfl));unfold yU at q;split at q
 ·rename_i j
  split at q
  ·rename_i c
   obtain⟨v,rfl,iv⟩:=IsL.IE i1;have iv':v=.int j:=iv;subst iv';obtain⟨u,rfl,t,rfl⟩:=vals1 r1;refine call_range_1 ?_;have I2:Inv X pins σ H1 {s1 with heap:=s1.heap.push {cls:=.type "range",data:=.fields #[.int 0 s1.toks,.int j t,.int 1 (s1.toks+1)]},toks:=s1.toks+1+1}:=I1.kept λb o e=>dg _ e;refine DX ?_;have hd:X.A.handled=none:=I.ok.hd hc;have hsz:kF 0 j 1=(j.toNat:Nat):=(by rw[rangeSize_one];split<;>lia);refine Zw hd (IsRange.new ..) (small_one (by lia) (by lia) (by lia) (by lia)) hsz (by lia) λh' tk rT c' hk hl hit=>?_;obtain⟨hi1,hi2⟩:=hit;have hv:Vals ((bG j.toNat).map λi=>V.int (0+(i:Nat))) rT.toList:=Gu (by simpa using hi1) λi v e=>by obtain⟨t,q⟩:=hi2 i v (by simpa using e);exact⟨t,by rw[q];congr 1;lia⟩
   have hlen:((bG j.toNat).map λi=>V.int (0+(i:Nat))).length<=aK:=by rw[aN,Pk];exact lD (show j.toNat<=1000000 by lia) (by decide)
   refine⟨.ref _,upd H1 _ (.lst ((bG j.toNat).map λi=>V.int (0+(i:Nat)))),I2.laid (a:=_) hk (aY _) ⟨hlen,rT.toList,c',hv,by simpa using hl⟩,rfl,?_⟩;have hn:H1 (s1.heap.push {cls:=.type "range",data:=.fields #[.int 0 s1.toks,.int j t,.int 1 (s1.toks+1)]}).objs.size=none:=I2.hok.fresh (aY _);exact q _ _ _ (sm.trans (bY hn _)) (sm.free hn) aU Zs
  ·show 'Z'
 ·show 'Z'
end
def iA:D->D->Option D
 |.int i,.int j=>aa (.int (i+j))
 |_,_=>none
def cV{X:Cx}:wc X (Mf λi j=>.int (i+j)) iA:=uX (h:=λi j=>.int (i+j)) (λ_ _=>rfl) λx y d e=>by unfold iA at e;split at e<;>cases e;exact⟨_,_,rfl,rfl,rfl⟩
noncomputable def abE(osc sc:du)(XN N:List Str)(nt:Nat)(caps:List Nat):Bool:=
 sc.kind==.function&&sc.names.all (λy=>y.2 !=.cell&&(y.2 !=.local||sc.names.lookup y.1==aa .local)&&(y.2 !=.free||osc.names.lookup y.1==aa .cell||osc.names.lookup y.1==aa .free))&&
 N.length==nt+caps.length&&decide N.Nodup&&(bG caps.length).all λj=>match caps[j]?,N[nt+j]? with
  |some i,aa x=>XN[i]?==aa x&&sc.names.lookup x==aa .free&&(osc.names.lookup x==aa .local||osc.names.lookup x==aa .cell||osc.names.lookup x==aa .free)
  |_,_=>false
def cpS{X:Cx}{sc:du}{N:List Str}{nt:Nat}{caps:List Nat}(osc:du)(XN:List Str)(h:abE osc sc XN N nt caps=true)(hsc:autoParam (X.env.scope=osc) wS)(hN:autoParam (X.N=XN) wS):qi X sc N nt caps:=by
 subst hsc hN;unfold abE at h;simp only [di,gZ,yV,decide_eq_true_eq,beq_iff_eq,bne_iff_ne,ne_eq]at h;obtain⟨⟨⟨⟨h1,h2⟩,h3⟩,h4⟩,h5⟩:=h;refine⟨by simpa using h1,λy hy=>(h2 y hy).1.1,λy hy e=>?_,λy hy e=>?_,h3,h4,λj i e=>?_⟩
 ·rcases(h2 y hy).1.2 with q|q
  ·exact absurd e q
  ·exact q
 ·rcases(h2 y hy).2 with(q|q)|q
  ·exact absurd e q
  ·exact .inl q
  ·exact .inr q
 ·have hj:j<caps.length:=(bH.mp e).1
  have q:=h5 j (by simpa using hj);rw[e]at q;cases hx:N[nt+j]? with
  |none=>rw[hx]at q;exact absurd q (by simp)
  |some x=>
   rw[hx]at q;simp only [di,yV,beq_iff_eq]at q;obtain⟨⟨q1,q2⟩,q3⟩:=q;refine⟨x,rfl,q1,q2,?_⟩;rcases q3 with(q3|q3)|q3
   ·exact .inl q3
   ·exact .inr (.inl q3)
   ·exact .inr (.inr q3)
def ak4(i:Nat):Out->R Out
 |.nx e=>.ok (.nx (Gi i e))
 |o=>.ok o
theorem fJ(i j:Int):iA (.int i) (.int j)=aa (.int (i+j)):=rfl
theorem jo(i j:Int):kY (.int i) (.int j)=aa (.int (i-j)):=rfl
theorem jq(i:Int):zB (.int i)=aa (.int (-i)):=rfl
theorem nq(i j:Int):R3 (.int i) (.int j)=aa (.bl (decide (i<j))):=rfl
theorem nv(i j:Int):kLe (.int i) (.int j)=aa (.bl (decide (i<=j))):=rfl
theorem nA(i j:Int):Dt (.int i) (.int j)=aa (.bl (decide (j<i))):=rfl
theorem nC(i j:Int):kGe (.int i) (.int j)=aa (.bl (decide (j<=i))):=rfl
theorem nE(i j:Int):Ae (.int i) (.int j)=aa (.bl (i==j)):=rfl
theorem nG(i j:Int):G4 (.int i) (.int j)=aa (.bl (!(i==j))):=rfl
theorem nH(i j:Str):Ae (.str i) (.str j)=aa (.bl (i==j)):=rfl
theorem nJ(i j:Str):G4 (.str i) (.str j)=aa (.bl (!(i==j))):=rfl
def IK(i j:Int)(h:(-(2^64)<i/\i<2^64)\/(-(2^64)<j/\j<2^64)):MI (.int i) (.int j)=aa (.int (i*j)):=if_pos h
def wm(i j:Int)(h:0<j/\j<1073741824):Cg (.int i) (.int j)=aa (.int (i/j)):=if_pos h
def nK(i j:Int)(h:0<j):uW (.int i) (.int j)=aa (.int (i%j)):=if_pos h
theorem UI(i:Int):zC [.int i]=aa (.int (if i<0 then-i else i)):=rfl
theorem fY(i j:Int):O8 [.int i,.int j]=aa (.int (if j>i then j else i)):=rfl
theorem jr(xs:AN):we [.lst xs]=aa (.int xs.length):=rfl
theorem jt(xs:AN):we [.tup xs]=aa (.int xs.length):=rfl
theorem nM(b:Bool):jk (.bl b)=.ok b:=rfl
theorem nN(xs:AN):D3 (.lst xs)=.ok xs:=rfl
theorem nP(i:Int):Mg (.int i)=.ok (aa i):=rfl
theorem nQ(xs:AN)(i:Int):yP xs (.int i)=R.of (mO xs i):=rfl
theorem nR(xs:AN)(i:Int):Aa (.lst xs) (.int i)=R.of (mO xs i):=rfl
theorem nS(xs:AN)(i:Int):Aa (.tup xs) (.int i)=R.of (mO xs i):=rfl
def xS{α:Type}{xs:List α}(h:xs.length<=aK):fit xs=.ok xs:=if_pos h
def big(h:n<=1000000):n<=aK:=lD h (by decide)
def wo{α:Type}:fit ([]:List α)=.ok []:=xS (big (by simp))
def wq{α:Type}(a:α):fit [a]=.ok [a]:=xS (big (by simp))
def wu{α:Type}(a b:α):fit [a,b]=.ok [a,b]:=xS (big (by simp))
def wx{α:Type}(a b c:α):fit [a,b,c]=.ok [a,b,c]:=xS (big (by simp))
def wy{α:Type}(a b c d:α):fit [a,b,c,d]=.ok [a,b,c,d]:=xS (big (by simp))
def adP(j:Int)(h: -(2^62)<=j/\j<2^62):Ut [.int j]=.ok (xK 0 j.toNat):=if_pos h
def UJ(i j:Int)(h: -(2^62)<=i/\i<2^62/\ -(2^62)<=j/\j<2^62):R4 [.int i,.int j]=.ok (xK i (j-i).toNat):=if_pos h
def G7(j:Int)(h:0<=j/\j<=1000000):yU [.int j]=.ok (xK 0 j.toNat):=if_pos h
def MP(xs:AN)(k:Int)(h: -(2^63)<=k/\k<2^63/\xs.length*k.toNat<=aK):KG xs (.int k)=.ok (aO k.toNat xs).flatten:=if_pos h
theorem fZ(e:DE)(k:DE->R Out):bV (.ok (.nx e)) k=k e:=rfl
theorem f9(d:D)(k:DE->R Out):bV (.ok (.rt d)) k=.ok (.rt d):=rfl
theorem dW(d:AN)(k:DE->R Out):bV (.ok (.qZ d)) k=.ok (.qZ d):=rfl
theorem gb(i:Nat)(e:DE):ak4 i (.nx e)=.ok (.nx (Gi i e)):=rfl
theorem KI{S:Type}{b:D->DE->R Out}(I:S->Prop)(Ev:S->DE)(step:S->D->S):∀(xs:AN)(s:S),I s->(∀s x,I s->x∈xs->b x (Ev s)=.ok (.nx (Ev (step s x)))/\I (step s x))->iS b xs (Ev s)=.ok (.nx (Ev (xs.foldl step s)))/\I (xs.foldl step s)
 |[],s,hI,h=>⟨rfl,hI⟩
 |x::xs,s,hI,h=>by obtain⟨h1,h2⟩:=h s x hI (by simp);have ih:=KI I Ev step xs (step s x) h2 λs y hs hy=>h s y hs (by simp[hy]);unfold iS;rw[h1];exact ih
theorem xT{S:Type}{b:D->DE->R Out}(J:Nat->S->Prop)(Ev:S->DE):∀(xs:AN)(i:Nat)(s:S),J i s->(∀(j:Nat)(s:S)(x:D),J (i+j) s->xs[j]?=aa x->∃s',b x (Ev s)=.ok (.nx (Ev s'))/\J (i+j+1) s')->∃s',iS b xs (Ev s)=.ok (.nx (Ev s'))/\J (i+xs.length) s'
 |[],i,s,hI,h=>⟨s,rfl,hI⟩
 |x::xs,i,s,hI,h=>by
  obtain⟨s1,h1,h2⟩:=h 0 s x hI rfl;obtain⟨s2,h3,h4⟩:=xT J Ev xs (i+1) s1 (by simpa using h2) λj s y hs hy=>by have e:i+1+j=i+(j+1):=(by lia);rw[e]at hs⊢;exact h (j+1) s y hs (by simpa using hy)
  refine⟨s2,?_,by rw[aR,show i+(xs.length+1)=i+1+xs.length by lia];exact h4⟩;unfold iS;rw[h1];exact h3
theorem Cn{b:D->DE->R DE}{ct:DE->R Bool}{fe:DE->R D}{e₀:DE}(g:D->D):∀(xs:AN),(∀x∈xs,∃e,b x e₀=.ok e/\ct e=.ok true/\fe e=.ok (g x))->kW b ct fe e₀ xs=.ok (xs.map g)
 |[],_=>rfl
 |x::xs,h=>by obtain⟨e,h1,h2,h3⟩:=h x (by simp);have ih:=Cn g xs λy hy=>h y (by simp[hy]);unfold kW;rw[h1,R.bX,h2,R.bX,if_pos rfl,h3,R.bX,ih];rfl
def bp(ns:Ap):AN:=ns.map .int
def cK(ns:Ap):(bp ns).length=ns.length:=aN _
def Pn:AN->Option Ap
 |[]=>aa []
 |.int i::r=>(Pn r).map (i::·)
 |_::_=>none
def IL(ns:Ap):Pn (bp ns)=aa ns:=by
 induction ns with
 |nil=>rfl
 |cons x r ih=>show(Pn (bp r)).map (x::·)=_;rw[ih];rfl
theorem EU:∀{xs:AN}{ns:Ap},Pn xs=aa ns->xs=bp ns
 |[],ns,h=>by cases h;rfl
 |.int i::r,ns,h=>by
  unfold Pn at h;cases e:Pn r with
  |none=>rw[e]at h;cases h
  |some ms=>rw[e]at h;cases h;rw[EU e];rfl
 |.non::r,_,h=>by cases h
 |.bl _::r,_,h=>by cases h
 |.str _::r,_,h=>by cases h
 |.lst _::r,_,h=>by cases h
 |.tup _::r,_,h=>by cases h
theorem G8(n:Nat):∀(a b:Ap),a.length=b.length->xM (zQ n) (bp a) (bp b)=aa (decide (a=b))
 |[],[],_=>rfl
 |[],_::_,h=>by simp at h
 |_::_,[],h=>by simp at h
 |x::a,y::b,h=>by
  have ih:=G8 n a b (by simpa using h);show(zQ n (.int x) (.int y)).bind _=_;have e:zQ n (.int x) (.int y)=aa (x==y):=by cases n<;>rfl
  rw[e];show(xM (zQ n) (bp a) (bp b)).map ((x==y)&&·)=_;rw[ih];show aa ((x==y)&&decide (a=b))=aa (decide (x::a=y::b));congr 1;rw[yE];simp
def EV(n:Nat)(a b:Ap):zQ (n+1) (.lst (bp a)) (.lst (bp b))=aa (decide (a=b)):=by
 show(if(bp a).length=(bp b).length then xM (zQ n) (bp a) (bp b)else aa false)=_;split
 ·rename_i h
  exact G8 n a b (by simpa[cK]using h)
 ·rename_i h
  congr 1
  symm
  rw[decide_eq_false_iff_not];rintro rfl;exact h rfl
def ahv(a b:Ap):Ae (.lst (bp a)) (.lst (bp b))=aa (.bl (decide (a=b))):=by unfold Ae;rw[EV];rfl
def ahw(a b:Ap):G4 (.lst (bp a)) (.lst (bp b))=aa (.bl (!decide (a=b))):=by unfold G4;rw[EV];rfl
def AY(ns:Ap)(i:Int):mO (bp ns) i=(mO ns i).map .int:=by
 unfold L2.mO;rw[cK];cases Ao ns.length i with
 |none=>rfl
 |some j=>exact bK
def tY(ns:Ap)(lo hi:Option Int):cut (bp ns) lo hi=bp (cut ns lo hi):=by unfold cut;rw[cK];simp only [bp,List.map_take,tZ]
def Eb(lo:Int)(n:Nat):xK lo n=bp ((bG n).map λi=>lo+(i:Nat)):=by unfold xK bp;rw[jV];rfl
def bN(i:Nat)(d:D)(env:DE):R DE:=.ok (env.set i (.val d))
def R7:AN->DE->R DE
 |[],env=>.ok env
 |_::_,_=>.bad
def zR(b:D->DE->R DE)(k:AN->DE->R DE):AN->DE->R DE
 |d::r,env=>(b d env).bind λe'=>k r e'
 |[],_=>.bad
def bT(n:Nat)(b:AN->DE->R DE):D->DE->R DE
 |.tup ds,env=>if ds.length=n then b ds env else .bad
 |_,_=>.bad
def Zx(i:Nat)(env:DE)(xs:AN)(d:D):R Out:= @ite _ (xs.length<aK) (gB _) (.ok (.nx (env.set i (.own (xs++[d]))))) (.bad)
def Zy(i:Nat)(env:DE)(xs ys:AN):R Out:= @ite _ (xs.length+ys.length<=aK) (gB _) (.ok (.nx (env.set i (.own (xs++ys))))) (.bad)
def adQ(i:Nat)(env:DE)(xs:AN):R Out:=if 0<xs.length then .ok (.nx (env.set i (.own xs.dropLast)))else .bad
def KJ(i:Nat)(env:DE)(d:D)(xs:AN):D->R Out
 |.int j=>(match Ao xs.length j with
  |some n=>.ok (.nx (env.set i (.own (xs.set n d))))
  |none=>.bad)
 |_=>.bad
def R8(h:Int->Int->Int)(i:Nat)(env:DE):D->D->R Out
 |.int u,.int w=>.ok (.nx (env.set i (.val (.int (h u w)))))
 |_,_=>.bad
section
variable{X:Cx}{E:Str->Hp->Prop}{pos:Pos}
def EY(i:Nat)(hN:X.N.Nodup)(hi:autoParam (X.N[i]?=aa x) wS)(hx:autoParam (Loc X.env.scope x) xL)(hf:autoParam (X.fn x=true\/X.env.scope.names.lookup x=aa .local) xL):
  PG X (.Name x pos) (tG X.K E (bN i)):=gN i hN hi hx hf
def MQ:Oa X [] (tGs X.K E R7):=by
 have e:R7=λds env=>match ds with
  |[]=>.ok env
  |_=>.bad:=by funext ds env;cases ds<;>rfl
 rw[e];exact ahc
def yW{e:ao}{es:List ao}{b:D->DE->R DE}{k:AN->DE->R DE}(h1:PG X e (tG X.K E b))(h2:Oa X es (tGs X.K E k))(hs:autoParam ((jg (e::es) X.env).map (·.2)=p6 e X.env::(jg es X.env).map (·.2)) wS):
  Oa X (e::es) (tGs X.K E (zR b k)):=by
 have e':zR b k=λds env=>match ds with
   |d::r=>(b d env).bind λe'=>k r e'
   |_=>.bad:=by funext ds env;cases ds<;>rfl
 rw[e'];exact adu h1 h2 hs
def gT2{es:List ao}{kk:Nat}{b:AN->DE->R DE}(n:Nat)(hc:X.calm=true)(h:Oa X es (tGs X.K E b))(hn:autoParam ((jg es X.env).length=n) wS)(hst:autoParam ((jg es X.env).findIdx? (·.1)=none) wS):
  PG X (.Tuple es kk pos) (tG X.K E (bT n b)):=by
 have e':bT n b=λd env=>match d with
   |.tup ds=>if ds.length=n then b ds env else .bad
   |_=>.bad:=by funext d env;cases d<;>rfl
 rw[e'];exact gT hc h hn hst
def R9{nt:Nat}(i:Nat)(hi:autoParam (i<nt) xI):Kp nt (bN i):=kpN i hi
def abG(i:Nat){f:DE->R D}{p apos cU:Pos}(he:PE X e (tD X.K E f))(hN:autoParam (X.N[i]?=aa x) wS)(hv:autoParam (Dm X.env.scope x) xL)(hd:autoParam ((x==("__debug__":Str))=false) xI)
  (hcd:autoParam ((x==("__classdict__":Str))=false) xI)
  (hbase:autoParam (jP (.Name x p) "append" X.env (az (.Name x p) X.env)=az (.Name x p) X.env) wS)
  (hfew:autoParam (((bF cU (ar [e] X.env)).all (λx=> !x.1)&&(nc cU (ng [] X.env)).all (λx=>x.1.isSome)
   &&decide ([e].length+([]:List gX).length+(if([]:List gX).isEmpty then 0 else 1)<30))=true) wS)
  (hline:autoParam ((apos.endLine==cU.line)=true) wS)(hst:autoParam (ar [e] X.env=(false,az e X.env)::ar [] X.env) wS)(hplain:autoParam ((bF cU (ar [] X.env)).any (·.1)=false) wS)
  (hs:autoParam (iH (.Call (.Attribute (.Name x p) "append" apos) [e] [] cU) none pos.line X.env=bj false) wS):
  PS X (.Expr (.Call (.Attribute (.Name x p) "append" apos) [e] [] cU) pos) (tS X.K E λenv=>(ownAt i env).bind λxs=>(f env).bind λd=>Zx i env xs d):=akB i he hN hv hd hcd hbase hfew hline hst hplain hs
def ahx(i:Nat){p apos cU:Pos}(hN:autoParam (X.N[i]?=aa x) wS)(hv:autoParam (Dm X.env.scope x) xL)(hd:autoParam ((x==("__debug__":Str))=false) xI)
  (hcd:autoParam ((x==("__classdict__":Str))=false) xI)
  (hbase:autoParam (jP (.Name x p) "pop" X.env (az (.Name x p) X.env)=az (.Name x p) X.env) wS)(hline:autoParam ((apos.endLine==cU.line)=true) wS)
  (hs:autoParam (iH (.Call (.Attribute (.Name x p) "pop" apos) [] [] cU) none pos.line X.env=bj false) wS):
  PS X (.Expr (.Call (.Attribute (.Name x p) "pop" apos) [] [] cU) pos) (tS X.K E λenv=>(ownAt i env).bind λxs=>adQ i env xs):=akC i hN hv hd hcd hbase hline hs
def abH(i:Nat){f:DE->R AN}{p apos cU:Pos}(he:PE X e (tF X.K E f))(hN:autoParam (X.N[i]?=aa x) wS)(hv:autoParam (Dm X.env.scope x) xL)(hd:autoParam ((x==("__debug__":Str))=false) xI)
  (hcd:autoParam ((x==("__classdict__":Str))=false) xI)
  (hbase:autoParam (jP (.Name x p) "extend" X.env (az (.Name x p) X.env)=az (.Name x p) X.env) wS)
  (hfew:autoParam (((bF cU (ar [e] X.env)).all (λx=> !x.1)&&(nc cU (ng [] X.env)).all (λx=>x.1.isSome)
   &&decide ([e].length+([]:List gX).length+(if([]:List gX).isEmpty then 0 else 1)<30))=true) wS)
  (hline:autoParam ((apos.endLine==cU.line)=true) wS)(hst:autoParam (ar [e] X.env=(false,az e X.env)::ar [] X.env) wS)(hplain:autoParam ((bF cU (ar [] X.env)).any (·.1)=false) wS)
  (hs:autoParam (iH (.Call (.Attribute (.Name x p) "extend" apos) [e] [] cU) none pos.line X.env=bj false) wS):
  PS X (.Expr (.Call (.Attribute (.Name x p) "extend" apos) [e] [] cU) pos) (tS X.K E λenv=>(ownAt i env).bind λxs=>(f env).bind λys=>Zy i env xs ys):=akD i he hN hv hd hcd hbase hfew hline hst hplain hs
def IM(i:Nat){ek e:ao}{fk f:DE->R D}{p tp:Pos}(hk:PE X ek (tB X.K E fk))(he:PE X e (tD X.K E f))(hN:autoParam (X.N[i]?=aa x) wS)(hv:autoParam (Dm X.env.scope x) xL)(hd:autoParam ((x==("__debug__":Str))=false) xI)
  (hcd:autoParam ((x==("__classdict__":Str))=false) xI)
  (ha:autoParam (∀v,p6 (.Subscript (.Name x p) ek tp) X.env v=(do
   let ov<-lE [v] (az (.Name x p) X.env);let iv<-lE [v,ov] (az ek X.env)
   yA tp
   lE [v,ov,iv] (DP ov iv v)
   release [v,ov,iv] [])) wT)
  (hs:autoParam (Ob [.Subscript (.Name x p) ek tp] e pos.line X.env=bj false) wS)(hw:autoParam (Oc [.Subscript (.Name x p) ek tp] e X.env=bj none) wS)
  (h1:autoParam ((jg [.Subscript (.Name x p) ek tp] X.env).map (·.2)=[p6 (.Subscript (.Name x p) ek tp) X.env]) wS):
  PS X (.Assign [.Subscript (.Name x p) ek tp] e pos) (tS X.K E λenv=>(f env).bind λd=>(ownAt i env).bind λxs=>(fk env).bind λkd=>KJ i env d xs kd):=by
 have h:=adq (pos:=pos) i hk he hN hv hd hcd ha hs hw h1;have e':(λenv:DE=>(f env).bind λd=>(ownAt i env).bind λxs=>(fk env).bind λkd=>KJ i env d xs kd)=(λenv=>(f env).bind λd=>(ownAt i env).bind λxs=>(fk env).bind λkd=>match kd with
   |.int j=>(match Ao xs.length j with
    |some n=>.ok (.nx (env.set i (.own (xs.set n d))))
    |none=>.bad)
   |_=>.bad):=by
  funext env;refine congrArg (R.bind (f env)) (funext λd=>congrArg (R.bind _) (funext λxs=>congrArg (R.bind _) (funext λkd=>?_)));cases kd<;>rfl
 rw[e'];exact h
def abJ(i:Nat){op:Aw}{h:Int->Int->Int}{f:DE->R D}{pos':Pos}(ho:PIp X op (ipI h))(he:PE X e (tB X.K E f))(hN:X.N.Nodup)(hi:autoParam (X.N[i]?=aa x) wS)(hx:autoParam (Loc X.env.scope x) xL)
  (hf:autoParam (X.fn x=true\/X.env.scope.names.lookup x=aa .local) xL):
  PS X (.AugAssign (.Name x pos') op e pos) (tS X.K E λenv=>(cZ i env).bind λa=>(f env).bind λb=>R8 h i env a b):=by
 have h':=akE (pos:=pos) (pos':=pos') i ho he hN hi hx hf;have e':(λenv:DE=>(cZ i env).bind λa=>(f env).bind λb=>R8 h i env a b)=(λenv=>(cZ i env).bind λa=>(f env).bind λb=>match a,b with
   |.int u,.int w=>.ok (.nx (env.set i (.val (.int (h u w)))))
   |_,_=>.bad):=by
  funext env;refine congrArg (R.bind _) (funext λa=>congrArg (R.bind _) (funext λb=>?_));cases a<;>cases b<;>rfl
 rw[e'];exact h'
end
def Zz(d:D):R D:=match toV d with
 |some _=>.ok d
 |none=>.bad
def MR{x d:D}(h:Zz x=.ok d):x=d/\∃z,toV d=aa z:=by
 unfold Zz at h;cases e:toV x with
 |none=>rw[e]at h;cases h
 |some z=>rw[e]at h;cases h;exact⟨rfl,z,e⟩
def scL:AN->R AN
 |[]=>.ok []
 |x::r=>(Zz x).bind λy=>(scL r).bind λys=>.ok (y::ys)
theorem MS:∀{xs ys:AN},scL xs=.ok ys->xs=ys/\∀d∈ys,∃z,toV d=aa z
 |[],ys,h=>by cases h;exact⟨rfl,λd hd=>nomatch hd⟩
 |x::r,ys,h=>by unfold scL at h;obtain⟨y,h1,h2⟩:=R.kK h;obtain⟨zs,h3,h4⟩:=R.kK h2;cases h4;obtain⟨rfl,hz⟩:=MR h1;obtain⟨rfl,hs⟩:=MS h3;exact⟨rfl,λd hd=>(aX.mp hd).elim (λe=>by rw[e];exact hz) (hs d)⟩
theorem nT(i:Int):Zz (.int i)=.ok (.int i):=rfl
theorem nU(i:Bool):Zz (.bl i)=.ok (.bl i):=rfl
theorem nV(i:Str):Zz (.str i)=.ok (.str i):=rfl
theorem nW:Zz .non=.ok .non:=rfl
def jE(ns:Ap):scL (bp ns)=.ok (bp ns):=by
 induction ns with
 |nil=>rfl
 |cons x r ih=>show(Zz (.int x)).bind (λy=>(scL (bp r)).bind λys=>.ok (y::ys))=_;rw[ih];rfl
def mD(n N:Nat)(b:DE->R Out)(ds:AN):R D:=if ds.length=n then((b (aB N ds)).bind aA).ne else .bad
def mS(n N:Nat)(b:DE->R Out)(ds:AN):R D:=if ds.length=n then(((b (aB N ds)).bind aA).bind Zz).ne else .bad
def mF(n N:Nat)(b:DE->R Out)(ds:AN):R AN:=if ds.length=n then((b (aB N ds)).bind aC).ne else .bad
def cg(n N:Nat)(b:DE->R Out)(ds:AN):R AN:=if ds.length=n then(((b (aB N ds)).bind aC).bind scL).ne else .bad
def R.eT {α:Type}{r:R α}{a:α}(h:r.ne=.ok a):r=.ok a:=by
 cases r with
 |ok b=>exact h
 |err c=>cases h
 |bad=>cases h
def R.UK {α:Type}{r:R α}{c:Str}:r.ne≠.err c:=by cases r<;>intro h<;>cases h
def G9{n N:Nat}{b:DE->R Out}:ScD (mS n N b):=λds d h=>by
 unfold mS at h;split at h
 ·obtain⟨x,_,h2⟩:=R.kK (R.eT h)
  exact(MR h2).2
 ·cases h
def scl{n N:Nat}{b:DE->R Out}:ScL (cg n N b):=λds d h=>by
 unfold cg at h;split at h
 ·obtain⟨x,_,h2⟩:=R.kK (R.eT h)
  exact(MS h2).2
 ·cases h
section
variable{P:aS}{w:aD}{K:ak}{mg:Str->Option ah}{base:aF}
variable{x:Str}{st:aw}{f:ae}{fd:aL}{N ps:List Str}{k:Nat}{b:DE->R Out}
def okD(S:aT N ps (au st))(d:Df K mg x st ps f fd)
  (hb:∀(cdv:ah)(A:bx)(outer:List Env)(s:aj)(H:Hp)(E:XK),cP k (A.deeper (gW x (au st) s.heap.objs.size f cdv))->zL (z8 tw P w K mg base N x (au st) f cdv A outer s H E).S8 (eg st) (tS K EN b)):
  Ok P w K mg base (k+1) f fd ps (mD ps.length N.length b):=mkD S d hb (λds e h=>by
 unfold mD at h;split at h
 ·rename_i c
  exact⟨c,R.eT h⟩
 ·cases h) λds c h=>by
 unfold mD at h;split at h
 ·exact R.UK h
 ·cases h
def Po(S:aT N ps (au st))(d:Df K mg x st ps f fd)
  (hb:∀(cdv:ah)(A:bx)(outer:List Env)(s:aj)(H:Hp)(E:XK),cP k (A.deeper (gW x (au st) s.heap.objs.size f cdv))->zL (z8 tw P w K mg base N x (au st) f cdv A outer s H E).S8 (eg st) (tS K EN b)):
  Ok P w K mg base (k+1) f fd ps (mS ps.length N.length b):=mkD S d hb (λds e h=>by
 unfold mS at h;split at h
 ·rename_i c
  obtain⟨y,h1,h2⟩:=R.kK (R.eT h);obtain⟨rfl,_⟩:=MR h2;exact⟨c,h1⟩
 ·cases h) λds c h=>by
 unfold mS at h;split at h
 ·exact R.UK h
 ·cases h
def tH(S:aT N ps (au st))(d:Df K mg x st ps f fd)
  (hb:∀(cdv:ah)(A:bx)(outer:List Env)(s:aj)(H:Hp)(E:XK),cP k (A.deeper (gW x (au st) s.heap.objs.size f cdv))->zL (z8 tw P w K mg base N x (au st) f cdv A outer s H E).S8 (eg st) (tS K EN b)):
  pF P w K mg base (k+1) f fd ps (cg ps.length N.length b):=mkF S d hb (λds e h=>by
 unfold cg at h;split at h
 ·rename_i c
  obtain⟨y,h1,h2⟩:=R.kK (R.eT h);obtain⟨rfl,_⟩:=MS h2;exact⟨c,h1⟩
 ·cases h) λds c h=>by
 unfold cg at h;split at h
 ·exact R.UK h
 ·cases h
end
section
variable{d:D}{xs:AN}{r:DE}{a:Sl}{i:Nat}
theorem nX:cZ 0 (.val d::r)=.ok d:=rfl
theorem nY:cZ (i+1) (a::r)=cZ i r:=rfl
theorem nZ:bZ 0 (.val d::r)=.ok d:=rfl
theorem ju:bZ 0 (.own xs::r)=.ok (.lst xs):=rfl
theorem n8:bZ (i+1) (a::r)=bZ i r:=rfl
theorem n9:mV 0 (.val (.lst xs)::r)=.ok xs:=rfl
theorem jv:mV 0 (.own xs::r)=.ok xs:=rfl
theorem og:mV (i+1) (a::r)=mV i r:=rfl
theorem oh:ownAt 0 (.own xs::r)=.ok xs:=rfl
theorem oi:ownAt (i+1) (a::r)=ownAt i r:=rfl
theorem om:Gi 0 (.own xs::r)=.val (.lst xs)::r:=rfl
def ou:Gi (i+1) (a::r)=a::Gi i r:=by
 unfold Gi;rw[List.getElem?_cons_succ];cases e:r[i]? with
 |none=>rfl
 |some sl=>cases sl<;>rfl
end
theorem bT2(i j:Nat)(a b:D)(env:DE):bT 2 (zR (bN i) (zR (bN j) R7)) (.tup [a,b]) env=.ok ((env.set i (.val a)).set j (.val b)):=rfl
theorem pL(i:Nat)(a:D)(env:DE):bN i a env=.ok (env.set i (.val a)):=rfl
def jw{ns:Ap}(h:ns.length<=1000000):fit (bp ns)=.ok (bp ns):=xS (by rw[cK];exact big h)
def kL(a b:Ap):bp a++bp b=bp (a++b):=(cF ..).symm
theorem xQ(n d:Nat):HT.EI n d none=d:=rfl
def vR(n d:Nat)(i:Int)(h:0<=i):HT.EI n d (aa i)=min i.toNat n:=by unfold HT.EI;dsimp only;split<;>lia
def Co{α:Type}(xs:List α)(m:Int)(h:0<=m):cut xs none (aa m)=xs.take m.toNat:=by
 unfold cut;rw[xQ,vR _ _ _ h,IG,Pp];rcases IP m.toNat xs.length with q|q
 ·rw[AZ q]
 ·rw[IQ q,A0,yX q]
def uY{α:Type}(xs:List α)(m:Int)(h:0<=m):cut xs (aa m) none=xs.drop m.toNat:=by
 unfold cut;rw[xQ,vR _ _ _ h];rcases IP m.toNat xs.length with q|q
 ·rw[AZ q,yX (by rw[fG];exact aY _)]
 ·rw[IQ q,Ec,ZA,Pq q]
def adS{α:Type}(xs:List α)(a b:Int)(h:0<=a)(h2:0<=b):cut xs (aa a) (aa b)=(xs.drop a.toNat).take (b.toNat-a.toNat):=by
 unfold cut;rw[vR _ _ _ h,vR _ _ _ h2];rcases IP a.toNat xs.length with q|q
 ·rw[AZ q]
  rcases IP b.toNat xs.length with q2|q2
  ·rw[AZ q2]
  ·rw[IQ q2,yX (by rw[fG];exact aY _),yX (by rw[fG];lia)]
 ·rw[IQ q,Pq (aY _),Pq q,ZC,ZC]
def Cp{cells:Ap}{x:D}(h:(nk (bp cells))[j]?=aa x):∃c,cells[j]?=aa c/\x=.tup [.int (j:Nat),.int c]:=by
 obtain⟨d,hd,rfl⟩:=G3 h;unfold bp at hd;rw[bK]at hd;cases q:cells[j]? with
 |none=>rw[q]at hd;cases hd
 |some c=>rw[q]at hd;cases hd;exact⟨c,rfl,rfl⟩
def Sd(xs:AN):(nk xs).length=xs.length:=by simp[nk]
def IS{xs:AN}{d:D}(h:xs.length<1000000):Zx i env xs d=.ok (.nx (env.set i (.own (xs++[d])))):=if_pos (dZ h (by decide))
def Pr{xs ys:AN}(h:xs.length+ys.length<=1000000):Zy i env xs ys=.ok (.nx (env.set i (.own (xs++ys)))):=if_pos (big h)
def ZD{xs:AN}(h:0<xs.length):adQ i env xs=.ok (.nx (env.set i (.own xs.dropLast))):=if_pos h
def KN{d:D}{xs:AN}{j:Int}(h:0<=j)(h2:j<xs.length):KJ i env d xs (.int j)=.ok (.nx (env.set i (.own (xs.set j.toNat d)))):=by
 unfold KJ;have:Ao xs.length j=aa j.toNat:=by unfold L2.Ao;rw[if_pos h,if_pos h2]
 simp only [this]
def yY{α:Type}{xs:List α}{j:Int}(h:0<=j):mO xs j=xs[j.toNat]?:=by
 unfold L2.mO L2.Ao;rw[if_pos h];split
 ·rfl
 ·rename_i c
  symm
  show _=none;rw[List.getElem?_eq_none_iff];lia
def ZE(ns:Ap)(j:Nat)(x:Int):(bp ns).set j (.int x)=bp (ns.set j x):=A5.symm
def ZF(ns:Ap)(j:Nat):(bp ns)[j]?=(ns[j]?).map .int:=bK
def Pu(ns:Ap):(bp ns).reverse=bp ns.reverse:=rz.symm
theorem xU(a:Int)(ns:Ap):D.int a::bp ns=bp (a::ns):=rfl
theorem ZG:([]:AN)=bp []:=rfl
theorem oy(T:String)(i:Int):R6 T (.int i)=.ok (.bl (tE (JW (.int i)) T)):=rfl
theorem oA(T:String)(i:Bool):R6 T (.bl i)=.ok (.bl (tE (JW (.bl i)) T)):=rfl
theorem oB(T:String)(i:Str):R6 T (.str i)=.ok (.bl (tE (JW (.str i)) T)):=rfl
theorem oE(T:String):R6 T .non=.ok (.bl (tE (JW .non) T)):=rfl
theorem oF(T:String)(i:AN):R6 T (.lst i)=.ok (.bl (tE (JW (.lst i)) T)):=rfl
theorem oG(T:String)(i:AN):R6 T (.tup i)=.ok (.bl (tE (JW (.tup i)) T)):=rfl
section
variable{X:Cx}{E:Str->Hp->Prop}{pos:Pos}
def UL{st:aw}:PS X st (tS X.K E λ_=>.bad):=λpins s σ H De I ⟨g,env,os,r,m⟩=>m.elim
end
theorem ZI:G6 .non .non=aa (.bl false):=rfl
def MT:Im (.type "list_reverseiterator") "__len__"=bj none:=by rw[ZJ,ZK];kernel_rfl
def UM:Im (.type "list_reverseiterator") "__length_hint__"=bj (aa (.builtin "list_reverseiterator.__length_hint__")):=by rw[ZJ,ZK];kernel_rfl
def Se{prog:aS}{w:aD}{A:bx}(hh:A.handled=none)(it l:ae)(hne:l≠it)(items:Array ah):
  Walks prog w A it [it,l] [it] items.size (λi v=>items[items.size-1-i]?=aa v) (λi h=>h.IsRevIter it l ((items.size:Int)-1-(i:Nat))/\h.IsList l items) where
 sub:=λb hb=>by simp at hb;simp[hb]
 frame:=λ_ _ _ st hk=>⟨st.1.at λo e=>hk it (by simp) o e,st.2.at λo e=>hk l (by simp) o e⟩
 item:=λi s Q E hi st hQ=>by
  obtain⟨st1,Oe⟩:=st;have e1:(items.size:Int)-1-(i:Nat)=((items.size-1-i:Nat):Int):=by lia
  rw[e1]at st1;have hx:items[items.size-1-i]?=aa (items[items.size-1-i]'(by lia)):=by simp
  refine Zj st1 Oe hx λh' ML Pw=>?_;have e2:((items.size-1-i:Nat):Int)-1=(items.size:Int)-1-((i+1:Nat):Int):=by lia
  rw[e2]at ML;exact hQ _ h' s.toks hx ⟨ML,Oe.extBut Pw.extBut hne⟩ λb o hb e=>Pw.extBut b o (λh=>hb (by simp[h])) e
 done:=λs Q E st hQ=>by
  obtain⟨st1,Oe⟩:=st;have e1:(items.size:Int)-1-((items.size:Nat):Int)= -1:=by lia
  rw[e1]at st1;exact Zk hh st1 λh' he'=>hQ h' s.toks λb o hb e=>he' b o (λh=>hb (by simp[h])) e
 self:=λ_ _ _ _ st hQ=>IJ st.1 hQ
section
variable{prog:aS}{w:aD}{A:bx}{E:ah->aj->Prop}{s:aj}
def UN{it l:ae}{i:Int}{Q:Bool->aj->Prop}(hit:s.heap.IsRevIter it l i)(h:Q false s):aG (aE prog w) A (ZL (.ref it)) Q E s:=by
 unfold ZL;refine bJ (O3 hit.typeIs MT ?_);show aG _ A (specialOf (dq it) (dF "__length_hint__")>>=_) _ _ _;refine bJ (O3 hit.typeIs UM ?_);generalize hid:("list_reverseiterator.__length_hint__":String)=id0
 wp_delta
 rw[show splitId id0=aa ("list_reverseiterator","__length_hint__")from by subst hid;decide +kernel];subst hid;refine bJ (wpAny_isInstance (T:="list_reverseiterator") (b:=true) hit.typeIs (by rw[isSubtype_type];kernel_rfl) ?_);show 'Ã';refine IU (λ_=>?_) (λhab=>absurd (by decide +kernel) hab);show 'Ã';exact ee h
def MU{R:DV->aj->Prop}{it l:ae}{items:Array ah}(hh:A.handled=none)(hit:s.heap.IsRevIter it l ((items.size:Int)-1))(hl:s.heap.IsList l items)(hlen:items.size<=aK)(S:ae)(res:ah)(c₀:Nat)
  (hS:s.heap.get? S=aa {cls:=.type "list",data:=.seq #[] c₀})(hSl:S≠l)(hSi:S≠it)(UO:l≠it)
  (hR:∀h' tk rT c',(∀b o,b≠S->b≠it->s.heap.get? b=aa o->h'.get? b=aa o)->h'.get? S=aa {cls:=.type "list",dict:=none,data:=.seq rT c',slots:=#[]}->
   IV (λi v=>items[items.size-1-i]?=aa v) rT items.size->R (.ok (.ret res)) {s with heap:=h',toks:=tk}):
  aG (aE prog w) A.in1 (IW (.ref S) (.ref it) res)
   (λfin s'=>match fin with|.done f=>R (.ok f) s'|.again c'=>c'.quiet=true/\p9 (aE prog w) A c' R s') (λe s'=>R (.error e) s') s:=by
 have W:=(Se (prog:=prog) (w:=w) (A:=A.in1) hh it l UO items).toS;unfold IW;refine bJ (wpAny_typeOf (T:="list_reverseiterator") hit.typeIs ?_);have h1:ZM (.ref S) (.ref it)=false:=by simp[ZM,hSi]
 have h2:(vI "list_reverseiterator"==vI "list")=false:=by decide
 have h3:(vI "list_reverseiterator"==vI "tuple")=false:=by decide
 simp only [h1,h2,h3,YE,fH,if_false];refine bJ (IJ hit ?_);refine bJ (DQ (UN hit ?_));refine IU (λhab=>absurd hab (by decide)) (λ_=>ee ⟨plainId_quiet F.plain_extend_loop _,?_⟩);have ak7:s.heap.IsRevIter it l ((items.size:Int)-1-((0:Nat):Int)):=by rw[show(items.size:Int)-1-((0:Nat):Int)=(items.size:Int)-1 by lia];exact hit
 refine codeAny_extend_loopS W hlen S (λhm=>?_) res items.size 0 _ #[] c₀ rfl (iJ _) ⟨ak7,hl⟩ hS (IV.nil _) λs' rT c' hm hS' hacc=>?_
 ·rcases aX.mp hm with z|z
  ·exact hSi z
  ·exact hSl (dN.mp z)
 ·rw[Moved.eq_with hm]
  refine hR s'.heap s'.toks rT c' (λb o hb hb2 e=>hm.heap b o (λhmem=>?_) e) hS' hacc;rcases aX.mp hmem with z|z
  ·exact hb z
  ·exact hb2 (dN.mp z)
def Gv{R:DV->aj->Prop}{it l:ae}{items:Array ah}(hh:A.handled=none)(hit:s.heap.IsRevIter it l ((items.size:Int)-1))(hl:s.heap.IsList l items)(hlen:items.size<=aK)(S:ae)
  (hS:s.heap.get? S=aa {cls:=.type "list",data:=.seq #[]})(hSl:S≠l)(hSi:S≠it)(UO:l≠it)
  (hR:∀h' tk rT c',(∀b o,b≠S->b≠it->s.heap.get? b=aa o->h'.get? b=aa o)->h'.get? S=aa {cls:=.type "list",dict:=none,data:=.seq rT c',slots:=#[]}->
   IV (λi v=>items[items.size-1-i]?=aa v) rT items.size->R (.ok (.ret .none)) {s with heap:=h',toks:=tk}):
  aG (aE prog w) A.in1 (Ed.«list.__init__» ⟨[.ref S,.ref it],[]⟩)
   (λfin s'=>match fin with|.done f=>R (.ok f) s'|.again c'=>c'.quiet=true/\p9 (aE prog w) A c' R s') (λe s'=>R (.error e) s') s:=by
 show aG _ _ (do let old<-ZN (.ref S);Ed.List.listUpdate (.ref S) (λ_=>#[]);letGo old.toList.reverse;IW (.ref S) (.ref it) .none) _ _ s;refine bJ ?_;unfold ZN;refine bJ (wpAny_seqItems hS rfl (ee ?_));show aG _ _ (updateSeq S (λ_=>#[])>>=λ_=>letGo (#[]:Array ah).toList.reverse>>=λ_=>IW (.ref S) (.ref it) .none) _ _ s;refine bJ (wpAny_updateSeq hS rfl ?_);have hS₂:=YF (yK (λ_=>(#[]:Array ah))) hS rfl;have oth:∀b o,b≠S->s.heap.get? b=aa o->(s.heap.update S (yK (λ_=>(#[]:Array ah)))).get? b=aa o:=
  λb o hb e=>(OP _ _ (Ne.symm hb)).trans e
 refine bJ (wpAny_letGo ?_);refine MU hh (hit.at λo e=>oth it o (Ne.symm hSi) e) (hl.at λo e=>oth l o (Ne.symm hSl) e) hlen S .none _ hS₂ hSl hSi UO λh' tk rT c' hk hS' hacc=>?_;exact hR h' tk rT c' (λb o hb hb2 e=>hk b o hb hb2 (oth b o hb e)) hS' hacc
def Gw{Q:ah->aj->Prop}{it l:ae}{items:Array ah}(hh:A.handled=none)(hit:s.heap.IsRevIter it l ((items.size:Int)-1))(hl:s.heap.IsList l items)(hlen:items.size<=aK)(UO:l≠it)
  (hQ:∀h' tk rT c',(∀b o,b≠it->s.heap.get? b=aa o->h'.get? b=aa o)->
   h'.get? s.heap.objs.size=aa {cls:=.type "list",dict:=none,data:=.seq rT c',slots:=#[]}->IV (λi v=>items[items.size-1-i]?=aa v) rT items.size->Q (.ref s.heap.objs.size) {s with heap:=h',toks:=tk}):
  aG (aE prog w) A (call (.type "list") [.ref it]) Q E s:=by
 refine callType_codes (Q₁:=λobj s₁=>obj=.ref s.heap.objs.size/\s₁={s with heap:=s.heap.push {cls:=.type "list",data:=.seq #[]}}) F.called_list (F.typeCall_list_1 _) F.entry_list_init
  (code_list_new _ ⟨rfl,rfl⟩) λobj s₁ h₁=>?_
 obtain⟨rfl,rfl⟩:=h₁;have hS:(s.heap.push {cls:=.type "list",data:=.seq #[]}).get? s.heap.objs.size=aa {cls:=.type "list",data:=.seq #[]}:=kE _ rfl;have hlt:l<s.heap.objs.size:=by obtain⟨o,e,_⟩:=hl;exact bW e
 have ML:it<s.heap.objs.size:=by obtain⟨o,e,_⟩:=hit;exact bW e
 refine⟨⟨_,hS,rfl⟩,F.args_list_init_2 _ _,Gv (A:=A.in1) hh (hit.at λo e=>dg _ e) (hl.at λo e=>dg _ e) hlen _ hS (DR hlt) (DR ML) UO λh' tk rT c' hk hS' hacc=>?_⟩;exact⟨rfl,hQ h' tk rT c' (λb o hb e=>hk b o (eU (bW e)) hb (dg _ e)) hS' hacc⟩
end
section
variable{X:Cx}{E:Str->Hp->Prop}{pos:Pos}
def UQ{vs:List V}{its acc:List ah}(r:Vals vs its)(h1:acc.length=its.length)(h2:∀(j:Nat)(v:ah),acc[j]?=aa v->its[its.length-1-j]?=aa v):Vals vs.reverse acc:=by
 have e:acc=its.reverse:=by
  refine ZO λj=>?_
  by_cases hj:j<acc.length
  ·have:=h2 j _ (aP hj)
   rw[aP hj,tX (by lia),this]
  ·rw[A6 (by lia),A6 (by simp;lia)]
 subst e;clear h1 h2
 induction r with
 |nil=>exact .nil
 |cons r1 r2 ih=>rw[jS,jS];exact ih.append (.cons r1 .nil)
theorem IsL.rev {K:ak}{P:ae->Prop}:∀{ds:AN}{vs:List V},IsL K P H ds vs->IsL K P H ds.reverse vs.reverse
 |[],_,h=>by have h':_=[]:=h;subst h';exact rfl
 |d::ds,_,⟨v,r,e,p,q⟩=>by subst e;rw[jS,jS];exact IsL.app (IsL.rev q) (.one p)
def adT{a:ao}{p p2 Af:Pos}{f:DE->R AN}(hc:X.calm=true)(UH:X.mg "list"=none)(hmr:X.mg "reversed"=none)(ha:PE X a (tL X.K E f))(hgl:autoParam (Gl X "list") wS)(hgr:autoParam (Gl X "reversed") wS)
  (hs:autoParam (ar [a] X.env=(false,az a X.env)::ar [] X.env) wS)(he:autoParam (ar [.Call (.Name "reversed" p2) [a] [] Af] X.env=(false,az (.Call (.Name "reversed" p2) [a] [] Af) X.env)::ar [] X.env) wS)(hpl:autoParam ((bF pos (ar [] X.env)).any (·.1)=false) wS):
  PE X (.Call (.Name "list" p) [.Call (.Name "reversed" p2) [a] [] Af] [] pos) (tF X.K E λenv=>(f env).bind λxs=>R.ok (reverse xs)):=by
 show 'c';show '&';show '8';refine p7 ?_ he hpl;rw[he];refine DY ?_;have hpa:PA X [a] (T8 (tL X.K E f) Yw):=bc ha bQ hs;refine yD (pQ I hgr hmr C5 (p7 (gh (hpa Af pins s σ H (λvs H1=>∃ds l ws,vs=[.ref l]/\bM H H1/\gS X.K H1 l ws/\IsL X.K (g.P os) H1 ds ws/\Good E g.H₀ (R.ok (reverse ds)) _) I ⟨g,env,os,r,m.bind.mono λds _ q a1 vs H1 s1 q1 i1=>⟨ds,a1,vs,rfl,s1,q1,i1,q⟩⟩) λus s1 ⟨vs,H1,I1,r1,ds,l,ws,e1,sm,hq,i1,q⟩=>?_) hs rfl));subst e1;obtain⟨u,rfl,ru⟩:=vals1 r1;cases ru;obtain⟨its,rv,pl,hz⟩:=I1.list hq;have hl:=rv.length;refine Zl pl.isList ?_;have I2:Inv X pins σ H1 {s1 with heap:=s1.heap.push (AW l ((its.toArray.size:Int)-1))}:=I1.kept (t':=s1.toks) λb o e=>dg _ e;refine DX ?_;have hd:X.A.handled=none:=I.ok.hd hc;have hlt:l<s1.heap.objs.size:=by obtain⟨o,n,e,_⟩:=pl;exact bW e
 refine Gw hd ⟨_,kE _ rfl,rfl,rfl⟩ (pl.isList.at λo e=>dg _ e) (by rw[cO];lia) (eU hlt) λh' tk rT c' hk ak8 hit=>?_;obtain⟨hi1,hi2⟩:=hit;have hv:Vals ws.reverse rT.toList:=UQ rv (by simpa using hi1) λi v e=>by have:=hi2 i v (by simpa using e);simpa using this
 have I3:Inv X pins σ H1 {s1 with heap:=s1.heap.push (AW l ((its.toArray.size:Int)-1))}:=I2;have RY:∀b o,s1.heap.get? b=aa o->h'.get? b=aa o:=λb o e=>hk b o (eU (bW e)) (dg _ e);refine⟨.ref _,upd H1 _ (.lst ws.reverse),I1.laid (a:=(s1.heap.push (AW l ((its.toArray.size:Int)-1))).objs.size) (t':=tk) RY (by rw[Ov];exact Ik _) ⟨by rw[bR];exact hz,rT.toList,c',hv,by simpa using ak8⟩,rfl,?_⟩;have hn:H1 (s1.heap.push (AW l ((its.toArray.size:Int)-1))).objs.size=none:=I2.hok.fresh (aY _);obtain⟨b1,b2,b3,b4⟩:=Ks r sm hn (IsL.rev i1);exact(show∀a vs H',bM H H'->H a=none->H' a=aa (.lst vs)->IsL X.K (g.P (a::os)) H' ds.reverse vs->Q (.ref a) H' from q) _ _ _ b1 b2 b3 b4
end
def Kep(fs xs:List ae)(h h':aF):Prop:=∀b o,h.get? b=aa o->b∉xs->(b∉fs->h'.get? b=aa o)/\∃sl,h'.get? b=aa {o with slots:=sl}
structure Exc(h:aF)(e T C:ae)(fl:ah):Prop where
 at_:∃vs,h.get? e=aa {cls:=.ref C,data:=.fields vs}/\vs[1]?=aa (.ref T)
 ne:T≠e
 tb:∃oT ts,h.get? T=aa oT/\oT.data=.fields ts/\ts[3]?=aa fl
section
variable{P:aS}{w:aD}{H H':Hp}{h h1 h2:aF}{fs fs' xs:List ae}
def CXF(P:aS)(w:aD):RM:=λouter H s E ev s'=>∃e T C H',ev=.ref e/\Exc s'.heap e T C .none/\s.heap.get? e=none/\s.heap.get? T=none/\H' e=none/\H' T=none/\s'.os=s.os/\qW s'.gens/\
 Un (Me outer) [] H H' s.heap s'.heap/\zA P w H' s'.heap/\E (.ref C) none H'
end
def xcK(K:ak)(n:Str):ah:=match vY K ed n with
 |some (aa v)=>v
 |_=>.none
section
variable{P:aS}{w:aD}{K:ak}{mg:Str->Option ah}{base:aF}{N:List Str}{qual:Str}{scope:du}{f:ae}{cd:ah}{A:bx}{outer:List Env}{s:aj}{H:Hp}{E:XK}
abbrev EW(K:ak)(E:XK):Str->Hp->Prop:=λn H'=>E (xcK K n) none H'
end
abbrev OkX(P:aS)(w:aD)(K:ak)(mg:Str->Option ah)(base:aF)(k:Nat)(f:ae)(fd:aL)(ps:List Str)(m:AN->R D):Prop:=fW P w K mg base (CXF P w) k f fd ps (O9 K (xcK K) m)
abbrev aqh(P:aS)(w:aD)(K:ak)(mg:Str->Option ah)(base:aF)(k:Nat)(f:ae)(fd:aL)(ps:List Str)(m:AN->R AN):Prop:=fW P w K mg base (CXF P w) k f fd ps (Tg K (xcK K) m)
section
variable{P:aS}{w:aD}{K:ak}{mg:Str->Option ah}{base:aF}
variable{x:Str}{st:aw}{f:ae}{fd:aL}{N ps:List Str}{k:Nat}{b:DE->R Out}
variable(S:aT N ps (au st))(d:Df K mg x st ps f fd)
  (hb:∀(cdv:ah)(A:bx)(outer:List Env)(s:aj)(H:Hp)(E:XK),cP k (A.deeper (gW x (au st) s.heap.objs.size f cdv))->zL (z8 (CXF P w) P w K mg base N x (au st) f cdv A outer s H E) (eg st) (tS K (EW K E) b))
include S d hb
end
abbrev hdl(X:Cx)(e:ae):Cx:={X with A:=X.A.mark (aa (.ref e)),calm:=false,xe:=λ_ _=>False}
section
variable{X:Cx}{E:Str->Hp->Prop}{pos:Pos}
def IX(x y:D):Option D:=match x,y with
 |.bl a,.bl b=>aa (.bl (a !=b))
 |x,.non=>G6 x .non
 |_,_=>none
def rIs(ne:Bool):R2:=λx y H Q=>(∃a b,x=.bl a/\y=.bl b/\Q (.bl (if ne then a !=b else a==b)) H)\/(y=.non/\Q (.bl (if ne then !decide (x=.non)else decide (x=.non))) H)
def UR:B3 X (jf .IsNot) (rIs true):=by
 show 'b';rcases h with⟨a,b,rfl,rfl,q⟩|⟨rfl,q⟩
 ·cases rx;cases ry
  exact isnot_bool ⟨.bl _,H,I,rfl,q⟩
 ·exact Oj pins s σ H x .non v u Q I rx ry ⟨rfl,q⟩
def Sf:wc X (rIs true) IX:=λx y d e=>by
 unfold IX at e;split at e
 ·cases e
  exact⟨_,rfl,λH v w Q h1 h2 q=>.inl ⟨_,_,h1,h2,q⟩⟩
 ·obtain⟨z,hz,k⟩:=KD (X:=X) _ _ d e
  exact⟨z,hz,λH v w Q h1 h2 q=>.inr (k H v w Q h1 h2 q)⟩
 ·cases e
def glI{i:Int}{t:Tok}(hm:X.mg x=aa (.int i t))(hg:autoParam (Gl X x) wS)(hdb:autoParam ((x==("__debug__":Str))=false) xI):PE X (.Name x pos) (tD X.K E λ_=>.ok (.int i)):=
 imp (HS hg hm (v:=.int i) ⟨t,rfl⟩ hdb) λσ H Q ⟨g,env,os,r,m⟩=>m _ H (bM.refl H) rfl
end
theorem lI{K:ak}{P:ae->Prop}:∀{ns:Ap}{vs:List V},IsL K P H (bp ns) vs->vs=ns.map V.int
 |[],_,h=>h
 |n::ns,_,⟨v,r,e,p,q⟩=>by have p':v=.int n:=p;rw[e,p',lI q];rfl
theorem Px{K:ak}{P:ae->Prop}:∀(ns:Ap),IsL K P H (bp ns) (ns.map V.int)
 |[]=>rfl
 |n::ns=>⟨_,_,rfl,rfl,Px ns⟩
def Py(xs:AN):Option D:=(Pn xs).map λns=>.int ns.sum
def sortI(ns:Ap):Ap:=ns.mergeSort (λa b=>decide (a<=b))
def KO(xs:AN):R AN:=match Pn xs with
 |some ns=>if ns.length<64 then .ok (bp (sortI ns))else .bad
 |none=>.bad
def xV(xs:AN):D->R D
 |.int k=>match Pn xs with
  |some ns=>if k∈ns then .ok (.int (ns.idxOf k:Nat))else .bad
  |none=>.bad
 |_=>.bad
def adU:fV "sum"=aa (.builtin "sum"):=by decide +kernel
def Sg:fV "sorted"=aa (.builtin "sorted"):=by decide +kernel
def KP{a b:Ap}(p:a.Perm b)(o:a.Pairwise (·<=·)):a=sortI b:=by refine PySem.W.lks_uniq (p.trans (List.mergeSort_perm b _).symm) o ?_;have h:=List.pairwise_mergeSort (le:=λa b:Int=>decide (a<=b)) (λa b c h1 h2=>by simp only [decide_eq_true_eq]at h1 h2⊢;lia) (λa b=>by simp only [yV,decide_eq_true_eq];lia) b;exact h.imp λh=>by simpa using h
section
variable{X:Cx}{E:Str->Hp->Prop}{pos:Pos}
def alc{p:Pos}{a:ao}{f:DE->R AN}(hc:X.calm=true)(hm:X.mg "sum"=none)(ha:PE X a (tL X.K E f))(hg:autoParam (Gl X "sum") wS)
  (he:autoParam (ar [a] X.env=(false,az a X.env)::ar [] X.env) wS)(hpl:autoParam ((bF pos (ar [] X.env)).any (·.1)=false) wS):PE X (.Call (.Name "sum" p) [a] [] pos) (tD X.K E λenv=>(f env).bind λxs=>R.of (Py xs)):=by
 refine imp (qA (r:=λxs H Q=>∃(l:ae)(ns:Ap),xs=[.ref l]/\gS X.K H l (ns.map V.int)/\Q (.int ns.sum) H) ?_ hg hm adU (bc ha bQ he) (by decide) (by decide) he hpl) λσ H Q ⟨g,env,os,r,m⟩=>⟨g,env,os,r,m.bind.mono λxs _ q l vs H' s hl i=>?_⟩
 ·intro pins s σ H xs us Q I r h
  obtain⟨l,ns,rfl,hl,q⟩:=h;obtain⟨u,rfl,ru⟩:=vals1 r;have e:u=.ref l:=ru;subst e;obtain⟨its,rv,pl,hz⟩:=I.list hl;have ia:=intsAre_of rv;obtain⟨ys,hx⟩:=ia.allInts.items;have UT:s.heap.IsList l (intItems ys):=hx▸pl.isList;have hh:X.A.handled=none:=I.ok.hd hc;have e1:ns=ys.toList.map (·.1):=by rw[<-nums_intItems,<-hx];exact(show numsOf its.toArray.toList=ns from ia.numsOf).symm
  refine sum_intListG hh UT λh' tk t' hk=>?_;have e2:preSum (numAt ys) ys.size=ns.sum:=by rw[preSum_eq,yX (by simp),e1]
  rw[e2];exact⟨.int _,H,I.kept (s:=s) (t':=tk) hk,⟨_,rfl⟩,q⟩
 ·obtain⟨d,e,q2⟩:=q.of
  unfold Py at e;cases z:Pn xs with
  |none=>rw[z]at e;cases e
  |some ns=>
   rw[z]at e;have ex:=EU z;subst ex;have ev:=lI i;subst ev;cases e;exact⟨l,ns,rfl,hl,q2 _ H' s rfl⟩
def ZP{p:Pos}{a:ao}{f:DE->R AN}(hm:X.mg "sorted"=none)(ha:PE X a (tL X.K E f))(hg:autoParam (Gl X "sorted") wS)
  (he:autoParam (ar [a] X.env=(false,az a X.env)::ar [] X.env) wS)(hpl:autoParam ((bF pos (ar [] X.env)).any (·.1)=false) wS):PE X (.Call (.Name "sorted" p) [a] [] pos) (tF X.K E λenv=>(f env).bind KO):=by
 refine imp (qA (r:=λxs H Q=>∃(l:ae)(ns:Ap),xs=[.ref l]/\gS X.K H l (ns.map V.int)/\ns.length<64/\∀p,H p=none->Q (.ref p) (upd H p (.lst ((sortI ns).map V.int)))) ?_ hg hm Sg (bc ha bQ he) (by decide) (by decide) he hpl) λσ H Q ⟨g,env,os,r,m⟩=>⟨g,env,os,r,m.bind.mono λxs _ q l vs H' s hl i=>?_⟩
 ·intro pins s σ H xs us Q I r h
  obtain⟨l,ns,rfl,hl,h64,q⟩:=h;obtain⟨u,rfl,ru⟩:=vals1 r;have e:u=.ref l:=ru;subst e;obtain⟨its,rv,pl,hz⟩:=I.list hl;have ia:=intsAre_of rv;refine PyProof.Rows.sorted_ints pl.isList ia (by rw[yJ.length ia];exact h64) λout ns' a1 a2 a3=>?_;have es:=KP a2 a3;subst es;obtain⟨n,hn⟩:=sortedAll_at s.heap its out;refine⟨.ref _,_,I.laid (a:=s.heap.objs.size+1) (o:=.lst ((sortI ns).map V.int)) (t':=s.toks) (λ_ _=>sortedAll_old) (Ik _) ⟨?_,out.toList,n,Cb a1,?_⟩,rfl,q _ (I.hok.fresh (Ik _))⟩
  ·rw[aN,a2.length_eq]
   exact HN (YT h64 (by decide))
  ·rw[hn]
 ·unfold KO at q
  split at q
  ·rename_i ns z
   split at q
   ·rename_i c
    have ex:=EU z;subst ex;have ev:=lI i;subst ev;refine⟨l,ns,rfl,hl,c,λp hp=>?_⟩;obtain⟨b1,b2,b3,b4⟩:=Ks r s hp (Px (K:=X.K) (P:=g.P os) (H:=H') (sortI ns));exact q p _ _ b1 b2 b3 b4
   ·show 'Z'
  ·show 'Z'
def adV(K:ak):V->List V->Hp->VK->Prop:=λx xs H Q=>∃(l:ae)(ns:Ap)(k:Int),x=.ref l/\xs=[.int k]/\gS K H l (ns.map V.int)/\k∈ns/\Q (.int (ns.idxOf k:Nat)) H
def UU:MtR X "list.index" (adV X.K):=by
 intro pins s σ H x xs v us Q I rx r h;obtain⟨l,ns,k,rfl,rfl,hl,hk,q⟩:=h;obtain⟨u,rfl,t,ru⟩:=vals1 r;subst ru;cases rx;obtain⟨its,rv,pl,hz⟩:=I.list hl;have ia:=intsAre_of rv;obtain⟨o,n,h1,h2,h3,h4⟩:=pl;cases o;simp only at h2 h3 h4;subst h2 h3 h4;have hlen:=ia.length;have hj:ns.idxOf k<ns.length:=List.idxOf_lt_length_iff.mpr hk;have hz2:ns.length<=aK:=by simpa using hz
 refine yM ZQ ⟨_,h1,rfl⟩ PySem.F.entry_list_index (PySem.F.args_list_index_2 _ _)
  (SeqAt.list_indexAt l its.toArray n none _ (.int k t) (isInt k) (ns.idxOf k) (by simpa[hlen]using hj) (by have h63:=z7;lia) ?_ ?_) ⟨h1,λy hy=>(eq_isInt k t ia y (by simpa using hy)).at _ _,⟨.int _,H,I.tok _,⟨_,rfl⟩,q⟩⟩
 ·show isInt k its[ns.idxOf k]=true
  rw[isInt_at k ia _ (by lia) hj];simpa using Pz hj
 ·intro j hjs hlt
  show isInt k its[j]=false;rw[isInt_at k ia j (by simpa using hjs) (by simp at hjs;lia)];exact ne_of_lt_idxOf hlt _
def UW{o e:ao}{apos cU:Pos}{fo:DE->R AN}{f:DE->R D}(ho:PE X o (tL X.K E fo))(he:PE X e (tB X.K E f))
  (hbase:autoParam (jP o "index" X.env (az o X.env)=az o X.env) wS)
  (hfew:autoParam (((bF cU (ar [e] X.env)).all (λx=> !x.1)&&(nc cU (ng [] X.env)).all (λx=>x.1.isSome)
   &&decide ([e].length+([]:List gX).length+(if([]:List gX).isEmpty then 0 else 1)<30))=true) wS)
  (hline:autoParam ((apos.endLine==cU.line)=true) wS)(hst:autoParam (ar [e] X.env=(false,az e X.env)::ar [] X.env) wS)(hplain:autoParam ((bF cU (ar [] X.env)).any (·.1)=false) wS):
  PE X (.Call (.Attribute o "index" apos) [e] [] cU) (tD X.K E λenv=>(fo env).bind λxs=>(f env).bind λk=>xV xs k):=
 imp (AF nj ZQ PySem.F.type_list_index UU ho (bc he bQ hst) hbase hfew hline hst hplain) λσ H Q ⟨g,env,os,r,m⟩=>⟨g,env,os,r,m.bind.mono λxs _ m1 l vs H1 s1 hl i=>⟨.inl ⟨rfl,vs,hl⟩,g,env,os,r.same s1,m1.bind.mono λk _ q v H2 s2 i2=>by
  unfold xV at q;split at q
  ·rename_i kk _
   split at q
   ·rename_i ns z
    split at q
    ·rename_i c
     have ex:=EU z;subst ex;have ev:=lI i;subst ev;have e2:v=.int kk:=i2;subst e2;exact⟨l,ns,kk,rfl,rfl,s2.seq hl,c,q _ H2 (s1.trans s2) rfl⟩
    ·show 'Z'
   ·show 'Z'
  ·exact q.elim⟩⟩
end
def UX(lo c:Int)(n:Nat):AN:=(bG n).map λi=>.int (lo+(i:Nat)*c)
abbrev RC(a b c:Int):Prop:= -1000000<=a/\a<=1000000/\ -1000000<=b/\b<=1000000/\c≠0/\ -1000000<=c/\c<=1000000
def UY:AN->R AN
 |[.int a,.int b,.int c]=> @ite _ (RC a b c) (gB _) (.ok (UX a c (kF a b c).toNat)) .bad
 |_=>.bad
def A7{a b c:Int}(h:RC a b c):0<=kF a b c/\kF a b c<=2000000:=by
 unfold kF;have e:∀x y:Int,0<=x->x<2000000->1<=y->0<=x/y/\x/y<2000000:=λx y h1 h2 h3=>⟨ZR h1 (by lia),Int.lt_of_le_of_lt (Int.ediv_le_self _ h1) h2⟩
 split
 ·split
  ·have:=e (b-a-1) c (by lia) (by lia) (by lia)
   lia
  ·lia
 ·split
  ·have:=e (a-b-1) (-c) (by lia) (by lia) (by lia)
   lia
  ·lia
def ZS{a b c:Int}(h:RC a b c):ZT a b c=true:=by have hs:=A7 h;unfold ZT;simp only [Ed.Range.rangeFitsLong,di,yV,decide_eq_true_eq,beq_iff_eq];refine⟨by lia,.inr ?_⟩;split<;>simp only [di,decide_eq_true_eq]<;>lia
section
variable{X:Cx}{E:Str->Hp->Prop}{pos:Pos}{tg:ao}
def IsL.adW {K:ak}{P:ae->Prop}{d d2 d3:D}{vs:List V}(h:IsL K P H [d,d2,d3] vs):∃v w z,vs=[v,w,z]/\Is K P H d v/\Is K P H d2 w/\Is K P H d3 z:=by obtain⟨v,r,rfl,p,q⟩:=h;obtain⟨w,z,rfl,p2,p3⟩:=IsL.adp q;exact⟨v,w,z,rfl,p,p2,p3⟩
def vals3{x y z:V}{us:List ah}(r:Vals [x,y,z] us):∃u v w,us=[u,v,w]/\RelV x u/\RelV y v/\RelV z w:=by
 cases r with
 |cons p q=>
  obtain⟨v,w,rfl,p2,p3⟩:=vals2 q;exact⟨_,v,w,rfl,p,p2,p3⟩
def ZU{K:ak}{P:ae->Prop}{lo c:Int}:IsL K P H (UX lo c n) ((bG n).map λi=>V.int (lo+(i:Nat)*c)):=by
 unfold UX
 induction (bG n)with
 |nil=>rfl
 |cons x r ih=>show '4'
def EZ{acc:List ah}{lo c:Int}(h1:acc.length=n)(h2:∀(j:Nat)(v:ah),acc[j]?=aa v->∃t,v=.int (lo+(j:Nat)*c) t):Vals ((bG n).map λi=>V.int (lo+(i:Nat)*c)) acc:=by
 have gen:∀(l:List ah)(k:Nat),(∀(j:Nat)(v:ah),l[j]?=aa v->∃t,v=.int (lo+((k+j:Nat):Int)*c) t)->Vals ((Zt k l.length).map λi=>V.int (lo+(i:Nat)*c)) l:=by
  intro l
  induction l with
  |nil=>intro k _;exact .nil
  |cons x r ih=>
   intro k hk;rw[aR,Zu,bq];refine .cons ?_ (ih (k+1) λj v e=>?_)
   ·obtain⟨t,e⟩:=hk 0 x (by simp)
    exact⟨t,e⟩
   ·obtain⟨t,e⟩:=hk (j+1) v (by simpa using e)
    exact⟨t,by rw[e,show k+(j+1)=k+1+j by lia]⟩
 subst h1;rw[Zv];exact gen acc 0 λj v e=>by obtain⟨t,q⟩:=h2 j v e;exact⟨t,by rw[q,lH]⟩
def ZV{a b c:ao}{p p2 Af:Pos}{f:DE->R AN}(hc:X.calm=true)(UH:X.mg "list"=none)(hmr:X.mg "range"=none)(ha:PA X [a,b,c] (Cf X.K E f))(hgl:autoParam (Gl X "list") wS)(hgr:autoParam (Gl X "range") wS)
  (hs:autoParam (ar [a,b,c] X.env=(false,az a X.env)::ar [b,c] X.env) wS)(ald:autoParam ((bF Af (ar [b,c] X.env)).any (·.1)=false) wS)(he:autoParam (ar [.Call (.Name "range" p2) [a,b,c] [] Af] X.env=(false,az (.Call (.Name "range" p2) [a,b,c] [] Af) X.env)::ar [] X.env) wS)(hpl:autoParam ((bF pos (ar [] X.env)).any (·.1)=false) wS):
  PE X (.Call (.Name "list" p) [.Call (.Name "range" p2) [a,b,c] [] Af] [] pos) (tF X.K E λenv=>(f env).bind UY):=by
 show 'c';show '&';show '8';refine p7 ?_ he hpl;rw[he];refine DY ?_;refine yD (pQ I hgr hmr KH (p7 (gh (ha Af pins s σ H _ I ⟨g,env,os,r,m.bind.mono λds _ q vs H1 s1 i1=>(⟨ds,s1,i1,q⟩:∃ds,bM H H1/\IsL X.K Tr H1 ds vs/\Good E g.H₀ (UY ds) _)⟩) λus s1 ⟨vs,H1,I1,r1,ds,sm,i1,q⟩=>?_) hs ald));unfold UY at q;split at q
 ·rename_i x y z
  split at q
  ·rename_i h
   obtain⟨v1,v2,v3,rfl,k1,k2,k3⟩:=IsL.adW i1;have k1':v1=.int x:=k1;have k2':v2=.int y:=k2;have k3':v3=.int z:=k3;subst k1' k2' k3';obtain⟨u1,u2,u3,rfl,⟨t1,rfl⟩,⟨t2,rfl⟩,⟨t3,rfl⟩⟩:=vals3 r1;refine call_range_3 h.2.2.2.2.1 ?_ (.inl (Yj (by lia)));have I2:Inv X pins σ H1 {s1 with heap:=s1.heap.push {cls:=.type "range",data:=.fields #[.int x t1,.int y t2,.int z t3]},toks:=s1.toks}:=I1.kept λb o e=>dg _ e;refine DX ?_;have hd:X.A.handled=none:=I.ok.hd hc;have hn2:=A7 h;have hsz:kF x y z=((kF x y z).toNat:Nat):=(by lia);refine Zw hd (IsRange.new ..) (ZS h) hsz (by lia) λh' tk rT c' hk hl hit=>?_;obtain⟨hi1,hi2⟩:=hit;have hv:Vals ((bG (kF x y z).toNat).map λi=>V.int (x+(i:Nat)*z)) rT.toList:=EZ (by simpa using hi1) λi v e=>hi2 i v (by simpa using e);have hlen:((bG (kF x y z).toNat).map λi=>V.int (x+(i:Nat)*z)).length<=aK:=by rw[aN,Pk];exact lD (show(kF x y z).toNat<=2000000 by lia) (by decide)
   refine⟨.ref _,upd H1 _ (.lst ((bG (kF x y z).toNat).map λi=>V.int (x+(i:Nat)*z))),I2.laid (a:=_) hk (aY _) ⟨hlen,rT.toList,c',hv,by simpa using hl⟩,rfl,?_⟩;have hn:H1 (s1.heap.push {cls:=.type "range",data:=.fields #[.int x t1,.int y t2,.int z t3]}).objs.size=none:=I2.hok.fresh (aY _);exact q _ _ _ (sm.trans (bY hn _)) (sm.free hn) aU ZU
  ·show 'Z'
 ·show 'Z'
end
def cl2(X:Cx)(scope:du)(C:ae):List (Str×ae):=Il (C+1) scope.names (JV X.env.cells scope.names [])
noncomputable def aog(X:Cx)(scope:du)(N:List Str)(s:aj)(H:Hp)(fp:List ae)(C:ae)(pl:List (ae×Obj)):Cx where
 prog:=X.prog
 w:=X.w
 K:=X.K
 mg:=X.mg
 base:=X.base
 A:=X.A
 N:=N
 s₀:=s
 H₀:=H
 env:=AU scope (cl2 X scope C) C X.env
 outer:=X.stack
 stack:=X.stack
 ex:=fp
 fn:=λx=>scope.names.lookup x==aa ZW
 calm:=X.calm
 pn:=pl
 xe:=λ_ _=>False
structure ahB(X:Cx)(scope:du)(N:List Str)(nt:Nat)(caps:List Nat):Prop where
 kind:scope.kind=.function
 apart:∀x,scope.names.lookup x=aa .free->(x,ZW)∉scope.names
 names:∀y∈scope.names,y.2=.local->scope.names.lookup y.1=aa .local
 free:∀y∈scope.names,y.2=.free->X.env.kindOf y.1=aa .cell\/X.env.kindOf y.1=aa .free
 len:N.length=nt+caps.length
 nd:N.Nodup
 caps:∀(j i:Nat),caps[j]?=aa i->∃x,N[nt+j]?=aa x/\X.N[i]?=aa x/\scope.names.lookup x=aa .free/\Dm X.env.scope x
section
variable{K:ak}{g:Gh}{env:DE}{σ:St}{H H':Hp}{os:List ae}
def t8{α:Type}{l:List α}{i j:Nat}{x y:α}(e:(l.set i x)[j]?=aa y)(h:y≠x):i≠j/\l[j]?=aa y:=by
 by_cases hj:i=j
 ·subst hj
  exact(h (dD e)).elim
 ·rw[bw hj]at e
  exact⟨hj,e⟩
theorem uc:∀{a b:List ae},a.map V.ref=b.map V.ref->a=b
 |[],[],_=>rfl
 |[],_::_,h=>by cases h
 |_::_,[],h=>by cases h
 |x::a,y::b,h=>by injection h with h1 h2;injection h1 with h1;rw[h1,uc h2]
def Rel.adX (r:Rel K g env σ H os){l:List ae}(s:bM H H')(hn:∀a∈l,H a=none):Ext (g.P os) (g.P (l++os)) H H':=
 ⟨λb o p e=>⟨p.1,λhm=>by
  rcases cu.mp hm with z|z
  ·rw[hn b z]at e;cases e
  ·exact p.2 z⟩,λb o _ e=>s b o e⟩
def Rel.ale (r:Rel K g env σ H os)(s:bM H H')(i:Nat){a:ae}{as:List ae}(hn:∀b∈a::as,H b=none)(nd:(a::as).Nodup)(hl:as.length=nss.length)(hH:H' a=aa (.lst (as.map V.ref)))
  (hi:∀(k:Nat)(b:ae)(ns:Ap),as[k]?=aa b->nss[k]?=aa ns->H' b=aa (.lst (ns.map V.int))):
  Rel K g (env.set i (.deep nss)) (σ.set i (aa (.ref a))) H' ((a::as)++os):=by
 have ap:=r.adX s hn;have f:∀(j:Nat)(sl:Sl),(env.set i (Sl.deep nss))[j]?=aa sl->sl≠.deep nss->i≠j/\env[j]?=aa sl:=λj sl q hn=>t8 q hn;have dp:Dp K H' ((a::as)++os) a as nss:=⟨by simp,hH,hl,nd,λk b ns e1 e2=>⟨mW _ (bE _ (dU e1)),hi k b ns e1 e2⟩⟩
 have hnew:∀x∈a::as,x∉os:=λx hx hm=>by obtain⟨o,ho⟩:=(r.new x hm).2;rw[hn x hx]at ho;cases ho
 refine⟨by simp[r.len],r.ext.trans s,λj d q=>?_,λj xs q=>?_,λj k xs ys b q1 q2 q3 q4=>?_,λb hb=>?_,λj v q=>?_,?_⟩
 ·obtain⟨hj,q⟩:=f j _ q (λz=>nomatch z)
  obtain⟨v,h1,h2⟩:=r.val j d q;exact⟨v,by rw[bw hj];exact h1,Is.ext ap _ _ h2⟩
 ·obtain⟨hj,q⟩:=f j _ q (λz=>nomatch z)
  obtain⟨b,vs,h1,h2,h3,h4⟩:=r.own j xs q;exact⟨b,vs,by rw[bw hj];exact h1,jh _ h2,s _ _ h3,IsL.ext ap _ _ h4⟩
 ·obtain⟨hj,q1⟩:=f j _ q1 (λz=>nomatch z)
  show 'E';rw[bw hj]at q3;rw[bw hk]at q4;show '@'
 ·rcases cu.mp hb with z|z
  ·exact⟨r.ext.free (hn b z),(dp.mem b z).2⟩
  ·obtain⟨h1,o,h2⟩:=r.new b z
   exact⟨h1,o,s _ _ h2⟩
 ·obtain⟨hj,q⟩:=f j _ q (λz=>nomatch z)
  rw[bw hj];show 'É'
 ·obtain⟨A,dd⟩:=r.Uk
  refine⟨λj=>if j=i then a::as else A j,λj zO q=>?_,λj zO k xs b q1 q2 q3=>?_,λj k zO lss hjk q1 q2 x hx=>?_⟩
  ·by_cases hj:j=i
   ·subst hj
    have z:=dD q;cases z;exact⟨a,as,if_pos rfl,by rw[mX (by rw[r.len];exact GZ q)],dp⟩
   ·have q':=q
    rw[bw (Ne.symm hj)]at q';obtain⟨b,bs,h1,h2,h3⟩:=dd.dp j zO q';refine⟨b,bs,by rw[if_neg hj];exact h1,by rw[bw (Ne.symm hj)];exact h2,h3.to λx hx=>?_⟩;obtain⟨z1,o,z2⟩:=h3.mem x hx;exact⟨jh _ z1,by rw[s x o z2,z2]⟩
  ·obtain⟨hk,q2⟩:=f k _ q2 (λz=>nomatch z)
   rw[bw hk]at q3;show b∉if j=i then a::as else A j
   by_cases hj:j=i
   ·rw[if_pos hj]
    obtain⟨c,vs,h1,h2,_⟩:=r.own k xs q2;rw[q3]at h1;cases h1;exact λz=>hnew b z h2
   ·rw[if_neg hj]
    rw[bw (Ne.symm hj)]at q1;exact dd.ow j zO k xs b q1 q2 q3
  ·show x∉if k=i then a::as else A k
   have UZ:x∈if j=i then a::as else A j:=hx
   by_cases hj:j=i
   ·have hk:k≠i:=λz=>hjk (by rw[hj,z])
    rw[if_pos hj]at UZ;rw[if_neg hk];rw[bw (Ne.symm hk)]at q2;exact λz=>hnew x UZ (dd.mem q2 x z).1
   ·rw[if_neg hj]at UZ
    rw[bw (Ne.symm hj)]at q1
    by_cases hk:k=i
    ·rw[if_pos hk]
     exact λz=>hnew x z (dd.mem q1 x UZ).1
    ·rw[if_neg hk]
     rw[bw (Ne.symm hk)]at q2;exact dd.dj j k zO lss hjk q1 q2 x UZ
def Rel.alf (r:Rel K g env σ H os)(e:env[i]?=aa (.deep nss)){as:List ae}(hσ:σ[i]?=aa (aa (.ref a)))(ha:H a=aa (.lst (as.map V.ref))){b:ae}{ns:Ap}(hk:as[k]?=aa b)(hns:k<nss.length)(ns':Ap):
  b∈os/\Rel K g (env.set i (.deep (nss.set k ns'))) σ (upd H b (.lst (ns'.map V.int))) os:=by
 obtain⟨A,dd⟩:=r.Uk;obtain⟨a0,Gd,hA,h1,h3⟩:=dd.dp i nss e;rw[hσ]at h1;cases h1;have has:Gd=as:=by
  have z:=h3.ha;rw[ha]at z;have z2:as.map V.ref=Gd.map V.ref:=by injection z with z;injection z
  exact(uc z2).symm
 subst has;have Ag:b∈os:=(h3.it k b nss[k] hk (aP hns)).1;have hbA:b∈A i:=by rw[hA];exact bE _ (dU hk)
 refine⟨Ag,?_⟩;have ex:Ext (g.P os) (g.P os) H (upd H b (.lst (ns'.map V.int))):=⟨λ_ _ p _=>p,λc o p q=>by rw[aH (λz=>p.2 (by rw[z];exact Ag))];exact q⟩
 have f:∀(j:Nat)(sl:Sl),(env.set i (Sl.deep (nss.set k ns')))[j]?=aa sl->sl≠.deep (nss.set k ns')->i≠j/\env[j]?=aa sl:=λj sl q hn=>t8 q hn;have hba:b≠a:=λz=>(ji.mp h3.nd).1 (by rw[<-z];exact dU hk);refine⟨by simp[r.len],λc o q=>?_,λj d q=>?_,λj xs q=>?_,λj k xs ys c q1 q2 q3 q4=>?_,λc hc=>?_,λj v q=>?_,?_⟩
 ·rw[aH (λz=>by rw[z,(r.new b Ag).1]at q;cases q)]
  exact r.ext c o q
 ·obtain⟨hj,q⟩:=f j _ q (λz=>nomatch z)
  obtain⟨v,h1,h2⟩:=r.val j d q;show 'A'
 ·obtain⟨hj,q⟩:=f j _ q (λz=>nomatch z)
  obtain⟨c,vs,h1,h2,h3',h4⟩:=r.own j xs q;have hcb:c≠b:=λz=>dd.ow i nss j xs c e q h1 (by rw[z];exact hbA);exact⟨c,vs,h1,h2,by rw[aH hcb];exact h3',IsL.ext ex _ _ h4⟩
 ·obtain⟨hj,q1⟩:=f j _ q1 (λz=>nomatch z)
  show 'E';show '?'
 ·obtain⟨z1,o,z2⟩:=r.new c hc
  refine⟨z1,?_⟩
  by_cases z:c=b
  ·exact⟨_,by rw[z];exact aU⟩
  ·exact⟨o,by rw[aH z];exact z2⟩
 ·obtain⟨hj,q⟩:=f j _ q (λz=>nomatch z)
  show 'É'
 ·have h3k:∀(m:Nat),Gd[m]?=aa b->m=k:=λm hm=>by
   have ali:=(ji.mp h3.nd).2;have hm1:=(bH.mp hm).1;have hk1:=(bH.mp hk).1;exact(XY ali).mp (by rw[(bH.mp hm).2,(bH.mp hk).2])
  refine⟨A,λj zO q=>?_,λj zO m xs c q1 q2 q3=>?_,λj m zO lss hjm q1 q2 x hx=>?_⟩
  ·by_cases hj:i=j
   ·subst hj
    have z:=dD q;cases z;refine⟨a,Gd,hA,hσ,h3.ma,by rw[aH (Ne.symm hba)];exact h3.ha,by rw[qh];exact h3.len,h3.nd,λm c ms e1 e2=>?_⟩
    by_cases hm:c=b
    ·subst hm
     have hmk:=h3k m e1;subst hmk;rw[mX hns]at e2;cases e2;exact⟨Ag,aU⟩
    ·have hmk:k≠m:=λz=>hm (by rw[z]at hk;rw[hk]at e1;cases e1;rfl)
     rw[bw hmk]at e2;rw[aH hm];exact h3.it m c ms e1 e2
   ·rw[bw hj]at q
    obtain⟨c,cs,z1,z2,z3⟩:=dd.dp j zO q;refine⟨c,cs,z1,z2,z3.to λx hx=>?_⟩;have hxb:x≠b:=λz=>dd.dj i j nss zO hj e q b hbA (by rw[z1,<-z];exact hx);show 'Á'
  ·obtain⟨_,q2⟩:=f m _ q2 (λz=>nomatch z)
   by_cases hj:i=j
   ·subst hj
    exact dd.ow i nss m xs c e q2 q3
   ·rw[bw hj]at q1
    exact dd.ow j zO m xs c q1 q2 q3
  ·have p1:∃ms,env[j]?=aa (.deep ms):=by
    by_cases hj:i=j
    ·subst hj;exact⟨nss,e⟩
    ·rw[bw hj]at q1;exact⟨zO,q1⟩
   have p2:∃ms,env[m]?=aa (.deep ms):=by
    by_cases hj:i=m
    ·subst hj;exact⟨nss,e⟩
    ·rw[bw hj]at q2;exact⟨lss,q2⟩
   obtain⟨m1,p1⟩:=p1;obtain⟨m2,p2⟩:=p2;exact dd.dj j m m1 m2 hjm p1 p2 x hx
end
section
variable{X:Cx}{E:Str->Hp->Prop}{pos:Pos}
noncomputable def tFr(K:ak)(E:Str->Hp->Prop)(f:DE->R (List Ap)):TA:=λσ H Q=>Rg K E f σ H λg os nss=>∀(as:List ae)(H':Hp),bM H H'->(∀b∈as,H b=none)->as.Nodup->as.length=nss.length->
 (∀(k:Nat)(b:ae)(ns:Ap),as[k]?=aa b->nss[k]?=aa ns->H' b=aa (.lst (ns.map V.int)))->Q (as.map V.ref) H'
def abK:PA X [] (tFr X.K E λ_=>.ok []):=Um bQ λσ H Q ⟨g,env,os,r,m⟩=>m [] H (bM.refl H) (λ_ z=>nomatch z) .nil rfl (λ_ _ _ z=>by simp at z)
def abL(i:Nat){es:List ao}{f:DE->R (List Ap)}{pos' p:Pos}(he:PA X es (tFr X.K E f))(hN:X.N.Nodup)(hi:autoParam (X.N[i]?=aa x) wS)(hx:autoParam (Loc X.env.scope x) xL)(hs:autoParam (iH (.List es p) (aa (.Name x pos')) pos.line X.env=bj false) wS)
  (hf:autoParam (X.fn x=true\/X.env.scope.names.lookup x=aa .local) xL):PS X (.Assign [.Name x pos'] (.List es p) pos) (tS X.K E λenv=>(f env).bind λnss=>(fit nss).bind λnss=>.ok (.nx (env.set i (.deep nss)))):=
 wb (iP hN hi hx (Ca he) hs hf) λDe σ H ⟨g,env,os,r,m⟩=>⟨g,env,os,r,m.bind.mono λnss _ m1 as H1 s1 hn nd hl hc=>by
  obtain⟨hz,q⟩:=m1.bind.fit;refine⟨by rw[aN,hl];exact hz,λp hp=>?_⟩;have alk:p∉as:=λz=>by obtain⟨k,hk,rfl⟩:=D2 z;have:=hc k _ _ (aP hk) (aP (by rw[<-hl];exact hk));rw[hp]at this;cases this
  have sp:=bY hp (.lst (as.map V.ref));have hnew:∀b∈p::as,H b=none:=λb hb=>by
   rcases aX.mp hb with rfl|hb
   ·exact s1.free hp
   ·exact hn b hb
  have s2:=s1.trans sp;refine q _ _ ((p::as)++os) (r.ale s2 i hnew (ji.mpr ⟨alk,nd⟩) hl aU λk b ns e1 e2=>sp _ _ (hc k b ns e1 e2)) ⟨λb hb=>?_,λb hb=>s2.free hb,λb o _ hb=>s2 b o hb⟩;rcases cu.mp hb with z|z
  ·exact .inr (hnew b z)
  ·exact .inl z⟩
end
def U0:Out->R (List Ap)
 |.Ko nss=>.ok nss
 |_=>.bad
def spT(K:ak)(m:AN->R (List Ap)):Sp:=λvs H Q E=>∃P ds,IsL K P H ds vs/\(match m ds with
 |.ok nss=>∀(a:ae)(as:List ae)(H':Hp),bM H H'->adk H H' a as nss->Q (.ref a) H'
 |_=>False)
def mT(n N:Nat)(b:DE->R Out)(ds:AN):R (List Ap):=if ds.length=n then((b (aB N ds)).bind U0).ne else .bad
abbrev OkT(P:aS)(w:aD)(K:ak)(mg:Str->Option ah)(base:aF)(k:Nat)(f:ae)(fd:aL)(ps:List Str)(m:AN->R (List Ap)):Prop:=fW P w K mg base tw k f fd ps (spT K m)
section
variable{P:aS}{w:aD}{K:ak}{mg:Str->Option ah}{base:aF}
def okT{st:aw}{f:ae}{fd:aL}{N ps:List Str}{b:DE->R Out}(S:aT N ps (au st))(d:Df K mg x st ps f fd)
  (hb:∀(cdv:ah)(A:bx)(outer:List Env)(s:aj)(H:Hp)(E:XK),cP k (A.deeper (gW x (au st) s.heap.objs.size f cdv))->zL (z8 tw P w K mg base N x (au st) f cdv A outer s H E).S8 (eg st) (tS K EN b)):
  OkT P w K mg base (k+1) f fd ps (mT ps.length N.length b):=by
 refine d.F.ok S (λvs H Q E h=>?_) (λcdv A outer s H vs Q E hr h=>?_)
 ·obtain⟨Pa,ds,i,h⟩:=h
  cases e:mT ps.length N.length b ds with
  |ok nss=>
   rw[i.length];unfold mT at e;split at e
   ·assumption
   ·cases e
  |err c=>rw[e]at h;show '6'
  |bad=>rw[e]at h;show '6'
 ·obtain⟨Pa,ds,i,h⟩:=h
  show 'g';cases e:mT ps.length N.length b ds with
  |err c=>rw[e]at h;show '6'
  |bad=>rw[e]at h;show '6'
  |ok nss=>
   rw[e]at h;unfold mT at e;split at e
   ·have q:=R.eT e
    cases eb:b (aB N.length ds)with
    |bad=>rw[eb]at q;cases q
    |err c=>rw[eb]at q;cases q
    |ok o=>
     rw[eb]at q;cases o with
     |Ko zO=>
      cases q;exact λa as H' s' nd=>h a as H' s' nd
     |_=>cases q
   ·cases e
end
section
variable{X:Cx}{E:Str->Hp->Prop}{pos:Pos}
def tDp(K:ak)(E:Str->Hp->Prop)(f:DE->R (List Ap)):TE:=λσ H Q=>Rg K E f σ H λg os nss=>∀(a:ae)(as:List ae)(H':Hp),bM H H'->adk H H' a as nss->Q (.ref a) H'
def fT1{st:aw}{ps:List Str}{fa:ae}{fd:aL}{p:Pos}{e:ao}{es:List ao}{f:DE->R AN}{m:AN->R (List Ap)}(d:Df X.K X.mg x st ps fa fd)(F:OkT X.prog X.w X.K X.mg X.base k fa fd ps m)(hr:cP k X.A)
  (ha:PA X (e::es) (Cf X.K E f))(hg:autoParam (Gl X x) wS)(hdb:autoParam ((x==("__debug__":Str))=false) xI)(he:autoParam (ar (e::es) X.env=(false,az e X.env)::ar es X.env) wS)(hpl:autoParam ((bF pos (ar es X.env)).any (·.1)=false) wS):
  PE X (.Call (.Name x p) (e::es) [] pos) (tDp X.K E λenv=>((f env).bind m).ne):=
 imp (jQ (E:=λ_ _ _=>False) F hr hg d.m d.F.kp d.b .nil rS ha hdb he hpl) λσ H Q ⟨g,env,os,r,q⟩=>⟨g,env,os,r,by
  try dsimp only at q
  cases ef:f env with
  |bad=>rw[ef]at q;show 'Z'
  |err c=>rw[ef]at q;show 'Z'
  |ok ds=>
   rw[ef]at q;cases em:m ds with
   |bad=>rw[show((R.ok ds).bind m)=m ds from rfl,em]at q;show 'Z'
   |err c=>rw[show((R.ok ds).bind m)=m ds from rfl,em]at q;show 'Z'
   |ok nss=>
    rw[show((R.ok ds).bind m)=m ds from rfl,em]at q;intro vs H1 s1 i1;show spT X.K m (vs++[]) H1 Q _;rw[bg];refine⟨_,ds,i1,?_⟩;rw[em];exact λa as H' s' nd=>q a as H' (s1.trans s') (nd.back s1)⟩
def lY(i:Nat)(env:DE):R (List Ap):=match env[i]? with
 |some (.deep (.ls nss))=>.ok nss
 |_=>.bad
theorem Good.deep {H₀:Hp}{p:List Ap->Prop}(h:Good E H₀ (lY i env) p):∃nss:List Ap,env[i]?=aa (.deep nss)/\p nss:=by
 unfold lY at h;split at h
 ·rename_i nss e
  exact⟨nss,e,h⟩
 ·show '6'
def abM(i:Nat){p:Pos}(hN:autoParam (X.N[i]?=aa x) wS)(hv:autoParam (Dm X.env.scope x) xL)(hd:autoParam ((x==("__debug__":Str))=false) xI)
  (hcd:autoParam ((x==("__classdict__":Str))=false) xI):PS X (.Return (aa (.Name x p)) pos) (tS X.K E λenv=>(lY i env).bind λnss=>.ok (.Ko nss)):=
 wb (uA (mZ hN hv hd hcd)) λDe σ H ⟨g,env,os,r,m⟩=>by obtain⟨nss,e,q⟩:=m.bind.deep;obtain⟨A,dd⟩:=r.Uk;obtain⟨a,as,hA,h1,h3⟩:=dd.dp i nss e;exact⟨.ref a,h1,(show jU X.K g H os De (.Ko nss)from q) a as H r.ext ⟨λb hb=>(r.new b (h3.mem b hb).1).1,h3.nd,h3.len,h3.ha,λk b ns e1 e2=>(h3.it k b ns e1 e2).2⟩⟩
end
section
variable{X:Cx}{E:Str->Hp->Prop}{pos:Pos}
def Rel.IY {K:ak}{g:Gh}(r:Rel K g env σ H os){ix:Nat}(e:env[ix]?=aa (.deep nss)):∃(a:ae)(as:List ae),σ[ix]?=aa (aa (.ref a))/\H a=aa (.lst (as.map V.ref))/\as.length=nss.length/\∀(k:Nat)(ns:Ap),nss[k]?=aa ns->∃b,as[k]?=aa b/\H b=aa (.lst (ns.map V.int)):=by
 obtain⟨A,dd⟩:=r.Uk;obtain⟨a,as,_,h1,h3⟩:=dd.dp ix nss e;refine⟨a,as,h1,h3.ha,h3.len,λk ns hk=>?_⟩;have hl:k<as.length:=by rw[h3.len];exact(bH.mp hk).1
 exact⟨as[k],aP hl,(h3.it k _ ns (aP hl) hk).2⟩
def KQ(nss:List Ap):D->R (Nat×Ap)
 |.int i=>(match Ao nss.length i with
  |some k=>(match nss[k]? with
   |some ns=>.ok (k,ns)
   |none=>.bad)
  |none=>.bad)
 |_=>.bad
theorem Good.KQ {H₀:Hp}{a:D}{p:Nat×Ap->Prop}(h:Good E H₀ (KQ nss a) p):∃i k ns,a=.int i/\Ao nss.length i=aa k/\nss[k]?=aa ns/\p (k,ns):=by
 unfold DL.KQ at h;split at h
 ·rename_i i
  split at h
  ·rename_i k hk
   split at h
   ·rename_i ns hns
    exact⟨i,k,ns,rfl,hk,hns,h⟩
   ·show '6'
  ·show '6'
 ·show '6'
def adZ{α:Type}{xs:List α}{i:Int}{x:α}(h:Ao xs.length i=aa k)(hx:xs[k]?=aa x):mO xs i=aa x:=by unfold L2.mO;rw[h];exact hx
end
section
variable{K:ak}{g:Gh}{env:DE}{σ:St}{H H1:Hp}{os:List ae}
def Rel.ahE (r:Rel K g env σ H os)(s:bM H H1)(e:env[i]?=aa (.deep nss)){a b:ae}{as:List ae}{ns:Ap}(hσ:σ[i]?=aa (aa (.ref a)))(ha:H a=aa (.lst (as.map V.ref)))(hn:H b=none)(hb:H1 b=aa (.lst (ns.map V.int))):
  a∈os/\Rel K g (env.set i (.deep (nss++[ns]))) σ (upd H1 a (.lst (as.map V.ref++[.ref b]))) (b::os):=by
 obtain⟨A,dd⟩:=r.Uk;obtain⟨a0,Gd,hA,h1,h3⟩:=dd.dp i nss e;rw[hσ]at h1;cases h1;have has:Gd=as:=by
  have z:=h3.ha;rw[ha]at z;have z2:as.map V.ref=Gd.map V.ref:=by injection z with z;injection z
  exact(uc z2).symm
 subst has;have Ag:a∈os:=h3.ma;have hnew:b∉os:=λhm=>by obtain⟨o,ho⟩:=(r.new b hm).2;rw[hn]at ho;cases ho
 have hab:b≠a:=λz=>hnew (by rw[z];exact Ag);refine⟨Ag,?_⟩;have ex:Ext (g.P os) (g.P (b::os)) H (upd H1 a (.lst (Gd.map V.ref++[.ref b]))):=⟨λc o p q=>⟨p.1,λhm=>by
  rcases aX.mp hm with z|z
  ·rw[z,hn]at q;cases q
  ·exact p.2 z⟩,λc o p q=>by rw[aH (λz=>p.2 (by rw[z];exact Ag))];exact s c o q⟩
 have f:∀(j:Nat)(sl:Sl),(env.set i (Sl.deep (nss++[ns])))[j]?=aa sl->sl≠.deep (nss++[ns])->i≠j/\env[j]?=aa sl:=λj sl q hn=>t8 q hn;have keep:∀c∈os,c≠a->∀o,H c=aa o->(upd H1 a (.lst (Gd.map V.ref++[.ref b]))) c=aa o:=λc _ hc o ho=>by rw[aH hc];exact s c o ho
 refine⟨by simp[r.len],λc o q=>?_,λj d q=>?_,λj xs q=>?_,λj k xs ys c q1 q2 q3 q4=>?_,λc hc=>?_,λj v q=>?_,?_⟩
 ·rw[aH (λz=>by rw[z,(r.new a Ag).1]at q;cases q)]
  exact s _ _ (r.ext c o q)
 ·obtain⟨hj,q⟩:=f j _ q (λz=>nomatch z)
  obtain⟨v,h1,h2⟩:=r.val j d q;show 'A'
 ·obtain⟨hj,q⟩:=f j _ q (λz=>nomatch z)
  obtain⟨c,vs,h1,h2,h3',h4⟩:=r.own j xs q;have hca:c≠a:=λz=>dd.ow i nss j xs c e q h1 (by rw[z,hA];exact je);exact⟨c,vs,h1,bE _ h2,keep c h2 hca _ h3',IsL.ext ex _ _ h4⟩
 ·obtain⟨hj,q1⟩:=f j _ q1 (λz=>nomatch z)
  show 'E';show '?'
 ·rcases aX.mp hc with z|z
  ·rw[z]
   exact⟨r.ext.free hn,_,by rw[aH hab];exact hb⟩
  ·obtain⟨z1,o,z2⟩:=r.new c z
   refine⟨z1,?_⟩
   by_cases w:c=a
   ·exact⟨_,by rw[w];exact aU⟩
   ·exact⟨o,keep c z w o z2⟩
 ·obtain⟨hj,q⟩:=f j _ q (λz=>nomatch z)
  show 'É'
 ·have sub:∀(j':Nat)(y:ae),(y∈if j'=i then a::(Gd++[b])else A j')->y∈A j'\/(j'=i/\y=b):=λj' y hy=>by
   by_cases hj:j'=i
   ·rw[if_pos hj]at hy
    rw[hj,hA];rcases aX.mp hy with w|w
    ·rw[w];exact .inl je
    ·rcases cu.mp w with w|w
     ·exact .inl (bE _ w)
     ·exact .inr ⟨rfl,by simpa using w⟩
   ·rw[if_neg hj]at hy
    exact .inl hy
  have p1:∀(j:Nat)(ms:Ct),(env.set i (Sl.deep (nss++[ns])))[j]?=aa (.deep ms)->∃ms',env[j]?=aa (.deep ms'):=λj ms q=>by
   by_cases hj:i=j
   ·subst hj;exact⟨nss,e⟩
   ·rw[bw hj]at q;exact⟨ms,q⟩
  refine⟨λj=>if j=i then a::(Gd++[b])else A j,λj zO q=>?_,λj zO m xs c q1 q2 q3 hx=>?_,λj m zO lss hjm q1 q2 x hx hx2=>?_⟩
  ·by_cases hj:j=i
   ·have q':=q
    rw[hj]at q';have z:=dD q';cases z;refine⟨a,Gd++[b],if_pos hj,by rw[hj];exact hσ,bE _ h3.ma,by rw[cF];exact aU,by rw[br,br,h3.len];rfl,?_,λm c ms e1 e2=>?_⟩
    ·have alm:b∉Gd:=λz=>hnew (h3.mem b (bE _ z)).1
     have nd:=ji.mp h3.nd;refine ji.mpr ⟨λz=>?_,?_⟩
     ·rcases cu.mp z with w|w
      ·exact nd.1 w
      ·have:a=b:=by simpa using w
       exact hab this.symm
     ·rw[ZX]
      refine⟨nd.2,by simp,λx hx y hy=>?_⟩;have hy':y=b:=(by simpa using hy);rw[hy'];exact λz=>alm (by rw[<-z];exact hx)
    ·by_cases hm:m<Gd.length
     ·rw[fE hm]at e1
      rw[fE (by rw[<-h3.len];exact hm)]at e2;obtain⟨w1,w2⟩:=h3.it m c ms e1 e2;have hca:c≠a:=λz=>(ji.mp h3.nd).1 (by rw[<-z];exact dU e1);exact⟨bE _ w1,keep c w1 hca _ w2⟩
     ·have hk2:m=Gd.length:=by
       have:=(bH.mp e1).1;rw[br]at this;simp at this;lia
      subst hk2;have z1':b=c:=(by simpa using e1);rw[h3.len]at e2;have z2':ns=ms:=(by simpa using e2);subst z1' z2';exact⟨je,by rw[aH hab];exact hb⟩
   ·rw[bw (Ne.symm hj)]at q
    obtain⟨c,cs,z1,z2,z3⟩:=dd.dp j zO q;refine⟨c,cs,by rw[if_neg hj];exact z1,z2,z3.to λx hx=>?_⟩;have hxa:x≠a:=λz=>dd.dj i j nss zO (Ne.symm hj) e q a (by rw[hA];exact je) (by rw[z1,<-z];exact hx);obtain⟨w1,o,w2⟩:=z3.mem x hx;exact⟨bE _ w1,by rw[keep x w1 hxa o w2,w2]⟩
  ·have q2':=(f m _ q2 (λz=>nomatch z)).2
   obtain⟨ms',p⟩:=p1 j zO q1;rcases sub j c hx with w|⟨_,w⟩
   ·exact dd.ow j ms' m xs c p q2' q3 w
   ·obtain⟨c',vs,w1,w2,_⟩:=r.own m xs q2'
    rw[q3]at w1;cases w1;exact hnew (by rw[<-w];exact w2)
  ·obtain⟨m1,w1⟩:=p1 j zO q1
   obtain⟨m2,w2⟩:=p1 m lss q2;rcases sub j x hx with u|⟨u1,u⟩<;>rcases sub m x hx2 with v|⟨v1,v⟩
   ·exact dd.dj j m m1 m2 hjm w1 w2 x u v
   ·exact hnew (by rw[<-v];exact(dd.mem w1 x u).1)
   ·exact hnew (by rw[<-u];exact(dd.mem w2 x v).1)
   ·exact hjm (by rw[u1,v1])
end
section
variable{X:Cx}{E:Str->Hp->Prop}{pos:Pos}
def MV(ix:Nat)(env:DE)(nss:List Ap)(kn:Nat×Ap):D->R Out
 |.int v=> @ite _ (kn.2.length<aK) (gB _) (.ok (.nx (env.set ix (.deep (nss.set kn.1 (kn.2++[v])))))) .bad
 |_=>.bad
theorem Good.MV {H₀:Hp}{ix:Nat}{kn:Nat×Ap}{d:D}{p:Out->Prop}(h:Good E H₀ (MV ix env nss kn d) p):∃v,d=.int v/\kn.2.length<aK/\p (.nx (env.set ix (.deep (nss.set kn.1 (kn.2++[v]))))):=by
 unfold DL.MV at h;split at h
 ·split at h
  ·rename_i c
   exact⟨_,rfl,c,h⟩
  ·show '6'
 ·show '6'
def ad1(ix:Nat){ei e:ao}{fi f:DE->R D}{p tp2 apos cU:Pos}(hi:PE X ei (tB X.K E fi))(he:PE X e (tB X.K E f))(hN:autoParam (X.N[ix]?=aa x) wS)(hv:autoParam (Dm X.env.scope x) xL)(hd:autoParam ((x==("__debug__":Str))=false) xI)
  (hcd:autoParam ((x==("__classdict__":Str))=false) xI)(hpi:autoParam (DZ ei) wP)
  (hbase:autoParam (jP (.Subscript (.Name x p) ei tp2) "append" X.env (az (.Subscript (.Name x p) ei tp2) X.env)=az (.Subscript (.Name x p) ei tp2) X.env) wS)
  (hfew:autoParam (((bF cU (ar [e] X.env)).all (λx=> !x.1)&&(nc cU (ng [] X.env)).all (λx=>x.1.isSome)
   &&decide ([e].length+([]:List gX).length+(if([]:List gX).isEmpty then 0 else 1)<30))=true) wS)
  (hline:autoParam ((apos.endLine==cU.line)=true) wS)(hst:autoParam (ar [e] X.env=(false,az e X.env)::ar [] X.env) wS)(hplain:autoParam ((bF cU (ar [] X.env)).any (·.1)=false) wS)
  (hs:autoParam (iH (.Call (.Attribute (.Subscript (.Name x p) ei tp2) "append" apos) [e] [] cU) none pos.line X.env=bj false) wS):
  PS X (.Expr (.Call (.Attribute (.Subscript (.Name x p) ei tp2) "append" apos) [e] [] cU) pos) (tS X.K E λenv=>(lY ix env).bind λnss=>(fi env).bind λa=>(KQ nss a).bind λkn=>(f env).bind λd=>MV ix env nss kn d):=
 wb (kD (AF nj yQ yR kI (pK jj (mZ hN hv hd hcd) hi hpi) (bc he bQ hst) hbase hfew hline hst hplain) hs) λDe σ H ⟨g,env,os,r,m⟩=>by obtain⟨nss,e1,m2⟩:=m.bind.deep;obtain⟨a,as,q1,q2,q3,q4⟩:=r.IY e1;refine⟨.ref a,q1,g,env,os,r,m2.bind.mono λda _ m3 w H2 s2 i2=>?_⟩;obtain⟨i,k,ns,rfl,hk,hns,m4⟩:=m3.bind.KQ;obtain⟨b,hb1,hb2⟩:=q4 k ns hns;refine⟨a,as.map V.ref,i,.ref b,rfl,i2,gS.of (s2 _ _ q2),adZ (by rw[aN,q3];exact hk) (by rw[bK,hb1];rfl),.inl ⟨rfl,_,gS.of (s2 _ _ hb2)⟩,g,env,os,r.same s2,m4.bind.mono λd _ m5 v H3 s3 i3=>?_⟩;obtain⟨u,rfl,hl,m6⟩:=m5.MV;have iu:v=.int u:=i3;subst iu;have r3:=r.same (s2.trans s3);have hb3:=s3 _ _ (s2 _ _ hb2);obtain⟨Ag,r4⟩:=r3.alf (ns:=ns) e1 q1 (s3 _ _ (s2 _ _ q2)) hb1 (bH.mp hns).1 (ns++[u]);refine⟨b,ns.map V.int,.int u,rfl,rfl,hb3,by rw[aN];exact hl,?_⟩;rw[cF]at r4;exact(show jU X.K g H os De (.nx _)from m6) σ _ os r4 ((z9.same (s2.trans s3) os).trans (.mut Ag))
def U1(ix:Nat)(env:DE)(nss:List Ap)(ns:Ap):R Out:= @ite _ (nss.length<aK) (gB _) (.ok (.nx (env.set ix (.deep (nss++[ns]))))) .bad
def abN(ix:Nat){f:DE->R AN}{p apos cU:Pos}(he:PE X e (tF X.K E f))(hN:autoParam (X.N[ix]?=aa x) wS)(hv:autoParam (Dm X.env.scope x) xL)(hd:autoParam ((x==("__debug__":Str))=false) xI)
  (hcd:autoParam ((x==("__classdict__":Str))=false) xI)
  (hbase:autoParam (jP (.Name x p) "append" X.env (az (.Name x p) X.env)=az (.Name x p) X.env) wS)
  (hfew:autoParam (((bF cU (ar [e] X.env)).all (λx=> !x.1)&&(nc cU (ng [] X.env)).all (λx=>x.1.isSome)
   &&decide ([e].length+([]:List gX).length+(if([]:List gX).isEmpty then 0 else 1)<30))=true) wS)
  (hline:autoParam ((apos.endLine==cU.line)=true) wS)(hst:autoParam (ar [e] X.env=(false,az e X.env)::ar [] X.env) wS)(hplain:autoParam ((bF cU (ar [] X.env)).any (·.1)=false) wS)
  (hs:autoParam (iH (.Call (.Attribute (.Name x p) "append" apos) [e] [] cU) none pos.line X.env=bj false) wS):
  PS X (.Expr (.Call (.Attribute (.Name x p) "append" apos) [e] [] cU) pos) (tS X.K E λenv=>(lY ix env).bind λnss=>(f env).bind λxs=>(R.of (Pn xs)).bind λns=>U1 ix env nss ns):=
 wb (kD (AF nj yQ yR kI (mZ hN hv hd hcd) (bc he bQ hst) hbase hfew hline hst hplain) hs) λDe σ H ⟨g,env,os,r,m⟩=>by
  obtain⟨nss,e1,m2⟩:=m.bind.deep;obtain⟨a,as,q1,q2,q3,q4⟩:=r.IY e1;refine⟨.ref a,q1,.inl ⟨rfl,_,gS.of q2⟩,g,env,os,r,m2.bind.mono λxs _ m3 b vs H1 s1 hn hH i1=>?_⟩;obtain⟨ns,e2,m4⟩:=m3.bind.of;have e3:=EU e2;subst e3;have e4:=lI i1;subst e4;unfold U1 at m4;split at m4
  ·rename_i c
   obtain⟨hos,r2⟩:=r.ahE s1 e1 q1 q2 hn hH;refine⟨a,as.map V.ref,.ref b,rfl,rfl,s1 _ _ q2,by rw[aN,q3];exact c,?_⟩;refine(show jU X.K g H os De (.nx _)from m4) σ _ (b::os) r2 ⟨λy hy=>?_,λy hy=>?_,λy o hy ho=>?_⟩
   ·rcases aX.mp hy with z|z
    ·rw[z];exact .inr hn
    ·exact .inl z
   ·by_cases z:y=a
    ·rw[z,aU]at hy;cases hy
    ·rw[aH z]at hy;exact s1.free hy
   ·rw[aH (λz=>hy (by rw[z];exact hos))];exact s1 _ _ ho
  ·exact m4.elim
end
section
variable{X:Cx}{E:Str->Hp->Prop}{pos:Pos}{k:Nat}{fa:ae}{fd:aL}{st:aw}{ps:List Str}{x:Str}{p:Pos}{e:ao}{es:List ao}{f:DE->R AN}
def dFn(d:Df X.K X.mg x st ps fa fd)(hg:autoParam (Gl X x) wS)(hdb:autoParam ((x==("__debug__":Str))=false) xI):PE X (.Name x p) (tD X.K E λ_=>.ok (.fn x)):=
 imp (HS (v:=.ref fa) hg d.m rfl hdb) λσ H Q ⟨g,env,os,r,m⟩=>m (.ref fa) H (bM.refl H) ⟨fa,rfl,d.ns⟩
def U3{CX:RM}{sp:Sp}{ds:List ah}{dvs:List V}{E:XK}{t:TA}(F:fW X.prog X.w X.K X.mg X.base CX k fa fd ps sp)(hr:cP k X.A)(hN:X.N[i]?=aa x)(hv:Dm X.env.scope x)(hk:kG X.K (.ref fa)=true)(hb:Binds X.K fd ps ds)(hd:Vals dvs ds)(hx:Passes CX X E)
  (ha:PA X (e::es) t)(hdb:autoParam ((x==("__debug__":Str))=false) xI)(hcd:autoParam ((x==("__classdict__":Str))=false) xI)(he:autoParam (ar (e::es) X.env=(false,az e X.env)::ar es X.env) wS)(hpl:autoParam ((bF pos (ar es X.env)).any (·.1)=false) wS):
  PE X (.Call (.Name x p) (e::es) [] pos) (λσ H Q=>σ[i]?=aa (aa (.ref fa))/\abv sp dvs E t σ H Q):=by
 intro pins s σ H Q I ⟨hσ,h⟩;refine vO (Q:=EP X pins σ Q) ?_;have fin:aG (aE X.prog X.w) X.A (callWith pos (.ref fa) [] (bF pos (ar (e::es) X.env)) (nc pos (ng [] X.env))) (EP X pins σ Q) X.xe s:=by refine Ij (h₀:=X.base) I.ok.mod.kin hk (gh (ha pos pins s σ H _ I h) λus s1 ⟨vs,H1,I1,r,q⟩=>⟨I1.B1,?_⟩) he hpl;exact Ih F hr hb hd hx I1 r q
 obtain⟨m,hn,hl⟩:=I.loc;obtain⟨u,r,l⟩:=hl i x _ hN hσ hv;cases r;rcases l with⟨hk,hm⟩|⟨hk,c,hc,hcell⟩
 ·exact Au (N8 I.ok.kind hk hn hm fin) hdb
 ·rcases hk with hk|hk
  ·exact Au (N9 I.ok.kind hk hc hcell fin) hdb
  ·exact Au (X1 I.ok.kind hk hc hcell fin hcd) hdb
abbrev Sh:=List (Str×(AN->R AN))
def FnR(X:Cx)(n:Str)(m:AN->R AN):Prop:=∃st ps fa fd k,Df X.K X.mg n st ps fa fd/\fW X.prog X.w X.K X.mg X.base tw k fa fd ps (Tg X.K MN m)/\cP k X.A
def ZY(X:Cx)(tab:Sh):Prop:=∀n m,tab.lookup n=aa m->FnR X n m
def ZY.nil:ZY X []:=λn m h=>nomatch h
def ZY.cons {m:AN->R AN}{tab:Sh}(d:Df X.K X.mg x st ps fa fd)(F:fW X.prog X.w X.K X.mg X.base tw k fa fd ps (Tg X.K MN m))(hr:cP k X.A)(h:ZY X tab):ZY X ((x,m)::tab):=λn m' q=>by
 rw[tW]at q;split at q
 ·rename_i z
  have e:n=x:=eq_of_beq z;cases q;subst e;exact⟨_,_,_,_,_,d,F,hr⟩
 ·exact h n m' q
def xW(tab:Sh)(c:D):R (AN->R AN):=match c with
 |.fn n=>R.of (tab.lookup n)
 |_=>.bad
def fFV(i:Nat){tab:Sh}(hT:ZY X tab)(ha:PA X (e::es) (Tc X.K E f))(hN:autoParam (X.N[i]?=aa x) wS)(hv:autoParam (Dm X.env.scope x) xL)
  (hdb:autoParam ((x==("__debug__":Str))=false) xI)(hcd:autoParam ((x==("__classdict__":Str))=false) xI)(he:autoParam (ar (e::es) X.env=(false,az e X.env)::ar es X.env) wS)(hpl:autoParam ((bF pos (ar es X.env)).any (·.1)=false) wS):
  PE X (.Call (.Name x p) (e::es) [] pos) (tF X.K E λenv=>(cZ i env).bind λc=>(xW tab c).bind λm=>(f env).bind m):=λpins s σ H Q I ⟨g,env,os,r,m⟩=>by
 dsimp only [cZ]at m;cases q:env[i]? with
 |none=>rw[q]at m;show '5'
 |some sl=>
  cases sl with
  |val c=>
   rw[q]at m;obtain⟨v,h1,h2⟩:=r.val i c q;have m0:Good E g.H₀ ((xW tab c).bind λm=>(f env).bind m) _:=m;unfold xW at m0;split at m0
   ·rename_i n
    obtain⟨mm,hl,m1⟩:=m0.bind.of;obtain⟨st,ps,fa,fd,k,d,F,hr⟩:=hT n mm hl;obtain⟨a,rfl,hns⟩:=h2;rw[d.ns]at hns;cases hns;refine U3 (ds:=[]) (dvs:=[]) (E:=EX MN E) F hr hN hv d.F.kp d.b .nil rS ha hdb hcd he hpl pins s σ H Q I ⟨h1,g,env,os,r,m1.bind.mono λds _ q1 vs H1 s1 i1=>?_⟩;show Tg X.K MN mm (vs++[]) H1 Q _;rw[bg];show '9';cases em:mm ds with
    |ok d=>
     rw[em]at q1;show '*';show 'h'
    |err c=>
     rw[em]at q1;intro H' s';show 'f'
    |bad=>rw[em]at q1;exact q1
   ·exact m0.elim
  |_=>rw[q]at m;show '5'
end
def aom:D->R Int
 |.int i=>.ok i
 |_=>.bad
def alo:Out->R (List Ap)
 |.RZ nss=>.ok nss
 |_=>.bad
def mP(n N:Nat)(b:DE->R Out)(ds:AN):R (List Ap):=if ds.length=n then((b (aB N ds)).bind alo).ne else .bad
section
variable{X:Cx}{E:Str->Hp->Prop}{pos:Pos}
def toS:AN->Option (List Str)
 |[]=>aa []
 |.str x::r=>(toS r).map (x::·)
 |_::_=>none
def aon:D->R Str
 |.str i=>.ok i
 |_=>.bad
theorem A8{K:ak}{P:ae->Prop}:∀{as:List ae}{nss:List Ap},as.length=nss.length->(∀b∈as,P b)->(∀(k:Nat)(b:ae)(ns:Ap),as[k]?=aa b->nss[k]?=aa ns->H b=aa (.lst (ns.map V.int)))->IsL K P H (nss.map λns=>D.lst (ns.map D.int)) (as.map V.ref)
 |[],[],_,_,_=>rfl
 |[],_::_,h,_,_=>by simp at h
 |_::_,[],h,_,_=>by simp at h
 |a::as,ns::nss,h,hp,hi=>⟨_,_,rfl,⟨a,_,rfl,.inl ⟨hp a (by simp),.inl (hi 0 a ns rfl rfl)⟩,fg ns⟩,A8 (by simpa using h) (λb hb=>hp b (by simp[hb])) λk b ms e1 e2=>hi (k+1) b ms e1 e2⟩
def PE.alp {f:DE->R (List Ap)}(h:PE X e (tDp X.K E f)):PE X e (tL X.K E λenv=>(f env).bind λnss=>.ok (nss.map λns=>D.lst (ns.map D.int))):=
 imp h λσ H Q ⟨g,env,os,r,m⟩=>⟨g,env,os,r,m.bind.mono λnss _ q a as H' s nd=>q a _ H' s (gS.of nd.ha) (A8 nd.len (λb hb=>r.fresh (nd.fr b (bE _ hb))) nd.it)⟩
end
section
variable{X:Cx}{E:Str->Hp->Prop}{pos:Pos}
def alq(T:List (Str×Int)):List (Str×PyData):=T.map λp=>(p.1,PyData.int p.2)
def aoo(K:ak)(a:ae)(T:List (Str×Int)):Prop:=KTD.tabLook KTD.flatLooks (λb=>K.lookup b) a (alq T)=true
end
section
variable{X:Cx}{E:Str->Hp->Prop}{pos:Pos}
def aop:D->R Unit
 |.int 1=>.ok ()
 |_=>.bad
end
section
variable{X:Cx}{E:Str->Hp->Prop}{pos:Pos}
def aoq:D->R Unit
 |.int 2=>.ok ()
 |_=>.bad
end
section
variable{X:Cx}{E:Str->Hp->Prop}{pos:Pos}
def aor:D->R Unit
 |.int 0=>.ok ()
 |_=>.bad
end
def ZZ:D->D->Option D
 |.int i,.int j=> @ite _ (Yh i j) (gB _) (aa (.int (i*2^j.toNat))) none
 |_,_=>none
section
variable{X:Cx}{E:Str->Hp->Prop}{pos:Pos}
def Z0:wc X (rI Yh λi j=>.int (i*2^j.toNat)) ZZ:=D4 (h:=λi j=>.int (i*2^j.toNat)) (λ_ _=>rfl) λx y d e=>by
 unfold ZZ at e;split at e
 ·split at e
  ·rename_i i j c
   cases e;show 'H'
  ·cases e
 ·cases e
def ahG:PIp X .BitOr (ipI λi j=>IZ i j):=by intro pins s σ H x y v u Q I r1 r2 h;obtain⟨i,j,rfl,rfl,q⟩:=h;obtain⟨t,rfl⟩:=r1;obtain⟨t',rfl⟩:=r2;exact ior_int ⟨.int _,H,I.tok _,⟨_,rfl⟩,q⟩
end
section
variable{K:ak}{g:Gh}{env:DE}{σ:St}{H H1:Hp}{os:List ae}
def Rel.ahH (r:Rel K g env σ H os){c c':Ct}(e:env[i]?=aa (.deep c))(hσ:σ[i]?=aa (aa (.ref a))){o:HO}{as':List ae}
  (hd:∀as,Dp K H os a as c->(∀x,x∈as'↔x∈as)/\Dp K (upd H a o) os a as' c'):a∈os/\Rel K g (env.set i (.deep c')) σ (upd H a o) os:=by
 obtain⟨A,dd⟩:=r.Uk;obtain⟨a0,Gd,hA,h1,h3⟩:=dd.dp i c e;rw[hσ]at h1;cases h1;obtain⟨hm,XX⟩:=hd Gd h3;have Ag:a∈os:=(h3.mem a (by simp)).1;have hbA:a∈A i:=by rw[hA];simp
 refine⟨Ag,?_⟩;have ex:Ext (g.P os) (g.P os) H (upd H a o):=⟨λ_ _ p _=>p,λc o p q=>by rw[aH (λz=>p.2 (by rw[z];exact Ag))];exact q⟩
 have f:∀(j:Nat)(sl:Sl),(env.set i (Sl.deep c'))[j]?=aa sl->sl≠.deep c'->i≠j/\env[j]?=aa sl:=λj sl q hn=>t8 q hn;refine⟨by simp[r.len],λb o' q=>?_,λj d q=>?_,λj xs q=>?_,λj k xs ys b q1 q2 q3 q4=>?_,λb hc=>?_,λj v q=>?_,?_⟩
 ·rw[aH (λz=>by rw[z,(r.new a Ag).1]at q;cases q)]
  exact r.ext b o' q
 ·obtain⟨hj,q⟩:=f j _ q (λz=>nomatch z)
  obtain⟨v,h1,h2⟩:=r.val j d q;show 'A'
 ·obtain⟨hj,q⟩:=f j _ q (λz=>nomatch z)
  obtain⟨b,vs,h1,h2,h3',h4⟩:=r.own j xs q;have hcb:b≠a:=λz=>dd.ow i c j xs b e q h1 (by rw[z];exact hbA);exact⟨b,vs,h1,h2,by rw[aH hcb];exact h3',IsL.ext ex _ _ h4⟩
 ·obtain⟨hj,q1⟩:=f j _ q1 (λz=>nomatch z)
  show 'E';show '@'
 ·obtain⟨z1,o',z2⟩:=r.new b hc
  refine⟨z1,?_⟩
  by_cases z:b=a
  ·exact⟨_,by rw[z];exact aU⟩
  ·exact⟨o',by rw[aH z];exact z2⟩
 ·obtain⟨hj,q⟩:=f j _ q (λz=>nomatch z)
  show 'É'
 ·have sub:∀(j:Nat)(y:ae),(y∈if j=i then a::as' else A j)->y∈A j:=λj y hy=>by
   by_cases hj:j=i
   ·rw[if_pos hj]at hy
    rw[hj,hA];rcases aX.mp hy with w|w
    ·rw[w];exact je
    ·exact bE _ ((hm y).mp w)
   ·rw[if_neg hj]at hy
    exact hy
  have p1:∀(j:Nat)(ms:Ct),(env.set i (Sl.deep c'))[j]?=aa (.deep ms)->∃ms',env[j]?=aa (.deep ms'):=λj ms q=>by
   by_cases hj:i=j
   ·subst hj;exact⟨c,e⟩
   ·rw[bw hj]at q;exact⟨ms,q⟩
  refine⟨λj=>if j=i then a::as' else A j,λj zO q=>?_,λj zO m xs b q1 q2 q3 hx=>?_,λj m zO lss hjm q1 q2 x hx hx2=>?_⟩
  ·by_cases hj:j=i
   ·have q':=q
    rw[hj]at q';have z:=dD q';cases z;exact⟨a,as',if_pos hj,by rw[hj];exact hσ,XX⟩
   ·rw[bw (Ne.symm hj)]at q
    obtain⟨b,cs,z1,z2,z3⟩:=dd.dp j zO q;refine⟨b,cs,by rw[if_neg hj];exact z1,z2,z3.to λx hx=>?_⟩;have hxb:x≠a:=λz=>dd.dj i j c zO (Ne.symm hj) e q a hbA (by rw[z1,<-z];exact hx);show 'Á'
  ·have q2':=(f m _ q2 (λz=>nomatch z)).2
   obtain⟨ms',p⟩:=p1 j zO q1;exact dd.ow j ms' m xs b p q2' q3 (sub j b hx)
  ·obtain⟨m1,w1⟩:=p1 j zO q1
   obtain⟨m2,w2⟩:=p1 m lss q2;exact dd.dj j m m1 m2 hjm w1 w2 x (sub j x hx) (sub m x hx2)
end
section
variable{X:Cx}{E:Str->Hp->Prop}{pos:Pos}
def ahI(ix:Nat){p apos cU:Pos}(hN:autoParam (X.N[ix]?=aa x) wS)(hv:autoParam (Dm X.env.scope x) xL)(hd:autoParam ((x==("__debug__":Str))=false) xI)
  (hcd:autoParam ((x==("__classdict__":Str))=false) xI)
  (hbase:autoParam (jP (.Name x p) "reverse" X.env (az (.Name x p) X.env)=az (.Name x p) X.env) wS)(hline:autoParam ((apos.endLine==cU.line)=true) wS)
  (hs:autoParam (iH (.Call (.Attribute (.Name x p) "reverse" apos) [] [] cU) none pos.line X.env=bj false) wS):
  PS X (.Expr (.Call (.Attribute (.Name x p) "reverse" apos) [] [] cU) pos) (tS X.K E λenv=>(lY ix env).bind λnss=>.ok (.nx (env.set ix (.deep (.ls nss.reverse))))):=
 wb (kD (Iw nj PySem.F.slot_list_reverse PySem.F.type_list_reverse MD (mZ hN hv hd hcd) hbase hline) hs) λDe σ H ⟨g,env,os,r,m⟩=>by
  obtain⟨nss,e1,m2⟩:=m.bind.deep;obtain⟨a,as,q1,q2,q3,q4⟩:=r.IY e1;refine⟨.ref a,q1,.inl ⟨rfl,_,gS.of q2⟩,a,as.map V.ref,rfl,rfl,q2,?_⟩;obtain⟨hos,r2⟩:=r.ahH (c':=.ls nss.reverse) (o:=.lst (as.map V.ref).reverse) (as':=as.reverse) e1 q1 (λGd dp=>by
   have d:GY HO.lst H os a Gd nss:=dp;have has:Gd=as:=by have z:=d.ha;rw[q2]at z;have z2:as.map V.ref=Gd.map V.ref:=(by injection z with z;injection z);exact(uc z2).symm
   subst has;refine⟨λx=>yZ,d.ma,by rw[<-rz];exact aU,by rw[bR,bR];exact d.len,?_,λk b ns e1 e2=>?_⟩
   ·have nd:=ji.mp d.nd
    exact ji.mpr ⟨λz=>nd.1 (yZ.mp z),(qj Gd).nodup_iff.mpr nd.2⟩
   ·have hk:=(bH.mp e1).1
    rw[bR]at hk;rw[tX hk]at e1;rw[tX (by rw[<-d.len];exact hk),<-d.len]at e2;obtain⟨w1,w2⟩:=d.it _ b ns e1 e2;have hba:b≠a:=λz=>(ji.mp d.nd).1 (by rw[<-z];exact dU e1);exact⟨w1,by rw[aH hba];exact w2⟩)
  exact(show jU X.K g H os De (.nx _)from m2) σ _ os r2 (.mut hos)
end
def dfm{K:ak}{h:aF}{mg:Str->Option ah}{st:aw}{ps:List Str}{f:ae}{oc:ah}{od an:Option ae}{S9:Array (Option ah)}{kV doc pm cdv ct:ah}(X:K.In h)(G:h.Ns ed mg)(a:vY K ed x=aa (aa (.ref f)))
  (l:K.lookup f=aa ⟨oc,od,.func (fX x x (jT st) (eg st) (au st) .none kV doc pm an cdv ct),S9⟩)(c:AD K cdv x=true)(k:kG K (.ref f)=true)
  (hb:∀(kV doc pm:ah)(an:Option ae)(cdv ct:ah)(us:List ah),us.length=ps.length->m9 (fX x x (jT st) (eg st) (au st) .none kV doc pm an cdv ct) ⟨us,[]⟩=bj (ps.zip us)):
  Df K mg x st ps f (fX x x (jT st) (eg st) (au st) .none kV doc pm an cdv ct):=⟨ME l c k,(ME l c k).binds hb,Ef X G a,a⟩
def sZ{N P:List Str}{sc:du}(h1:autoParam (sc.kind=.function) wS)(h2:autoParam (sc.isCoroutine=false) wS)(h3:autoParam (sc.isGenerator=false) wS)(h4:autoParam (N.Nodup) wE)(h5:autoParam (N.take P.length=P) wS)
  (h6:autoParam (∀x∈P,sc.names.lookup x=aa .local\/sc.names.lookup x=aa .cell) wE)(h7:autoParam (∀y∈sc.names,y.2≠.free) wE):aT N P sc:=⟨h1,h2,h3,h4,h5,h6,h7⟩
section
variable{X:Cx}{E:Str->Hp->Prop}{pos:Pos}
def tM(K:ak)(E:Str->Hp->Prop)(f:DE->R AN):TE:=λσ H Q=>Rg K E f σ H λg os xs=>∀a vs H',bM H H'->H' a=aa (.lst vs)->IsL K (g.P os) H' xs vs->Q (.ref a) H'
def mNm(i:Nat)(hN:autoParam (X.N[i]?=aa x) wS)(hv:autoParam (Dm X.env.scope x) xL)(hd:autoParam ((x==("__debug__":Str))=false) xI)
  (hcd:autoParam ((x==("__classdict__":Str))=false) xI):PE X (.Name x pos) (tM X.K E (ownAt i)):=imp (mZ hN hv hd hcd) λσ H Q ⟨g,env,os,r,m⟩=>by
 unfold ownAt at m;split at m
 ·rename_i xs e
  show 'C';exact⟨_,h1,m a vs H (bM.refl H) h3 h4⟩
 ·show '5'
def ahJ{a b:ao}{fa:DE->R AN}{fb:DE->R D}(ha:PE X a (tM X.K E fa))(hb:PE X b (tB X.K E fb)):PE X (.BinOp a .Mult b pos) (tF X.K E λenv=>(fa env).bind λx=>(fb env).bind λy=>KG x y):=
 imp (zN Ug ha hb) λσ H Q ⟨g,env,os,r,m⟩=>⟨g,env,os,r,m.bind.mono λx _ m1 a1 v1 H1 s1 hH i1=>⟨g,env,os,r.same s1,m1.bind.mono λy _ m2 w H2 s2 i2=>by
  unfold KG at m2;split at m2
  ·rename_i k _
   split at m2
   ·rename_i c
    refine⟨a1,k,v1,rfl,i2,s2 _ _ hH,c.1,c.2.1,by rw[i1.length];exact c.2.2,λp hp=>?_⟩;obtain⟨b1,b2,b3,b4⟩:=Ks r (s1.trans s2) hp ((i1.same s2).rep k.toNat);exact m2 p _ _ b1 b2 b3 b4
   ·show 'Ê'
  ·exact m2.elim⟩⟩
end
noncomputable def E3(env:DE):R Out:=
 ((((((((bZ 0 env>=>λjF=>R.ok (D.int 1000003)>=>λmQ=>R.of (uW jF mQ))>=>λpJ=>R.ok (D.int 7)>=>λmz=>R.of (MI pJ mz))>=>λv10=>(bZ 1 env>=>λlJ=>bZ 1 env>=>λmB=>R.of (MI lJ mB))>=>λv11=>R.of (iA v10 v11))>=>λv8=>R.ok (D.int 1)>=>λv9=>R.of (iA v8 v9))>=>λv6=>bZ 2 env>=>λv7=>R.of (MI v6 v7))>=>λv4=>R.ok (D.int 2147483647)>=>λv5=>R.of (uW v4 v5))>=>λv2=>R.ok (D.int 16)>=>λv3=>R.of (Cg v2 v3))>=>λv1=>R.ok (Out.rt v1))
def lZ:=mS 3 3 E3
noncomputable def xX(env:DE):R Out:=
 (bV (((bZ 1 env>=>λv4=>R.ok (D.int 1)>=>λv5=>R.of (Ae v4 v5)>=>jk)>=>λv3=>if v3=true then((bZ 0 env>=>λv8=>R.ok (D.int 13)>=>λv9=>R.of (uW v8 v9))>=>λv6=>R.ok (D.int 5)>=>λv7=>R.of (Ae v6 v7)>=>jk)else R.ok false)>=>λv2=>if v2=true then(R.ok (D.int 1)>=>λv10=>R.ok (Out.rt v10))else(R.ok (Out.nx env))) λv1=>
 (bV (((R.ok (D.int 2)>=>λjF=>(bZ 1 v1>=>λlJ=>R.ok []>=>λmB=>R.ok (lJ::mB))>=>λmQ=>R.ok (jF::mQ))>=>λmz=>R.of (O8 mz))>=>λpJ=>R.ok (Out.nx (List.set v1 1 (Sl.val pJ)))) λv11=>
 ((bZ 1 v11>=>λqJ=>((bZ 0 v11>=>λuT=>R.ok (D.int 13)>=>λvE=>R.of (Cg uT vE))>=>λud=>((bZ 2 v11>=>λzE=>bZ 1 v11>=>λCq=>R.of (kY zE Cq))>=>λxY=>R.ok (D.int 1)>=>λzF=>R.of (iA xY zF))>=>λlK=>R.of (uW ud lK))>=>λv20=>R.of (iA qJ v20))>=>λpG=>R.ok (Out.rt pG))))
def j8:=mS 3 3 xX
noncomputable def xu(env:DE):R Out:=
 (bV ((R.ok (D.int 1)>=>λv3=>(bZ 0 env>=>λv5=>(bZ 1 env>=>λv7=>R.ok (D.int 1)>=>λv8=>R.of (kY v7 v8))>=>λv6=>R.of (uW v5 v6))>=>λv4=>R.of (iA v3 v4))>=>λv2=>R.ok (Out.nx (List.set env 2 (Sl.val v2)))) λv1=>
 (bV ((((bZ 0 v1>=>λmQ=>R.ok (D.int 8)>=>λlJ=>R.of (Cg mQ lJ))>=>λmz=>R.ok (D.int 2)>=>λjF=>R.of (uW mz jF))>=>λv11=>R.ok (D.int 1)>=>λpJ=>R.of (Ae v11 pJ)>=>jk)>=>λv10=>if v10=true then((bZ 2 v1>=>λpG=>R.of (zB pG))>=>λmB=>R.ok (Out.rt mB))else(R.ok (Out.nx v1))) λv9=>
 (cZ 2 v9>=>λqJ=>R.ok (Out.rt qJ))))
def fQ:=mS 2 3 xu
noncomputable def A9(env:DE):R Out:=
 (bV (((bZ 0 env>=>λv3=>(bZ 1 env>=>λv5=>R.ok []>=>λv6=>R.ok (v5::v6))>=>λv4=>R.ok (v3::v4))>=>fQ)>=>λv2=>R.ok (Out.nx (List.set env 2 (Sl.val v2)))) λv1=>
 (bV (((((bZ 0 v1>=>λjF=>R.ok (D.int 16)>=>λmQ=>R.of (Cg jF mQ))>=>λpJ=>R.ok (D.int 4)>=>λmz=>R.of (uW pJ mz))>=>λv10=>R.ok (D.int 0)>=>λv11=>R.of (Dt v10 v11)>=>jk)>=>λv9=>if v9=true then R.ok true else(bZ 1 v1>=>λlJ=>R.ok (D.int 3)>=>λmB=>R.of (R3 lJ mB)>=>jk))>=>λv8=>if v8=true then((((cZ 2 v1>=>λv20=>R.ok []>=>λud=>R.ok (v20::ud))>=>fit)>=>λqJ=>R.ok (D.lst qJ))>=>λpG=>R.ok (Out.rt pG))else(R.ok (Out.nx v1))) λv7=>
 (bV (((((((bZ 2 v7>=>λE4=>R.ok (D.int 1)>=>λGx=>R.of (iA E4 Gx))>=>λE5=>R.ok []>=>λv30=>R.ok (E5::v30))>=>λCq=>R.of (zC Cq))>=>λzF=>bZ 1 v7>=>λzE=>R.of (R3 zF zE)>=>jk)>=>λxY=>if xY=true then((bZ 2 v7>=>λKR=>R.ok (D.int 1)>=>λMX=>R.of (iA KR MX))>=>λMh=>R.ok (D.int 0)>=>λKS=>R.of (G4 Mh KS)>=>jk)else R.ok false)>=>λvE=>if vE=true then(bZ 2 v7>=>λI0=>R.ok (D.int 1)>=>λKU=>R.of (iA I0 KU))else(bZ 2 v7>=>λSi=>R.ok (D.int 1)>=>λPB=>R.of (kY Si PB)))>=>λuT=>R.ok (Out.nx (List.set v7 3 (Sl.val uT)))) λlK=>
 (((((((cZ 2 lK>=>λKW=>(cZ 3 lK>=>λU4=>(cZ 2 lK>=>λSn=>R.ok []>=>λTi=>R.ok (Sn::Ti))>=>λU5=>R.ok (U4::U5))>=>λHa=>R.ok (KW::Ha))>=>fit)>=>λU6=>R.ok (D.lst U6))>=>λMY=>((((cZ 2 lK>=>λU7=>(cZ 3 lK>=>λU8=>R.ok []>=>λU9=>R.ok (U8::U9))>=>λMZ=>R.ok (U7::MZ))>=>fit)>=>λGe=>R.ok (D.lst Ge))>=>λTj=>((((cZ 2 lK>=>λVa=>(cZ 2 lK>=>λVb=>R.ok []>=>λVc=>R.ok (Vb::Vc))>=>λVd=>R.ok (Va::Vd))>=>fit)>=>λVe=>R.ok (D.lst Ve))>=>λVf=>((((cZ 2 lK>=>λVg=>((bZ 3 lK>=>λZ1=>R.of (zB Z1))>=>λXD=>(cZ 2 lK>=>λv75=>R.ok []>=>λTn=>R.ok (v75::Tn))>=>λVh=>R.ok (XD::Vh))>=>λVi=>R.ok (Vg::Vi))>=>fit)>=>λVj=>R.ok (D.lst Vj))>=>λVk=>R.ok []>=>λVm=>R.ok (Vk::Vm))>=>λPD=>R.ok (Vf::PD))>=>λZ2=>R.ok (Tj::Z2))>=>λGy=>R.ok (MY::Gy))>=>fit)>=>λSo=>((bZ 0 lK>=>λZ3=>R.ok (D.int 64)>=>λZ4=>R.of (Cg Z3 Z4))>=>λPF=>R.ok (D.int 4)>=>λZ5=>R.of (uW PF Z5))>=>λSq=>yP So Sq)>=>λSs=>R.ok (Out.rt Ss)))))
def oH:=mD 2 4 A9
noncomputable def qK(d:D)(env:DE):R Out:=
 (bT 2 (zR (bN 4) (zR (bN 5) R7))) d env>=>λv8=>
  ((bZ 1 v8>=>λv10=>R.ok (D.int 1)>=>λv11=>R.of (Dt v10 v11)>=>jk)>=>λv9=>if v9=true then(((mV 3 v8>=>λjF=>(((((bZ 5 v8>=>λpG=>(bZ 4 v8>=>λv20=>(R.ok (D.int 48271)>=>λlK=>R.ok []>=>λuT=>R.ok (lK::uT))>=>λud=>R.ok (v20::ud))>=>λqJ=>R.ok (pG::qJ))>=>lZ)>=>λlJ=>(cZ 1 v8>=>λvE=>R.ok []>=>λxY=>R.ok (vE::xY))>=>λmB=>R.ok (lJ::mB))>=>oH)>=>D3)>=>λmQ=>fit (jF++mQ))>=>λmz=>R.ok (D.lst mz))>=>λpJ=>R.ok (Out.nx (List.set v8 3 (Sl.val pJ))))else(R.ok (Out.nx v8)))
noncomputable def Ba(env:DE):R Out:=
 (bV (((R.ok []>=>fit)>=>λv3=>R.ok (D.lst v3))>=>λv2=>R.ok (Out.nx (List.set env 3 (Sl.val v2)))) λv1=>
 (bV ((cZ 0 v1>=>λzF=>D3 zF>=>λxs=>R.ok (nk xs))>=>λv5=>iS qK v5 v1) λv4=>
 ((mV 3 v4>=>λCq=>R.ok none>=>λE5=>(bZ 2 v4>=>Mg)>=>λv30=>R.ok (cut Cq E5 v30))>=>λzE=>R.ok (Out.qZ zE))))
def oJ:=cg 3 6 Ba
def KY(c k f:Int):Int:=(c%1000003*7+k*k+1)*f%2147483647/16
def Vn(c k f:Int)(hk:0<=k/\k<1000000)(hf:0<=f/\f<2147483647):lZ [.int c,.int k,.int f]=.ok (.int (KY c k f)):=by have h1:=Bb c (show(1000003:Int)≠0 by decide);have h2:=Eg c (show(0:Int)<1000003 by decide);unfold lZ E3;simp_all;rw[nK c 1000003 (by decide)];simp_all only [R.dE,R.bX];rw[IK _ 7 (.inr (by decide))];simp_all only [R.dE,R.bX];rw[IK k k (.inl (by lia))];simp_all only [R.dE,R.bX,fJ];rw[IK _ f (.inr (by lia))];simp_all only [R.dE,R.bX];rw[nK _ 2147483647 (by decide)];simp_all only [R.dE,R.bX];rw[wm _ 16 (by decide)];rfl
def M0(c k f:Int):0<=KY c k f:=by unfold KY;have h1:=Bb ((c%1000003*7+k*k+1)*f) (show(2147483647:Int)≠0 by decide);exact ZR h1 (by decide)
def iU(x n:Int):Int:=if x/8%2=1 then-(1+x%(n-1))else 1+x%(n-1)
def KZ(x n:Int)(h:2<=n):fQ [.int x,.int n]=.ok (.int (iU x n)):=by
 unfold fQ xu iU;simp_all;rw[nK x (n-1) (by lia)];dsimp;rw[wm x 8 (by decide)];dsimp;rw[nK _ 2 (by decide)];dsimp
 by_cases hc:x/8%2=1
 ·dsimp [hc,beq_self_eq_true]
 ·have Tw:(x/8%2==1)=false:=beq_false_of_ne hc
  dsimp [hc,Tw]
def cQ(n k:Int):Prop:=k≠0/\ -n<k/\k<n
def K0(x n:Int)(h:2<=n):cQ n (iU x n):=by unfold iU cQ;have h1:=Bb x (show n-1≠0 by lia);have h2:=Eg x (show 0<n-1 by lia);split<;>lia
def Cr(k n:Int):Int:=if(if k+1<0 then-(k+1)else k+1)<n/\k+1≠0 then k+1 else k-1
def xZ(x n:Int):Ap:=
 if x/16%4>0\/n<3 then[iU x n]else
  let k:=iU x n;let o:=Cr k n
  if x/64%4=0 then[k,o,k]else if x/64%4=1 then[k,o]else if x/64%4=2 then[k,k]else[k,-o,k]
def Vo{k n:Int}(h:3<=n)(hk:cQ n k):cQ n (Cr k n):=by unfold Cr cQ at*;split<;>split at* <;>lia
def Vp{x n:Int}(h:2<=n):∀k∈xZ x n,cQ n k:=by
 have h1:=K0 x n h;unfold xZ;split
 ·simp[h1]
 ·rename_i hc
  have h2:=Vo (n:=n) (by lia) h1;have h3:cQ n (-Cr (iU x n) n):=by unfold cQ at*;lia
  dsimp only;split
  ·simp[h1,h2]
  ·split
   ·simp[h1,h2]
   ·split<;>simp[h1,h3]
def Hb(x n:Int):(xZ x n).length<=3:=by
 unfold xZ;split
 ·simp
 ·dsimp only
  split
  ·simp
  ·split
   ·simp
   ·split<;>simp
def Vq(x n:Int)(h:2<=n):oH [.int x,.int n]=.ok (.lst (bp (xZ x n))):=by
 unfold oH A9 xZ;simp_all;rw[KZ x n h];dsimp;rw[wm x 16 (by decide)];dsimp;rw[nK _ 4 (by decide)];dsimp
 by_cases h1:0<x/16%4
 ·have K1:x/16%4>0\/n<3:=.inl h1
  rw[if_pos K1];dsimp [h1,decide_true];rfl
 ·by_cases h2:n<3
  ·have K1:x/16%4>0\/n<3:=.inr h2
   rw[if_pos K1];dsimp [h1,h2,decide_true,decide_false];rfl
  ·have K1:¬(x/16%4>0\/n<3):=by lia
   rw[if_neg K1];dsimp [h1,h2,decide_false];have ho:((if decide ((if iU x n+1<0 then-(iU x n+1)else iU x n+1)<n)=true then R.ok (!(iU x n+1==0))else R.ok false)>=>λt=>if t=true then R.ok (D.int (iU x n+1))else R.ok (D.int (iU x n-1)))=R.ok (D.int (Cr (iU x n) n)):=by
    unfold Cr
    by_cases c1:(if iU x n+1<0 then-(iU x n+1)else iU x n+1)<n
    ·by_cases c2:iU x n+1=0
     ·simp[c1,c2,R.bX]
     ·simp[c1,c2,R.bX]
    ·simp[c1,R.bX]
   rw[ho];simp_all;rw[wm x 64 (by decide)];dsimp;rw[nK _ 4 (by decide)];dsimp;have h5:=Bb (x/64) (show(4:Int)≠0 by decide);have h6:=Eg (x/64) (show(0:Int)<4 by decide);have h7:x/64%4=0\/x/64%4=1\/x/64%4=2\/x/64%4=3:=(by lia);rcases h7 with q|q|q|q<;>simp[q,L2.mO,L2.Ao,R.dE,R.bX,R.my,aA,bp]
def mR(n:Int)(cells:Ap)(i:Nat):Ap:=((bG i).map λk=>match cells[k]? with
 |some c=>xZ (KY c k 48271) n
 |none=>[]).flatten
def Vr{n:Int}{cells:Ap}{c:Int}(h:cells[i]?=aa c):mR n cells (i+1)=mR n cells i++xZ (KY c i 48271) n:=by unfold mR;rw[PH,cF,ue];simp[h]
theorem PJ(n:Int)(cells:Ap):∀i:Nat,(mR n cells i).length<=3*i
 |0=>by simp[mR]
 |i+1=>by
  unfold mR;rw[PH,cF,ue,br];have ih:=PJ n cells i;unfold mR at ih;cases h:cells[i]? with
  |none=>simp_all only [h,bq,dz,dM,Bc,br,cD];lia
  |some c=>
   have:=Hb (KY c i 48271) n;simp_all only [h,bq,dz,dM,Bc,br,cD];lia
def ad3{n:Int}(hn:2<=n)(cells:Ap)(i:Nat):∀k∈mR n cells i,cQ n k:=by
 intro k hk;unfold mR at hk;rw[Eh]at hk;obtain⟨l,hl,hk⟩:=hk;rw[dQ]at hl;obtain⟨j,_,rfl⟩:=hl;cases h:cells[j]? with
 |none=>rw[h]at hk;cases hk
 |some c=>rw[h]at hk;exact Vp hn k hk
def Ah(cells:Ap)(n most:Int):Ap:=(if 1<n then mR n cells cells.length else[]).take most.toNat
def Vs{cells:Ap}{n most:Int}:∀k∈Ah cells n most,cQ n k:=by
 intro k hk;unfold Ah at hk;have:=wz hk;split at this
 ·exact ad3 (by lia) _ _ k this
 ·cases this
def Vt(cells:Ap)(n most:Int)(hc:cells.length<=1000)(hn:1<=n)(hm:0<=most):oJ [.lst (bp cells),.int n,.int most]=.ok (bp (Ah cells n most)):=by
 unfold oJ Ba;simp_all;obtain⟨s',e,hj⟩:=xT (S:=Ap×Sl×Sl) (b:=qK)
  (λi s=>s.1=if 1<n then mR n cells i else[]) (λs=>[.val (.lst (bp cells)),.val (.int n),.val (.int most),.val (.lst (bp s.1)),s.2.1,s.2.2]) (nk (bp cells)) 0 ([],.no,.no) (by simp[mR]) (by
   rintro j ⟨wd,s4,s5⟩ x hs hx;obtain⟨c,hcj,rfl⟩:=Cp hx;have hj:j<cells.length:=(bH.mp hcj).1;rw[lH]at hs⊢;have Pw:wd=if 1<n then mR n cells j else[]:=hs;unfold qK;simp_all [bT2]
   by_cases h1:1<n
   ·rw[if_pos h1]at Pw
    subst Pw;have hl:=PJ n cells j;have hl2:=Hb (KY c j 48271) n;refine⟨(mR n cells (j+1),.val (.int (j:Nat)),.val (.int c)),?_,by simp[h1]⟩;dsimp [h1,decide_true];rw[Vn c j 48271 (by lia) (by decide)];dsimp;rw[Vq _ n (by lia)];dsimp [kL];rw[jw (by rw[br];lia)];dsimp [Vr hcj]
   ·rw[if_neg h1]at Pw
    subst Pw;exact⟨([],.val (.int (j:Nat)),.val (.int c)),by dsimp [h1,decide_false],by simp[h1]⟩)
 obtain⟨wd,s4,s5⟩:=s';have M4:wd=if 1<n then mR n cells (0+(nk (bp cells)).length)else[]:=hj;have he:(nk (bp cells)).length=cells.length:=by rw[Sd,cK]
 rw[lH,he]at M4;rw[show bp []=[]from rfl]at e;rw[e];dsimp [tY];rw[Co _ _ hm,jE];dsimp [M4];rfl
theorem Vu{xs:AN}:tE (JW (.lst xs)) "list"=true:=rfl
def PK{x:D}(h:(bp w)[j]?=aa x):∃k,w[j]?=aa k/\x=.int k:=by
 rw[ZF]at h;cases q:w[j]? with
 |none=>rw[q]at h;cases h
 |some k=>rw[q]at h;cases h;exact⟨k,rfl,rfl⟩
def K2{α:Type}{w:List α}{k:α}(h:w[j]?=aa k):w.take (j+1)=w.take j++[k]:=by rw[Ei,h];rfl
def ahK{K:ak}{m:AN->R D}{ns:Ap}(h:m [.lst (bp ns)]=.ok (.bl true))(hS:gS K H a (ns.map V.int)):O9 K MN m [.ref a] H (λv _=>v=.bl true) λ_ _ _=>False:=by
 refine⟨Tr,[.lst (bp ns)],IsL.one ⟨a,_,rfl,Ds.any hS,?_⟩,?_⟩
 ·clear h hS
  induction ns with
  |nil=>rfl
  |cons x r ih=>show '4'
 ·rw[h]
  intro v H' _ i;exact i
def K3(env:DE):R Bool:=
 R.ok true
def K4(env:DE):R D:=
 (bZ 0 env>=>λv6=>R.of (zB v6))
def K5(env:DE):R Out:=
 (((cZ 0 env>=>λv7=>D3 v7>=>λxs=>R.ok (reverse xs))>=>λv2=>uF env []>=>λv3=>R.ne (kW (bN 0) K3 K4 (xt 1 v3) v2)>=>fit)>=>λv1=>R.ok (Out.qZ v1))
def rV:=cg 1 1 K5
noncomputable def wA(d:D)(env:DE):R Out:=
 (bN 2) d env>=>λv7=>
  (((((bZ 1 v7>=>λmz=>R.ok []>=>λjF=>R.ok (mz::jF))>=>λpJ=>R.of (we pJ))>=>λv10=>R.ok (D.int 0)>=>λv11=>R.of (Dt v10 v11)>=>jk)>=>λv9=>if v9=true then((mV 1 v7>=>λmB=>(R.ok (D.int 1)>=>λqJ=>R.of (zB qJ))>=>λpG=>yP mB pG)>=>λmQ=>(bZ 2 v7>=>λv20=>R.of (zB v20))>=>λlJ=>R.of (Ae mQ lJ)>=>jk)else R.ok false)>=>λv8=>if v8=true then(ownAt 1 v7>=>λud=>adQ 1 v7 ud)else(ownAt 1 v7>=>λlK=>cZ 2 v7>=>λuT=>Zx 1 v7 lK uT))
def Hc(env:DE):R Out:=
 (bV ((R.ok []>=>fit)>=>λv2=>R.ok (Out.nx (List.set env 1 (Sl.own v2)))) λv1=>
 (bV ((cZ 0 v1>=>D3)>=>λv4=>iS wA v4 v1) λv3=>
 (ownAt 1 v3>=>λvE=>R.ok (Out.qZ vE))))
def uZ:=cg 1 3 Hc
def u4(env:DE):R Out:=
 (((bZ 1 env>=>λv3=>R.ok (D.int 0)>=>λv4=>R.of (R3 v3 v4)>=>jk)>=>λv2=>if v2=true then R.ok true else(bZ 1 env>=>λv5=>bZ 0 env>=>λv6=>R.of (kGe v5 v6)>=>jk))>=>λv1=>if v1=true then(R.bad:R Out)else(R.ok (Out.nx env)))
def eR:=mS 2 2 u4
noncomputable def pM(env:DE):R Out:=
 (bV ((bZ 0 env>=>λv3=>R.ok (D.int 0)>=>λv4=>R.of (Dt v3 v4)>=>jk)>=>λv2=>if v2=true then((bZ 0 env>=>λv6=>bZ 1 env>=>λv7=>R.of (iA v6 v7))>=>λv5=>R.ok (Out.rt v5))else(R.ok (Out.nx env))) λv1=>
 ((bZ 0 v1>=>λv9=>bZ 1 v1>=>λv10=>R.of (kY v9 v10))>=>λv8=>R.ok (Out.rt v8)))
def cX:=mS 2 2 pM
noncomputable def x5(env:DE):R Out:=
 (bV ((bZ 0 env>=>λv3=>(((bZ 1 env>=>λv8=>R.ok []>=>λv9=>R.ok (v8::v9))>=>λv7=>R.of (zC v7))>=>λv5=>R.ok (D.int 1)>=>λv6=>R.of (kY v5 v6))>=>λv4=>R.of (Ae v3 v4)>=>jk)>=>λv2=>if v2=true then((bZ 0 env>=>λv11=>R.ok (D.int 1)>=>λpJ=>R.of (iA v11 pJ))>=>λv10=>R.ok (Out.rt v10))else(R.ok (Out.nx env))) λv1=>
 (bV ((bZ 0 v1>=>λmQ=>((bZ 1 v1>=>λpG=>R.ok []>=>λqJ=>R.ok (pG::qJ))>=>λmB=>R.of (zC mB))>=>λlJ=>R.of (Ae mQ lJ)>=>jk)>=>λjF=>if jF=true then((bZ 0 v1>=>λud=>R.ok (D.int 1)>=>λlK=>R.of (kY ud lK))>=>λv20=>R.ok (Out.rt v20))else(R.ok (Out.nx v1))) λmz=>
 (cZ 0 mz>=>λuT=>R.ok (Out.rt uT))))
def gw:=mS 2 2 x5
def E6(env:DE):R Out:=
 (((bZ 0 env>=>λv2=>R.ok []>=>λv3=>R.ok (v2::v3))>=>yU)>=>λv1=>R.ok (Out.qZ v1))
def g9:=cg 1 1 E6
noncomputable def Vv(env:DE):R Out:=
 ((((bZ 0 env>=>λv4=>R.ok (D.int 1)>=>λv5=>R.of (kY v4 v5))>=>λv2=>((R.ok (D.int 1)>=>λv8=>R.of (zB v8))>=>λv6=>((R.ok (D.int 1)>=>λv11=>R.of (zB v11))>=>λv9=>R.ok []>=>λv10=>R.ok (v9::v10))>=>λv7=>R.ok (v6::v7))>=>λv3=>R.ok (v2::v3))>=>UY)>=>λv1=>R.ok (Out.qZ v1))
def Ai:=cg 1 1 Vv
def rW(d:D)(env:DE):R Out:=
 (bT 2 (zR (bN 2) (zR (bN 3) R7))) d env>=>λjF=>
  (cZ 2 jF>=>λmQ=>ownAt 1 jF>=>λlJ=>bZ 3 jF>=>λmB=>KJ 1 jF mQ lJ mB)
noncomputable def C6(env:DE):R Out:=
 (bV ((((R.ok (D.int 0)>=>λv5=>R.ok []>=>λv6=>R.ok (v5::v6))>=>fit)>=>λv3=>((bZ 0 env>=>λv8=>R.ok []>=>λv9=>R.ok (v8::v9))>=>λv7=>R.of (we v7))>=>λv4=>KG v3 v4)>=>λv2=>R.ok (Out.nx (List.set env 1 (Sl.own v2)))) λv1=>
 (bV ((cZ 0 v1>=>λpG=>D3 pG>=>λxs=>R.ok (nk xs))>=>λv11=>iS rW v11 v1) λv10=>
 (ownAt 1 v10>=>λqJ=>R.ok (Out.qZ qJ))))
def gj:=cg 1 4 C6
def E7(env:DE):R Bool:=
 ((mV 1 env>=>λv8=>(bZ 0 env>=>λv10=>R.ok (D.int 1)>=>λv11=>R.of (kY v10 v11))>=>λv9=>yP v8 v9)>=>λv6=>(mV 1 env>=>λpJ=>bZ 0 env>=>λmz=>yP pJ mz)>=>λv7=>R.of (Dt v6 v7)>=>jk)
def E8(env:DE):R D:=
 (cZ 0 env)
noncomputable def PL(env:DE):R Out:=
 ((((R.ok (D.int 1)>=>λjF=>(((bZ 0 env>=>λqJ=>R.ok []>=>λv20=>R.ok (qJ::v20))>=>λpG=>R.of (we pG))>=>λlJ=>R.ok []>=>λmB=>R.ok (lJ::mB))>=>λmQ=>R.ok (jF::mQ))>=>R4)>=>λv2=>uF env [0]>=>λv3=>R.ne (kW (bN 0) E7 E8 (xt 1 v3) v2)>=>fit)>=>λv1=>R.ok (Out.qZ v1))
def y0:=cg 1 1 PL
noncomputable def oK(env:DE):R Out:=
 ((((mV 0 env>=>λv6=>R.ok none>=>λv7=>((bZ 1 env>=>λv9=>R.ok (D.int 1)>=>λv10=>R.of (kY v9 v10))>=>Mg)>=>λv8=>R.ok (cut v6 v7 v8))>=>λv4=>(((mV 0 env>=>λmz=>bZ 1 env>=>λjF=>yP mz jF)>=>λv11=>((mV 0 env>=>λmB=>(bZ 1 env>=>λqJ=>R.ok (D.int 1)>=>λv20=>R.of (kY qJ v20))>=>λpG=>yP mB pG)>=>λmQ=>R.ok []>=>λlJ=>R.ok (mQ::lJ))>=>λpJ=>R.ok (v11::pJ))>=>fit)>=>λv5=>fit (v4++v5))>=>λv2=>(mV 0 env>=>λud=>((bZ 1 env>=>λvE=>R.ok (D.int 1)>=>λxY=>R.of (iA vE xY))>=>Mg)>=>λlK=>R.ok none>=>λuT=>R.ok (cut ud lK uT))>=>λv3=>fit (v2++v3))>=>λv1=>R.ok (Out.qZ v1))
def cC:=cg 2 2 oK
def Cs(env:DE):R Bool:=
 R.ok true
def u9(env:DE):R D:=
 ((((bZ 1 env>=>λv11=>R.ok []>=>λpJ=>R.ok (v11::pJ))>=>λv10=>R.of (we v10))>=>λv8=>R.ok (D.int 1)>=>λv9=>R.of (kY v8 v9))>=>λv6=>bZ 0 env>=>λv7=>R.of (kY v6 v7))
def zS(env:DE):R Out:=
 (((cZ 0 env>=>λmz=>D3 mz>=>λxs=>R.ok (reverse xs))>=>λv2=>uF env [0]>=>λv3=>R.ne (kW (bN 0) Cs u9 (xt 1 v3) v2)>=>fit)>=>λv1=>R.ok (Out.qZ v1))
def lg:=cg 1 1 zS
def rA(d:D)(env:DE):R Out:=
 (bN 2) d env>=>λv7=>
  (cZ 1 v7>=>λv8=>(R.ok (D.int 1)>=>λv10=>(bZ 2 v7>=>λpJ=>R.ok (D.int 1)>=>λmz=>R.of (kY pJ mz))>=>λv11=>R.of (ZZ v10 v11))>=>λv9=>R8 (λi j=>PySem.Builtin.bitOr i j) 1 v7 v8 v9)
def Hd(env:DE):R Out:=
 (bV (R.ok (D.int 0)>=>λv2=>R.ok (Out.nx (List.set env 1 (Sl.val v2)))) λv1=>
 (bV ((cZ 0 v1>=>D3)>=>λv4=>iS rA v4 v1) λv3=>
 (cZ 1 v3>=>λjF=>R.ok (Out.rt jF))))
def vc:=mS 1 3 Hd
noncomputable def x6(env:DE):R Out:=
 (bV ((bZ 1 env>=>λv3=>((bZ 0 env>=>λv6=>R.ok []>=>λv7=>R.ok (v6::v7))>=>λv5=>R.of (we v5))>=>λv4=>R.of (R3 v3 v4)>=>jk)>=>λv2=>if v2=true then((mV 0 env>=>λv9=>bZ 1 env>=>λv10=>yP v9 v10)>=>λv8=>R.ok (Out.rt v8))else(R.ok (Out.nx env))) λv1=>
 (R.ok (D.int 0)>=>λv11=>R.ok (Out.rt v11)))
def iW:=mS 2 2 x6
noncomputable def C7(env:DE):R Out:=
 (bV ((cZ 1 env>=>λv3=>R.ok (D.int 1)>=>λv4=>Aa v3 v4)>=>λv2=>R.ok (Out.nx (List.set env 2 (Sl.val v2)))) λv1=>
 (bV (((cZ 1 v1>=>λv9=>R.ok (D.int 0)>=>λv10=>Aa v9 v10)>=>λv7=>R.ok (D.str "out")>=>λv8=>R.of (Ae v7 v8)>=>jk)>=>λv6=>if v6=true then(((mV 0 v1>=>λjF=>R.ok none>=>λmQ=>(bZ 2 v1>=>Mg)>=>λlJ=>R.ok (cut jF mQ lJ))>=>λpJ=>(mV 0 v1>=>λmB=>((bZ 2 v1>=>λv20=>R.ok (D.int 2)>=>λud=>R.of (iA v20 ud))>=>Mg)>=>λpG=>R.ok none>=>λqJ=>R.ok (cut mB pG qJ))>=>λmz=>fit (pJ++mz))>=>λv11=>R.ok (Out.qZ v11))else(R.ok (Out.nx v1))) λv5=>
 (bV (((cZ 1 v5>=>λzF=>R.ok (D.int 0)>=>λzE=>Aa zF zE)>=>λvE=>R.ok (D.str "in")>=>λxY=>R.of (Ae vE xY)>=>jk)>=>λuT=>if uT=true then((((mV 0 v5>=>λMh=>R.ok none>=>λKS=>(bZ 2 v5>=>Mg)>=>λKR=>R.ok (cut Mh KS KR))>=>λE4=>(((cZ 1 v5>=>λKU=>R.ok (D.int 2)>=>λSi=>Aa KU Si)>=>λMX=>(((cZ 1 v5>=>λSq=>R.ok (D.int 2)>=>λMY=>Aa Sq MY)>=>λSo=>R.of (zB So))>=>λPB=>R.ok []>=>λSs=>R.ok (PB::Ss))>=>λI0=>R.ok (MX::I0))>=>fit)>=>λGx=>fit (E4++Gx))>=>λE5=>(mV 0 v5>=>λGy=>(bZ 2 v5>=>Mg)>=>λU6=>R.ok none>=>λKW=>R.ok (cut Gy U6 KW))>=>λv30=>fit (E5++v30))>=>λCq=>R.ok (Out.qZ Cq))else(R.ok (Out.nx v5))) λlK=>
 (bV (((cZ 1 lK>=>λTi=>R.ok (D.int 0)>=>λTj=>Aa Ti Tj)>=>λU5=>R.ok (D.str "far")>=>λSn=>R.of (Ae U5 Sn)>=>jk)>=>λU4=>if U4=true then((((mV 0 lK>=>λU9=>R.ok none>=>λVf=>(bZ 2 lK>=>Mg)>=>λPD=>R.ok (cut U9 Vf PD))>=>λMZ=>(((mV 0 lK>=>λVd=>(bZ 2 lK>=>λVc=>R.ok (D.int 1)>=>λVk=>R.of (iA Vc Vk))>=>λVb=>yP Vd Vb)>=>λVe=>((mV 0 lK>=>λVg=>bZ 2 lK>=>λVi=>yP Vg Vi)>=>λVm=>R.ok []>=>λVj=>R.ok (Vm::Vj))>=>λVa=>R.ok (Ve::Va))>=>fit)>=>λU8=>fit (MZ++U8))>=>λGe=>(mV 0 lK>=>λXD=>((bZ 2 lK>=>λv75=>R.ok (D.int 2)>=>λTn=>R.of (iA v75 Tn))>=>Mg)>=>λVh=>R.ok none>=>λZ1=>R.ok (cut XD Vh Z1))>=>λU7=>fit (Ge++U7))>=>λZ2=>R.ok (Out.qZ Z2))else(R.ok (Out.nx lK))) λHa=>
 ((((mV 0 Ha>=>λSu=>R.ok none>=>λv83=>(bZ 2 Ha>=>Mg)>=>λv84=>R.ok (cut Su v83 v84))>=>λZ4=>(((mV 0 Ha>=>λSv=>(bZ 2 Ha>=>λv89=>R.ok (D.int 1)>=>λv90=>R.of (iA v89 v90))>=>λv88=>yP Sv v88)>=>λv85=>((mV 0 Ha>=>λv93=>bZ 2 Ha>=>λv94=>yP v93 v94)>=>λv91=>((mV 0 Ha>=>λv97=>(bZ 2 Ha>=>λv99=>R.ok (D.int 1)>=>λM5=>R.of (iA v99 M5))>=>λv98=>yP v97 v98)>=>λv95=>R.ok []>=>λv96=>R.ok (v95::v96))>=>λv92=>R.ok (v91::v92))>=>λv86=>R.ok (v85::v86))>=>fit)>=>λv81=>fit (Z4++v81))>=>λZ5=>(mV 0 Ha>=>λM6=>((bZ 2 Ha>=>λVw=>R.ok (D.int 3)>=>λVx=>R.of (iA Vw Vx))>=>Mg)>=>λVy=>R.ok none>=>λVz=>R.ok (cut M6 Vy Vz))>=>λZ3=>fit (Z5++Z3))>=>λPF=>R.ok (Out.qZ PF))))))
def qB:=cg 2 3 C7
def zT(env:DE):R Out:=
 (((bZ 0 env>=>λv3=>R6 "int" v3)>=>λv2=>jk v2>=>λt=>if t=true then((bZ 0 env>=>λv5=>R6 "bool" v5)>=>λv4=>jk v4>=>λt=>R.ok (D.bl (!t)))else R.ok (D.bl false))>=>λv1=>R.ok (Out.rt v1))
def hU:=mS 1 1 zT
noncomputable def rX(env:DE):R Out:=
 (bV (((bZ 1 env>=>λv3=>(R.ok (D.int 1)>=>λv5=>R.ok []>=>λv6=>R.ok (v5::v6))>=>λv4=>R.ok (v3::v4))>=>cX)>=>λv2=>R.ok (Out.nx (List.set env 2 (Sl.val v2)))) λv1=>
 (bV ((bZ 0 v1>=>λv9=>(((bZ 1 v1>=>λjF=>R.ok []>=>λmQ=>R.ok (jF::mQ))>=>λmz=>R.of (zC mz))>=>λv11=>R.ok (D.int 1)>=>λpJ=>R.of (kY v11 pJ))>=>λv10=>R.of (Ae v9 v10)>=>jk)>=>λv8=>if v8=true then(((cZ 2 v1>=>λmB=>(cZ 1 v1>=>λqJ=>R.ok []>=>λv20=>R.ok (qJ::v20))>=>λpG=>R.ok (mB::pG))>=>fit)>=>λlJ=>R.ok (Out.qZ lJ))else(R.ok (Out.nx v1))) λv7=>
 (bV ((bZ 0 v7>=>λuT=>((bZ 1 v7>=>λzF=>R.ok []>=>λzE=>R.ok (zF::zE))>=>λxY=>R.of (zC xY))>=>λvE=>R.of (Ae uT vE)>=>jk)>=>λlK=>if lK=true then(((cZ 1 v7>=>λE5=>(cZ 2 v7>=>λE4=>R.ok []>=>λGx=>R.ok (E4::Gx))>=>λv30=>R.ok (E5::v30))>=>fit)>=>λCq=>R.ok (Out.qZ Cq))else(R.ok (Out.nx v7))) λud=>
 (bV ((bZ 0 ud>=>λKR=>((bZ 1 ud>=>λKU=>R.ok []>=>λSi=>R.ok (KU::Si))>=>λI0=>R.of (zC I0))>=>λMX=>R.of (R3 KR MX)>=>jk)>=>λKS=>if KS=true then(((cZ 2 ud>=>λSs=>R.ok []>=>λSo=>R.ok (Ss::So))>=>fit)>=>λPB=>R.ok (Out.qZ PB))else(R.ok (Out.nx ud))) λMh=>
 (((cZ 1 Mh>=>λMY=>R.ok []>=>λGy=>R.ok (MY::Gy))>=>fit)>=>λSq=>R.ok (Out.qZ Sq))))))
def dO:=cg 2 3 rX
noncomputable def pN(env:DE):R Out:=
 (bV ((((bZ 0 env>=>λv5=>(bZ 1 env>=>λv7=>R.ok []>=>λv8=>R.ok (v7::v8))>=>λv6=>R.ok (v5::v6))>=>gw)>=>λv3=>bZ 0 env>=>λv4=>R.of (G4 v3 v4)>=>jk)>=>λv2=>if v2=true then((R.ok []>=>fit)>=>λv9=>R.ok (Out.qZ v9))else(R.ok (Out.nx env))) λv1=>
 (bV ((bZ 0 v1>=>λpJ=>((bZ 1 v1>=>λmQ=>R.ok []>=>λlJ=>R.ok (mQ::lJ))>=>λjF=>R.of (zC jF))>=>λmz=>R.of (R3 pJ mz)>=>jk)>=>λv11=>if v11=true then(((((bZ 1 v1>=>λv20=>((R.ok (D.int 1)>=>λvE=>R.of (zB vE))>=>λlK=>R.ok []>=>λuT=>R.ok (lK::uT))>=>λud=>R.ok (v20::ud))>=>cX)>=>λpG=>R.ok []>=>λqJ=>R.ok (pG::qJ))>=>fit)>=>λmB=>R.ok (Out.qZ mB))else(R.ok (Out.nx v1))) λv10=>
 (((cZ 1 v10>=>λzF=>R.ok []>=>λzE=>R.ok (zF::zE))>=>fit)>=>λxY=>R.ok (Out.qZ xY))))
def cY:=cg 2 2 pN
def K6(env:DE):R Out:=
 ((((((cZ 0 env>=>λv5=>R.ok []>=>λv6=>R.ok (v5::v6))>=>gj)>=>λv4=>R.ok (D.lst v4))>=>λv2=>R.ok []>=>λv3=>R.ok (v2::v3))>=>y0)>=>λv1=>R.ok (Out.qZ v1))
def rY:=cg 1 1 K6
noncomputable def pO(env:DE):R Out:=
 (((((((((cZ 0 env>=>λv8=>R.ok []>=>λv9=>R.ok (v8::v9))>=>gj)>=>λv7=>R.ok (D.lst v7))>=>λv5=>(cZ 1 env>=>λv10=>R.ok []>=>λv11=>R.ok (v10::v11))>=>λv6=>R.ok (v5::v6))>=>cC)>=>λv4=>R.ok (D.lst v4))>=>λv2=>R.ok []>=>λv3=>R.ok (v2::v3))>=>gj)>=>λv1=>R.ok (Out.qZ v1))
def dG:=cg 2 2 pO
noncomputable def uf(d:D)(env:DE):R Out:=
 (bN 3) d env>=>λv9=>
  (bV ((bZ 3 v9>=>λpJ=>R.ok (D.int 0)>=>λmz=>R.of (R3 pJ mz)>=>jk)>=>λv11=>if v11=true then(R.bad:R Out)else(R.ok (Out.nx v9))) λv10=>
 (bV (((mV 2 v10>=>λpG=>(bZ 3 v10>=>λv20=>R.ok (D.int 1)>=>λud=>R.of (kY v20 ud))>=>λqJ=>yP pG qJ)>=>λlJ=>(mV 2 v10>=>λlK=>bZ 3 v10>=>λuT=>yP lK uT)>=>λmB=>R.of (Dt lJ mB)>=>jk)>=>λmQ=>if mQ=true then(R.bad:R Out)else(R.ok (Out.nx v10))) λjF=>
 (((bZ 2 jF>=>λxY=>(bZ 3 jF>=>λzE=>R.ok []>=>λCq=>R.ok (zE::Cq))>=>λzF=>R.ok (xY::zF))>=>cC)>=>λvE=>R.ok (Out.nx (List.set jF 2 (Sl.own vE))))))
def K7(env:DE):R Out:=
 (bV (((cZ 0 env>=>λv3=>R.ok []>=>λv4=>R.ok (v3::v4))>=>g9)>=>λv2=>R.ok (Out.nx (List.set env 2 (Sl.own v2)))) λv1=>
 (bV ((cZ 1 v1>=>D3)>=>λv6=>iS uf v6 v1) λv5=>
 (ownAt 2 v5>=>λE5=>R.ok (Out.qZ E5))))
def ve:=cg 2 4 K7
def M7(env:DE):R Bool:=
 R.ok true
def E9(env:DE):R D:=
 ((((bZ 1 env>=>λv11=>R.ok []>=>λpJ=>R.ok (v11::pJ))>=>λv10=>R.of (we v10))>=>λv8=>R.ok (D.int 1)>=>λv9=>R.of (kY v8 v9))>=>λv6=>bZ 0 env>=>λv7=>R.of (kY v6 v7))
def PN(env:DE):R Out:=
 ((((((cZ 0 env>=>λjF=>R.ok []>=>λmQ=>R.ok (jF::mQ))>=>gj)>=>λmz=>R.ok (D.lst mz))>=>D3)>=>λv2=>uF env [0]>=>λv3=>R.ne (kW (bN 0) M7 E9 (xt 1 v3) v2)>=>fit)>=>λv1=>R.ok (Out.qZ v1))
def Bd:=cg 1 1 PN
noncomputable def x8(d:D)(env:DE):R Out:=
 (bN 5) d env>=>λmz=>
  (bV (((bZ 5 mz>=>λmB=>R.ok []>=>λpG=>R.ok (mB::pG))>=>λlJ=>R.of (zC lJ))>=>λmQ=>R.ok (Out.nx (List.set mz 6 (Sl.val mQ)))) λjF=>
 (bV (((((bZ 2 jF>=>λxY=>R.ok []>=>λzF=>R.ok (xY::zF))>=>λvE=>R.of (we vE))>=>λlK=>R.ok (D.int 0)>=>λuT=>R.of (Ae lK uT)>=>jk)>=>λud=>if ud=true then R.ok true else((bZ 4 jF>=>λCq=>(bZ 5 jF>=>λv30=>R.ok (D.int 0)>=>λE4=>R.of (Dt v30 E4))>=>λE5=>R.of (G4 Cq E5)>=>jk)>=>λzE=>if zE=true then R.ok true else((mV 3 jF>=>λKS=>(bZ 6 jF>=>λMX=>R.ok (D.int 1)>=>λI0=>R.of (kY MX I0))>=>λKR=>yP KS KR)>=>λGx=>(mV 3 jF>=>λKU=>bZ 6 jF>=>λSi=>yP KU Si)>=>λMh=>R.of (Dt Gx Mh)>=>jk)))>=>λv20=>if v20=true then(bV (lY 2 jF>=>λSs=>(R.ok []>=>fit)>=>λSo=>R.of (Pn So)>=>λSq=>U1 2 jF Ss Sq) λPB=>
 (bV (((cZ 0 PB>=>λU6=>R.ok []>=>λKW=>R.ok (U6::KW))>=>g9)>=>λGy=>R.ok (Out.nx (List.set PB 3 (Sl.own Gy)))) λMY=>
 ((bZ 5 MY>=>λU4=>R.ok (D.int 0)>=>λU5=>R.of (Dt U4 U5))>=>λHa=>R.ok (Out.nx (List.set MY 4 (Sl.val Ha))))))else(R.ok (Out.nx jF))) λqJ=>
 (bV (lY 2 qJ>=>λTi=>(R.ok (D.int 1)>=>λU7=>R.of (zB U7))>=>λTj=>KQ Ti Tj>=>λZ2=>bZ 5 qJ>=>λGe=>MV 2 qJ Ti Z2 Ge) λSn=>
 (bV ((mV 3 Sn>=>λU9=>bZ 6 Sn>=>λVf=>yP U9 Vf)>=>λU8=>R.ok (Out.nx (List.set Sn 7 (Sl.val U8)))) λMZ=>
 (bV ((mV 3 MZ>=>λVb=>(bZ 6 MZ>=>λVk=>R.ok (D.int 1)>=>λVm=>R.of (kY Vk Vm))>=>λVc=>yP Vb Vc)>=>λVe=>ownAt 3 MZ>=>λVa=>bZ 6 MZ>=>λVd=>KJ 3 MZ Ve Va Vd) λPD=>
 (cZ 7 PD>=>λVj=>ownAt 3 PD>=>λVg=>(bZ 6 PD>=>λXD=>R.ok (D.int 1)>=>λVh=>R.of (kY XD Vh))>=>λVi=>KJ 3 PD Vj Vg Vi))))))
noncomputable def abO(env:DE):R Out:=
 (bV (R.ok ([]:List Ap)>=>λv2=>(fit v2>=>λy=>R.ok (Out.nx (List.set env 2 (Sl.deep (Ct.ls y)))))) λv1=>
 (bV (((cZ 0 v1>=>λv5=>R.ok []>=>λv6=>R.ok (v5::v6))>=>g9)>=>λv4=>R.ok (Out.nx (List.set v1 3 (Sl.own v4)))) λv3=>
 (bV (R.ok (D.bl false)>=>λv8=>R.ok (Out.nx (List.set v3 4 (Sl.val v8)))) λv7=>
 (bV ((cZ 1 v7>=>D3)>=>λv10=>iS x8 v10 v7) λv9=>
 (lY 2 v9>=>λZ1=>R.ok (Out.Ko Z1))))))
def K8:=mT 2 8 abO
noncomputable def zU(env:DE):R Out:=
 (bV (((bZ 0 env>=>λv5=>R.ok (D.int 2)>=>λv6=>R.of (uW v5 v6))>=>λv3=>R.ok (D.int 0)>=>λv4=>R.of (Ae v3 v4)>=>jk)>=>λv2=>if v2=true then(mV 1 env>=>λv7=>R.ok (Out.qZ v7))else(R.ok (Out.nx env))) λv1=>
 (((cZ 1 v1>=>λv9=>R.ok []>=>λv10=>R.ok (v9::v10))>=>lg)>=>λv8=>R.ok (Out.qZ v8)))
def lh:=cg 2 2 zU
noncomputable def C8(env:DE):R Out:=
 (bV ((bZ 2 env>=>λv3=>(((bZ 0 env>=>λv8=>R.ok []>=>λv9=>R.ok (v8::v9))>=>λv7=>R.of (we v7))>=>λv5=>R.ok (D.int 1)>=>λv6=>R.of (iA v5 v6))>=>λv4=>R.of (uW v3 v4))>=>λv2=>R.ok (Out.nx (List.set env 4 (Sl.val v2)))) λv1=>
 (bV (((mV 0 v1>=>λmz=>(bZ 4 v1>=>Mg)>=>λjF=>((bZ 4 v1>=>λlJ=>R.ok (D.int 3)>=>λmB=>R.of (iA lJ mB))>=>Mg)>=>λmQ=>R.ok (cut mz jF mQ))>=>λpJ=>R.ok (D.lst pJ))>=>λv11=>R.ok (Out.nx (List.set v1 5 (Sl.val v11)))) λv10=>
 (bV (((((bZ 5 v10>=>λvE=>R.ok []>=>λxY=>R.ok (vE::xY))>=>λuT=>R.of (we uT))>=>λud=>R.ok (D.int 1)>=>λlK=>R.of (Dt ud lK)>=>jk)>=>λv20=>if v20=true then(((mV 5 v10>=>λE5=>R.ok (D.int 0)>=>λv30=>yP E5 v30)>=>λzE=>((mV 5 v10>=>λGx=>R.ok (D.int 1)>=>λMh=>yP Gx Mh)>=>λE4=>R.of (zB E4))>=>λCq=>R.of (Ae zE Cq)>=>jk)>=>λzF=>if zF=true then(((bZ 2 v10>=>λKU=>R.ok (D.int 128)>=>λSi=>R.of (Cg KU Si))>=>λMX=>R.ok (D.int 3)>=>λI0=>R.of (uW MX I0))>=>λKS=>R.ok (D.int 0)>=>λKR=>R.of (Dt KS KR)>=>jk)else R.ok false)else R.ok false)>=>λqJ=>if qJ=true then((((R.ok (D.str "out")>=>λSs=>(cZ 4 v10>=>λSq=>R.ok []>=>λMY=>R.ok (Sq::MY))>=>λSo=>R.ok (Ss::So))>=>fit)>=>λds=>R.ok (D.tup ds))>=>λPB=>R.ok (Out.rt PB))else(R.ok (Out.nx v10))) λpG=>
 (bV (((((bZ 5 pG>=>λSn=>R.ok []>=>λTi=>R.ok (Sn::Ti))>=>λU5=>R.of (we U5))>=>λHa=>R.ok (D.int 1)>=>λU4=>R.of (Dt Ha U4)>=>jk)>=>λKW=>if KW=true then((((((((mV 5 pG>=>λVd=>R.ok (D.int 0)>=>λVb=>yP Vd Vb)>=>λVe=>R.ok []>=>λVa=>R.ok (Ve::Va))>=>λPD=>R.of (zC PD))>=>λU9=>(((mV 5 pG>=>λVj=>R.ok (D.int 1)>=>λVg=>yP Vj Vg)>=>λVk=>R.ok []>=>λVm=>R.ok (Vk::Vm))>=>λVc=>R.of (zC Vc))>=>λVf=>R.of (kY U9 Vf))>=>λMZ=>R.ok []>=>λU8=>R.ok (MZ::U8))>=>λU7=>R.of (zC U7))>=>λZ2=>R.ok (D.int 1)>=>λGe=>R.of (Dt Z2 Ge)>=>jk)>=>λTj=>if Tj=true then(((bZ 2 pG>=>λv75=>R.ok (D.int 128)>=>λTn=>R.of (Cg v75 Tn))>=>λVh=>R.ok (D.int 5)>=>λZ1=>R.of (uW Vh Z1))>=>λVi=>R.ok (D.int 0)>=>λXD=>R.of (Dt Vi XD)>=>jk)else R.ok false)else R.ok false)>=>λU6=>if U6=true then((((R.ok (D.str "far")>=>λZ5=>(cZ 4 pG>=>λZ4=>R.ok []>=>λv81=>R.ok (Z4::v81))>=>λZ3=>R.ok (Z5::Z3))>=>fit)>=>λds=>R.ok (D.tup ds))>=>λPF=>R.ok (Out.rt PF))else(R.ok (Out.nx pG))) λGy=>
 (bV (((((bZ 5 Gy>=>λv88=>R.ok []>=>λv89=>R.ok (v88::v89))>=>λSv=>R.of (we Sv))>=>λv85=>R.ok (D.int 2)>=>λv86=>R.of (Dt v85 v86)>=>jk)>=>λv84=>if v84=true then(((mV 5 Gy>=>λv93=>R.ok (D.int 0)>=>λv94=>yP v93 v94)>=>λv91=>(mV 5 Gy>=>λv95=>R.ok (D.int 2)>=>λv96=>yP v95 v96)>=>λv92=>R.of (Ae v91 v92)>=>jk)>=>λv90=>if v90=true then((((mV 5 Gy>=>λVy=>R.ok (D.int 0)>=>λVz=>yP Vy Vz)>=>λM5=>(mV 5 Gy>=>λVw=>R.ok (D.int 1)>=>λVx=>yP Vw Vx)>=>λM6=>R.of (MI M5 M6))>=>λv98=>R.ok (D.int 0)>=>λv99=>R.of (Dt v98 v99)>=>jk)>=>λv97=>if v97=true then(((((mV 5 Gy>=>λael=>R.ok (D.int 0)>=>λaem=>yP ael aem)>=>λM8=>(mV 5 Gy>=>λaen=>R.ok (D.int 1)>=>λaeo=>yP aen aeo)>=>λaep=>R.of (kY M8 aep))>=>λaeq=>R.ok []>=>λaer=>R.ok (aeq::aer))>=>λaes=>R.of (zC aes))>=>λaet=>R.ok (D.int 1)>=>λSw=>R.of (Ae aet Sw)>=>jk)else R.ok false)else R.ok false)else R.ok false)>=>λv83=>if v83=true then((((R.ok (D.str "near")>=>λaeu=>(cZ 4 Gy>=>λaev=>R.ok []>=>λaew=>R.ok (aev::aew))>=>λaex=>R.ok (aeu::aex))>=>fit)>=>λds=>R.ok (D.tup ds))>=>λaey=>R.ok (Out.rt aey))else(R.ok (Out.nx Gy))) λSu=>
 (bV (((bZ 1 Su>=>λaez=>R.ok (D.int 1)>=>λaeA=>R.of (Dt aez aeA)>=>jk)>=>λaeB=>if aeB=true then((((bZ 0 Su>=>λaeC=>R.ok []>=>λaeD=>R.ok (aeC::aeD))>=>λaeE=>R.of (we aeE))>=>λaeF=>R.ok (D.int 2)>=>λaeG=>R.of (iA aeF aeG))>=>λaeH=>bZ 3 Su>=>λaeI=>R.of (kLe aeH aeI)>=>jk)else R.ok false)>=>λaeJ=>if aeJ=true then((((R.ok (D.str "in")>=>λaeK=>(cZ 4 Su>=>λaeL=>((((bZ 2 Su>=>λaeM=>R.ok (D.int 1024)>=>λaeN=>R.of (Cg aeM aeN))>=>λK9=>(bZ 1 Su>=>λaeO=>R.ok []>=>λaeP=>R.ok (aeO::aeP))>=>λaeQ=>R.ok (K9::aeQ))>=>fQ)>=>λaeR=>R.ok []>=>λaeS=>R.ok (aeR::aeS))>=>λaeT=>R.ok (aeL::aeT))>=>λaeU=>R.ok (aeK::aeU))>=>fit)>=>λds=>R.ok (D.tup ds))>=>λaeV=>R.ok (Out.rt aeV))else(R.ok (Out.nx Su))) λahL=>
 (R.ok D.non>=>λaeW=>R.ok (Out.rt aeW))))))))
def qC:=mD 4 6 C8
def pT(d:D)(env:DE):R Out:=
 (bN 2) d env>=>λv10=>
  (((((bZ 2 v10>=>λmz=>R.ok []>=>λjF=>R.ok (mz::jF))>=>hU)>=>jk)>=>λpJ=>R.ok (!pJ))>=>λv11=>if v11=true then(R.ok (D.bl false)>=>λmQ=>R.ok (Out.rt mQ))else(R.ok (Out.nx v10)))
noncomputable def zV(env:DE):R Out:=
 (bV ((((bZ 1 env>=>λv4=>R6 "list" v4)>=>jk)>=>λv3=>R.ok (!v3))>=>λv2=>if v2=true then(R.ok (D.bl false)>=>λv5=>R.ok (Out.rt v5))else(R.ok (Out.nx env))) λv1=>
 (bV ((cZ 1 v1>=>D3)>=>λv7=>iS pT v7 v1) λv6=>
 (bV ((((bZ 0 v6>=>λqJ=>R.ok []>=>λv20=>R.ok (qJ::v20))>=>yU)>=>λpG=>R.ok (D.lst pG))>=>λmB=>R.ok (Out.nx (List.set v6 3 (Sl.val mB)))) λlJ=>
 (((((mV 1 lJ>=>KO)>=>λxY=>R.ok (D.lst xY))>=>λuT=>bZ 3 lJ>=>λvE=>R.of (Ae uT vE))>=>λlK=>jk lK>=>λt=>if t=true then((bZ 1 lJ>=>λzE=>bZ 3 lJ>=>λCq=>R.of (G4 zE Cq))>=>λzF=>jk zF>=>λt=>if t=true then(((mV 1 lJ>=>λGx=>R.ok (reverse Gx))>=>λE4=>R.ok (D.lst E4))>=>λE5=>bZ 3 lJ>=>λv30=>R.of (G4 E5 v30))else R.ok (D.bl false))else R.ok (D.bl false))>=>λud=>R.ok (Out.rt ud)))))
def lj:=mS 2 4 zV
noncomputable def lL(d:D)(env:DE):R Out:=
 (bN 5) d env>=>λv9=>
  (bV (ownAt 3 v9>=>λv11=>(cZ 2 v9>=>λmz=>xW (("crossings_of_others",cY)::(("ribbon_crossings",dO)::[])) mz>=>λjF=>(cZ 4 v9>=>λmQ=>(cZ 5 v9>=>λmB=>R.ok []>=>λpG=>R.ok (mB::pG))>=>λlJ=>R.ok (mQ::lJ))>=>jF)>=>λpJ=>Zy 3 v9 v11 pJ) λv10=>
 (((bZ 4 v10>=>λv20=>(bZ 5 v10>=>λlK=>R.ok []>=>λuT=>R.ok (lK::uT))>=>λud=>R.ok (v20::ud))>=>gw)>=>λqJ=>R.ok (Out.nx (List.set v10 4 (Sl.val qJ)))))
def Be(env:DE):R Out:=
 (bV ((R.ok []>=>fit)>=>λv2=>R.ok (Out.nx (List.set env 3 (Sl.own v2)))) λv1=>
 (bV (cZ 1 v1>=>λv4=>R.ok (Out.nx (List.set v1 4 (Sl.val v4)))) λv3=>
 (bV ((cZ 0 v3>=>D3)>=>λv6=>iS lL v6 v3) λv5=>
 (ownAt 3 v5>=>λvE=>R.ok (Out.qZ vE)))))
def jx:=cg 3 6 Be
def qk(env:DE):R Bool:=
 (((bZ 3 env>=>λmB=>R.ok []>=>λpG=>R.ok (mB::pG))>=>λlJ=>R.of (we lJ))>=>λjF=>R.ok (D.int 0)>=>λmQ=>R.of (Dt jF mQ)>=>jk)
noncomputable def ql(env:DE):R Out:=
 (bV (ownAt 1 env>=>λv20=>(mV 3 env>=>λlK=>R.ok (D.int 0)>=>λuT=>yP lK uT)>=>λud=>Zx 1 env v20 ud) λqJ=>
 (bV ((((cZ 2 qJ>=>λzE=>((mV 3 qJ>=>λE4=>R.ok (D.int 0)>=>λGx=>yP E4 Gx)>=>λE5=>R.ok []>=>λv30=>R.ok (E5::v30))>=>λCq=>R.ok (zE::Cq))>=>dG)>=>λzF=>R.ok (D.lst zF))>=>λxY=>R.ok (Out.nx (List.set qJ 2 (Sl.val xY)))) λvE=>
 ((((cZ 2 vE>=>λKR=>R.ok []>=>λMX=>R.ok (KR::MX))>=>rY)>=>λKS=>R.ok (D.lst KS))>=>λMh=>R.ok (Out.nx (List.set vE 3 (Sl.val Mh))))))
noncomputable def Fb(env:DE):R Out:=
 (bV ((R.ok []>=>fit)>=>λv2=>R.ok (Out.nx (List.set env 1 (Sl.own v2)))) λv1=>
 (bV ((mV 0 v1>=>λv5=>R.ok (D.lst v5))>=>λv4=>R.ok (Out.nx (List.set v1 2 (Sl.val v4)))) λv3=>
 (bV ((((cZ 2 v3>=>λv9=>R.ok []>=>λv10=>R.ok (v9::v10))>=>rY)>=>λv8=>R.ok (D.lst v8))>=>λv7=>R.ok (Out.nx (List.set v3 3 (Sl.val v7)))) λv6=>
 (bV (uD qk ql ((λ_=>400) v6) v6) λv11=>
 (ownAt 1 v11>=>λI0=>R.ok (Out.qZ I0))))))
def l9:=cg 1 4 Fb
noncomputable def zW(env:DE):R Out:=
 (((((R.ok (D.int 1)>=>λv4=>R.of (zB v4))>=>λv2=>((((cZ 0 env>=>λv8=>R.ok []>=>λv9=>R.ok (v8::v9))>=>Bd)>=>λv7=>R.ok (D.lst v7))>=>λv5=>R.ok []>=>λv6=>R.ok (v5::v6))>=>λv3=>R.ok (v2::v3))>=>fit)>=>λds=>R.ok (D.tup ds))>=>λv1=>R.ok (Out.rt v1))
def qm:=mD 1 1 zW
noncomputable def iX(d:D)(env:DE):R Out:=
 (bN 3) d env>=>λv9=>
  (bV (lY 1 v9>=>λv11=>((cZ 2 v9>=>λjF=>((cZ 3 v9>=>λpG=>R.ok (D.int 1)>=>λqJ=>Aa pG qJ)>=>λlJ=>R.ok []>=>λmB=>R.ok (lJ::mB))>=>λmQ=>R.ok (jF::mQ))>=>lh)>=>λpJ=>R.of (Pn pJ)>=>λmz=>U1 1 v9 v11 mz) λv10=>
 (cZ 2 v10>=>λv20=>(cZ 3 v10>=>λlK=>R.ok (D.int 0)>=>λuT=>Aa lK uT)>=>λud=>R8 (λi j=>i+j) 2 v10 v20 ud))
noncomputable def qD(env:DE):R Out:=
 (bV (R.ok ([]:List Ap)>=>λv2=>(fit v2>=>λy=>R.ok (Out.nx (List.set env 1 (Sl.deep (Ct.ls y)))))) λv1=>
 (bV (R.ok (D.int 0)>=>λv4=>R.ok (Out.nx (List.set v1 2 (Sl.val v4)))) λv3=>
 (bV ((cZ 0 v3>=>λvE=>D3 vE>=>λxs=>R.ok (reverse xs))>=>λv6=>iS iX v6 v3) λv5=>
 (bV (lY 1 v5>=>λzF=>R.ok (Out.nx (List.set v5 1 (Sl.deep (Ct.ls (reverse zF)))))) λxY=>
 (lY 1 xY>=>λzE=>R.ok (Out.Ko zE))))))
def dm:=mT 1 4 qD
noncomputable def oM(d:D)(env:DE):R Out:=
 (bT 2 (zR (bN 4) (zR (bN 5) R7))) d env>=>λv5=>
  (bV (((cZ 0 v5>=>λv8=>(cZ 1 v5>=>λv10=>(((bZ 5 v5>=>λjF=>(bZ 4 v5>=>λlJ=>(R.ok (D.int 69621)>=>λpG=>R.ok []>=>λqJ=>R.ok (pG::qJ))>=>λmB=>R.ok (lJ::mB))>=>λmQ=>R.ok (jF::mQ))>=>lZ)>=>λpJ=>(cZ 3 v5>=>λv20=>R.ok []>=>λud=>R.ok (v20::ud))>=>λmz=>R.ok (pJ::mz))>=>λv11=>R.ok (v10::v11))>=>λv9=>R.ok (v8::v9))>=>qC)>=>λv7=>R.ok (Out.nx (List.set v5 6 (Sl.val v7)))) λv6=>
 ((bZ 6 v6>=>λuT=>R.ok D.non>=>λvE=>R.of (G6 uT vE)>=>jk)>=>λlK=>if lK=true then((((cZ 0 v6>=>λzE=>(cZ 6 v6>=>λE5=>R.ok []>=>λv30=>R.ok (E5::v30))>=>λCq=>R.ok (zE::Cq))>=>qB)>=>λzF=>R.ok (D.lst zF))>=>λxY=>R.ok (Out.nx (List.set v6 0 (Sl.val xY))))else(R.ok (Out.nx v6))))
def x9(env:DE):R Out:=
 (bV ((cZ 2 env>=>λE4=>D3 E4>=>λxs=>R.ok (nk xs))>=>λv2=>iS oM v2 env) λv1=>
 (cZ 0 v1>=>λGx=>R.ok (Out.rt Gx)))
def j9:=mD 4 7 x9
noncomputable def jW(d:D)(env:DE):R Out:=
 (bN 4) d env>=>λGe=>
  (((bZ 2 Ge>=>λU8=>R.ok (D.int 0)>=>λU9=>R.of (Dt U8 U9)>=>jk)>=>λMZ=>if MZ=true then(((mV 3 Ge>=>λVa=>(bZ 4 Ge>=>λVb=>R.ok (D.int 1)>=>λVc=>R.of (kY Vb Vc))>=>λVd=>xV Va Vd)>=>λPD=>(mV 3 Ge>=>λVk=>bZ 4 Ge>=>λVm=>xV Vk Vm)>=>λVe=>R.of (Dt PD Ve)>=>jk)>=>λVf=>if Vf=true then((((cZ 1 Ge>=>λv75=>R.ok (D.int 1)>=>λTn=>Aa v75 Tn)>=>λVh=>(bZ 2 Ge>=>λPF=>R.ok (D.int 1)>=>λZ5=>R.of (kY PF Z5))>=>λZ1=>Aa Vh Z1)>=>λVi=>(bZ 4 Ge>=>λZ3=>R.ok (D.int 1)>=>λZ4=>R.of (kY Z3 Z4))>=>λXD=>Aa Vi XD)>=>λVj=>(((cZ 1 Ge>=>λv85=>R.ok (D.int 1)>=>λv86=>Aa v85 v86)>=>λv83=>(bZ 2 Ge>=>λSv=>R.ok (D.int 1)>=>λv88=>R.of (kY Sv v88))>=>λv84=>Aa v83 v84)>=>λv81=>bZ 4 Ge>=>λSu=>Aa v81 Su)>=>λVg=>R.of (R3 Vj Vg)>=>jk)else R.ok false)else R.ok false)>=>λU7=>if U7=true then(R.ok (D.bl false)>=>λv89=>R.ok (Out.rt v89))else(R.ok (Out.nx Ge)))
noncomputable def oN(d:D)(env:DE):R Out:=
 (bN 2) d env>=>λI0=>
  (bV (((cZ 1 I0>=>λSo=>R.ok (D.int 1)>=>λSq=>Aa So Sq)>=>λPB=>bZ 2 I0>=>λSs=>Aa PB Ss)>=>λSi=>R.ok (Out.nx (List.set I0 3 (Sl.val Si)))) λKU=>
 (bV (((((bZ 0 KU>=>λKW=>(bZ 3 KU>=>λU4=>R.ok []>=>λU5=>R.ok (U4::U5))>=>λHa=>R.ok (KW::Ha))>=>lj)>=>jk)>=>λU6=>R.ok (!U6))>=>λGy=>if Gy=true then(R.ok (D.bl false)>=>λSn=>R.ok (Out.rt Sn))else(R.ok (Out.nx KU))) λMY=>
 (((R.ok (D.int 1)>=>λv90=>(bZ 0 MY>=>λv92=>R.ok []>=>λv93=>R.ok (v92::v93))>=>λv91=>R.ok (v90::v91))>=>R4)>=>λTi=>iS jW Ti MY)))
noncomputable def ya(env:DE):R Out:=
 (bV (((((bZ 1 env>=>λv5=>R6 "tuple" v5)>=>jk)>=>λv4=>R.ok (!v4))>=>λv3=>if v3=true then R.ok true else((((bZ 1 env>=>λv10=>R.ok []>=>λv11=>R.ok (v10::v11))>=>λv9=>R.of (we v9))>=>λv7=>R.ok (D.int 2)>=>λv8=>R.of (G4 v7 v8)>=>jk)>=>λv6=>if v6=true then R.ok true else((((((cZ 1 env>=>λlJ=>R.ok (D.int 0)>=>λmB=>Aa lJ mB)>=>λjF=>R.ok []>=>λmQ=>R.ok (jF::mQ))>=>hU)>=>jk)>=>λmz=>R.ok (!mz))>=>λpJ=>if pJ=true then R.ok true else((((cZ 1 env>=>λv20=>R.ok (D.int 1)>=>λud=>Aa v20 ud)>=>λqJ=>R6 "list" qJ)>=>jk)>=>λpG=>R.ok (!pG)))))>=>λv2=>if v2=true then(R.ok (D.bl false)>=>λlK=>R.ok (Out.rt lK))else(R.ok (Out.nx env))) λv1=>
 (bV (((bZ 0 v1>=>λzF=>R.ok (D.int 1)>=>λzE=>R.of (Ae zF zE)>=>jk)>=>λxY=>if xY=true then((cZ 1 v1>=>λv30=>R.ok (D.int 0)>=>λE4=>Aa v30 E4)>=>λCq=>R.ok (D.int 0)>=>λE5=>R.of (G4 Cq E5)>=>jk)else R.ok false)>=>λvE=>if vE=true then(R.ok (D.bl false)>=>λGx=>R.ok (Out.rt Gx))else(R.ok (Out.nx v1))) λuT=>
 (bV ((((((cZ 1 uT>=>λv99=>R.ok (D.int 1)>=>λM5=>Aa v99 M5)>=>λv97=>R.ok []>=>λv98=>R.ok (v97::v98))>=>λv96=>R.of (we v96))>=>λv94=>R.ok []>=>λv95=>R.ok (v94::v95))>=>Ut)>=>λKS=>iS oN KS uT) λMh=>
 (R.ok (D.bl true)>=>λM6=>R.ok (Out.rt M6)))))
def iY:=mS 2 5 ya
noncomputable def He(env:DE):R Out:=
 (bV (((bZ 0 env>=>λv3=>(bZ 2 env>=>λv5=>R.ok []>=>λv6=>R.ok (v5::v6))>=>λv4=>R.ok (v3::v4))>=>eR)>=>λv2=>R.ok (Out.nx env)) λv1=>
 (bV ((bZ 0 v1>=>λv9=>R.ok (D.int 1)>=>λv10=>R.of (Ae v9 v10)>=>jk)>=>λv8=>if v8=true then(R.bad:R Out)else(R.ok (Out.nx v1))) λv7=>
 (((cZ 1 v7>=>λpJ=>(cZ 2 v7>=>λjF=>(R.ok (D.fn "crossings_of_others")>=>λlJ=>R.ok []>=>λmB=>R.ok (lJ::mB))>=>λmQ=>R.ok (jF::mQ))>=>λmz=>R.ok (pJ::mz))>=>jx)>=>λv11=>R.ok (Out.qZ v11))))
def kM:=cg 3 3 He
noncomputable def Hf(env:DE):R Out:=
 (bV (((bZ 0 env>=>λv3=>(bZ 2 env>=>λv5=>R.ok []>=>λv6=>R.ok (v5::v6))>=>λv4=>R.ok (v3::v4))>=>eR)>=>λv2=>R.ok (Out.nx env)) λv1=>
 (bV ((bZ 0 v1>=>λv9=>R.ok (D.int 7)>=>λv10=>R.of (Ae v9 v10)>=>jk)>=>λv8=>if v8=true then(R.bad:R Out)else(R.ok (Out.nx v1))) λv7=>
 (((cZ 1 v7>=>λpJ=>(cZ 2 v7>=>λjF=>(R.ok (D.fn "ribbon_crossings")>=>λlJ=>R.ok []>=>λmB=>R.ok (lJ::mB))>=>λmQ=>R.ok (jF::mQ))>=>λmz=>R.ok (pJ::mz))>=>jx)>=>λv11=>R.ok (Out.qZ v11))))
def rL:=cg 3 3 Hf
def kc(d:D)(env:DE):R Out:=
 (bN 4) d env>=>λE4=>
  (ownAt 3 E4>=>λGx=>((cZ 4 E4>=>λKS=>R.ok []>=>λKR=>R.ok (KS::KR))>=>l9)>=>λMh=>Zy 3 E4 Gx Mh)
noncomputable def C9(env:DE):R Out:=
 (bV ((((((cZ 0 env>=>λv6=>R.ok []>=>λv7=>R.ok (v6::v7))>=>Ai)>=>λv5=>R.ok (D.lst v5))>=>λv3=>R.ok []>=>λv4=>R.ok (v3::v4))>=>l9)>=>λv2=>R.ok (Out.nx (List.set env 2 (Sl.own v2)))) λv1=>
 (bV (((cZ 1 v1>=>λpJ=>R.ok (D.int 0)>=>λmz=>Aa pJ mz)>=>λv10=>R.ok (D.int 0)>=>λv11=>R.of (R3 v10 v11)>=>jk)>=>λv9=>if v9=true then((((bZ 2 v1>=>λmB=>R.ok []>=>λpG=>R.ok (mB::pG))>=>rV)>=>λmQ=>((cZ 1 v1>=>λv20=>R.ok (D.int 0)>=>λud=>Aa v20 ud)>=>λqJ=>R.of (zB qJ))>=>λlJ=>KG mQ lJ)>=>λjF=>R.ok (Out.nx (List.set v1 3 (Sl.own jF))))else((ownAt 2 v1>=>λuT=>(cZ 1 v1>=>λxY=>R.ok (D.int 0)>=>λzF=>Aa xY zF)>=>λvE=>KG uT vE)>=>λlK=>R.ok (Out.nx (List.set v1 3 (Sl.own lK))))) λv8=>
 (bV (((cZ 1 v8>=>λMX=>R.ok (D.int 1)>=>λI0=>Aa MX I0)>=>D3)>=>λCq=>iS kc Cq v8) λzE=>
 (ownAt 3 zE>=>λKU=>R.ok (Out.qZ KU)))))
def mC:=cg 2 5 C9
noncomputable def Hg(env:DE):R Out:=
 (bV (((mV 1 env>=>λv5=>R.ok (D.int 0)>=>λv6=>yP v5 v6)>=>λv3=>R.ok (D.int 0)>=>λv4=>R.of (Dt v3 v4)>=>jk)>=>λv2=>if v2=true then((((R.ok (D.int 0)>=>λv8=>((((cZ 0 env>=>λmz=>(cZ 1 env>=>λmQ=>R.ok []>=>λlJ=>R.ok (mQ::lJ))>=>λjF=>R.ok (mz::jF))>=>ve)>=>λpJ=>R.ok (D.lst pJ))>=>λv10=>R.ok []>=>λv11=>R.ok (v10::v11))>=>λv9=>R.ok (v8::v9))>=>fit)>=>λds=>R.ok (D.tup ds))>=>λv7=>R.ok (Out.rt v7))else(R.ok (Out.nx env))) λv1=>
 ((((((cZ 0 v1>=>λud=>((((cZ 1 v1>=>λzF=>R.ok []>=>λzE=>R.ok (zF::zE))>=>rV)>=>λxY=>R.ok (D.lst xY))>=>λuT=>R.ok []>=>λvE=>R.ok (uT::vE))>=>λlK=>R.ok (ud::lK))>=>ve)>=>λv20=>R.ok (D.lst v20))>=>λpG=>R.ok []>=>λqJ=>R.ok (pG::qJ))>=>qm)>=>λmB=>R.ok (Out.rt mB)))
def vg:=mD 2 2 Hg
def mf(env:DE):R Bool:=
 R.ok true
def gx(env:DE):R D:=
 ((cZ 1 env>=>λv7=>(cZ 0 env>=>λv9=>R.ok []>=>λv10=>R.ok (v9::v10))>=>λv8=>R.ok (v7::v8))>=>vg)
noncomputable def xx(env:DE):R Out:=
 (((((R.ne ((bZ 0 env>=>λpJ=>((((cZ 1 env>=>λmB=>R.ok []>=>λpG=>R.ok (mB::pG))>=>uZ)>=>λlJ=>R.ok (D.lst lJ))>=>λjF=>R.ok []>=>λmQ=>R.ok (jF::mQ))>=>λmz=>R.ok (pJ::mz))>=>K8))>=>λv11=>R.ok (I8 (λns=>D.lst (I8 D.int ns)) v11))>=>λv3=>uF env [0]>=>λv4=>R.ne (kW (bN 0) mf gx (xt 1 v4) v3)>=>fit)>=>λv2=>R.ok (D.lst v2))>=>λv1=>R.ok (Out.rt v1))
def jG:=mD 2 2 xx
section
variable{X:Cx}
def VA{A:bx}{E:ah->aj->Prop}{s:aj}{d:ae}{xs:List (List Key×ae×ah)}{Q:ah->aj->Prop}(hd:(d==p4)=false)
  (m:aF.DictOfH (yz (iG X.prog X.w)) s.heap d xs)(z:xs.length<=aK)(q:Q (.int xs.length (s.toks+1)) {s with toks:=s.toks+1+1}):aG (aE X.prog X.w) A (call (.builtin "len") [.ref d]) Q E s:=by
 have z':xs.length<=16777216:=z;have inner:∀A,aG (aE X.prog X.w) A (call (.builtin "dict.__len__") [.ref d]) (λr s'=>r=.int xs.length s.toks/\s'={s with toks:=s.toks+1}) E s:=λA=>by refine O4 (S:=λ_ R s'=>s'=s/\R (.ok (.ret (.int xs.length s.toks))) {s with toks:=s.toks+1}) Z6 m.typeIs PySem.F.entry_dict_len (PySem.F.args_dict_len_1 _) (.of_wp λA R s' h=>?_) ⟨rfl,rfl,rfl⟩;obtain⟨rfl,h⟩:=h;obtain⟨o,es,ep,h1,h2,h3,h4,_⟩:=m;show aG _ _ (dictSize d>>=λn=>_) _ _ _;unfold dictSize;refine bJ (bJ (wpAny_dictEntries h1 h3 (ee (bJ (wpAny_pendingCount_other hd (wpAny_ret_mkInt ?_))))));rw[size_of_entries h4];exact h
 refine Calls.call_function_entry kind_len plain_len entry_len (args_len1 _) ?_;unfold Ed.«len»;refine bJ (ee (bJ (wpAny_callSpecial?_slot (name:=dF "__len__") m.typeIs Z6 (gh (inner _) λr s' h=>?_))));obtain⟨rfl,rfl⟩:=h;refine bJ (DQ (ee (bJ (wpAny_letGo ?_))));show aG _ _ (if((xs.length:Nat):Int)<0 then _ else _) _ _ _;rw[if_neg (by lia)];show aG _ _ (if 2^63<=((xs.length:Nat):Int)then _ else _) _ _ _;rw[if_neg (by lia)];exact bJ (wpAny_mkInt (ee ⟨_,rfl,q⟩))
def Sx:zM X (.builtin "len") (λxs H Q=>∃a kvs,xs=[V.ref a]/\H a=aa (.dT kvs)/\Q (.int kvs.length) H):=by intro pins s σ H xs us Q I r h;obtain⟨a,kvs,rfl,ha,q⟩:=h;obtain⟨u,rfl,ru⟩:=vals1 r;cases ru;obtain⟨z,hd,ys,rel,dd⟩:=EL I.hok (.inl ha);have e:kvs.length=ys.length:=Paired.length rel;exact VA hd dd (by lia) ⟨.int kvs.length,H,I.tok _,⟨_,by rw[e]⟩,q⟩
def Z7:MtR X "int.bit_length" (λx vs H Q=>∃i,x=.int i/\vs=[]/\Q (.int (PQ i)) H):=by intro pins s σ H x xs v us Q I r rs h;obtain⟨i,rfl,rfl,q⟩:=h;obtain⟨t,rfl⟩:=r;have e:=rs.zero;subst e;exact call_int_bit_length ⟨.int _,H,I.tok _,⟨_,rfl⟩,q⟩
end
theorem R.Cu {α:Type}(a:α):(R.ok a).ne=.ok a:=rfl
def Aj{b:D->DE->R DE}{ct:DE->R Bool}{fe:DE->R D}{e₀:DE}(g:Int->Int)(w:Ap)(h:∀k∈w,∃e,b (.int k) e₀=.ok e/\ct e=.ok true/\fe e=.ok (.int (g k))):kW b ct fe e₀ (bp w)=.ok (bp (w.map g)):=by
 rw[Cn (λd=>match d with
  |.int k=>.int (g k)
  |_=>.non) _ λx hx=>by obtain⟨k,hk,rfl⟩:=dQ.mp hx;exact h k hk]
 unfold bp;rw[jV,jV];rfl
def upTo(n:Nat):Ap:=(bG n).map λi=>((i:Nat):Int)
def aI(n:Nat):(upTo n).length=n:=by simp[upTo]
def yb(n j:Nat)(h:j<n):(upTo n)[j]?=aa (j:Int):=by simp[upTo,h]
def mem_upTo{x:Int}:x∈upTo n↔0<=x/\x<n:=by
 simp_all only [upTo,dQ,gA];constructor
 ·rintro⟨i,h,rfl⟩;lia
 ·rintro⟨h1,h2⟩;exact⟨x.toNat,by lia,by lia⟩
def Cw(n:Nat):xK 0 n=bp (upTo n):=by rw[Eb];congr 1;simp[upTo]
def La(n:Nat):(upTo n).Pairwise (·<=·):=by unfold upTo;rw[I9];exact PR.imp λh=>by lia
def Fc(n:Nat):(upTo n).Nodup:=by unfold upTo;unfold rB;rw[I9];exact PR.imp λh=>by lia
def bO(n:Nat)(r:Ap):Prop:=r.Perm (upTo n)
def bO.len (h:bO n r):r.length=n:=by rw[h.length_eq,aI]
def bO.nd (h:bO n r):r.Nodup:=h.nodup_iff.mpr (Fc n)
def bO.mem (h:bO n r){x:Int}:x∈r↔0<=x/\x<n:=h.mem_iff.trans mem_upTo
def bO.get (h:bO n r){x:Int}(e:r[j]?=aa x):0<=x/\x<n:=h.mem.mp (dU e)
def jy(n:Nat):bO n (upTo n):=Ja.refl _
def VB(h:bO n r):sortI r=upTo n:=(KP h.symm (La n)).symm
def ai(ns:Ap)(k:Nat):Int:=(ns[k]?).getD 0
def gy(h:j<l.length):l[j]?=aa (ai l j):=by unfold ai;rw[aP h];rfl
theorem M9(x:Int)(l:Ap):ai (x::l) 0=x:=rfl
def cH{a b:Ap}(hl:a.length=b.length)(h:∀j,j<a.length->ai a j=ai b j):a=b:=by
 refine ZO λj=>?_
 by_cases hj:j<a.length
 ·rw[gy hj,gy (hl▸hj),h j hj]
 ·rw[A6 (by lia),A6 (by lia)]
def aM{n j:Nat}(h:j<n):ai (upTo n) j=j:=by unfold ai;rw[yb n j h];rfl
def Fd{j i:Nat}{x:Int}(h:j<l.length):ai (l.set i x) j=if i=j then x else ai l j:=by
 unfold ai;rw[List.getElem?_set];split
 ·subst_vars
  rw[if_pos h];rfl
 ·rfl
def fy:Ap->Nat->Ap
 |x::y::l,0=>y::x::l
 |x::l,a+1=>x::fy l a
 |l,_=>l
def yc(x:Int)(l:Ap)(a:Nat):fy (x::l) (a+1)=x::fy l a:=by cases l<;>rfl
theorem dR:∀(l:Ap)(a:Nat),(fy l a).length=l.length
 |[],a=>by cases a<;>rfl
 |[x],0=>rfl
 |x::y::l,0=>rfl
 |x::l,a+1=>by rw[yc,aR,aR,dR l a]
theorem dC:∀(l:Ap)(a:Nat),a+1<l.length->∀j,ai (fy l a) j=if j=a then ai l (a+1)else if j=a+1 then ai l a else ai l j
 |[],a,h,j=>by simp at h
 |[x],a,h,j=>by simp at h
 |x::y::l,0,h,j=>by
  match j with
  |0=>rfl
  |1=>rfl
  |j+2=>rw[if_neg (by lia),if_neg (by lia)];rfl
 |x::y::l,a+1,h,j=>by
  rw[yc]
  match j with
  |0=>rw[if_neg (by lia),if_neg (by lia)];rfl
  |j+1=>
   show ai (fy (y::l) a) j=if j+1=a+1 then ai (y::l) (a+1)else if j+1=a+1+1 then ai (y::l) a else ai (y::l) j;rw[dC (y::l) a (by simpa using h) j]
   repeat' split
   all_goals first|rfl|lia
theorem PU:∀(l:Ap)(a:Nat),a+1<l.length->l.take a++[ai l (a+1),ai l a]++l.drop (a+2)=fy l a
 |[],a,h=>by simp at h
 |[x],a,h=>by simp at h
 |x::y::l,0,h=>rfl
 |x::y::l,a+1,h=>by rw[yc,<-PU (y::l) a (by simpa using h)];rfl
def wsum:Nat->Ap->Int
 |_,[]=>0
 |i,x::l=>(i:Int)*x+wsum (i+1) l
theorem Fe:∀(l:Ap)(a i:Nat),a+1<l.length->wsum i (fy l a)=wsum i l+(ai l a-ai l (a+1))
 |[],a,i,h=>by simp at h
 |[x],a,i,h=>by simp at h
 |x::y::l,0,i,h=>by show(i:Int)*y+(((i+1:Nat):Int)*x+wsum (i+1+1) l)=(i:Int)*x+(((i+1:Nat):Int)*y+wsum (i+1+1) l)+(x-y);rw[show((i+1:Nat):Int)=(i:Int)+1 by lia,Ej,Ej];lia
 |x::y::l,a+1,i,h=>by rw[yc];show(i:Int)*x+wsum (i+1) (fy (y::l) a)=(i:Int)*x+wsum (i+1) (y::l)+(ai (y::l) a-ai (y::l) (a+1));rw[Fe (y::l) a (i+1) (by simpa using h)];lia
theorem Lb:∀(l:Ap)(i:Nat),(∀j,j<l.length->0<=ai l j/\ai l j<=7)->i+l.length<=7->0<=wsum i l/\wsum i l<=49*l.length
 |[],i,_,_=>by simp[wsum]
 |x::l,i,h,hi=>by have hx:=h 0 (by simp);rw[M9]at hx;rw[aR]at hi;have ih:=Lb l (i+1) (λj hj=>h (j+1) (by simpa using hj)) (by lia);have h1:0<=(i:Int)*x:=Int.mul_nonneg (by lia) hx.1;have h2:(i:Int)*x<=7*7:=Int.mul_le_mul (by lia) hx.2 hx.1 (by decide);show 0<=(i:Int)*x+wsum (i+1) l/\(i:Int)*x+wsum (i+1) l<=_;rw[aR];lia
def sg(a:Nat)(x:Int):Int:=if x=a then(a:Int)+1 else if x=(a:Int)+1 then a else x
def vh(r:Ap)(a:Nat):Ap:=r.map (sg a)
def Ek(r:Ap)(a:Nat):(vh r a).length=r.length:=aN _
def cM{a p:Nat}(h:p<r.length):ai (vh r a) p=sg a (ai r p):=by
 have:=gy h;unfold vh
 conv=>lhs;unfold ai
 rw[bK,this];rfl
structure Iv(n:Nat)(r s:Ap):Prop where
 lr:r.length=n
 ls:s.length=n
 rs:∀p,p<n->0<=ai r p/\ai r p<n/\ai s (ai r p).toNat=p
 sr:∀v,v<n->0<=ai s v/\ai s v<n/\ai r (ai s v).toNat=v
def Iv.symm {r s:Ap}(h:Iv n r s):Iv n s r:=⟨h.ls,h.lr,h.sr,h.rs⟩
def Iv.step {r s:Ap}(h:Iv n r s){a:Nat}(ha:a+1<n):Iv n (vh r a) (fy s a):=by
 refine⟨by rw[Ek,h.lr],by rw[dR,h.ls],λp hp=>?_,λv hv=>?_⟩
 ·obtain⟨h1,h2,h3⟩:=h.rs p hp
  rw[cM (h.lr.symm▸hp),dC _ _ (h.ls.symm▸ha)];generalize ai r p=v at h1 h2 h3;unfold sg
  by_cases e1:v=a
  ·rw[if_pos e1]
   show 'L';rw[if_neg (by lia),if_pos (by lia),<-h3,show v.toNat=a by lia]
  ·rw[if_neg e1]
   by_cases e2:v=(a:Int)+1
   ·rw[if_pos e2]
    show 'L';rw[if_pos (by lia),<-h3,show v.toNat=a+1 by lia]
   ·rw[if_neg e2]
    show '!';rw[if_neg (by lia),if_neg (by lia),h3]
 ·rw[dC _ _ (h.ls.symm▸ha)]
  by_cases e1:v=a
  ·obtain⟨h1,h2,h3⟩:=h.sr (a+1) ha
   rw[if_pos e1];show '!';rw[cM (by rw[h.lr];lia),h3];unfold sg;rw[if_neg (by lia),if_pos (by lia),e1]
  ·rw[if_neg e1]
   by_cases e2:v=a+1
   ·obtain⟨h1,h2,h3⟩:=h.sr a (by lia)
    rw[if_pos e2];show '!';rw[cM (by rw[h.lr];lia),h3];unfold sg;rw[if_pos rfl,e2];lia
   ·obtain⟨h1,h2,h3⟩:=h.sr v hv
    rw[if_neg e2];show '!';rw[cM (by rw[h.lr];lia),h3];unfold sg;rw[if_neg (by lia),if_neg (by lia)]
def Iv.To {r s:Ap}(h:Iv n r s){v w:Nat}(hv:v<n)(hw:w<n)(e:ai s v=ai s w):v=w:=by have h1:=(h.sr v hv).2.2;have h2:=(h.sr w hw).2.2;rw[e]at h1;lia
def aeX(h:bO n r):∃s,Iv n r s:=by
 have hc:∀v,v<n->ai ((upTo n).map λv=>((r.idxOf v:Nat):Int)) v=(r.idxOf ((v:Nat):Int):Nat):=λv hv=>by unfold ai;rw[bK,yb n v hv];rfl
 refine⟨(upTo n).map λv=>((r.idxOf v:Nat):Int),h.len,by rw[aN,aI],λp hp=>?_,λv hv=>?_⟩
 ·have hp':p<r.length:=by rw[h.len];exact hp
  have hg:=h.get (gy hp');refine⟨hg.1,hg.2,?_⟩;rw[hc _ (by lia),show(((ai r p).toNat:Nat):Int)=ai r p by lia];have e:ai r p=r[p]:=by have:=gy hp';rw[aP hp']at this;exact(ck.inj this).symm
  rw[e,h.nd.idxOf_getElem p hp']
 ·have hm:(v:Int)∈r:=h.mem.mpr (by lia)
  have hl:=Z8 hm;rw[hc v hv];have UT:=hl;rw[h.len]at UT;show 'L';rw[bu];have:=gy hl;rw[aP hl,Pz hl]at this;exact(ck.inj this).symm
def Iv.idx {r s:Ap}(h:Iv n r s){v:Nat}(hv:v<n):(v:Int)∈r/\((r.idxOf (v:Int):Nat):Int)=ai s v:=by
 obtain⟨h1,h2,h3⟩:=h.sr v hv;have hm:(v:Int)∈r:=by have:=gy (l:=r) (j:=(ai s v).toNat) (by rw[h.lr];lia);rw[h3]at this;exact dU this
 refine⟨hm,?_⟩;have hl:=Z8 hm;have:=gy hl;rw[aP hl,Pz hl]at this;have e:=ck.inj this;have UT:=hl;rw[h.lr]at UT;have h4:=(h.rs _ UT).2.2;rw[<-e,bu]at h4;exact h4.symm
def Ak(l:Ap):Ap:=((bG (l.length-1)).map λi=>1+((i:Nat):Int)).filter λk=>decide (ai l k.toNat<ai l (k-1).toNat)
def ug{k:Int}:k∈Ak l↔∃a:Nat,k=(a:Int)+1/\a+1<l.length/\ai l (a+1)<ai l a:=by
 unfold Ak;rw[Ar,dQ];constructor
 ·rintro⟨⟨i,hi,rfl⟩,h⟩
  rw[gA]at hi;rw[decide_eq_true_eq,show(1+(i:Int)).toNat=i+1 by lia,show(1+(i:Int)-1).toNat=i by lia]at h;exact⟨i,by lia,by lia,h⟩
 ·rintro⟨a,rfl,h1,h2⟩
  refine⟨⟨a,gA.mpr (by lia),by lia⟩,?_⟩;rw[decide_eq_true_eq,show((a:Int)+1).toNat=a+1 by lia,show((a:Int)+1-1).toNat=a by lia];exact h2
def Z9(l:Ap):(Ak l).length<=l.length:=by have h:=aaa (λk=>decide (ai l k.toNat<ai l (k-1).toNat)) ((bG (l.length-1)).map λi=>1+((i:Nat):Int));unfold Ak;rw[aN,Pk]at h;lia
def Lc{l t:Ap}{k:Int}(e:Ak l=k::t):∃a:Nat,k=(a:Int)+1/\a+1<l.length/\ai l (a+1)<ai l a/\∀j,j<a->ai l j<=ai l (j+1):=by
 obtain⟨a,h1,h2,h3⟩:=ug.mp (show k∈Ak l by rw[e];simp);refine⟨a,h1,h2,h3,λj hj=>?_⟩;have hp:(Ak l).Pairwise (·<·):=by unfold Ak;refine OY.filter _ ?_;rw[I9];exact PR.imp λh=>by lia
 rw[e]at hp;refine Int.not_lt.mp λhlt=>?_;have hm:((j:Int)+1)∈Ak l:=ug.mpr ⟨j,rfl,by lia,hlt⟩;rw[e]at hm;rcases aX.mp hm with z|z
 ·lia
 ·have:=List.rel_of_pairwise_cons hp z
  lia
def PV{r s:Ap}(h:Iv n r s)(hd:∀a,a+1<n->¬ai s (a+1)<ai s a):r=upTo n:=by
 have hlt:∀a,a+1<n->ai s a<ai s (a+1):=λa ha=>by
  have h1:=hd a ha;have h2:ai s a≠ai s (a+1):=λz=>by have:=h.To (by lia) ha z;lia
  lia
 have hge:∀a,a<n->(a:Int)<=ai s a:=λa=>by
  induction a with
  |zero=>intro ha;exact(h.sr 0 ha).1
  |succ a ih=>
   intro ha;have h1:=ih (by lia);have h2:=hlt a ha;lia
 have hle:∀d a,a+d+1=n->ai s a<=a:=λd=>by
  induction d with
  |zero=>
   intro a ha;have:=(h.sr a (by lia)).2.1;lia
  |succ d ih=>
   intro a ha;have h1:=ih (a+1) (by lia);have h2:=hlt a (by lia);lia
 have hs:∀a,a<n->ai s a=a:=λa ha=>by have h1:=hge a ha;have h2:=hle (n-1-a) a (by lia);lia
 refine cH (by rw[h.lr,aI]) λp hp=>?_;rw[h.lr]at hp;obtain⟨h1,h2,h3⟩:=h.rs p hp;rw[hs _ (by lia)]at h3;rw[aM hp];lia
def Wk(n:Nat)(b:Bool):Ap->Ap->Ap->Prop
 |[],r,_=>r=upTo n
 |k::w,r,s=>∃a:Nat,k=(a:Int)+1/\a+1<n/\ai s (a+1)<ai s a/\(b=true->∀j,j<a->ai s j<=ai s (j+1))/\Wk n b w (vh r a) (fy s a)
structure Od(n:Nat)(o r z:Ap):Prop where
 lo:o.length=n
 lz:z.length=n
 at_:∀p,p<n->ai o (ai r p).toNat=ai z p
 cr:∀p q,p<q->q<n->ai r q<ai r p->ai z q<ai z p
def Od.up {r s o z:Ap}(h:Iv n r s)(d:Od n o r z){a:Nat}(ha:a+1<n)(hf:ai s (a+1)<ai s a):¬ai o (a+1)<ai o a:=by
 obtain⟨h1,h2,h3⟩:=h.sr a (by lia);obtain⟨g1,g2,g3⟩:=h.sr (a+1) ha;have e1:=d.at_ (ai s a).toNat (by lia)
 have e2:=d.at_ (ai s (a+1)).toNat (by lia)
 rw[h3,bu]at e1;rw[g3,bu]at e2;have:=d.cr (ai s (a+1)).toNat (ai s a).toNat (by lia) (by lia) (by rw[h3,g3];lia);rw[e1,e2];lia
def Od.step {r s o z:Ap}(h:Iv n r s)(d:Od n o r z){a:Nat}(ha:a+1<n)(hf:ai s (a+1)<ai s a):Od n (fy o a) (vh r a) z:=by
 refine⟨by rw[dR,d.lo],d.lz,λp hp=>?_,λp q hpq hq hlt=>?_⟩
 ·obtain⟨h1,h2,h3⟩:=h.rs p hp
  have e:=d.at_ p hp
  rw[cM (by rw[h.lr];exact hp),dC _ _ (by rw[d.lo];exact ha)];generalize ai r p=v at h1 h2 h3 e;unfold sg
  by_cases e1:v=a
  ·rw[if_pos e1,if_neg (by lia),if_pos (by lia),<-e,show v.toNat=a by lia]
  ·rw[if_neg e1]
   by_cases e2:v=(a:Int)+1
   ·rw[if_pos e2,if_pos (by lia),<-e,show v.toNat=a+1 by lia]
   ·rw[if_neg e2,if_neg (by lia),if_neg (by lia),e]
 ·rw[cM (by rw[h.lr];lia),cM (by rw[h.lr];lia)]at hlt
  refine d.cr p q hpq hq ?_;obtain⟨p1,p2,p3⟩:=h.rs p (by lia);obtain⟨q1,q2,q3⟩:=h.rs q hq;have hne:¬(ai r p=a/\ai r q=(a:Int)+1):=λz=>by rw[z.1,bu]at p3;rw[z.2,show((a:Int)+1).toNat=a+1 by lia]at q3;lia
  have aqv:ai r p≠ai r q:=λz=>by rw[z,q3]at p3;lia
  generalize ai r p=x at*;generalize ai r q=y at*;unfold sg at hlt
  repeat' split at hlt
  all_goals lia
def Od.done {o z:Ap}(d:Od n o (upTo n) z):o=z:=cH (by rw[d.lo,d.lz]) λp hp=>by
 rw[d.lo]at hp;have:=d.at_ p hp
 rwa [aM hp,bu]at this
def S(n:Nat)(f:Nat->Nat):Nat:=((bG n).map f).sum
theorem aeY(f:Nat->Nat):S 0 f=0:=rfl
def qL(n:Nat)(f:Nat->Nat):S (n+1) f=S n f+f n:=by unfold S;rw[PH,cF,PX];simp
def PY(n:Nat)(f:Nat->Nat):S (n+1) f=f 0+S n λi=>f (i+1):=by unfold S;rw[Ph,bq,rC,jV];rfl
def lM{f g:Nat->Nat}(h:∀i,i<n->f i=g i):S n f=S n g:=by
 induction n with
 |zero=>rfl
 |succ n ih=>rw[qL,qL,ih λi hi=>h i (by lia),h n (by lia)]
def Ld(n:Nat)(f g:Nat->Nat):S n (λi=>f i+g i)=S n f+S n g:=by
 induction n with
 |zero=>rfl
 |succ n ih=>rw[qL,qL,qL,ih];lia
def aab(n c:Nat):S n (λ_=>c)=n*c:=by
 induction n with
 |zero=>rw[Nat.zero_mul];rfl
 |succ n ih=>rw[qL,ih,IA]
def VC(n m:Nat)(f:Nat->Nat->Nat):S n (λi=>S m λj=>f i j)=S m λj=>S n λi=>f i j:=by
 induction n with
 |zero=>
  rw[aeY,show(λj=>S 0 λi=>f i j)=λ_=>0 from rfl,aab,Nat.mul_zero]
 |succ n ih=>
  rw[qL,ih,<-Ld];exact lM λj _=>(qL n λi=>f i j).symm
def aeZ(n q:Nat)(g:Nat->Nat):S n (λp=>if p<q then g p else 0)=S (min n q) g:=by
 induction n with
 |zero=>rw[Nat.zero_min];rfl
 |succ n ih=>
  rw[qL,ih]
  by_cases h:n<q
  ·rw[if_pos h,show min n q=n by lia,show min (n+1) q=n+1 by lia,qL]
  ·rw[if_neg h,show min n q=q by lia,show min (n+1) q=q by lia]
   rfl
def VD{r s:Ap}(h:Iv n r s)(f:Nat->Nat):S n (λv=>f (ai s v).toNat)=S n f:=by
 unfold S;have p:((bG n).map λv=>(ai s v).toNat).Perm (bG n):=by
  refine(aac ?_ aad).mpr λx=>?_
  ·unfold rB
   rw[I9];refine OY.imp_of_mem ?_ aad;intro a b ha hb hab e;rw[gA]at ha hb;have h1:=h.sr a ha;have h2:=h.sr b hb;exact hab (h.To ha hb (by lia))
  ·rw[dQ]
   constructor
   ·rintro⟨v,hv,rfl⟩
    rw[gA]at hv⊢;have:=h.sr v hv;lia
   ·intro hx
    rw[gA]at hx;obtain⟨h1,h2,h3⟩:=h.rs x hx;exact⟨(ai r x).toNat,gA.mpr (by lia),by rw[h3,bu]⟩
 have:=(p.map f).sum_nat;rw[jV]at this;exact this
def Gz(x:Int)(pre:Ap):Nat:=(pre.filter λs=>decide (x<s)).length
def Na(x y:Int)(pre:Ap):Gz x (pre++[y])=Gz x pre+if x<y then 1 else 0:=by
 unfold Gz;rw[aae,br];congr 1;rw[aaf]
 by_cases h:x<y
 ·rw[if_pos (decide_eq_true h),if_pos h];rfl
 ·rw[if_neg (by rw[decide_eq_true_eq];exact h),if_neg h];rfl
def aag{x:Int}{a b:Ap}(p:a.Perm b):Gz x a=Gz x b:=(p.filter _).length_eq
def JX:Ap->Ap->Nat
 |_,[]=>0
 |pre,x::l=>Gz x pre+JX (pre++[x]) l
theorem Le:∀(l:Ap){a b:Ap},a.Perm b->JX a l=JX b l
 |[],a,b,p=>rfl
 |x::l,a,b,p=>by unfold JX;rw[aag p,Le l (p.append_right [x])]
theorem El:∀(l:Ap)(a:Nat)(pre:Ap),a+1<l.length->JX pre (fy l a)+(if ai l (a+1)<ai l a then 1 else 0)=JX pre l+(if ai l a<ai l (a+1)then 1 else 0)
 |[],a,pre,h=>by simp at h
 |[x],a,pre,h=>by simp at h
 |x::y::l,0,pre,h=>by
  show Gz y pre+(Gz x (pre++[y])+JX (pre++[y]++[x]) l)+(if y<x then 1 else 0)=Gz x pre+(Gz y (pre++[x])+JX (pre++[x]++[y]) l)+(if x<y then 1 else 0);rw[Na,Na,Le l (show(pre++[y]++[x]).Perm (pre++[x]++[y])by rw[aZ,aZ];exact Ja.append_left pre (Ja.swap x y []))]
  lia
 |x::y::l,a+1,pre,h=>by rw[yc];show Gz x pre+JX (pre++[x]) (fy (y::l) a)+(if ai (y::l) (a+1)<ai (y::l) a then 1 else 0)=Gz x pre+JX (pre++[x]) (y::l)+(if ai (y::l) a<ai (y::l) (a+1)then 1 else 0);have:=El (y::l) a (pre++[x]) (by simpa using h);lia
theorem abP:∀(l pre:Ap),JX pre l=S l.length λj=>Gz (ai l j) (pre++l.take j)
 |[],pre=>rfl
 |x::l,pre=>by rw[aR,PY];show Gz x pre+JX (pre++[x]) l=_;rw[abP l (pre++[x]),show Gz (ai (x::l) 0) (pre++(x::l).take 0)=Gz x pre by rw[ZA,bg];rfl];congr 1;refine lM λi _=>?_;show Gz (ai l i) (pre++[x]++l.take i)=Gz (ai l i) (pre++x::l.take i);rw[aZ];rfl
theorem ahM(x:Int)(l:Ap):∀q,q<=l.length->Gz x (l.take q)=S q λp=>if x<ai l p then 1 else 0
 |0,_=>rfl
 |q+1,h=>by
  have hq:q<l.length:=by lia
  have e:l.take (q+1)=l.take q++[ai l q]:=by rw[Ei,gy hq];rfl
  rw[e,Na,ahM x l q (by lia),qL]
def lN(l:Ap):Nat:=JX [] l
def Hh(l:Ap):lN l=S l.length λq=>S l.length λp=>if p<q then(if ai l q<ai l p then 1 else 0)else 0:=by unfold lN;rw[abP];refine lM λq hq=>?_;rw[dh,ahM _ _ q (by lia),aeZ,show min l.length q=q by lia]
def Ff{r s:Ap}(h:Iv n r s):lN r=lN s:=by
 rw[Hh,Hh,h.lr,h.ls,<-VD h (λq=>S n λp=>if p<q then(if ai r q<ai r p then 1 else 0)else 0),VC n n λq p=>if p<q then(if ai s q<ai s p then 1 else 0)else 0];refine lM λw hw=>?_;rw[<-VD h (λp=>if p<(ai s w).toNat then(if ai r (ai s w).toNat<ai r p then 1 else 0)else 0)];refine lM λv hv=>?_;obtain⟨h1,h2,h3⟩:=h.sr w hw;obtain⟨g1,g2,g3⟩:=h.sr v hv;rw[h3,g3]
 repeat' split
 all_goals first|rfl|lia
def jX{i:Int}(h:0<=i)(h2:i<l.length):mO (bp l) i=aa (.int (ai l i.toNat)):=by rw[AY,yY h,gy (by lia)];rfl
theorem Fg{b:D->DE->R DE}{ct:DE->R Bool}{fe:DE->R D}{e₀:DE}(P:Int->Bool):∀(w:Ap),(∀k∈w,∃e,b (.int k) e₀=.ok e/\ct e=.ok (P k)/\fe e=.ok (.int k))->kW b ct fe e₀ (bp w)=.ok (bp (w.filter P))
 |[],_=>rfl
 |k::w,h=>by
  obtain⟨e,h1,h2,h3⟩:=h k (by simp);have ih:=Fg P w λx hx=>h x (by simp[hx]);rw[<-xU];unfold kW;rw[h1,R.bX,h2,R.bX,aaf]
  by_cases hp:P k=true
  ·rw[if_pos hp,if_pos hp,h3,R.bX,ih]
   rfl
  ·rw[if_neg hp,if_neg hp,ih]
def aah(n:Nat)(h:n<=7):R4 [.int 1,.int n]=.ok (bp ((bG (n-1)).map λi=>1+((i:Nat):Int))):=by rw[UJ 1 n (by lia),show((n:Int)-1).toNat=n-1 by lia,Eb]
def aai{k:Int}(h:k∈(bG (n-1)).map λi=>1+((i:Nat):Int)):∃a:Nat,k=(a:Int)+1/\a+1<n:=by obtain⟨i,hi,rfl⟩:=dQ.mp h;rw[gA]at hi;exact⟨i,by lia,by lia⟩
def Lf{r s:Ap}(h:Iv n r s){v:Nat}(hv:v<n):xV (bp r) (.int v)=.ok (.int (ai s v)):=by unfold xV;rw[IL];obtain⟨h1,h2⟩:=h.idx hv;show(if(v:Int)∈r then R.ok (D.int (r.idxOf (v:Int):Nat))else R.bad)=_;rw[if_pos h1,h2]
theorem Lg:∀n:Nat,(aO n [D.int 0]).flatten=bp (aO n 0)
 |0=>rfl
 |n+1=>by rw[cA,dM,Lg n];rfl
def y4{r s:Ap}(h:Iv n r s)(hn:n<=7):gj [.lst (bp r)]=.ok (bp s):=by
 unfold gj C6;simp_all [cK,h.lr];rw[MP _ _ ⟨by lia,by lia,big (by rw[bu,aR,cD];lia)⟩,bu];have e0:=Lg n;rw[e0];dsimp;obtain⟨t,e,hj⟩:=xT (S:=Ap×Sl×Sl) (b:=rW) (λi t=>t.1.length=n/\∀p,p<i->p<n->ai t.1 (ai r p).toNat=p) (λt=>[.val (.lst (bp r)),.own (bp t.1),t.2.1,t.2.2]) (nk (bp r)) 0 (aO n 0,.no,.no) ⟨AA,λp hp=>by lia⟩ (by
  rintro j ⟨l,s2,s3⟩ x ⟨hl,hs⟩ hx;obtain⟨c,hc,rfl⟩:=Cp hx;rw[lH]at hs⊢;have hjn:j<n:=by
   have:=(bH.mp hc).1
   rwa [h.lr]at this
  rw[gy (by rw[h.lr];exact hjn)]at hc;have Tw:=ck.inj hc;obtain⟨h1,h2,h3⟩:=h.rs j hjn;unfold rW;simp_all [bT2];rw[KN (by lia) (by rw[cK];have:l.length=n:=hl;lia),ZE,<-Tw];refine⟨(l.set (ai r j).toNat j,_,_),rfl,by rw[qh];exact hl,λp hp hpn=>?_⟩;obtain⟨p1,p2,p3⟩:=h.rs p hpn;have hll:l.length=n:=hl;show ai (l.set (ai r j).toNat j) (ai r p).toNat=p;rw[Fd (by lia)]
  by_cases ep:p=j
  ·subst ep
   rw[if_pos rfl]
  ·rw[if_neg λz=>by rw[<-z,h3]at p3;lia]
   exact hs p (by lia) hpn)
 obtain⟨l,s2,s3⟩:=t;obtain⟨hl,hs⟩:=hj;dsimp only at e;rw[e];have el:l=s:=by have UT:l.length=n:=hl;refine cH (by rw[UT,h.ls]) λv hv=>?_;rw[UT]at hv;obtain⟨h1,h2,h3⟩:=h.sr v hv;have:=hs (ai s v).toNat (by rw[lH];unfold nk;rw[aN,List.length_zipIdx,cK,h.lr];lia) (by lia);rw[h3,bu]at this;dsimp only at this;lia
 rw[el];simp_all [jE]
def Lh(l:Ap)(hn:l.length<=7):y0 [.lst (bp l)]=.ok (bp (Ak l)):=by
 unfold y0 PL;simp_all [cK];rw[aah _ hn];dsimp [uF];rw[Fg (λk=>decide (ai l k.toNat<ai l (k-1).toNat)) _ λk hk=>⟨_,pL _ _ _,by
  obtain⟨a,rfl,ha⟩:=aai hk;unfold E7 xt;simp_all;rw[jX (by lia) (by lia),jX (by lia) (by lia)];dsimp,by
  unfold E8 xt;simp_all⟩]
 dsimp [R.Cu];have hd:=Z9 l;rw[show List.filter _ _=Ak l from rfl,jw (by lia)];dsimp [jE]
def Cy{r s:Ap}(h:Iv n r s)(hn:n<=7):rY [.lst (bp r)]=.ok (bp (Ak s)):=by unfold rY K6;simp_all;rw[y4 h hn];dsimp;rw[Lh s (by rw[h.ls];exact hn)];dsimp [jE]
def Cz(hn:l.length<=7){a:Nat}(ha:a+1<l.length):cC [.lst (bp l),.int ((a:Int)+1)]=.ok (bp (fy l a)):=by unfold cC oK;simp_all [tY];rw[Co _ _ (by lia),uY _ _ (by lia),jX (by lia) (by lia),jX (by lia) (by lia),show((a:Int)+1-1).toNat=a by lia,show((a:Int)+1+1).toNat=a+2 by lia,show((a:Int)+1).toNat=a+1 by lia];dsimp;rw[show[D.int (ai l (a+1)),D.int (ai l a)]=bp [ai l (a+1),ai l a]from rfl,kL,jw (by simp_all only [br,fA,aR,cD];lia)];dsimp;rw[kL,PU l a ha,jw (by rw[dR];lia)];dsimp [jE]
def Li{r s:Ap}(h:Iv n r s)(hn:n<=7){a:Nat}(ha:a+1<n):dG [.lst (bp r),.int ((a:Int)+1)]=.ok (bp (vh r a)):=by unfold dG pO;simp_all;rw[y4 h hn];dsimp;rw[Cz (by rw[h.ls];exact hn) (by rw[h.ls];exact ha)];dsimp;rw[y4 (h.step ha).symm hn];dsimp [jE]
abbrev RP:=Ap×Ap
abbrev As:=List RP
variable {kn:As}{L:As}
structure Ad where
 dx:ae
 kn:ae
 nu:ae
 fi:ae
 la:ae
 sh:ae
 lo:ae
 ke:ae
 li:ae
 ks:List ae
def Ad.hd (A:Ad):List ae:=[A.dx,A.kn,A.nu,A.fi,A.la,A.sh,A.lo,A.ke,A.li]
def Ad.all (A:Ad):List ae:=A.hd++A.ks
def Du(A:Ad):List (Str×V):=[("known",.ref A.kn),("numbers",.ref A.nu),("firsts",.ref A.fi),("lasts",.ref A.la),("shorter",.ref A.sh),("longer",.ref A.lo),("kept",.ref A.ke),("line",.ref A.li)]
def kk(r:Ap):List Key:=r.map iF
def alr(r:Ap):(kk r).map kV=r.map V.int:=by unfold kk;rw[jV];rfl
def VE{r s:Ap}(h:kk r=kk s):r=s:=by unfold kk at h;exact(List.map_inj_right (λx y e=>iF.inj e)).mp h
def Nb(ks:Ap):Int:=ks.foldl (λb k=>IZ b (1*2^(k-1).toNat)) 0
def Dv(l:Ap):Int:=Nb (Ak l)
def wB(p:RP)(a:Nat):RP:=(fy p.1 a,vh p.2 a)
def yd(p:RP)(a:Nat):RP:=(vh p.1 a,fy p.2 a)
def uh(p q:RP):Ap:=(Ak q.2).filter λk=> !decide (k∈Ak p.1)
def gO:Nat->RP->RP->RP×RP
 |0,p,q=>(p,q)
 |f+1,p,q=>match (uh p q).getLast? with
  |none=>(p,q)
  |some k=>gO f (wB p (k-1).toNat) (yd q (k-1).toNat)
def Iv.uniq {r r' s:Ap}(h:Iv n r s)(g:Iv n r' s):r=r':=by refine cH (by rw[h.lr,g.lr]) λj hj=>?_;obtain⟨a1,a2,a3⟩:=h.rs j (by rw[h.lr]at hj;exact hj);obtain⟨b1,b2,b3⟩:=g.sr (ai r j).toNat (by lia);rw[a3,bu]at b3;lia
def qT{p q:RP}(h:Iv n p.1 p.2)(g:Iv n q.1 q.2)(e:p.1=q.1):p=q:=by have h':=h.symm;rw[e]at h';exact Prod.ext e (Iv.uniq h' g.symm)
structure pH(C:ae)(H:Hp)(a:ae)(A:Ad)(ex:List (Str×V))(n:Nat)(kn:As)(ln:Ap)(B:Nat)(nu sh lo ke:List (List Key×V)):Prop where
 ob:H a=aa (.ins C A.dx (Du A++ex))
 dx:∃o,H A.dx=aa o
 nd:(a::A.all).Nodup
 hkn:H A.kn=aa (.lst (A.ks.map V.ref))
 Lj:A.ks.length=kn.length
 hks:∀(i:Nat)(b:ae)(p:RP),A.ks[i]?=aa b->kn[i]?=aa p->H b=aa (.lst (p.1.map V.int))
 GA:H A.nu=aa (.dT nu)
 Gf:H A.fi=aa (.lst (kn.map λp=>V.int (Dv p.2)))
 hla:H A.la=aa (.lst (kn.map λp=>V.int (Dv p.1)))
 hsh:H A.sh=aa (.dT sh)
 hlo:H A.lo=aa (.dT lo)
 hke:H A.ke=aa (.dT ke)
 hli:H A.li=aa (.lst (ln.map V.int))
 rw:∀p∈kn,Iv n p.1 p.2
 n1:∀(i:Nat)(p:RP),kn[i]?=aa p->iQ nu (kk p.1)=aa (.int i)
 n2:∀r:Ap,(∀p∈kn,p.1≠r)->iQ nu (kk r)=none
 s1:∀(i:Nat)(k:Int)(v:V),iQ sh [.inl (i:Int),.inl k]=aa v->∃(j:Nat)(p:RP),kn[i]?=aa p/\kn[j]?=aa (yd p (k-1).toNat)/\v=.int j
 l1:∀(i:Nat)(k:Int)(v:V),iQ lo [.inl (i:Int),.inl k]=aa v->∃(j:Nat)(p:RP),kn[i]?=aa p/\kn[j]?=aa (wB p (k-1).toNat)/\v=.int j
 k1:∀(i j:Nat)(v:V),iQ ke [.inl (i:Int),.inl (j:Int)]=aa v->∃(t:ae)(i' j':Nat)(p q:RP),kn[i]?=aa p/\kn[j]?=aa q/\v=.ref t/\H t=aa (.tup [.int i',.int j'])/\kn[i']?=aa (gO 50 p q).1/\kn[j']?=aa (gO 50 p q).2
 z:kn.length<=B/\nu.length<=B/\sh.length<=B/\lo.length<=B/\ke.length<=B
 li:∀m∈ln,0<=m/\m<kn.length
def pH.same {C:ae}{H H':Hp}{A:Ad}{ex:List (Str×V)}{ln:Ap}{B:Nat}{nu sh lo ke:List (List Key×V)}(c:pH C H a A ex n kn ln B nu sh lo ke)(s:bM H H'):pH C H' a A ex n kn ln B nu sh lo ke:=
 ⟨s _ _ c.ob,let⟨o,h⟩:=c.dx;⟨o,s _ _ h⟩,c.nd,s _ _ c.hkn,c.Lj,λi b p e1 e2=>s _ _ (c.hks i b p e1 e2),s _ _ c.GA,s _ _ c.Gf,s _ _ c.hla,s _ _ c.hsh,s _ _ c.hlo,s _ _ c.hke,s _ _ c.hli,c.rw,c.n1,c.n2,c.s1,c.l1,
  λi j v e=>by obtain⟨t,i',j',p,q,h1,h2,h3,h4,h5⟩:=c.k1 i j v e;exact⟨t,i',j',p,q,h1,h2,h3,s _ _ h4,h5⟩,c.z,c.li⟩
def pH.more {C:ae}{A:Ad}{ex:List (Str×V)}{ln:Ap}{B B':Nat}{nu sh lo ke:List (List Key×V)}(c:pH C H a A ex n kn ln B nu sh lo ke)(h:B<=B'):pH C H a A ex n kn ln B' nu sh lo ke:=
 {c with z:=by have:=c.z;lia}
structure Nes(a:ae)(A:Ad):Prop where
 n1:A.kn≠A.fi
 n2:A.kn≠A.la
 n3:A.kn≠A.li
 n4:A.fi≠A.la
 n5:A.fi≠A.li
 n6:A.la≠A.li
 m1:A.nu≠A.sh
 m2:A.nu≠A.lo
 m3:A.nu≠A.ke
 m4:A.sh≠A.lo
 m5:A.sh≠A.ke
 m6:A.lo≠A.ke
 ksn:∀b∈A.ks,b≠A.kn/\b≠A.fi/\b≠A.la/\b≠A.li
 d1:A.dx≠A.kn
 d2:A.dx≠A.nu
 d3:A.dx≠A.fi
 d4:A.dx≠A.la
 d5:A.dx≠A.sh
 d6:A.dx≠A.lo
 d7:A.dx≠A.ke
 d8:A.dx≠A.li
 d9:a≠A.dx
 ksd:∀b∈A.ks,b≠A.dx
def pH.nes {C:ae}{A:Ad}{ex:List (Str×V)}{ln:Ap}{B:Nat}{nu sh lo ke:List (List Key×V)}(c:pH C H a A ex n kn ln B nu sh lo ke):
  Nes a A:=by
 have nd:=c.nd;unfold Ad.all Ad.hd at nd;simp only [cB,dh,ji,aX,not_or]at nd;obtain⟨⟨a1,a2⟩,⟨d1,d2,d3,d4,d5,d6,d7,d8,d9⟩,⟨k1,k2,k3,k4,k5,k6,k7,k8⟩,⟨n1,n2,n3,n4,n5,n6,n7⟩,⟨f1,f2,f3,f4,f5,f6⟩,⟨l1,l2,l3,l4,l5⟩,⟨s1,s2,s3,s4⟩,⟨o1,o2,o3⟩,⟨e1,e2⟩,i1,_⟩:=nd;exact⟨k2,k3,k7,f1,f5,l4,n3,n4,n5,s1,s2,o1,λb hb=>⟨λz=>k8 (z▸hb),λz=>f6 (z▸hb),λz=>l5 (z▸hb),λz=>i1 (z▸hb)⟩,d1,d2,d3,d4,d5,d6,d7,d8,a1,λb hb z=>d9 (z▸hb)⟩
structure pI(H H':Hp)(F F':List ae):Prop where
 kp:∀x o,x∉F->H x=aa o->H' x=aa o
 nw:∀x∈F',x∈F\/H x=none
 gr:∀x,H' x=none->H x=none
def pI.refl (H:Hp)(F:List ae):pI H H F F:=⟨λ_ _ _ h=>h,λ_ h=>.inl h,λ_ h=>h⟩
def pI.trans {H H1 H2:Hp}{F F1 F2:List ae}(a:pI H H1 F F1)(b:pI H1 H2 F1 F2):pI H H2 F F2:=
 ⟨λx o hx h=>b.kp x o (λz=>(a.nw x z).elim hx λq=>by rw[h]at q;cases q) (a.kp x o hx h),λx hx=>(b.nw x hx).elim (λz=>a.nw x z) λz=>.inr (a.gr x z),λx hx=>a.gr x (b.gr x hx)⟩
def pI.same {H H1:Hp}(s:bM H H1)(F:List ae):pI H H1 F F:=⟨λx o _ h=>s x o h,λ_ h=>.inl h,λ_ h=>s.free h⟩
theorem pI.upd {F:List ae}{x:ae}(hx:x∈F)(o:HO):pI H (upd H x o) F F:=⟨λy o' hy h=>by rw[aH (λz=>hy (by rw[z];exact hx))];exact h,λ_ h=>.inl h,λy hy=>by
 by_cases z:y=x
 ·rw[z,aU]at hy;cases hy
 ·rw[aH z]at hy;exact hy⟩
def pH.there {C:ae}{A:Ad}{ex:List (Str×V)}{ln:Ap}{B:Nat}{nu sh lo ke:List (List Key×V)}(c:pH C H a A ex n kn ln B nu sh lo ke){x:ae}(hx:x∈a::A.all):∃o,H x=aa o:=by
 rcases aX.mp hx with rfl|hx
 ·exact⟨_,c.ob⟩
 ·rcases cu.mp hx with hx|hx
  ·unfold Ad.hd at hx
   simp only [aX,AV,or_false]at hx;rcases hx with rfl|rfl|rfl|rfl|rfl|rfl|rfl|rfl|rfl
   ·exact c.dx
   ·exact⟨_,c.hkn⟩
   ·exact⟨_,c.GA⟩
   ·exact⟨_,c.Gf⟩
   ·exact⟨_,c.hla⟩
   ·exact⟨_,c.hsh⟩
   ·exact⟨_,c.hlo⟩
   ·exact⟨_,c.hke⟩
   ·exact⟨_,c.hli⟩
  ·obtain⟨i,hi,ei⟩:=D2 hx
   exact⟨_,c.hks i x (kn[i]'(by rw[<-c.Lj];exact hi)) (by rw[aP hi,ei]) (aP (by rw[<-c.Lj];exact hi))⟩
def ye{α:Type}{l:List α}{x y:α}(e:(l++[x])[i]?=aa y)(h:¬i<l.length):i=l.length/\x=y:=by
 have h1:=(bH.mp e).1;rw[br,tR]at h1;have h2:i=l.length:=by lia
 subst h2;exact⟨rfl,by simpa using e⟩
def fK{α:Type}{l m:List α}{x:α}(e:l[i]?=aa x):(l++m)[i]?=aa x:=by rw[fE (bH.mp e).1];exact e
def pH.add {C:ae}{H H9:Hp}{A:Ad}{ex:List (Str×V)}{ln:Ap}{B:Nat}{nu sh lo ke:List (List Key×V)}(c:pH C H a A ex n kn ln B nu sh lo ke){p:RP}(hm:¬∃q∈kn,q.1=p.1)(iv:Iv n p.1 p.2){l2:ae}(l2H:H l2=none)
  (ob9:H9 a=aa (.ins C A.dx (Du A++ex)))(nu9:H9 A.nu=aa (.dT (putK nu (kk p.1) (.int (kn.length:Int)))))(kn9:H9 A.kn=aa (.lst (A.ks.map V.ref++[.ref l2])))
  (fi9:H9 A.fi=aa (.lst ((kn.map λp=>V.int (Dv p.2))++[V.int (Dv p.2)])))(la9:H9 A.la=aa (.lst ((kn.map λp=>V.int (Dv p.1))++[V.int (Dv p.1)])))(l29:H9 l2=aa (.lst (p.1.map V.int)))
  (keep:∀x o,x≠A.nu->x≠A.kn->x≠A.fi->x≠A.la->H x=aa o->H9 x=aa o):pH C H9 a {A with ks:=A.ks++[l2]} ex n (kn++[p]) ln (B+1) (putK nu (kk p.1) (.int (kn.length:Int))) sh lo ke:=by
 have GB:∀j,iQ (putK nu (kk p.1) (.int (kn.length:Int))) j=if j=kk p.1 then aa (.int (kn.length:Int))else iQ nu j:=λj=>rR nu (kk p.1) j _;have hz:(kn++[p]).length<=B+1/\(putK nu (kk p.1) (.int (kn.length:Int))).length<=B+1/\sh.length<=B+1/\lo.length<=B+1/\ke.length<=B+1:=by have h0:=c.z;have h1:=mw nu (kk p.1) (.int (kn.length:Int));rw[br,tR];lia
 have hli:∀m∈ln,0<=m/\m<((kn++[p]).length:Int):=λm hm'=>by have:=c.li m hm';rw[br];lia
 have nl:∀{x y:ae}{xs:List V}{kv:List (List Key×V)},H x=aa (.lst xs)->H y=aa (.dT kv)->x≠y:=λh1 h2=>eT h1 h2 (by intro z;cases z);obtain⟨n1,n2,n3,n4,n5,n6,m1,m2,m3,m4,m5,m6,ksn,d1,d2,d3,d4,d5,d6,d7,d8,d9,ksd⟩:=c.nes;refine⟨ob9,?_,?_,by rw[cF];exact kn9,by rw[br,br,c.Lj];rfl,λi b' q' e1 e2=>?_,nu9,by rw[cF];exact fi9,by rw[cF];exact la9,
  keep _ _ (Ne.symm m1) (Ne.symm (nl c.hkn c.hsh)) (Ne.symm (nl c.Gf c.hsh)) (Ne.symm (nl c.hla c.hsh)) c.hsh,
  keep _ _ (Ne.symm m2) (Ne.symm (nl c.hkn c.hlo)) (Ne.symm (nl c.Gf c.hlo)) (Ne.symm (nl c.hla c.hlo)) c.hlo,
  keep _ _ (Ne.symm m3) (Ne.symm (nl c.hkn c.hke)) (Ne.symm (nl c.Gf c.hke)) (Ne.symm (nl c.hla c.hke)) c.hke,
  keep _ _ (nl c.hli c.GA) (Ne.symm n3) (Ne.symm n5) (Ne.symm n6) c.hli,λq' JU=>?_,λi q' e=>?_,λr hr'=>?_,λi k' v e=>?_,λi k' v e=>?_,λi j v e=>?_,hz,hli⟩
 ·obtain⟨o,ho⟩:=c.dx
  exact⟨o,keep _ _ d2 d1 d3 d4 ho⟩
 ·show(a::(A.hd++(A.ks++[l2]))).Nodup
  rw[<-aZ,<-cB,ZX];refine⟨c.nd,by simp,λx hx y hy=>?_⟩;have ey:y=l2:=by simpa using hy
  rw[ey];intro z;obtain⟨o,ho⟩:=c.there hx;rw[z,l2H]at ho;cases ho
 ·have Y1:(A.ks++[l2])[i]?=aa b':=e1
  by_cases hi:i<kn.length
  ·rw[fE (by rw[c.Lj];exact hi)]at Y1
   rw[fE hi]at e2;have Xz:=ksn b' (dU Y1);have hbH:=c.hks i b' q' Y1 e2;exact keep _ _ (nl hbH c.GA) Xz.1 Xz.2.1 Xz.2.2.1 hbH
  ·obtain⟨_,z2⟩:=ye e2 hi
   obtain⟨_,z1⟩:=ye Y1 (by rw[c.Lj];exact hi);rw[<-z1,<-z2];exact l29
 ·rcases cu.mp JU with h|h
  ·exact c.rw q' h
  ·have:q'=p:=by simpa using h
   rw[this];exact iv
 ·rw[GB]
  by_cases hi:i<kn.length
  ·rw[fE hi]at e
   have hne:¬kk q'.1=kk p.1:=λz=>hm ⟨q',dU e,VE z⟩;rw[if_neg hne];exact c.n1 i q' e
  ·obtain⟨z1,z2⟩:=ye e hi
   rw[<-z2,if_pos rfl,z1]
 ·rw[GB,if_neg (λz=>hr' p (by simp) (VE z).symm)]
  exact c.n2 r λq' JU=>hr' q' (by simp[JU])
 ·obtain⟨j,p',h1,h2,h3⟩:=c.s1 i k' v e
  exact⟨j,p',fK h1,fK h2,h3⟩
 ·obtain⟨j,p',h1,h2,h3⟩:=c.l1 i k' v e
  exact⟨j,p',fK h1,fK h2,h3⟩
 ·obtain⟨t',i',j',p',q',h1,h2,h3,h4,h5,h6⟩:=c.k1 i j v e
  have nt:∀{y:ae}{xs:List V},H y=aa (.lst xs)->t'≠y:=λh=>eT h4 h (by intro z;cases z);exact⟨t',i',j',p',q',fK h1,fK h2,h3,keep _ _ (eT h4 c.GA (by intro z;cases z)) (nt c.hkn) (nt c.Gf) (nt c.hla) h4,fK h5,fK h6⟩
def pH.ae2 {C:ae}{A:Ad}{ex:List (Str×V)}{ln:Ap}{B:Nat}{nu sh lo ke:List (List Key×V)}(c:pH C H a A ex n kn ln B nu sh lo ke){i j:Nat}{k:Int}{p:RP}(hi:kn[i]?=aa p)(hj:kn[j]?=aa (yd p (k-1).toNat)):
  pH C (upd H A.sh (.dT (putK sh [.inl (i:Int),.inl k] (.int j)))) a A ex n kn ln (B+1) nu (putK sh [.inl (i:Int),.inl k] (.int j)) lo ke:=by
 have hz:kn.length<=B+1/\nu.length<=B+1/\(putK sh ([.inl (i:Int),.inl k]:List Key) (.int j)).length<=B+1/\lo.length<=B+1/\ke.length<=B+1:=by have h0:=c.z;have h1:=mw sh ([.inl (i:Int),.inl k]:List Key) (.int j);lia
 have GB:∀x,iQ (putK sh ([.inl (i:Int),.inl k]:List Key) (.int j)) x=if x=[.inl (i:Int),.inl k]then aa (.int j)else iQ sh x:=λx=>rR sh _ x _;have nl:∀{x:ae}{xs:List V},H x=aa (.lst xs)->x≠A.sh:=λh1=>eT h1 c.hsh (by intro z;cases z);obtain⟨_,_,_,_,_,_,m1,m2,m3,m4,m5,m6,ksn,d1,d2,d3,d4,d5,d6,d7,d8,d9,ksd⟩:=c.nes;have kp:∀x o,x≠A.sh->H x=aa o->(upd H A.sh (.dT (putK sh [.inl (i:Int),.inl k] (.int j)))) x=aa o:=λx o hx h=>by rw[aH hx];exact h
 have sem:∀(i':Nat)(k':Int)(v:V),iQ (putK sh ([.inl (i:Int),.inl k]:List Key) (.int j)) [.inl (i':Int),.inl k']=aa v->∃(j:Nat)(p:RP),kn[i']?=aa p/\kn[j]?=aa (yd p (k'-1).toNat)/\v=.int j:=λi' k' v e=>by
  rw[GB]at e;split at e
  ·rename_i z
   injection z with z1 z2;injection z2 with z2 _;have q1:(i':Int)=i:=iF.inj z1;have q2:k'=k:=iF.inj z2;have q3:i'=i:=(by lia);subst q2 q3;cases e;exact⟨j,p,hi,hj,rfl⟩
  ·exact c.s1 i' k' v e
 refine⟨kp _ _ (eT c.ob c.hsh (by intro z;cases z)) c.ob,?_,c.nd,kp _ _ (nl c.hkn) c.hkn,c.Lj,λi b p e1 e2=>kp _ _ (nl (c.hks i b p e1 e2)) (c.hks i b p e1 e2),kp _ _ m1 c.GA,kp _ _ (nl c.Gf) c.Gf,kp _ _ (nl c.hla) c.hla,aU,kp _ _ (Ne.symm m4) c.hlo,kp _ _ (Ne.symm m5) c.hke,kp _ _ (nl c.hli) c.hli,c.rw,c.n1,c.n2,sem,c.l1,λi j v e=>?_,hz,c.li⟩
 ·obtain⟨o,h⟩:=c.dx
  exact⟨o,kp _ _ d5 h⟩
 ·obtain⟨t,i',j',p,q,h1,h2,h3,h4,h5⟩:=c.k1 i j v e
  exact⟨t,i',j',p,q,h1,h2,h3,kp _ _ (eT h4 c.hsh (by intro z;cases z)) h4,h5⟩
def pH.ae3 {C:ae}{A:Ad}{ex:List (Str×V)}{ln:Ap}{B:Nat}{nu sh lo ke:List (List Key×V)}(c:pH C H a A ex n kn ln B nu sh lo ke){i j:Nat}{k:Int}{p:RP}(hi:kn[i]?=aa p)(hj:kn[j]?=aa (wB p (k-1).toNat)):
  pH C (upd H A.lo (.dT (putK lo [.inl (i:Int),.inl k] (.int j)))) a A ex n kn ln (B+1) nu sh (putK lo [.inl (i:Int),.inl k] (.int j)) ke:=by
 have hz:kn.length<=B+1/\nu.length<=B+1/\sh.length<=B+1/\(putK lo ([.inl (i:Int),.inl k]:List Key) (.int j)).length<=B+1/\ke.length<=B+1:=by have h0:=c.z;have h1:=mw lo ([.inl (i:Int),.inl k]:List Key) (.int j);lia
 have GB:∀x,iQ (putK lo ([.inl (i:Int),.inl k]:List Key) (.int j)) x=if x=[.inl (i:Int),.inl k]then aa (.int j)else iQ lo x:=λx=>rR lo _ x _;have nl:∀{x:ae}{xs:List V},H x=aa (.lst xs)->x≠A.lo:=λh1=>eT h1 c.hlo (by intro z;cases z);obtain⟨_,_,_,_,_,_,m1,m2,m3,m4,m5,m6,ksn,d1,d2,d3,d4,d5,d6,d7,d8,d9,ksd⟩:=c.nes;have kp:∀x o,x≠A.lo->H x=aa o->(upd H A.lo (.dT (putK lo [.inl (i:Int),.inl k] (.int j)))) x=aa o:=λx o hx h=>by rw[aH hx];exact h
 have sem:∀(i':Nat)(k':Int)(v:V),iQ (putK lo ([.inl (i:Int),.inl k]:List Key) (.int j)) [.inl (i':Int),.inl k']=aa v->∃(j:Nat)(p:RP),kn[i']?=aa p/\kn[j]?=aa (wB p (k'-1).toNat)/\v=.int j:=λi' k' v e=>by
  rw[GB]at e;split at e
  ·rename_i z
   injection z with z1 z2;injection z2 with z2 _;have q1:(i':Int)=i:=iF.inj z1;have q2:k'=k:=iF.inj z2;have q3:i'=i:=(by lia);subst q2 q3;cases e;exact⟨j,p,hi,hj,rfl⟩
  ·exact c.l1 i' k' v e
 refine⟨kp _ _ (eT c.ob c.hlo (by intro z;cases z)) c.ob,?_,c.nd,kp _ _ (nl c.hkn) c.hkn,c.Lj,λi b p e1 e2=>kp _ _ (nl (c.hks i b p e1 e2)) (c.hks i b p e1 e2),kp _ _ m2 c.GA,kp _ _ (nl c.Gf) c.Gf,kp _ _ (nl c.hla) c.hla,kp _ _ m4 c.hsh,aU,kp _ _ (Ne.symm m6) c.hke,kp _ _ (nl c.hli) c.hli,c.rw,c.n1,c.n2,c.s1,sem,λi j v e=>?_,hz,c.li⟩
 ·obtain⟨o,h⟩:=c.dx
  exact⟨o,kp _ _ d6 h⟩
 ·obtain⟨t,i',j',p,q,h1,h2,h3,h4,h5⟩:=c.k1 i j v e
  exact⟨t,i',j',p,q,h1,h2,h3,kp _ _ (eT h4 c.hlo (by intro z;cases z)) h4,h5⟩
def pH.ae4 {C:ae}{A:Ad}{ex:List (Str×V)}{ln:Ap}{B:Nat}{nu sh lo ke:List (List Key×V)}(c:pH C H a A ex n kn ln B nu sh lo ke){i j i' j':Nat}{p q:RP}{t:ae}(hi:kn[i]?=aa p)(hj:kn[j]?=aa q)(ht:H t=aa (.tup [.int i',.int j']))(ER:kn[i']?=aa (gO 50 p q).1)(M4:kn[j']?=aa (gO 50 p q).2):
  pH C (upd H A.ke (.dT (putK ke [.inl (i:Int),.inl (j:Int)] (.ref t)))) a A ex n kn ln (B+1) nu sh lo (putK ke [.inl (i:Int),.inl (j:Int)] (.ref t)):=by
 have hz:kn.length<=B+1/\nu.length<=B+1/\sh.length<=B+1/\lo.length<=B+1/\(putK ke ([.inl (i:Int),.inl (j:Int)]:List Key) (.ref t)).length<=B+1:=by have h0:=c.z;have h1:=mw ke ([.inl (i:Int),.inl (j:Int)]:List Key) (.ref t);lia
 have GB:∀x,iQ (putK ke ([.inl (i:Int),.inl (j:Int)]:List Key) (.ref t)) x=if x=[.inl (i:Int),.inl (j:Int)]then aa (.ref t)else iQ ke x:=λx=>rR ke _ x _;have nl:∀{x:ae}{xs:List V},H x=aa (.lst xs)->x≠A.ke:=λh1=>eT h1 c.hke (by intro z;cases z);have nt:∀{x:ae}{xs:List V},H x=aa (.tup xs)->x≠A.ke:=λh1=>eT h1 c.hke (by intro z;cases z);obtain⟨_,_,_,_,_,_,m1,m2,m3,m4,m5,m6,ksn,d1,d2,d3,d4,d5,d6,d7,d8,d9,ksd⟩:=c.nes;have kp:∀x o,x≠A.ke->H x=aa o->(upd H A.ke (.dT (putK ke [.inl (i:Int),.inl (j:Int)] (.ref t)))) x=aa o:=λx o hx h=>by rw[aH hx];exact h
 refine⟨kp _ _ (eT c.ob c.hke (by intro z;cases z)) c.ob,?_,c.nd,kp _ _ (nl c.hkn) c.hkn,c.Lj,λi b p e1 e2=>kp _ _ (nl (c.hks i b p e1 e2)) (c.hks i b p e1 e2),kp _ _ m3 c.GA,kp _ _ (nl c.Gf) c.Gf,kp _ _ (nl c.hla) c.hla,kp _ _ m5 c.hsh,kp _ _ m6 c.hlo,aU,kp _ _ (nl c.hli) c.hli,c.rw,c.n1,c.n2,c.s1,c.l1,λx y v e=>?_,hz,c.li⟩
 ·obtain⟨o,h⟩:=c.dx
  exact⟨o,kp _ _ d7 h⟩
 ·rw[GB]at e
  split at e
  ·rename_i z
   injection z with z1 z2;injection z2 with z2 _;have q1:(x:Int)=i:=iF.inj z1;have q2:(y:Int)=j:=iF.inj z2;have q3:x=i:=(by lia);have q4:y=j:=(by lia);subst q3 q4;cases e;exact⟨t,i',j',p,q,hi,hj,rfl,kp _ _ (nt ht) ht,ER,M4⟩
  ·obtain⟨t,i',j',p,q,h1,h2,h3,h4,h5⟩:=c.k1 x y v e
   show 's'
section
variable{A:Ad}{ex:List (Str×V)}
theorem Hi:(Du A++ex).lookup ("known":Str)=aa (.ref A.kn):=rfl
theorem PZ:(Du A++ex).lookup ("numbers":Str)=aa (.ref A.nu):=rfl
theorem VF:(Du A++ex).lookup ("firsts":Str)=aa (.ref A.fi):=rfl
theorem VG:(Du A++ex).lookup ("lasts":Str)=aa (.ref A.la):=rfl
theorem P1:(Du A++ex).lookup ("shorter":Str)=aa (.ref A.sh):=rfl
theorem P4:(Du A++ex).lookup ("longer":Str)=aa (.ref A.lo):=rfl
theorem VH:(Du A++ex).lookup ("kept":Str)=aa (.ref A.ke):=rfl
theorem Ll:(Du A++ex).lookup ("line":Str)=aa (.ref A.li):=rfl
end
def Dc(z w:Int):List (Str×V):=[("none",.int z),("whole",.int w)]
theorem abR{A:Ad}{z w:Int}:(Du A++Dc z w).lookup ("none":Str)=aa (.int z):=rfl
theorem ahN{A:Ad}{z w:Int}:(Du A++Dc z w).lookup ("whole":Str)=aa (.int w):=rfl
abbrev six:Ap:=[1,2,3,4,5,6]
def ae5(l:List (Int×Bool)):Ap:=(l.filter (·.2)).map (·.1)
def sel(b1 b2 b3 b4 b5 b6:Bool):Ap:=ae5 [(1,b1),(2,b2),(3,b3),(4,b4),(5,b5),(6,b6)]
theorem Fi(f:Int->Bool):∀l:Ap,l.filter f=ae5 (l.map λk=>(k,f k))
 |[]=>rfl
 |k::l=>by
  have ih:=Fi f l;unfold ae5 at ih⊢;rw[bq];cases h:f k with
  |true=>rw[aaj h,aaj (by rfl),bq,ih]
  |false=>rw[aak (by rw[h];decide),aak (by simp),ih]
def Bf(f:Int->Bool):six.filter f=sel (f 1) (f 2) (f 3) (f 4) (f 5) (f 6):=Fi f six
def aal(f:Int->Bool):∀m:Nat,m<=7->((bG (m-1)).map λi=>1+((i:Nat):Int)).filter f=six.filter λk=>decide (k.toNat<m)&&f k
 |0,_=>rfl
 |1,_=>rfl
 |2,_=>rfl
 |3,_=>rfl
 |4,_=>rfl
 |5,_=>rfl
 |6,_=>rfl
 |7,_=>rfl
 |m+8,h=>by lia
def dsB(l:Ap)(k:Int):Bool:=decide (k.toNat<l.length)&&decide (ai l k.toNat<ai l (k-1).toNat)
def Em(h:l.length<=7):Ak l=six.filter (dsB l):=aal _ l.length h
def VI:∀b1 b2 b3 b4 b5 b6 c1 c2 c3 c4 c5 c6:Bool,Oh (Nb (sel b1 b2 b3 b4 b5 b6)) (Oi (Nb (sel c1 c2 c3 c4 c5 c6)))=Nb (sel (b1&& !c1) (b2&& !c2) (b3&& !c3) (b4&& !c4) (b5&& !c5) (b6&& !c6)):=by decide +kernel
def Ln:∀b1 b2 b3 b4 b5 b6:Bool,decide (0<Nb (sel b1 b2 b3 b4 b5 b6))=(sel b1 b2 b3 b4 b5 b6).getLast?.isSome/\∀k∈(sel b1 b2 b3 b4 b5 b6).getLast?,((PQ (Nb (sel b1 b2 b3 b4 b5 b6)):Nat):Int)=k:=by decide +kernel
def Jb{p q:RP}(hp:p.1.length<=7)(hq:q.2.length<=7):uh p q=six.filter λk=>dsB q.2 k&& !dsB p.1 k:=by
 unfold uh;rw[Em hq,Em hp,List.filter_filter];refine List.filter_congr λk hk=>?_;have:decide (k∈six.filter (dsB p.1))=dsB p.1 k:=by rw[yE,decide_eq_true_iff,Ar];exact⟨λh=>h.2,λh=>⟨hk,h⟩⟩
 rw[this,Bool.and_comm]
def P5{p q:RP}(hp:p.1.length<=7)(hq:q.2.length<=7):Oh (Dv q.2) (Oi (Dv p.1))=Nb (uh p q):=by unfold Dv;rw[Em hq,Em hp,Jb hp hq,Bf,Bf,Bf];exact VI ..
def VJ{p q:RP}(hp:p.1.length<=7)(hq:q.2.length<=7):decide (0<Nb (uh p q))=(uh p q).getLast?.isSome:=by rw[Jb hp hq,Bf];exact(Ln ..).1
def VL{p q:RP}(hp:p.1.length<=7)(hq:q.2.length<=7){k:Int}(h:(uh p q).getLast?=aa k):((PQ (Nb (uh p q)):Nat):Int)=k:=by rw[Jb hp hq,Bf]at h⊢;exact(Ln ..).2 k h
theorem Hj:∀(l pre:Ap),JX pre l<=l.length*(pre.length+l.length)
 |[],pre=>by simp[JX]
 |x::l,pre=>by have h1:Gz x pre<=pre.length:=aaa _ _;have h2:=Hj l (pre++[x]);rw[br,tR]at h2;show Gz x pre+JX (pre++[x]) l<=(l.length+1)*(pre.length+(l.length+1));rw[aam,show pre.length+(l.length+1)=pre.length+1+l.length by lia];lia
def CA{p:RP}(hn:n<=7)(h:Iv n p.1 p.2):lN p.1<=49:=by have h1:=Hj p.1 [];rw[h.lr,cD,lH]at h1;have h2:n*n<=7*7:=P6 hn hn;unfold lN;lia
def wC{p q:RP}(hp:Iv n p.1 p.2)(hq:Iv n q.1 q.2){k:Int}(h:k∈uh p q):∃j:Nat,k=(j:Int)+1/\j+1<n/\ai p.1 j<ai p.1 (j+1)/\ai q.2 (j+1)<ai q.2 j:=by
 unfold uh at h;obtain⟨h1,h2⟩:=Ar.mp h;obtain⟨j,e,h3,h4⟩:=ug.mp h1;rw[hq.ls]at h3;have h5:k∉Ak p.1:=by simpa using h2
 have h6:¬ai p.1 (j+1)<ai p.1 j:=λz=>h5 (ug.mpr ⟨j,e,by rw[hp.lr];exact h3,z⟩);have h7:ai p.1 j≠ai p.1 (j+1):=λz=>by have:=hp.symm.To (v:=j) (w:=j+1) (by lia) h3 z;lia
 exact⟨j,e,h3,by lia,h4⟩
def dX{p:RP}(h:Iv n p.1 p.2)(hj:j+1<n):Iv n (wB p j).1 (wB p j).2:=(h.symm.step hj).symm
def ie{p:RP}(h:Iv n p.1 p.2)(hj:j+1<n):Iv n (yd p j).1 (yd p j).2:=h.step hj
def vj{p q:RP}{k:Int}(f:Nat)(h:(uh p q).getLast?=aa k):gO (f+1) p q=gO f (wB p (k-1).toNat) (yd q (k-1).toNat):=by
 show(match (uh p q).getLast? with
  |none=>(p,q)
  |some k=>gO f (wB p (k-1).toNat) (yd q (k-1).toNat))=_
 rw[h]
def vk{p q:RP}(f:Nat)(h:(uh p q).getLast?=none):gO f p q=(p,q):=by
 cases f with
 |zero=>rfl
 |succ f=>
  show(match (uh p q).getLast? with
   |none=>(p,q)
   |some k=>gO f (wB p (k-1).toNat) (yd q (k-1).toNat))=_
  rw[h]
def VM{p:RP}(h:Iv n p.1 p.2)(hj:j+1<n)(hl:ai p.1 j<ai p.1 (j+1)):lN p.1<lN (wB p j).1:=by have e:=El p.1 j [] (by rw[h.lr];exact hj);show JX [] p.1<JX [] (fy p.1 j);rw[if_pos hl,if_neg (by lia)]at e;lia
def nI(ls:List Nat):Ap:=ls.map λ(m:Nat)=>(m:Int)
def g4(kn:As)(ls:List Nat)(R:As):Prop:=ls.map (λm=>kn[m]?)=R.map aa
def g4.len {ls:List Nat}{R:As}(h:g4 kn ls R):ls.length=R.length:=by have:=congrArg length h;simpa using this
theorem g4.at {ls:List Nat}{R:As}(h:g4 kn ls R){r:RP}(e:R[i]?=aa r):∃m,ls[i]?=aa m/\kn[m]?=aa r:=by
 have h1:(ls.map λm=>kn[m]?)[i]?=(R.map aa)[i]?:=by rw[show ls.map (λm=>kn[m]?)=R.map aa from h]
 rw[bK,bK,e]at h1;cases h2:ls[i]? with
 |none=>rw[h2]at h1;cases h1
 |some m=>rw[h2]at h1;exact⟨m,rfl,ck.inj h1⟩
def g4.mem {ls:List Nat}{R:As}(h:g4 kn ls R){m:Nat}(hm:m∈ls):m<kn.length:=by
 have:kn[m]?∈R.map aa:=by rw[<-show ls.map (λm=>kn[m]?)=R.map aa from h];exact dQ.mpr ⟨m,hm,rfl⟩
 obtain⟨r,_,e⟩:=dQ.mp this;exact(bH.mp e.symm).1
def g4.li {ls:List Nat}{R:As}(h:g4 kn ls R):∀m∈nI ls,0<=m/\m<kn.length:=λm hm=>by obtain⟨x,hx,rfl⟩:=dQ.mp hm;have:=h.mem hx;lia
def g4.pre {kn mo:As}{ls:List Nat}{R:As}(h:g4 kn ls R):g4 (kn++mo) ls R:=by unfold g4;rw[<-show ls.map (λm=>kn[m]?)=R.map aa from h];refine y6 λm hm=>?_;rw[fE (h.mem hm)]
def g4.app {ls:List Nat}{R:As}(h:g4 kn ls R){m:Nat}{r:RP}(e:kn[m]?=aa r):g4 kn (ls++[m]) (R++[r]):=by unfold g4;rw[cF,cF,show ls.map (λm=>kn[m]?)=R.map aa from h];simp[e]
theorem g4.set {ls:List Nat}{R:As}(h:g4 kn ls R)(i:Nat){m:Nat}{r:RP}(e:kn[m]?=aa r):g4 kn (ls.set i m) (R.set i r):=by unfold g4;rw[A5,A5,show ls.map (λm=>kn[m]?)=R.map aa from h,e]
def g4.drop {ls:List Nat}{R:As}(h:g4 kn ls R):g4 kn ls.dropLast R.dropLast:=by unfold g4;rw[En,En,show ls.map (λm=>kn[m]?)=R.map aa from h]
def uG(ls:List Nat):(nI ls).length=ls.length:=aN _
def Dw:As->RP->As
 |[],c=>[c]
 |p::ps,c=>if(gO 50 p c).1=p then c::p::ps else(gO 50 p c).2::Dw ps (gO 50 p c).1
def Bg(R:As)(p:RP):As:=(Dw R.reverse p).reverse
def j0(n:Nat)(R:As)(p:RP):As:=if(Bg R p).getLast?=aa (upTo n,upTo n)then(Bg R p).dropLast else Bg R p
theorem P7:∀(R:As)(p:RP),(Dw R p).length=R.length+1
 |[],p=>rfl
 |r::R,p=>by
  unfold Dw;split
  ·rfl
  ·rw[aR,P7 R,aR]
def Eo(R:As)(p:RP):(Bg R p).length=R.length+1:=by unfold Bg;rw[bR,P7,bR]
def pH.Lo {C:ae}{A:Ad}{ex:List (Str×V)}{ln:Ap}{B:Nat}{nu sh lo ke:List (List Key×V)}(c:pH C H a A ex n kn ln B nu sh lo ke){ln':Ap}(h:∀m∈ln',0<=m/\m<kn.length):
  pH C (upd H A.li (.lst (ln'.map V.int))) a A ex n kn ln' B nu sh lo ke:=by
 have nd:∀{x:ae}{xs:List (List Key×V)},H x=aa (.dT xs)->x≠A.li:=λh1=>eT h1 c.hli (by intro z;cases z);have nt:∀{x:ae}{xs:List V},H x=aa (.tup xs)->x≠A.li:=λh1=>eT h1 c.hli (by intro z;cases z);obtain⟨n1,n2,n3,n4,n5,n6,_,_,_,_,_,_,ksn,d1,d2,d3,d4,d5,d6,d7,d8,d9,ksd⟩:=c.nes;have kp:∀x o,x≠A.li->H x=aa o->(upd H A.li (.lst (ln'.map V.int))) x=aa o:=λx o hx h=>by rw[aH hx];exact h
 refine⟨kp _ _ (eT c.ob c.hli (by intro z;cases z)) c.ob,?_,c.nd,kp _ _ n3 c.hkn,c.Lj,λi b p e1 e2=>kp _ _ (ksn b (dU e1)).2.2.2 (c.hks i b p e1 e2),kp _ _ (nd c.GA) c.GA,kp _ _ n5 c.Gf,kp _ _ n6 c.hla,kp _ _ (nd c.hsh) c.hsh,kp _ _ (nd c.hlo) c.hlo,kp _ _ (nd c.hke) c.hke,aU,c.rw,c.n1,c.n2,c.s1,c.l1,λi j v e=>?_,c.z,h⟩
 ·obtain⟨o,h⟩:=c.dx
  exact⟨o,kp _ _ d8 h⟩
 ·obtain⟨t,i',j',p,q,h1,h2,h3,h4,h5⟩:=c.k1 i j v e
  show 's'
theorem pH.inj {C:ae}{A:Ad}{ex:List (Str×V)}{ln:Ap}{B:Nat}{nu sh lo ke:List (List Key×V)}(c:pH C H a A ex n kn ln B nu sh lo ke){i j:Nat}{p q:RP}(hi:kn[i]?=aa p)(hj:kn[j]?=aa q):((i:Int)=j↔p=q):=by
 constructor
 ·intro e
  have:i=j:=by lia
  subst this;rw[hi]at hj;exact ck.inj hj
 ·rintro rfl
  have h1:=c.n1 i p hi;rw[c.n1 j p hj]at h1;injection h1 with h1;injection h1 with h1;exact h1.symm
theorem pH.Fj :∀(f:Nat){p q:RP},Iv n p.1 p.2->Iv n q.1 q.2->Iv n (gO f p q).1.1 (gO f p q).1.2/\Iv n (gO f p q).2.1 (gO f p q).2.2
 |0,p,q,h1,h2=>⟨h1,h2⟩
 |f+1,p,q,h1,h2=>by
  cases hl:(uh p q).getLast? with
  |none=>rw[vk _ hl];exact⟨h1,h2⟩
  |some k=>
   rw[vj f hl];obtain⟨j,rfl,hj,_⟩:=wC h1 h2 (Bh hl);rw[show((j:Int)+1-1).toNat=j by lia];exact pH.Fj f (dX h1 hj) (ie h2 hj)
def EJ{α:Type}{l:List α}{x:α}(h:l.getLast?=aa x):mO l (-1)=aa x:=by obtain⟨ys,rfl⟩:=P8.mp h;unfold L2.mO L2.Ao;rw[if_neg (by decide),br,tR,if_pos (by lia)];simp;rw[show(-1+((ys.length:Int)+1)).toNat=ys.length by lia];simp
def P9{α:Type}{l:List α}{x:α}(h:l.getLast?=aa x):l[l.length-1]?=aa x:=by obtain⟨ys,rfl⟩:=P8.mp h;simp
def g4.last {ls:List Nat}{R:As}(h:g4 kn ls R)(hp:0<R.length):∃m r,ls.getLast?=aa m/\R.getLast?=aa r/\kn[m]?=aa r:=by
 have e:R[R.length-1]?=aa (R[R.length-1]'(by lia)):=aP (by lia);obtain⟨m,h1,h2⟩:=h.at e;refine⟨m,_,?_,?_,h2⟩
 ·rw[Qa,h.len];exact h1
 ·rw[Qa];exact e
def ae6(ls:List Nat)(m:Nat):(nI (ls++[m])).map V.int=(nI ls).map V.int++[V.int m]:=by unfold nI;simp
def CB{ls:List Nat}{i m:Nat}(h:ls[i]?=aa m):((nI ls).map V.int)[i]?=aa (V.int m):=by unfold nI;rw[bK,bK,h];rfl
def VN(ls:List Nat)(i m:Nat):((nI ls).map V.int).set i (V.int m)=(nI (ls.set i m)).map V.int:=by unfold nI;rw[A5,A5]
def Qc(ls:List Nat):((nI ls).map V.int).dropLast=(nI ls.dropLast).map V.int:=by unfold nI;rw[En,En]
def Ep{ls:List Nat}{m:Nat}(h:ls.getLast?=aa m):((nI ls).map V.int).getLast?=aa (V.int m):=by unfold nI;rw[aan,aan,h];rfl
def VO{R:As}{t:Nat}{r c:RP}(h:R[t]?=aa r):Dw (R.take (t+1)).reverse c=if(gO 50 r c).1=r then c::(R.take (t+1)).reverse else(gO 50 r c).2::Dw (R.take t).reverse (gO 50 r c).1:=by
 have e:R.take (t+1)=R.take t++[r]:=by rw[Ei,h];rfl
 rw[e,Er];rfl
def pH.abS {C:ae}{A:Ad}{ex:List (Str×V)}{ln:Ap}{B:Nat}{nu sh lo ke:List (List Key×V)}(c:pH C H a A ex n kn ln B nu sh lo ke)(ex':List (Str×V)):
  pH C (upd H a (.ins C A.dx (Du A++ex'))) a A ex' n kn ln B nu sh lo ke:=by
 have nl:∀{x:ae}{xs:List V},H x=aa (.lst xs)->x≠a:=λh1=>eT h1 c.ob (by intro z;cases z);have nd:∀{x:ae}{xs:List (List Key×V)},H x=aa (.dT xs)->x≠a:=λh1=>eT h1 c.ob (by intro z;cases z);have nt:∀{x:ae}{xs:List V},H x=aa (.tup xs)->x≠a:=λh1=>eT h1 c.ob (by intro z;cases z);obtain⟨_,_,_,_,_,_,_,_,_,_,_,_,_,d1,d2,d3,d4,d5,d6,d7,d8,d9,_⟩:=c.nes;have kp:∀x o,x≠a->H x=aa o->(upd H a (.ins C A.dx (Du A++ex'))) x=aa o:=λx o hx h=>by rw[aH hx];exact h
 refine⟨aU,?_,c.nd,kp _ _ (nl c.hkn) c.hkn,c.Lj,λi b p e1 e2=>kp _ _ (nl (c.hks i b p e1 e2)) (c.hks i b p e1 e2),kp _ _ (nd c.GA) c.GA,kp _ _ (nl c.Gf) c.Gf,kp _ _ (nl c.hla) c.hla,kp _ _ (nd c.hsh) c.hsh,kp _ _ (nd c.hlo) c.hlo,kp _ _ (nd c.hke) c.hke,kp _ _ (nl c.hli) c.hli,c.rw,c.n1,c.n2,c.s1,c.l1,λi j v e=>?_,c.z,c.li⟩
 ·obtain⟨o,h⟩:=c.dx
  exact⟨o,kp _ _ (Ne.symm d9) h⟩
 ·obtain⟨t,i',j',p,q,h1,h2,h3,h4,h5⟩:=c.k1 i j v e
  show 's'
structure aly(H:Hp)(a C dx:ae)(fs:List (Str×V))(l:ae)(o:HO)(f:Str):Prop where
 f0:l≠a
 f1:(upd H l o) a=aa (.ins C dx fs)
 f2:(upd (upd H l o) a (.ins C dx (rQ f (.ref l) fs))) a=aa (.ins C dx (rQ f (.ref l) fs))
 f3:(upd (upd H l o) a (.ins C dx (rQ f (.ref l) fs))) l=aa o
 f4:(∀x u,x≠a->H x=aa u->(upd (upd H l o) a (.ins C dx (rQ f (.ref l) fs))) x=aa u)
 f5:∀x,(upd (upd H l o) a (.ins C dx (rQ f (.ref l) fs))) x=none->H x=none
def qE{a C dx:ae}{fs:List (Str×V)}(hob:H a=aa (.ins C dx fs)){l:ae}(hl:H l=none)(o:HO)(f:Str):
  aly H a C dx fs l o f:=by
 have hla:l≠a:=λz=>by rw[z,hob]at hl;cases hl
 refine⟨hla,by rw[aH (Ne.symm hla)];exact hob,aU,by rw[aH hla];exact aU,λx u hx h=>?_,λx hx=>?_⟩
 ·rw[aH hx,aH (λz=>by rw[z,hl]at h;cases h)]
  exact h
 ·by_cases z:x=a
  ·rw[z,aU]at hx;cases hx
  ·rw[aH z]at hx
   by_cases z2:x=l
   ·rw[z2];exact hl
   ·rw[aH z2]at hx;exact hx
def iC(n:Nat):RP:=((upTo n).reverse,(upTo n).reverse)
def iZ(n:Nat)(R:As):Nat:=(R.takeWhile λr=>decide (r=iC n)).length
def Dg(n:Nat)(R:As):D:=.tup [.int (iZ n R),.lst ((R.drop (iZ n R)).map λp=>D.lst (bp p.1))]
def Lp{R:As}(h:∀j<i,R[j]?=aa (iC n))(hs:R[i]?≠aa (iC n)):iZ n R=i:=by
 induction R generalizing i with
 |nil=>
  cases i with
  |zero=>rfl
  |succ i=>have:=h 0 (by lia);simp at this
 |cons r R ih=>
  unfold iZ;cases i with
  |zero=>
   have hr:¬r=iC n:=λe=>hs (by rw[e];rfl);rw[Jc (by simp[hr])];rfl
  |succ i=>
   have hr:r=iC n:=(by have:=h 0 (by lia);simpa using this);rw[Jd (by simp[hr]),aR];have:=ih (i:=i) (λj hj=>by have:=h (j+1) (by lia);simpa using this) (by simpa using hs);unfold iZ at this;rw[this]
def VP(n:Nat)(R:As)(p:RP):(j0 n R p).length<=R.length+1:=by
 unfold j0;split
 ·rw[OV,Eo];lia
 ·rw[Eo];lia
def xN(r:Ap):Ap:=(upTo r.length).map λv=>((r.idxOf v:Nat):Int)
def kZ(h:bO n r):Iv n r (xN r):=by
 obtain⟨s,iv⟩:=aeX h;have e:xN r=s:=by
  refine cH (by unfold xN;rw[aN,aI,iv.lr,iv.ls]) λj hj=>?_;have M4:j<n:=by unfold xN at hj;rwa [aN,aI,iv.lr]at hj
  have hg:(xN r)[j]?=aa ((r.idxOf (j:Int):Nat):Int):=by unfold xN;rw[bK,yb _ j (by rw[iv.lr];exact M4)];rfl
  rw[<-(iv.idx M4).2];unfold ai;rw[hg];rfl
 rw[e];exact iv
def lq(n:Nat)(rs:List Ap):As:=rs.foldl (λR r=>j0 n R (r,xN r)) []
def Sy{rs:List Ap}(h:rs[i]?=aa r):lq n (rs.take (i+1))=j0 n (lq n (rs.take i)) (r,xN r):=by unfold lq;rw[Ei,h,Bj];rfl
theorem Bk(n:Nat):∀(rs:List Ap)(R:As),(rs.foldl (λR r=>j0 n R (r,xN r)) R).length<=R.length+rs.length
 |[],R=>aY _
 |r::rs,R=>by have h:=Bk n rs (j0 n R (r,xN r));have h2:=VP n R (r,xN r);rw[D0,aR];lia
def Adv(n:Nat)(p y:RP):Prop:=∀i j,i<j->j<n->ai y.2 j<ai y.2 i->ai p.1 i<ai p.1 j
def Prd(n:Nat)(w q x:RP):Prop:=∀t,t<n->ai w.2 t=ai x.2 (ai q.2 t).toNat
structure Dy(n:Nat)(p0 q0 p q y:RP):Prop where
 iy:Iv n y.1 y.2
 pp:Prd n p p0 y
 pq:Prd n q0 y q
 ap:Adv n p0 y
 aq:Adv n y q
 pl:∀t,t<n->ai p.1 t=ai p0.1 (ai y.1 t).toNat
def sw(a t:Nat):Nat:=if t=a then a+1 else if t=a+1 then a else t
def Fl{a t n:Nat}(ha:a+1<n)(ht:t<n):sw a t<n:=by
 unfold sw
 repeat' split
 all_goals lia
def VQ(a:Nat){x:Int}(h:0<=x):sw a (sg a x).toNat=x.toNat:=by
 unfold sg sw
 repeat' split
 all_goals lia
def iN{a:Nat}(h:a+1<l.length)(t:Nat):ai (fy l a) t=ai l (sw a t):=by
 rw[dC _ _ h];unfold sw
 repeat' split
 all_goals rfl
def Dy.start {p q:RP}(ip:Iv n p.1 p.2)(hi:Iv n (upTo n) (upTo n)):Dy n p q p q (upTo n,upTo n):=by
 have c:∀t,t<n->(ai (upTo n) t).toNat=t:=λt ht=>by rw[aM ht];exact bu t
 refine⟨hi,λt ht=>?_,λt ht=>?_,λi j hij hj h=>?_,λi j hij hj h=>?_,λt ht=>?_⟩
 ·obtain⟨h1,h2,_⟩:=ip.sr t ht
  show _=ai (upTo n) (ai p.2 t).toNat;rw[aM (by lia)];lia
 ·show _=ai q.2 (ai (upTo n) t).toNat
  rw[c t ht]
 ·dsimp only at h
  rw[aM hj,aM (by lia)]at h;lia
 ·dsimp only
  rw[aM hj,aM (by lia)];lia
 ·show _=ai p.1 (ai (upTo n) t).toNat
  rw[c t ht]
def Dy.step {p0 q0 p q y:RP}(o:Dy n p0 q0 p q y)(JY:Iv n p0.1 p0.2)(ip:Iv n p.1 p.2)(iq:Iv n q.1 q.2)(hj:j+1<n)(hup:ai p.1 j<ai p.1 (j+1))(hdn:ai q.2 (j+1)<ai q.2 j):Dy n p0 q0 (wB p j) (yd q j) (wB y j):=by
 have iy:=o.iy;refine⟨dX iy hj,λt ht=>?_,λt ht=>?_,λi i' hii ER h=>?_,λi i' hii ER h=>?_,λt ht=>?_⟩
 ·obtain⟨h1,h2,_⟩:=JY.sr t ht
  show ai (vh p.2 j) t=ai (vh y.2 j) (ai p0.2 t).toNat;rw[cM (by rw[ip.ls];exact ht),cM (by rw[iy.ls];lia),o.pp t ht]
 ·obtain⟨h1,h2,_⟩:=iy.sr t ht
  show ai q0.2 t=ai (fy q.2 j) (ai (vh y.2 j) t).toNat;rw[cM (by rw[iy.ls];exact ht),iN (by rw[iq.ls];exact hj),VQ j h1,o.pq t ht]
 ·have h':ai (vh y.2 j) i'<ai (vh y.2 j) i:=h
  rw[cM (by rw[iy.ls];exact ER),cM (by rw[iy.ls];lia)]at h'
  by_cases hb:ai y.2 i'<ai y.2 i
  ·exact o.ap i i' hii ER hb
  ·obtain⟨a1,a2,a3⟩:=iy.sr i (by lia)
   obtain⟨b1,b2,b3⟩:=iy.sr i' ER;have hne:ai y.2 i≠ai y.2 i':=λe=>by have:=iy.To (v:=i) (w:=i') (by lia) ER e;lia
   have hab:ai y.2 i=j/\ai y.2 i'=j+1:=by
    unfold sg at h'
    repeat' split at h'
    all_goals lia
   have e1:=o.pl j (by lia);have e2:=o.pl (j+1) hj;rw[hab.1,bu]at a3;rw[hab.2,show((j:Int)+1).toNat=j+1 by lia]at b3;rw[a3,bu]at e1;rw[b3,bu]at e2;lia
 ·have h':ai (fy q.2 j) i'<ai (fy q.2 j) i:=h
  show ai (fy y.1 j) i<ai (fy y.1 j) i';rw[iN (by rw[iq.ls];exact hj),iN (by rw[iq.ls];exact hj)]at h';rw[iN (by rw[iy.lr];exact hj),iN (by rw[iy.lr];exact hj)]
  by_cases hc:i=j/\i'=j+1
  ·obtain⟨rfl,rfl⟩:=hc
   unfold sw at h';rw[if_pos rfl,if_neg (by lia),if_pos rfl]at h';lia
  ·refine o.aq (sw j i) (sw j i') ?_ (Fl hj ER) h'
   unfold sw
   repeat' split
   all_goals lia
 ·obtain⟨h1,h2,_⟩:=iy.rs (sw j t) (Fl hj ht)
  show ai (fy p.1 j) t=ai p0.1 (ai (fy y.1 j) t).toNat;rw[iN (by rw[ip.lr];exact hj),iN (by rw[iy.lr];exact hj),o.pl _ (Fl hj ht)]
theorem Qd{p0 q0:RP}(JY:Iv n p0.1 p0.2):∀(f:Nat)(p q y:RP),Iv n p.1 p.2->Iv n q.1 q.2->Dy n p0 q0 p q y->∃y',Dy n p0 q0 (gO f p q).1 (gO f p q).2 y'
 |0,p,q,y,_,_,o=>⟨y,o⟩
 |f+1,p,q,y,ip,iq,o=>by
  cases h:(uh p q).getLast? with
  |none=>rw[vk _ h];exact⟨y,o⟩
  |some k=>
   obtain⟨j,rfl,hj,h1,h2⟩:=wC ip iq (Bh h);rw[vj f h,show((j:Int)+1-1).toNat=j by lia];exact Qd JY f _ _ _ (dX ip hj) (ie iq hj) (o.step JY ip iq hj h1 h2)
theorem Es(hn:n<=7):∀(f:Nat)(p q:RP),Iv n p.1 p.2->Iv n q.1 q.2->49<f+lN p.1->uh (gO f p q).1 (gO f p q).2=[]
 |0,p,q,ip,iq,h=>by have:=CA hn ip;lia
 |f+1,p,q,ip,iq,h=>by
  cases hk:(uh p q).getLast? with
  |none=>
   rw[vk _ hk];exact List.getLast?_eq_none_iff.mp hk
  |some k=>
   obtain⟨j,rfl,hj,h1,h2⟩:=wC ip iq (Bh hk);rw[vj f hk,show((j:Int)+1-1).toNat=j by lia];have:=VM ip hj h1;exact Es hn f _ _ (dX ip hj) (ie iq hj) (by lia)
def Prd.calm {w q x:RP}(hp:Prd n w q x)(iq:Iv n q.1 q.2)(ix:Iv n x.1 x.2)(ad:Adv n q x){i j:Nat}(hij:i<=j)(hj:j<n)(h:ai w.2 i<=ai w.2 j):ai q.2 i<=ai q.2 j:=by
 show ';';obtain⟨a1,a2,a3⟩:=iq.sr i (by lia);obtain⟨b1,b2,b3⟩:=iq.sr j hj;rw[hp i (by lia),hp j hj]at h;have hne:(ai q.2 j).toNat<(ai q.2 i).toNat:=by lia
 have hx:ai x.2 (ai q.2 i).toNat≠ai x.2 (ai q.2 j).toNat:=λe=>by have:=ix.To (v:=(ai q.2 i).toNat) (w:=(ai q.2 j).toNat) (by lia) (by lia) e;lia
 have:=ad (ai q.2 j).toNat (ai q.2 i).toNat hne (by lia) (by lia);rw[a3,b3]at this;lia
def g5{p q:RP}(ip:Iv n p.1 p.2)(iq:Iv n q.1 q.2):uh p q=[]↔∀j,j+1<n->ai q.2 (j+1)<ai q.2 j->ai p.1 (j+1)<ai p.1 j:=by
 constructor
 ·intro h j hj hd
  show ';';have hm:((j:Int)+1)∈uh p q:=by
   unfold uh;rw[Ar];refine⟨ug.mpr ⟨j,rfl,by rw[iq.ls];exact hj,hd⟩,?_⟩;have:((j:Int)+1)∉Ak p.1:=λz=>by obtain⟨a,e,_,h2⟩:=ug.mp z;have:a=j:=(by lia);subst this;exact hc h2
   rw[decide_eq_false this];rfl
  rw[h]at hm;cases hm
 ·intro h
  cases e:uh p q with
  |nil=>rfl
  |cons k t=>
   obtain⟨j,_,hj,h1,h2⟩:=wC ip iq (k:=k) (by rw[e];exact je);have:=h j hj h2;lia
theorem switch(f:Nat->Bool):∀(d u:Nat),f u=false->f (u+d)=true->∃i,u<=i/\i<u+d/\f i=false/\f (i+1)=true
 |0,u,h1,h2=>by rw[Nat.add_zero,h1]at h2;cases h2
 |d+1,u,h1,h2=>by
  cases h:f (u+d)with
  |true=>
   obtain⟨i,a,b,c,e⟩:=switch f d u h1 h;exact⟨i,a,by lia,c,e⟩
  |false=>exact⟨u+d,by lia,by lia,h,h2⟩
def ae7{r q x s' w y w2 s:RP}(ir:Iv n r.1 r.2)(iq:Iv n q.1 q.2)(ix:Iv n x.1 x.2)(is':Iv n s'.1 s'.2)(iw:Iv n w.1 w.2)(iy:Iv n y.1 y.2)(iw2:Iv n w2.1 w2.2)
  (hrq:uh r q=[])(hws:uh w s'=[])(hw:Prd n w q x)(aqx:Adv n q x)(axs:Adv n x s')(hw2:Prd n w y w2)(ayw:Adv n y w2)(ary:Adv n r y):uh w2 s'=[]:=by
 refine(g5 iw2 is').mpr λj hj hd=>oO λhc=>?_;have hstop:=(g5 iw is').mp hws j hj hd;obtain⟨v0,v1,v2⟩:=iw.rs j (by lia);obtain⟨u0,u1,u2⟩:=iw.rs (j+1) hj;generalize hv:(ai w.1 j).toNat=v at*;generalize hu:(ai w.1 (j+1)).toNat=u at*;have huv:u<v:=by lia
 have hy:ai y.2 v<ai y.2 u:=by
  refine oO λhz=>?_;obtain⟨a1,a2,a3⟩:=iy.sr u (by lia);obtain⟨b1,b2,b3⟩:=iy.sr v (by lia);have e1:=hw2 u (by lia);have e2:=hw2 v (by lia);rw[u2]at e1;rw[v2]at e2;obtain⟨c1,c2,c3⟩:=iw2.sr (ai y.2 u).toNat (by lia);obtain⟨d1,d2,d3⟩:=iw2.sr (ai y.2 v).toNat (by lia);rw[<-e1,show(((j+1:Nat):Int)).toNat=j+1 by lia]at c3;rw[<-e2,bu]at d3;have hne:ai y.2 u≠ai y.2 v:=λe=>by have:=iy.To (v:=u) (w:=v) (by lia) (by lia) e;lia
  lia
 have hq:ai q.2 v<ai q.2 u:=by
  refine oO λhz=>?_;obtain⟨a1,a2,a3⟩:=iq.sr u (by lia);obtain⟨b1,b2,b3⟩:=iq.sr v (by lia);have e1:=hw u (by lia);have e2:=hw v (by lia);rw[u2]at e1;rw[v2]at e2;have:=axs j (j+1) (by lia) hj hd;obtain⟨c1,c2,c3⟩:=ix.sr (ai q.2 u).toNat (by lia);obtain⟨d1,d2,d3⟩:=ix.sr (ai q.2 v).toNat (by lia);rw[<-e1,show(((j+1:Nat):Int)).toNat=j+1 by lia]at c3;rw[<-e2,bu]at d3;have hne:ai q.2 u≠ai q.2 v:=λe=>by have:=iq.To (v:=u) (w:=v) (by lia) (by lia) e;lia
  lia
 obtain⟨i,i1,i2,i3,i4⟩:=switch (λt=>decide (ai w.2 t<=j)) (v-u) u (by rw[decide_eq_false];lia) (by rw[show u+(v-u)=v by lia,decide_eq_true];lia);have i3':=of_decide_eq_false i3;have i4':=of_decide_eq_true i4;have y1:=hw2.calm iy iw2 ayw (i:=u) (j:=i) i1 (by lia) (by lia);have y2:=hw2.calm iy iw2 ayw (i:=i+1) (j:=v) (by lia) (by lia) (by lia);have q1:=hw.calm iq ix aqx (i:=u) (j:=i) i1 (by lia) (by lia);have q2:=hw.calm iq ix aqx (i:=i+1) (j:=v) (by lia) (by lia) (by lia);have hr:=(g5 ir iq).mp hrq i (by lia) (by lia);have:=ary i (i+1) (by lia) (by lia) (by lia);lia
def Dh:As->Prop
 |q::p::ps=>uh p q=[]/\Dh (p::ps)
 |_=>True
def b8(n:Nat)(R:As):Prop:=∀x∈R,Iv n x.1 x.2
def Dh.tail {q:RP}{R:As}(h:Dh (q::R)):Dh R:=by
 cases R with
 |nil=>trivial
 |cons p ps=>exact h.2
structure ae8(n:Nat)(p c p' c':RP):Prop where
 ip:Iv n p'.1 p'.2
 ic:Iv n c'.1 c'.2
 fr:uh p' c'=[]
 ex:∃y,Dy n p c p' c' y
def lP(hn:n<=7){p c:RP}(ip:Iv n p.1 p.2)(ic:Iv n c.1 c.2)(hi:Iv n (upTo n) (upTo n)):ae8 n p c (gO 50 p c).1 (gO 50 p c).2:=
 ⟨(pH.Fj 50 ip ic).1,(pH.Fj 50 ip ic).2,Es hn 50 p c ip ic (by lia),Qd ip 50 p c _ ip ic (Dy.start ip hi)⟩
def ae8.none {p c p' c':RP}(s:ae8 n p c p' c')(ic:Iv n c.1 c.2)(ip:Iv n p.1 p.2)(e:p'=p):c'=c:=by
 obtain⟨y,o⟩:=s.ex;subst e;have hy:∀t,t<n->ai y.2 t=t:=λt ht=>by have h1:=ip.rs t ht;have:=o.pp (ai p'.1 t).toNat (by lia);rw[h1.2.2,bu]at this;exact this.symm
 refine qT (n:=n) s.ic ic ?_;refine Iv.uniq (n:=n) (s:=c.2) ?_ ic;have:c'.2=c.2:=cH (by rw[s.ic.ls,ic.ls]) λt ht=>by rw[s.ic.ls]at ht;rw[o.pq t ht,hy t ht,bu]
 rw[<-this];exact s.ic
theorem VR(hn:n<=7)(hi:Iv n (upTo n) (upTo n)):∀(ps:As)(p c:RP),b8 n (p::ps)->Iv n c.1 c.2->Dh (p::ps)->Dh ((gO 50 p c).2::Dw ps (gO 50 p c).1)
 |[],p,c,hI,ic,_=>by have s:=lP hn (hI p (by simp)) ic hi;exact⟨s.fr,trivial⟩
 |r::ps,p,c,hI,ic,hL=>by
  have ip:=hI p (by simp);have ir:=hI r (by simp);have s:=lP hn ip ic hi;have s2:=lP hn ir s.ip hi;unfold Dw
  by_cases e:(gO 50 r (gO 50 p c).1).1=r
  ·rw[if_pos e]
   have e2:=s2.none s.ip ir e;have f2:=s2.fr;rw[e,e2]at f2;exact⟨s.fr,f2,hL.2⟩
  ·rw[if_neg e]
   refine⟨?_,VR hn hi ps r _ (λx hx=>hI x (bE _ hx)) s.ip hL.2⟩;obtain⟨x,o⟩:=s.ex;obtain⟨y,o2⟩:=s2.ex;exact ae7 (s:=c) ir ip o.iy s.ic s.ip o2.iy s2.ic hL.1 s.fr o.pp o.ap o.aq o2.pq o2.aq o2.ap
def ae9(hn:n<=7)(hi:Iv n (upTo n) (upTo n)){R:As}{c:RP}(hI:b8 n R)(ic:Iv n c.1 c.2)(hL:Dh R.reverse):Dh (Dw R.reverse c):=by
 cases h:R.reverse with
 |nil=>exact trivial
 |cons p ps=>
  rw[h]at hL;have XE:b8 n (p::ps):=λx hx=>hI x (by rw[<-yZ,h];exact hx);have s:=lP hn (XE p (by simp)) ic hi;unfold Dw
  by_cases e:(gO 50 p c).1=p
  ·rw[if_pos e]
   have e2:=s.none ic (XE p (by simp)) e;have f:=s.fr;rw[e,e2]at f;exact⟨f,hL⟩
  ·rw[if_neg e]
   exact VR hn hi ps p c XE ic hL
def Nst(n:Nat)(p:RP):Prop:=∃a,a+1<n/\ai p.2 (a+1)<ai p.2 a
def Et{p:RP}(ip:Iv n p.1 p.2)(hi:Iv n (upTo n) (upTo n))(h:¬Nst n p):p=(upTo n,upTo n):=
 qT (n:=n) ip hi (PV ip λa ha hd=>h ⟨a,ha,hd⟩)
def VS{p:RP}(h:Nst n p):p≠(upTo n,upTo n):=λe=>by obtain⟨a,ha,hd⟩:=h;rw[e]at hd;dsimp only at hd;rw[aM ha,aM (by lia)]at hd;lia
def Prd.nst {w q x:RP}(hp:Prd n w q x)(iq:Iv n q.1 q.2)(ix:Iv n x.1 x.2)(ad:Adv n q x){a:Nat}(ha:a+1<n)(h:ai q.2 (a+1)<ai q.2 a):ai w.2 (a+1)<ai w.2 a:=by refine oO λhc=>?_;have:=hp.calm iq ix ad (i:=a) (j:=a+1) (by lia) ha (by lia);lia
theorem VU(hn:n<=7)(hi:Iv n (upTo n) (upTo n)):∀(ps:As)(p c:RP),b8 n (p::ps)->Iv n c.1 c.2->Dh (p::ps)->(∀x∈p::ps,Nst n x)->∀x∈Dw ps (gO 50 p c).1,Nst n x
 |[],p,c,hI,ic,_,hN,x,hx=>by have s:=lP hn (hI p (by simp)) ic hi;obtain⟨y,o⟩:=s.ex;obtain⟨a,ha,hd⟩:=hN p (by simp);rw[dN.mp hx];exact⟨a,ha,o.pp.nst (hI p (by simp)) o.iy o.ap ha hd⟩
 |r::ps,p,c,hI,ic,hL,hN,x,hx=>by
  have ip:=hI p (by simp);have ir:=hI r (by simp);have s:=lP hn ip ic hi;have s2:=lP hn ir s.ip hi;obtain⟨z,o⟩:=s.ex;obtain⟨y,o2⟩:=s2.ex;obtain⟨a,ha,hd⟩:=hN p (by simp);have XX:=o.pp.nst ip o.iy o.ap ha hd;unfold Dw at hx
  by_cases e:(gO 50 r (gO 50 p c).1).1=r
  ·rw[if_pos e]at hx
   rcases aX.mp hx with rfl|hx
   ·exact⟨a,ha,XX⟩
   ·exact hN x (bE _ hx)
  ·rw[if_neg e]at hx
   rcases aX.mp hx with rfl|hx
   ·refine oO λhc=>?_
    have e2:=Et s2.ic hi hc;have hy:∀t,t<n->ai (gO 50 p c).1.2 t=ai y.2 t:=λt ht=>by have h1:=o2.iy.sr t ht;have:=o2.pq t ht;rw[e2]at this;dsimp only at this;rw[aM (by lia)]at this;lia
    rw[hy _ ha,hy _ (by lia)]at XX;have h1:=o2.ap a (a+1) (by lia) ha XX;have h2:=(g5 ir ip).mp hL.1 a ha hd;lia
   ·exact VU hn hi ps r _ (λx hx=>hI x (bE _ hx)) s.ip hL.2 (λx hx=>hN x (bE _ hx)) x hx
structure zG(n:Nat)(R:As):Prop where
 iv:b8 n R
 lw:Dh R.reverse
 ns:∀x∈R,Nst n x
theorem Je:∀(R:As)(p:RP),(∀x∈R,Iv n x.1 x.2)->Iv n p.1 p.2->∀x∈Dw R p,Iv n x.1 x.2
 |[],p,_,hp,x,hx=>by rw[dN.mp hx];exact hp
 |r::R,p,hR,hp,x,hx=>by
  obtain⟨i1,i2⟩:=pH.Fj 50 (hR r (by simp)) hp;unfold Dw at hx;split at hx
  ·rcases aX.mp hx with rfl|hx
   ·exact hp
   ·exact hR x hx
  ·rcases aX.mp hx with rfl|hx
   ·exact i2
   ·exact Je R _ (λy hy=>hR y (by simp[hy])) i1 x hx
def VV(hn:n<=7)(hi:Iv n (upTo n) (upTo n)){R:As}{c:RP}(h:zG n R)(ic:Iv n c.1 c.2):∃d T,Dw R.reverse c=d::T/\∀x∈T,Nst n x:=by
 cases hr:R.reverse with
 |nil=>exact⟨c,[],rfl,λx hx=>nomatch hx⟩
 |cons p ps=>
  have XE:b8 n (p::ps):=λx hx=>h.iv x (by rw[<-yZ,hr];exact hx);have hN':∀x∈p::ps,Nst n x:=λx hx=>h.ns x (by rw[<-yZ,hr];exact hx);have hL:=h.lw;rw[hr]at hL;unfold Dw
  by_cases e:(gO 50 p c).1=p
  ·rw[if_pos e]
   exact⟨c,p::ps,rfl,hN'⟩
  ·rw[if_neg e]
   exact⟨_,_,rfl,VU hn hi ps p c XE ic hL hN'⟩
def Nc(hn:n<=7)(hi:Iv n (upTo n) (upTo n)){R:As}{c:RP}(h:zG n R)(ic:Iv n c.1 c.2):zG n (j0 n R c):=by
 have hlw:=ae9 hn hi h.iv ic h.lw;have hiv:=Je R.reverse c (λx hx=>h.iv x (by simpa using hx)) ic;obtain⟨d,T,e,hT⟩:=VV hn hi h ic;have ahP:(Bg R c).getLast?=aa d:=by unfold Bg;rw[e];simp
 have ahQ:(Bg R c).dropLast=T.reverse:=by unfold Bg;rw[e];simp
 unfold j0;rw[ahP]
 by_cases hd:aa d=aa (upTo n,upTo n)
 ·rw[if_pos hd,ahQ]
  rw[e]at hlw hiv;exact⟨λx hx=>hiv x (bE _ (by simpa using hx)),by rw[oQ];exact hlw.tail,λx hx=>hT x (by simpa using hx)⟩
 ·rw[if_neg hd]
  unfold Bg;refine⟨λx hx=>hiv x (by simpa using hx),by rw[oQ];exact hlw,λx hx=>?_⟩;rw[yZ,e]at hx;rcases aX.mp hx with rfl|hx
  ·refine oO λhc=>hd ?_
   rw[Et (hiv x (by rw[e];exact je)) hi hc]
  ·exact hT x hx
theorem Qe(hn:n<=7)(hi:Iv n (upTo n) (upTo n)):∀(rs:List Ap)(R:As),(∀r∈rs,bO n r)->zG n R->zG n (rs.foldl (λR r=>j0 n R (r,xN r)) R)
 |[],R,_,h=>h
 |r::rs,R,hr,h=>Qe hn hi rs _ (λx hx=>hr x (by simp[hx])) (Nc hn hi h (kZ (hr r (by simp))))
def CC{r s:Ap}(h:Iv n r s)(hd:∀j,j+1<n->ai r (j+1)<ai r j):r=(upTo n).reverse:=by
 have up:∀j,j<n->ai r j<=(n:Int)-1-j:=λj=>by
  induction j with
  |zero=>intro h0;have:=(h.rs 0 h0).2.1;lia
  |succ j ih=>intro hj;have:=ih (by lia);have:=hd j hj;lia
 have dn:∀d j,j+d+1=n->(d:Int)<=ai r j:=λd=>by
  induction d with
  |zero=>intro j hj;exact(h.rs j (by lia)).1
  |succ d ih=>intro j hj;have:=ih (j+1) (by lia);have:=hd j (by lia);lia
 refine cH (by rw[h.lr,bR,aI]) λj hj=>?_;rw[h.lr]at hj;have h1:=up j hj;have h2:=dn (n-1-j) j (by lia);have h3:ai (upTo n).reverse j=((n-1-j:Nat):Int):=by unfold ai;rw[tX (by rw[aI];exact hj),aI,yb n _ (by lia)];rfl
 lia
def Nd{p:RP}(ip:Iv n p.1 p.2)(hh:Iv n (iC n).1 (iC n).2)(h:uh p (iC n)=[]):p=iC n:=by
 refine qT (n:=n) ip hh (CC ip λj hj=>(g5 ip hh).mp h j hj ?_);have c:∀p,p<n->ai (upTo n).reverse p=((n-1-p:Nat):Int):=λp hp=>by unfold ai;rw[tX (by rw[aI];exact hp),aI,yb n _ (by lia)];rfl
 show ai (upTo n).reverse (j+1)<ai (upTo n).reverse j;rw[c _ hj,c _ (by lia)];lia
theorem Dh.at_:∀{l A B:As}{p q:RP},Dh l->l=A++q::p::B->uh p q=[]
 |_,[],B,p,q,h,e=>by rw[e]at h;exact h.1
 |l,a::A,B,p,q,h,e=>by rw[e,cB]at h;exact Dh.at_ h.tail rfl
def zG.nb {R A B:As}{p q:RP}(h:zG n R)(e:R=A++p::q::B):uh p q=[]:=
 h.lw.at_ (A:=B.reverse) (B:=A.reverse) (by rw[e];simp)
theorem Qf(hh:Iv n (iC n).1 (iC n).2){R:As}(h:zG n R):∀(B A:As)(p:RP),R=A++p::B->p≠iC n->∀x∈p::B,x≠iC n
 |[],A,p,e,hp,x,hx=>by rw[dN.mp hx];exact hp
 |q::B,A,p,e,hp,x,hx=>by
  have ip:=h.iv p (by rw[e];simp);have hq:q≠iC n:=λz=>by have:=h.nb e;rw[z]at this;exact hp (Nd ip hh this)
  rcases aX.mp hx with rfl|hx
  ·exact hp
  ·exact Qf hh h B (A++[p]) q (by rw[e];simp) hq x hx
def Bm(R:As):R=aO (iZ n R) (iC n)++R.drop (iZ n R):=by
 unfold iZ
 induction R with
 |nil=>rfl
 |cons p R ih=>
  by_cases h:p=iC n
  ·rw[Jd (by simpa using h),aR,cA,Qg,cB,<-ih,h]
  ·rw[Jc (by simpa using h)]
   rfl
def Lq(R:As):∀p B,R.drop (iZ n R)=p::B->p≠iC n:=by
 unfold iZ
 induction R with
 |nil=>intro p B h;cases h
 |cons q R ih=>
  intro p B h
  by_cases hq:q=iC n
  ·rw[Jd (by simpa using hq),aR,Qg]at h
   exact ih p B h
  ·rw[Jc (by simpa using hq)]at h
   have:q=p:=(List.cons.inj h).1;rw[<-this];exact hq
def Sz(hh:Iv n (iC n).1 (iC n).2){R:As}(h:zG n R):∀x∈R.drop (iZ n R),x≠iC n:=λx hx=>by
 cases e:R.drop (iZ n R)with
 |nil=>rw[e]at hx;cases hx
 |cons p B=>
  rw[e]at hx;exact Qf hh h B (aO (iZ n R) (iC n)) p (by rw[<-e];exact Bm R) (Lq R p B e) x hx
def cmp(o r:Ap):Ap:=r.map λs=>ai o s.toNat
def GC(o:Ap)(R:List Ap):Ap:=R.foldl cmp o
def rM(R:List Ap):Nat:=(R.map lN).sum
def i6{o r:Ap}{t:Nat}(h:t<r.length):ai (cmp o r) t=ai o (ai r t).toNat:=by unfold cmp;have:=gy h;unfold ai at this⊢;rw[bK,this];rfl
def wD(o:Ap)(a b:List Ap):GC o (a++b)=GC (GC o a) b:=Bj
def Bo(a b:List Ap):rM (a++b)=rM a+rM b:=by unfold rM;rw[cF,PX]
def Qh{o r q s:Ap}(iq:Iv n q s)(hr:r.length=n):cmp (cmp o r) q=cmp o (cmp r q):=by
 refine cH (by unfold cmp;simp) λt ht=>?_;have Th:t<q.length:=by unfold cmp at ht;simpa using ht
 have h1:=iq.rs t (by rw[<-iq.lr];exact Th);rw[i6 Th,i6 (by rw[hr];lia),i6 (by unfold cmp;simpa using Th),i6 Th]
def Dy.prd {p0 q0 p q y:RP}(o:Dy n p0 q0 p q y)(SA:Iv n q0.1 q0.2)(JY:Iv n p0.1 p0.2)(ip:Iv n p.1 p.2)(iq:Iv n q.1 q.2):cmp p.1 q.1=cmp p0.1 q0.1:=by
 refine cH (by unfold cmp;simp[iq.lr,SA.lr]) λt ht=>?_;have Th:t<n:=by unfold cmp at ht;rw[aN,iq.lr]at ht;exact ht
 rw[i6 (by rw[iq.lr];exact Th),i6 (by rw[SA.lr];exact Th)];obtain⟨a1,a2,a3⟩:=iq.rs t Th;obtain⟨b1,b2,b3⟩:=SA.rs t Th;obtain⟨c1,c2,c3⟩:=o.iy.rs (ai q.1 t).toNat (by lia);rw[o.pl _ (by lia)];have h1:=o.pq (ai y.1 (ai q.1 t).toNat).toNat (by lia);rw[c3,bu,a3]at h1;have:=SA.To (v:=(ai y.1 (ai q.1 t).toNat).toNat) (w:=(ai q0.1 t).toNat) (by lia) (by lia) (by rw[h1,b3]);rw[this]
def Jf{o s:Ap}(h:Iv n o s){a:Nat}(ha:a+1<n):(ai o a<ai o (a+1)->lN (fy o a)=lN o+1)/\(ai o (a+1)<ai o a->lN (fy o a)+1=lN o):=by
 have e:=El o a [] (by rw[h.lr];exact ha);unfold lN;constructor
 ·intro c
  rw[if_neg (by lia),if_pos c]at e;lia
 ·intro c
  rw[if_pos c,if_neg (by lia)]at e;lia
theorem Qi:∀(f:Nat)(p q:RP),Iv n p.1 p.2->Iv n q.1 q.2->lN (gO f p q).1.1+lN (gO f p q).2.1=lN p.1+lN q.1
 |0,p,q,_,_=>rfl
 |f+1,p,q,ip,iq=>by
  cases h:(uh p q).getLast? with
  |none=>rw[vk _ h]
  |some k=>
   obtain⟨j,rfl,hj,h1,h2⟩:=wC ip iq (Bh h);rw[vj f h,show((j:Int)+1-1).toNat=j by lia,Qi f _ _ (dX ip hj) (ie iq hj)];have e1:=(Jf ip hj).1 h1;have e2:=(Jf iq.symm hj).2 h2;have e3:=Ff iq;have e4:=Ff (ie iq hj);show lN (fy p.1 j)+lN (yd q j).1=_;have e5:lN (yd q j).2=lN (fy q.2 j):=rfl;lia
def VW(hn:n<=7)(hi:Iv n (upTo n) (upTo n)){p c:RP}(ip:Iv n p.1 p.2)(ic:Iv n c.1 c.2):cmp (gO 50 p c).1.1 (gO 50 p c).2.1=cmp p.1 c.1:=by have s:=lP hn ip ic hi;obtain⟨y,o⟩:=s.ex;exact o.prd ic ip s.ip s.ic
def fwd(R:As):List Ap:=(R.reverse).map (·.1)
def vm(p:RP)(R:As):fwd (p::R)=fwd R++[p.1]:=by unfold fwd;simp
theorem Qj(hn:n<=7)(hi:Iv n (upTo n) (upTo n)):∀(R:As)(c:RP),b8 n R->Iv n c.1 c.2->(∀o,GC o (fwd (Dw R c))=GC o (fwd R++[c.1]))/\rM (fwd (Dw R c))=rM (fwd R)+lN c.1
 |[],c,_,_=>⟨λo=>rfl,by unfold Dw rM fwd;simp⟩
 |p::ps,c,hI,ic=>by
  have ip:=hI p (by simp);have s:=lP hn ip ic hi;unfold Dw
  by_cases e:(gO 50 p c).1=p
  ·rw[if_pos e]
   exact⟨λo=>by rw[vm],by rw[vm,Bo];simp[rM]⟩
  ·rw[if_neg e]
   obtain⟨h1,h2⟩:=Qj hn hi ps (gO 50 p c).1 (λx hx=>hI x (by simp[hx])) s.ip;refine⟨λo=>?_,?_⟩
   ·rw[vm,wD,h1 o,vm,aZ,wD,wD]
    show cmp (cmp (GC o (fwd ps)) (gO 50 p c).1.1) (gO 50 p c).2.1=cmp (cmp (GC o (fwd ps)) p.1) c.1;rw[Qh s.ic s.ip.lr,VW hn hi ip ic,<-Qh ic ip.lr]
   ·rw[vm,Bo,h2,vm,Bo]
    have:=Qi 50 p c ip ic;have e1:∀r:Ap,rM [r]=lN r:=λr=>by simp[rM]
    rw[e1,e1];lia
def aaq(hn:n<=7)(hi:Iv n (upTo n) (upTo n))(c0:lN (upTo n)=0){R:As}{c:RP}(hI:b8 n R)(ic:Iv n c.1 c.2):(∀o:Ap,o.length=n->GC o ((j0 n R c).map (·.1))=GC o (R.map (·.1)++[c.1]))/\rM ((j0 n R c).map (·.1))=rM (R.map (·.1))+lN c.1:=by
 have XE:b8 n R.reverse:=λx hx=>hI x (by simpa using hx);obtain⟨h1,h2⟩:=Qj hn hi R.reverse c XE ic;have ef:fwd (Dw R.reverse c)=(Bg R c).map (·.1):=rfl;have er:fwd R.reverse=R.map (·.1):=by unfold fwd;rw[oQ]
 rw[ef,er]at h2;unfold j0
 by_cases hd:(Bg R c).getLast?=aa (upTo n,upTo n)
 ·rw[if_pos hd]
  have hne:Bg R c≠[]:=λz=>by rw[z]at hd;cases hd
  have Gk:(Bg R c).dropLast++[(upTo n,upTo n)]=Bg R c:=by have:=Jg hne;rw[Qk hne]at hd;rw[ck.inj hd]at this;exact this
  rw[<-Gk,cF,Bo]at h2;have e1:rM ([((upTo n,upTo n):RP)].map (·.1))=0:=by simp[rM,c0]
  rw[e1]at h2;refine⟨λo ho=>?_,h2⟩;have h3:=h1 o;rw[ef,er,<-Gk,cF,wD]at h3;rw[<-h3];show _=cmp (GC o ((Bg R c).dropLast.map (·.1))) (upTo n);have hl:(GC o ((Bg R c).dropLast.map (·.1))).length=n:=by
   have hiv:=Je R.reverse c (λx hx=>hI x (by simpa using hx)) ic;have ha:∀x∈(Bg R c).dropLast,x.1.length=n:=λx hx=>by rw[IF]at hx;have:=wz hx;unfold Bg at this;exact(hiv x (by simpa using this)).lr
   generalize (Bg R c).dropLast=Z at ha;clear Gk h3 h2 h1
   induction Z generalizing o with
   |nil=>exact ho
   |cons z Z ih=>
    refine ih (cmp o z.1) ?_ λx hx=>ha x (by simp[hx]);unfold cmp;rw[aN];exact ha z (by simp)
  refine cH (by unfold cmp;rw[aN,hl,aI]) λt ht=>?_;rw[hl]at ht;rw[i6 (by rw[aI];exact ht),aM ht,bu]
 ·rw[if_neg hd]
  exact⟨λo _=>by have:=h1 o;rw[ef,er]at this;exact this,h2⟩
noncomputable def tCI(K:ak)(caps:List Nat)(tl te:TE):TE:=λσ H Q=>TV K tl σ H λJ H1=>∃(l:ae)(xs vs:List V),J=Itl K l/\gS K H1 l xs/\vs.length=caps.length/\(∀(j i:Nat)(v:V),caps[j]?=aa i->vs[j]?=aa v->σ[i]?=aa (aa v))/\
 ∀Dd,H1 Dd=none->∃Pv:Nat->List V->Hp->Prop,Pv 0 [] (upd H1 Dd (.lst []))/\(∀i acc Hx,Pv i acc Hx->gS K Hx l xs/\Hx Dd=aa (.lst acc))/\
  (∀i acc Hx x,Pv i acc Hx->xs[i]?=aa x->te (aa x::vs.map aa) Hx λv H2=>H2 Dd=aa (.lst acc)/\acc.length<aK/\Pv (i+1) (acc++[v]) (upd H2 Dd (.lst (acc++[v]))))/\∀acc Hx,Pv xs.length acc Hx->Q (.ref Dd) Hx
section
variable{X:Cx}{pos:Pos}{scope:du}{N:List Str}{caps:List Nat}
def VX{elt tg iter:ao}{tl te:TE}(S:qi X scope N 1 caps)(Kx:X.calm=true)(hi:PI X tg iter (TV X.K tl))(hg:∀s H fp C pl,PG (Ck X scope N s H fp C pl) tg (TN 0))(he:∀s H fp C pl,PE (Ck X scope N s H fp C pl) elt te)
  (hs:autoParam (∀x,DT iter X.env x=bj x) wT):PE X (.ListComp elt [⟨tg,iter,[],0⟩] scope pos) (tCI X.K caps tl te):=by
 show 'c';rw[eval_ListComp];refine Za (use:=none) rfl hs (zP (S.cells I)) S.kind S.names ?_;refine gh (hi pins s σ H (λJ H1=>∃(l:ae)(xs vs:List V),J=Itl X.K l/\gS X.K H1 l xs/\vs.length=caps.length/\(∀(j i:Nat)(v:V),caps[j]?=aa i->vs[j]?=aa v->σ[i]?=aa (aa v))/\
  ∀Dd,H1 Dd=none->∃Pv:Nat->List V->Hp->Prop,Pv 0 [] (upd H1 Dd (.lst []))/\(∀i acc Hx,Pv i acc Hx->gS X.K Hx l xs/\Hx Dd=aa (.lst acc))/\
   (∀i acc Hx x,Pv i acc Hx->xs[i]?=aa x->te (aa x::vs.map aa) Hx λv H2=>H2 Dd=aa (.lst acc)/\acc.length<aK/\Pv (i+1) (acc++[v]) (upd H2 Dd (.lst (acc++[v]))))/\∀acc Hx,Pv xs.length acc Hx->Q (.ref Dd) Hx) I ?_) λv s1 h1=>gh h1 λitv s2 h2=>?_
 ·exact h
 obtain⟨it,fp,tn,J,H2,rfl,I2,T,Oe,f2,l,xs,vs,rfl,hq,hvl,hvs,hinv⟩:=h2;refine Zc (Zd S.cell (by intro y hy;simp at hy) (λh₁ MK hsb₁=>?_) S.kind);dsimp only at MK hsb₁⊢;have hDn:H2 s2.heap.objs.size=none:=I2.hok.fresh (aY _);have I3:Inv X pins σ (upd H2 s2.heap.objs.size (.lst [])) {s2 with heap:=s2.heap.push {cls:=.type "list",dict:=none,data:=.seq ([]:List ah).toArray}}:=
  I2.laid (t':=s2.toks) (λb u e=>dg _ e) (aY _) ⟨iJ _,[],0,.nil,kE _ rfl⟩
 generalize hs3:({s2 with heap:=s2.heap.push {cls:=.type "list",dict:=none,data:=.seq ([]:List ah).toArray}}:aj)=s3 at I3;have hh3:s3.heap=s2.heap.push {cls:=.type "list",dict:=none,data:=.seq ([]:List ah).toArray}:=by rw[<-hs3]
 rw[<-hh3]at MK hsb₁⊢;generalize hDd:s2.heap.objs.size=Dd at*;show '<';have Ux:∀b∈fp,∃o,s2.heap.get? b=aa o:=λb hb=>let⟨o,e,_⟩:=T.obj 0 _ Oe b hb;⟨o,e⟩
 have ady:∀b∈fp,∃o,s3.heap.get? b=aa o:=λb hb=>let⟨o,e⟩:=Ux b hb;⟨o,by rw[hh3];exact dg _ e⟩
 have hfD:∀b∈fp,b≠Dd:=λb hb=>let⟨o,e⟩:=Ux b hb;by rw[<-hDd];exact eU (bW e)
 have f3:∀b∈fp,xJ X pins (upd H2 Dd (.lst [])) b:=λb hb=>⟨by rw[aH (hfD b hb)];exact(f2 b hb).1,(f2 b hb).2⟩
 show 'W';generalize hX:Ck X scope N s3 (upd H2 Dd (.lst [])) fp s3.heap.objs.size (X.pn++pins)=X' at I4;show 'Å';show 'Æ';rw[hX]at hg' he';have eK:X'.K=X.K:=by rw[<-hX];rfl
 have eP:X'.prog=X.prog:=by rw[<-hX];rfl
 have eW:X'.w=X.w:=by rw[<-hX];rfl
 have eA:X'.A=X.A:=by rw[<-hX];rfl
 have eE:X'.xe=λ_ _=>False:=by rw[<-hX];rfl
 have eC:X'.calm=true:=by rw[<-hX];exact Kx
 have eL:X'.env.locals=s3.heap.objs.size:=by rw[<-hX];rfl
 have eS:X'.s₀=s3:=by rw[<-hX];rfl
 have eX:X'.ex=fp:=by rw[<-hX];rfl
 have eF:X'.fs=Me X.stack:=by rw[<-hX];rfl
 have eN:X'.pn=X.pn++pins:=by rw[<-hX];rfl
 have eH:X'.H₀=upd H2 Dd (.lst []):=by rw[<-hX];rfl
 have eV:X'.env=AU scope (JV X.env.cells scope.names []) s3.heap.objs.size X.env:=by rw[<-hX];rfl
 have fpX:∀{Hx:Hp},(∀b∈fp,Hx b=none)->∀b∈fp,xJ X' [] Hx b:=λ{Hx} hn b hb=>by obtain⟨_,c1,c2,c3,c4,c5⟩:=f3 b hb;have q:=I4.ok.exf b (by rw[eX];exact hb);refine⟨hn b hb,q.1,I4.ok.Mm b (by rw[eX];exact hb),.inl (by rw[eX];exact hb),q.2,λp hp=>?_⟩;rw[eN,bg]at hp;exact c5 p hp
 obtain⟨Pv,pv0,pvl,pvs,pvd⟩:=hinv Dd hDn;have loop:∀s4:aj,Inv X' [] (aO 1 none++vs.map aa) (upd H2 Dd (.lst [])) s4->tn 0 s4.heap->
   p9 (aE X.prog X.w) X.A (.compLoop (.ListComp elt [⟨tg,iter,[],0⟩] scope pos) 0 (.ref it) (.ref Dd) (AU scope (JV X.env.cells scope.names []) s3.heap.objs.size X.env))
    (compPost (aE X.prog X.w) X.A X.xe none (EP X pins σ Q) (.ref Dd) s3.heap.objs.size) s4:=by
  intro s4 J4 Uy;refine C4 (λn s'=>∃(i:Nat)(acc:List V)(Hx:Hp)(t0:Option V),n=xs.length-i/\i<=xs.length/\Inv X' [] (t0::vs.map aa) Hx s'/\tn i s'.heap/\(∀b∈fp,Hx b=none)/\Pv i acc Hx) ?_ xs.length
   ⟨0,[],_,none,by simp,iJ _,J4,Uy,λb hb=>(f3 b hb).1,pv0⟩
  rintro n s5 ⟨i,acc,Hx,t0,rfl,hi5,J5,Ye,Xx,p5⟩;obtain⟨hq5,hD5⟩:=pvl i acc Hx p5
  by_cases hlt:i<xs.length
  ·have hx:xs[i]?=aa xs[i]:=aP hlt
   have TI:=T.item X' eP eW eK eC i [] s5 _ Hx (λ_ _=>False) J5 (fpX Xx) Ye ⟨xs,xs[i],hq5,hx⟩;rw[eA]at TI;refine gh TI λr s6 h6=>?_;obtain⟨u,rfl,h6⟩:=h6;refine gh h6 λ_ s7 h7=>?_;obtain⟨x,H7,J7,rx,⟨rfl,hy⟩,st7,fr7⟩:=h7;have exi:=hy xs hq5;have J7':=J7.pinned (fpX fr7) (T.obj _ _ st7);have TG:=hg' _ s7 _ H7 x u (λσ8 H8=>σ8=aa x::vs.map aa/\H8=H7) J7' rx ⟨rfl,rfl⟩;rw[eP,eW,eA,eE,eV]at TG;refine gh TG λ_ s8 h8=>?_;obtain⟨σ8,H8,J8,rfl,rfl⟩:=h8;refine gh (Y8 (Q:=λb s'=>b=true/\s'=s8) ⟨rfl,rfl⟩) λok s9 h9=>?_;obtain⟨rfl,rfl⟩:=h9;have Pf:∀{σx:St}{Hy:Hp}{sx:aj},Inv X' ([]++B6 fp s7.heap) σx Hy sx->tn (i+1) sx.heap/\∀b∈fp,Hy b=none:=λ{σx Hy sx} Jx=>
    ⟨T.keep _ _ _ st7 λb hb o e=>(Jx.pin (b,o) (jh _ (jh _ (pR hb e)))).1,λb hb=>by obtain⟨o,e,d⟩:=T.obj _ _ st7 b hb;exact(Jx.pin (b,o) (jh _ (jh _ (pR hb e)))).2.1⟩
   rw[if_pos rfl];have TE:=he' _ s9 _ H8 _ J8 (pvs i acc H8 x p5 exi);rw[eP,eW,eA,eE,eV]at TE;refine gh TE λy s10 h10=>?_;obtain⟨v,Ky,J10,rv,adC,hlen,p10⟩:=h10;have TM:=kI (X:=X') _ s10 _ Ky (.ref Dd) [v] (.ref Dd) [y] (λ_ H11=>H11=upd Ky Dd (.lst (acc++[v]))) J10 rfl (.cons rv .nil) ⟨Dd,acc,v,rfl,rfl,adC,hlen,rfl⟩;rw[eP,eW,eA,eE]at TM;refine gh TM λ_ s11 h11=>?_;obtain⟨v',H11,J11,_,rfl⟩:=h11;obtain⟨k1,k2⟩:=Pf J11;exact⟨xs.length-(i+1),by lia,i+1,acc++[v],_,aa x,rfl,hlt,J11.uU,k1,k2,p10⟩
  ·have e:i=xs.length:=by lia
   subst e;have TD:=T.done X' eP eW eK eC xs.length [] s5 _ Hx (λ_ _=>False) J5 (fpX Xx) Ye ⟨xs,hq5,aY _⟩;rw[eA]at TD;refine gh TD λr s6 h6=>?_;obtain⟨rfl,J6⟩:=h6;obtain⟨m6,hn6,_⟩:=J6.loc;rw[eL]at hn6;have un6:Un (Me X.stack) fp (upd H2 Dd (.lst [])) Hx s3.heap s6.heap:=by have u:=J6.base;rw[eF,eX,eH,eS]at u;exact u
   have hxC:Hx s3.heap.objs.size=none:=(by have:=J6.free;rw[eL]at this;exact this);have adE:zA X.prog X.w Hx s6.heap:=by have z:=J6.hok;rw[eP,eW]at z;exact z
   have os6:s6.os=s3.os:=(by have:=J6.os;rw[eS]at this;exact this);have I6:Inv X pins σ Hx s6:=I3.abt (s':=s6) os6 un6 adE J6.bare λb hb=>by obtain⟨_,c1,c2,c3,c4,c5⟩:=f3 b hb;exact⟨c3,c1,c4,c5⟩
   show '3'
   refine⟨m6,hn6,λh7 hs7=>⟨.ref Dd,Hx,Kv (fp:=[s3.heap.objs.size]) (t':=s6.toks) I6 (λb hb=>by have z:b=s3.heap.objs.size:=(by simpa using hb);rw[z];exact fC) (λb u hb e=>(hs7.2 b (λz=>hb (by simp[z]))).trans e),rfl,pvd acc Hx p5⟩⟩
 have Uy:tn 0 h₁:=T.keep _ _ _ Oe λb hb o e=>k3 b o (by rw[hh3];exact dg _ e);have eG:({heap:=h₁,gens:=s3.gens,drawn:=s3.drawn,toks:=s2.toks+([]:List (Str×ah)).length,os:=s3.os}:aj)={heap:=h₁,gens:=s2.gens,drawn:=s2.drawn,toks:=s2.toks+([]:List (Str×ah)).length,os:=s2.os}:=by rw[<-hs3]
 rw[eG]at I4;show 'R'
end
def rZ(env:DE):R Bool:=
 R.ok true
def r6(env:DE):R D:=
 (cZ 0 env>=>λmz=>R.ok (D.int 0)>=>λjF=>Aa mz jF)
noncomputable def Ql(env:DE):R Out:=
 ((((((cZ 4 env>=>λv6=>R.ok (D.int 0)>=>λv7=>Aa v6 v7)>=>λv4=>(((cZ 1 env>=>D3)>=>λv9=>uF env []>=>λv10=>R.ne (kW (bN 0) rZ r6 (xt 1 v10) v9)>=>fit)>=>λv8=>R.of (Py v8))>=>λv5=>R.of (iA v4 v5))>=>λv2=>((cZ 4 env>=>λmB=>R.ok (D.int 1)>=>λpG=>Aa mB pG)>=>λmQ=>R.ok []>=>λlJ=>R.ok (mQ::lJ))>=>λv3=>R.ok (v2::v3))>=>fit)>=>λds=>R.ok (D.tup ds))>=>λv1=>R.ok (Out.rt v1))
def jH(ds:AN):R D:=match ds with
 |[.int n,d]=>R.ne (dm [d]>=>λrs=> @ite _ ((1<=n/\n<=7)/\rs.length<=40/\∀r∈rs,bO n.toNat r) (gB _) (Ql [.val (.int n),.val d,.no,.no,.val (Dg n.toNat (lq n.toNat rs))]>=>aA) .bad)
 |_=>.bad
def VY(env:DE):R Out:=
 (((cZ 0 env>=>λv2=>(((cZ 0 env>=>λv6=>(cZ 1 env>=>λv8=>R.ok []>=>λv9=>R.ok (v8::v9))>=>λv7=>R.ok (v6::v7))>=>jG)>=>λv4=>R.ok []>=>λv5=>R.ok (v4::v5))>=>λv3=>R.ok (v2::v3))>=>jH)>=>λv1=>R.ok (Out.rt v1))
def fj:=mD 2 2 VY
noncomputable def VZ(env:DE):R Out:=
 ((((cZ 0 env>=>λv4=>(cZ 1 env>=>λv6=>R.ok []>=>λv7=>R.ok (v6::v7))>=>λv5=>R.ok (v4::v5))>=>fj)>=>λv2=>((cZ 0 env>=>λv8=>(cZ 2 env>=>λv10=>R.ok []>=>λv11=>R.ok (v10::v11))>=>λv9=>R.ok (v8::v9))>=>fj)>=>λv3=>R.of (Ae v2 v3))>=>λv1=>R.ok (Out.rt v1))
def Fo:=mS 3 3 VZ
noncomputable def Fp(env:DE):R Out:=
 (bV (((cZ 0 env>=>λv3=>(cZ 1 env>=>λv5=>R.ok []>=>λv6=>R.ok (v5::v6))>=>λv4=>R.ok (v3::v4))>=>fj)>=>λv2=>R.ok (Out.nx (List.set env 3 (Sl.val v2)))) λv1=>
 ((((bZ 0 v1>=>λv9=>(bZ 3 v1>=>λv11=>R.ok []>=>λpJ=>R.ok (v11::pJ))>=>λv10=>R.ok (v9::v10))>=>iY)>=>λv8=>jk v8>=>λt=>if t=true then(((cZ 0 v1>=>λmQ=>(cZ 2 v1>=>λmB=>R.ok []>=>λpG=>R.ok (mB::pG))>=>λlJ=>R.ok (mQ::lJ))>=>fj)>=>λmz=>bZ 3 v1>=>λjF=>R.of (Ae mz jF))else R.ok (D.bl false))>=>λv7=>R.ok (Out.rt v7)))
def mh:=mS 3 4 Fp
noncomputable def Fq(d:D)(env:DE):R Out:=
 (bN 7) d env>=>λTn=>
  (bV ((((cZ 2 Tn>=>λZ4=>((mV 4 Tn>=>λv84=>R.ok (D.lst v84))>=>λSu=>(cZ 7 Tn>=>λv85=>R.ok []>=>λv86=>R.ok (v85::v86))>=>λv83=>R.ok (Su::v83))>=>λv81=>R.ok (Z4::v81))>=>kM)>=>λZ3=>R.ok (D.lst Z3))>=>λZ5=>R.ok (Out.nx (List.set Tn 8 (Sl.val Z5)))) λPF=>
 (bV ((((((bZ 2 PF>=>λv92=>R.ok (D.int 1)>=>λv93=>R.of (kY v92 v93))>=>λv90=>(bZ 8 PF>=>λv94=>((((cZ 2 PF>=>λv99=>((mV 5 PF>=>λVz=>R.ok (D.lst Vz))>=>λM6=>(cZ 7 PF>=>λVw=>R.ok []>=>λVx=>R.ok (Vw::Vx))>=>λVy=>R.ok (M6::Vy))>=>λM5=>R.ok (v99::M5))>=>kM)>=>λv98=>R.ok (D.lst v98))>=>λv96=>R.ok []>=>λv97=>R.ok (v96::v97))>=>λv95=>R.ok (v94::v95))>=>λv91=>R.ok (v90::v91))>=>mh)>=>jk)>=>λv89=>R.ok (!v89))>=>λv88=>if v88=true then(R.ok (D.bl false)>=>λaet=>R.ok (Out.rt aet))else(R.ok (Out.nx PF))) λSv=>
 (bV ((bZ 2 Sv>=>λaeq=>R.ok (D.int 5)>=>λaer=>R.of (R3 aeq aer)>=>jk)>=>λaes=>if aes=true then(bV ((((cZ 2 Sv>=>λaem=>((((cZ 2 Sv>=>λaex=>(cZ 6 Sv>=>λaew=>R.ok []>=>λahL=>R.ok (aew::ahL))>=>λaev=>R.ok (aex::aev))>=>mC)>=>λaeu=>R.ok (D.lst aeu))>=>λaeo=>(cZ 7 Sv>=>λaeJ=>R.ok []>=>λaeB=>R.ok (aeJ::aeB))>=>λaey=>R.ok (aeo::aey))>=>λaen=>R.ok (aem::aen))>=>kM)>=>λael=>R.ok (D.lst ael))>=>λaep=>R.ok (Out.nx (List.set Sv 9 (Sl.val aep)))) λM8=>
 (((((bZ 2 M8>=>λaeG=>R.ok (D.int 1)>=>λaeE=>R.of (kY aeG aeE))>=>λaeI=>(cZ 9 M8>=>λaeC=>R.ok []>=>λaeD=>R.ok (aeC::aeD))>=>λaeF=>R.ok (aeI::aeF))>=>fj)>=>λaeA=>(((bZ 2 M8>=>λaeU=>R.ok (D.int 1)>=>λaeL=>R.of (kY aeU aeL))>=>λaeV=>(cZ 8 M8>=>λaeT=>R.ok []>=>λaeR=>R.ok (aeT::aeR))>=>λaeK=>R.ok (aeV::aeK))>=>fj)>=>λaeH=>R.of (G4 aeA aeH)>=>jk)>=>λaez=>if aez=true then(R.ok (D.bl false)>=>λaeS=>R.ok (Out.rt aeS))else(R.ok (Out.nx M8))))else(R.ok (Out.nx Sv))) λSw=>
 (bV ((((cZ 2 Sw>=>λaeN=>((mV 4 Sw>=>λalB=>R.ok (D.lst alB))>=>λaeP=>(cZ 7 Sw>=>λalC=>R.ok []>=>λalD=>R.ok (alC::alD))>=>λaeW=>R.ok (aeP::aeW))>=>λaeO=>R.ok (aeN::aeO))>=>rL)>=>λaeM=>R.ok (D.lst aeM))>=>λaeQ=>R.ok (Out.nx (List.set Sw 10 (Sl.val aeQ)))) λK9=>
 (bV ((((((bZ 2 K9>=>λalE=>R.ok (D.int 1)>=>λalF=>R.of (iA alE alF))>=>λalG=>(bZ 10 K9>=>λalH=>((((cZ 2 K9>=>λalI=>((mV 5 K9>=>λalJ=>R.ok (D.lst alJ))>=>λalK=>(cZ 7 K9>=>λalL=>R.ok []>=>λalM=>R.ok (alL::alM))>=>λalN=>R.ok (alK::alN))>=>λalO=>R.ok (alI::alO))>=>rL)>=>λalP=>R.ok (D.lst alP))>=>λalQ=>R.ok []>=>λalR=>R.ok (alQ::alR))>=>λalS=>R.ok (alH::alS))>=>λalT=>R.ok (alG::alT))>=>mh)>=>jk)>=>λalU=>R.ok (!alU))>=>λalV=>if alV=true then(R.ok (D.bl false)>=>λalW=>R.ok (Out.rt alW))else(R.ok (Out.nx K9))) λNg=>
 ((((cZ 2 Ng>=>λalX=>(((((bZ 2 Ng>=>λalY=>R.ok (D.int 1)>=>λalZ=>R.of (iA alY alZ))>=>λal0=>(cZ 10 Ng>=>λal1=>((bZ 7 Ng>=>λal2=>((bZ 1 Ng>=>λal3=>R.ok (D.int 5)>=>λal4=>R.of (Cg al3 al4))>=>λal5=>R.ok (D.int 2)>=>λal6=>R.of (uW al5 al6))>=>λal7=>R.of (iA al2 al7))>=>λal8=>R.ok []>=>λal9=>R.ok (al8::al9))>=>λama=>R.ok (al1::ama))>=>λamb=>R.ok (al0::amb))>=>kM)>=>λamc=>R.ok (D.lst amc))>=>λamd=>R.ok []>=>λame=>R.ok (amd::ame))>=>λamf=>R.ok (alX::amf))>=>fj)>=>λamg=>bZ 6 Ng>=>λamh=>R.of (G4 amg amh)>=>jk)>=>λami=>if ami=true then(R.ok (D.bl false)>=>λamj=>R.ok (Out.rt amj))else(R.ok (Out.nx Ng))))))))
noncomputable def abW(env:DE):R Out:=
 (bV ((((bZ 0 env>=>λv5=>(R.ok (D.int 0)>=>λv7=>R.ok []>=>λv8=>R.ok (v7::v8))>=>λv6=>R.ok (v5::v6))>=>iW)>=>λv3=>R.ok (D.int 1000000007)>=>λv4=>R.of (uW v3 v4))>=>λv2=>R.ok (Out.nx (List.set env 1 (Sl.val v2)))) λv1=>
 (bV (((bZ 1 v1>=>λv11=>(R.ok (D.int 2)>=>λmz=>(R.ok (D.int 5)>=>λmQ=>R.ok []>=>λlJ=>R.ok (mQ::lJ))>=>λjF=>R.ok (mz::jF))>=>λpJ=>R.ok (v11::pJ))>=>j8)>=>λv10=>R.ok (Out.nx (List.set v1 2 (Sl.val v10)))) λv9=>
 (bV (((bZ 2 v9>=>λv20=>R.ok (D.int 3)>=>λud=>R.of (Dt v20 ud)>=>jk)>=>λqJ=>if qJ=true then(R.ok (D.int 6))else(R.ok (D.int 10)))>=>λpG=>R.ok (Out.nx (List.set v9 3 (Sl.val pG)))) λmB=>
 (bV ((((((mV 0 mB>=>λCq=>(R.ok (D.int 1)>=>Mg)>=>λE5=>R.ok none>=>λv30=>R.ok (cut Cq E5 v30))>=>λzE=>R.ok (D.lst zE))>=>λxY=>(cZ 2 mB>=>λE4=>(cZ 3 mB>=>λMh=>R.ok []>=>λKS=>R.ok (Mh::KS))>=>λGx=>R.ok (E4::Gx))>=>λzF=>R.ok (xY::zF))>=>oJ)>=>λvE=>R.ok (D.lst vE))>=>λuT=>R.ok (Out.nx (List.set mB 4 (Sl.val uT)))) λlK=>
 (bV (((cZ 4 lK>=>λI0=>(cZ 2 lK>=>λSi=>(cZ 0 lK>=>λSs=>((bZ 3 lK>=>λGy=>R.ok (D.int 4)>=>λU6=>R.of (iA Gy U6))>=>λSq=>R.ok []>=>λMY=>R.ok (Sq::MY))>=>λSo=>R.ok (Ss::So))>=>λPB=>R.ok (Si::PB))>=>λKU=>R.ok (I0::KU))>=>j9)>=>λMX=>R.ok (Out.nx (List.set lK 5 (Sl.val MX)))) λKR=>
 (bV (((cZ 2 KR>=>λU4=>(cZ 4 KR>=>λSn=>R.ok []>=>λTi=>R.ok (Sn::Ti))>=>λU5=>R.ok (U4::U5))>=>fj)>=>λHa=>R.ok (Out.nx (List.set KR 6 (Sl.val Ha)))) λKW=>
 (bV ((((((bZ 2 KW>=>λMZ=>(bZ 4 KW>=>λU9=>(bZ 5 KW>=>λPD=>R.ok []>=>λVe=>R.ok (PD::Ve))>=>λVf=>R.ok (U9::Vf))>=>λU8=>R.ok (MZ::U8))>=>mh)>=>jk)>=>λU7=>R.ok (!U7))>=>λGe=>if Ge=true then R.ok true else(((bZ 2 KW>=>λVb=>(bZ 4 KW>=>λVk=>(bZ 5 KW>=>λVj=>R.ok []>=>λVg=>R.ok (Vj::Vg))>=>λVm=>R.ok (Vk::Vm))>=>λVc=>R.ok (Vb::Vc))>=>Fo)>=>λVa=>R.ok (D.bl true)>=>λVd=>R.of (IX Va Vd)>=>jk))>=>λZ2=>if Z2=true then(R.ok (D.bl false)>=>λVi=>R.ok (Out.rt Vi))else(R.ok (Out.nx KW))) λTj=>
 (bV (((((R.ok (D.int 0)>=>λamk=>((bZ 2 Tj>=>λaml=>R.ok (D.int 1)>=>λamm=>R.of (kY aml amm))>=>λamn=>((bZ 1 Tj>=>λamo=>bZ 2 Tj>=>λamq=>R.of (uW amo amq))>=>λamr=>R.ok []>=>λams=>R.ok (amr::ams))>=>λamt=>R.ok (amn::amt))>=>λamu=>R.ok (amk::amu))>=>fit)>=>λamv=>R.ok (D.lst amv))>=>D3)>=>λVh=>iS Fq Vh Tj) λXD=>
 (R.ok (D.bl true)>=>λamw=>R.ok (Out.rt amw))))))))))
def Ft:=mS 1 11 abW
end DL
namespace DL.yf
open PySem PySem.Spec PyProof.Rows L2 DL
def top(i:Nat):aw:=PySem.Challenge.pw_braidcomb_k93_whole_strings_out.main.body.getD i (.Pass ⟨0,0,0,0⟩)
abbrev CD:aw:=top 6
def Nh:aT ["word"] ["word"] (au CD):=sZ
abbrev Fv:aw:=top 7
def yg:aT ["word","left","k"] ["word"] (au Fv):=sZ
abbrev ui:aw:=top 9
def Al:aT ["n","s"] ["n","s"] (au ui):=sZ
abbrev oR:aw:=top 10
def vo:aT ["k","many"] ["k","many"] (au oR):=sZ
abbrev xy:aw:=top 11
def CF:aT ["place","k"] ["place","k"] (au xy):=sZ
abbrev qU:aw:=top 12
def qF:aT ["place","k","wider"] ["place","k"] (au qU):=sZ
abbrev oU:aw:=top 13
def vp:aT ["place","k"] ["place","k"] (au oU):=sZ
abbrev zX:aw:=top 14
def kg:aT ["word","s","told_at","told","place","k"] ["word","s","told_at"] (au zX):=sZ
abbrev Fw:aw:=top 15
def Lr:aT ["n","word","s"] ["n","word","s"] (au Fw):=sZ
abbrev Fx:aw:=top 16
def Ls:aT ["n","word","s"] ["n","word","s"] (au Fx):=sZ
abbrev Di:aw:=top 18
def Jh:aT ["n"] ["n"] (au Di):=sZ
abbrev Qm:aw:=top 19
def V0:aT ["n"] ["n"] (au Qm):=sZ
abbrev Bp:aw:=top 20
def qo:aT ["row","places","place","string"] ["row"] (au Bp):=sZ
abbrev Fy:aw:=top 21
def SD:aT ["row"] ["row"] (au Fy):=sZ
abbrev Hk:aw:=top 22
def Ni:aT ["row"] ["row"] (au Hk):=sZ
abbrev mE:aw:=top 23
def uH:aT ["row","k"] ["row","k"] (au mE):=sZ
abbrev oV:aw:=top 24
def vq:aT ["row","k"] ["row","k"] (au oV):=sZ
abbrev Dj:aw:=top 25
def kN:aT ["row","word","left","firsts"] ["row"] (au Dj):=sZ
abbrev Hl:aw:=top 26
def wF:aT ["n","word","row","k"] ["n","word"] (au Hl):=sZ
abbrev Fz:aw:=top 27
def SE:aT ["row"] ["row"] (au Fz):=sZ
abbrev r9:aw:=top 28
def Dz:aT ["row"] ["row"] (au r9):=sZ
abbrev FA:aw:=top 31
def uj:aT ["crossings","bits","k"] ["crossings"] (au FA):=sZ
abbrev Bq:aw:=top 34
def ly:aT ["n","form","turn","word","row"] ["n","form"] (au Bq):=sZ
abbrev V1:aw:=top 35
def rD:aT ["n","word","pieces","order","sign_above","k","place","held"] ["n","word"] (au V1):=sZ
abbrev yh:aw:=top 36
def DA:aT ["row"] ["row"] (au yh):=sZ
abbrev FD:aw:=top 37
def Lu:aT ["n","piece"] ["n","piece"] (au FD):=sZ
abbrev yi:aw:=top 38
def DB:aT ["halves","row"] ["halves","row"] (au yi):=sZ
abbrev pP:aw:=top 39
def dY:aT ["steps","rows","halves","step"] ["steps"] (au pP):=sZ
abbrev pU:aw:=top 40
def jY:aT ["n","steps","comb","row","found"] ["n","steps"] (au pU):=sZ
abbrev pV:aw:=top 41
def Br:aT ["n","word"] ["n","word"] (au pV):=sZ
abbrev Qn:aw:=top 42
def V2:aT ["n","word"] ["n","word"] (au Qn):=sZ
abbrev Qo:aw:=top 43
def V3:aT ["n","one","other"] ["n","one","other"] (au Qo):=sZ
abbrev Dk:aw:=top 45
def Ji:aT ["_law_cell","_law_k","_law_factor"] ["_law_cell","_law_k","_law_factor"] (au Dk):=sZ
abbrev xA:aw:=top 46
def CG:aT ["_law_script","_law_k"] ["_law_script","_law_k"] (au xA):=sZ
abbrev xB:aw:=top 47
def vv:aT ["_law_seed","_law_least","_law_most"] ["_law_seed","_law_least","_law_most"] (au xB):=sZ
abbrev vx:aw:=top 48
def uk:aT ["_law_number_here","_law_n","_law_k"] ["_law_number_here","_law_n"] (au vx):=sZ
abbrev zY:aw:=top 49
def se:aT ["_law_number_here","_law_n","_law_k","_law_other"] ["_law_number_here","_law_n"] (au zY):=sZ
abbrev zZ:aw:=top 50
def kh:aT ["_law_cells","_law_n","_law_most","_law_word","_law_k","_law_cell"] ["_law_cells","_law_n","_law_most"] (au zZ):=sZ
abbrev Bs:aw:=top 51
def uI:aT ["_law_word","_law_n","_law_number_here","_law_room","_law_p","_law_here"] ["_law_word","_law_n","_law_number_here","_law_room"] (au Bs):=sZ
abbrev Bt:aw:=top 52
def z0:aT ["_law_word","_law_deed_here","_law_p"] ["_law_word","_law_deed_here"] (au Bt):=sZ
abbrev xC:aw:=top 53
def i7:aT ["_law_word","_law_n","_law_cells","_law_room","_law_k","_law_cell","_law_deed_here"] ["_law_word","_law_n","_law_cells","_law_room"] (au xC):=sZ
abbrev yj:aw:=top 54
def DC:aT ["_law_x"] ["_law_x"] (au yj):=sZ
abbrev yk:aw:=top 55
def qM:aT ["_law_n","_law_row","_law_x","_law_up"] ["_law_n","_law_row"] (au yk):=sZ
abbrev xD:aw:=top 56
def kO:aT ["_law_n","_law_found","_law_at","_law_row","_law_k"] ["_law_n","_law_found"] (au xD):=sZ
abbrev Dl:aw:=top 57
def Bu:aT ["_law_n","_law_word","_law_other","_law_told"] ["_law_n","_law_word","_law_other"] (au Dl):=sZ
abbrev V4:aw:=top 58
def oW:aT ["_law_script","_law_seed","_law_n","_law_room","_law_word","_law_other","_law_plain","_law_s","_law_left","_law_again","_law_wide"] ["_law_script"] (au V4):=sZ
set_option genInjectivity false
set_option genSizeOf false
structure Tb(K:ak)(mg:Str->Option ah) where
 ym:ae
 yn:aL
 Bv:Df K mg "turned" CD ["word"] ym yn
 y7:ae
 y8:aL
 CH:Df K mg "trimmed" Fv ["word"] y7 y8
 i9:ae
 ja:aL
 kP:Df K mg "refuse_unknown" ui ["n","s"] i9 ja
 eI:ae
 eJ:aL
 gF:Df K mg "further_from_nought" oR ["k","many"] eI eJ
 ki:ae
 kj:aL
 oX:Df K mg "place_behind" xy ["place","k"] ki kj
 jz:ae
 jA:aL
 jB:Df K mg "ribbon_crossings" qU ["place","k"] jz jA
 gG:ae
 gH:aL
 gJ:Df K mg "crossings_of_others" oU ["place","k"] gG gH
 oY:ae
 oZ:aL
 rE:Df K mg "told_along" zX ["word","s","told_at"] oY oZ
 y9:ae
 za:aL
 rN:Df K mg "without" Fw ["n","word","s"] y9 za
 zb:ae
 zc:aL
 zd:Df K mg "doubled" Fx ["n","word","s"] zb zc
 pW:ae
 pX:aL
 km:Df K mg "straight" Di ["n"] pW pX
 FE:ae
 FG:aL
 CI:Df K mg "half" Qm ["n"] FE FG
 mG:ae
 mH:aL
 mJ:Df K mg "places_of" Bp ["row"] mG mH
 Bw:ae
 Bx:aL
 ze:Df K mg "stops" Fy ["row"] Bw Bx
 yo:ae
 yp:aL
 si:Df K mg "starts" Hk ["row"] yo yp
 dA:ae
 dB:aL
 cR:Df K mg "with_crossing_behind" mE ["row","k"] dA dB
 eM:ae
 eO:aL
 dH:Df K mg "with_crossing_ahead" oV ["row","k"] eM eO
 wG:ae
 wH:aL
 wI:Df K mg "row_word" Dj ["row"] wG wH
 By:ae
 BA:aL
 BC:Df K mg "row_of" Hl ["n","word"] By BA
 Eu:ae
 Ew:aL
 Jj:Df K mg "ahead" Fz ["row"] Eu Ew
 qp:ae
 qq:aL
 uJ:Df K mg "flipped_row" r9 ["row"] qp qq
 zf:ae
 zg:aL
 mK:Df K mg "as_bits" FA ["crossings"] zf zg
 um:ae
 uo:aL
 yq:Df K mg "form_word" Bq ["n","form"] um uo
 Qp:ae
 Qq:aL
 V5:Df K mg "cut" V1 ["n","word"] Qp Qq
 qr:ae
 qt:aL
 uK:Df K mg "turned_step" yh ["row"] qr qt
 zh:ae
 zj:aL
 CJ:Df K mg "step_of" FD ["n","piece"] zh zj
 qu:ae
 qv:aL
 uL:Df K mg "past_halves" yi ["halves","row"] qu qv
 g6:ae
 g7:aL
 fq:Df K mg "rows_behind_halves" pP ["steps"] g6 g7
 lQ:ae
 lR:aL
 qN:Df K mg "form_of_steps" pU ["n","steps"] lQ lR
 lS:ae
 lT:aL
 qO:Df K mg "steps_of_word" pV ["n","word"] lS lT
 CK:ae
 CL:aL
 uM:Df K mg "form" Qn ["n","word"] CK CL
 Jk:ae
 Jl:aL
 Nj:Df K mg "same" Qo ["n","one","other"] Jk Jl
 sj:ae
 sy:aL
 wJ:Df K mg "_law_mix" Dk ["_law_cell","_law_k","_law_factor"] sj sy
 o4:ae
 o5:aL
 sC:Df K mg "_law_cell_at" xA ["_law_script","_law_k"] o4 o5
 o6:ae
 o7:aL
 sE:Df K mg "_law_strings" xB ["_law_seed","_law_least","_law_most"] o6 o7
 jI:ae
 jJ:aL
 lU:Df K mg "_law_crossing" vx ["_law_number_here","_law_n"] jI jJ
 rF:ae
 rG:aL
 wK:Df K mg "_law_piece" zY ["_law_number_here","_law_n"] rF rG
 rH:ae
 rJ:aL
 wL:Df K mg "_law_drawn" zZ ["_law_cells","_law_n","_law_most"] rH rJ
 uq:ae
 ur:aL
 yr:Df K mg "_law_deed" Bs ["_law_word","_law_n","_law_number_here","_law_room"] uq ur
 uu:ae
 uv:aL
 yt:Df K mg "_law_done" Bt ["_law_word","_law_deed_here"] uu uv
 o8:ae
 o9:aL
 sF:Df K mg "_law_stirred" xC ["_law_word","_law_n","_law_cells","_law_room"] o8 o9
 lB:ae
 lC:aL
 qw:Df K mg "_law_number" yj ["_law_x"] lB lC
 qx:ae
 qy:aL
 uN:Df K mg "_law_is_row" yk ["_law_n","_law_row"] qx qy
 pe:ae
 ph:aL
 sG:Df K mg "_law_is_form" xD ["_law_n","_law_found"] pe ph
 wM:ae
 wN:aL
 sH:Df K mg "_law_one" Dl ["_law_n","_law_word","_law_other"] wM wN
 V6:ae
 Qs:aL
 abX:Df K mg "law" V4 ["_law_script"] V6 Qs
 vz:mg "abs"=none
 V7:mg "bool"=none
 uw:mg "enumerate"=none
 abY:mg "int"=none
 kQ:mg "isinstance"=none
 qG:mg "len"=none
 pA:mg "list"=none
 abZ:mg "max"=none
 wO:mg "range"=none
 sI:mg "reversed"=none
 Lv:mg "sorted"=none
 ab0:mg "sum"=none
 Jm:mg "tuple"=none
 BD:Tok
 BE:mg "MOST_KEPT"=aa (.int 200000 BD)
 xE:Tok
 xF:mg "MOST_STRINGS"=aa (.int 7 xE)
set_option genInjectivity true
set_option genSizeOf true
end DL.yf
namespace DL.H
open PySem PySem.W L2
noncomputable section
def vi(i:Int)(t:Nat):ah:=.int i t
def vs(s:String)(t:Nat):ah:=.str (dF s) t
def vr(a:Nat):ah:=.ref a
def vy(s:String):ah:=.type s
def vb(s:String):ah:=.builtin s
def vn:ah:=.none
def vt:ah:=.bool true
def vf:ah:=.bool false
def pl:Data:=.plain
def ob(c:ah)(d:Data)(s:List (Option ah)):Obj:=⟨c,none,d,⟨s⟩⟩
def en(P:ni)(x:String)(t:Nat)(v:ah):Ia:=⟨PyData.keyHash P (dF x),.str (dF x) t,v⟩
def cd(n:String)(b m:List ah)(s:ae)(q:String)(hd:Bool)(sn:List Str)(su:List ah)(ab:Bool)(c:Option Bool)(de:Bool):ClassData:=⟨dF n,b,m,s,dF q,hd,sn,su,ab,c,de⟩
def E:Obj:=ob (vy "tuple") (.seq ⟨[]⟩ 0) []
def F:Obj:=ob vn (.fields ⟨[]⟩) []
def Z:String:="/claim/cut.py"
def nO(s:aw):Str:=match s with|.FunctionDef n _ _ _ _ _ _ _ _ _=>n|_=>Ou
def lO(s:aw):Nat:=match s with|.FunctionDef _ _ _ _ _ _ _ _ _ p=>p.line|_=>0
def tf(s:aw)(q:Str):Obj:=⟨.none,none,.func {name:=nO s,qualname:=q,params:=jT s,body:=.stmts (eg s),scope:=au s,globals:=0,closure:=[],defaults:=.none,kwdefaults:=.none},⟨[]⟩⟩
def hf(n q:Str)(s:aw)(m:ah)(c:Nat):Obj:=⟨.type "function",none,.func (fnOf n q (jT s) (eg s) (au s) .none .none .none m none (.ref c) .none),⟨[]⟩⟩
def cf(n q:Str)(t l k:Nat)(f:ah)(a b:Nat)(x y z:ah)(u:Nat):Obj:=ob (vy "code") (.fields ⟨[.str n t,.str q (t+1),vs Z (t+2),.int l 0,.int k 0,vi 0 0,vi 0 0,f,vr a,.bool (f !=vi 0 0),vi 181 0,vr b,vn,x,y,z,.int u 0,.int l 0,vs Z (u+1)]⟩) []
def tu:List String->Nat->List ah
 |[],_=>[]
 |x::l,t=>vs x t::tu l (t+1)
def fb7(s:aw)(q:Str)(a t:Nat)(m:ah)(ns:List String):List Obj:=[E,F,ob (vy "tuple") (.seq ⟨tu ns (t+3)⟩ 0) [],E,tf s q,cf (nO s) q t (lO s) (jT s).args.length (vi 3 0) a (a+1) (vr (a+2)) (vr (a+3)) (vr (a+4)) (t+3+ns.length),hf (nO s) q s m (a+5)]
def fb5(s:aw)(q:Str)(a t:Nat)(m:ah):List Obj:=[E,F,tf s q,cf (nO s) q t (lO s) (jT s).args.length (vi 3 0) a (a+1) vn vn (vr (a+2)) (t+3),hf (nO s) q s m (a+3)]
noncomputable def xb(P:ni)(n:String)(a t:Nat)(m:ah)(b:Nat)(l:Nat):List Obj:=
 [ob (vy "tuple") (.seq ⟨[vr b]⟩ 0) [],ob (vy "builtin_function_or_method") (.fields ⟨[vb "type.__prepare__",vy "type"]⟩) [],
  ob (vy "dict") (.dict ⟨[en P "__module__" (t+5) m,en P "__qualname__" (t+7) (vs n (t+6)),en P "__firstlineno__" (t+9) (.int l (t+8)),en P "__static_attributes__" (t+10) (vr (a+7))]⟩ 4) [],E,F,
  cf (dF n) (dF n) t l 0 (vi 0 0) (a+3) (a+4) vn vn vn (t+3),ob (vy "frame") pl [aa (vr (a+5)),aa (vr 3),aa (vr (a+2)),none,aa m,none,aa (vr 0)],E,
  ob (vy "dict") (.dict ⟨[en P "__module__" (t+5) m,en P "__firstlineno__" (t+9) (.int l (t+8)),en P "__static_attributes__" (t+10) (vr (a+7)),en P "__doc__" (t+11) vn]⟩ 2) [],
  ob (vy "type") (.cls (cd n [vr b] [vr (a+9),vr b,vy "ValueError",vy "Exception",vy "BaseException",vy "object"] (a+8) n true [] [] false none false)) [aa (vr a),none,aa (vs n (t-2)),aa (vs n (t+6)),aa (vb "ValueError.__new__"),aa vt],
  ob (vy "super") (.fields ⟨[vr (a+9),vr (a+9),vr (a+9)]⟩) [],ob (vy "builtin_function_or_method") (.fields ⟨[vb "object.__init_subclass__",vr (a+9)]⟩) []]
def sp:List Obj->List Obj×List Obj
 |[]=>([],[])
 |x::l=>(x::(sp l).2,(sp l).1)
def bt:Nat->List Obj->BT
 |0,_=>.nil
 |_+1,[]=>.nil
 |n+1,x::l=>.node x (bt n (sp l).1) (bt n (sp l).2)
end
end DL.H
namespace DL.yf.U2
open PySem PySem.W DL.H L2
noncomputable section
abbrev pw:aS:=PySem.Challenge.pw_braidcomb_k93_whole_strings_out
abbrev T(i:Nat):aw:=DL.yf.top i
def J(i j:Nat):aw:=match T i with|.ClassDef _ _ _ b _ _ _ _ _ _ _=>b.getD j (.Pass ⟨0,0,0,0⟩)|s=>s
noncomputable def M3(P:ni):List Ia:=[en P "__doc__" 166 vn,en P "__package__" 167 vn,en P "__loader__" 168 (vb "__main__.__loader__#opaque"),en P "__spec__" 169 vn,en P "__annotations__" 170 (vr 6),en P "__builtins__" 171 (vr 4),en P "__file__" 173 (vs "/claim/cut.py" 172),en P "__cached__" 174 vn,en P "BraidError" 206 (vr 24),en P "NoRow" 222 (vr 37),en P "NoString" 238 (vr 49),en P "MOST_STRINGS" 242 (vi 7 241),en P "turned" 248 (vr 56),en P "trimmed" 257 (vr 63),en P "refuse_unknown" 267 (vr 70),en P "further_from_nought" 275 (vr 77),en P "place_behind" 283 (vr 84),en P "ribbon_crossings" 292 (vr 91),en P "crossings_of_others" 300 (vr 98),en P "told_along" 312 (vr 105),en P "without" 321 (vr 112),en P "doubled" 330 (vr 119),en P "straight" 339 (vr 126),en P "half" 346 (vr 133),en P "places_of" 356 (vr 140),en P "stops" 362 (vr 145),en P "starts" 369 (vr 152),en P "with_crossing_behind" 377 (vr 159),en P "with_crossing_ahead" 385 (vr 166),en P "row_word" 395 (vr 173),en P "row_of" 405 (vr 180),en P "ahead" 411 (vr 185),en P "flipped_row" 417 (vr 190),en P "MOST_KEPT" 421 (vi 200000 420),en P "as_bits" 430 (vr 197),en P "Comb" 536 (vr 261),en P "form_word" 549 (vr 272),en P "cut" 563 (vr 279),en P "turned_step" 570 (vr 286),en P "step_of" 578 (vr 293),en P "past_halves" 586 (vr 300),en P "rows_behind_halves" 596 (vr 307),en P "form_of_steps" 602 (vr 312),en P "steps_of_word" 608 (vr 317),en P "form" 616 (vr 324),en P "same" 625 (vr 331),en P "_law_mix" 636 (vr 338),en P "_law_cell_at" 644 (vr 345),en P "_law_strings" 653 (vr 352),en P "_law_crossing" 662 (vr 359),en P "_law_piece" 672 (vr 366),en P "_law_drawn" 684 (vr 373),en P "_law_deed" 696 (vr 380),en P "_law_done" 705 (vr 387),en P "_law_stirred" 718 (vr 394),en P "_law_number" 725 (vr 401),en P "_law_is_row" 735 (vr 408),en P "_law_is_form" 746 (vr 415),en P "_law_one" 756 (vr 422),en P "law" 773 (vr 429)]
def m3(P:ni)(v:ah)(k e:Nat):Obj:=ob (vy "dict") (.dict ⟨en P "__name__" 165 v::(M3 P).take k⟩ e) []
noncomputable def L12:List (Nat×Nat):=[(2,20),(4,33),(6,45),(10,55),(12,62),(21,69),(24,76),(28,83),(34,90),(43,97),(49,104),(56,111),(61,118),(67,125),(69,132),(71,139),(76,144),(78,151),(80,158),(82,165),(84,172),(93,179),(102,184),(104,189),(108,196),(113,203),(186,271),(195,278),(210,285),(212,292),(216,299),(220,306),(228,311),(234,316),(236,323),(238,330),(241,337),(243,344),(247,351),(252,358),(257,365),(263,372),(269,379),(281,386),(290,393),(296,400),(298,407),(306,414),(319,421),(322,428)]
def o12(k:Nat):Obj:=ob vn (.fields ⟨(L12.take k).flatMap λx=>[.int x.1 0,vi 0 0,vr x.2]⟩) []
def w0:ah:=vs "braidcomb.errors" 187
def w1:ah:=vs "braidcomb.words" 239
def w2:ah:=vs "braidcomb.strings" 258
def w3:ah:=vs "braidcomb.rows" 331
def w4:ah:=vs "braidcomb.sliding" 418
def w5:ah:=vs "braidcomb.forms" 537
def w6:ah:=vs "law_braidcomb_k93_whole_strings_out" 626
def f7(i a t:Nat)(m:ah)(ns:List String):List Obj:=fb7 (T i) (nO (T i)) a t m ns
def f5(i a t:Nat)(m:ah):List Obj:=fb5 (T i) (nO (T i)) a t m
noncomputable def FL(P:ni):List Obj:=[boot_o_0 P,boot_o_1 P,boot_o_2 P,m3 P w6 60 61,boot_o_4 P,boot_o_5 P,boot_o_6 P,boot_o_7 P,boot_o_8 P,boot_o_9 P,boot_o_10 P]
 ++[E,(o12 50),(ob (vy "code") (.fields ⟨[(vs "<module>" 182),(vs "<module>" 183),(vs "/claim/cut.py" 184),(vi 1 0),(vi 0 0),(vi 0 0),(vi 0 0),(vi 0 0),(vr 11),vf,(vi 181 0),(vr 12),vn,vn,vn,vn,(vi 185 0),(vi 1 0),(vs "/claim/cut.py" 186)]⟩) []),(ob (vy "frame") pl [(aa (vr 13)),(aa (vr 3)),(aa (vr 3)),none,(aa (vs "__main__" 164)),none,(aa (vr 0))]),(ob (vy "tuple") (.seq ⟨[(vy "ValueError")]⟩ 0) []),(ob (vy "builtin_function_or_method") (.fields ⟨[(vb "type.__prepare__"),(vy "type")]⟩) []),(ob (vy "dict") (.dict ⟨[(en P "__module__" 196 (vs "braidcomb.errors" 187)),(en P "__qualname__" 198 (vs "BraidError" 197)),(en P "__firstlineno__" 200 (vi 2 199)),(en P "__static_attributes__" 201 (vr 22))]⟩ 4) []),E,F,(ob (vy "code") (.fields ⟨[(vs "BraidError" 191),(vs "BraidError" 192),(vs "/claim/cut.py" 193),(vi 2 0),(vi 0 0),(vi 0 0),(vi 0 0),(vi 0 0),(vr 18),vf,(vi 181 0),(vr 19),vn,vn,vn,vn,(vi 194 0),(vi 2 0),(vs "/claim/cut.py" 195)]⟩) []),(ob (vy "frame") pl [(aa (vr 20)),(aa (vr 3)),(aa (vr 17)),none,(aa (vs "braidcomb.errors" 187)),none,(aa (vr 0))]),E,(ob (vy "dict") (.dict ⟨[(en P "__module__" 196 (vs "braidcomb.errors" 187)),(en P "__firstlineno__" 200 (vi 2 199)),(en P "__static_attributes__" 201 (vr 22)),(en P "__weakref__" 203 (vr 25)),(en P "__doc__" 204 vn)]⟩ 3) []),(ob (vy "type") (.cls (cd "BraidError" [(vy "ValueError")] [(vr 24),(vy "ValueError"),(vy "Exception"),(vy "BaseException"),(vy "object")] 23 "BraidError" true [] [(vr 37),(vr 49)] false none false)) [(aa (vr 15)),none,(aa (vs "BraidError" 189)),(aa (vs "BraidError" 197)),(aa (vb "ValueError.__new__")),(aa vt)]),(ob (vy "getset_descriptor") (.fields ⟨[(vs "__weakref__" 202),(vr 24),(vb "ExceptionGroup.__weakref__"),vn]⟩) []),(ob (vy "super") (.fields ⟨[(vr 24),(vr 24),(vr 24)]⟩) []),(ob (vy "builtin_function_or_method") (.fields ⟨[(vb "object.__init_subclass__"),(vr 24)]⟩) [])]
 ++xb P "NoRow" 28 209 w0 24 4
 ++xb P "NoString" 40 225 w0 24 6
 ++f5 6 52 243 w1
 ++f7 7 57 249 w1 ["word","left","k"]
 ++f7 9 64 260 w2 ["n","s"]
 ++f7 10 71 268 w2 ["k","many"]
 ++f7 11 78 276 w2 ["place","k"]
 ++f7 12 85 284 w2 ["place","k","wider"]
 ++f7 13 92 293 w2 ["place","k"]
 ++f7 14 99 301 w2 ["word","s","told_at","told","place","k"]
 ++f7 15 106 313 w2 ["n","word","s"]
 ++f7 16 113 322 w2 ["n","word","s"]
 ++f7 18 120 333 w3 ["n"]
 ++f7 19 127 340 w3 ["n"]
 ++f7 20 134 347 w3 ["row","places","place","string"]
 ++f5 21 141 357 w3
 ++f7 22 146 363 w3 ["row"]
 ++f7 23 153 370 w3 ["row","k"]
 ++f7 24 160 378 w3 ["row","k"]
 ++f7 25 167 386 w3 ["row","word","left","firsts"]
 ++f7 26 174 396 w3 ["n","word","row","k"]
 ++f5 27 181 406 w3
 ++f5 28 186 412 w3
 ++f7 31 191 422 w4 ["crossings","bits","k"]
 ++[E,(ob (vy "builtin_function_or_method") (.fields ⟨[(vb "type.__prepare__"),(vy "type")]⟩) []),(ob (vy "dict") (.dict ⟨[(en P "__module__" 438 w4),(en P "__qualname__" 440 (vs "Comb" 439)),(en P "__firstlineno__" 442 (vi 113 441)),(en P "__init__" 450 (vr 211)),(en P "number_of" 459 (vr 218)),(en P "without_first" 469 (vr 225)),(en P "with_last" 479 (vr 232)),(en P "slide" 490 (vr 239)),(en P "slide_kept" 501 (vr 246)),(en P "put" 512 (vr 253)),(en P "form_told" 518 (vr 258)),(en P "__static_attributes__" 529 (vr 259))]⟩ 12) []),E,(ob vn (.fields ⟨[(vi 115 0),(vi 4 0),(vr 210),(vi 127 0),(vi 4 0),(vr 217),(vi 136 0),(vi 4 0),(vr 224),(vi 142 0),(vi 4 0),(vr 231),(vi 148 0),(vi 4 0),(vr 238),(vi 157 0),(vi 4 0),(vr 245),(vi 166 0),(vi 4 0),(vr 252),(vi 180 0),(vi 4 0),(vr 257)]⟩) []),(ob (vy "code") (.fields ⟨[(vs "Comb" 433),(vs "Comb" 434),(vs "/claim/cut.py" 435),(vi 113 0),(vi 0 0),(vi 0 0),(vi 0 0),(vi 0 0),(vr 201),vf,(vi 181 0),(vr 202),vn,vn,vn,vn,(vi 436 0),(vi 113 0),(vs "/claim/cut.py" 437)]⟩) []),(ob (vy "frame") pl [(aa (vr 203)),(aa (vr 3)),(aa (vr 200)),none,(aa w4),none,(aa (vr 0))])]
 ++fb7 (J 32 0) "Comb.__init__" 205 443 w4 ["self","n"]
 ++fb7 (J 32 1) "Comb.number_of" 212 451 w4 ["self","row","key"]
 ++fb7 (J 32 2) "Comb.without_first" 219 460 w4 ["self","number","k","step"]
 ++fb7 (J 32 3) "Comb.with_last" 226 470 w4 ["self","number","k","step"]
 ++fb7 (J 32 4) "Comb.slide" 233 480 w4 ["self","one","other","free","k"]
 ++fb7 (J 32 5) "Comb.slide_kept" 240 491 w4 ["self","one","other","pair","found"]
 ++fb7 (J 32 6) "Comb.put" 247 502 w4 ["self","row","line","place","pair"]
 ++fb5 (J 32 7) "Comb.form_told" 254 513 w4
 ++[(ob (vy "tuple") (.seq ⟨[(vs "firsts" 519),(vs "kept" 520),(vs "known" 521),(vs "lasts" 522),(vs "line" 523),(vs "longer" 524),(vs "none" 525),(vs "numbers" 526),(vs "shorter" 527),(vs "whole" 528)]⟩ 0) []),(ob (vy "dict") (.dict ⟨[(en P "__module__" 438 w4),(en P "__firstlineno__" 442 (vi 113 441)),(en P "__init__" 450 (vr 211)),(en P "number_of" 459 (vr 218)),(en P "without_first" 469 (vr 225)),(en P "with_last" 479 (vr 232)),(en P "slide" 490 (vr 239)),(en P "slide_kept" 501 (vr 246)),(en P "put" 512 (vr 253)),(en P "form_told" 518 (vr 258)),(en P "__static_attributes__" 529 (vr 259)),(en P "__dict__" 531 (vr 262)),(en P "__weakref__" 533 (vr 263)),(en P "__doc__" 534 vn)]⟩ 4) []),(ob (vy "type") (.cls (cd "Comb" [(vy "object")] [(vr 261),(vy "object")] 260 "Comb" true [] [] false none false)) [none,none,(aa (vs "Comb" 431)),(aa (vs "Comb" 439)),(aa (vb "object.__new__")),(aa vt)]),(ob (vy "getset_descriptor") (.fields ⟨[(vs "__dict__" 530),(vr 261),(vb "function.__dict__"),(vb "function.__dict__#set")]⟩) []),(ob (vy "getset_descriptor") (.fields ⟨[(vs "__weakref__" 532),(vr 261),(vb "ExceptionGroup.__weakref__"),vn]⟩) []),(ob (vy "super") (.fields ⟨[(vr 261),(vr 261),(vr 261)]⟩) []),(ob (vy "builtin_function_or_method") (.fields ⟨[(vb "object.__init_subclass__"),(vr 261)]⟩) [])]
 ++f7 34 266 539 w5 ["n","form","turn","word","row"]
 ++f7 35 273 550 w5 ["n","word","pieces","order","sign_above","k","place","held"]
 ++f7 36 280 564 w5 ["row"]
 ++f7 37 287 571 w5 ["n","piece"]
 ++f7 38 294 579 w5 ["halves","row"]
 ++f7 39 301 587 w5 ["steps","rows","halves","step"]
 ++f5 40 308 597 w5
 ++f5 41 313 603 w5
 ++f7 42 318 609 w5 ["n","word"]
 ++f7 43 325 617 w5 ["n","one","other"]
 ++f7 45 332 628 w6 ["_law_cell","_law_k","_law_factor"]
 ++f7 46 339 637 w6 ["_law_script","_law_k"]
 ++f7 47 346 645 w6 ["_law_seed","_law_least","_law_most"]
 ++f7 48 353 654 w6 ["_law_number_here","_law_n","_law_k"]
 ++f7 49 360 663 w6 ["_law_number_here","_law_n","_law_k","_law_other"]
 ++f7 50 367 673 w6 ["_law_cells","_law_n","_law_most","_law_word","_law_k","_law_cell"]
 ++f7 51 374 685 w6 ["_law_word","_law_n","_law_number_here","_law_room","_law_p","_law_here"]
 ++f7 52 381 697 w6 ["_law_word","_law_deed_here","_law_p"]
 ++f7 53 388 706 w6 ["_law_word","_law_n","_law_cells","_law_room","_law_k","_law_cell","_law_deed_here"]
 ++f7 54 395 719 w6 ["_law_x"]
 ++f7 55 402 726 w6 ["_law_n","_law_row","_law_x","_law_up"]
 ++f7 56 409 736 w6 ["_law_n","_law_found","_law_at","_law_row","_law_k"]
 ++f7 57 416 747 w6 ["_law_n","_law_word","_law_other","_law_told"]
 ++f7 58 423 757 w6 ["_law_script","_law_seed","_law_n","_law_room","_law_word","_law_other","_law_plain","_law_s","_law_left","_law_again","_law_wide"]
def as:List ae:=2::3::(bG 419).map (·+11)
def K(P:ni):Frag:=as.map λa=>(a,(FL P).getD a E)
def q:aS:=view pw [1,2,3,5,6,7,9,10,11,12,13,14,15,16,18,19,20,21,22,23,24,25,26,27,28,30,31,32,34,35,36,37,38,39,40,41,42,43,45,46,47,48,49,50,51,52,53,54,55,56,57,58]
def env:Env:={scope:=pw.main.scope,locals:=mainNs,globals:=mainNs,cells:=[],code:=vr 13,frame:=aa 14}
def bd:List aw:=behindTheImports pw
abbrev cE:vN:=.body bd env
abbrev fr:List Frame:=[topFrame ⟨0,0,0,0⟩]
abbrev an:Option ah:=(aa (vr 6))
noncomputable def S(P:ni):Nat->List Obj
 |0=>(((FL P).take 15).set 12 (o12 0)).set 3 (boot_o_3 P)
 |1=>((((FL P).take 40).set 3 (m3 P w0 10 11)).set 12 (o12 2)).set 24 ((ob (vy "type") (.cls (cd "BraidError" [(vy "ValueError")] [(vr 24),(vy "ValueError"),(vy "Exception"),(vy "BaseException"),(vy "object")] 23 "BraidError" true [] [(vr 37)] false none false)) [(aa (vr 15)),none,(aa (vs "BraidError" 189)),(aa (vs "BraidError" 197)),(aa (vb "ValueError.__new__")),(aa vt)]))
 |2=>(((FL P).take 99).set 3 (m3 P w2 19 20)).set 12 (o12 10)
 |3=>(((FL P).take 191).set 3 (m3 P w4 34 35)).set 12 (o12 24)
 |4=>(((FL P).take 198).set 3 (m3 P w4 35 36)).set 12 (o12 25)
 |5=>(((FL P).take 266).set 3 (m3 P w4 36 37)).set 12 (o12 26)
 |6=>(((FL P).take 360).set 3 (m3 P w6 50 51)).set 12 (o12 40)
 |7=>(FL P).take 430
 |_=>[]
abbrev st(i n t:Nat)(w:aD)(os:g8):SharedT:=⟨bt 12 (S w.params i),n,(boot_heap w.params).life,⟨[]⟩,boot_drawn,t,os⟩
def pre(w:aD)(os:g8):topGo wQ pw w 11 an 12 ⟨boot_heap w.params,⟨[]⟩,boot_drawn,boot_toks,os⟩ (topStub pw)=aa ((st 0 15 187 w os).abs,⟨denote wQ cE,cE,⟨0,0,0,0⟩,fr⟩):=by kernel_rfl
def blk(w:aD)(os:g8):segRun wQ pw w 11 an 1 1 (st 0 15 187 w os).abs (blockOf bd env cE ⟨0,0,0,0⟩ fr)=aa (.next,(st 0 15 187 w os).abs,cE,⟨0,0,0,0⟩):=by kernel_rfl
abbrev Pc(N i n t d k:Nat)(p:Pos)(n2 t2:Nat)(p2:Pos)(w:aD)(os:g8):Prop:=segRunT wQ pw w 11 an 1 N (st i n t w os) (piecesOf ((bd.drop d).take k) env cE p fr)=aa (.next,st (i+1) n2 t2 w os,cE,p2)
def pc0(w:aD)(os:g8):Pc 409 0 15 187 0 3 ⟨0,0,0,0⟩ 40 223 ⟨4,0,5,8⟩ w os:=by kernel_rfl
def pc1(w:aD)(os:g8):Pc 449 1 40 223 3 11 ⟨4,0,5,8⟩ 99 301 ⟨43,0,48,14⟩ w os:=by kernel_rfl
def pc2(w:aD)(os:g8):Pc 445 2 99 301 14 17 ⟨43,0,48,14⟩ 191 422 ⟨107,0,107,9⟩ w os:=by kernel_rfl
def pc3(w:aD)(os:g8):Pc 32 3 191 422 31 1 ⟨107,0,107,9⟩ 198 431 ⟨108,0,112,15⟩ w os:=by kernel_rfl
def pc4(w:aD)(os:g8):Pc 466 4 198 431 32 1 ⟨108,0,112,15⟩ 266 537 ⟨113,0,184,80⟩ w os:=by kernel_rfl
def pc5(w:aD)(os:g8):Pc 445 5 266 537 33 16 ⟨113,0,184,80⟩ 360 663 ⟨252,0,256,17⟩ w os:=by kernel_rfl
def pc6(w:aD)(os:g8):Pc 332 6 360 663 49 10 ⟨252,0,256,17⟩ 430 774 ⟨322,0,344,15⟩ w os:=by kernel_rfl
def fin(w:aD)(os:g8):topRun wQ pw w 11 an 2 (st 7 430 774 w os).abs (restOf [] env cE ⟨322,0,344,15⟩ fr)=aa (st 7 430 774 w os).abs:=by kernel_rfl
def cut:bd=((bd.drop 0).take 3++((bd.drop 3).take 11++((bd.drop 14).take 17++((bd.drop 31).take 1++((bd.drop 32).take 1++((bd.drop 33).take 16++((bd.drop 49).take 10++[]))))))):=by kernel_rfl
def rest{tb:String->Option Ed}{p:aS}{w:aD}{n₀ N:Nat}{ann:Option ah}{s r:aj}{b b':List aw}{e:Env}{c:vN}{ps:Pos}{B:List Frame}(h:b=b')(k:topRun tb p w n₀ ann N s (restOf b' e c ps B)=aa r):topRun tb p w n₀ ann N s (restOf b e c ps B)=aa r:=h▸k
def run(w:aD)(os:g8):topRun wQ pw w 11 an (12+(1+(409+(449+(445+(32+(466+(445+(332+2))))))))) ⟨boot_heap w.params,⟨[]⟩,boot_drawn,boot_toks,os⟩ (topStub pw)=aa (st 7 430 774 w os).abs:=go_top (pre w os) (piece_block (blk w os) (rest cut (piece_app (segRun_of (pc0 w os)) (piece_app (segRun_of (pc1 w os)) (piece_app (segRun_of (pc2 w os)) (piece_app (segRun_of (pc3 w os)) (piece_app (segRun_of (pc4 w os)) (piece_app (segRun_of (pc5 w os)) (piece_app (segRun_of (pc6 w os)) (fin w os))))))))))
def lo:List Str:=[]
def hk:Hook:=kHook K as (λ_=>by kernel_rfl)
def Xt(s:aj):Bool:=xlAt q [] s&&recOk (OpenLaw.row PySem.Challenge.rw_braidcomb_k93_whole_strings_out).toRowW.records s
abbrev H1(P:ni):aF:=absHeap (bt 12 (S P 7)) 430 (boot_heap P).life
def ahR(w:aD)(os:g8):(staticsOk (aar pw.main.body) (boot_heap w.params) (H1 w.params)&&namesBound pw (H1 w.params)&&gensDone ⟨H1 w.params,⟨[]⟩,boot_drawn,774,os⟩&&laidKept (boot_heap w.params) (H1 w.params))=true:=by kernel_rfl
def ahS(w:aD)(os:g8):(openSeen q lo (aar pw.main.body) Xt true ⟨H1 w.params,⟨[]⟩,boot_drawn,774,os⟩)=openGood q lo:=by kernel_rfl
def ahT(w:aD)(os:g8):(hk.obs ⟨H1 w.params,⟨[]⟩,boot_drawn,774,os⟩)=hk.val w:=by kernel_rfl
def o1:opening pw=plainProg pw.main.scope.names:=by kernel_rfl
def o2(s:aj):fenceModules? pw s=aa s:=by kernel_rfl
def o3:ble 600 5268=true:=by kernel_rfl
def op(w:aD):(fencedOpening wQ pw w 5268).map (λs=>(s.heap,s.gens,s.drawn,s.toks))=aa (boot_heap w.params,⟨[]⟩,boot_drawn,boot_toks):=boot_open o1 o3 o2 w
def sz(w:aD):((boot_heap w.params).isNs ed&&(⟨[]⟩:Array GenState).size==0,(boot_heap w.params).objs.size,(boot_heap w.params).nsMap ed "__annotations__")=(true,11,an):=by kernel_rfl
def le:ble (12+(1+(409+(449+(445+(32+(466+(445+(332+2))))))))) 5268=true:=by kernel_rfl
def ab(w:aD)(os:g8):aa (st 7 430 774 w os).abs=aa ⟨H1 w.params,⟨[]⟩,boot_drawn,774,os⟩:=by kernel_rfl
def run'(w:aD)(os:g8):topRun wQ pw w 11 an (12+(1+(409+(449+(445+(32+(466+(445+(332+2))))))))) ⟨boot_heap w.params,⟨[]⟩,boot_drawn,boot_toks,os⟩ (topStub pw)=aa ⟨H1 w.params,⟨[]⟩,boot_drawn,774,os⟩:=Eq.trans (run w os) (ab w os)
def left:LeftO pw q lo Xt hk.obs hk.val 5268 true:=
 @LeftO.of_pieces pw q lo Xt hk.α hk.obs hk.val 5268 true boot_heap H1 ⟨[]⟩ ⟨[]⟩ boot_drawn boot_drawn boot_toks 774 11 an (12+(1+(409+(449+(445+(32+(466+(445+(332+2))))))))) op sz run' le (λw=>funext λos=>Prod.ext (ahR w os) (Prod.ext (ahS w os) (ahT w os)))
end
end DL.yf.U2
namespace DL.yf
open PySem PySem.Spec PyProof.Rows L2 DL
abbrev V8:aw:=inClass (top 32) 1
structure XF(K:ak)(mg:Str->Option ah)(C:ae):Prop where
 cl:T7 K C
 kn:kX K C "known"
 nu:kX K C "numbers"
 fi:kX K C "firsts"
 la:kX K C "lasts"
 sh:kX K C "shorter"
 lo:kX K C "longer"
 ke:kX K C "kept"
 li:kX K C "line"
 no:kX K C "none"
 wh:kX K C "whole"
 mgC:mg "Comb"=aa (.ref C)
 mtu:mg "tuple"=none
 mli:mg "list"=none
 mle:mg "len"=none
inductive V9 (K:ak) (C:ae) (vs:List V) (H:Hp) (Q:VK):Prop
 |mk (a:ae) (A:Ad) (ex:List (Str×V)) (n:Nat) (kn:As) (ln:Ap) (B:Nat) (nu sh lo ke:List (List Key×V)) (p:RP) (v:V):(vs=[.ref a,v])->(pH C H a A ex n kn ln B nu sh lo ke)->(n<=7)->(B<1000000)->(Iv n p.1 p.2)->(Is K (λx=>x∉a::A.all) H (.lst (bp p.1)) v)->(∀(i:Nat)(H':Hp)(A':Ad)(mo:As)(Nk:List (List Key×V)),pH C H' a A' ex n (kn++mo) ln (B+1) Nk sh lo ke->(kn++mo)[i]?=aa p->pI H H' (a::A.all) (a::A'.all)->A'.li=A.li->Q (.int i) H')->V9 K C vs H Q
def Lw(K:ak)(C:ae):Sp:=λvs H Q _=>V9 K C vs H Q
section
variable{P:aS}{w:aD}{K:ak}{mg:Str->Option ah}{base:aF}
def sc1:aT ["self","row","key"] ["self","row"] (au V8):=⟨rfl,rfl,rfl,by decide +kernel,rfl,by decide +kernel,by decide +kernel⟩
def afa{f C:ae}{fd:aL}(F:Kh K "number_of" "Comb.number_of" V8 f fd)(T:XF K mg C)(t:Tb K mg)
  (sJ:pF P w K mg base 2 t.yo t.yp ["row"] rY)(zk:pF P w K mg base 1 t.Bw t.Bx ["row"] y0)(Wa:Ok P w K mg base 1 t.zf t.zg ["crossings"] vc)
  (ab3:∀ks:Ap,(∀k∈ks,1<=k/\k<=7)->vc [.lst (bp ks)]=.ok (.int (Nb ks))):fW P w K mg base tw 3 f fd ["self","row"] (Lw K C):=by
 refine F.ok sc1 (λvs H Q E h=>?_) (λcdv A outer s H vs Q E hr h=>?_)
 ·obtain⟨a,A,ex,n,kn,ln,B,nu,sh,lo,ke,p,v,rfl,_⟩:=h
  rfl
 ·obtain⟨a,A,ex,n,kn,ln,B,nu,sh,lo,ke,p,v,rfl,c,hn,hB,iv,XC,k⟩:=h
  have hu:=AG hr;refine⟨_,bz (iP (i:=2) sc1.nd rfl (fM rfl) (yI Gq (by rfl) T.mtu KA (bc (pv 1) bQ)))
   (bz (C1 (Mn (Ce hu (pv 2) (dS (pv 0) rfl)))
    (bz (D1 hu (dS (pv 0) rfl) (pv 2) (qA vU (by rfl) T.mle jn (bc (dS (pv 0) rfl) bQ)) rfl)
    (bz (kD (AF nj yQ yR kI (dS (pv 0) rfl) (bc (yI vV (by rfl) T.mli wj (bc (pv 1) bQ)) bQ)) rfl)
    (bz (kD (AF nj yQ yR kI (dS (pv 0) rfl) (bc (jQ (E:=λ_ _ _=>False) Wa hr.mono (by rfl) t.mK.m t.mK.F.kp t.mK.b .nil rS (bc (jQ (E:=λ_ _ _=>False) sJ hr.mono (by rfl) t.si.m t.si.F.kp t.si.b .nil rS (bc (pv 1) bQ)) bQ)) bQ)) rfl)
    (fz (kD (AF nj yQ yR kI (dS (pv 0) rfl) (bc (jQ (E:=λ_ _ _=>False) Wa hr.mono (by rfl) t.mK.m t.mK.F.kp t.mK.b .nil rS (bc (jQ (E:=λ_ _ _=>False) zk hr.mono (by rfl) t.ze.m t.ze.F.kp t.ze.b .nil rS (bc (pv 1) bQ)) bQ)) bQ)) rfl))))) tN)
   (fz (uA (IC hu (dS (pv 0) rfl) (pv 2) (λ_ _=>rfl))))),?_⟩
  obtain⟨b,vs,rfl,lb,il⟩:=id XC;have ev:=lI il;subst ev;refine⟨_,rfl,b,_,rfl,.inl ⟨lb.sq,λl hl=>?_⟩⟩;have s1:bM H (upd H l (.tup (p.1.map V.int))):=bY hl _;have c1:=c.same s1;have hkey:(upd H l (.tup (p.1.map V.int))) l=aa (.tup ((kk p.1).map kV)):=by rw[alr];exact aU
  show 'Ç';generalize hH1:upd H l (.tup (p.1.map V.int))=H1 at s1 c1 hkey Jo;refine⟨_,rfl,_,rfl,a,C,A.dx,_,_,rfl,c1.ob,T.cl,T.nu,PZ,A.nu,_,rfl,vX.t c1.GA hkey,_,rfl,?_⟩
  by_cases hm:∃q∈kn,q.1=p.1
  ·obtain⟨q,hq,eq⟩:=hm
   have hqp:q=p:=qT (c.rw q hq) iv eq;subst hqp;obtain⟨i,hi,ei⟩:=D2 hq;have ER:kn[i]?=aa q:=(by rw[aP hi,ei]);have hv:=c.n1 i q ER;rw[hv];refine Cc ?_;refine⟨_,rfl,a,C,A.dx,_,_,rfl,c1.ob,T.cl,T.nu,PZ,_,rfl,A.nu,.int i,rfl,?_,?_⟩
   ·have:=vX.t (k:=kk q.1) c1.GA hkey
    rw[hv]at this;exact this
   ·exact k i H1 A [] nu (by rw[bg];exact c1.more (by lia)) (by rw[bg];exact ER) Jo rfl
  ·have hv:iQ nu (kk p.1)=none:=c.n2 p.1 λq hq e=>hm ⟨q,hq,e⟩
   rw[hv];refine Dr ?_;have hz:=c.z;obtain⟨n1,n2,n3,n4,n5,n6,m1,m2,m3,m4,m5,m6,ksn,d1,d2,d3,d4,d5,d6,d7,d8,d9,ksd⟩:=c.nes;have big:∀{x:Nat},x<=1000001->x<aK:=λh=>AH h (by decide);have aas:∀x∈A.hd,x∈a::A.all:=λx hx=>bE _ (mW _ hx);refine⟨_,rfl,a,C,A.dx,_,_,rfl,c1.ob,T.cl,T.kn,Hi,A.kn,_,rfl,.inl (gS.of c1.hkn),_,rfl,a,C,A.dx,_,_,rfl,c1.ob,T.cl,T.nu,PZ,_,rfl,A.nu,_,rfl,Km.t c1.GA hkey (big (by lia)),?_⟩;rw[aN,c.Lj];have k1n:A.kn≠A.nu:=eT c.hkn c.GA (by intro z;cases z);have fin:A.fi≠A.nu:=eT c.Gf c.GA (by intro z;cases z);have lan:A.la≠A.nu:=eT c.hla c.GA (by intro z;cases z);have an:a≠A.nu:=eT c.ob c.GA (by intro z;cases z);have akn:a≠A.kn:=eT c.ob c.hkn (by intro z;cases z);have afi:a≠A.fi:=eT c.ob c.Gf (by intro z;cases z);have ala:a≠A.la:=eT c.ob c.hla (by intro z;cases z);have ln1:l≠A.nu:=λz=>by rw[z,c.GA]at hl;cases hl
   generalize hH2:upd H1 A.nu (.dT (putK nu (kk p.1) (.int (kn.length:Int))))=H2;have ob2:H2 a=aa (.ins C A.dx (Du A++ex)):=(by rw[<-hH2,aH an];exact c1.ob);have kn2:H2 A.kn=aa (.lst (A.ks.map V.ref)):=(by rw[<-hH2,aH k1n];exact c1.hkn);have Nm:pI H H2 (a::A.all) (a::A.all):=Jo.trans (by rw[<-hH2];exact pI.upd (aas _ (by simp[Ad.hd])) _);have lb2:Ds K (λ_=>True) H2 b (p.1.map V.int):=lb.ext ⟨λ_ _ _ _=>trivial,λx o px hx=>Nm.kp x o px hx⟩;refine⟨_,rfl,a,C,A.dx,_,_,rfl,ob2,T.cl,T.kn,Hi,.inl ⟨rfl,_,gS.of kn2⟩,_,rfl,b,_,rfl,.inl lb2.sq,λl2 hl2=>?_⟩;have l2H:H l2=none:=Nm.gr l2 hl2;have l2k:A.kn≠l2:=λz=>by rw[<-z,kn2]at hl2;cases hl2
   refine⟨A.kn,A.ks.map V.ref,.ref l2,rfl,rfl,by rw[aH l2k];exact kn2,by rw[aN,c.Lj];exact big (by lia),?_⟩;generalize XG:upd (upd H2 l2 (.lst (p.1.map V.int))) A.kn (.lst (A.ks.map V.ref++[.ref l2]))=H3;have B7:pI H H3 (a::A.all) (a::A.all):=by rw[<-XG];exact(Nm.trans (pI.same (bY hl2 _) _)).trans (pI.upd (aas _ (by simp[Ad.hd])) _)
   have ob3:H3 a=aa (.ins C A.dx (Du A++ex)):=(by rw[<-XG,aH akn];exact bY hl2 _ _ _ ob2);have fi3:H3 A.fi=aa (.lst (kn.map λp=>V.int (Dv p.2))):=by rw[<-XG,aH (Ne.symm n1)];show 'V';rw[<-hH2,aH fin];exact c1.Gf
   have lb3:Ds K (λ_=>True) H3 b (p.1.map V.int):=lb.ext ⟨λ_ _ _ _=>trivial,λx o px hx=>B7.kp x o px hx⟩;refine⟨_,rfl,a,C,A.dx,_,_,rfl,ob3,T.cl,T.fi,VF,.inl ⟨rfl,_,gS.of fi3⟩,_,rfl,_,[.lst (bp p.1)],⟨.ref b,[],rfl,⟨b,_,rfl,lb3,fg p.1⟩,rfl⟩,?_⟩;have hd7:∀(m:Nat)(x y:Ap),m<=7->Iv m x y->∀k∈Ak y,1<=k/\k<=7:=λm x y hm h k hk=>by obtain⟨a',e,h1,_⟩:=ug.mp hk;rw[h.ls]at h1;lia
   rw[Cy iv hn];intro q ws H4 s4 hq4 hw4 iw4;have ew:=lI iw4;subst ew;refine⟨λ_=>True,[.lst (bp (Ak p.2))],⟨.ref q,[],rfl,⟨q,_,rfl,.inl ⟨trivial,.inl hw4⟩,fg _⟩,rfl⟩,?_⟩;rw[ab3 _ (hd7 n p.1 p.2 hn iv)];intro v5 H5 s5 i5;have e5:v5=.int (Nb (Ak p.2)):=i5;subst e5;have s35:=s4.trans s5;refine⟨A.fi,_,.int (Dv p.2),rfl,rfl,s35 _ _ fi3,by rw[aN];exact big (by lia),?_⟩;generalize XH:upd H5 A.fi (.lst ((kn.map λp=>V.int (Dv p.2))++[V.int (Dv p.2)]))=H6;have fr6:pI H H6 (a::A.all) (a::A.all):=by rw[<-XH];exact(B7.trans (pI.same s35 _)).trans (pI.upd (aas _ (by simp[Ad.hd])) _)
   have ob6:H6 a=aa (.ins C A.dx (Du A++ex)):=(by rw[<-XH,aH afi];exact s35 _ _ ob3);have la6:H6 A.la=aa (.lst (kn.map λp=>V.int (Dv p.1))):=by rw[<-XH,aH (Ne.symm n4)];show '%';rw[<-XG,aH (Ne.symm n2)];show 'V';rw[<-hH2,aH lan];exact c1.hla
   have lb6:Ds K (λ_=>True) H6 b (p.1.map V.int):=lb.ext ⟨λ_ _ _ _=>trivial,λx o px hx=>fr6.kp x o px hx⟩;refine⟨_,rfl,a,C,A.dx,_,_,rfl,ob6,T.cl,T.la,VG,.inl ⟨rfl,_,gS.of la6⟩,_,rfl,_,[.lst (bp p.1)],⟨.ref b,[],rfl,⟨b,_,rfl,lb6,fg p.1⟩,rfl⟩,?_⟩;rw[Lh p.1 (by rw[iv.lr];exact hn)];intro q7 ws7 H7 s7 hq7 hw7 iw7;have ew7:=lI iw7;subst ew7;refine⟨λ_=>True,[.lst (bp (Ak p.1))],⟨.ref q7,[],rfl,⟨q7,_,rfl,.inl ⟨trivial,.inl hw7⟩,fg _⟩,rfl⟩,?_⟩;rw[ab3 _ (hd7 n p.2 p.1 hn iv.symm)];intro v8 H8 s8 i8;have e8:v8=.int (Nb (Ak p.1)):=i8;subst e8;have s68:=s7.trans s8;refine⟨A.la,_,.int (Dv p.1),rfl,rfl,s68 _ _ la6,by rw[aN];exact big (by lia),?_⟩;generalize hH9:upd H8 A.la (.lst ((kn.map λp=>V.int (Dv p.1))++[V.int (Dv p.1)]))=H9;have fr9:pI H H9 (a::A.all) (a::A.all):=by rw[<-hH9];exact(fr6.trans (pI.same s68 _)).trans (pI.upd (aas _ (by simp[Ad.hd])) _)
   have keep:∀x o,x≠A.nu->x≠A.kn->x≠A.fi->x≠A.la->H x=aa o->H9 x=aa o:=λx o x1 x2 x3 x4 hx=>by rw[<-hH9,aH x4];show '#';rw[<-XH,aH x3];show '%';rw[<-XG,aH x2];show 'V';rw[<-hH2,aH x1];exact s1 _ _ hx
   have ob9:H9 a=aa (.ins C A.dx (Du A++ex)):=keep a _ an akn afi ala c.ob;have nu9:H9 A.nu=aa (.dT (putK nu (kk p.1) (.int (kn.length:Int)))):=by rw[<-hH9,aH (Ne.symm lan)];show '#';rw[<-XH,aH (Ne.symm fin)];show '%';rw[<-XG,aH (Ne.symm k1n)];show 'V';rw[<-hH2];exact aU
   have amx:H9 l=aa (.tup ((kk p.1).map kV)):=by
    have lk:∀{x:ae}{o:HO},H x=aa o->l≠x:=λhx z=>by rw[z,hx]at hl;cases hl
    rw[<-hH9,aH (lk c.hla)];show '#';rw[<-XH,aH (lk c.Gf)];show '%';rw[<-XG,aH (lk c.hkn)];show 'V';rw[<-hH2,aH (lk c.GA)];exact hkey
   have l29:H9 l2=aa (.lst (p.1.map V.int)):=by
    have lk:∀{x:ae}{o:HO},H x=aa o->l2≠x:=λhx z=>by rw[z,hx]at l2H;cases l2H
    rw[<-hH9,aH (lk c.hla)];show '#';rw[<-XH,aH (lk c.Gf)];show '%';rw[<-XG,aH (lk c.hkn)];exact aU
   have kn9:H9 A.kn=aa (.lst (A.ks.map V.ref++[.ref l2])):=by rw[<-hH9,aH n2];show '#';rw[<-XH,aH n1];show '%';rw[<-XG];exact aU
   have fi9:H9 A.fi=aa (.lst ((kn.map λp=>V.int (Dv p.2))++[V.int (Dv p.2)])):=by rw[<-hH9,aH n4];show '#';rw[<-XH];exact aU
   have la9:H9 A.la=aa (.lst ((kn.map λp=>V.int (Dv p.1))++[V.int (Dv p.1)])):=by rw[<-hH9];exact aU
   have GB:∀j,iQ (putK nu (kk p.1) (.int (kn.length:Int))) j=if j=kk p.1 then aa (.int (kn.length:Int))else iQ nu j:=λj=>rR nu (kk p.1) j _;have c9:=c.add hm iv l2H ob9 nu9 kn9 fi9 la9 l29 keep;refine⟨_,rfl,a,C,A.dx,_,_,rfl,ob9,T.cl,T.nu,PZ,_,rfl,A.nu,.int (kn.length:Int),rfl,?_,?_⟩
   ·have:=vX.t (k:=kk p.1) nu9 amx
    rw[GB,if_pos rfl]at this;exact this
   ·refine k kn.length H9 _ [p] _ c9 (by simp) ⟨fr9.kp,λx hx=>?_,fr9.gr⟩ rfl
    have UZ:x∈a::(A.hd++(A.ks++[l2])):=hx;rw[<-aZ,<-cB]at UZ;rcases cu.mp UZ with h|h
    ·exact .inl h
    ·have:x=l2:=by simpa using h
     rw[this];exact .inr l2H
end
end DL.yf
namespace DL.yf
open PySem PySem.Spec PyProof.Rows L2 DL
abbrev Wb:aw:=inClass (top 32) 2
inductive Wc (C:ae) (vs:List V) (H:Hp) (Q:VK):Prop
 |mk (a:ae) (A:Ad) (z w:Int) (n:Nat) (kn:As) (ln:Ap) (B:Nat) (nu sh lo ke:List (List Key×V)) (p:RP) (i j:Nat):(vs=[.ref a,.int i,.int ((j:Int)+1)])->(pH C H a A (Dc z w) n kn ln B nu sh lo ke)->(n<=7)->(B+1<1000000)->(kn[i]?=aa p)->(j+1<n)->(∀(i':Nat)(H':Hp)(A':Ad)(mo:As)(Nk sh':List (List Key×V)),pH C H' a A' (Dc z w) n (kn++mo) ln (B+2) Nk sh' lo ke->(kn++mo)[i']?=aa (yd p j)->pI H H' (a::A.all) (a::A'.all)->A'.li=A.li->Q (.int i') H')->Wc C vs H Q
def ab7(C:ae):Sp:=λvs H Q _=>Wc C vs H Q
section
variable{P:aS}{w:aD}{K:ak}{mg:Str->Option ah}{base:aF}
def sc2:aT ["self","number","k","step"] ["self","number","k"] (au Wb):=⟨rfl,rfl,rfl,by decide +kernel,rfl,by decide +kernel,by decide +kernel⟩
def ahW{f C fN:ae}{fd Wd:aL}(F:Kh K "without_first" "Comb.without_first" Wb f fd)(T:XF K mg C)(t:Tb K mg)
  (mN:Meth K C "number_of" fN)(bN:Binds K Wd ["self","row"] [])(GN:fW P w K mg base tw 3 fN Wd ["self","row"] (Lw K C))
  (G_x:pF P w K mg base 2 t.eM t.eO ["row","k"] dG):fW P w K mg base tw 4 f fd ["self","number","k"] (ab7 C):=by
 refine F.ok sc2 (λvs H Q E h=>?_) (λcdv A outer s H vs Q E hr h=>?_)
 ·obtain⟨a,A,z,w,n,kn,ln,B,nu,sh,lo,ke,p,i,j,rfl,_⟩:=h
  rfl
 ·obtain⟨a,A,z,w,n,kn,ln,B,nu,sh,lo,ke,p,i,j,rfl,c,hn,hB,hi,hj,k⟩:=h
  have hu:=AG hr;refine⟨_,bz (iP (i:=3) sc2.nd rfl (fM rfl) (B9 (bc (pv 1) (bc (pv 2) bQ))))
   (bz (C1 (Mn (Ce hu (pv 3) (dS (pv 0) rfl)))
    (fz (D1 hu (dS (pv 0) rfl) (pv 3) (qd (pv 0) T.cl mN GN hr.mono bN .nil xr (bc (jQ (E:=λ_ _ _=>False) G_x hr.mono (by rfl) t.dH.m t.dH.F.kp t.dH.b .nil rS (bc (pK jj (dS (pv 0) rfl) (pv 1) (λ_ _=>rfl)) (bc (pv 2) bQ))) bQ)) rfl)) tN)
   (fz (uA (IC hu (dS (pv 0) rfl) (pv 3) (λ_ _=>rfl))))),?_⟩
  show 'x';have s1:bM H (upd H l (.tup [.int i,.int ((j:Int)+1)])):=bY hl _;have c1:=c.same s1;have hkey:(upd H l (.tup [.int i,.int ((j:Int)+1)])) l=aa (.tup (([.inl (i:Int),.inl ((j:Int)+1)]:List Key).map kV)):=aU;show 'Ç';have hlF:l∉a::A.all:=λhx=>by obtain⟨o,ho⟩:=c.there hx;rw[hl]at ho;cases ho
  generalize hH1:upd H l (.tup [.int i,.int ((j:Int)+1)])=H1 at s1 c1 hkey Jo;refine⟨_,rfl,_,rfl,a,C,A.dx,_,_,rfl,c1.ob,T.cl,T.sh,P1,A.sh,_,rfl,vX.t c1.hsh hkey,_,rfl,?_⟩;have ej:((j:Int)+1-1).toNat=j:=by lia
  cases hv:iQ sh ([.inl (i:Int),.inl ((j:Int)+1)]:List Key)with
  |some v=>
   refine Cc ?_;obtain⟨j',p',h1,h2,rfl⟩:=c.s1 i ((j:Int)+1) v hv;rw[hi]at h1;cases h1;rw[ej]at h2;refine⟨_,rfl,a,C,A.dx,_,_,rfl,c1.ob,T.cl,T.sh,P1,_,rfl,A.sh,.int j',rfl,?_,?_⟩
   ·have:=vX.t (k:=[.inl (i:Int),.inl ((j:Int)+1)]) c1.hsh hkey
    rw[hv]at this;exact this
   ·exact k j' H1 A [] nu sh (by rw[bg];exact c1.more (by lia)) (by rw[bg];exact h2) Jo rfl
  |none=>
   refine Dr ?_;have iv:=c.rw p (dU hi);have UO:i<A.ks.length:=(by rw[c.Lj];exact(bH.mp hi).1);have hb1:=c1.hks i A.ks[i] p (aP UO) hi;show 'e';rw[Li iv hn hj];intro q ws H2 s2 hq2 hw2 iw2;have ew:=lI iw2;subst ew;have c2:=c1.same s2;have hqF:q∉a::A.all:=λhx=>by obtain⟨o,ho⟩:=c1.there hx;rw[hq2]at ho;cases ho
   refine⟨a,A,Dc z w,n,kn,ln,B,nu,sh,lo,ke,yd p j,.ref q,rfl,c2,hn,by lia,iv.step hj,⟨q,_,rfl,.inl ⟨hqF,.inl hw2⟩,fg _⟩,λi' H3 A' mo Nk c3 hi3 B7 eli=>?_⟩;have BF:H3 l=aa (.tup (([.inl (i:Int),.inl ((j:Int)+1)]:List Key).map kV)):=B7.kp l _ hlF (s2 _ _ hkey);have hz:=c3.z;refine⟨_,rfl,a,C,A'.dx,_,_,rfl,c3.ob,T.cl,T.sh,P1,_,rfl,A'.sh,_,rfl,Km.t c3.hsh BF (AH (show sh.length<=1000001 by lia) (by decide)),?_⟩;have ER:(kn++mo)[i]?=aa p:=fK hi;have c4:=c3.ae2 (i:=i) (j:=i') (k:=(j:Int)+1) ER (by rw[ej];exact hi3);have hl4:A'.sh≠l:=λzz=>by rw[<-zz,c3.hsh]at BF;cases BF
   refine⟨_,rfl,a,C,A'.dx,_,_,rfl,c4.ob,T.cl,T.sh,P1,_,rfl,A'.sh,.int i',rfl,?_,?_⟩
   ·have hk4:(upd H3 A'.sh (.dT (putK sh [.inl (i:Int),.inl ((j:Int)+1)] (.int i')))) l=aa (.tup (([.inl (i:Int),.inl ((j:Int)+1)]:List Key).map kV)):=by rw[aH (Ne.symm hl4)];exact BF
    have:=vX.t (k:=[.inl (i:Int),.inl ((j:Int)+1)]) c4.hsh hk4;rw[rR,if_pos rfl]at this;exact this
   ·refine k i' _ A' mo Nk _ c4 hi3 ?_ eli
    exact((Jo.trans (pI.same s2 _)).trans B7).trans (pI.upd (bE _ (mW _ (by simp[Ad.hd]))) _)
end
abbrev We:aw:=inClass (top 32) 3
inductive Wf (C:ae) (vs:List V) (H:Hp) (Q:VK):Prop
 |mk (a:ae) (A:Ad) (z w:Int) (n:Nat) (kn:As) (ln:Ap) (B:Nat) (nu sh lo ke:List (List Key×V)) (p:RP) (i j:Nat):(vs=[.ref a,.int i,.int ((j:Int)+1)])->(pH C H a A (Dc z w) n kn ln B nu sh lo ke)->(n<=7)->(B+1<1000000)->(kn[i]?=aa p)->(j+1<n)->(∀(i':Nat)(H':Hp)(A':Ad)(mo:As)(Nk lo':List (List Key×V)),pH C H' a A' (Dc z w) n (kn++mo) ln (B+2) Nk sh lo' ke->(kn++mo)[i']?=aa (wB p j)->pI H H' (a::A.all) (a::A'.all)->A'.li=A.li->Q (.int i') H')->Wf C vs H Q
def ab8(C:ae):Sp:=λvs H Q _=>Wf C vs H Q
section
variable{P:aS}{w:aD}{K:ak}{mg:Str->Option ah}{base:aF}
def sc3:aT ["self","number","k","step"] ["self","number","k"] (au We):=⟨rfl,rfl,rfl,by decide +kernel,rfl,by decide +kernel,by decide +kernel⟩
def ahY{f C fN:ae}{fd Wd:aL}(F:Kh K "with_last" "Comb.with_last" We f fd)(T:XF K mg C)(t:Tb K mg)
  (mN:Meth K C "number_of" fN)(bN:Binds K Wd ["self","row"] [])(GN:fW P w K mg base tw 3 fN Wd ["self","row"] (Lw K C))
  (G_x:pF P w K mg base 1 t.dA t.dB ["row","k"] cC):fW P w K mg base tw 4 f fd ["self","number","k"] (ab8 C):=by
 refine F.ok sc3 (λvs H Q E h=>?_) (λcdv A outer s H vs Q E hr h=>?_)
 ·obtain⟨a,A,z,w,n,kn,ln,B,nu,sh,lo,ke,p,i,j,rfl,_⟩:=h
  rfl
 ·obtain⟨a,A,z,w,n,kn,ln,B,nu,sh,lo,ke,p,i,j,rfl,c,hn,hB,hi,hj,k⟩:=h
  have hu:=AG hr;refine⟨_,bz (iP (i:=3) sc3.nd rfl (fM rfl) (B9 (bc (pv 1) (bc (pv 2) bQ))))
   (bz (C1 (Mn (Ce hu (pv 3) (dS (pv 0) rfl)))
    (fz (D1 hu (dS (pv 0) rfl) (pv 3) (qd (pv 0) T.cl mN GN hr.mono bN .nil xr (bc (jQ (E:=λ_ _ _=>False) G_x hr.mono (by rfl) t.cR.m t.cR.F.kp t.cR.b .nil rS (bc (pK jj (dS (pv 0) rfl) (pv 1) (λ_ _=>rfl)) (bc (pv 2) bQ))) bQ)) rfl)) tN)
   (fz (uA (IC hu (dS (pv 0) rfl) (pv 3) (λ_ _=>rfl))))),?_⟩
  show 'x';have s1:bM H (upd H l (.tup [.int i,.int ((j:Int)+1)])):=bY hl _;have c1:=c.same s1;have hkey:(upd H l (.tup [.int i,.int ((j:Int)+1)])) l=aa (.tup (([.inl (i:Int),.inl ((j:Int)+1)]:List Key).map kV)):=aU;show 'Ç';have hlF:l∉a::A.all:=λhx=>by obtain⟨o,ho⟩:=c.there hx;rw[hl]at ho;cases ho
  generalize hH1:upd H l (.tup [.int i,.int ((j:Int)+1)])=H1 at s1 c1 hkey Jo;refine⟨_,rfl,_,rfl,a,C,A.dx,_,_,rfl,c1.ob,T.cl,T.lo,P4,A.lo,_,rfl,vX.t c1.hlo hkey,_,rfl,?_⟩;have ej:((j:Int)+1-1).toNat=j:=by lia
  cases hv:iQ lo ([.inl (i:Int),.inl ((j:Int)+1)]:List Key)with
  |some v=>
   refine Cc ?_;obtain⟨j',p',h1,h2,rfl⟩:=c.l1 i ((j:Int)+1) v hv;rw[hi]at h1;cases h1;rw[ej]at h2;refine⟨_,rfl,a,C,A.dx,_,_,rfl,c1.ob,T.cl,T.lo,P4,_,rfl,A.lo,.int j',rfl,?_,?_⟩
   ·have:=vX.t (k:=[.inl (i:Int),.inl ((j:Int)+1)]) c1.hlo hkey
    rw[hv]at this;exact this
   ·exact k j' H1 A [] nu lo (by rw[bg];exact c1.more (by lia)) (by rw[bg];exact h2) Jo rfl
  |none=>
   refine Dr ?_;have iv:=c.rw p (dU hi);have UO:i<A.ks.length:=(by rw[c.Lj];exact(bH.mp hi).1);have hb1:=c1.hks i A.ks[i] p (aP UO) hi;show 'e';rw[Cz (by rw[iv.lr];exact hn) (by rw[iv.lr];exact hj)];intro q ws H2 s2 hq2 hw2 iw2;have ew:=lI iw2;subst ew;have c2:=c1.same s2;have hqF:q∉a::A.all:=λhx=>by obtain⟨o,ho⟩:=c1.there hx;rw[hq2]at ho;cases ho
   refine⟨a,A,Dc z w,n,kn,ln,B,nu,sh,lo,ke,wB p j,.ref q,rfl,c2,hn,by lia,(iv.symm.step hj).symm,⟨q,_,rfl,.inl ⟨hqF,.inl hw2⟩,fg _⟩,λi' H3 A' mo Nk c3 hi3 B7 eli=>?_⟩;have BF:H3 l=aa (.tup (([.inl (i:Int),.inl ((j:Int)+1)]:List Key).map kV)):=B7.kp l _ hlF (s2 _ _ hkey);have hz:=c3.z;refine⟨_,rfl,a,C,A'.dx,_,_,rfl,c3.ob,T.cl,T.lo,P4,_,rfl,A'.lo,_,rfl,Km.t c3.hlo BF (AH (show lo.length<=1000001 by lia) (by decide)),?_⟩;have ER:(kn++mo)[i]?=aa p:=fK hi;have c4:=c3.ae3 (i:=i) (j:=i') (k:=(j:Int)+1) ER (by rw[ej];exact hi3);have hl4:A'.lo≠l:=λzz=>by rw[<-zz,c3.hlo]at BF;cases BF
   refine⟨_,rfl,a,C,A'.dx,_,_,rfl,c4.ob,T.cl,T.lo,P4,_,rfl,A'.lo,.int i',rfl,?_,?_⟩
   ·have hk4:(upd H3 A'.lo (.dT (putK lo [.inl (i:Int),.inl ((j:Int)+1)] (.int i')))) l=aa (.tup (([.inl (i:Int),.inl ((j:Int)+1)]:List Key).map kV)):=by rw[aH (Ne.symm hl4)];exact BF
    have:=vX.t (k:=[.inl (i:Int),.inl ((j:Int)+1)]) c4.hlo hk4;rw[rR,if_pos rfl]at this;exact this
   ·refine k i' _ A' mo Nk _ c4 hi3 ?_ eli
    exact((Jo.trans (pI.same s2 _)).trans B7).trans (pI.upd (bE _ (mW _ (by simp[Ad.hd]))) _)
end
end DL.yf
namespace DL.yf
open PySem PySem.Spec PyProof.Rows L2 DL
abbrev Wg:aw:=inClass (top 32) 4
inductive Wh (C:ae) (vs:List V) (H:Hp) (Q:VK):Prop
 |mk (a:ae) (A:Ad) (z w:Int) (n:Nat) (kn:As) (ln:Ap) (B:Nat) (nu sh lo ke:List (List Key×V)) (p q:RP) (i j:Nat):(vs=[.ref a,.int i,.int j])->(pH C H a A (Dc z w) n kn ln B nu sh lo ke)->(n<=7)->(B+300<1000000)->(kn[i]?=aa p)->(kn[j]?=aa q)->(∀(t:ae)(i' j':Nat)(H':Hp)(A':Ad)(mo:As)(Nk sh' lo':List (List Key×V)),pH C H' a A' (Dc z w) n (kn++mo) ln (B+200) Nk sh' lo' ke->(kn++mo)[i']?=aa (gO 50 p q).1->(kn++mo)[j']?=aa (gO 50 p q).2->H t=none->H' t=aa (.tup [.int i',.int j'])->pI H H' (a::A.all) (a::A'.all)->A'.li=A.li->Q (.ref t) H')->Wh C vs H Q
def ab9(C:ae):Sp:=λvs H Q _=>Wh C vs H Q
section
variable{P:aS}{w:aD}{K:ak}{mg:Str->Option ah}{base:aF}
def sc4:aT ["self","one","other","free","k"] ["self","one","other"] (au Wg):=⟨rfl,rfl,rfl,by decide +kernel,rfl,by decide +kernel,by decide +kernel⟩
def ahZ{f C fS fL:ae}{fd fdS fdL:aL}(F:Kh K "slide" "Comb.slide" Wg f fd)(T:XF K mg C)
  (mS:Meth K C "without_first" fS)(bS:Binds K fdS ["self","number","k"] [])(GS:fW P w K mg base tw 4 fS fdS ["self","number","k"] (ab7 C))
  (mL:Meth K C "with_last" fL)(bL:Binds K fdL ["self","number","k"] [])(GL:fW P w K mg base tw 4 fL fdL ["self","number","k"] (ab8 C)):fW P w K mg base tw 5 f fd ["self","one","other"] (ab9 C):=by
 refine F.ok sc4 (λvs H Q E h=>?_) (λcdv A outer s H vs Q E hr h=>?_)
 ·obtain⟨a,A,z,w,n,kn,ln,B,nu,sh,lo,ke,p,q,i,j,rfl,_⟩:=h
  rfl
 ·obtain⟨a,A,z,w,n,kn,ln,B,nu,sh,lo,ke,p,q,i,j,rfl,c,hn,hB,hi,hj,k⟩:=h
  have hu:=AG hr;refine⟨_,bz (iP (i:=3) sc4.nd rfl (fM rfl) (zN TZ (pK jj (dS (pv 0) rfl) (pv 2) (λ_ _=>rfl)) (Og T3 (pK jj (dS (pv 0) rfl) (pv 1) (λ_ _=>rfl)))))
   (bz (Ay gK (qY jO (pv 3) m7 (bf _))
    (bz (iP (i:=4) sc4.nd rfl (fM rfl) (Iw PySem.F.plainAttrs_int PySem.F.slot_int_bit_length PySem.F.type_int_bit_length Z7 (pv 3)))
    (bz (iP (i:=1) sc4.nd rfl (fM rfl) (qd (pv 0) T.cl mL GL hr.mono bL .nil xr (bc (pv 1) (bc (pv 4) bQ))))
    (bz (iP (i:=2) sc4.nd rfl (fM rfl) (qd (pv 0) T.cl mS GS hr.mono bS .nil xr (bc (pv 2) (bc (pv 4) bQ))))
    (fz (iP (i:=3) sc4.nd rfl (fM rfl) (zN TZ (pK jj (dS (pv 0) rfl) (pv 2) (λ_ _=>rfl)) (Og T3 (pK jj (dS (pv 0) rfl) (pv 1) (λ_ _=>rfl))))))))))
   (fz (uA (B9 (bc (pv 1) (bc (pv 2) bQ)))))),?_⟩
  have rdB:∀{H2:Hp}{A2:Ad}{kn2:As}{B2:Nat}{Ex FH lo2:List (List Key×V)}{i2:Nat}{p2:RP},pH C H2 a A2 (Dc z w) n kn2 ln B2 Ex FH lo2 ke->kn2[i2]?=aa p2->mO (kn2.map λp=>V.int (Dv p.2)) (i2:Int)=aa (.int (Dv p2.2))/\mO (kn2.map λp=>V.int (Dv p.1)) (i2:Int)=aa (.int (Dv p2.1)):=λc2 h2=>
   ⟨qg (by rw[bK,h2];rfl),qg (by rw[bK,h2];rfl)⟩
  have l7:∀{x:RP},Iv n x.1 x.2->x.1.length<=7/\x.2.length<=7:=λh=>⟨by rw[h.lr];exact hn,by rw[h.ls];exact hn⟩
  have ivp:=c.rw p (dU hi);have ivq:=c.rw q (dU hj);refine⟨_,rfl,a,C,A.dx,_,_,rfl,c.ob,T.cl,T.fi,VF,_,rfl,A.fi,_,j,_,rfl,rfl,gS.of c.Gf,(rdB c hj).1,_,rfl,a,C,A.dx,_,_,rfl,c.ob,T.cl,T.la,VG,_,rfl,A.la,_,i,_,rfl,rfl,gS.of c.hla,(rdB c hi).2,_,rfl,_,_,rfl,rfl,?_⟩;dsimp only;rw[P5 (l7 ivp).1 (l7 ivq).2];refine⟨λm σ H2=>∃(A2:Ad)(mo:As)(Ex FH lo2:List (List Key×V))(i2 j2:Nat)(p2 q2:RP)(s:Nat)(kv:Option V),σ=[aa (.ref a),aa (.int i2),aa (.int j2),aa (.int (Nb (uh p2 q2))),kv]/\pH C H2 a A2 (Dc z w) n (kn++mo) ln (B+4*s) Ex FH lo2 ke/\
    (kn++mo)[i2]?=aa p2/\(kn++mo)[j2]?=aa q2/\gO (50-s) p2 q2=gO 50 p q/\s<=lN p2.1/\m=50-s/\pI H H2 (a::A.all) (a::A2.all)/\A2.li=A.li,⟨50,A,[],nu,sh,lo,i,j,p,q,0,none,rfl,by rw[bg];exact c,by rw[bg];exact hi,by rw[bg];exact hj,rfl,iJ _,rfl,pI.refl _ _,rfl⟩,?_⟩
  rintro m σ H2 ⟨A2,mo,Ex,FH,lo2,i2,j2,p2,q2,s,kv,rfl,c2,hi2,hj2,hs,hsc,hm,Nm,el2⟩;have XA:=c2.rw p2 (dU hi2);have XC:=c2.rw q2 (dU hj2);have aq6:=CA hn XA;show '.';dsimp only;rw[VJ (l7 XA).1 (l7 XC).2];cases hl:(uh p2 q2).getLast? with
  |none=>
   refine Cc ?_;rw[vk _ hl]at hs;refine⟨_,rfl,_,rfl,(by show 2<=aK;decide),λt ht=>?_⟩;have st:=bY ht (.tup [V.int i2,V.int j2]);refine k t i2 j2 _ A2 mo Ex FH lo2 ((c2.same st).more (by lia)) (by rw[<-hs];exact hi2) (by rw[<-hs];exact hj2) (Nm.gr t ht) aU (Nm.trans (pI.same st _)) el2
  |some kk'=>
   refine Dr ?_;obtain⟨j',rfl,M4,hlt,_⟩:=wC XA XC (Bh hl);have hup:=VM XA M4 hlt;have ivu:=dX XA M4;have aq7:=CA hn ivu;have hsl:gO (50-(s+1)) (wB p2 j') (yd q2 j')=gO 50 p q:=by rw[<-hs,show 50-s=(50-(s+1))+1 by lia,vj _ hl,show((j':Int)+1-1).toNat=j' by lia]
   refine⟨λσ' H'=>∃m'<m,∃(A2:Ad)(mo:As)(Ex FH lo2:List (List Key×V))(i2 j2:Nat)(p2 q2:RP)(s:Nat)(kv:Option V),σ'=[aa (.ref a),aa (.int i2),aa (.int j2),aa (.int (Nb (uh p2 q2))),kv]/\pH C H' a A2 (Dc z w) n (kn++mo) ln (B+4*s) Ex FH lo2 ke/\
    (kn++mo)[i2]?=aa p2/\(kn++mo)[j2]?=aa q2/\gO (50-s) p2 q2=gO 50 p q/\s<=lN p2.1/\m'=50-s/\pI H H' (a::A.all) (a::A2.all)/\A2.li=A.li,λσ' H' h=>h,?_⟩
   refine⟨_,rfl,(by first|exact rfl|exact trivial),_,rfl,rfl,?_⟩;dsimp only;rw[VL (l7 XA).1 (l7 XC).2 hl];refine⟨_,rfl,a,A2.dx,_,rfl,c2.ob,rfl,_,rfl,_,rfl,a,A2,z,w,n,kn++mo,ln,B+4*s,Ex,FH,lo2,ke,p2,i2,j',rfl,c2,hn,by lia,hi2,M4,λi3 H3 A3 mo3 nu3 lo3 c3 hi3 B7 el3=>?_⟩;have hj3:(kn++mo++mo3)[j2]?=aa q2:=fK hj2;refine⟨_,rfl,a,A3.dx,_,rfl,c3.ob,rfl,_,rfl,_,rfl,a,A3,z,w,n,kn++mo++mo3,ln,B+4*s+2,nu3,FH,lo3,ke,q2,j2,j',rfl,c3,hn,by lia,hj3,M4,λj4 H4 A4 Qt nu4 sh4 c4 hj4 fr4 el4=>?_⟩;have hi4:(kn++mo++mo3++Qt)[i3]?=aa (wB p2 j'):=fK hi3;refine⟨_,rfl,a,C,A4.dx,_,_,rfl,c4.ob,T.cl,T.fi,VF,_,rfl,A4.fi,_,j4,_,rfl,rfl,gS.of c4.Gf,(rdB c4 hj4).1,_,rfl,a,C,A4.dx,_,_,rfl,c4.ob,T.cl,T.la,VG,_,rfl,A4.la,_,i3,_,rfl,rfl,gS.of c4.hla,(rdB c4 hi4).2,_,rfl,_,_,rfl,rfl,?_⟩;have iva:=ie XC M4;dsimp only;rw[P5 (l7 ivu).1 (l7 iva).2];rw[aZ,aZ]at c4 hi4 hj4;refine⟨50-(s+1),by lia,A4,mo++(mo3++Qt),nu4,sh4,lo3,i3,j4,wB p2 j',yd q2 j',s+1,_,rfl,?_,hi4,hj4,hsl,by lia,rfl,(Nm.trans B7).trans fr4,el4.trans (el3.trans el2)⟩;rw[show B+4*(s+1)=B+4*s+2+2 by lia];exact c4
end
end DL.yf
namespace DL.yf
open PySem PySem.Spec PyProof.Rows L2 DL
abbrev Wi:aw:=inClass (top 32) 5
inductive Wj (C:ae) (vs:List V) (H:Hp) (Q:VK):Prop
 |mk (a:ae) (A:Ad) (z w:Int) (n:Nat) (kn:As) (ln:Ap) (B:Nat) (nu sh lo ke:List (List Key×V)) (p q:RP) (i j:Nat):(vs=[.ref a,.int i,.int j])->(pH C H a A (Dc z w) n kn ln B nu sh lo ke)->(n<=7)->(B+400<1000000)->(kn[i]?=aa p)->(kn[j]?=aa q)->(∀(t:ae)(i' j':Nat)(H':Hp)(A':Ad)(mo:As)(Nk sh' lo' ke':List (List Key×V)),pH C H' a A' (Dc z w) n (kn++mo) ln (B+201) Nk sh' lo' ke'->(kn++mo)[i']?=aa (gO 50 p q).1->(kn++mo)[j']?=aa (gO 50 p q).2->H' t=aa (.tup [.int i',.int j'])->pI H H' (a::A.all) (a::A'.all)->A'.li=A.li->Q (.ref t) H')->Wj C vs H Q
def acb(C:ae):Sp:=λvs H Q _=>Wj C vs H Q
section
variable{P:aS}{w:aD}{K:ak}{mg:Str->Option ah}{base:aF}
def sc5:aT ["self","one","other","pair","found"] ["self","one","other"] (au Wi):=⟨rfl,rfl,rfl,by decide +kernel,rfl,by decide +kernel,by decide +kernel⟩
def ah4{f C fS:ae}{fd fdS:aL}(F:Kh K "slide_kept" "Comb.slide_kept" Wi f fd)(T:XF K mg C)(t:Tb K mg)
  (mS:Meth K C "slide" fS)(bS:Binds K fdS ["self","one","other"] [])(GS:fW P w K mg base tw 5 fS fdS ["self","one","other"] (ab9 C)):fW P w K mg base tw 6 f fd ["self","one","other"] (acb C):=by
 refine F.ok sc5 (λvs H Q E h=>?_) (λcdv A outer s H vs Q E hr h=>?_)
 ·obtain⟨a,A,z,w,n,kn,ln,B,nu,sh,lo,ke,p,q,i,j,rfl,_⟩:=h
  rfl
 ·obtain⟨a,A,z,w,n,kn,ln,B,nu,sh,lo,ke,p,q,i,j,rfl,c,hn,hB,hi,hj,k⟩:=h
  have hu:=AG hr;refine⟨_,bz (iP (i:=3) sc5.nd rfl (fM rfl) (B9 (bc (pv 1) (bc (pv 2) bQ))))
   (bz (iP (i:=4) sc5.nd rfl (fM rfl) (Uj hu (dS (pv 0) rfl) (pv 3) ⟨rfl,rfl,rfl,rfl⟩))
   (bz (C1 (qY ac4 (pv 4) Tz (bf _))
    (bz (iP (i:=4) sc5.nd rfl (fM rfl) (qd (pv 0) T.cl mS GS hr.mono bS .nil xr (bc (pv 1) (bc (pv 2) bQ))))
    (fz (C1 (qY xp (qA Sx (by rfl) T.mle jn (bc (dS (pv 0) rfl) bQ)) (HS (by rfl) t.BE (v:=.int 200000) ⟨_,rfl⟩) (bf _))
     (fz (D1 hu (dS (pv 0) rfl) (pv 3) (pv 4) rfl)) tN))) tN)
   (fz (uA (pv 4))))),?_⟩
  show 'x';have s1:bM H (upd H l (.tup [.int i,.int j])):=bY hl _;have c1:=c.same s1;have hkey:(upd H l (.tup [.int i,.int j])) l=aa (.tup (([.inl (i:Int),.inl (j:Int)]:List Key).map kV)):=aU;show 'Ç';have hlF:l∉a::A.all:=λhx=>by obtain⟨o,ho⟩:=c.there hx;rw[hl]at ho;cases ho
  generalize hH1:upd H l (.tup [.int i,.int j])=H1 at s1 c1 hkey Jo;refine⟨_,rfl,a,C,A.dx,_,_,rfl,c1.ob,T.cl,T.ke,VH,A.ke,rfl,.inr ⟨_,.inl c1.hke⟩,_,rfl,_,vX.t c1.hke hkey,?_⟩;cases hv:iQ ke ([.inl (i:Int),.inl (j:Int)]:List Key)with
  |some v=>
   obtain⟨t',i',j',p',q',h1,h2,rfl,h4,h5,h6⟩:=c1.k1 i j v hv;rw[hi]at h1;rw[hj]at h2;cases h1;cases h2;refine⟨_,rfl,rfl,_,rfl,?_⟩;rw[decide_eq_false (show¬((aa (V.ref t')).getD .non=.non)from λzz=>nomatch zz)];refine Cc ?_;exact⟨_,rfl,k t' i' j' H1 A [] nu sh lo ke (by rw[bg];exact c1.more (by lia)) (by rw[bg];exact h5) (by rw[bg];exact h6) h4 Jo rfl⟩
  |none=>
   refine⟨_,rfl,rfl,_,rfl,?_⟩;rw[decide_eq_true (show((none:Option V).getD .non=.non)from rfl)];refine Dr ?_;refine⟨_,rfl,a,A.dx,_,rfl,c1.ob,rfl,_,rfl,_,rfl,a,A,z,w,n,kn,ln,B,nu,sh,lo,ke,p,q,i,j,rfl,c1,hn,by lia,hi,hj,λt' i' j' H2 A2 mo Ex FH lo2 c2 hi2 hj2 htn ht2 Nm el2=>?_⟩;have hz:=c2.z;have ah5:=Jo.trans Nm;refine⟨_,rfl,a,C,A2.dx,_,_,rfl,c2.ob,T.cl,T.ke,VH,A2.ke,_,rfl,c2.hke,_,_,rfl,rfl,_,rfl,?_⟩;generalize decide ((ke.length:Int)<200000)=bb;cases bb with
   |true=>
    refine Dr ?_;have ah6:H2 l=aa (.tup (([.inl (i:Int),.inl (j:Int)]:List Key).map kV)):=Nm.kp l _ hlF hkey;refine⟨_,rfl,_,rfl,a,C,A2.dx,_,_,rfl,c2.ob,T.cl,T.ke,VH,_,rfl,A2.ke,_,rfl,Km.t c2.hke ah6 (AH (show ke.length<=1000001 by lia) (by decide)),?_⟩;have c3:=c2.ae4 (fK hi) (fK hj) ht2 hi2 hj2;refine⟨_,rfl,k t' i' j' _ A2 mo Ex FH lo2 _ c3 hi2 hj2 ?_ (ah5.trans (pI.upd (bE _ (mW _ (by simp[Ad.hd]))) _)) el2⟩;rw[aH (eT ht2 c2.hke (by intro zz;cases zz))];exact ht2
   |false=>
    refine Cc ?_;exact⟨_,rfl,k t' i' j' H2 A2 mo Ex FH lo2 ke (c2.more (by lia)) hi2 hj2 ht2 ah5 el2⟩
end
end DL.yf
namespace DL.yf
open PySem PySem.Spec PyProof.Rows L2 DL
abbrev Wl:aw:=inClass (top 32) 6
inductive Wm (K:ak) (C:ae) (vs:List V) (H:Hp) (Q:VK):Prop
 |mk (a:ae) (A:Ad) (zn:Nat) (w:Int) (n:Nat) (kn:As) (ls:List Nat) (R:As) (B:Nat) (nu sh lo ke:List (List Key×V)) (p:RP) (v:V):(vs=[.ref a,v])->(pH C H a A (Dc zn w) n kn (nI ls) B nu sh lo ke)->(g4 kn ls R)->(kn[zn]?=aa (upTo n,upTo n))->(n<=7)->(B+402*(R.length+1)<900000)->(R.length<=1000)->(Iv n p.1 p.2)->(Is K (λx=>x∉a::A.all) H (.lst (bp p.1)) v)->(∀(H':Hp)(A':Ad)(mo:As)(ls':List Nat)(Nk sh' lo' ke':List (List Key×V)),pH C H' a A' (Dc zn w) n (kn++mo) (nI ls') (B+402*(R.length+1)) Nk sh' lo' ke'->g4 (kn++mo) ls' (j0 n R p)->pI H H' (a::A.all) (a::A'.all)->Q .non H')->Wm K C vs H Q
def acd(K:ak)(C:ae):Sp:=λvs H Q _=>Wm K C vs H Q
section
variable{P:aS}{w:aD}{K:ak}{mg:Str->Option ah}{base:aF}
def sc6:aT ["self","row","line","place","pair"] ["self","row"] (au Wl):=⟨rfl,rfl,rfl,by decide +kernel,rfl,by decide +kernel,by decide +kernel⟩
def ah8{f C fN fS:ae}{fd Wd fdS:aL}(F:Kh K "put" "Comb.put" Wl f fd)(T:XF K mg C)
  (mN:Meth K C "number_of" fN)(bN:Binds K Wd ["self","row"] [])(GN:fW P w K mg base tw 3 fN Wd ["self","row"] (Lw K C))
  (mS:Meth K C "slide_kept" fS)(bS:Binds K fdS ["self","one","other"] [])(GS:fW P w K mg base tw 6 fS fdS ["self","one","other"] (acb C)):fW P w K mg base tw 7 f fd ["self","row"] (acd K C):=by
 refine F.ok sc6 (λvs H Q E h=>?_) (λcdv A outer s H vs Q E hr h=>?_)
 ·obtain⟨a,A,zn,w,n,kn,ls,R,B,nu,sh,lo,ke,p,v,rfl,_⟩:=h
  rfl
 ·obtain⟨a,A,zn,w,n,kn,ls,R,B,nu,sh,lo,ke,p,v,rfl,c,hR,hzn,hn,hB,hRl,ivp,isr,k⟩:=h
  have hu:=AG hr;refine⟨_,bz (iP (i:=2) sc6.nd rfl (fM rfl) (dS (pv 0) rfl))
   (bz (kD (AF nj yQ yR kI (pv 2) (bc (qd (pv 0) T.cl mN GN hr.mono bN .nil xr (bc (pv 1) bQ)) bQ)) rfl)
   (bz (iP (i:=3) sc6.nd rfl (fM rfl) (zN dw (qA vU (by rfl) T.mle jn (bc (pv 2) bQ)) m7))
   (bz (Ay gK (qY jO (pv 3) m7 (bf _))
    (bz (iP (i:=4) sc6.nd rfl (fM rfl) (qd (pv 0) T.cl mS GS hr.mono bS .nil xr (bc (pK jj (pv 2) (zN dw (pv 3) m7) (λ_ _=>rfl)) (bc (pK jj (pv 2) (pv 3) (λ_ _=>rfl)) bQ))))
    (bz (C1 (qY T4 (pK Ir (pv 4) m7 (λ_ _=>rfl)) (pK jj (pv 2) (zN dw (pv 3) m7) (λ_ _=>rfl)) (bf _)) (fz TJ) tN)
    (bz (Mq (pK Ir (pv 4) m7 (λ_ _=>rfl)) (Mp (pv 2) (zN dw (pv 3) m7) set_list (by intro _;rfl)) rfl rfl rfl)
    (bz (Mq (pK Ir (pv 4) m7 (λ_ _=>rfl)) (Mp (pv 2) (pv 3) set_list (by intro _;rfl)) rfl rfl rfl)
    (fz (Mr (i:=3) sc6.nd rfl (fM rfl) m7 acW)))))))
   (fz (C1 (qY T4 (pK jj (pv 2) (Og m8 m7) (λ_ _=>rfl)) (dS (pv 0) rfl) (bf _))
    (fz (kD (Iw nj Y6 Y7 Ud (pv 2)) rfl)) tN))))),?_⟩
  refine⟨_,rfl,a,C,A.dx,_,_,rfl,c.ob,T.cl,T.li,Ll,?_⟩;refine⟨_,rfl,.inl ⟨rfl,_,gS.of c.hli⟩,_,rfl,a,A.dx,_,rfl,c.ob,rfl,_,rfl,a,A,Dc zn w,n,kn,nI ls,B,nu,sh,lo,ke,p,v,rfl,c,hn,by lia,ivp,isr,λi1 H1 A1 mo1 nu1 c1 hi1 Jo el1=>?_⟩;have hz:=c1.z;have hll:=hR.len;have big:∀{x:Nat},x<=1000001->x<aK:=λh=>AH h (by decide);refine⟨A.li,(nI ls).map V.int,.int i1,rfl,rfl,by rw[<-el1];exact c1.hli,by rw[aN,uG];exact big (by lia),?_⟩;have hR1:g4 (kn++mo1) (ls++[i1]) (R++[p]):=hR.pre.app hi1;have c2:=c1.Lo hR1.li;rw[ae6,el1]at c2;have Nm:pI H (upd H1 A.li (.lst ((nI ls).map V.int++[.int i1]))) (a::A.all) (a::A1.all):=Jo.trans (pI.upd (by rw[<-el1];exact bE _ (mW _ (by simp[Ad.hd]))) _);generalize upd H1 A.li (.lst ((nI ls).map V.int++[.int i1]))=H2 at c2 Nm;have amH:H2 A.li=aa (.lst ((nI (ls++[i1])).map V.int)):=by rw[<-el1];exact c2.hli
  refine⟨_,rfl,A.li,_,rfl,.inl (gS.of amH),_,_,rfl,rfl,?_⟩;have epl:((((nI (ls++[i1])).map V.int).length:Nat):Int)-1=(R.length:Nat):=by rw[aN,uG,br,tR];lia
  dsimp only;rw[epl];refine⟨λm σ H2=>∃(A2:Ad)(mo:As)(Ex FH lo2 XI:List (List Key×V))(ls2:List Nat)(t:Nat)(cr:RP)(dn:As)(pr:Option V),σ=[aa (.ref a),aa v,aa (.ref A.li),aa (.int t),pr]/\pH C H2 a A2 (Dc zn w) n (kn++mo) (nI ls2) (B+1+201*(R.length-t)) Ex FH lo2 XI/\
    g4 (kn++mo) ls2 (R.take t++cr::dn)/\t<=R.length/\(Dw (R.take t).reverse cr).reverse++dn=Bg R p/\m=t/\pI H H2 (a::A.all) (a::A2.all)/\A2.li=A.li,
   ⟨R.length,A1,mo1,nu1,sh,lo,ke,ls++[i1],R.length,p,[],none,rfl,by rw[Ec];exact c2,by rw[A0];exact hR1,aY _,by rw[A0,bg];rfl,rfl,Nm,el1⟩,?_⟩
  rintro m σ H3 ⟨A3,mo,nu3,sh3,lo3,ke3,Gg,t,cr,dn,pr,rfl,c3,hL,htR,hT,rfl,B7,el3⟩;have hli:H3 A.li=aa (.lst ((nI Gg).map V.int)):=by rw[<-el3];exact c3.hli
  show '.';cases m with
  |zero=>
   rw[decide_eq_false (by lia)];refine Cc ?_;have hTX:g4 (kn++mo) Gg (Bg R p):=by rw[<-hT];exact hL
   obtain⟨m1,r1,hm1,hm2,hm3⟩:=hTX.last (by rw[Eo];lia);refine⟨_,rfl,_,rfl,A.li,_,-1,_,rfl,rfl,gS.of hli,EJ (Ep hm1),_,rfl,a,C,A3.dx,_,_,rfl,c3.ob,T.cl,T.no,abR,rfl,_,rfl,?_⟩;have hz2:(kn++mo)[zn]?=aa (upTo n,upTo n):=fK hzn
   by_cases hq:r1=(upTo n,upTo n)
   ·rw[decide_eq_true (show V.int (m1:Int)=V.int (zn:Int)from congrArg V.int ((c3.inj hm3 hz2).mpr hq))]
    refine Dr ?_;show 'D';rw[Qc,<-el3];have hdr:g4 (kn++mo) Gg.dropLast (j0 n R p):=by unfold j0;rw[if_pos (by rw[hm2,hq])];exact hTX.drop
    exact k _ A3 mo Gg.dropLast _ _ _ _ ((c3.Lo hdr.li).more (by lia)) hdr (B7.trans (pI.upd (bE _ (mW _ (by simp[Ad.hd]))) _))
   ·rw[decide_eq_false (show¬V.int (m1:Int)=V.int (zn:Int)from λe=>hq ((c3.inj hm3 hz2).mp (by injection e)))]
    refine Cc ?_;have hdr:g4 (kn++mo) Gg (j0 n R p):=by unfold j0;rw[if_neg (by rw[hm2];exact λe=>hq (ck.inj e))];exact hTX
    exact k _ A3 mo Gg _ _ _ _ (c3.more (by lia)) hdr B7
  |succ t=>
   rw[decide_eq_true (by lia)];refine Dr ?_;have hrt:R[t]?=aa (R[t]'(by lia)):=aP (by lia);generalize R[t]'(by lia)=r at hrt;have etk:R.take (t+1)=R.take t++[r]:=(by rw[Ei,hrt];rfl);have ltk:(R.take t).length=t:=(by rw[fA];lia);have g1:(R.take (t+1)++cr::dn)[t]?=aa r:=by rw[etk,aZ,jR (by lia),ltk,Ec];rfl
   have g2:(R.take (t+1)++cr::dn)[t+1]?=aa cr:=by rw[jR (by rw[fA];lia),show t+1-(R.take (t+1)).length=0 by rw[fA];lia];rfl
   obtain⟨ma,la,ka⟩:=hL.at g1;obtain⟨mb,lb,kb⟩:=hL.at g2;refine⟨λσ' H'=>∃m'<t+1,∃(A2:Ad)(mo:As)(Ex FH lo2 XI:List (List Key×V))(ls2:List Nat)(t:Nat)(cr:RP)(dn:As)(pr:Option V),σ'=[aa (.ref a),aa v,aa (.ref A.li),aa (.int t),pr]/\pH C H' a A2 (Dc zn w) n (kn++mo) (nI ls2) (B+1+201*(R.length-t)) Ex FH lo2 XI/\
    g4 (kn++mo) ls2 (R.take t++cr::dn)/\t<=R.length/\(Dw (R.take t).reverse cr).reverse++dn=Bg R p/\m'=t/\pI H H' (a::A.all) (a::A2.all)/\A2.li=A.li,λσ' H' h=>h,?_⟩
   have ix1:((t+1:Nat):Int)-1=(t:Nat):=(by lia);refine⟨_,rfl,a,A3.dx,_,rfl,c3.ob,rfl,_,rfl,_,rfl,_,_,rfl,rfl,A.li,_,((t+1:Nat):Int)-1,.int ma,rfl,rfl,gS.of hli,by rw[ix1];exact qg (CB la),_,rfl,_,rfl,A.li,_,((t+1:Nat):Int),.int mb,rfl,rfl,gS.of hli,qg (CB lb),
    a,A3,zn,w,n,kn++mo,nI Gg,_,nu3,sh3,lo3,ke3,r,cr,ma,mb,rfl,c3,hn,by lia,ka,kb,λtt i4 j4 H4 A4 Qt nu4 sh4 lo4 ke4 c4 hi4 hj4 ht4 fr4 el4=>?_⟩
   have Lx:=el4.trans el3;have aav:H4 A.li=aa (.lst ((nI Gg).map V.int)):=(by rw[<-Lx];exact c4.hli);refine⟨_,rfl,tt,_,0,_,rfl,rfl,Ka.of ht4,rfl,_,rfl,_,rfl,_,_,rfl,rfl,A.li,_,((t+1:Nat):Int)-1,.int ma,rfl,rfl,gS.of aav,by rw[ix1];exact qg (CB la),rfl,_,rfl,?_⟩;have kaX:(kn++mo++Qt)[ma]?=aa r:=fK ka;have hsl:=VO (c:=cr) hrt
   by_cases hq0:(gO 50 r cr).1=r
   ·rw[decide_eq_true (show V.int (i4:Int)=V.int (ma:Int)from congrArg V.int ((c4.inj hi4 kaX).mpr hq0))]
    refine Dr ?_;have hTX:g4 (kn++mo++Qt) Gg (Bg R p):=by rw[<-hT,hsl,if_pos hq0,jS,oQ,show R.take (t+1)++[cr]++dn=R.take (t+1)++cr::dn by rw[aZ];rfl];exact hL.pre
    have hli:=aav;obtain⟨m1,r1,hm1,hm2,hm3⟩:=hTX.last (by rw[Eo];lia);rw[aZ]at c4 hm3 hTX;refine⟨_,rfl,_,rfl,A.li,_,-1,_,rfl,rfl,gS.of hli,EJ (Ep hm1),_,rfl,a,C,A4.dx,_,_,rfl,c4.ob,T.cl,T.no,abR,rfl,_,rfl,?_⟩;have hz2:(kn++(mo++Qt))[zn]?=aa (upTo n,upTo n):=fK hzn
    by_cases hq:r1=(upTo n,upTo n)
    ·rw[decide_eq_true (show V.int (m1:Int)=V.int (zn:Int)from congrArg V.int ((c4.inj hm3 hz2).mpr hq))]
     refine Dr ?_;show 'D';rw[Qc,<-Lx];have hdr:g4 (kn++(mo++Qt)) Gg.dropLast (j0 n R p):=by unfold j0;rw[if_pos (by rw[hm2,hq])];exact hTX.drop
     exact k _ A4 (mo++Qt) Gg.dropLast _ _ _ _ ((c4.Lo hdr.li).more (by lia)) hdr ((B7.trans fr4).trans (pI.upd (bE _ (mW _ (by simp[Ad.hd]))) _))
    ·rw[decide_eq_false (show¬V.int (m1:Int)=V.int (zn:Int)from λe=>hq ((c4.inj hm3 hz2).mp (by injection e)))]
     refine Cc ?_;have hdr:g4 (kn++(mo++Qt)) Gg (j0 n R p):=by unfold j0;rw[if_neg (by rw[hm2];exact λe=>hq (ck.inj e))];exact hTX
     exact k _ A4 (mo++Qt) Gg _ _ _ _ (c4.more (by lia)) hdr (B7.trans fr4)
   ·rw[decide_eq_false (show¬V.int (i4:Int)=V.int (ma:Int)from λe=>hq0 ((c4.inj hi4 kaX).mp (by injection e)))]
    refine Cc ?_;have lt1:t+1<Gg.length:=(bH.mp lb).1;have ixa:Ao ((nI Gg).map V.int).length (((t+1:Nat):Int)-1)=aa t:=by unfold L2.Ao;rw[ix1,if_pos (by lia),if_pos (by rw[aN,uG];lia),bu]
    refine⟨_,rfl,tt,_,0,_,rfl,rfl,Ka.of ht4,rfl,_,rfl,_,rfl,_,_,rfl,rfl,A.li,_,_,t,rfl,rfl,aav,ixa,?_⟩;have hLa:g4 (kn++mo++Qt) (Gg.set t i4) ((R.take (t+1)++cr::dn).set t (gO 50 r cr).1):=hL.pre.set t hi4;have c5:=c4.Lo hLa.li;rw[Lx,<-VN]at c5;have Xx:pI H (upd H4 A.li (.lst (((nI Gg).map V.int).set t (.int i4)))) (a::A.all) (a::A4.all):=(B7.trans fr4).trans (pI.upd (by rw[<-Lx];exact bE _ (mW _ (by simp[Ad.hd]))) _);have ht5:(upd H4 A.li (.lst (((nI Gg).map V.int).set t (.int i4)))) tt=aa (.tup [.int i4,.int j4]):=(by rw[aH (eT ht4 aav (by intro zz;cases zz))];exact ht4);generalize upd H4 A.li (.lst (((nI Gg).map V.int).set t (.int i4)))=H5 at c5 Xx ht5;have amL:H5 A.li=aa (.lst ((nI (Gg.set t i4)).map V.int)):=(by rw[<-Lx];exact c5.hli);have ixb:Ao ((nI (Gg.set t i4)).map V.int).length ((t+1:Nat):Int)=aa (t+1):=by unfold L2.Ao;rw[if_pos (by lia),if_pos (by rw[aN,uG,qh];lia),bu]
    refine⟨_,rfl,tt,_,1,_,rfl,rfl,Ka.of ht5,rfl,_,rfl,_,rfl,A.li,_,_,t+1,rfl,rfl,amL,ixb,?_⟩;have hLb:=hLa.set (t+1) hj4;have c6:=c5.Lo hLb.li;rw[Lx,<-VN]at c6;have fr6:pI H (upd H5 A.li (.lst (((nI (Gg.set t i4)).map V.int).set (t+1) (.int j4)))) (a::A.all) (a::A4.all):=Xx.trans (pI.upd (by rw[<-Lx];exact bE _ (mW _ (by simp[Ad.hd]))) _);refine⟨_,rfl,_,_,rfl,rfl,?_⟩;have amM:((R.take (t+1)++cr::dn).set t (gO 50 r cr).1).set (t+1) (gO 50 r cr).2=R.take t++(gO 50 r cr).1::(gO 50 r cr).2::dn:=by rw[etk,aZ,aaw _ _ (by lia),aaw _ _ (by lia),ltk,Ec,show t+1-t=1 by lia];rfl
    rw[amM]at hLb;rw[aZ]at c6 hLb;dsimp only;rw[ix1];refine⟨t,by lia,A4,mo++Qt,nu4,sh4,lo4,ke4,_,t,(gO 50 r cr).1,(gO 50 r cr).2::dn,_,rfl,c6.more (by lia),hLb,by lia,?_,rfl,fr6,Lx⟩;rw[<-hT,hsl,if_neg hq0,jS,aZ];rfl
end
end DL.yf
namespace DL.yf
open PySem PySem.Spec PyProof.Rows L2 DL
abbrev Qu:aw:=inClass (top 32) 7
def amN(K:ak):TE:=tCB (λxs H Q=>∃p ys,xs=[V.ref p]/\(gS K H p ys\/Ka K H p ys)/\∀l,H l=none->Q (.ref l) (upd H l (.lst ys))) (T8 (tOp (ac6 K) (agL K (X0 1) "known") (X0 0)) Yw)
inductive Wn (K:ak) (C:ae) (vs:List V) (H:Hp) (Q:VK):Prop
 |mk (a:ae) (A:Ad) (z:Int) (wn n:Nat) (kn:As) (ls:List Nat) (R:As) (B:Nat) (nu sh lo ke:List (List Key×V)):(vs=[.ref a])->(pH C H a A (Dc z wn) n kn (nI ls) B nu sh lo ke)->(g4 kn ls R)->(kn[wn]?=aa (iC n))->(R.length<=1000)->(∀(v:V)(H':Hp),bM H H'->Is K (λx=>H x=none) H' (Dg n R) v->Q v H')->Wn K C vs H Q
def acf(K:ak)(C:ae):Sp:=λvs H Q _=>Wn K C vs H Q
section
variable{P:aS}{w:aD}{K:ak}{mg:Str->Option ah}{base:aF}
def sc7:aT ["self","many"] ["self"] (au Qu):=⟨rfl,rfl,rfl,by decide +kernel,rfl,by decide +kernel,by decide +kernel⟩
def aic{f C:ae}{fd:aL}(F:Kh K "form_told" "Comb.form_told" Qu f fd)(T:XF K mg C):fW P w K mg base tw 1 f fd ["self"] (acf K C):=by
 refine F.ok sc7 (λvs H Q E h=>?_) (λcdv A outer s H vs Q E hr h=>?_)
 ·obtain⟨a,A,z,wn,n,kn,ls,R,B,nu,sh,lo,ke,rfl,_⟩:=h
  rfl
 ·obtain⟨a,A,z,wn,n,kn,ls,R,B,nu,sh,lo,ke,rfl,c,hR,hwn,hRl,k⟩:=h
  have hu:=AG hr;refine⟨_,bz (iP (i:=1) sc7.nd rfl (fM rfl) m7)
   (bz (Ay gK (pw_and (qY xp (pv 1) (qA vU (by rfl) T.mle jn (bc (dS (pv 0) rfl) bQ)) (bf _)) (pw_and1 (qY T4 (pK jj (dS (pv 0) rfl) (pv 1) (λ_ _=>rfl)) (dS (pv 0) rfl) (bf _)))).pt
    (fz (Mr (i:=1) sc7.nd rfl (fM rfl) m7 TR)))
   (fz (uA (B9 (bc (pv 1) (bc (VX (te:=amN K) (cpS (N:=["number","self"]) (nt:=1) (caps:=[0]) (au Qu) ["self","many"] (by decide +kernel)) rfl (DS (Kd OQ (dS (pv 0) rfl) (OE (pv 1)) OD)) (λ_ _ _ _ _=>HV (i:=0) (by show rB (["number","self"]:List Str);decide +kernel) rfl (fM rfl)) (λ_ _ _ _ _=>by exact yI vV (by rfl) T.mli wj (bc (pK jj (dS (pv 1) rfl) (pv 0) (λ_ _=>rfl)) bQ))) bQ)))))),?_⟩
  refine⟨λm σ H2=>∃i:Nat,σ=[aa (.ref a),aa (.int i)]/\H2=H/\i<=R.length/\(∀j<i,R[j]?=aa (iC n))/\m=R.length-i,⟨R.length,0,rfl,rfl,iJ _,λj hj=>absurd hj (Nat.not_lt_zero _),rfl⟩,?_⟩;rintro m σ H2 ⟨i,rfl,rfl,hiR,hal,hm⟩;refine⟨_,rfl,_,rfl,a,C,A.dx,_,_,rfl,c.ob,T.cl,T.li,Ll,A.li,_,rfl,.inl (gS.of c.hli),_,_,rfl,rfl,_,rfl,?_⟩
  by_cases hlt:i<R.length
  ·rw[decide_eq_true (show(i:Int)<(((nI ls).map V.int).length:Nat)by rw[aN,uG,hR.len];lia)]
   refine Dr ?_;obtain⟨mi,hm1,hm2⟩:=hR.at (aP hlt);refine⟨_,rfl,a,C,A.dx,_,_,rfl,c.ob,T.cl,T.li,Ll,_,rfl,A.li,_,i,.int mi,rfl,rfl,gS.of c.hli,qg (CB hm1),_,rfl,a,C,A.dx,_,_,rfl,c.ob,T.cl,T.wh,ahN,rfl,_,rfl,?_⟩
   by_cases he:R[i]=iC n
   ·rw[decide_eq_true (show V.int (mi:Int)=V.int (wn:Int)from congrArg V.int ((c.inj hm2 hwn).mpr he))]
    refine Dr ?_;refine⟨λσ' H'=>∃m'<m,∃i:Nat,σ'=[aa (.ref a),aa (.int i)]/\H'=H2/\i<=R.length/\(∀j<i,R[j]?=aa (iC n))/\m'=R.length-i,λ_ _ h=>h,_,rfl,_,_,rfl,rfl,R.length-(i+1),by lia,i+1,rfl,rfl,hlt,λj hj=>?_,rfl⟩
    by_cases hji:j<i
    ·exact hal j hji
    ·have:j=i:=by lia
     subst this;rw[aP hlt,he]
   ·rw[decide_eq_false (show¬V.int (mi:Int)=V.int (wn:Int)from λe=>he ((c.inj hm2 hwn).mp (by injection e)))]
    refine Cc ?_;have hcn:iZ n R=i:=Lp hal (by rw[aP hlt];exact λe=>he (ck.inj e));have afh:Gm ((nI ls).map V.int) (aa (i:Int)) none=(nI (ls.drop i)).map V.int:=by unfold Gm nI;rw[vR _ _ _ (by lia),xQ,bu,aN,aN,hR.len,AZ hiR,tZ,tZ];refine yX ?_;rw[fG,aN,aN,hR.len];exact aY _
    show 'r';rw[afh];have s1:=bY hq (.lst ((nI (ls.drop i)).map V.int));show '-';generalize upd H2 q (.lst ((nI (ls.drop i)).map V.int))=H1 at s1 hq1;have hLd:g4 kn (ls.drop i) (R.drop i):=by unfold g4;rw[tZ,tZ,show ls.map (λm=>kn[m]?)=R.map aa from hR]
    show 'z'
    ·match j with
     |0=>
      have z1:0=i':=(by simpa using e1);have z2:V.ref a=v:=(by simpa using e2);subst z1 z2;rfl
     |j+1=>simp at e1
    ·refine⟨λj acc Hx=>∃as:List ae,acc=as.map V.ref/\as.length=j/\j<=(R.drop i).length/\bM H1 Hx/\Hx Dd=aa (.lst acc)/\(∀b∈as,H1 b=none/\b≠Dd)/\∀(k:Nat)(b:ae)(r:RP),as[k]?=aa b->(R.drop i)[k]?=aa r->Hx b=aa (.lst (r.1.map V.int)),⟨[],rfl,rfl,iJ _,bY hD _,aU,(λb hb=>nomatch hb),λk b r e=>by simp at e⟩,?_,?_,?_⟩
     ·rintro j acc Hx ⟨as,rfl,_,_,sx,SG,_⟩
      show 'À'
     ·rintro j acc Hx x ⟨as,rfl,hj,hjl,sx,SG,hnew,hat⟩ hx
      have hjr:j<(ls.drop i).length:=by
       have:=(bH.mp hx).1
       rwa [aN,uG]at this
      have hjR:j<(R.drop i).length:=(by rw[<-hLd.len];exact hjr);obtain⟨m,hm1,hm2⟩:=hLd.at (aP hjR);rw[CB hm1]at hx;cases hx;have cx:=c.same (s1.trans sx);have UH:m<A.ks.length:=(by rw[c.Lj];exact(bH.mp hm2).1);have hb:=cx.hks m A.ks[m] _ (aP UH) hm2;show 'y';have hDl:Dd≠l2:=λzz=>by rw[<-zz,SG]at hl2;cases hl2
      have hl1:H1 l2=none:=sx.free hl2;refine⟨by rw[aH hDl];exact SG,by rw[aN,hj];exact dZ (show j<1000001 by rw[fG]at hjR;lia) (by decide),as++[l2],by rw[cF];rfl,by rw[br,hj];rfl,hjR,?_,aU,λb Xz=>?_,λk' b r e1 e2=>?_⟩
      ·intro y o hy
       have hyD:y≠Dd:=λzz=>by rw[zz,hD]at hy;cases hy
       rw[aH hyD];exact bY hl2 _ _ _ (sx _ _ hy)
      ·rcases cu.mp Xz with h|h
       ·exact hnew b h
       ·have:b=l2:=by simpa using h
        rw[this];exact⟨hl1,Ne.symm hDl⟩
      ·by_cases hk:k'<as.length
       ·rw[fE hk]at e1
        have hbb:=hat k' b r e1 e2;rw[aH (hnew b (dU e1)).2];exact bY hl2 _ _ _ hbb
       ·obtain⟨z1,z2⟩:=ye e1 hk
        rw[hj]at z1;rw[z1,aP hjR]at e2;cases e2;rw[<-z2,aH (Ne.symm hDl)];exact aU
     ·rintro acc Hx ⟨as,rfl,hj,hjl,sx,SG,hnew,hat⟩
      show 'Í';have st:=bY hpt (.tup [V.int i,V.ref Dd]);have hlen:as.length=((R.drop i).map (·.1)).length:=by rw[hj,aN,uG,aN];exact hLd.len
      have hD0:H2 Dd=none:=s1.free hD;refine k _ _ ((s1.trans sx).trans st) ?_;unfold Dg;rw[hcn];show 'l';have:=A8 (K:=K) (P:=λx=>H2 x=none) (H:=upd Hx pt (.tup [V.int i,V.ref Dd])) hlen (λb hb=>s1.free (hnew b hb).1) λk' b ns e1 e2=>by
       rw[bK]at e2;cases hr:(R.drop i)[k']? with
       |none=>rw[hr]at e2;cases e2
       |some r=>
        rw[hr]at e2;cases e2;show 'Î'
      rw[jV]at this;exact this
  ·rw[decide_eq_false (show¬(i:Int)<(((nI ls).map V.int).length:Nat)by rw[aN,uG,hR.len];lia)]
   refine Cc ?_;refine Cc ?_;have hcn:iZ n R=i:=Lp hal (by rw[A6 (by lia)];exact λe=>nomatch e);have afh:Gm ((nI ls).map V.int) (aa (i:Int)) none=(nI (ls.drop i)).map V.int:=by unfold Gm nI;rw[vR _ _ _ (by lia),xQ,bu,aN,aN,hR.len,AZ hiR,tZ,tZ];refine yX ?_;rw[fG,aN,aN,hR.len];exact aY _
   show 'r';rw[afh];have s1:=bY hq (.lst ((nI (ls.drop i)).map V.int));show '-';generalize upd H2 q (.lst ((nI (ls.drop i)).map V.int))=H1 at s1 hq1;have hLd:g4 kn (ls.drop i) (R.drop i):=by unfold g4;rw[tZ,tZ,show ls.map (λm=>kn[m]?)=R.map aa from hR]
   show 'z'
   ·match j with
    |0=>
     have z1:0=i':=(by simpa using e1);have z2:V.ref a=v:=(by simpa using e2);subst z1 z2;rfl
    |j+1=>simp at e1
   ·refine⟨λj acc Hx=>∃as:List ae,acc=as.map V.ref/\as.length=j/\j<=(R.drop i).length/\bM H1 Hx/\Hx Dd=aa (.lst acc)/\(∀b∈as,H1 b=none/\b≠Dd)/\∀(k:Nat)(b:ae)(r:RP),as[k]?=aa b->(R.drop i)[k]?=aa r->Hx b=aa (.lst (r.1.map V.int)),⟨[],rfl,rfl,iJ _,bY hD _,aU,(λb hb=>nomatch hb),λk b r e=>by simp at e⟩,?_,?_,?_⟩
    ·rintro j acc Hx ⟨as,rfl,_,_,sx,SG,_⟩
     show 'À'
    ·rintro j acc Hx x ⟨as,rfl,hj,hjl,sx,SG,hnew,hat⟩ hx
     have hjr:j<(ls.drop i).length:=by
      have:=(bH.mp hx).1
      rwa [aN,uG]at this
     have hjR:j<(R.drop i).length:=(by rw[<-hLd.len];exact hjr);obtain⟨m,hm1,hm2⟩:=hLd.at (aP hjR);rw[CB hm1]at hx;cases hx;have cx:=c.same (s1.trans sx);have UH:m<A.ks.length:=(by rw[c.Lj];exact(bH.mp hm2).1);have hb:=cx.hks m A.ks[m] _ (aP UH) hm2;show 'y';have hDl:Dd≠l2:=λzz=>by rw[<-zz,SG]at hl2;cases hl2
     have hl1:H1 l2=none:=sx.free hl2;refine⟨by rw[aH hDl];exact SG,by rw[aN,hj];exact dZ (show j<1000001 by rw[fG]at hjR;lia) (by decide),as++[l2],by rw[cF];rfl,by rw[br,hj];rfl,hjR,?_,aU,λb Xz=>?_,λk' b r e1 e2=>?_⟩
     ·intro y o hy
      have hyD:y≠Dd:=λzz=>by rw[zz,hD]at hy;cases hy
      rw[aH hyD];exact bY hl2 _ _ _ (sx _ _ hy)
     ·rcases cu.mp Xz with h|h
      ·exact hnew b h
      ·have:b=l2:=by simpa using h
       rw[this];exact⟨hl1,Ne.symm hDl⟩
     ·by_cases hk:k'<as.length
      ·rw[fE hk]at e1
       have hbb:=hat k' b r e1 e2;rw[aH (hnew b (dU e1)).2];exact bY hl2 _ _ _ hbb
      ·obtain⟨z1,z2⟩:=ye e1 hk
       rw[hj]at z1;rw[z1,aP hjR]at e2;cases e2;rw[<-z2,aH (Ne.symm hDl)];exact aU
    ·rintro acc Hx ⟨as,rfl,hj,hjl,sx,SG,hnew,hat⟩
     show 'Í';have st:=bY hpt (.tup [V.int i,V.ref Dd]);have hlen:as.length=((R.drop i).map (·.1)).length:=by rw[hj,aN,uG,aN];exact hLd.len
     have hD0:H2 Dd=none:=s1.free hD;refine k _ _ ((s1.trans sx).trans st) ?_;unfold Dg;rw[hcn];show 'l';have:=A8 (K:=K) (P:=λx=>H2 x=none) (H:=upd Hx pt (.tup [V.int i,V.ref Dd])) hlen (λb hb=>s1.free (hnew b hb).1) λk' b ns e1 e2=>by
      rw[bK]at e2;cases hr:(R.drop i)[k']? with
      |none=>rw[hr]at e2;cases e2
      |some r=>
       rw[hr]at e2;cases e2;show 'Î'
     rw[jV]at this;exact this
end
end DL.yf
namespace DL.yf
open PySem PySem.Spec PyProof.Rows L2 DL
abbrev Nn:aw:=inClass (top 32) 0
def no1(i:Int):List (Str×V):=[("none",.int i)]
inductive Wo (K:ak) (C:ae) (vs:List V) (H:Hp) (Q:VK):Prop
 |mk (a dx:ae) (n:Nat):(vs=[.ref a,.int n])->((1<=n/\n<=7))->(H a=aa (.ins C dx []))->((∃o,H dx=aa o))->(a≠dx)->(∀(H':Hp)(A':Ad)(kn:As)(zn wn:Nat)(nu:List (List Key×V)),pH C H' a A' (Dc zn wn) n kn (nI []) 2 nu [] [] []->kn[zn]?=aa (upTo n,upTo n)->kn[wn]?=aa (iC n)->(∀x u,x≠a->H x=aa u->x≠dx->H' x=aa u)->(∀x∈A'.all,x=dx\/H x=none)->(∀x,H' x=none->H x=none)->Q .non H')->Wo K C vs H Q
def acg(K:ak)(C:ae):Sp:=λvs H Q _=>Wo K C vs H Q
section
variable{P:aS}{w:aD}{K:ak}{mg:Str->Option ah}{base:aF}
def sc0:aT ["self","n"] ["self","n"] (au Nn):=⟨rfl,rfl,rfl,by decide +kernel,rfl,by decide +kernel,by decide +kernel⟩
def aie{f C fN:ae}{fd Wd:aL}(F:Kh K "__init__" "Comb.__init__" Nn f fd)(T:XF K mg C)(t:Tb K mg)
  (mN:Meth K C "number_of" fN)(bN:Binds K Wd ["self","row"] [])(GN:fW P w K mg base tw 3 fN Wd ["self","row"] (Lw K C))
  (G_s:pF P w K mg base 1 t.pW t.pX ["n"] g9)(G_h:pF P w K mg base 1 t.FE t.FG ["n"] Ai)
  (es:∀n:Nat,n<=7->g9 [.int n]=.ok (bp (upTo n)))(eh:∀n:Nat,1<=n/\n<=7->Ai [.int n]=.ok (bp (upTo n).reverse))(ivh:∀n:Nat,Iv n (upTo n).reverse (upTo n).reverse)(ivs:∀n:Nat,Iv n (upTo n) (upTo n)):fW P w K mg base tw 4 f fd ["self","n"] (acg K C):=by
 refine F.ok sc0 (λvs H Q E h=>?_) (λcdv A outer s H vs Q E hr h=>?_)
 ·obtain⟨a,dx,n,rfl,_⟩:=h
  rfl
 ·obtain⟨a,dx,n,rfl,hn,hob,hdx,hne,k⟩:=h
  have hu:=AG hr;refine⟨_,(bz (uB (pv 0) (Ca bQ) rfl) (bz (uB (pv 0) AL rfl) (bz (uB (pv 0) (Ca bQ) rfl) (bz (uB (pv 0) (Ca bQ) rfl) (bz (uB (pv 0) AL rfl) (bz (uB (pv 0) AL rfl) (bz (uB (pv 0) AL rfl) (bz (uB (pv 0) (Ca bQ) rfl) (bz (uB (pv 0) (qd (pv 0) T.cl mN GN hr.mono bN .nil xr (bc (jQ (E:=λ_ _ _=>False) G_s hr.mono (by rfl) t.km.m t.km.F.kp t.km.b .nil rS (bc (pv 1) bQ)) bQ)) rfl) (fz (uB (pv 0) (qd (pv 0) T.cl mN GN hr.mono bN .nil xr (bc (jQ (E:=λ_ _ _=>False) G_h hr.mono (by rfl) t.CI.m t.CI.F.kp t.CI.b .nil rS (bc (pv 1) bQ)) bQ)) rfl))))))))))),?_⟩;refine⟨(by show 0<=aK;decide),λl1 h1=>?_⟩;obtain⟨ne1,aif,ob1,at1,kp1,XJ⟩:=qE hob h1 (.lst []) "known";refine⟨_,rfl,a,C,dx,_,rfl,aif,T.cl,T.kn,(by show 0<1000;decide),?_⟩;generalize hH1:upd (upd H l1 (.lst [])) a _=H1 at ob1 at1 kp1 XJ;intro l2 h2;obtain⟨ne2,aih,ob2,at2,kp2,gr2⟩:=qE ob1 h2 (.dT []) "numbers";refine⟨_,rfl,a,C,dx,_,rfl,aih,T.cl,T.nu,(by show 1<1000;decide),?_⟩;generalize hH2:upd (upd H1 l2 (.dT [])) a _=H2 at ob2 at2 kp2 gr2;refine⟨(by show 0<=aK;decide),λl3 h3=>?_⟩;obtain⟨ne3,aii,ob3,at3,Qw,gr3⟩:=qE ob2 h3 (.lst []) "firsts";refine⟨_,rfl,a,C,dx,_,rfl,aii,T.cl,T.fi,(by show 2<1000;decide),?_⟩;generalize XG:upd (upd H2 l3 (.lst [])) a _=H3 at ob3 at3 Qw gr3;refine⟨(by show 0<=aK;decide),λl4 h4=>?_⟩;obtain⟨ne4,aij,ob4,at4,Ly,gr4⟩:=qE ob3 h4 (.lst []) "lasts";refine⟨_,rfl,a,C,dx,_,rfl,aij,T.cl,T.la,(by show 3<1000;decide),?_⟩;generalize hH4:upd (upd H3 l4 (.lst [])) a _=H4 at ob4 at4 Ly gr4;intro l5 h5;obtain⟨ne5,aik,ob5,at5,JZ,gr5⟩:=qE ob4 h5 (.dT []) "shorter";refine⟨_,rfl,a,C,dx,_,rfl,aik,T.cl,T.sh,(by show 4<1000;decide),?_⟩;generalize hH5:upd (upd H4 l5 (.dT [])) a _=H5 at ob5 at5 JZ gr5;intro l6 h6;obtain⟨ne6,ain,ob6,at6,Lz,gr6⟩:=qE ob5 h6 (.dT []) "longer";refine⟨_,rfl,a,C,dx,_,rfl,ain,T.cl,T.lo,(by show 5<1000;decide),?_⟩;generalize XH:upd (upd H5 l6 (.dT [])) a _=H6 at ob6 at6 Lz gr6;intro l7 h7;obtain⟨ne7,aio,ob7,at7,Qx,gr7⟩:=qE ob6 h7 (.dT []) "kept";refine⟨_,rfl,a,C,dx,_,rfl,aio,T.cl,T.ke,(by show 6<1000;decide),?_⟩;generalize hH7:upd (upd H6 l7 (.dT [])) a _=H7 at ob7 at7 Qx gr7;refine⟨(by show 0<=aK;decide),λl8 h8=>?_⟩;obtain⟨ne8,aip,ob8,at8,kp8,gr8⟩:=qE ob7 h8 (.lst []) "line";refine⟨_,rfl,a,C,dx,_,rfl,aip,T.cl,T.li,(by show 7<1000;decide),?_⟩;generalize hH8:upd (upd H7 l8 (.lst [])) a _=H8 at ob8 at8 kp8 gr8;have v1:H8 l1=aa (.lst []):=(kp8 _ _ ne1 (Qx _ _ ne1 (Lz _ _ ne1 (JZ _ _ ne1 (Ly _ _ ne1 (Qw _ _ ne1 (kp2 _ _ ne1 at1)))))))
  have v2:H8 l2=aa (.dT []):=(kp8 _ _ ne2 (Qx _ _ ne2 (Lz _ _ ne2 (JZ _ _ ne2 (Ly _ _ ne2 (Qw _ _ ne2 at2))))))
  have v3:H8 l3=aa (.lst []):=(kp8 _ _ ne3 (Qx _ _ ne3 (Lz _ _ ne3 (JZ _ _ ne3 (Ly _ _ ne3 at3)))))
  have v4:H8 l4=aa (.lst []):=(kp8 _ _ ne4 (Qx _ _ ne4 (Lz _ _ ne4 (JZ _ _ ne4 at4))))
  have v5:H8 l5=aa (.dT []):=(kp8 _ _ ne5 (Qx _ _ ne5 (Lz _ _ ne5 at5)))
  have v6:H8 l6=aa (.dT []):=(kp8 _ _ ne6 (Qx _ _ ne6 at6))
  have v7:H8 l7=aa (.dT []):=(kp8 _ _ ne7 at7)
  have v8:H8 l8=aa (.lst []):=at8;have kp:∀x u,x≠a->H x=aa u->H8 x=aa u:=λx u hn hx=>(kp8 _ _ hn (Qx _ _ hn (Lz _ _ hn (JZ _ _ hn (Ly _ _ hn (Qw _ _ hn (kp2 _ _ hn (kp1 _ _ hn hx))))))))
  have gr:∀x,H8 x=none->H x=none:=λx hx=>(XJ _ (gr2 _ (gr3 _ (gr4 _ (gr5 _ (gr6 _ (gr7 _ (gr8 _ hx))))))))
  have f1:H l1=none:=h1;have f2:H l2=none:=(XJ _ h2)
  have f3:H l3=none:=(XJ _ (gr2 _ h3))
  have f4:H l4=none:=(XJ _ (gr2 _ (gr3 _ h4)))
  have f5:H l5=none:=(XJ _ (gr2 _ (gr3 _ (gr4 _ h5))))
  have f6:H l6=none:=(XJ _ (gr2 _ (gr3 _ (gr4 _ (gr5 _ h6)))))
  have f7:H l7=none:=(XJ _ (gr2 _ (gr3 _ (gr4 _ (gr5 _ (gr6 _ h7))))))
  have f8:H l8=none:=(XJ _ (gr2 _ (gr3 _ (gr4 _ (gr5 _ (gr6 _ (gr7 _ h8)))))))
  have amU:l1≠l2:=aV at1 h2;have amV:l1≠l3:=aV (kp2 _ _ ne1 at1) h3;have amW:l2≠l3:=aV at2 h3;have amX:l1≠l4:=aV (Qw _ _ ne1 (kp2 _ _ ne1 at1)) h4;have amY:l2≠l4:=aV (Qw _ _ ne2 at2) h4;have amZ:l3≠l4:=aV at3 h4;have am0:l1≠l5:=aV (Ly _ _ ne1 (Qw _ _ ne1 (kp2 _ _ ne1 at1))) h5;have am1:l2≠l5:=aV (Ly _ _ ne2 (Qw _ _ ne2 at2)) h5;have am2:l3≠l5:=aV (Ly _ _ ne3 at3) h5;have am3:l4≠l5:=aV at4 h5;have am4:l1≠l6:=aV (JZ _ _ ne1 (Ly _ _ ne1 (Qw _ _ ne1 (kp2 _ _ ne1 at1)))) h6;have am5:l2≠l6:=aV (JZ _ _ ne2 (Ly _ _ ne2 (Qw _ _ ne2 at2))) h6;have am6:l3≠l6:=aV (JZ _ _ ne3 (Ly _ _ ne3 at3)) h6;have am7:l4≠l6:=aV (JZ _ _ ne4 at4) h6;have am8:l5≠l6:=aV at5 h6;have am9:l1≠l7:=aV (Lz _ _ ne1 (JZ _ _ ne1 (Ly _ _ ne1 (Qw _ _ ne1 (kp2 _ _ ne1 at1))))) h7;have ana:l2≠l7:=aV (Lz _ _ ne2 (JZ _ _ ne2 (Ly _ _ ne2 (Qw _ _ ne2 at2)))) h7;have anb:l3≠l7:=aV (Lz _ _ ne3 (JZ _ _ ne3 (Ly _ _ ne3 at3))) h7;have anc:l4≠l7:=aV (Lz _ _ ne4 (JZ _ _ ne4 at4)) h7;have ane:l5≠l7:=aV (Lz _ _ ne5 at5) h7;have anf:l6≠l7:=aV at6 h7;have ang:l1≠l8:=aV (Qx _ _ ne1 (Lz _ _ ne1 (JZ _ _ ne1 (Ly _ _ ne1 (Qw _ _ ne1 (kp2 _ _ ne1 at1)))))) h8;have anh:l2≠l8:=aV (Qx _ _ ne2 (Lz _ _ ne2 (JZ _ _ ne2 (Ly _ _ ne2 (Qw _ _ ne2 at2))))) h8;have ani:l3≠l8:=aV (Qx _ _ ne3 (Lz _ _ ne3 (JZ _ _ ne3 (Ly _ _ ne3 at3)))) h8;have anj:l4≠l8:=aV (Qx _ _ ne4 (Lz _ _ ne4 (JZ _ _ ne4 at4))) h8;have ank:l5≠l8:=aV (Qx _ _ ne5 (Lz _ _ ne5 at5)) h8;have anl:l6≠l8:=aV (Qx _ _ ne6 at6) h8;have anm:l7≠l8:=aV at7 h8;have vd:∃o,H8 dx=aa o:=by obtain⟨o,ho⟩:=hdx;exact⟨o,kp _ _ (Ne.symm hne) ho⟩
  have ndx:∀{l:ae},H l=none->l≠dx:=λhl z=>by obtain⟨o,ho⟩:=hdx;rw[<-z,hl]at ho;cases ho
  have c:pH C H8 a ⟨dx,l1,l2,l3,l4,l5,l6,l7,l8,[]⟩ [] n [] [] 0 [] [] [] []:=by refine⟨ob8,vd,?_,v1,rfl,(λi b p e=>by simp at e),v2,v3,v4,v5,v6,v7,v8,(λp hp=>by simp at hp),(λi p e=>by simp at e),(λr _=>rfl),(λi k v e=>by cases e),(λi k v e=>by cases e),(λi j v e=>by cases e),⟨aY _,aY _,aY _,aY _,aY _⟩,(λm hm=>by simp at hm)⟩;show(a::dx::l1::l2::l3::l4::l5::l6::l7::l8::[]).Nodup;simp only [ji,aX,AV,or_false,not_or,not_false_eq_true,YX,and_true];exact⟨⟨hne,Ne.symm ne1,Ne.symm ne2,Ne.symm ne3,Ne.symm ne4,Ne.symm ne5,Ne.symm ne6,Ne.symm ne7,Ne.symm ne8⟩,⟨Ne.symm (ndx f1),Ne.symm (ndx f2),Ne.symm (ndx f3),Ne.symm (ndx f4),Ne.symm (ndx f5),Ne.symm (ndx f6),Ne.symm (ndx f7),Ne.symm (ndx f8)⟩,⟨amU,amV,amX,am0,am4,am9,ang⟩,⟨amW,amY,am1,am5,ana,anh⟩,⟨amZ,am2,am6,anb,ani⟩,⟨am3,am7,anc,anj⟩,⟨am8,ane,ank⟩,⟨anf,anl⟩,anm⟩
  generalize ob8=ob8 at c;clear aif aih aii aij aik ain aio aip;have frF:∀x∈(⟨dx,l1,l2,l3,l4,l5,l6,l7,l8,[]⟩:Ad).all,x=dx\/H x=none:=λx hx=>by
   unfold Ad.all Ad.hd at hx;simp only [bg,aX,AV,or_false]at hx;rcases hx with rfl|rfl|rfl|rfl|rfl|rfl|rfl|rfl|rfl
   ·exact .inl rfl
   ·exact .inr f1
   ·exact .inr f2
   ·exact .inr f3
   ·exact .inr f4
   ·exact .inr f5
   ·exact .inr f6
   ·exact .inr f7
   ·exact .inr f8
  generalize (⟨dx,l1,l2,l3,l4,l5,l6,l7,l8,[]⟩:Ad)=A at c frF;refine⟨_,rfl,a,A.dx,_,rfl,c.ob,rfl,_,rfl,λ_=>True,[.int n],⟨_,_,rfl,rfl,rfl⟩,?_⟩;rw[es n hn.2];intro q ws H9 s9 hq9 hw9 iw9;have ew:=lI iw9;subst ew;have c9:=c.same s9;have nF:∀{Hx Hy:Hp}{Ax:Ad}{y:ae}{exx:List (Str×V)}{knn:As}{lnn:Ap}{BB:Nat}{nn ss ll kk:List (List Key×V)},pH C Hx a Ax exx n knn lnn BB nn ss ll kk->Hx y=none->y∉a::Ax.all:=λcx hy hx=>by obtain⟨o,ho⟩:=cx.there hx;rw[hy]at ho;cases ho
  refine⟨a,A,[],n,[],[],0,[],[],[],[],(upTo n,upTo n),.ref q,rfl,c9,hn.2,by decide,ivs n,⟨q,_,rfl,.inl ⟨nF (Hy:=H9) c hq9,.inl hw9⟩,fg _⟩,λi1 Ky A1 mo1 nu1 c10 hi1 Jo el1=>?_⟩;refine⟨_,rfl,a,C,A1.dx,_,rfl,c10.ob,T.cl,T.no,(by show 8<1000;decide),?_⟩;have c11:=c10.abS (no1 i1);have aiq:pI H8 (upd Ky a (.ins C A1.dx (Du A1++(no1 i1)))) (a::A.all) (a::A1.all):=((pI.same s9 _).trans Jo).trans (pI.upd je _);rw[show rQ ("none":Str) (.int (i1:Int)) (Du A1++[])=Du A1++(no1 i1)from rfl];generalize upd Ky a (.ins C A1.dx (Du A1++(no1 i1)))=H11 at c11 aiq;refine⟨_,rfl,a,A1.dx,_,rfl,c11.ob,rfl,_,rfl,λ_=>True,[.int n],⟨_,_,rfl,rfl,rfl⟩,?_⟩;rw[eh n hn];intro q2 ws2 H12 Zb anp anq anr;have ew2:=lI anr;subst ew2;have c12:=c11.same Zb;refine⟨a,A1,(no1 i1),n,[]++mo1,[],1,nu1,[],[],[],iC n,.ref q2,rfl,c12,hn.2,by decide,ivh n,⟨q2,_,rfl,.inl ⟨nF (Hy:=H12) c11 anp,.inl anq⟩,fg _⟩,λi2 H13 A2 mo2 Ex c13 hi2 Nm el2=>?_⟩;refine⟨_,rfl,a,C,A2.dx,_,rfl,c13.ob,T.cl,T.wh,(by show 9<1000;decide),?_⟩;have c14:=c13.abS (Dc i1 i2);rw[show rQ ("whole":Str) (.int (i2:Int)) (Du A2++(no1 i1))=Du A2++Dc i1 i2 from rfl];have afo:pI H8 (upd H13 a (.ins C A2.dx (Du A2++Dc i1 i2))) (a::A.all) (a::A2.all):=((aiq.trans (pI.same Zb _)).trans Nm).trans (pI.upd je _);refine k _ A2 ([]++mo1++mo2) i1 i2 Ex c14 (fK hi1) hi2 (λx u hx h1 h2=>?_) (λx hx=>?_) (λx hx=>gr x (afo.gr x hx))
  ·refine afo.kp x u (λhm=>?_) (kp x u hx h1)
   rcases aX.mp hm with z|z
   ·exact hx z
   ·rcases frF x z with z|z
    ·exact h2 z
    ·rw[z]at h1;cases h1
  ·rcases afo.nw x (bE _ hx)with z|z
   ·rcases aX.mp z with z|z
    ·rw[z]at hx
     exact absurd hx (ji.mp c14.nd).1
    ·exact frF x z
   ·exact .inr (gr x z)
end
end DL.yf
namespace DL.yf
open PySem PySem.Spec PyProof.Rows L2 DL
def afp{α:Type}(r:R α)(c:Str):r.ne≠.err c:=by cases r<;>exact λz=>nomatch z
structure CbM(P:aS)(w:aD)(K:ak)(mg:Str->Option ah)(base:aF)(C:ae) where
 fI:ae
 dI:aL
 fP:ae
 dP:aL
 fT:ae
 dT:aL
 M:Mk K C fI
 bI:Binds K dI ["self","n"] []
 GI:fW P w K mg base tw 4 fI dI ["self","n"] (acg K C)
 mP:Meth K C "put" fP
 bP:Binds K dP ["self","row"] []
 GP:fW P w K mg base tw 7 fP dP ["self","row"] (acd K C)
 mT:Meth K C "form_told" fT
 bT:Binds K dT ["self"] []
 GT:fW P w K mg base tw 1 fT dT ["self"] (acf K C)
section
variable{P:aS}{w:aD}{K:ak}{mg:Str->Option ah}{base:aF}
def afq{C:ae}(T:XF K mg C)(Z:CbM P w K mg base C)(t:Tb K mg)(G_r:OkT P w K mg base 3 t.g6 t.g7 ["steps"] dm):
  Ok P w K mg base 9 t.lQ t.lR ["n","steps"] jH:=by
 refine t.qN.F.ok jY (λvs H Q E h=>?_) (λcdv A outer s H vs Q E hr h=>?_)
 ·obtain⟨Pa,ds,i,h⟩:=h
  match ds,h with
  |[.int n,d],h=>
   obtain⟨v,r,rfl,_,v',r',rfl,_,e⟩:=i;have e':r'=[]:=e;subst e';rfl
 ·obtain⟨Pa,ds,i,h⟩:=h
  obtain⟨n,d,rfl⟩:∃n d,ds=[.int n,d]:=by
   match ds,h with
   |[.int n,d],h=>exact⟨n,d,rfl⟩
  obtain⟨v0,r0,rfl,i0,v1,r1,rfl,i1,e2⟩:=i;have e2':r1=[]:=e2;have e0':v0=.int n:=i0;subst e2' e0';cases em:jH [.int n,d]with
  |bad=>rw[em]at h;show '6'
  |err c=>exact absurd em (afp _ c)
  |ok ans=>
  rw[em]at h;have em':R.bind (dm [d]) (λrs=> @ite _ ((1<=n/\n<=7)/\rs.length<=40/\∀r∈rs,bO n.toNat r) (gB _) (Ql [.val (.int n),.val d,.no,.no,.val (Dg n.toNat (lq n.toNat rs))]>=>aA) .bad)=.ok ans:=R.eT em;obtain⟨rs,hrs,em2⟩:=R.kK em'
  by_cases hg:(1<=n/\n<=7)/\rs.length<=40/\∀r∈rs,bO n.toNat r
  case neg=>
   rw[if_neg hg]at em2;cases em2
  case pos=>
  rw[if_pos hg]at em2;obtain⟨hn,arI,ais⟩:=hg;obtain⟨m,rfl⟩:∃m:Nat,n=m:=⟨n.toNat,by lia⟩
  rw[bu]at em2 ais;have hu:=AG hr;refine⟨_,bz (iP (i:=2) jY.nd rfl (fM rfl) (Yy Z.M Z.GI hr.mono (by rfl) T.mgC Z.bI .nil xr (bc (pv 0) bQ)))
   (bz (TX gK rfl (DS (jQ (E:=λ_ _ _=>False) G_r hr.mono (by rfl) t.fq.m t.fq.F.kp t.fq.b .nil rS (bc (pv 1) bQ))) (HV (i:=3) jY.nd rfl (fM rfl))
    (fz (kD (qd (pv 2) T.cl Z.mP Z.GP hr.mono Z.bP .nil xr (bc (pv 3) bQ)) rfl)))
   (bz (iP (i:=4) jY.nd rfl (fM rfl) (T9 (pv 2) T.cl Z.mT Z.GT hr.mono Z.bT .nil xr))
   (bU (gY (E:=EN) (MJ (aJ (cJ fO cV (PE.aW (Ci (nD 4) (PE.aW cI))) (PE.aW (alc rfl t.ab0 (PE.uV (G2 (cpS (N:=["step"]) (nt:=1) (caps:=[]) (au pU) ["n","steps","comb","row","found"] (by decide +kernel)) rfl (Us (iL (nD 1))) (Kp.ok (R9 (nt:=1) 0)) (λ_ _ _ _ _=>(EY 0 (by show rB (["step"]:List Str);decide +kernel))) (λ_ _ _ _ _=>ts0) (λ_ _ _ _ _=>(Ci (nD 0) (PE.aW cI)))))))) (aJ (Ci (nD 4) (PE.aW cI)) cL))))))),?_⟩
  refine⟨_,rfl,λx dx hx hdx hne=>?_⟩;refine⟨x,dx,m,rfl,by lia,aU,⟨_,by rw[aH hne];exact aU⟩,Ne.symm hne,λH1 A1 kn1 zn wn nu1 c1 hz1 hw1 kp1 nw1 XJ=>⟨rfl,?_⟩⟩;have s01:bM H H1:=λy u hy=>by
   have hyx:y≠x:=λz=>by rw[z,hx]at hy;cases hy
   have hyd:y≠dx:=λz=>by rw[z,hdx]at hy;cases hy
   exact kp1 y u hyx (by rw[aH hyx,aH hyd];exact hy) hyd
  have nF1:∀y∈x::A1.all,H y=none:=λy hy=>by
   rcases aX.mp hy with rfl|hy
   ·exact hx
   ·rcases nw1 y hy with rfl|hy
    ·exact hdx
    ·by_cases z1:y=x
     ·rw[z1];exact hx
     ·by_cases z2:y=dx
      ·rw[z2];exact hdx
      ·rw[aH z1,aH z2]at hy;exact hy
  refine⟨_,rfl,λ_=>True,[d],⟨_,_,rfl,(i1.same s01).weak,rfl⟩,?_⟩;rw[hrs];intro la as H2 Zb nd2;have c2:=c1.same Zb;have hlen:=nd2.len;have asF:∀b∈la::as,b∉x::A1.all:=λb hb hF=>by obtain⟨o,ho⟩:=c1.there hF;rw[nd2.fr b hb]at ho;cases ho
  refine⟨la,rfl,⟨_,gS.of nd2.ha⟩,TY (K:=K) (a:=la) (xs:=as.map V.ref) (λi σ Hx=>∃(A2:Ad)(mo:As)(ls:List Nat)(B2:Nat)(Ex FH lo2 XI:List (List Key×V))(rv:Option V),σ=[aa (.int (m:Int)),aa v1,aa (.ref x),rv,none]/\pH C Hx x A2 (Dc zn wn) m (kn1++mo) (nI ls) B2 Ex FH lo2 XI/\
    g4 (kn1++mo) ls (lq m (rs.take i))/\B2<=2+402*41*i/\i<=rs.length/\pI H2 Hx (x::A1.all) (x::A2.all)) ⟨A1,[],[],2,nu1,[],[],[],none,rfl,by rw[bg];exact c2,rfl,by lia,iJ _,pI.refl _ _⟩ ?_ ?_ ?_⟩
  ·rintro i σ Hx hi ⟨A2,mo,ls,B2,Ex,FH,lo2,XI,rv,rfl,c3,hL,hB,hir,B7⟩
   exact gS.of (B7.kp la _ (asF la (by simp)) nd2.ha)
  ·rintro i y σ Hx hy ⟨A2,mo,ls,B2,Ex,FH,lo2,XI,rv,rfl,c3,hL,hB,hir,B7⟩
   have hia:i<as.length:=by
    have:=(bH.mp hy).1
    rwa [aN]at this
   have aiu:i<rs.length:=(by rw[<-hlen];exact hia);rw[bK,aP hia]at hy;cases hy;have hr1:rs[i]?=aa rs[i]:=aP aiu;have hb2:=nd2.it i as[i] rs[i] (aP hia) hr1;have hbF:=asF as[i] (bE _ (Jp _));have hb3:=B7.kp _ _ hbF hb2;have anu:as[i]∉x::A2.all:=λhF=>by
    rcases B7.nw _ hF with z|z
    ·exact hbF z
    ·rw[hb2]at z;cases z
   have hcl:=Bk m (rs.take i) [];have aaA:(lq m (rs.take i)).length<=40:=by unfold lq;rw[cD,fA]at hcl;lia
   refine⟨_,rfl,x,A2.dx,_,rfl,c3.ob,rfl,_,rfl,x,A2,zn,wn,m,kn1++mo,ls,lq m (rs.take i),B2,Ex,FH,lo2,XI,(rs[i],xN rs[i]),.ref as[i],rfl,c3,hL,fK hz1,by lia,by lia,by lia,kZ (ais _ (Jp _)),⟨as[i],_,rfl,.inl ⟨anu,.inl hb3⟩,fg _⟩,λH4 A4 Qt ls4 nu4 sh4 lo4 ke4 c4 hL4 fr4=>?_⟩;rw[aZ]at c4 hL4;exact⟨A4,mo++Qt,ls4,_,nu4,sh4,lo4,ke4,_,rfl,c4,by rw[Sy hr1];exact hL4,by lia,aiu,B7.trans fr4⟩
  ·rintro σ Hx ⟨A2,mo,ls,B2,Ex,FH,lo2,XI,rv,rfl,c3,hL,hB,hir,B7⟩
   rw[aN,hlen,A0]at hL;have hcl:=Bk m rs [];have aaA:(lq m rs).length<=1000:=by unfold lq;rw[cD]at hcl;lia
   refine⟨_,rfl,x,A2.dx,_,rfl,c3.ob,rfl,x,A2,zn,wn,m,kn1++mo,ls,lq m rs,B2,Ex,FH,lo2,XI,rfl,c3,hL,fK hw1,aaA,λfv H5 s5 i5=>?_⟩;have sHx:bM H Hx:=λy u hy=>B7.kp y u (λhF=>by rw[nF1 y hF]at hy;cases hy) (Zb _ _ (s01 _ _ hy));have sH5:=sHx.trans s5;refine⟨⟨Pa,H⟩,[.val (.int (m:Int)),.val d,.no,.no,.val (Dg m (lq m rs))],[],⟨rfl,sH5,λi dd e=>?_,λi xs e=>?_,λi j xs ys b e=>?_,(λb hb=>nomatch hb),λi v e=>?_,MF.none λi w e=>?_⟩,?_⟩
   ·match i with
    |0=>cases e;exact⟨_,rfl,rfl⟩
    |1=>cases e;exact⟨_,rfl,Is.ext ⟨λa o p _=>⟨.inl p,λz=>nomatch z⟩,λa o _ q=>sH5 a o q⟩ _ _ i1⟩
    |2=>cases e
    |3=>cases e
    |4=>cases e;exact⟨_,rfl,Is.ext ⟨λa o p _=>⟨.inr (sHx.free p),λz=>nomatch z⟩,λa o _ q=>q⟩ _ _ i5⟩
    |i+5=>cases e
   ·match i with
    |0=>cases e
    |1=>cases e
    |2=>cases e
    |3=>cases e
    |4=>cases e
    |i+5=>cases e
   ·match i with
    |0=>cases e
    |1=>cases e
    |2=>cases e
    |3=>cases e
    |4=>cases e
    |i+5=>cases e
   ·match i with
    |0=>cases e
    |1=>cases e
    |2=>cases e
    |3=>cases e
    |4=>cases e
    |i+5=>cases e
   ·match i with
    |0=>cases e
    |1=>cases e
    |2=>cases e
    |3=>cases e
    |4=>cases e
    |i+5=>cases e
   ·obtain⟨o,ho,hv⟩:=R.kK em2
    obtain⟨dd,hdd,ho2⟩:=R.kK (show R.bind _ (λv1=>R.ok (Out.rt v1))=.ok o from ho);cases ho2;cases hv;exact D9 ho λv H' sH' iv'=>h v H' sH' (Is.ext ⟨λa o p _=>p.1,λa o _ q=>q⟩ _ _ iv')
end
end DL.yf
namespace DL
open PySem PySem.Spec PyProof.Rows L2
def fR:Ap->Ap->Option Ap
 |[],o=>aa o
 |k::w,o=>if k<0\/ai o k.toNat<ai o (k-1).toNat then none else fR w (fy o (k-1).toNat)
def kR{n a:Nat}{o w:Ap}:fR (((a:Int)+1)::w) o=if ai o (a+1)<ai o a then none else fR w (fy o a):=by
 conv=>lhs;unfold fR
 rw[show((a:Int)+1).toNat=a+1 by lia,show((a:Int)+1-1).toNat=a by lia]
 by_cases h:ai o (a+1)<ai o a
 ·rw[if_pos (.inr h),if_pos h]
 ·rw[if_neg (by rintro(z|z);lia;exact h z),if_neg h]
def Ps(n:Nat)(w:Ap):Prop:=∀k∈w,∃a:Nat,k=(a:Int)+1/\a+1<n
def tj(w o:Ap):Ap:=w.foldl (λo k=>fy o (k-1).toNat) o
theorem Qy(f:Int->Int):∀(l:Ap)(a:Nat),fy (l.map f) a=(fy l a).map f
 |[],a=>by cases a<;>rfl
 |[x],0=>rfl
 |[x],a+1=>by cases a<;>rfl
 |x::y::l,0=>rfl
 |x::y::l,a+1=>by show fy (f x::I8 f (y::l)) (a+1)=_;rw[yc,yc,Qy f (y::l) a];rfl
def Wq{n a:Nat}(h:a+1<n):fy (upTo n) a=(upTo n).map (sg a):=by
 refine cH (by rw[dR,aN]) λj hj=>?_;rw[dR,aI]at hj;have e:=cM (r:=upTo n) (a:=a) (p:=j) (by rw[aI];exact hj);unfold vh at e;rw[e,dC _ _ (by rw[aI];exact h),aM hj];unfold sg
 by_cases h1:j=a
 ·rw[if_pos h1,aM (by lia),if_pos (show(j:Int)=a by lia)]
  lia
 ·rw[if_neg h1,if_neg (show¬(j:Int)=a by lia)]
  by_cases h2:j=a+1
  ·rw[if_pos h2,aM (by lia),if_pos (show(j:Int)=a+1 by lia)]
  ·rw[if_neg h2,if_neg (show¬(j:Int)=a+1 by lia)]
theorem Jq(f:Int->Int):∀(w o:Ap),tj w (o.map f)=(tj w o).map f
 |[],o=>rfl
 |k::w,o=>by show tj w (fy (o.map f) (k-1).toNat)=(tj w (fy o (k-1).toNat)).map f;rw[Qy,Jq f w]
def sL(n:Nat):Iv n (upTo n) (upTo n):=⟨aI n,aI n,λp hp=>by rw[aM hp,bu];exact⟨by lia,by lia,aM hp⟩,λp hp=>by rw[aM hp,bu];exact⟨by lia,by lia,aM hp⟩⟩
theorem Np:∀w:Ap,Ps n w->Iv n (tj w.reverse (upTo n)) (tj w (upTo n))
 |[],_=>sL n
 |k::w,h=>by
  obtain⟨a,rfl,ha⟩:=h k (by simp);have ih:=Np w λx hx=>h x (by simp[hx]);rw[jS];have e1:tj (((a:Int)+1)::w) (upTo n)=vh (tj w (upTo n)) a:=by show tj w (fy (upTo n) ((a:Int)+1-1).toNat)=_;rw[show((a:Int)+1-1).toNat=a by lia,Wq ha,Jq];rfl
  have e2:tj (w.reverse++[(a:Int)+1]) (upTo n)=fy (tj w.reverse (upTo n)) a:=by unfold tj;rw[Bj];show fy _ ((a:Int)+1-1).toNat=_;rw[show((a:Int)+1-1).toNat=a by lia]
  rw[e1,e2];exact(ih.symm.step ha).symm
def acj{o s:Ap}(h:Iv n o s){a:Nat}(ha:a+1<n):ai o a≠ai o (a+1):=λe=>by have:=h.symm.To (v:=a) (w:=a+1) (by lia) ha e;lia
def Qz{o s:Ap}(h:Iv n o s){a:Nat}(ha:a+1<n):lN (fy o a)=lN o+1/\ai o a<ai o (a+1)\/lN (fy o a)+1=lN o/\ai o (a+1)<ai o a:=by
 have e:=El o a [] (by rw[h.lr];exact ha);have d:=acj h ha;unfold lN
 by_cases c:ai o a<ai o (a+1)
 ·rw[if_neg (by lia),if_pos c]at e
  exact .inl ⟨by lia,c⟩
 ·rw[if_pos (by lia),if_neg c]at e
  exact .inr ⟨by lia,by lia⟩
theorem vA:∀(w o s z:Ap),Ps n w->Iv n o s->fR w o=aa z->z=tj w o/\lN z=lN o+w.length
 |[],o,s,z,_,_,h=>by cases h;show 'È'
 |k::w,o,s,z,hw,hi,h=>by
  obtain⟨a,rfl,ha⟩:=hw k (by simp);rw[kR (n:=n)]at h;split at h
  ·cases h
  ·rename_i hc
   obtain⟨e1,e2⟩:=vA w (fy o a) (vh s a) z (λx hx=>hw x (by simp[hx])) (hi.symm.step ha).symm h;have:=Qz hi ha;refine⟨?_,by rw[e2,aR];lia⟩;rw[e1];show _=tj w (fy o ((a:Int)+1-1).toNat);rw[show((a:Int)+1-1).toNat=a by lia]
theorem LA:∀(w o s:Ap),Ps n w->Iv n o s->lN (tj w o)<=lN o+w.length/\(lN (tj w o)=lN o+w.length->fR w o=aa (tj w o))
 |[],o,s,_,_=>⟨aY _,λ_=>rfl⟩
 |k::w,o,s,hw,hi=>by
  obtain⟨a,rfl,ha⟩:=hw k (by simp);have e0:tj (((a:Int)+1)::w) o=tj w (fy o a):=by show tj w (fy o ((a:Int)+1-1).toNat)=_;rw[show((a:Int)+1-1).toNat=a by lia]
  obtain⟨e1,e2⟩:=LA w (fy o a) (vh s a) (λx hx=>hw x (by simp[hx])) (hi.symm.step ha).symm;rw[kR (n:=n),e0,aR];rcases Qz hi ha with⟨c1,c2⟩|⟨c1,c2⟩
  ·exact⟨by lia,λh=>by rw[if_neg (by lia)];exact e2 (by lia)⟩
  ·exact⟨by lia,λh=>by lia⟩
def Wr:∀n:Nat,n<8->lN (upTo n)=0:=by decide +kernel
def LB{w z:Ap}(hw:Ps n w)(h:fR w (upTo n)=aa z):fR w.reverse (upTo n)=aa (tj w.reverse (upTo n)):=by obtain⟨e1,e2⟩:=vA w _ _ z hw (sL n) h;refine(LA w.reverse (upTo n) (upTo n) (λk hk=>hw k (by simpa using hk)) (sL n)).2 ?_;rw[Ff (Np w hw),<-e1,e2,bR]
def QA{w z:Ap}(hw:Ps n w)(h:fR w (upTo n)=aa z):Iv n z (tj w.reverse (upTo n)):=by rw[(vA w _ _ z hw (sL n) h).1];exact(Np w hw).symm
theorem CM:∀(w o:Ap)(k:Int),fR (w++[k]) o=(fR w o).bind λz=>fR [k] z
 |[],o,k=>rfl
 |x::w,o,k=>by
  rw[cB];unfold fR;split
  ·rfl
  ·exact CM w _ k
def Iv.nd {r s:Ap}(h:Iv n r s):s.Nodup:=by
 unfold rB;rw[List.pairwise_iff_getElem];intro i j hi hj hij e;rw[h.ls]at hi hj;have e2:ai s i=ai s j:=by
  unfold ai;rw[aP,aP]
  ·exact e
 have:=h.To hi hj e2;lia
def gR{r s:Ap}(h:Iv n r s):bO n r:=by
 refine(aac h.symm.nd (Fc n)).mpr λx=>?_;rw[mem_upTo];constructor
 ·intro hx
  obtain⟨p,hp,rfl⟩:=D2 hx;rw[h.lr]at hp;have:=h.rs p hp;rw[show ai r p=r[p]by unfold ai;rw[aP];rfl]at this
  exact⟨this.1,this.2.1⟩
 ·rintro⟨h0,h1⟩
  have:=(h.idx (v:=x.toNat) (by lia)).1
  rwa [show((x.toNat:Nat):Int)=x by lia]at this
def fl(n:Nat)(l:Ap):Ap:=l.map λx=>(n:Int)-1-x
def wR(n:Nat)(l:Ap):(fl n l).length=l.length:=aN _
def BG{p:Nat}(h:p<l.length):ai (fl n l) p=(n:Int)-1-ai l p:=by
 have:=gy h;unfold fl
 conv=>lhs;unfold ai
 rw[bK,this];rfl
def ko{p:Nat}(h:p<l.length):ai l.reverse p=ai l (l.length-1-p):=by unfold ai;rw[tX h]
def ack(n:Nat):fl n (upTo n).reverse=upTo n:=by refine cH (by rw[wR,bR]) λp hp=>?_;rw[wR,bR,aI]at hp;rw[BG (by rw[bR,aI];exact hp),ko (by rw[aI];exact hp),aI,aM (by lia),aM hp];lia
def Jr(h:bO n r):bO n (fl n r):=by
 have e:fl n (upTo n)=(upTo n).reverse:=by rw[<-ack n];unfold fl;rw[rz,oQ,<-rz];congr 1;have:=ack n;unfold fl at this;rw[this]
 exact(Ja.map _ h).trans (by show(fl n (upTo n)).Perm _;rw[e];exact qj _)
def Ey(h:bO n r):bO n r.reverse:=(qj r).trans h
def ux(n:Nat)(hn:n<=7):g9 [.int n]=.ok (bp (upTo n)):=by unfold g9 E6;simp_all;rw[G7 _ (by lia),bu,Cw];dsimp [jE]
def SH{r s:Ap}(h:Iv n r s)(hn:n<=7):Bd [.lst (bp r)]=.ok (bp (fl n s)):=by
 unfold Bd PN;simp_all;rw[y4 h hn];dsimp [uF];rw[Aj (λk=>(n:Int)-1-k) s λk _=>⟨_,pL _ _ _,rfl,by unfold E9 xt;simp_all [cK,h.lr]⟩]
 dsimp [R.Cu];rw[jw (by rw[aN,h.ls];lia)];dsimp [jE];rfl
def Nq(h:r.length=n)(hn:n<=7):lg [.lst (bp r)]=.ok (bp (fl n r.reverse)):=by
 unfold lg zS;simp_all [Pu,uF];rw[Aj (λk=>(n:Int)-1-k) r.reverse λk _=>⟨_,pL _ _ _,rfl,by unfold u9 xt;simp_all [cK,h]⟩]
 dsimp [R.Cu];rw[jw (by rw[aN,bR];lia)];dsimp [jE];rfl
def Ws{b:D->DE->R Out}{x:D}{xs:AN}{e e':DE}(h:b x e=.ok (.nx e')):iS b (x::xs) e=iS b xs e':=by rw[iS,h];rfl
def CN(gs:List Ap)(c:Ap):KQ (gs++[c]) (.int (-1))=.ok (gs.length,c):=by
 have hk:Ao (gs++[c]).length (-1)=aa gs.length:=by unfold L2.Ao;rw[if_neg (by decide),br,tR,if_pos (by lia)];congr 1;lia
 have hg:(gs++[c])[gs.length]?=aa c:=by simp
 unfold KQ;simp_all only [hk,hg]
def QB{ix:Nat}{v:Int}(h:l.length<1000):MV ix env nss (k,l) (.int v)=.ok (.nx (env.set ix (.deep (Ct.ls (nss.set k (l++[v])))))):=if_pos (dZ h (by decide))
def QC{ix:Nat}{ns:Ap}(h:nss.length<1000):U1 ix env nss ns=.ok (.nx (env.set ix (.deep (Ct.ls (nss++[ns]))))):=if_pos (dZ h (by decide))
theorem sM(nss:List Ap)(r:DE):lY 0 (.deep (Ct.ls nss)::r)=.ok nss:=rfl
theorem sN(i:Nat)(a:Sl)(r:DE):lY (i+1) (a::r)=lY i r:=rfl
theorem Wt(nss:List Ap)(r:DE):bZ 0 (.deep (Ct.ls nss)::r)=.ok (.lst (nss.map λns=>.lst (bp ns))):=rfl
def afr(hn:n<=7){o:Ap}(ho:o.length=n)(s0 s1 s3:Sl){a:Nat}(ha:a+1<n)(hc:¬ai o (a+1)<ai o a):uf (.int ((a:Int)+1)) [s0,s1,.own (bp o),s3]=.ok (.nx [s0,s1,.own (bp (fy o a)),.val (.int ((a:Int)+1))]):=by
 unfold uf;have h0:¬(a:Int)+1<0:=by lia
 simp_all [pL,h0,decide_false];rw[jX (by lia) (by lia),jX (by lia) (by lia),show((a:Int)+1-1).toNat=a by lia,show((a:Int)+1).toNat=a+1 by lia];dsimp [hc,decide_false];rw[Cz (by lia) (by lia)];dsimp
theorem LC(hn:n<=7)(s0 s1:Sl):∀(w o z:Ap)(s3:Sl),Ps n w->o.length=n->fR w o=aa z->∃s3',iS uf (bp w) [s0,s1,.own (bp o),s3]=.ok (.nx [s0,s1,.own (bp z),s3'])
 |[],o,z,s3,_,_,h=>by cases h;exact⟨s3,rfl⟩
 |k::w,o,z,s3,hv,ho,h=>by
  obtain⟨a,rfl,ha⟩:=hv k (by simp);rw[kR (n:=n)]at h;split at h
  ·cases h
  ·rename_i hc
   rw[<-xU,Ws (afr hn ho s0 s1 s3 ha hc)];exact LC hn s0 s1 w (fy o a) z _ (λx hx=>hv x (by simp[hx])) (by rw[dR,ho]) h
def Hm(hn:n<=7){w z:Ap}(hv:Ps n w)(h:fR w (upTo n)=aa z):ve [.int n,.lst (bp w)]=.ok (bp z):=by unfold ve K7;simp_all;rw[ux n hn];dsimp;obtain⟨s3,e⟩:=LC hn (.val (.int n)) (.val (.lst (bp w))) w (upTo n) z .no hv (aI n) h;rw[e];dsimp [jE]
def jb(l:Ap)(k:Int):Ap:=if l.getLast?=aa (-k)then l.dropLast else l++[k]
def gz(s w:Ap):Ap:=w.foldl jb s
def LD(s a b:Ap):gz s (a++b)=gz (gz s a) b:=Bj
theorem BH:∀(w s:Ap),(gz s w).length<=s.length+w.length
 |[],s=>by simp[gz]
 |k::w,s=>by
  have:=BH w (jb s k);show(gz (jb s k) w).length<=_;have h2:(jb s k).length<=s.length+1:=by
   unfold jb;split
   ·rw[OV];lia
   ·simp
  rw[aR];lia
def Nr(l:Ap):mO l (-1)=l.getLast?:=by
 rw[Qa];unfold L2.mO L2.Ao;rw[if_neg (by decide)];cases l with
 |nil=>rfl
 |cons x r=>
  rw[if_pos (by simp;lia)];show(x::r)[(-1+((x::r).length:Int)).toNat]?=_;congr 1;simp;lia
def Nt(w:Ap)(hw:w.length<=100000):uZ [.lst (bp w)]=.ok (bp (gz [] w)):=by
 unfold uZ Hc;simp_all;obtain⟨s',e,hj⟩:=xT (S:=Ap×Sl) (b:=wA) (λi s=>s.1=gz [] (w.take i))
  (λs=>[.val (.lst (bp w)),.own (bp s.1),s.2]) (bp w) 0 ([],.no) rfl (by
   rintro j ⟨l,s2⟩ x hs hx;obtain⟨k,hk,rfl⟩:=PK hx;rw[lH]at hs⊢;have Pw:l=gz [] (w.take j):=hs;have hll:=BH (w.take j) [];rw[<-Pw,fA]at hll;simp only [cD]at hll;refine⟨(jb l k,.val (.int k)),?_,by show jb l k=_;rw[K2 hk,LD,Pw];rfl⟩;unfold wA jb;simp_all [pL,cK];cases l with
   |nil=>
    dsimp [cD,QD,Int.lt_irrefl,decide_false,List.getLast?_nil];rw[IS (by simp[bp])];rfl
   |cons y r=>
    have h0:(0:Int)<((y::r).length:Nat):=(by simp);generalize hyr:y::r=l at*;dsimp [h0,decide_true];rw[AY,Nr];cases hq:l.getLast? with
    |none=>rw[<-hyr]at hq;simp at hq
    |some z=>
     dsimp [AK]
     by_cases hz:z= -k
     ·have hz':(z== -k)=true:=by rw[beq_iff_eq];exact hz
      subst hz;dsimp [beq_self_eq_true];rw[ZD (by rw[cK];lia)];dsimp;show _=R.ok (Out.nx [_,Sl.own (bp l.dropLast),_]);unfold bp;rw[En]
     ·have hz':(z== -k)=false:=beq_false_of_ne hz
      have hz2:¬(aa z=aa (-k)):=λe=>hz (ck.inj e);simp_all [hz'];rw[IS (by rw[cK];lia),if_neg hz2];dsimp;unfold bp;rw[cF];rfl)
 obtain⟨l,s2⟩:=s';rw[lH,cK,A0]at hj;have M4:l=gz [] w:=hj;dsimp only at e;rw[show([]:AN)=bp []from rfl,e,M4];simp_all [jE]
theorem FI:∀(w s:Ap),∀k∈gz s w,k∈s\/k∈w
 |[],s,k,h=>.inl h
 |x::w,s,k,h=>by
  rcases FI w (jb s x) k h with h|h
  ·unfold jb at h
   split at h
   ·exact .inl (wz (by rw[IF]at h;exact h))
   ·rcases cu.mp h with h|h
    ·exact .inl h
    ·exact .inr (by rw[dN.mp h];exact je)
  ·exact .inr (bE _ h)
def aaB(s0:Sl)(b k:Int)(hk:1<=k/\k<=7)(s2:Sl):rA (.int k) [s0,.val (.int b),s2]=.ok (.nx [s0,.val (.int (IZ b (1*2^(k-1).toNat))),.val (.int k)]):=by
 unfold rA;simp_all [pL];rw[show ZZ (.int 1) (.int (k-1))=aa (.int (1*2^(k-1).toNat))from if_pos (by unfold Yh;exact⟨by lia,by lia,by decide⟩)]
 simp_all [R8]
theorem Hn(s0:Sl):∀(ks:Ap)(b:Int)(s2:Sl),(∀k∈ks,1<=k/\k<=7)->∃s2',iS rA (bp ks) [s0,.val (.int b),s2]=.ok (.nx [s0,.val (.int (ks.foldl (λb k=>IZ b (1*2^(k-1).toNat)) b)),s2'])
 |[],b,s2,_=>⟨s2,rfl⟩
 |k::ks,b,s2,h=>by rw[<-xU,Ws (aaB s0 b k (h k (by simp)) s2)];exact Hn s0 ks _ _ λx hx=>h x (by simp[hx])
def aaC:∀ks:Ap,(∀k∈ks,1<=k/\k<=7)->vc [.lst (bp ks)]=.ok (.int (Nb ks)):=λks h=>by unfold vc Hd;simp_all;obtain⟨s2,e⟩:=Hn (.val (.lst (bp ks))) ks 0 .no h;rw[e];dsimp;rfl
def aaD(n:Nat):Iv n (upTo n).reverse (upTo n).reverse:=by
 have c:∀p,p<n->ai (upTo n).reverse p=((n-1-p:Nat):Int):=λp hp=>by rw[ko (by rw[aI];exact hp),aI,aM (by lia)]
 have h:∀p,p<n->0<=ai (upTo n).reverse p/\ai (upTo n).reverse p<n/\ai (upTo n).reverse (ai (upTo n).reverse p).toNat=p:=λp hp=>by rw[c p hp,bu,c _ (by lia)];show 'L';lia
 exact⟨by rw[bR,aI],by rw[bR,aI],h,h⟩
def QE(n:Nat)(hn:1<=n/\n<=7):Ai [.int n]=.ok (bp (upTo n).reverse):=by
 unfold Ai Vv;simp_all;have er:UY [.int ((n:Int)-1),.int (-1),.int (-1)]=.ok (UX ((n:Int)-1) (-1) (kF ((n:Int)-1) (-1) (-1)).toNat):=if_pos (by unfold RC;lia);rw[er];have e2:UX ((n:Int)-1) (-1) (kF ((n:Int)-1) (-1) (-1)).toNat=bp (upTo n).reverse:=by
  have hc:n=1\/n=2\/n=3\/n=4\/n=5\/n=6\/n=7:=by lia
  rcases hc with rfl|rfl|rfl|rfl|rfl|rfl|rfl<;>rfl
 rw[e2];simp_all [jE]
def gf(n:Nat):Iv n (upTo n) (upTo n):=⟨aI n,aI n,λp hp=>by rw[aM hp,bu];exact⟨by lia,by lia,aM hp⟩,λp hp=>by rw[aM hp,bu];exact⟨by lia,by lia,aM hp⟩⟩
inductive Rc (n:Nat):RP->RP->RP->RP->Prop
 |nil (p q:RP):Rc n p q p q
 |step {p q p' q':RP} {j:Nat}:j+1<n->ai p.1 j<ai p.1 (j+1)->ai q.2 (j+1)<ai q.2 j->Rc n (wB p j) (yd q j) p' q'->Rc n p q p' q'
def Rc.iv {p q p' q':RP}(h:Rc n p q p' q'):Iv n p.1 p.2->Iv n q.1 q.2->Iv n p'.1 p'.2/\Iv n q'.1 q'.2:=by
 induction h with
 |nil p q=>exact λa b=>⟨a,b⟩
 |step hj h1 h2 _ ih=>exact λa b=>ih (dX a hj) (ie b hj)
def Rc.ovr {p q p' q' p0 q0:RP}(JY:Iv n p0.1 p0.2)(h:Rc n p q p' q'):∀y,Iv n p.1 p.2->Iv n q.1 q.2->Dy n p0 q0 p q y->∃y',Dy n p0 q0 p' q' y':=by
 induction h with
 |nil p q=>exact λy _ _ o=>⟨y,o⟩
 |step hj h1 h2 _ ih=>exact λy a b o=>ih _ (dX a hj) (ie b hj) (o.step JY a b hj h1 h2)
theorem Am:∀(f:Nat)(p q:RP),Iv n p.1 p.2->Iv n q.1 q.2->Rc n p q (gO f p q).1 (gO f p q).2
 |0,p,q,_,_=>.nil p q
 |f+1,p,q,ip,iq=>by
  cases h:(uh p q).getLast? with
  |none=>rw[vk _ h];exact .nil p q
  |some k=>
   obtain⟨j,rfl,hj,h1,h2⟩:=wC ip iq (Bh h);rw[vj f h,show((j:Int)+1-1).toNat=j by lia];exact .step hj h1 h2 (Am f _ _ (dX ip hj) (ie iq hj))
def Dy.starts {p q p' c' v:RP}(o:Dy n p q p' c' v)(ip':Iv n p'.1 p'.2)(XM:Iv n c'.1 c'.2)(hf:uh p' c'=[]){a:Nat}(ha:a+1<n)(hp:ai p.1 a<ai p.1 (a+1))(hq:ai q.2 (a+1)<ai q.2 a):ai v.2 (a+1)<ai v.2 a:=by
 show ';';have iv:=o.iy;obtain⟨x1,x2,x3⟩:=iv.sr a (by lia);obtain⟨y1,y2,y3⟩:=iv.sr (a+1) ha;have qa:=o.pq a (by lia);have qb:=o.pq (a+1) ha;generalize hx:(ai v.2 a).toNat=x at*;generalize hy:(ai v.2 (a+1)).toNat=y at*;have hxy:x<y:=by
  have:x≠y:=λe=>by rw[e,y3]at x3;lia
  lia
 obtain⟨i,i1,i2,f1,f2⟩:=switch (λi=>decide (ai c'.2 i<ai q.2 a)) (y-x) x (by rw[decide_eq_false];lia) (by rw[show x+(y-x)=y by lia,decide_eq_true];lia);have f1:=of_decide_eq_false f1;have f2:=of_decide_eq_true f2;have hin:i+1<n:=by lia
 have t1:=(g5 ip' XM).mp hf i hin (by lia);have t2:=o.aq i (i+1) (by lia) hin (by lia);obtain⟨g1,g2,g3⟩:=iv.rs i (by lia);obtain⟨h1,h2,h3⟩:=iv.rs (i+1) hin;rw[o.pl i (by lia),o.pl (i+1) hin]at t1;generalize hg:(ai v.1 i).toNat=g at*;generalize hh:(ai v.1 (i+1)).toNat=h at*;rcases Js a g with c|c
 ·have gn:g≠a+1:=λe=>by rw[e]at g3;lia
  have:=o.aq i y (by lia) (by lia) (by lia);lia
 ·have tg:ai p.1 g<=ai p.1 a:=by
   rcases Js g a with d|d
   ·have:x≠i:=λe=>by rw[e]at x3;lia
    exact aaE (o.ap g a d (by lia) (by lia))
   ·rw[show g=a by lia];exact Jt _
  rcases Js a h with d|d
  ·have th:ai p.1 (a+1)<=ai p.1 h:=by
    rcases Js (a+1) h with e|e
    ·have:i+1≠y:=λz=>by rw[<-z]at y3;lia
     exact aaE (o.ap (a+1) h e (by lia) (by lia))
    ·rw[show h=a+1 by lia];exact Jt _
   lia
  ·have:=o.aq x (i+1) (by lia) hin (by lia)
   lia
def aaF{a i j:Nat}(h:i<j)(hne:¬(i=a/\j=a+1)):sw a i<sw a j:=by
 unfold sw
 repeat' split
 all_goals lia
def Ju{a:Nat}{x y:Int}(h:x<y)(hne:¬(x=a/\y=(a:Int)+1)):sg a x<sg a y:=by
 unfold sg
 repeat' split
 all_goals lia
def Dy.pop {p q p' c' v:RP}(o:Dy n p q p' c' v)(ip:Iv n p.1 p.2)(iq:Iv n q.1 q.2)(hj:j+1<n)(hv:ai v.2 (j+1)<ai v.2 j):Dy n (wB p j) (yd q j) p' c' (yd v j):=by
 have iv:=o.iy;refine⟨ie iv hj,λt ht=>?_,λt ht=>?_,λi i' hii ER h=>?_,λi i' hii ER h=>?_,λt ht=>?_⟩
 ·obtain⟨h1,h2,_⟩:=ip.sr t ht
  show ai p'.2 t=ai (fy v.2 j) (ai (vh p.2 j) t).toNat;rw[cM (by rw[ip.ls];exact ht),iN (by rw[iv.ls];exact hj),VQ _ h1,o.pp t ht]
 ·show ai (fy q.2 j) t=ai c'.2 (ai (fy v.2 j) t).toNat
  rw[iN (by rw[iq.ls];exact hj),iN (by rw[iv.ls];exact hj),o.pq _ (Fl hj ht)]
 ·change ai (fy v.2 j) i'<ai (fy v.2 j) i at h
  show ai (fy p.1 j) i<ai (fy p.1 j) i';rw[iN (by rw[iv.ls];exact hj),iN (by rw[iv.ls];exact hj)]at h;rw[iN (by rw[ip.lr];exact hj),iN (by rw[ip.lr];exact hj)];have hne:¬(i=j/\i'=j+1):=λ⟨a,b⟩=>by subst a;subst b;unfold sw at h;rw[if_pos rfl,if_neg (by lia),if_pos rfl]at h;lia
  exact o.ap _ _ (aaF hii hne) (Fl hj ER) h
 ·show ai (vh v.1 j) i<ai (vh v.1 j) i'
  have h2:=o.aq i i' hii ER h;rw[cM (by rw[iv.lr];lia),cM (by rw[iv.lr];exact ER)];refine Ju h2 λ⟨a,b⟩=>?_;obtain⟨_,_,e1⟩:=iv.rs i (by lia);obtain⟨_,_,e2⟩:=iv.rs i' ER;rw[a,bu]at e1;rw[b,show((j:Int)+1).toNat=j+1 by lia]at e2;lia
 ·obtain⟨h1,h2,_⟩:=iv.rs t ht
  show ai p'.1 t=ai (fy p.1 j) (ai (vh v.1 j) t).toNat;rw[cM (by rw[iv.lr];exact ht),iN (by rw[ip.lr];exact hj),VQ _ h1,o.pl t ht]
def Rc.to {p0 q0 p q p' c':RP}(h:Rc n p0 q0 p q):Iv n p0.1 p0.2->Iv n q0.1 q0.2->∀y,Dy n p0 q0 p' c' y->Iv n p'.1 p'.2->Iv n c'.1 c'.2->uh p' c'=[]->∃v,Dy n p q p' c' v:=by
 induction h with
 |nil p q=>exact λ_ _ y o _ _ _=>⟨y,o⟩
 |step hj h1 h2 _ ih=>exact λip iq y o ip' XM hf=>ih (dX ip hj) (ie iq hj) _ (o.pop ip iq hj (o.starts ip' XM hf hj h1 h2)) ip' XM hf
def Dy.same {p q p' c' v:RP}(o:Dy n p q p' c' v)(ip:Iv n p.1 p.2)(iq:Iv n q.1 q.2)(ip':Iv n p'.1 p'.2)(XM:Iv n c'.1 c'.2)(hf:uh p q=[]):p'=p/\c'=q:=by
 have iv:=o.iy;have hs:¬Nst n v:=λ⟨a,ha,hd⟩=>by have h1:=o.pq.nst iv XM o.aq ha hd;have h2:=o.ap a (a+1) (by lia) ha hd;have:=(g5 ip iq).mp hf a ha h1;lia
 have e:=Et iv (gf n) hs;have c:∀t,t<n->(ai (upTo n) t).toNat=t:=λt ht=>by rw[aM ht];exact bu t
 constructor
 ·refine qT ip' ip (cH (by rw[ip'.lr,ip.lr]) λt ht=>?_)
  rw[ip'.lr]at ht;rw[o.pl t ht,e];dsimp only;rw[c t ht]
 ·have e2:c'.2=q.2:=cH (by rw[XM.ls,iq.ls]) λt ht=>by
   rw[XM.ls]at ht;rw[o.pq t ht,e];dsimp only;rw[c t ht]
  refine qT XM iq (Iv.uniq (n:=n) (s:=q.2) ?_ iq);rw[<-e2];exact XM
def Rc.one {p0 q0 p q p' c':RP}(JY:Iv n p0.1 p0.2)(SA:Iv n q0.1 q0.2)(h:Rc n p0 q0 p q)(hf:uh p q=[])(h':Rc n p0 q0 p' c')(hf':uh p' c'=[]):p'=p/\c'=q:=by obtain⟨y,o⟩:=h'.ovr JY _ JY SA (Dy.start JY (gf n));obtain⟨v,o2⟩:=h.to JY SA y o (h'.iv JY SA).1 (h'.iv JY SA).2 hf';exact o2.same (h.iv JY SA).1 (h.iv JY SA).2 (h'.iv JY SA).1 (h'.iv JY SA).2 hf
theorem Nu(f:Int->Int):∀(l:Ap)(a:Nat),fy (l.map f) a=(fy l a).map f
 |[],a=>by cases a<;>rfl
 |[x],0=>rfl
 |[x],a+1=>by cases a<;>rfl
 |x::y::l,0=>rfl
 |x::y::l,a+1=>by show fy (f x::I8 f (y::l)) (a+1)=_;rw[yc,yc,Nu f (y::l) a];rfl
inductive B4 (n:Nat):As->As->Prop
 |here {p q:RP} {B:As} {j:Nat}:j+1<n->ai p.1 j<ai p.1 (j+1)->ai q.2 (j+1)<ai q.2 j->B4 n (p::q::B) (wB p j::yd q j::B)
 |next {p:RP} {L L':As}:B4 n L L'->B4 n (p::L) (p::L')
inductive rO (n:Nat):As->As->Prop
 |nil (L:As):rO n L L
 |cons {L L' L'':As}:B4 n L L'->rO n L' L''->rO n L L''
def rO.trans {L L' L'':As}(h:rO n L L'):rO n L' L''->rO n L L'':=by
 induction h with
 |nil=>exact id
 |cons s _ ih=>exact λg=>.cons s (ih g)
theorem rO.next (p:RP){L L':As}(h:rO n L L'):rO n (p::L) (p::L'):=by
 induction h with
 |nil=>exact .nil _
 |cons s _ ih=>exact .cons (.next s) ih
def rO.app (A:As){L L':As}(h:rO n L L'):rO n (A++L) (A++L'):=by
 induction A with
 |nil=>exact h
 |cons p A ih=>exact ih.next p
def B4.XO (B:As){L L':As}(h:B4 n L L'):B4 n (L++B) (L'++B):=by
 induction h with
 |here hj h1 h2=>exact .here hj h1 h2
 |next _ ih=>exact .next ih
theorem rO.XO (B:As){L L':As}(h:rO n L L'):rO n (L++B) (L'++B):=by
 induction h with
 |nil=>exact .nil _
 |cons s _ ih=>exact .cons (s.XO B) ih
def Rc.sts {p q p' q':RP}(h:Rc n p q p' q')(B:As):rO n (p::q::B) (p'::q'::B):=by
 induction h with
 |nil=>exact .nil _
 |step hj h1 h2 _ ih=>exact .cons (.here hj h1 h2) ih
def B4.iv {L L':As}(h:B4 n L L'):b8 n L->b8 n L':=by
 induction h with
 |here hj h1 h2=>
  intro hI x hx;rcases aX.mp hx with rfl|hx
  ·exact dX (hI _ (by simp)) hj
  ·rcases aX.mp hx with rfl|hx
   ·exact ie (hI _ (by simp)) hj
   ·exact hI x (by simp[hx])
 |next _ ih=>
  intro hI x hx;rcases aX.mp hx with rfl|hx
  ·exact hI _ (by simp)
  ·exact ih (λy hy=>hI y (by simp[hy])) x hx
theorem rO.iv {L L':As}(h:rO n L L'):b8 n L->b8 n L':=by
 induction h with
 |nil=>exact id
 |cons s _ ih=>exact λhI=>ih (s.iv hI)
def Tp(L:As):Nat:=(L.map λp=>lN p.1).sum
def wt:As->Nat
 |[]=>0
 |_::L=>wt L+Tp L
theorem B4.Tp {L L':As}(h:B4 n L L'):b8 n L->DL.Tp L'=DL.Tp L/\wt L'<wt L:=by
 induction h with
 | @here p q B j hj h1 h2=>
  intro hI;have ip:=hI p (by simp);have iq:=hI q (by simp);have e1:lN (wB p j).1=lN p.1+1:=(Jf ip hj).1 h1;have e2:lN (yd q j).1+1=lN q.1:=by rw[Ff (ie iq hj),Ff iq];exact(Jf iq.symm hj).2 h2
  unfold DL.Tp wt wt DL.Tp;simp_all only [bq,rC];lia
 | @next p L L' _ ih=>
  intro hI;obtain⟨a,b⟩:=ih λy hy=>hI y (by simp[hy]);unfold wt;rw[a];refine⟨?_,by lia⟩;unfold DL.Tp at a⊢;simp_all only [bq,rC];lia
def aaG(q:RP)(i j:Nat):wB (yd q j) i=yd (wB q i) j:=by unfold wB yd vh;rw[Nu,Nu]
def B4.side {p q:RP}{B L:As}(hj:j+1<n)(h1:ai p.1 j<ai p.1 (j+1))(h2:ai q.2 (j+1)<ai q.2 j)(iq:Iv n q.1 q.2)(s:B4 n (q::B) L):
  ∃M,rO n (wB p j::yd q j::B) M/\rO n (p::L) M:=by
 cases s with
 | @here _ r B' i hi g1 g2=>
  refine⟨wB p j::wB (yd q j) i::yd r i::B',.cons (.next (.here hi ?_ g2)) (.nil _),?_⟩
  ·show ai (vh q.1 j) i<ai (vh q.1 j) (i+1)
   rw[cM (by rw[iq.lr];lia),cM (by rw[iq.lr];exact hi)];refine Ju g1 λ⟨a,b⟩=>?_;have e1:=(iq.rs i (by lia)).2.2;have e2:=(iq.rs (i+1) hi).2.2;rw[a,bu]at e1;rw[b,show((j:Int)+1).toNat=j+1 by lia]at e2;lia
  ·rw[aaG]
   refine .cons (.here hj h1 ?_) (.nil _);show ai (vh q.2 i) (j+1)<ai (vh q.2 i) j;rw[cM (by rw[iq.ls];exact hj),cM (by rw[iq.ls];lia)];refine Ju h2 λ⟨a,b⟩=>?_;have e1:=(iq.sr (j+1) hj).2.2;have e2:=(iq.sr j (by lia)).2.2;rw[a,bu]at e1;rw[b,show((i:Int)+1).toNat=i+1 by lia]at e2;lia
 | @next _ _ B2 s=>exact⟨wB p j::yd q j::B2,.cons (.next (.next s)) (.nil _),.cons (.here hj h1 h2) (.nil _)⟩
def B4.join (hn:n<=7){L L1:As}(h:B4 n L L1):∀{L2:As},b8 n L->B4 n L L2->∃M,rO n L1 M/\rO n L2 M:=by
 induction h with
 | @here p q B j hj h1 h2=>
  intro L2 hI s;have ip:=hI p (by simp);have iq:=hI q (by simp);cases s with
  | @here _ _ _ i hi g1 g2=>
   have r1:=Am (n:=n) 50 _ _ (dX ip hj) (ie iq hj);have r2:=Am (n:=n) 50 _ _ (dX ip hi) (ie iq hi);obtain⟨a,b⟩:=Rc.one ip iq (.step hj h1 h2 r1) (Es hn 50 _ _ (dX ip hj) (ie iq hj) (by lia)) (.step hi g1 g2 r2) (Es hn 50 _ _ (dX ip hi) (ie iq hi) (by lia));have s2:=r2.sts B;rw[a,b]at s2;exact⟨_,r1.sts B,s2⟩
  |next s=>exact B4.side hj h1 h2 iq s
 | @next p L L1 s1 ih=>
  intro L2 hI s;cases s with
  | @here _ q B j hj h1 h2=>
   obtain⟨M,a,b⟩:=B4.side (p:=p) hj h1 h2 (hI q (by simp)) s1;exact⟨M,b,a⟩
  |next s=>
   obtain⟨M,a,b⟩:=ih (λy hy=>hI y (by simp[hy])) s;exact⟨p::M,a.next p,b.next p⟩
def Nf(n:Nat)(L:As):Prop:=∀L',¬B4 n L L'
def aiw:∀(m:Nat)(L:As),wt L<=m->b8 n L->∃N,rO n L N/\Nf n N:=λm=>by
 induction m with
 |zero=>exact λL h hI=>⟨L,.nil _,λL' s=>by have:=(s.Tp hI).2;lia⟩
 |succ m ih=>
  intro L h hI;rcases Classical.em (∃L',B4 n L L')with⟨L',s⟩|hs
  ·obtain⟨N,a,b⟩:=ih L' (by have:=(s.Tp hI).2;lia) (s.iv hI)
   exact⟨N,.cons s a,b⟩
  ·exact⟨L,.nil _,λL' s=>hs ⟨L',s⟩⟩
def Wu(hn:n<=7):∀(m:Nat)(L:As),wt L<=m->b8 n L->∀{N1 N2:As},rO n L N1->Nf n N1->rO n L N2->Nf n N2->N1=N2:=λm=>by
 induction m with
 |zero=>
  intro L h hI N1 N2 a _ b _;have z:∀{N},rO n L N->N=L:=λ{N} s=>by
   cases s with
   |nil=>rfl
   |cons s _=>have:=(s.Tp hI).2;lia
  rw[z a,z b]
 |succ m ih=>
  intro L h hI N1 N2 a n1 b n2;cases a with
  |nil=>
   cases b with
   |nil=>rfl
   |cons s _=>exact absurd s (n1 _)
  | @cons _ L1 _ s1 a=>
   cases b with
   |nil=>exact absurd s1 (n2 _)
   | @cons _ L2 _ s2 b=>
    obtain⟨M,u,v⟩:=s1.join hn hI s2;have w1:=(s1.Tp hI).2;have w2:=(s2.Tp hI).2;obtain⟨N,x,y⟩:=aiw (wt M) M (aY _) (u.iv (s1.iv hI));rw[ih L1 (by lia) (s1.iv hI) a n1 (u.trans x) y,ih L2 (by lia) (s2.iv hI) b n2 (v.trans x) y]
theorem QF:∀(ps:As)(c:RP),b8 n ps->Iv n c.1 c.2->rO n (c::ps).reverse (Dw ps c).reverse
 |[],c,_,_=>.nil _
 |p::ps,c,hI,ic=>by
  have ip:=hI p (by simp);unfold Dw;split
  ·exact .nil _
  ·obtain⟨i1,_⟩:=pH.Fj (n:=n) 50 ip ic
   have r:=(Am (n:=n) 50 p c ip ic).sts [];have h:=QF ps (gO 50 p c).1 (λy hy=>hI y (by simp[hy])) i1;simp only [jS,aZ]at h⊢;refine(rO.app ps.reverse r).trans ?_;have:=h.XO [(gO 50 p c).2];simp only [aZ]at this;exact this
abbrev Zr(n:Nat):RP:=(upTo n,upTo n)
def aaH(hn:n<=7){c:RP}(ic:Iv n c.1 c.2):gO 50 (Zr n) c=(c,Zr n):=by
 have iz:Iv n (Zr n).1 (Zr n).2:=gf n;have s:=lP hn iz ic (gf n);obtain⟨y,o⟩:=s.ex;have ct:∀t,t<n->(ai (upTo n) t).toNat=t:=λt ht=>by rw[aM ht];exact bu t
 have cz:∀t:Int,0<=t->t<n->ai (upTo n) t.toNat=t:=λt h0 ht=>by rw[aM (by lia)];lia
 have e2:(gO 50 (Zr n) c).2=Zr n:=Et s.ic (gf n) λ⟨a,ha,hd⟩=>by have h1:=(g5 s.ip s.ic).mp s.fr a ha hd;have h2:=o.aq a (a+1) (by lia) ha hd;have b1:=o.iy.rs a (by lia);have b2:=o.iy.rs (a+1) ha;rw[o.pl a (by lia),o.pl (a+1) ha]at h1;dsimp only at h1;rw[cz _ b1.1 b1.2.1,cz _ b2.1 b2.2.1]at h1;lia
 have e1:(gO 50 (Zr n) c).1=c:=by
  have h:(gO 50 (Zr n) c).1.2=c.2:=cH (by rw[s.ip.ls,ic.ls]) λt ht=>by rw[s.ip.ls]at ht;have b1:=o.iy.sr t ht;rw[o.pp t ht,o.pq t ht,e2];dsimp only;rw[ct t ht,cz _ b1.1 b1.2.1]
  refine qT s.ip ic (Iv.uniq (n:=n) (s:=c.2) ?_ ic);rw[<-h];exact s.ip
 exact Prod.ext e1 e2
theorem Nv(hn:n<=7):∀(L:As),b8 n L->rO n (Zr n::L) (L++[Zr n])
 |[],_=>.nil _
 |c::L,hI=>by have ic:=hI c (by simp);have r:=(Am (n:=n) 50 (Zr n) c (gf n) ic).sts L;rw[aaH hn ic]at r;exact r.trans ((Nv hn L λy hy=>hI y (by simp[hy])).next c)
def B4.at_ {L L':As}(h:B4 n L L'):∃A p q B j,L=A++p::q::B/\j+1<n/\ai p.1 j<ai p.1 (j+1)/\ai q.2 (j+1)<ai q.2 j:=by
 induction h with
 | @here p q B j hj h1 h2=>exact⟨[],p,q,B,j,rfl,hj,h1,h2⟩
 | @next p _ _ _ ih=>
  obtain⟨A,x,q,B,j,e,r⟩:=ih;exact⟨p::A,x,q,B,j,by rw[e];rfl,r⟩
def acn(h:Dh L.reverse)(hI:b8 n L):Nf n L:=λL' s=>by
 obtain⟨A,p,q,B,j,e,hj,h1,h2⟩:=s.at_
 have hf:=h.at_ (A:=B.reverse) (B:=A.reverse) (p:=p) (q:=q) (by rw[e];simp)
 have:=(g5 (hI p (by rw[e];simp)) (hI q (by rw[e];simp))).mp hf j hj h2;lia
def aaI{p:RP}(ip:Iv n p.1 p.2):uh p (Zr n)=[]:=(g5 ip (gf n)).mpr λj hj h=>by dsimp only at h;rw[aM hj,aM (by lia)]at h;lia
theorem Nx:∀(k:Nat){R:As},b8 n R->Dh R->Dh (aO k (Zr n)++R)
 |0,R,_,h=>h
 |k+1,R,hI,h=>by
  have ih:=Nx k hI h;rw[cA,cB];cases e:aO k (Zr n)++R with
  |nil=>trivial
  |cons p L=>
   rw[e]at ih;refine⟨aaI (n:=n) ?_,ih⟩;have:p∈aO k (Zr n)++R:=(by rw[e];simp);rcases cu.mp this with h|h
   ·rw[(rK.mp h).2];exact gf n
   ·exact hI p h
def zm(n:Nat)(L:As):As:=L.foldl (j0 n) []
theorem LG(hn:n<=7):∀(L R:As),b8 n L->zG n R->∃k,rO n (R++L) (L.foldl (j0 n) R++aO k (Zr n))/\zG n (L.foldl (j0 n) R)
 |[],R,_,h=>⟨0,by simp_all only [bg,List.foldl_nil,eB];exact .nil _,h⟩
 |c::L,R,hI,h=>by
  have ic:=hI c (by simp);have XE:b8 n L:=λy hy=>hI y (by simp[hy]);obtain⟨k,s,g⟩:=LG hn L (j0 n R c) XE (Nc hn (gf n) h ic);have s1:=QF R.reverse c (λy hy=>h.iv y (by simpa using hy)) ic;rw[jS,oQ]at s1;have s2:rO n (R++c::L) (Bg R c++L):=by have:=s1.XO L;simp only [aZ,aaJ]at this;exact this
  rw[D0]
  by_cases hd:(Bg R c).getLast?=aa (upTo n,upTo n)
  ·have e:j0 n R c=(Bg R c).dropLast:=if_pos hd
   have e2:Bg R c=j0 n R c++[Zr n]:=by rw[e];obtain⟨l,hl⟩:=P8.mp hd;rw[hl,List.dropLast_concat]
   refine⟨k+1,?_,g⟩;rw[e2,aZ,aaJ]at s2;refine s2.trans ((rO.app _ (Nv hn L XE)).trans ?_);have:=s.XO [Zr n];rw[aZ,aZ]at this;rw[Jv];exact this
  ·have e:j0 n R c=Bg R c:=if_neg hd
   refine⟨k,?_,g⟩;rw[<-e]at s2;exact s2.trans s
def uy(hn:n<=7)(hI:b8 n L):∃k,rO n L (zm n L++aO k (Zr n))/\zG n (zm n L):=
 LG hn L [] hI ⟨(λx hx=>nomatch hx),trivial,(λx hx=>nomatch hx)⟩
def strip{R:As}(h:zG n R)(k:Nat):(R++aO k (Zr n)).filter (λx=>decide (x≠Zr n))=R:=by rw[aae,List.filter_eq_self.mpr λx hx=>decide_eq_true (VS (h.ns x hx)),List.filter_eq_nil_iff.mpr λx hx=>by rw[(rK.mp hx).2];simp,bg]
def afs(hn:n<=7){L L':As}(hI:b8 n L)(s:rO n L L'):zm n L=zm n L':=by
 obtain⟨k,s1,g1⟩:=uy hn hI;obtain⟨k',s2,g2⟩:=uy hn (s.iv hI);have nf:∀{R:As}(j:Nat),zG n R->Nf n (R++aO j (Zr n)):=λ{R} j g=>acn (by
  rw[Er,aaK];exact Nx j (λy hy=>g.iv y (by simpa using hy)) g.lw) λx hx=>by
   rcases cu.mp hx with h|h
   ·exact g.iv x h
   ·rw[(rK.mp h).2];exact gf n
 have e:=Wu hn _ L (aY _) hI s1 (nf k g1) (s.trans s2) (nf k' g2);rw[<-strip g1 k,e,strip g2 k']
theorem Dh.pre:∀{A B:As},Dh (A++B)->Dh A
 |[],_,_=>trivial
 |[_],_,_=>trivial
 |_::q::A,B,h=>⟨h.1,Dh.pre (A:=q::A) (B:=B) h.2⟩
def Jw{p:Nat}(h:p<l.length):ai l.reverse p=ai l (l.length-1-p):=by unfold ai;rw[tX h]
def Ny(hn:n<=7){L R:As}(hI:b8 n L)(g:zG n R)(s:rO n L (R++aO k (Zr n))):zm n L=R:=by
 obtain⟨j,s1,g1⟩:=uy hn hI;have nf:∀{R:As}(j:Nat),zG n R->Nf n (R++aO j (Zr n)):=λ{R} j g=>acn (by
  rw[Er,aaK];exact Nx j (λy hy=>g.iv y (by simpa using hy)) g.lw) λx hx=>by
   rcases cu.mp hx with h|h
   ·exact g.iv x h
   ·rw[(rK.mp h).2];exact gf n
 have e:=Wu hn _ L (aY _) hI s1 (nf j g1) s (nf k g);rw[<-strip g1 j,e,strip g k]
def b8.app {A B:As}(a:b8 n A)(b:b8 n B):b8 n (A++B):=λx hx=>(cu.mp hx).elim (a x) (b x)
def b8.one {p:RP}(h:Iv n p.1 p.2):b8 n [p]:=λx hx=>by rw[dN.mp hx];exact h
def b8.cons {p:RP}(h:Iv n p.1 p.2)(a:b8 n L):b8 n (p::L):=λx hx=>by
 rcases aX.mp hx with rfl|hx
 ·exact h
 ·exact a x hx
def b8.rep {p:RP}(h:Iv n p.1 p.2)(k:Nat):b8 n (aO k p):=λx hx=>by rw[(rK.mp hx).2];exact h
def QG(hn:n<=7){A B:As}(hA:b8 n A)(hB:b8 n B):zm n (A++Zr n::B)=zm n (A++B):=by obtain⟨k,s,g⟩:=uy hn (hA.app hB);refine Ny (k:=k+1) hn (hA.app (.cons (gf n) hB)) g ?_;refine(rO.app A (Nv hn B hB)).trans ?_;have:=s.XO [Zr n];rw[aZ,aZ]at this;rw[Jv];exact this
theorem LH(hn:n<=7){A B:As}(hA:b8 n A)(hB:b8 n B):∀k,zm n (A++(aO k (Zr n)++B))=zm n (A++B)
 |0=>rfl
 |k+1=>by rw[cA,cB,QG hn hA (b8.app (.rep (gf n) k) hB),LH hn hA hB k]
def zG.tail {p:RP}{R:As}(h:zG n (p::R)):zG n R:=⟨λx hx=>h.iv x (by simp[hx]),by have:=h.lw;rw[jS]at this;exact this.pre,λx hx=>h.ns x (by simp[hx])⟩
theorem zG.drop :∀(k:Nat){R:As},zG n R->zG n (R.drop k)
 |0,_,h=>h
 |_+1,[],h=>h
 |k+1,_::_,h=>zG.drop k h.tail
def jc{n t:Nat}(h:t<n):ai (upTo n).reverse t=(n:Int)-1-t:=by rw[Jw (by rw[aI];exact h),aI,aM (by lia)];lia
def uO(n:Nat):Iv n (iC n).1 (iC n).2:=by
 have h:∀p,p<n->0<=ai (upTo n).reverse p/\ai (upTo n).reverse p<n/\ai (upTo n).reverse (ai (upTo n).reverse p).toNat=p:=λp hp=>by rw[jc hp,jc (by lia)];lia
 have l:(upTo n).reverse.length=n:=by rw[bR,aI]
 exact⟨l,l,h,h⟩
def Wv{q:RP}(iq:Iv n q.1 q.2):uh (iC n) q=[]:=(g5 (uO n) iq).mpr λj hj _=>by show ai (upTo n).reverse (j+1)<ai (upTo n).reverse j;rw[jc hj,jc (by lia)];lia
def Ww(h2:2<=n):Nst n (iC n):=⟨0,by lia,by show ai (upTo n).reverse 1<ai (upTo n).reverse 0;rw[jc (by lia),jc (by lia)];lia⟩
theorem QH{p:RP}:∀{L:As},Dh L->(∀q A,L=A++[q]->uh p q=[])->Dh (L++[p])
 |[],_,_=>trivial
 |[q],_,h=>⟨h q [] rfl,trivial⟩
 |q::r::L,hl,h=>⟨hl.1,QH (L:=r::L) hl.2 λx A e=>h x (q::A) (by rw[e];rfl)⟩
def zG.half (h2:2<=n){R:As}(h:zG n R):zG n (iC n::R):=⟨.cons (uO n) h.iv,by
 rw[jS];refine QH h.lw λq A e=>Wv (h.iv q ?_);have:q∈R.reverse:=by rw[e];simp
 simpa using this,λx hx=>by
  rcases aX.mp hx with rfl|hx
  ·exact Ww h2
  ·exact h.ns x hx⟩
def Wx(hn:n<=7)(h2:2<=n)(hI:b8 n L):zm n (iC n::L)=iC n::zm n L:=by obtain⟨k,s,g⟩:=uy hn hI;exact Ny (k:=k) hn (.cons (uO n) hI) (g.half h2) (s.next _)
def Vl(n:Nat)(h:Int)(L:As):Int×As:=(h+iZ n (zm n L),(zm n L).drop (iZ n (zm n L)))
def SJ(C:As):iZ n (iC n::C)=iZ n C+1:=by unfold iZ;rw[Jd (by simp),aR]
def Jy(hn:n<=7)(h2:2<=n)(h:Int)(hI:b8 n L):Vl n h (iC n::L)=Vl n (h+1) L:=by unfold Vl;rw[Wx hn h2 hI,SJ,Qg];exact Prod.ext (by show h+((iZ n (zm n L)+1:Nat):Int)=h+1+(iZ n (zm n L):Nat);lia) rfl
theorem CO(hn:n<=7)(h2:2<=n)(hI:b8 n L):∀(m:Nat)(h:Int),Vl n h (aO m (iC n)++L)=Vl n (h+m) L
 |0,h=>by rw[eB,dh,QD,qz]
 |m+1,h=>by rw[cA,cB,Jy hn h2 h (b8.app (.rep (uO n) m) hI),CO hn h2 hI m (h+1),show h+1+(m:Int)=h+((m+1:Nat):Int)by lia]
def CP(hn:n<=7)(h:Int){L L':As}(hI:b8 n L)(s:rO n L L'):Vl n h L=Vl n h L':=by unfold Vl;rw[afs hn hI s]
def Nz(hn:n<=7)(h:Int){A B:As}(hA:b8 n A)(hB:b8 n B):Vl n h (A++Zr n::B)=Vl n h (A++B):=by unfold Vl;rw[QG hn hA hB]
def Jz(hn:n<=7)(h:Int){A B:As}(hA:b8 n A)(hB:b8 n B)(k:Nat):Vl n h (A++(aO k (Zr n)++B))=Vl n h (A++B):=by unfold Vl;rw[LH hn hA hB]
def Wy(hn:n<=7)(h:Int)(hI:b8 n L):∃m k:Nat,(Vl n h L).1=h+m/\b8 n (Vl n h L).2/\rO n L (aO m (iC n)++((Vl n h L).2++aO k (Zr n))):=by obtain⟨k,s,g⟩:=uy hn hI;refine⟨iZ n (zm n L),k,rfl,(zG.drop _ g).iv,?_⟩;have e:=Bm (n:=n) (zm n L);rw[<-aZ];show rO n L (aO (iZ n (zm n L)) (iC n)++(zm n L).drop (iZ n (zm n L))++_);rw[<-e];exact s
def Wz(hn:n<=7)(h2:2<=n)(h:Int){L B:As}(hI:b8 n L)(hB:b8 n B):Vl n h (L++B)=Vl n (Vl n h L).1 ((Vl n h L).2++B):=by obtain⟨m,k,e,hT,s⟩:=Wy hn h hI;rw[e,CP hn h (hI.app hB) (s.XO B),aZ,aZ,CO hn h2 (b8.app hT (b8.app (.rep (gf n) k) hB))];exact Jz hn _ hT hB k
def LJ{p:Nat}(h:p<l.length):ai (fl n l) p=(n:Int)-1-ai l p:=by
 have:=gy h;unfold fl
 conv=>lhs;unfold ai
 rw[bK,this];rfl
def mj(n:Nat)(p:RP):RP:=(fl n p.1.reverse,fl n p.2.reverse)
def eQ(hl:l.length=n){t:Nat}(h:t<n):ai (fl n l.reverse) t=(n:Int)-1-ai l (n-1-t):=by rw[LJ (by rw[bR,hl];exact h),Jw (by rw[hl];exact h),hl]
def gg(hl:l.length=n):(fl n l.reverse).length=n:=by unfold fl;rw[aN,bR,hl]
def CQ{p:RP}(h:Iv n p.1 p.2):Iv n (mj n p).1 (mj n p).2:=by
 have g:∀{r s:Ap},Iv n r s->∀t,t<n->0<=ai (fl n r.reverse) t/\ai (fl n r.reverse) t<n/\ai (fl n s.reverse) (ai (fl n r.reverse) t).toNat=t:=λ{r s} h t ht=>by obtain⟨a,b,c⟩:=h.rs (n-1-t) (by lia);rw[eQ h.lr ht];show 'L';rw[eQ h.ls (by lia),show n-1-((n:Int)-1-ai r (n-1-t)).toNat=(ai r (n-1-t)).toNat by lia,c];lia
 exact⟨gg h.lr,gg h.ls,g h,g h.symm⟩
def JA{p:RP}(h:Iv n p.1 p.2):mj n (mj n p)=p:=by
 have g:∀{l:Ap},l.length=n->fl n (fl n l.reverse).reverse=l:=λ{l} hl=>cH (by rw[gg (gg hl),hl]) λt ht=>by rw[gg (gg hl)]at ht;rw[eQ (gg hl) ht,eQ hl (by lia),show n-1-(n-1-t)=t by lia];lia
 exact Prod.ext (g h.lr) (g h.ls)
def QI(hl:l.length=n)(hj:j+1<n):fl n (fy l j).reverse=fy (fl n l.reverse) (n-2-j):=by
 have h1:(fy l j).length=n:=by rw[dR,hl]
 refine cH (by rw[gg h1,dR,gg hl]) λt ht=>?_;rw[gg h1]at ht;rw[eQ h1 ht,dC _ _ (by rw[hl];exact hj),dC _ _ (by rw[gg hl];lia),eQ hl (by lia),eQ hl (by lia),eQ hl ht]
 by_cases c:t=n-2-j
 ·rw[if_pos c,if_neg (by lia),if_pos (by lia),show n-1-(n-2-j+1)=j by lia]
 ·rw[if_neg c]
  by_cases d:t=n-2-j+1
  ·rw[if_pos d,if_pos (by lia),show n-1-(n-2-j)=j+1 by lia]
  ·rw[if_neg d,if_neg (by lia),if_neg (by lia)]
def QJ(hl:l.length=n)(hb:∀t,t<n->0<=ai l t/\ai l t<n)(hj:j+1<n):fl n (vh l j).reverse=vh (fl n l.reverse) (n-2-j):=by
 have h1:(vh l j).length=n:=by rw[Ek,hl]
 refine cH (by rw[gg h1,Ek,gg hl]) λt ht=>?_;rw[gg h1]at ht;have:=hb (n-1-t) (by lia);rw[eQ h1 ht,cM (by rw[hl];lia),cM (by rw[gg hl];exact ht),eQ hl ht];unfold sg
 repeat' split
 all_goals lia
def aaL{p:RP}(h:Iv n p.1 p.2)(hj:j+1<n):mj n (wB p j)=wB (mj n p) (n-2-j):=
 Prod.ext (QI h.lr hj) (QJ h.ls (λt ht=>⟨(h.sr t ht).1,(h.sr t ht).2.1⟩) hj)
def aaM{p:RP}(h:Iv n p.1 p.2)(hj:j+1<n):mj n (yd p j)=yd (mj n p) (n-2-j):=
 Prod.ext (QJ h.lr (λt ht=>⟨(h.rs t ht).1,(h.rs t ht).2.1⟩) hj) (QI h.ls hj)
theorem b8.mj (h:b8 n L):b8 n (L.map (DL.mj n)):=λx hx=>by obtain⟨y,hy,rfl⟩:=dQ.mp hx;exact CQ (h y hy)
theorem B4.mj {L L':As}(h:B4 n L L'):b8 n L->B4 n (L.map (DL.mj n)) (L'.map (DL.mj n)):=by
 induction h with
 | @here p q B j hj h1 h2=>
  intro hI;have ip:=hI p (by simp);have iq:=hI q (by simp);simp_all only [bq];rw[aaL ip hj,aaM iq hj];refine .here (by lia) ?_ ?_
  ·show ai (fl n p.1.reverse) (n-2-j)<ai (fl n p.1.reverse) (n-2-j+1)
   rw[eQ ip.lr (by lia),eQ ip.lr (by lia),show n-1-(n-2-j)=j+1 by lia,show n-1-(n-2-j+1)=j by lia];lia
  ·show ai (fl n q.2.reverse) (n-2-j+1)<ai (fl n q.2.reverse) (n-2-j)
   rw[eQ iq.ls (by lia),eQ iq.ls (by lia),show n-1-(n-2-j)=j+1 by lia,show n-1-(n-2-j+1)=j by lia];lia
 |next _ ih=>
  intro hI;exact .next (ih λy hy=>hI y (by simp[hy]))
theorem rO.mj {L L':As}(h:rO n L L'):b8 n L->rO n (L.map (DL.mj n)) (L'.map (DL.mj n)):=by
 induction h with
 |nil=>exact λ_=>.nil _
 |cons s _ ih=>exact λhI=>.cons (s.mj hI) (ih (s.iv hI))
def WA(n:Nat):mj n (iC n)=iC n:=by
 have:fl n (upTo n).reverse.reverse=(upTo n).reverse:=cH (by rw[gg (by rw[bR,aI]),bR,aI]) λt ht=>by rw[gg (by rw[bR,aI])]at ht;rw[eQ (by rw[bR,aI]) ht,jc (by lia),jc ht];lia
 exact Prod.ext this this
def aaN(n:Nat):mj n (Zr n)=Zr n:=by
 have:fl n (upTo n).reverse=upTo n:=cH (by rw[gg (aI n),aI]) λt ht=>by rw[gg (aI n)]at ht;rw[eQ (aI n) ht,aM (by lia),aM ht];lia
 exact Prod.ext this this
def WB(hn:n<=7)(h2:2<=n)(h:Int){L B:As}(hI:b8 n L)(hB:b8 n B)(d:Int):Vl n (h+d) (L.map (mj n)++B)=Vl n ((Vl n h L).1+d) ((Vl n h L).2.map (mj n)++B):=by obtain⟨m,k,e,hT,s⟩:=Wy hn h hI;have s2:=s.mj hI;simp only [cF,aaO,WA,aaN]at s2;rw[e,CP hn _ (hI.mj.app hB) (s2.XO B),aZ,aZ,CO hn h2 (b8.app hT.mj (b8.app (.rep (gf n) k) hB)),show h+d+(m:Int)=h+m+d by lia];exact Jz hn _ hT.mj hB k
def NB{p q:RP}(h:Iv n p.1 p.2)(g:Iv n q.1 q.2)(e:∀t,t<n->ai p.2 t=ai q.2 t):p=q:=by have e2:p.2=q.2:=cH (by rw[h.ls,g.ls]) λt ht=>e t (by rw[h.ls]at ht;exact ht);refine qT h g (Iv.uniq (n:=n) (s:=q.2) ?_ g);rw[<-e2];exact h
def Dy.all {p q p' c' y:RP}(o:Dy n p q p' c' y)(ip:Iv n p.1 p.2){t:Nat}(ht:t<n):ai c'.2 (ai p'.2 t).toNat=ai q.2 (ai p.2 t).toNat:=by have:=ip.sr t ht;rw[o.pp t ht,o.pq _ (by lia)]
def LK{n:Nat}(hn:n<=7){p q:RP}(ip:Iv n p.1 p.2)(iq:Iv n q.1 q.2)(hd:∀t,t<n->ai q.2 (ai p.2 t).toNat=(n:Int)-1-t):gO 50 p q=(iC n,Zr n):=by
 have s:=lP hn ip iq (gf n);obtain⟨y,o⟩:=s.ex;have hp:(gO 50 p q).1=iC n:=qT s.ip (uO n) (CC s.ip λj hj=>by
  obtain⟨a1,a2,a3⟩:=s.ip.rs j (by lia);obtain⟨b1,b2,b3⟩:=s.ip.rs (j+1) hj;have e1:=o.all ip (t:=(ai (gO 50 p q).1.1 j).toNat) (by lia);have e2:=o.all ip (t:=(ai (gO 50 p q).1.1 (j+1)).toNat) (by lia);rw[a3,bu,hd _ (by lia)]at e1;rw[b3,bu,hd _ (by lia)]at e2;show ';';have hne:ai (gO 50 p q).1.1 j≠ai (gO 50 p q).1.1 (j+1):=λz=>by rw[z,b3]at a3;lia
  have:=(g5 s.ip s.ic).mp s.fr j hj (by lia);lia)
 refine Prod.ext hp (NB s.ic (gf n) λt ht=>?_);have e:=o.all ip (t:=n-1-t) (by lia);rw[hp,hd _ (by lia)]at e;change ai (gO 50 p q).2.2 (ai (upTo n).reverse (n-1-t)).toNat=_ at e;rw[jc (by lia),show((n:Int)-1-((n-1-t:Nat):Int)).toNat=t by lia]at e;show _=ai (upTo n) t;rw[aM ht,e];lia
def WC(hn:n<=7){c:RP}(ic:Iv n c.1 c.2):gO 50 c (iC n)=(iC n,mj n c):=by
 have s:=lP hn ic (uO n) (gf n);obtain⟨y,o⟩:=s.ex;have hd:∀t,t<n->ai (gO 50 c (iC n)).2.2 (ai (gO 50 c (iC n)).1.2 t).toNat=(n:Int)-1-ai c.2 t:=λt ht=>by have:=ic.sr t ht;rw[o.all ic ht];show ai (upTo n).reverse _=_;rw[jc (by lia)];lia
 have hp:(gO 50 c (iC n)).1=iC n:=qT s.ip (uO n) (CC s.ip λj hj=>by
  obtain⟨a1,a2,a3⟩:=s.ip.rs j (by lia);obtain⟨b1,b2,b3⟩:=s.ip.rs (j+1) hj;have e1:=hd (ai (gO 50 c (iC n)).1.1 j).toNat (by lia);have e2:=hd (ai (gO 50 c (iC n)).1.1 (j+1)).toNat (by lia);rw[a3,bu]at e1;rw[b3,bu]at e2;show ';';have hne:ai (gO 50 c (iC n)).1.1 j≠ai (gO 50 c (iC n)).1.1 (j+1):=λz=>by rw[z,b3]at a3;lia
  have h3:¬ai (gO 50 c (iC n)).2.2 (j+1)<ai (gO 50 c (iC n)).2.2 j:=λz=>by have:=(g5 s.ip s.ic).mp s.fr j hj z;lia
  generalize hs1:(ai (gO 50 c (iC n)).1.1 j).toNat=s1 at*;generalize hs2:(ai (gO 50 c (iC n)).1.1 (j+1)).toNat=s2 at*;obtain⟨u1,u2,u3⟩:=ic.sr s1 (by lia);obtain⟨v1,v2,v3⟩:=ic.sr s2 (by lia);have arT:ai c.2 s1≠ai c.2 s2:=λz=>by rw[z,v3]at u3;lia
  have p1:=o.pp s1 (by lia);have p2:=o.pp s2 (by lia);rw[a3]at p1;rw[b3]at p2;have:=o.ap (ai c.2 s2).toNat (ai c.2 s1).toNat (by lia) (by lia) (by lia);rw[u3,v3]at this;lia)
 refine Prod.ext hp (NB s.ic (CQ ic) λt ht=>?_);have e:=hd (n-1-t) (by lia);rw[hp]at e;change ai (gO 50 c (iC n)).2.2 (ai (upTo n).reverse (n-1-t)).toNat=_ at e;rw[jc (by lia),show((n:Int)-1-((n-1-t:Nat):Int)).toNat=t by lia]at e;rw[e];exact(eQ ic.ls ht).symm
theorem JB(hn:n<=7):∀(L:As),b8 n L->rO n (L++[iC n]) (iC n::L.map (mj n))
 |[],_=>.nil _
 |c::L,hI=>by have ic:=hI c (by simp);have r:=(Am (n:=n) 50 c (iC n) ic (uO n)).sts (L.map (mj n));rw[WC hn ic]at r;exact((JB hn L λy hy=>hI y (by simp[hy])).next c).trans r
def GD(n:Nat)(r:RP):RP:=(fl n r.2,r.1.reverse)
def aco{r:RP}(h:Iv n r.1 r.2){t:Nat}(ht:t<n):ai (GD n r).1 t=(n:Int)-1-ai r.2 t:=LJ (by rw[h.ls];exact ht)
def QK{r:RP}(h:Iv n r.1 r.2){t:Nat}(ht:t<n):ai (GD n r).2 t=ai r.1 (n-1-t):=by show ai r.1.reverse t=_;rw[Jw (by rw[h.lr];exact ht),h.lr]
def sO{r:RP}(h:Iv n r.1 r.2):Iv n (GD n r).1 (GD n r).2:=by
 refine⟨by show(fl n r.2).length=n;unfold fl;rw[aN,h.ls],by show r.1.reverse.length=n;rw[bR,h.lr],λt ht=>?_,λt ht=>?_⟩
 ·obtain⟨a,b,c⟩:=h.sr t ht
  rw[aco h ht];show 'L';rw[QK h (by lia),show n-1-((n:Int)-1-ai r.2 t).toNat=(ai r.2 t).toNat by lia,c]
 ·obtain⟨a,b,c⟩:=h.rs (n-1-t) (by lia)
  rw[QK h ht];refine⟨a,b,?_⟩;rw[aco h (by lia),c];lia
def WD(hn:n<=7){r:RP}(h:Iv n r.1 r.2):gO 50 (GD n r) r=(iC n,Zr n):=LK hn (sO h) h λt ht=>by rw[QK h ht,(h.rs (n-1-t) (by lia)).2.2];lia
def WE(hn:n<=7){r:RP}(h:Iv n r.1 r.2):gO 50 (mj n r) (GD n r)=(iC n,Zr n):=LK hn (CQ h) (sO h) λt ht=>by have e:ai (mj n r).2 t=(n:Int)-1-ai r.2 (n-1-t):=eQ h.ls ht;obtain⟨a,b,c⟩:=h.sr (n-1-t) (by lia);rw[e,QK h (by lia),show n-1-((n:Int)-1-ai r.2 (n-1-t)).toNat=(ai r.2 (n-1-t)).toNat by lia,c];lia
def Pa(n:Nat)(c:RP)(ω:Int×As):Int×As:=Vl n ω.1 (ω.2++[c])
def Ma(n:Nat)(r:RP)(ω:Int×As):Int×As:=Vl n (ω.1+ -1) (ω.2.map (mj n)++[GD n r])
structure Cv(n:Nat)(ω:Int×As):Prop where
 iv:b8 n ω.2
 id:Vl n ω.1 ω.2=ω
def acp(hn:n<=7)(h:Int)(hI:b8 n L):Cv n (Vl n h L):=by
 obtain⟨k,s,g⟩:=uy hn hI;have g2:=zG.drop (iZ n (zm n L)) g;have e:zm n (Vl n h L).2=(Vl n h L).2:=Ny (k:=0) hn g2.iv g2 (by rw[eB,bg];exact .nil _);have c:iZ n (Vl n h L).2=0:=by
  have hd:=Lq (n:=n) (zm n L);show iZ n ((zm n L).drop (iZ n (zm n L)))=0;cases e:(zm n L).drop (iZ n (zm n L))with
  |nil=>rfl
  |cons p B=>
   unfold iZ;rw[Jc (by simpa using hd p B e)];rfl
 refine⟨g2.iv,?_⟩;generalize Vl n h L=ω at e c;show(ω.1+((iZ n (zm n ω.2):Nat):Int),(zm n ω.2).drop (iZ n (zm n ω.2)))=ω;rw[e,c];exact Prod.ext (by show ω.1+((0:Nat):Int)=_;lia) rfl
section
variable{n:Nat}(hn:n<=7)(h2:2<=n)
include hn h2
theorem WG(h:Int)(hI:b8 n L){c:RP}(ic:Iv n c.1 c.2):Vl n h (L++[c])=Pa n c (Vl n h L):=Wz hn h2 h hI (.one ic)
theorem acq(h:Int)(hI:b8 n L){r:RP}(ir:Iv n r.1 r.2):Vl n (h+ -1) (L.map (mj n)++[GD n r])=Ma n r (Vl n h L):=WB hn h2 h hI (.one (sO ir)) (-1)
theorem LL{ω:Int×As}(hc:Cv n ω){c:RP}(ic:Iv n c.1 c.2):Cv n (Pa n c ω):=acp hn _ (hc.iv.app (.one ic))
theorem FJ{ω:Int×As}(hc:Cv n ω){r:RP}(ir:Iv n r.1 r.2):Cv n (Ma n r ω):=acp hn _ (hc.iv.mj.app (.one (sO ir)))
theorem QL{ω:Int×As}(hc:Cv n ω){p q:RP}(ip:Iv n p.1 p.2)(iq:Iv n q.1 q.2)(e:gO 50 p q=(iC n,Zr n)):Vl n (ω.1+ -1) (ω.2.map (mj n)++[p,q])=ω:=by
 have r:=(Am (n:=n) 50 p q ip iq).sts [];rw[e]at r;have s2:=(JB hn (ω.2.map (mj n)) hc.iv.mj).XO [Zr n];rw[aZ]at s2;have hf:(ω.2.map (mj n)).map (mj n)=ω.2:=by
  rw[jV]
  conv=>rhs;rw[<-JC ω.2]
  exact y6 λx hx=>JA (hc.iv x hx)
 rw[hf]at s2;rw[CP hn _ (hc.iv.mj.app (.cons ip (.one iq))) ((rO.app _ r).trans s2),cB,Jy hn h2 _ (hc.iv.app (.one (gf n))),show ω.1+ -1+1=ω.1 by lia];have:=Nz (A:=ω.2) (B:=[]) hn ω.1 hc.iv (λx hx=>nomatch hx);rw[this,bg];exact hc.id
theorem FN{ω:Int×As}(hc:Cv n ω){r:RP}(ir:Iv n r.1 r.2):Ma n r (Pa n r ω)=ω:=by have e:Pa n r ω=Vl n ω.1 (ω.2++[r]):=rfl;rw[e,<-acq hn h2 ω.1 (hc.iv.app (.one ir)) ir,cF,aZ];exact QL hn h2 hc (CQ ir) (sO ir) (WE hn ir)
theorem Ho{ω:Int×As}(hc:Cv n ω){r:RP}(ir:Iv n r.1 r.2):Pa n r (Ma n r ω)=ω:=by have e:Ma n r ω=Vl n (ω.1+ -1) (ω.2.map (mj n)++[GD n r]):=rfl;rw[e,<-WG hn h2 _ (hc.iv.mj.app (.one (sO ir))) ir,aZ];exact QL hn h2 hc (sO ir) ir (WD hn ir)
end
def Xr(n a:Nat):RP:=wB (Zr n) a
def fx{n a:Nat}(h:a+1<n):Iv n (Xr n a).1 (Xr n a).2:=dX (p:=Zr n) (gf n) h
def aft{n a:Nat}(h:a+1<n):yd (Xr n a) a=Zr n:=by
 have iz:Iv n (Zr n).1 (Zr n).2:=gf n;refine NB (ie (fx h) h) iz λt ht=>?_;show ai (fy (vh (upTo n) a) a) t=ai (upTo n) t;rw[iN (by rw[Ek,aI];exact h),cM (by rw[aI];exact Fl h ht),aM (Fl h ht),aM ht];unfold sw sg
 repeat' split
 all_goals lia
def aix{n a:Nat}(h:a+1<n):ai (Xr n a).2 (a+1)<ai (Xr n a).2 a:=by
 show ai (vh (upTo n) a) (a+1)<ai (vh (upTo n) a) a;rw[cM (by rw[aI];exact h),cM (by rw[aI];lia),aM h,aM (by lia)];unfold sg
 repeat' split
 all_goals lia
def An(hn:n<=7)(h2:2<=n){ω:Int×As}(hc:Cv n ω){c:RP}(ic:Iv n c.1 c.2){a:Nat}(ha:a+1<n)(hu:ai c.1 a<ai c.1 (a+1)):Pa n (Xr n a) (Pa n c ω)=Pa n (wB c a) ω:=by
 have e:Pa n c ω=Vl n ω.1 (ω.2++[c]):=rfl;rw[e,<-WG hn h2 ω.1 (hc.iv.app (.one ic)) (fx ha),aZ];have s:rO n [c,Xr n a] [wB c a,Zr n]:=by have:=B4.here (B:=[]) ha hu (aix ha);rw[aft ha]at this;exact .cons this (.nil _)
 rw[show[c]++[Xr n a]=[c,Xr n a]from rfl,CP hn ω.1 (hc.iv.app (.cons ic (.one (fx ha)))) (rO.app ω.2 s)];have:=Nz (A:=ω.2++[wB c a]) (B:=[]) hn ω.1 (hc.iv.app (.one (dX ic ha))) (λx hx=>nomatch hx);rw[aZ,bg]at this;exact this
def acr(n:Nat)(f:Nat->Nat):S n (λi=>f (n-1-i))=S n f:=by
 induction n with
 |zero=>rfl
 |succ n ih=>
  rw[PY,qL,<-ih];rw[show n+1-1-0=n by lia,YM];congr 1;exact lM λi _=>by rw[show n+1-1-(i+1)=n-1-i by lia]
def T2(n:Nat):Nat:=S n λq=>S n λp=>if p<q then 1 else 0
def ND{r s:Ap}(h:Iv n r s):lN (fl n s)+lN s=T2 n:=by
 rw[Hh,Hh,wR,h.ls,<-Ld];unfold T2;refine lM λq hq=>?_;rw[<-Ld];refine lM λp hp=>?_
 by_cases hpq:p<q
 ·rw[if_pos hpq,if_pos hpq,if_pos hpq,BG (by rw[h.ls];exact hq),BG (by rw[h.ls];exact hp)]
  have hne:ai s p≠ai s q:=λz=>by have:=h.To hp hq z;lia
  repeat' split
  all_goals lia
 ·rw[if_neg hpq,if_neg hpq,if_neg hpq]
def QM{r s:Ap}(h:Iv n r s):lN s.reverse+lN s=T2 n:=by
 have e1:lN s.reverse=S n λq=>S n λp=>if p<q then(if ai s p<ai s q then 1 else 0)else 0:=by
  rw[Hh,bR,h.ls,VC n n λq p=>if p<q then(if ai s p<ai s q then 1 else 0)else 0,<-acr n λp=>S n λq=>if p<q then(if ai s p<ai s q then 1 else 0)else 0];refine lM λq hq=>?_;rw[<-acr n λq_1=>if n-1-q<q_1 then(if ai s (n-1-q)<ai s q_1 then 1 else 0)else 0];refine lM λp hp=>?_;rw[ko (by rw[h.ls];exact hq),ko (by rw[h.ls];exact hp),h.ls]
  by_cases hpq:p<q
  ·have hq2:n-1-q<n-1-p:=by lia
   rw[if_pos hpq,if_pos hq2]
  ·have hq2:¬n-1-q<n-1-p:=by lia
   rw[if_neg hpq,if_neg hq2]
 rw[e1,Hh,h.ls,<-Ld];unfold T2;refine lM λq hq=>?_;rw[<-Ld];refine lM λp hp=>?_
 by_cases hpq:p<q
 ·rw[if_pos hpq,if_pos hpq,if_pos hpq]
  have hne:ai s p≠ai s q:=λz=>by have:=h.To hp hq z;lia
  repeat' split
  all_goals lia
 ·rw[if_neg hpq,if_neg hpq,if_neg hpq]
def XQ(k:Int):Int:=if 0<k then 1 else-1
def CS(w:Ap):Int:=(w.map XQ).sum
def JD(a b:Ap):CS (a++b)=CS a+CS b:=by unfold CS;rw[cF,PX]
def tJ(h:Int)(o:Ap):Ap:=if h%2=0 then o else o.reverse
def LM(h:Int)(o:Ap):(tJ h o).length=o.length:=by unfold tJ;split<;>simp
def kT(o r:Ap):(cmp o r).length=r.length:=by unfold cmp;exact aN _
theorem QN:∀(w o:Ap),(tj w o).length=o.length
 |[],o=>rfl
 |k::w,o=>by show(tj w (fy o _)).length=_;rw[QN w,dR]
def afu{o:Ap}(h:o.length=n):cmp o (upTo n)=o:=by refine cH (by rw[kT,aI,h]) λt ht=>?_;rw[kT,aI]at ht;rw[i6 (by rw[aI];exact ht),aM ht,bu]
def QO{o:Ap}(h:o.length=n)(w:Ap):tj w o=cmp o (tj w (upTo n)):=by
 conv=>lhs;rw[<-afu h]
 unfold cmp;exact Jq _ w _
def BI(a b o:Ap):tj (a++b) o=tj b (tj a o):=Bj
def afv{o r s:Ap}(h:o.length=n)(i:Iv n r s):cmp o.reverse (fl n s)=cmp o s:=by refine cH (by rw[kT,kT,wR]) λt ht=>?_;rw[kT,wR,i.ls]at ht;obtain⟨a1,a2,_⟩:=i.sr t ht;rw[i6 (by rw[wR,i.ls];exact ht),i6 (by rw[i.ls];exact ht),BG (by rw[i.ls];exact ht),ko (by rw[h];lia),h];congr 1;lia
def WH{r s:Ap}(h:Iv n r s)(hr:Iv n r.reverse (xN r.reverse)):lN (fl n r.reverse)=lN r:=by have e1:=ND hr.symm;have e2:=QM h.symm;lia
def LN{o r s:Ap}(h:o.length=n)(i:Iv n r s):cmp o.reverse (fl n r.reverse)=(cmp o r).reverse:=by
 refine cH (by rw[kT,wR,bR,bR,kT]) λt ht=>?_;rw[kT,wR,bR,i.lr]at ht;obtain⟨a1,a2,_⟩:=i.rs (n-1-t) (by lia);have e1:ai r.reverse t=ai r (n-1-t):=by rw[ko (by rw[i.lr];exact ht),i.lr]
 have e2:ai (cmp o r).reverse t=ai (cmp o r) (n-1-t):=by rw[ko (by rw[kT,i.lr];exact ht),kT,i.lr]
 rw[i6 (by rw[wR,bR,i.lr];exact ht),BG (by rw[bR,i.lr];exact ht),e1,e2,ko (by rw[h];lia),h,i6 (by rw[i.lr];lia)];congr 1;lia
def qV(n:Nat)(h:Int)(r:Ap):Ap:=if h%2=0 then r else fl n r.reverse
def SK(h:Int)(hr:bO n r):bO n (qV n h r):=by
 unfold qV;split
 ·exact hr
 ·exact Jr (Ey hr)
def SM(h:Int)(hr:bO n r):lN (qV n h r)=lN r:=by
 unfold qV;split
 ·rfl
 ·exact WH (kZ hr) (kZ (Ey hr))
def SN(h g:Int){o r:Ap}(ho:o.length=n)(hr:bO n r):cmp (tJ (g+h) o) (qV n h r)=tJ h (cmp (tJ g o) r):=by
 unfold qV tJ
 by_cases c:h%2=0
 ·rw[if_pos c,if_pos c]
  by_cases d:g%2=0
  ·rw[if_pos d,if_pos (by lia)]
  ·rw[if_neg d,if_neg (by lia)]
 ·rw[if_neg c,if_neg c]
  by_cases d:g%2=0
  ·rw[if_pos d,if_neg (by lia),LN ho (kZ hr)]
  ·rw[if_neg d,if_pos (by lia)]
   have:=LN (o:=o.reverse) (by rw[bR];exact ho) (kZ hr);rw[oQ]at this;exact this
abbrev hS(qs:List (Int×Ap)):Int:=(qs.map (·.1)).sum
def iB(n:Nat):List (Int×Ap)->List Ap
 |[]=>[]
 |q::qs=>qV n (hS qs) q.2::iB n qs
def WI(o:Ap)(qs:List (Int×Ap)):Ap:=qs.foldl (λo q=>cmp (tJ q.1 o) q.2) o
theorem CT(n:Nat):∀qs,(iB n qs).length=qs.length
 |[]=>rfl
 |q::qs=>by show(iB n qs).length+1=_;rw[CT n qs];rfl
theorem Hq:∀(qs:List (Int×Ap)),(∀q∈qs,bO n q.2)->∀r∈iB n qs,bO n r
 |[],_,r,hr=>nomatch hr
 |q::qs,h,r,hr=>by
  rcases aX.mp hr with rfl|hr
  ·exact SK _ (h q (by simp))
  ·exact Hq qs (λx hx=>h x (by simp[hx])) r hr
theorem Hr:∀(qs:List (Int×Ap))(o:Ap),(∀q∈qs,bO n q.2)->o.length=n->GC (tJ (hS qs) o) (iB n qs)=WI o qs
 |[],o,_,_=>by show tJ 0 o=o;rfl
 |q::qs,o,h,ho=>by have hq:=h q (by simp);have ih:=Hr qs (cmp (tJ q.1 o) q.2) (λx hx=>h x (by simp[hx])) (by rw[kT,hq.len]);show GC (cmp (tJ (hS (q::qs)) o) (qV n (hS qs) q.2)) (iB n qs)=WI (cmp (tJ q.1 o) q.2) qs;rw[<-ih,show hS (q::qs)=q.1+hS qs from rfl,SN _ _ ho hq]
theorem Hs:∀(qs:List (Int×Ap)),(∀q∈qs,bO n q.2)->rM (iB n qs)=rM (qs.map (·.2))
 |[],_=>rfl
 |q::qs,h=>by
  have ih:=Hs qs λx hx=>h x (by simp[hx]);have e:∀(r:Ap)(R:List Ap),rM (r::R)=lN r+rM R:=λr R=>by unfold rM;rw[bq,rC]
  show rM (qV n (hS qs) q.2::iB n qs)=rM (q.2::qs.map (·.2));rw[e,e,ih,SM _ (h q (by simp))]
abbrev zH(k:Int):Int:=if k<0 then-k else k
def WK{k:Int}(h:cQ n k):∃a:Nat,zH k=(a:Int)+1/\a+1<n:=by
 unfold cQ at h;unfold zH;split
 ·exact⟨(-k-1).toNat,by lia,by lia⟩
 ·exact⟨(k-1).toNat,by lia,by lia⟩
def WL{p:Ap}(h:∀k∈p,cQ n k):Ps n (p.map zH):=λk hk=>by obtain⟨x,hx,rfl⟩:=dQ.mp hk;exact WK (h x hx)
theorem WM(a b:Bool):G4 (.bl a) (.bl b)=aa (.bl (!(a==b))):=rfl
theorem aaP:Pn []=aa []:=rfl
def LO{α:Type}(l:List α)(x y:α):(l++[x]).set l.length y=l++[y]:=by simp
structure Gp(n:Nat)(p:Ap):Prop where
 ne:p≠[]
 x:∀k∈p,cQ n k
 sg:(∀k∈p,0<k)\/∀k∈p,k<0
 le:∃z,fR (p.map zH) (upTo n)=aa z
def Mx(n:Nat):List Ap->Prop
 |p::q::B=>(∀k q',q=k::q'->¬Gp n (p++[k]))/\Mx n (q::B)
 |_=>True
theorem Mx.snoc {k:Int}:∀{A:List Ap}{p:Ap},Mx n (A++[p])->¬Gp n (p++[k])->Mx n (A++[p]++[[k]])
 |[],p,_,h=>⟨λx q e=>by cases e;exact h,trivial⟩
 |[a],p,g,h=>⟨g.1,λx q e=>by cases e;exact h,trivial⟩
 |a::b::A,p,g,h=>⟨g.1,Mx.snoc (A:=b::A) g.2 h⟩
theorem Mx.last {k:Int}:∀{A:List Ap}{p:Ap},p≠[]->Mx n (A++[p])->Mx n (A++[p++[k]])
 |[],p,_,_=>trivial
 |[a],p,hp,g=>⟨λx q e=>by
  cases p with
  |nil=>exact absurd rfl hp
  |cons y p=>cases e;exact g.1 _ _ rfl,trivial⟩
 |a::b::A,p,hp,g=>⟨g.1,Mx.last (A:=b::A) hp g.2⟩
structure afw(n i:Nat)(u:Ap)(mR:List Ap)(o:Ap)(s:Bool):Prop where
 len:mR.length<=i
 lo:o.length=n
 good:∀p∈mR,Gp n p/\p.length<=i
 fla:mR.flatten=u
 mx:Mx n mR
 last:mR=[]\/∃ini cur,mR=ini++[cur]/\(∀k∈cur,s=decide (0<k))/\fR (cur.map zH) (upTo n)=aa o
def Ez{a v:Int}(h:0<=a)(h2:a<l.length):KJ i env (.int v) (bp l) (.int a)=.ok (.nx (env.set i (.own (bp (l.set a.toNat v))))):=by rw[KN h (by rw[cK];exact h2)];unfold bp;rw[A5]
def QP{a:Nat}(h:a+1<l.length):(l.set (a+1) (ai l a)).set a (ai l (a+1))=fy l a:=by
 refine cH (by rw[qh,qh,dR]) λj hj=>?_;rw[qh,qh]at hj;rw[Fd (by rw[qh];exact hj),Fd hj,dC _ _ h]
 repeat' split
 all_goals first|rfl|lia|(subst_vars;rfl)
def afx{n i:Nat}(hn:n<=7)(hi:i<1000){mR:List Ap}{o:Ap}{s:Bool}{u:Ap}(J:afw n i u mR o s){k:Int}(hk:cQ n k)(s1 s5 s6 s7:Sl):
  ∃aiy o' s' t5 t6 t7,x8 (.int k) [.val (.int n),s1,.deep (.ls mR),.own (bp o),.val (.bl s),s5,s6,s7]=.ok (.nx [.val (.int n),s1,.deep (.ls aiy),.own (bp o'),.val (.bl s'),t5,t6,t7])/\afw n (i+1) (u++[k]) aiy o' s':=by
 obtain⟨a,ea,ha⟩:=WK hk;have lo:=J.lo;have hlen:=J.len;have at1:mO (bp o) ((a:Int)+1-1)=aa (.int (ai o a)):=by rw[jX (by lia) (by lia),show((a:Int)+1-1).toNat=a by lia]
 have at2:mO (bp o) ((a:Int)+1)=aa (.int (ai o (a+1))):=by rw[jX (by lia) (by lia),show((a:Int)+1).toNat=a+1 by lia]
 have ku:mO (bp (upTo n)) ((a:Int)+1-1)=aa (.int (ai (upTo n) a)):=by rw[jX (by lia) (by rw[aI];lia),show((a:Int)+1-1).toNat=a by lia]
 have ku2:mO (bp (upTo n)) ((a:Int)+1)=aa (.int (ai (upTo n) (a+1))):=by rw[jX (by lia) (by rw[aI];lia),show((a:Int)+1).toNat=a+1 by lia]
 have hgk:Gp n [k]:=⟨by simp,λx hx=>by rw[dN.mp hx];exact hk,by
  unfold cQ at hk
  by_cases c:0<k
  ·exact .inl λx hx=>by rw[dN.mp hx];exact c
  ·exact .inr λx hx=>by rw[dN.mp hx];lia,⟨fy (upTo n) a,by show fR [zH k] (upTo n)=_;rw[ea,kR (n:=n),if_neg (by rw[aM (by lia),aM (by lia)];lia)];rfl⟩⟩
 have hkl:fR [zH k] (upTo n)=aa (fy (upTo n) a):=by rw[ea,kR (n:=n),if_neg (by rw[aM (by lia),aM (by lia)];lia)];rfl
 by_cases hnew:mR=[]\/s≠decide (0<k)\/ai o (a+1)<ai o a
 ·have hmx:Mx n (mR++[[k]]):=by
   rcases J.last with rfl|⟨ini,cur,rfl,hs,hl⟩
   ·trivial
   ·refine Mx.snoc J.mx λgp=>?_
    obtain⟨gc,_⟩:=J.good cur (by simp);rcases hnew with h|h|h
    ·simp at h
    ·obtain⟨y,aiz,ec⟩:∃y aiz,cur=y::aiz:=by
      cases cur with
      |nil=>exact absurd rfl gc.ne
      |cons y c=>exact⟨y,c,rfl⟩
     have hy:=hs y (by rw[ec];simp);refine h ?_;rw[hy];rcases gp.sg with z|z
     ·rw[decide_eq_true (z y (by rw[ec];simp)),decide_eq_true (z k (by simp))]
     ·have z1:=z y (by rw[ec];simp)
      have z2:=z k (by simp);rw[decide_eq_false (show¬0<y by lia),decide_eq_false (show¬0<k by lia)]
    ·obtain⟨q,hq⟩:=gp.le
     rw[cF,bq,dz,CM,hl,ea]at hq;have JU:fR [(a:Int)+1] o=aa q:=hq;rw[kR (n:=n),if_pos h]at JU;cases JU
  refine⟨mR++[[k]],fy (upTo n) a,decide (0<k),.val (.int k),.val (.int ((a:Int)+1)),.val (.int (ai (upTo n) (a+1))),?_,⟨by simp;lia,by rw[dR,aI],λp hp=>?_,by rw[ue,J.fla];simp,hmx,.inr ⟨mR,[k],rfl,λx hx=>by rw[dN.mp hx],hkl⟩⟩⟩
  ·have WN:(if(((mR.length:Nat):Int)==0)=true then R.ok true else if(!(s==decide (0<k)))=true then R.ok true else R.ok (decide (ai o (a+1)<ai o a)):R Bool)=.ok true:=by
    rcases hnew with h|h|h
    ·rw[if_pos (by rw[h];rfl)]
    ·split
     ·rfl
     ·rw[if_pos (by simpa using h)]
    ·rw[decide_eq_true h]
     repeat' split
     all_goals rfl
   unfold x8;simp_all [pL,Wt,WM,ea,at1,at2,aN,WN,sM,sN,aaP];rw[QC (by lia)];simp_all [sM,sN,CN];rw[ux n hn];simp_all [sM,sN,CN];rw[QB (by simp)];simp_all [ku,ku2];rw[Ez (by lia) (by rw[aI];lia)];simp_all;rw[Ez (by lia) (by rw[qh,aI];lia)];simp_all;rw[show((a:Int)+1).toNat=a+1 by lia,show((a:Int)+1-1).toNat=a by lia,QP (by rw[aI];lia),LO]
  ·rcases cu.mp hp with h|h
   ·exact⟨(J.good p h).1,by have:=(J.good p h).2;lia⟩
   ·rw[dN.mp h]
    exact⟨hgk,by simp⟩
 ·have h1:mR≠[]:=λz=>hnew (.inl z)
  have h2:s=decide (0<k):=oO λz=>hnew (.inr (.inl z));have h3:¬ai o (a+1)<ai o a:=λz=>hnew (.inr (.inr z));obtain⟨ini,cur,rfl,hs,hl⟩:=J.last.resolve_left h1;obtain⟨gc,gl⟩:=J.good cur (by simp);have aiA:fR ((cur++[k]).map zH) (upTo n)=aa (fy o a):=by rw[cF,bq,dz,CM,hl,ea];show fR [(a:Int)+1] o=_;rw[kR (n:=n),if_neg h3];rfl
  refine⟨ini++[cur++[k]],fy o a,s,.val (.int k),.val (.int ((a:Int)+1)),.val (.int (ai o (a+1))),?_,⟨by simp at hlen⊢;lia,by rw[dR,lo],λp hp=>?_,by have:=J.fla;rw[ue]at this⊢;rw[<-this];simp,Mx.last gc.ne J.mx,.inr ⟨ini,cur++[k],rfl,λx hx=>?_,aiA⟩⟩⟩
  ·have WN:(if((((ini++[cur]).length:Nat):Int)==0)=true then R.ok true else if(!(s==decide (0<k)))=true then R.ok true else R.ok (decide (ai o (a+1)<ai o a)):R Bool)=.ok false:=by
    rw[if_neg (by simp;lia),h2,if_neg (by simp),decide_eq_false h3]
   unfold x8;simp_all [pL,Wt,WM,ea,at1,at2,aN,WN,sM,sN,CN];rw[QB (by lia)];simp_all [at1,at2];rw[Ez (by lia) (by lia)];simp_all;rw[Ez (by lia) (by rw[qh];lia)];simp_all;rw[show((a:Int)+1).toNat=a+1 by lia,show((a:Int)+1-1).toNat=a by lia,QP (by lia),LO]
  ·rcases cu.mp hp with h|h
   ·exact⟨(J.good p (by simp[h])).1,by have:=(J.good p (by simp[h])).2;lia⟩
   ·rw[dN.mp h]
    refine⟨⟨by simp,λx hx=>?_,?_,⟨_,aiA⟩⟩,by rw[br,tR];lia⟩
    ·rcases cu.mp hx with q|q
     ·exact gc.x x q
     ·rw[dN.mp q];exact hk
    ·have RY:=hk
     unfold cQ at RY
     by_cases c:0<k
     ·refine .inl λx hx=>?_
      rcases cu.mp hx with q|q
      ·have:=hs x q
       rw[h2,decide_eq_true c]at this;exact of_decide_eq_true this.symm
      ·rw[dN.mp q];exact c
     ·refine .inr λx hx=>?_
      rcases cu.mp hx with q|q
      ·have:=hs x q
       rw[h2,decide_eq_false c]at this;have:=of_decide_eq_false this.symm;have:=(gc.x x q).1;lia
      ·rw[dN.mp q];lia
  ·rcases cu.mp hx with q|q
   ·exact hs x q
   ·rw[dN.mp q];exact h2
def afy(hn:n<=7)(hw:∀k∈w,cQ n k)(hl:w.length<=1000):∃mR:List Ap,K8 [.int n,.lst (bp w)]=.ok mR/\mR.flatten=w/\mR.length<=w.length/\(∀p∈mR,Gp n p/\p.length<=w.length)/\Mx n mR:=by
 unfold K8 abO mT;simp_all;rw[ux n hn];dsimp;obtain⟨⟨mR,o,s,t5,t6,t7⟩,e,hj⟩:=xT (S:=List Ap×Ap×Bool×Sl×Sl×Sl) (b:=x8) (λi q=>afw n i (w.take i) q.1 q.2.1 q.2.2.1)
  (λq=>[.val (.int n),.val (.lst (bp w)),.deep (.ls q.1),.own (bp q.2.1),.val (.bl q.2.2.1),q.2.2.2.1,q.2.2.2.2.1,q.2.2.2.2.2]) (bp w) 0 ([],upTo n,false,.no,.no,.no)
  ⟨aY _,aI n,(λp hp=>nomatch hp),rfl,trivial,.inl rfl⟩ (by rintro j ⟨mR,o,s,t5,t6,t7⟩ x hs hx;obtain⟨k,hk,rfl⟩:=PK hx;have hjl:j<w.length:=(bH.mp hk).1;obtain⟨p1,o1,s1,u5,u6,u7,e,hJ⟩:=afx hn (show 0+j<1000 by lia) hs (hw k (dU hk)) (.val (.lst (bp w))) t5 t6 t7;refine⟨(p1,o1,s1,u5,u6,u7),e,?_⟩;rw[lH]at hJ⊢;rw[K2 hk];exact hJ)
 dsimp only at e hj;rw[e];rw[lH,cK]at hj;dsimp [sM,sN,U0];exact⟨mR,rfl,by rw[hj.fla,A0],hj.len,hj.good,hj.mx⟩
def Ht(w:Ap)(hw:w.length<=1000):rV [.lst (bp w)]=.ok (bp (w.reverse.map λk=> -k)):=by unfold rV K5;simp_all [Pu,uF];rw[Aj (λk=> -k) w.reverse λk _=>⟨_,pL _ _ _,rfl,rfl⟩];dsimp [R.Cu];rw[jw (by rw[aN,bR];lia)];dsimp [jE]
def Mi(q:Int×Ap):D:=.tup [.int q.1,.lst (bp q.2)]
def SpA(n:Nat)(p:Ap)(q:Int×Ap):Prop:=(q.1=0/\(∀k∈p,0<k)/\fR p (upTo n)=aa q.2)\/(q.1= -1/\(∀k∈p,k<0)/\∃z,fR (p.reverse.map λk=> -k) (upTo n)=aa z/\Iv n z (tj (p.map zH) (upTo n))/\q.2=fl n (tj (p.map zH) (upTo n)))
structure StP(n:Nat)(p:Ap)(q:Int×Ap):Prop where
 h:q.1=0\/q.1= -1
 r:bO n q.2
 o:∀o:Ap,o.length=n->cmp (tJ q.1 o) q.2=tj (p.map zH) o
 c:q.1*(T2 n:Int)+(lN q.2:Int)=CS p
 a:SpA n p q
theorem WO:∀{p:Ap},(∀k∈p,0<k)->CS p=p.length
 |[],_=>rfl
 |k::p,h=>by have ih:=WO (p:=p) λx hx=>h x (by simp[hx]);unfold CS at ih⊢;rw[bq,rC,ih,aR];unfold XQ;rw[if_pos (h k (by simp))];lia
theorem WQ:∀{p:Ap},(∀k∈p,k<0)->CS p= -(p.length:Int)
 |[],_=>rfl
 |k::p,h=>by have ih:=WQ (p:=p) λx hx=>h x (by simp[hx]);have:=h k (by simp);unfold CS at ih⊢;rw[bq,rC,ih,aR];unfold XQ;rw[if_neg (by lia)];lia
def aaQ(hn:n<=7){p:Ap}(g:Gp n p)(hl:p.length<=1000):∃q,vg [.int n,.lst (bp p)]=.ok (Mi q)/\StP n p q:=by
 obtain⟨k0,p',rfl⟩:=List.exists_cons_of_ne_nil g.ne;obtain⟨z,hz⟩:=g.le;have hp:=WL g.x;have at0:mO (bp (k0::p')) 0=aa (.int k0):=by rw[AY,yY (by decide)];rfl
 unfold vg Hg;simp_all [at0];rcases g.sg with hs|hs
 ·have e:(k0::p').map zH=k0::p':=by
   conv=>rhs;rw[<-JC (k0::p')]
   refine y6 λx hx=>?_;have:=hs x hx;show(if x<0 then-x else x)=x;rw[if_neg (by lia)]
  rw[e]at hp hz;simp_all [decide_eq_true (hs k0 (by simp)),Hm hn hp hz];obtain⟨w1,w2⟩:=vA (k0::p') _ _ z hp (sL n) hz;refine⟨(0,z),rfl,⟨.inl rfl,gR (QA hp hz),λo ho=>?_,?_,.inl ⟨rfl,hs,hz⟩⟩⟩
  ·rw[e,QO ho,<-w1]
   rfl
  ·rw[WO hs]
   dsimp only;rw[w2,Wr n (by lia)];lia
 ·have e:(k0::p').map zH=(k0::p').map λk=> -k:=y6 λx hx=>by
   have:=hs x hx;show(if x<0 then-x else x)= -x;rw[if_pos this]
  rw[e]at hp hz;have hk0:=hs k0 (by simp);have hr:=LB hp hz;rw[<-rz]at hr;have hp2:Ps n ((k0::p').reverse.map λk=> -k):=λx hx=>hp x (by rw[rz,yZ]at hx;exact hx)
  simp_all [decide_eq_false (show¬0<k0 by lia),Ht _ hl,Hm hn hp2 hr];have iv:=QA hp2 hr;unfold qm zW;simp_all [SH iv hn];have es:tj ((k0::p').reverse.map λk=> -k).reverse (upTo n)=tj ((k0::p').map zH) (upTo n):=by rw[e,rz,oQ]
  rw[es]at iv⊢;obtain⟨w1,w2⟩:=vA ((k0::p').map λk=> -k) _ _ z hp (sL n) hz;rw[<-e]at w1;refine⟨(-1,fl n (tj ((k0::p').map zH) (upTo n))),rfl,⟨.inr rfl,Jr (gR iv.symm),λo ho=>?_,?_,.inr ⟨rfl,hs,_,hr,iv,rfl⟩⟩⟩
  ·show cmp o.reverse (fl n (tj ((k0::p').map zH) (upTo n)))=_
   rw[afv ho iv,<-QO ho]
  ·rw[WQ hs]
   dsimp only;have e1:=ND iv;rw[<-w1]at e1⊢;rw[w2,Wr n (by lia),aN]at e1;lia
theorem LP:∀(a b o z:Ap),fR (a++b) o=aa z->∃z',fR a o=aa z'
 |[],b,o,z,_=>⟨o,rfl⟩
 |k::a,b,o,z,h=>by
  rw[cB]at h;unfold fR at h⊢;split at h
  ·cases h
  ·rename_i c
   rw[if_neg c];exact LP a b _ z h
def NF{a b:Ap}(h:Gp n (a++b))(ha:a≠[]):Gp n a:=⟨ha,λk hk=>h.x k (by simp[hk]),h.sg.imp (λz k hk=>z k (by simp[hk])) (λz k hk=>z k (by simp[hk])),by obtain⟨z,e⟩:=h.le;rw[cF]at e;exact LP _ _ _ _ e⟩
def WR{a:Ap}(h:Gp n a):Gp n a.reverse:=⟨by simpa using h.ne,λk hk=>h.x k (by simpa using hk),h.sg.imp (λz k hk=>z k (by simpa using hk)) (λz k hk=>z k (by simpa using hk)),by obtain⟨z,e⟩:=h.le;rw[rz];exact⟨_,LB (WL h.x) e⟩⟩
def afz{a b:Ap}(h:Gp n (a++b))(hb:b≠[]):Gp n b:=by
 have h1:=WR h;rw[Er]at h1;have h2:=WR (NF h1 (by simpa using hb))
 rwa [oQ]at h2
def Bl(n:Nat)(bs:List Ap):Prop:=∀b∈bs,Gp n b\/b=[]
theorem JE:∀(bs:List Ap)(x y:Ap),bs.flatten=x++y->Bl n bs->∃cs:List Ap,cs.length<=bs.length/\cs.flatten=y/\Bl n cs
 |[],x,y,e,_=>⟨[],aY _,by rw[Bc]at e;rw[(BJ.mp e.symm).2];rfl,λb hb=>(nomatch hb)⟩
 |b::bs,x,y,e,h=>by
  rw[dM]at e;rcases QQ.mp e with⟨c,e1,e2⟩|⟨c,e1,e2⟩
  ·obtain⟨cs,h1,h2,h3⟩:=JE bs c y e2 λz hz=>h z (by simp[hz])
   exact⟨cs,by rw[aR];lia,h2,h3⟩
  ·refine⟨c::bs,by simp,by rw[dM,e2],λz hz=>?_⟩
   rcases aX.mp hz with rfl|hz
   ·by_cases hz:z=[]
    ·exact .inr hz
    ·rcases h b (by simp)with g|g
     ·rw[e1]at g
      exact .inl (afz g hz)
     ·rw[g]at e1
      exact .inr (BJ.mp e1.symm).2
   ·exact h z (by simp[hz])
theorem NG:∀(mR bs:List Ap),(∀p∈mR,Gp n p)->Mx n mR->Bl n bs->mR.flatten=bs.flatten->mR.length<=bs.length
 |[],bs,_,_,_,_=>iJ _
 |p::ps,[],hp,_,_,e=>by rw[dM,Bc]at e;exact absurd (BJ.mp e).1 (hp p (by simp)).ne
 |p::ps,b::bs,hp,hm,hb,e=>by
  have hm2:Mx n ps:=by
   cases ps with
   |nil=>trivial
   |cons q B=>exact hm.2
  rw[dM,dM]at e;rw[aR,aR];rcases QQ.mp e with⟨x,e1,e2⟩|⟨x,e1,e2⟩
  ·cases x with
   |nil=>
    have:=NG ps bs (λz hz=>hp z (by simp[hz])) hm2 (λz hz=>hb z (by simp[hz])) e2;lia
   |cons k x=>
    exfalso;cases ps with
    |nil=>cases e2
    |cons q B=>
     cases q with
     |nil=>exact(hp [] (by simp)).ne rfl
     |cons y q=>
      rw[dM,cB,cB]at e2;injection e2 with e3 e4;subst e3;refine hm.1 y q rfl ?_;have g:=hb b (by simp);rcases g with g|g
      ·rw[e1,show p++y::x=p++[y]++x by simp]at g
       exact NF g (by simp)
      ·rw[g]at e1
       have:=(BJ.mp e1.symm).2;cases this
  ·obtain⟨cs,h1,h2,h3⟩:=JE bs x ps.flatten e2 λz hz=>hb z (by simp[hz])
   have:=NG ps cs (λz hz=>hp z (by simp[hz])) hm2 h3 h2.symm;lia
inductive F2 {α β:Type} (R:α->β->Prop):List α->List β->Prop
 |nil:F2 R [] []
 |cons {a:α} {b:β} {l:List α} {m:List β}:R a b->F2 R l m->F2 R (a::l) (b::m)
theorem FO(hn:n<=7):∀(ps:List Ap),(∀p∈ps,Gp n p/\p.length<=1000)->∃qs:List (Int×Ap),kW (bN 0) mf gx (xt 1 [.int n]) (ps.map λns=>D.lst (ns.map D.int))=.ok (qs.map Mi)/\qs.length=ps.length/\
  (∀q∈qs,(q.1=0\/q.1= -1)/\bO n q.2)/\(∀o:Ap,o.length=n->WI o qs=tj (ps.flatten.map zH) o)/\hS qs*(T2 n:Int)+(rM (qs.map (·.2)):Int)=CS ps.flatten/\F2 (StP n) ps qs
 |[],_=>⟨[],rfl,rfl,(λq hq=>nomatch hq),(λo _=>rfl),(by show(0:Int)*_+0=0;rw[aaR];rfl),.nil⟩
 |p::ps,h=>by
  obtain⟨qs,e1,e2,e3,e8,e9,e10⟩:=FO hn ps λx hx=>h x (by simp[hx]);obtain⟨q,e4,e5⟩:=aaQ hn (h p (by simp)).1 (h p (by simp)).2;refine⟨q::qs,?_,by rw[aR,aR,e2],λx hx=>?_,λo ho=>?_,?_,.cons e5 e10⟩
  ·rw[bq]
   unfold kW;rw[e1];have e6:gx [.val (.lst (bp p)),.val (.int n)]=.ok (Mi q):=by unfold gx;simp_all [e4]
   rw[pL,R.bX,show mf _=.ok true from rfl,R.bX,if_pos rfl];have e7:gx (List.set (xt 1 [.int n]) 0 (.val (.lst (p.map D.int))))=.ok (Mi q):=e6;rw[e7];rfl
  ·rcases aX.mp hx with rfl|hx
   ·exact⟨e5.h,e5.r⟩
   ·exact e3 x hx
  ·show WI (cmp (tJ q.1 o) q.2) qs=_
   rw[e5.o o ho,e8 _ (by rw[QN,ho]),dM,cF,BI]
  ·have hc:=e5.c
   have e:rM (q.2::qs.map (·.2))=lN q.2+rM (qs.map (·.2)):=(by unfold rM;rw[bq,rC]);show(q.1+hS qs)*(T2 n:Int)+(rM (q.2::qs.map (·.2)):Int)=_;rw[e,dM,JD,<-hc,<-e9,Ej];lia
theorem QR:∀(l:Ap)(a:Nat),fy (fy l a) a=l
 |[],a=>by cases a<;>rfl
 |[x],0=>rfl
 |x::y::l,0=>rfl
 |x::l,a+1=>by rw[yc,yc,QR l a]
def aaS(k:Int):zH (-k)=zH k:=by unfold zH;split<;>split<;>lia
def aaT{k:Int}(h:k≠0):XQ (-k)= -XQ k:=by unfold XQ;split<;>split<;>lia
def SQ{k:Int}(h:k≠0)(s:Ap):CS (jb s k)=CS s+XQ k/\∀o,tj ((jb s k).map zH) o=tj ((s++[k]).map zH) o:=by
 unfold jb;have e1:∀k,CS [k]=XQ k:=λk=>by simp[CS]
 split
 ·rename_i hl
  have hne:s≠[]:=λz=>by rw[z]at hl;cases hl
  have Gk:s.dropLast++[-k]=s:=by have:=Jg hne;rw[Qk hne]at hl;rw[ck.inj hl]at this;exact this
  have h2:CS s=CS s.dropLast+XQ (-k):=by
   conv=>lhs;rw[<-Gk]
   rw[JD,e1]
  refine⟨by rw[h2,aaT h];lia,λo=>?_⟩
  conv=>rhs;rw[<-Gk]
  rw[cF,cF,BI,BI];show _=fy (fy _ (zH (-k)-1).toNat) (zH k-1).toNat;rw[aaS,QR]
 ·exact⟨by rw[JD,e1],λo=>rfl⟩
theorem Hu:∀(w s:Ap),(∀k∈w,k≠0)->CS (gz s w)=CS s+CS w/\∀o,tj ((gz s w).map zH) o=tj ((s++w).map zH) o
 |[],s,_=>⟨by simp[gz,CS],λo=>by rw[bg];rfl⟩
 |k::w,s,h=>by
  obtain⟨p1,p2⟩:=SQ (h k (by simp)) s;obtain⟨t1,t2⟩:=Hu w (jb s k) λx hx=>h x (by simp[hx]);have e:CS (k::w)=XQ k+CS w:=by unfold CS;rw[bq,rC]
  refine⟨?_,λo=>?_⟩
  ·show CS (gz (jb s k) w)=_
   rw[t1,p1,e];lia
  ·show tj ((gz (jb s k) w).map zH) o=_
   rw[t2,cF,BI,p2,<-BI,<-cF,aZ];rfl
theorem F2.len {α β:Type}{R:α->β->Prop}:∀{l:List α}{m:List β},F2 R l m->l.length=m.length
 |_,_,.nil=>rfl
 |_,_,.cons _ h=>by rw[aR,aR,F2.len h]
def Blk(n:Nat)(w:Ap)(m:Nat):Prop:=∃bs:List Ap,bs.flatten=w/\bs.length<=m/\Bl n bs
def SR(hw:∀k∈w,cQ n k):Blk n w w.length:=⟨w.map λk=>[k],by induction w with
  |nil=>rfl
  |cons k w ih=>rw[bq,dM,ih λx hx=>hw x (by simp[hx])];rfl,by rw[aN];exact aY _,λb hb=>by
  obtain⟨k,hk,rfl⟩:=dQ.mp hb;have hk:=hw k hk;obtain⟨a,ea,ha⟩:=WK hk;refine .inl ⟨by simp,λx hx=>by rw[dN.mp hx];exact hk,?_,fy (upTo n) a,?_⟩
  ·unfold cQ at hk
   by_cases c:0<k
   ·exact .inl λx hx=>by rw[dN.mp hx];exact c
   ·exact .inr λx hx=>by rw[dN.mp hx];lia
  ·show fR [zH k] (upTo n)=_
   rw[ea,kR (n:=n),if_neg (by rw[aM (by lia),aM (by lia)];lia)];rfl⟩
def WS(hn:n<=7)(hw:∀k∈w,cQ n k)(hl:w.length<=900)(hB:Blk n (gz [] w) 40):∃qs:List (Int×Ap),jG [.int n,.lst (bp w)]=.ok (.lst (qs.map Mi))/\(qs.length<=w.length/\qs.length<=40)/\
  (∀q∈qs,(q.1=0\/q.1= -1)/\bO n q.2)/\(∀o:Ap,o.length=n->WI o qs=tj (w.map zH) o)/\hS qs*(T2 n:Int)+(rM (qs.map (·.2)):Int)=CS w/\∃mR:List Ap,mR.flatten=gz [] w/\(∀p∈mR,Gp n p)/\F2 (StP n) mR qs:=by
 have htl:=BH w [];simp only [cD]at htl;obtain⟨t1,t2⟩:=Hu w [] λk hk=>(hw k hk).1;obtain⟨mR,e1,ef,e2,e3,e0⟩:=afy hn (w:=gz [] w) (λk hk=>by
  rcases FI w [] k hk with h|h
  ·cases h
  ·exact hw k h) (by lia)
 obtain⟨qs,e4,e5,e6,e7,e8,e10⟩:=FO hn mR λp hp=>⟨(e3 p hp).1,by have:=(e3 p hp).2;lia⟩
 rw[ef]at e7 e8;have hg:mR.length<=40:=by obtain⟨bs,b1,b2,b3⟩:=hB;have:=NG mR bs (λp hp=>(e3 p hp).1) e0 b3 (ef.trans b1.symm);lia
 have hg2:=e10.len;refine⟨qs,?_,⟨by lia,by lia⟩,e6,λo ho=>by rw[e7 o ho,t2];rfl,(by rw[e8,t1];show 0+CS w=_;lia),mR,ef,λp hp=>(e3 p hp).1,e10⟩;unfold jG xx;simp_all [Nt w (by lia),e1,R.Cu,uF,e4];rw[xS (by rw[aN];exact big (by lia))];simp_all
def aaU(hn:n<=7)(h:Int)(hr:bO n r):lh [.int h,.lst (bp r)]=.ok (bp (qV n h r)):=by
 unfold lh zU qV;simp_all;rw[nK _ _ (by decide)];dsimp
 by_cases c:h%2=0
 ·rw[if_pos c]
  dsimp [show(h%2==0)=true by rw[beq_iff_eq];exact c,jE]
 ·rw[if_neg c]
  dsimp [show(h%2==0)=false by rw[beq_eq_false_iff_ne];exact c,Nq hr.len hn,jE]
def aaV(hn:n<=7){qs:List (Int×Ap)}(hq:∀q∈qs,bO n q.2)(hl:qs.length<=100):dm [.lst (qs.map Mi)]=.ok (iB n qs):=by
 unfold dm qD mT;simp_all;obtain⟨⟨rs,h,t3⟩,e,hj1,hj2⟩:=xT (S:=List Ap×Int×Sl) (b:=iX) (λi q=>q.1=(iB n (qs.drop (qs.length-i))).reverse/\q.2.1=hS (qs.drop (qs.length-i)))
  (λq=>[.val (.lst (qs.map Mi)),.deep (.ls q.1),.val (.int q.2.1),q.2.2]) (qs.map Mi).reverse 0 ([],0,.no) ⟨by rw[Pp,II];rfl,by rw[Pp,II];rfl⟩ (by
   rintro j ⟨rs,h,t3⟩ x ⟨hs1,hs2⟩ hx;rw[lH]at hs1 hs2⊢;dsimp only at hs1 hs2;have hjl:j<(qs.map Mi).reverse.length:=(bH.mp hx).1;rw[bR,aN]at hjl;rw[tX (by rw[aN];exact hjl),aN,bK,aP (show qs.length-1-j<qs.length by lia)]at hx;have UZ:x=Mi (qs[qs.length-1-j]'(by lia)):=(ck.inj hx).symm;have hd:qs.drop (qs.length-(j+1))=(qs[qs.length-1-j]'(by lia))::qs.drop (qs.length-j):=by rw[show qs.length-(j+1)=qs.length-1-j by lia,rh (by lia),show qs.length-1-j+1=qs.length-j by lia]
   have hqm:(qs[qs.length-1-j]'(by lia))∈qs:=Jp _;generalize (qs[qs.length-1-j]'(by lia))=q at UZ hd hqm;obtain⟨hh,r⟩:=q;subst UZ;have e1:=aaU hn h (hq _ hqm);have hlen:rs.length<=100:=(by rw[hs1,bR,CT,fG];lia);refine⟨(rs++[qV n h r],h+hh,.val (Mi (hh,r))),?_,?_,?_⟩
   ·unfold iX
    have a1:mO [D.int hh,.lst (bp r)] 1=aa (.lst (bp r)):=rfl;have a0:mO [D.int hh,.lst (bp r)] 0=aa (.int hh):=rfl;simp_all [pL,Mi,sM,sN,a1,a0,e1,IL];rw[QC (by lia)];dsimp [a0,R8]
   ·show rs++[qV n h r]=_
    rw[hd,hs1,hs2];show _=(qV n (hS (qs.drop (qs.length-j))) r::iB n (qs.drop (qs.length-j))).reverse;rw[jS]
   ·show h+hh=_
    rw[hd,hs2];show _=hh+hS (qs.drop (qs.length-j));lia)
 dsimp only at e hj1 hj2;rw[e];rw[lH,bR,aN,Ec,IG]at hj1;dsimp [sM,sN,U0,hj1,oQ]
theorem LQ(hn:n<=7):∀(rs:List Ap)(R:As),(∀r∈rs,bO n r)->zG n R->(∀o:Ap,o.length=n->GC o ((rs.foldl (λR r=>j0 n R (r,xN r)) R).map (·.1))=GC o (R.map (·.1)++rs))/\rM ((rs.foldl (λR r=>j0 n R (r,xN r)) R).map (·.1))=rM (R.map (·.1))+rM rs
 |[],R,_,_=>⟨λo _=>by rw[bg];rfl,by simp[rM]⟩
 |r::rs,R,hr,h=>by
  have iv:=kZ (hr r (by simp));obtain⟨a1,a2⟩:=aaq hn (sL n) (Wr n (by lia)) (c:=(r,xN r)) h.iv iv;obtain⟨b1,b2⟩:=LQ hn rs (j0 n R (r,xN r)) (λx hx=>hr x (by simp[hx])) (Nc hn (sL n) h iv);have e:rM (r::rs)=lN r+rM rs:=by unfold rM;rw[bq,rC]
  refine⟨λo ho=>?_,?_⟩
  ·show GC o ((rs.foldl (λR r=>j0 n R (r,xN r)) (j0 n R (r,xN r))).map (·.1))=_
   rw[b1 o ho,wD,a1 o ho,<-wD,aZ];rfl
  ·show rM ((rs.foldl (λR r=>j0 n R (r,xN r)) (j0 n R (r,xN r))).map (·.1))=_
   rw[b2,a2,e];show _+lN r+_=_;lia
def WT(qs:List (Int×Ap)):kW (bN 0) rZ r6 (xt 1 []) (qs.map Mi)=.ok (bp (qs.map (·.1))):=by
 rw[Cn (λd=>match d with
  |.tup (x::_)=>x
  |_=>.non) _ λx hx=>by obtain⟨q,hq,rfl⟩:=dQ.mp hx;exact⟨_,pL _ _ _,rfl,rfl⟩]
 unfold bp;rw[jV,jV];rfl
def WU(n:Nat):Iv n (iC n).1 (iC n).2:=by
 have c:∀p,p<n->ai (upTo n).reverse p=((n-1-p:Nat):Int):=λp hp=>by rw[ko (by rw[aI];exact hp),aI,aM (by lia)]
 have h:∀p,p<n->0<=ai (upTo n).reverse p/\ai (upTo n).reverse p<n/\ai (upTo n).reverse (ai (upTo n).reverse p).toNat=p:=λp hp=>by rw[c p hp,bu,c _ (by lia)];exact⟨by lia,by lia,by lia⟩
 exact⟨by show(upTo n).reverse.length=n;rw[bR,aI],by show(upTo n).reverse.length=n;rw[bR,aI],h,h⟩
def WV{o:Ap}(h:o.length=n):cmp o (upTo n).reverse=o.reverse:=by refine cH (by rw[kT,bR,bR,aI,h]) λt ht=>?_;rw[kT,bR,aI]at ht;rw[i6 (by rw[bR,aI];exact ht),ko (by rw[aI];exact ht),aI,aM (by lia),bu,ko (by rw[h];exact ht),h]
def LR(a b:Int)(o:Ap):tJ a (tJ b o)=tJ (a+b) o:=by
 unfold tJ
 by_cases c:a%2=0
 ·rw[if_pos c]
  by_cases d:b%2=0
  ·rw[if_pos d,if_pos (by lia)]
  ·rw[if_neg d,if_neg (by lia)]
 ·rw[if_neg c]
  by_cases d:b%2=0
  ·rw[if_pos d,if_neg (by lia)]
  ·rw[if_neg d,if_pos (by lia),oQ]
theorem Hv:∀(m:Nat)(o:Ap),o.length=n->GC o ((aO m (iC n)).map (·.1))=tJ m o
 |0,o,_=>rfl
 |m+1,o,h=>by rw[cA,bq];show GC (cmp o (upTo n).reverse) _=_;rw[WV h,Hv m _ (by rw[bR];exact h),show o.reverse=tJ 1 o from rfl,LR];congr 1
theorem Hw(hc:lN (upTo n).reverse=T2 n):∀m:Nat,(rM ((aO m (iC n)).map (·.1)):Int)=m*(T2 n:Int)
 |0=>by rw[show((0:Nat):Int)=0 from rfl,aaR];rfl
 |m+1=>by
  have e:∀(r:Ap)(R:List Ap),rM (r::R)=lN r+rM R:=λr R=>by unfold rM;rw[bq,rC]
  rw[cA,bq,e];show((lN (upTo n).reverse+rM _:Nat):Int)=_;rw[hc,QS,Hw hc m,QS,Ej];lia
def WW(hn:n<8):lN (upTo n).reverse=T2 n:=by have:=QM (sL n);rw[Wr n hn]at this;lia
structure FmS(n:Nat)(w:Ap)(h:Int)(R:As):Prop where
 ln:zG n R
 nh:∀x∈R,x≠iC n
 or:GC (tJ h (upTo n)) (R.map (·.1))=tj (w.map zH) (upTo n)
 cr:h*(T2 n:Int)+(rM (R.map (·.1)):Int)=CS w
 bd: -(w.length:Int)<=h/\h<=w.length
 le:R.length<=40
 ll:R.length<=w.length
theorem Dh.app:∀{A B:As},Dh (A++B)->Dh A
 |[],B,_=>trivial
 |[p],B,_=>trivial
 |q::p::A,B,h=>⟨h.1,Dh.app (A:=p::A) h.2⟩
def LS(r:Ap):RP:=(r,xN r)
def QT(h1:1<=n)(hn:n<=7)(hw:∀k∈w,cQ n k)(hl:w.length<=900)(hB:Blk n (gz [] w) 40):∃h R,fj [.int n,.lst (bp w)]=.ok (.tup [.int h,.lst (R.map λp=>.lst (bp p.1))])/\FmS n w h R/\∃(qs:List (Int×Ap))(mR:List Ap),(h,R)=Vl n (hS qs) ((iB n qs).map LS)/\(∀q∈qs,(q.1=0\/q.1= -1)/\bO n q.2)/\mR.flatten=gz [] w/\(∀p∈mR,Gp n p)/\F2 (StP n) mR qs:=by
 obtain⟨qs,e1,⟨e2,e0⟩,e3,e7,e8,mR,g1,g2,g3⟩:=WS hn hw hl hB;have hq2:∀q∈qs,bO n q.2:=λq hq=>(e3 q hq).2;have e4:=aaV hn hq2 (by lia);have e5:=CT n qs;have e6:=Hq qs hq2;have l0:zG n []:=⟨(λx hx=>nomatch hx),trivial,(λx hx=>nomatch hx)⟩
 have hL:zG n (lq n (iB n qs)):=Qe hn (sL n) (iB n qs) [] e6 l0;obtain⟨p1,p2⟩:=LQ hn (iB n qs) [] e6 l0;have hcl:=Bk n (iB n qs) [];rw[cD]at hcl;have aaA:(lq n (iB n qs)).length<=qs.length:=by show((iB n qs).foldl (λR r=>j0 n R (r,xN r)) []).length<=qs.length;lia
 have p1':∀o:Ap,o.length=n->GC o ((lq n (iB n qs)).map (·.1))=GC o (iB n qs):=p1;have p2':rM ((lq n (iB n qs)).map (·.1))=rM (iB n qs):=by have:rM ((lq n (iB n qs)).map (·.1))=0+rM (iB n qs):=p2;lia
 have hsb: -(qs.length:Int)<=hS qs/\hS qs<=0:=by
  clear e0 g3 e1 e4 e5 e6 hL p1 p2 hcl aaA p1' p2' e7 e8 e2 hq2
  induction qs with
  |nil=>exact⟨Jt _,Jt _⟩
  |cons q qs ih=>
   have:=ih λx hx=>e3 x (by simp[hx]);have:=(e3 q (by simp)).1;rw[show hS (q::qs)=q.1+hS qs from rfl,aR];lia
 have hV:zm n ((iB n qs).map LS)=lq n (iB n qs):=by unfold zm lq;rw[List.foldl_map];rfl
 generalize hR:lq n (iB n qs)=C at*;have hcn:iZ n C<=C.length:=List.Sublist.length_le (List.takeWhile_sublist _);have Gk:=Bm (n:=n) C;have hrest:=Sz (WU n) hL;refine⟨iZ n C+hS qs,C.drop (iZ n C),?_,⟨⟨λx hx=>hL.iv x (BK hx),?_,λx hx=>hL.ns x (BK hx)⟩,hrest,?_,?_,by lia,by rw[fG];lia,by rw[fG];lia⟩,qs,mR,(by unfold Vl;rw[hV,Int.add_comm]),e3,g1,g2,g3⟩
 ·unfold fj VY
  simp_all [e1];have e9:jH [.int n,.lst (qs.map Mi)]=R.ne (Ql [.val (.int n),.val (.lst (qs.map Mi)),.no,.no,.val (Dg n C)]>=>aA):=by show R.ne (R.bind (dm [.lst (qs.map Mi)]) _)=_;rw[e4,R.bX];refine congrArg R.ne ((if_pos ⟨⟨by lia,by lia⟩,by lia,e6⟩).trans ?_);rw[bu,hR]
  rw[e9];unfold Ql Dg;have a0:∀(x y:D),mO [x,y] 0=aa x:=λ_ _=>rfl;show '1';simp_all [a0,a1,uF,WT,R.Cu];rw[jw (by rw[aN];lia)];simp_all [Py,IL,AK]
 ·have:=hL.lw
  rw[Gk,Er]at this;exact this.app
 ·have h2:=p1' (tJ (hS qs) (upTo n)) (by rw[LM,aI])
  rw[Hr qs (upTo n) hq2 (aI n),e7 _ (aI n)]at h2;rw[<-h2]
  conv=>rhs;rw[Gk]
  rw[cF,wD,Hv _ _ (by rw[LM,aI]),LR]
 ·rw[Hs qs hq2]at p2'
  have h3:rM (C.map (·.1))=rM ((aO (iZ n C) (iC n)).map (·.1))+rM ((C.drop (iZ n C)).map (·.1)):=by
   conv=>lhs;rw[Gk]
   rw[cF,Bo]
  have h4:=Hw (WW (show n<8 by lia)) (iZ n C);rw[<-e8,<-p2',h3,QS,h4,Ej];lia
def act(n:Nat)(k:Int)(ω:Int×As):Int×As:=if 0<k then Pa n (Xr n (k-1).toNat) ω else Ma n (Xr n (-k-1).toNat) ω
def iD(n:Nat)(w:Ap)(ω:Int×As):Int×As:=w.foldl (λω k=>act n k ω) ω
def pB(n:Nat)(u v:Ap)(ω:Int×As):iD n (u++v) ω=iD n v (iD n u ω):=Bj
def aaW{o:Ap}{a b:Nat}(ha:a+1<o.length)(hb:b+1<o.length)(h:a+2<=b\/b+2<=a):fy (fy o a) b=fy (fy o b) a:=by
 refine cH (by rw[dR,dR,dR,dR]) λj _=>?_;simp_all only [dC _ a (show a+1<(fy o b).length by rw[dR];exact ha),dC _ b (show b+1<(fy o a).length by rw[dR];exact hb),dC _ a ha,dC _ b hb]
 repeat' split
 all_goals first|lia|(congr 1;lia)|rfl
def WX{o:Ap}{a:Nat}(h:a+2<o.length):fy (fy (fy o a) (a+1)) a=fy (fy (fy o (a+1)) a) (a+1):=by
 refine cH (by simp_all only [dR]) λj _=>?_;have l1:a+1<(fy (fy o a) (a+1)).length:=by simp_all only [dR];lia
 have l2:a+1+1<(fy o a).length:=by simp_all only [dR];lia
 have l3:a+1<o.length:=by lia
 have m1:a+1+1<(fy (fy o (a+1)) a).length:=by simp_all only [dR];lia
 have m2:a+1<(fy o (a+1)).length:=by simp_all only [dR];lia
 have m3:a+1+1<o.length:=by lia
 simp_all only [dC _ a l1,dC _ (a+1) l2,dC _ a l3,dC _ (a+1) m1,dC _ a m2,dC _ (a+1) m3]
 repeat' split
 all_goals first|lia|exact absurd trivial (by assumption)|(congr 1;lia)|rfl
section
variable{n:Nat}(hn:n<=7)(h2:2<=n)
include hn h2
theorem zo{k:Int}(hk:cQ n k)(h:0<k)(ω:Int×As):∃a:Nat,k=(a:Int)+1/\a+1<n/\act n k ω=Pa n (Xr n a) ω/\act n (-k) ω=Ma n (Xr n a) ω:=by unfold cQ at hk;refine⟨(k-1).toNat,by lia,by lia,if_pos h,?_⟩;unfold act;rw[if_neg (by lia),show- -k-1=k-1 by lia]
theorem NH{k:Int}(hk:cQ n k){ω:Int×As}(hc:Cv n ω):Cv n (act n k ω):=by
 unfold cQ at hk;unfold act;split
 ·exact LL hn h2 hc (fx (by lia))
 ·exact FJ hn h2 hc (fx (by lia))
theorem BL:∀(w:Ap){ω:Int×As},(∀k∈w,cQ n k)->Cv n ω->Cv n (iD n w ω)
 |[],_,_,hc=>hc
 |k::w,ω,h,hc=>BL w (ω:=act n k ω) (λx hx=>h x (by simp[hx])) (NH hn h2 (h k (by simp)) hc)
theorem QU{k:Int}(hk:cQ n k){ω:Int×As}(hc:Cv n ω):act n (-k) (act n k ω)=ω:=by
 have RY:=hk;unfold cQ at RY
 by_cases h:0<k
 ·obtain⟨a,e,ha,e1,_⟩:=zo hn h2 hk h ω
  obtain⟨b,e',_,_,e2⟩:=zo hn h2 hk h (act n k ω);obtain rfl:a=b:=by lia
  rw[e2,e1];exact FN hn h2 hc (fx ha)
 ·have hm:cQ n (-k):=by unfold cQ;lia
  obtain⟨a,e,ha,_,e1⟩:=zo hn h2 hm (by lia) ω;obtain⟨b,e',_,e2,_⟩:=zo hn h2 hm (by lia) (act n k ω);obtain rfl:a=b:=by lia
  rw[JF]at e1;rw[e2,e1];exact Ho hn h2 hc (fx ha)
end
def pC{n a t:Nat}(ha:a+1<n)(ht:t<n):ai (Xr n a).1 t=if t=a then(a:Int)+1 else if t=a+1 then(a:Int)else t:=by
 show ai (fy (upTo n) a) t=_;rw[dC _ _ (by rw[aI];exact ha),aM ha,aM (by lia),aM ht]
 repeat' split
 all_goals lia
section
variable{n:Nat}(hn:n<=7)(h2:2<=n)
include hn h2
theorem acu{a b:Nat}(ha:a+1<n)(hb:b+1<n)(h:a+2<=b\/b+2<=a){ω:Int×As}(hc:Cv n ω):Pa n (Xr n a) (Pa n (Xr n b) ω)=Pa n (Xr n b) (Pa n (Xr n a) ω):=by rw[An hn h2 hc (fx hb) ha (by rw[pC hb (by lia),pC hb ha];(repeat' split)<;>lia),An hn h2 hc (fx ha) hb (by rw[pC ha (by lia),pC ha hb];(repeat' split)<;>lia)];congr 1;exact qT (dX (fx hb) ha) (dX (fx ha) hb) (aaW (o:=upTo n) (by rw[aI];exact hb) (by rw[aI];exact ha) (by lia))
theorem WY{a:Nat}(ha:a+2<n){ω:Int×As}(hc:Cv n ω):Pa n (Xr n a) (Pa n (Xr n (a+1)) (Pa n (Xr n a) ω))=Pa n (Xr n (a+1)) (Pa n (Xr n a) (Pa n (Xr n (a+1)) ω)):=by
 have h1:a+1<n:=by lia
 have h3:a+1+1<n:=by lia
 have c1:∀t,t<n->ai (wB (Xr n a) (a+1)).1 t=if t=a+1 then ai (Xr n a).1 (a+1+1)else if t=a+1+1 then ai (Xr n a).1 (a+1)else ai (Xr n a).1 t:=λt ht=>dC _ _ (by rw[(fx h1).lr];exact h3) t;have c2:∀t,t<n->ai (wB (Xr n (a+1)) a).1 t=if t=a then ai (Xr n (a+1)).1 (a+1)else if t=a+1 then ai (Xr n (a+1)).1 a else ai (Xr n (a+1)).1 t:=λt ht=>dC _ _ (by rw[(fx h3).lr];exact h1) t;rw[An hn h2 hc (fx h1) h3 (by rw[pC h1 h1,pC h1 h3];(repeat' split)<;>lia),
  An hn h2 hc (dX (fx h1) h3) h1 (by rw[c1 a (by lia),c1 (a+1) h1,pC h1 h1,pC h1 h3,pC h1 (by lia)];(repeat' split)<;>lia),
  An hn h2 hc (fx h3) h1 (by rw[pC h3 (by lia),pC h3 h1];(repeat' split)<;>lia),
  An hn h2 hc (dX (fx h3) h1) h3 (by rw[c2 (a+1) h1,c2 (a+1+1) h3,pC h3 h1,pC h3 h3,pC h3 (by lia)];(repeat' split)<;>lia)]
 congr 1;exact qT (dX (dX (fx h1) h3) h1) (dX (dX (fx h3) h1) h3) (WX (o:=upTo n) (by rw[aI];exact ha))
theorem NI{a b:Nat}(ha:a+1<n)(hb:b+1<n)(h:a+2<=b\/b+2<=a){ω:Int×As}(hc:Cv n ω):Pa n (Xr n a) (Ma n (Xr n b) ω)=Ma n (Xr n b) (Pa n (Xr n a) ω):=by
 have c1:=FJ hn h2 hc (fx hb);have e:ω=Pa n (Xr n b) (Ma n (Xr n b) ω):=(Ho hn h2 hc (fx hb)).symm
 conv=>rhs;rw[e]
 rw[acu hn h2 ha hb h c1,FN hn h2 (LL hn h2 c1 (fx ha)) (fx hb)]
theorem aiB{a b:Nat}(ha:a+1<n)(hb:b+1<n)(h:a+2<=b\/b+2<=a){ω:Int×As}(hc:Cv n ω):Ma n (Xr n a) (Ma n (Xr n b) ω)=Ma n (Xr n b) (Ma n (Xr n a) ω):=by
 have ca:=FJ hn h2 hc (fx ha);have cab:=FJ hn h2 ca (fx hb);have e:ω=Pa n (Xr n a) (Ma n (Xr n a) ω):=(Ho hn h2 hc (fx ha)).symm
 conv=>lhs;rw[e]
 rw[<-NI hn h2 ha hb h ca,FN hn h2 cab (fx ha)]
theorem afA{a:Nat}(ha:a+2<n){ω:Int×As}(hc:Cv n ω):Ma n (Xr n a) (Ma n (Xr n (a+1)) (Ma n (Xr n a) ω))=Ma n (Xr n (a+1)) (Ma n (Xr n a) (Ma n (Xr n (a+1)) ω)):=by
 have h1:a+1<n:=by lia
 have h3:a+1+1<n:=by lia
 have x1:=fx h1;have x3:=fx h3;have c1:=FJ hn h2 hc x3;have c2:=FJ hn h2 c1 x1;have c3:=FJ hn h2 c2 x3;have e:ω=Pa n (Xr n (a+1)) (Pa n (Xr n a) (Pa n (Xr n (a+1)) (Ma n (Xr n (a+1)) (Ma n (Xr n a) (Ma n (Xr n (a+1)) ω))))):=by rw[Ho hn h2 c2 x3,Ho hn h2 c1 x1,Ho hn h2 hc x3]
 generalize Ma n (Xr n (a+1)) (Ma n (Xr n a) (Ma n (Xr n (a+1)) ω))=z at e c3⊢;rw[e,<-WY hn h2 ha c3,FN hn h2 (LL hn h2 (LL hn h2 c3 x1) x3) x1,FN hn h2 (LL hn h2 c3 x1) x3,FN hn h2 c3 x1]
end
def Lk(n:Nat)(u v:Ap):Prop:=∀ω,Cv n ω->iD n u ω=iD n v ω
theorem Lk.symm {u v:Ap}(h:Lk n u v):Lk n v u:=λω hc=>(h ω hc).symm
def Lk.refl (n:Nat)(u:Ap):Lk n u u:=λ_ _=>rfl
theorem Lk.trans {u v w:Ap}(h:Lk n u v)(g:Lk n v w):Lk n u w:=λω hc=>(h ω hc).trans (g ω hc)
section
variable{n:Nat}(hn:n<=7)(h2:2<=n)
include hn h2
theorem Lk.mid {u v:Ap}(h:Lk n u v){a b:Ap}(ha:∀k∈a,cQ n k):Lk n (a++u++b) (a++v++b):=λω hc=>by rw[pB,pB,pB,pB,h _ (BL hn h2 a ha hc)]
theorem WZ{k:Int}(hk:cQ n k):Lk n [k,-k] []:=λω hc=>QU hn h2 hk hc
theorem afB{k l:Int}(hk:cQ n k)(hl:cQ n l)(h:k.natAbs+2<=l.natAbs\/l.natAbs+2<=k.natAbs):Lk n [k,l] [l,k]:=λω hc=>by
 show act n l (act n k ω)=act n k (act n l ω);have RY:=hk;have UT:=hl;unfold cQ at RY UT;have pk:0<k->∀ω,act n k ω=Pa n (Xr n (k-1).toNat) ω:=λa _=>if_pos a;have mk:¬0<k->∀ω,act n k ω=Ma n (Xr n (-k-1).toNat) ω:=λa _=>if_neg a;have pl:0<l->∀ω,act n l ω=Pa n (Xr n (l-1).toNat) ω:=λa _=>if_pos a;have ml:¬0<l->∀ω,act n l ω=Ma n (Xr n (-l-1).toNat) ω:=λa _=>if_neg a
 by_cases a:0<k
 ·by_cases b:0<l
  ·simp_all only [pk a,pl b]
   exact acu (a:=(l-1).toNat) (b:=(k-1).toNat) hn h2 (by lia) (by lia) (by lia) hc
  ·simp_all only [pk a,ml b]
   exact(NI (a:=(k-1).toNat) (b:=(-l-1).toNat) hn h2 (by lia) (by lia) (by lia) hc).symm
 ·by_cases b:0<l
  ·simp_all only [mk a,pl b]
   exact NI (a:=(l-1).toNat) (b:=(-k-1).toNat) hn h2 (by lia) (by lia) (by lia) hc
  ·simp_all only [mk a,ml b]
   exact aiB (a:=(-l-1).toNat) (b:=(-k-1).toNat) hn h2 (by lia) (by lia) (by lia) hc
theorem LU{k l:Int}{a:Nat}(ha:k.natAbs=a+1)(hb:l.natAbs=a+2)(h3:a+2<n)(hs:(0<k)=(0<l)):Lk n [k,l,k] [l,k,l]:=λω hc=>by
 show act n k (act n l (act n k ω))=act n l (act n k (act n l ω));have pk:0<k->∀ω,act n k ω=Pa n (Xr n a) ω:=λc _=>by unfold act;rw[if_pos c,show(k-1).toNat=a by lia]
 have mk:¬0<k->∀ω,act n k ω=Ma n (Xr n a) ω:=λc _=>by unfold act;rw[if_neg c,show(-k-1).toNat=a by lia]
 have pl:0<l->∀ω,act n l ω=Pa n (Xr n (a+1)) ω:=λc _=>by unfold act;rw[if_pos c,show(l-1).toNat=a+1 by lia]
 have ml:¬0<l->∀ω,act n l ω=Ma n (Xr n (a+1)) ω:=λc _=>by unfold act;rw[if_neg c,show(-l-1).toNat=a+1 by lia]
 by_cases c:0<k
 ·have d:0<l:=hs▸c
  simp_all only [pk c,pl d];exact WY hn h2 h3 hc
 ·have d:¬0<l:=hs▸c
  simp_all only [mk c,ml d];exact afA hn h2 h3 hc
end
def wU(h:bO n r):Iv n (LS r).1 (LS r).2:=kZ h
def wV:Cv n ((0:Int),[]):=⟨λx hx=>(nomatch hx),rfl⟩
section
variable{n:Nat}(hn:n<=7)(h2:2<=n)
include hn h2
theorem W0{ω:Int×As}(hc:Cv n ω):Pa n (Zr n) ω=ω:=by have:=Nz (A:=ω.2) (B:=[]) hn ω.1 hc.iv (λx hx=>nomatch hx);rw[bg]at this;exact this.trans hc.id
theorem FP{ω:Int×As}(hc:Cv n ω):∀(w:Ap)(c:RP)(z:Ap),Ps n w->Iv n c.1 c.2->fR w c.1=aa z->iD n w (Pa n c ω)=Pa n (LS z) ω/\bO n z
 |[],c,z,_,ic,h=>by obtain rfl:c.1=z:=ck.inj h;have hr:=gR ic;refine⟨?_,hr⟩;show Pa n c ω=_;rw[qT ic (wU hr) rfl];rfl
 |k::w,c,z,hw,ic,h=>by
  obtain⟨a,rfl,ha⟩:=hw k (by simp);unfold fR at h;split at h
  ·cases h
  ·rename_i hc2
   rw[show((a:Int)+1-1).toNat=a by lia,show((a:Int)+1).toNat=a+1 by lia]at hc2;rw[show((a:Int)+1-1).toNat=a by lia]at h;have hne:=acj ic ha;have hlt:ai c.1 a<ai c.1 (a+1):=by have:¬ai c.1 (a+1)<ai c.1 a:=λz=>hc2 (.inr z);lia
   have ih:=FP hc w (wB c a) z (λx hx=>hw x (by simp[hx])) (dX ic ha) h;refine⟨?_,ih.2⟩;show iD n w (act n ((a:Int)+1) (Pa n c ω))=_;have e:act n ((a:Int)+1) (Pa n c ω)=Pa n (wB c a) ω:=by unfold act;rw[if_pos (by lia),show((a:Int)+1-1).toNat=a by lia];exact An hn h2 hc ic ha hlt
   rw[e];exact ih.1
theorem LV:∀(p:Ap){ω:Int×As},(∀k∈p,cQ n k)->Cv n ω->iD n (p.reverse.map λk=> -k) (iD n p ω)=ω
 |[],_,_,_=>rfl
 |k::p,ω,h,hc=>by have hk:=h k (by simp);rw[jS,cF,pB];show act n (-k) (iD n (p.reverse.map λk=> -k) (iD n p (act n k ω)))=ω;rw[LV p (λx hx=>h x (by simp[hx])) (NH hn h2 hk hc)];exact QU hn h2 hk hc
end
def kq(n:Nat)(g:Int)(L:As):As:=if g%2=0 then L else L.map (mj n)
def NJ(n:Nat)(q:Int×Ap)(ω:Int×As):Int×As:=Vl n (ω.1+q.1) (kq n q.1 ω.2++[LS q.2])
section
variable{n:Nat}(hn:n<=7)(h2:2<=n)
include hn h2
theorem SS{p:Ap}{q:Int×Ap}(g:Gp n p)(s:StP n p q){ω:Int×As}(hc:Cv n ω):NJ n q ω=iD n p ω:=by
 rcases s.a with⟨e,hs,hz⟩|⟨e,hs,z,hz,iv,e2⟩
 ·have hp:Ps n p:=λk hk=>by
   have h1:=g.x k hk;have h2:=hs k hk;unfold cQ at h1;exact⟨(k-1).toNat,by lia,by lia⟩
  have h:=FP hn h2 hc p (Zr n) q.2 hp (gf n) hz;rw[W0 hn h2 hc]at h;rw[h.1];unfold NJ kq Pa;rw[e,if_pos (by decide),qz]
 ·have hx:∀k∈p.reverse.map (λk=> -k),cQ n k:=λk hk=>by
   obtain⟨x,hx,rfl⟩:=dQ.mp hk;have:=g.x x (by simpa using hx);unfold cQ at*;lia
  have hp:Ps n (p.reverse.map λk=> -k):=λk hk=>by have h1:=hx k hk;obtain⟨x,hx,rfl⟩:=dQ.mp hk;have h2:=hs x (by simpa using hx);unfold cQ at h1;exact⟨(-x-1).toNat,by lia,by lia⟩
  have c1:=BL hn h2 p g.x hc;have h:=FP hn h2 c1 (p.reverse.map λk=> -k) (Zr n) z hp (gf n) hz;rw[W0 hn h2 c1,LV hn h2 p g.x hc]at h;have iz:=wU h.2;have e3:iD n p ω=Ma n (LS z) ω:=by have:=FN hn h2 c1 iz;rw[<-h.1]at this;exact this.symm
  rw[e3];have ez:LS z=(z,tj (p.map zH) (upTo n)):=qT iz iv rfl;have e4:LS q.2=GD n (LS z):=by rw[ez,e2];have ic:=sO (r:=(z,tj (p.map zH) (upTo n))) iv;exact qT (wU (gR ic)) ic rfl
  unfold NJ kq Ma;rw[e,e4,if_neg (by decide)]
theorem FQ:∀{ps:List Ap}{qs:List (Int×Ap)}{ω:Int×As},F2 (StP n) ps qs->(∀p∈ps,Gp n p)->Cv n ω->qs.foldl (λω q=>NJ n q ω) ω=iD n ps.flatten ω
 |_,_,_,.nil,_,_=>rfl
 |p::ps,q::qs,ω,.cons s f,h,hc=>by have g:=h p (by simp);rw[D0,dM,pB,SS hn h2 g s hc];exact FQ f (λx hx=>h x (by simp[hx])) (BL hn h2 p g.x hc)
theorem EA{g:Int}(h:b8 n L):b8 n (kq n g L):=by
 unfold kq;split
 ·exact h
 ·exact h.mj
theorem aaX{q:Int×Ap}(hq:q.1=0\/q.1= -1)(hr:bO n q.2)(h:Int)(hI:b8 n L):Vl n (h+q.1) (kq n q.1 L++[LS q.2])=NJ n q (Vl n h L):=by
 unfold NJ kq;rcases hq with e|e
 ·rw[e,if_pos (by decide),if_pos (by decide),qz,qz]
  exact Wz hn h2 h hI (.one (wU hr))
 ·rw[e,if_neg (by decide),if_neg (by decide)]
  exact WB hn h2 h hI (.one (wU hr)) (-1)
theorem SV{q g:Int}(hI:b8 n L)(hr:bO n r):kq n g (kq n q L++[LS r])=kq n (q+g) L++[LS (qV n g r)]:=by
 unfold kq qV;have hf:(L.map (mj n)).map (mj n)=L:=by
  rw[jV]
  conv=>rhs;rw[<-JC L]
  exact y6 λx hx=>JA (hI x hx)
 have e:mj n (LS r)=LS (fl n r.reverse):=qT (CQ (wU hr)) (wU (gR (CQ (wU hr)))) rfl
 by_cases a:g%2=0
 ·rw[if_pos a,if_pos a]
  by_cases b:q%2=0
  ·rw[if_pos b,if_pos (by lia)]
  ·rw[if_neg b,if_neg (by lia)]
 ·rw[if_neg a,if_neg a,cF]
  by_cases b:q%2=0
  ·rw[if_pos b,if_neg (by lia),aaY,e]
  ·rw[if_neg b,if_pos (by lia),hf,aaY,e]
theorem LW:∀(qs:List (Int×Ap))(h:Int)(L:As),b8 n L->(∀q∈qs,(q.1=0\/q.1= -1)/\bO n q.2)->Vl n (h+hS qs) (kq n (hS qs) L++(iB n qs).map LS)=qs.foldl (λω q=>NJ n q ω) (Vl n h L)
 |[],h,L,_,_=>by show Vl n (h+0) (kq n 0 L++[])=_;rw[qz,bg];rfl
 |q::qs,h,L,hI,hq=>by obtain⟨q1,q2⟩:=hq q (by simp);have ih:=LW qs (h+q.1) (kq n q.1 L++[LS q.2]) ((EA hn h2 hI).app (.one (wU q2))) λx hx=>hq x (by simp[hx]);rw[D0,<-aaX hn h2 q1 q2 h hI,<-ih,SV hn h2 hI q2,aZ,show hS (q::qs)=q.1+hS qs from rfl,QV];rfl
theorem aaZ{k:Int}(hk:cQ n k){s:Ap}(hs:∀x∈s,cQ n x):Lk n (jb s k) (s++[k]):=by
 unfold jb;split
 ·rename_i hl
  have hne:s≠[]:=λz=>by rw[z]at hl;cases hl
  have Gk:s.dropLast++[-k]=s:=by have:=Jg hne;rw[Qk hne]at hl;rw[ck.inj hl]at this;exact this
  have hm:cQ n (-k):=by unfold cQ at*;lia
  have h:=Lk.mid hn h2 (WZ hn h2 hm) (a:=s.dropLast) (b:=[]) λx hx=>hs x ((aa0 s).subset hx);rw[JF,bg,bg,bg]at h;have e:s++[k]=s.dropLast++[-k,k]:=by
   conv=>lhs;rw[<-Gk]
   simp
  rw[e];exact h.symm
 ·exact .refl n _
theorem QW:∀(w s:Ap),(∀k∈w,cQ n k)->(∀x∈s,cQ n x)->Lk n (gz s w) (s++w)
 |[],s,_,_=>by rw[bg];exact .refl n _
 |k::w,s,h,hs=>by
  have hk:=h k (by simp);have hp:∀x∈jb s k,cQ n x:=λx hx=>by
   unfold jb at hx;split at hx
   ·exact hs x ((aa0 s).subset hx)
   ·rcases cu.mp hx with hx|hx
    ·exact hs x hx
    ·rw[dN.mp hx];exact hk
  refine(QW w (jb s k) (λx hx=>h x (by simp[hx])) hp).trans λω hc=>?_;rw[pB,aaZ hn h2 hk hs ω hc,<-pB,aZ];rfl
theorem Hz(hw:∀k∈w,cQ n k)(hl:w.length<=900)(hB:Blk n (gz [] w) 40):fj [.int n,.lst (bp w)]=.ok (.tup [.int (iD n w (0,[])).1,.lst ((iD n w (0,[])).2.map λp=>.lst (bp p.1))])/\FmS n w (iD n w (0,[])).1 (iD n w (0,[])).2:=by
 obtain⟨h,R,e,F,qs,mR,e1,e2,e3,e4,e5⟩:=QT (n:=n) (by lia) hn hw hl hB;have r:=LW hn h2 qs 0 [] (λx hx=>nomatch hx) e2;have ez:kq n (hS qs) []=[]:=by unfold kq;split<;>rfl
 rw[ez,dh,Int.zero_add,<-e1]at r;have c0:Vl n 0 []=((0:Int),[]):=wV.id;rw[c0,FQ hn h2 e5 e4 wV,e3,QW hn h2 w [] hw (λx hx=>nomatch hx) _ wV,dh]at r;rw[<-r];exact⟨e,F⟩
theorem SW(hw:∀k∈w,cQ n k)(hl:w.length<=40):fj [.int n,.lst (bp w)]=.ok (.tup [.int (iD n w (0,[])).1,.lst ((iD n w (0,[])).2.map λp=>.lst (bp p.1))])/\FmS n w (iD n w (0,[])).1 (iD n w (0,[])).2:=by
 have htl:=BH w [];rw[cD]at htl;have hx:∀k∈gz [] w,cQ n k:=λk hk=>by
  rcases FI w [] k hk with h|h
  ·cases h
  ·exact hw k h
 obtain⟨bs,b1,b2,b3⟩:=SR hx;exact Hz hn h2 hw (by lia) ⟨bs,b1,by lia,b3⟩
end
def CU(n:Nat)(ω τ:Int×As):Int×As:=Vl n (ω.1+τ.1) (kq n τ.1 ω.2++τ.2)
def W2(h:b8 n L):(L.map (mj n)).map (mj n)=L:=by
 rw[jV]
 conv=>rhs;rw[<-JC L]
 exact y6 λp hp=>JA (h p hp)
def FT(h:b8 n L)(a b:Int):kq n b (kq n a L)=kq n (a+b) L:=by
 unfold kq
 by_cases c:a%2=0
 ·by_cases d:b%2=0
  ·rw[if_pos c,if_pos d,if_pos (by lia)]
  ·rw[if_pos c,if_neg d,if_neg (by lia)]
 ·by_cases d:b%2=0
  ·rw[if_neg c,if_pos d,if_neg (by lia)]
  ·rw[if_neg c,if_neg d,if_pos (by lia),W2 h]
def W3(h:b8 n L)(a:Int):(kq n a L).map (mj n)=kq n (a+ -1) L:=by
 have:=FT h a (-1);rw[<-this]
 conv=>rhs;unfold kq
 rw[if_neg (by decide)];rfl
theorem HA(L:As):kq n 0 L=L:=rfl
section
variable{n:Nat}(hn:n<=7)(h2:2<=n)
include hn h2
theorem QX:∀(m:Nat)(a:Int){L B:As},b8 n L->b8 n B->Vl n a (L++(aO m (iC n)++B))=Vl n (a+m) (kq n m L++B)
 |0,a,L,B,_,_=>by rw[eB,dh,QD,qz,HA]
 |m+1,a,L,B,hL,hB=>by
  have hr:b8 n (aO m (iC n)++B):=(b8.rep (uO n) m).app hB;have s:=(JB hn L hL).XO (aO m (iC n)++B);rw[cA,show L++(iC n::aO m (iC n)++B)=(L++[iC n])++(aO m (iC n)++B)by simp,
   CP hn a ((hL.app (.one (uO n))).app hr) s,cB,Jy hn h2 a (hL.mj.app hr),QX m (a+1) hL.mj hB]
  have e:kq n m (L.map (mj n))=kq n ((m+1:Nat):Int) L:=by have:=FT hL 1 m;rw[show kq n 1 L=L.map (mj n)from if_neg (by decide)]at this;rw[this];congr 1;lia
  rw[e];congr 1;lia
theorem W4{ω:Int×As}(hω:b8 n ω.2)(h:Int){R:As}(hR:b8 n R):CU n ω (Vl n h R)=Vl n (ω.1+h) (kq n h ω.2++R):=by obtain⟨m,k,e1,e2,e3⟩:=Wy hn h hR;have hp:b8 n (kq n h ω.2):=EA hn h2 hω;have hz:b8 n (aO k (Zr n)):=b8.rep (gf n) k;rw[CP hn (ω.1+h) (hp.app hR) (e3.app (kq n h ω.2)),QX hn h2 m (ω.1+h) hp (e2.app hz),FT hω];unfold CU;rw[e1,<-QV];have hq:b8 n (kq n (h+m) ω.2):=EA hn h2 hω;have:=Jz hn (ω.1+h+m) (A:=kq n (h+m) ω.2++(Vl n h R).2) (B:=[]) (hq.app e2) (λx hx=>nomatch hx) k;rw[bg,bg,aZ]at this;exact this.symm
theorem mul_one{ω:Int×As}(hc:Cv n ω):CU n ω (0,[])=ω:=by unfold CU;rw[HA,bg,qz];exact hc.id
theorem aa1{ω τ:Int×As}(hω:Cv n ω)(hτ:Cv n τ){k:Int}(hk:cQ n k):act n k (CU n ω τ)=CU n ω (act n k τ):=by
 have RY:=hk;unfold cQ at RY;have hp:b8 n (kq n τ.1 ω.2):=EA hn h2 hω.iv;unfold act;split
 ·have ic:Iv n (Xr n (k-1).toNat).1 (Xr n (k-1).toNat).2:=fx (by lia)
  conv=>lhs;unfold CU
  rw[<-WG hn h2 _ (hp.app hτ.iv) ic,aZ,<-W4 hn h2 hω.iv τ.1 (hτ.iv.app (.one ic))];rfl
 ·have ic:Iv n (Xr n (-k-1).toNat).1 (Xr n (-k-1).toNat).2:=fx (by lia)
  conv=>lhs;unfold CU
  rw[<-acq hn h2 _ (hp.app hτ.iv) ic,cF,W3 hω.iv,aZ,QV,<-W4 hn h2 hω.iv (τ.1+ -1) (hτ.iv.mj.app (.one (sO ic)))];rfl
theorem LX:∀(u:Ap){ω τ:Int×As},Cv n ω->Cv n τ->(∀k∈u,cQ n k)->iD n u (CU n ω τ)=CU n ω (iD n u τ)
 |[],_,_,_,_,_=>rfl
 |k::u,ω,τ,hω,hτ,hu=>by have hk:=hu k (by simp);show iD n u (act n k (CU n ω τ))=CU n ω (iD n u (act n k τ));rw[aa1 hn h2 hω hτ hk];exact LX u hω (NH hn h2 hk hτ) λx hx=>hu x (by simp[hx])
theorem LY{u:Ap}(hu:∀k∈u,cQ n k){ω:Int×As}(hω:Cv n ω):iD n u ω=CU n ω (iD n u (0,[])):=by rw[<-LX hn h2 u hω wV hu,mul_one hn h2 hω]
theorem aiC{u v:Ap}(hu:∀k∈u,cQ n k)(hv:∀k∈v,cQ n k)(e:iD n u (0,[])=iD n v (0,[])):Lk n u v:=λω hc=>by rw[LY hn h2 hu hc,LY hn h2 hv hc,e]
theorem FU{u:Ap}(hu:∀k∈u,cQ n k):∀k∈u.reverse.map (λk=> -k),cQ n k:=λk hk=>by obtain⟨x,hx,rfl⟩:=dQ.mp hk;have:=hu x (by simpa using hx);unfold cQ at*;lia
end
def Iv.ws {r s:Ap}(h:Iv n r s)(hn:n<=7):0<=wsum 0 s/\wsum 0 s<=343:=by
 have:=Lb s 0 (λj hj=>by rw[h.ls]at hj;have:=h.sr j hj;lia) (by rw[h.ls];lia)
 rw[h.ls]at this;lia
def aa2(w:Ap)(k:Int):bp w++[D.int k]=bp (w++[k]):=kL w [k]
def QY(k:Int)(t:Ap):mO (bp (k::t)) 0=aa (.int k):=by rw[jX (by decide) (by rw[aR];lia)];rfl
def QZ{r s:Ap}(h:Iv n r s)(hd:Ak s=[]):r=upTo n:=PV h λa ha hlt=>by have:=ug.mpr ⟨a,rfl,by rw[h.ls];exact ha,hlt⟩;rw[hd]at this;cases this
theorem rw_loop(hn:n<=7)(s0:Sl):∀(fuel:Nat)(r s w0:Ap),Iv n r s->343-wsum 0 s<fuel->w0.length+fuel<=1000->∃w s2 s3,uD qk ql fuel [s0,.own (bp w0),.val (.lst (bp r)),.val (.lst (bp (Ak s)))]=.ok (.nx [s0,.own (bp (w0++w)),s2,s3])/\Wk n true w r s/\w.length<=fuel
 |0,r,s,w0,h,hf,_=>by have:=(h.ws hn).2;lia
 |fuel+1,r,s,w0,h,hf,hl=>by
  unfold uD;have ec:qk [s0,.own (bp w0),.val (.lst (bp r)),.val (.lst (bp (Ak s)))]=.ok (decide (0<((Ak s).length:Int))):=by unfold qk;simp_all [cK]
  rw[ec,R.bX];cases hd:Ak s with
  |nil=>
   refine⟨[],.val (.lst (bp r)),.val (.lst (bp [])),?_,QZ h hd,iJ _⟩;rw[bg];rfl
  |cons k t=>
   obtain⟨a,rfl,h1,h2,h3⟩:=Lc hd;rw[h.ls]at h1;obtain⟨w,s2,s3,e,hw,hlw⟩:=rw_loop hn s0 fuel (vh r a) (fy s a) (w0++[(a:Int)+1]) (h.step h1) (by rw[Fe _ _ _ (by rw[h.ls];exact h1)];lia) (by rw[br,aR,cD];lia);refine⟨((a:Int)+1)::w,s2,s3,?_,⟨a,rfl,h1,h2,λ_=>h3,hw⟩,by rw[aR];lia⟩;have eb:ql [s0,.own (bp w0),.val (.lst (bp r)),.val (.lst (bp (((a:Int)+1)::t)))]=.ok (.nx [s0,.own (bp (w0++[(a:Int)+1])),.val (.lst (bp (vh r a))),.val (.lst (bp (Ak (fy s a))))]):=by unfold ql;simp_all [QY];rw[IS (by rw[cK];lia),aa2];simp_all [QY];rw[Li h hn h1];simp_all;rw[Cy (h.step h1) hn];simp_all
   rw[if_pos (by rw[aR];exact decide_eq_true (by lia)),eb,R.bX];rw[aZ]at e;exact e
def aa3{r s:Ap}(h:Iv n r s)(hn:n<=7):∃w,l9 [.lst (bp r)]=.ok (bp w)/\Wk n true w r s/\w.length<=400:=by unfold l9 Fb;simp_all;rw[Cy h hn];dsimp;have:=(h.ws hn).1;obtain⟨w,s2,s3,e,hw,hl⟩:=rw_loop hn (.val (.lst (bp r))) 400 r s [] h (by lia) (by decide);rw[ZG,e];refine⟨w,?_,hw,hl⟩;dsimp [jE]
theorem Q0{b:Bool}{z:Ap}:∀{w r s o:Ap},Wk n b w r s->Iv n r s->Od n o r z->fR w o=aa z
 |[],r,s,o,hw,h,d=>by have hr:r=upTo n:=hw;subst hr;rw[d.done];rfl
 |k::w,r,s,o,hw,h,d=>by obtain⟨a,rfl,h1,h2,_,hw⟩:=hw;rw[kR (n:=n),if_neg (Od.up h d h1 h2)];exact Q0 hw (h.step h1) (d.step h h1 h2)
theorem W5{b:Bool}:∀{w r s:Ap},Wk n b w r s->Ps n w
 |[],_,_,_=>λk hk=>(nomatch hk)
 |k::w,r,s,h=>λx hx=>by
  obtain⟨a,e,h1,_,_,hw⟩:=h;rcases aX.mp hx with rfl|hx
  ·exact⟨a,e,h1⟩
  ·exact W5 hw x hx
theorem W6:∀{w v r s:Ap},Iv n r s->Wk n true w r s->Wk n true v r s->w=v
 |[],[],_,_,_,_,_=>rfl
 |[],k::v,r,s,h,h1,h2=>by obtain⟨a,rfl,b1,b2,_⟩:=h2;have e:r=upTo n:=h1;subst e;have:=h.symm.uniq (sL n).symm;rw[this,aM (by lia),aM (by lia)]at b2;lia
 |k::w,[],r,s,h,h1,h2=>by obtain⟨a,rfl,b1,b2,_⟩:=h1;have e:r=upTo n:=h2;subst e;have:=h.symm.uniq (sL n).symm;rw[this,aM (by lia),aM (by lia)]at b2;lia
 |k::w,l::v,r,s,h,h1,h2=>by
  obtain⟨a,rfl,a1,a2,a3,a4⟩:=h1;obtain⟨b,rfl,b1,b2,b3,b4⟩:=h2;have:a=b:=by
   rcases Nat.lt_trichotomy a b with z|z|z
   ·have:=b3 rfl a z;lia
   ·exact z
   ·have:=a3 rfl b z;lia
  subst this;rw[W6 (h.step a1) a4 b4]
open Classical in
def j3(n:Nat)(r:Ap):Ap:=if h:∃w,Wk n true w r (xN r)then h.choose else[]
def W7{r w:Ap}(h:bO n r)(hw:Wk n true w r (xN r)):j3 n r=w:=by
 have hx:∃w,Wk n true w r (xN r):=⟨w,hw⟩
 unfold j3;rw[dif_pos hx];exact W6 (kZ h) hx.choose_spec hw
def Q1(hn:n<=7)(h:bO n r):l9 [.lst (bp r)]=.ok (bp (j3 n r))/\Wk n true (j3 n r) r (xN r):=by obtain⟨w,e,hw,_⟩:=aa3 (kZ h) hn;rw[W7 h hw];exact⟨e,hw⟩
def aiD(h:bO n r):Od n (upTo n) r r:=⟨aI n,h.len,λp hp=>by have:=(kZ h).rs p hp;rw[aM (by lia)];lia,λ_ _ _ _ z=>z⟩
def aa4(hn:n<=7)(h:bO n r):fR (j3 n r) (upTo n)=aa r:=Q0 (Q1 hn h).2 (kZ h) (aiD h)
def LZ(hn:n<=7)(h:bO n r):Ps n (j3 n r):=W5 (Q1 hn h).2
def aiE(hn:n<=7):T2 n<=21:=by
 have hc:n=0\/n=1\/n=2\/n=3\/n=4\/n=5\/n=6\/n=7:=by lia
 rcases hc with rfl|rfl|rfl|rfl|rfl|rfl|rfl|rfl<;>decide
def JG(hn:n<=7)(h:bO n r):(j3 n r).length<=21:=by have h1:=(vA _ _ _ _ (LZ hn h) (sL n) (aa4 hn h)).2;have h2:=ND (kZ h).symm;have h3:=aiE hn;rw[Wr n (by lia)]at h1;lia
def aa5(h:Ps n w):∀k∈w,cQ n k/\0<k:=λk hk=>by obtain⟨a,rfl,ha⟩:=h k hk;unfold cQ;lia
def jM(w:Ap):Ap:=w.reverse.map λk=> -k
section
variable{n:Nat}(hn:n<=7)(h2:2<=n)
include hn h2
end
def vG(n:Nat)(h:Int):List Ap:=if h<0 then aO (-h).toNat (jM (j3 n (upTo n).reverse))else aO h.toNat (j3 n (upTo n).reverse)
def z4(n:Nat)(h:Int)(rs:List Ap):Ap:=(vG n h).flatten++(rs.map (j3 n)).flatten
theorem Q2:∀(bs:List Ap)(x y:Ap),bs.flatten=x++y->Bl n bs->∃cs:List Ap,cs.length<=bs.length/\cs.flatten=x/\Bl n cs
 |[],x,y,e,_=>⟨[],aY _,by rw[Bc]at e;rw[(BJ.mp e.symm).1];rfl,λb hb=>(nomatch hb)⟩
 |b::bs,x,y,e,h=>by
  rw[dM]at e;rcases QQ.mp e with⟨c,e1,e2⟩|⟨c,e1,e2⟩
  ·obtain⟨cs,h1,h2,h3⟩:=Q2 bs c y e2 λz hz=>h z (by simp[hz])
   refine⟨b::cs,by rw[aR,aR];lia,by rw[dM,h2,e1],λz hz=>?_⟩;rcases aX.mp hz with rfl|hz
   ·exact h z (by simp)
   ·exact h3 z hz
  ·refine⟨[x],by simp,by simp,λz hz=>?_⟩
   rw[dN.mp hz]
   by_cases hz:x=[]
   ·exact .inr hz
   ·rcases h b (by simp)with g|g
    ·rw[e1]at g
     exact .inl (NF g hz)
    ·rw[g]at e1
     exact .inr (BJ.mp e1.symm).1
theorem HB(s:Ap)(k:Int)(w:Ap):gz s (k::w)=gz (jb s k) w:=rfl
def SX{s:Ap}{k l:Int}(h:(0<k/\0<l)\/(k<0/\l<0)):jb (s++[k]) l=s++[k]++[l]:=by
 unfold jb;rw[if_neg λe=>?_];have:k= -l:=by simpa using e
 lia
theorem HC(P:Int->Prop)(hP:∀k l,P k->P l->(0<k/\0<l)\/(k<0/\l<0)):∀(w s:Ap)(k:Int),P k->(∀x∈w,P x)->gz (s++[k]) w=s++k::w
 |[],s,k,_,_=>rfl
 |l::w,s,k,hk,hw=>by rw[HB,SX (hP k l hk (hw l (by simp))),HC P hP w (s++[k]) l (hw l (by simp)) λx hx=>hw x (by simp[hx])];simp
def L4{L:List Ap}{m:Nat}(h:∀b∈L,b.length<=m):L.flatten.length<=L.length*m:=by
 induction L with
 |nil=>simp
 |cons b L ih=>
  have h1:=h b (by simp);have h2:=ih λx hx=>h x (by simp[hx]);rw[dM,br,aR,IA];lia
def zp(hn:n<=7){h:Int}{rs:List Ap}(hr:∀r∈rs,bO n r):(vG n h).flatten.length<=h.natAbs*21/\(z4 n h rs).length<=(h.natAbs+rs.length)*21/\∀k∈z4 n h rs,cQ n k:=by
 show 'a';have l1:=JG hn hh;have lA:(vG n h).length=h.natAbs:=by unfold vG;split<;>rw[AA]<;>lia
 have hA:∀b∈vG n h,b.length<=21/\∀k∈b,cQ n k:=λb hb=>by
  unfold vG at hb;split at hb
  ·rw[(rK.mp hb).2]
   refine⟨by unfold jM;rw[aN,bR];exact l1,λk hk=>?_⟩;unfold jM at hk;obtain⟨x,hx,rfl⟩:=dQ.mp hk;have:=(aa5 (LZ hn hh) x (by simpa using hx)).1;unfold cQ at*;lia
  ·rw[(rK.mp hb).2]
   exact⟨l1,λk hk=>(aa5 (LZ hn hh) k hk).1⟩
 have hB:∀b∈rs.map (j3 n),b.length<=21/\∀k∈b,cQ n k:=λb hb=>by obtain⟨r,h1,rfl⟩:=dQ.mp hb;exact⟨JG hn (hr r h1),λk hk=>(aa5 (LZ hn (hr r h1)) k hk).1⟩
 have f1:=L4 λb hb=>(hA b hb).1;have f2:=L4 λb hb=>(hB b hb).1;rw[lA]at f1;rw[aN]at f2;refine⟨f1,?_,λk hk=>?_⟩
 ·unfold z4
  rw[br,aam];lia
 ·unfold z4 at hk
  rcases cu.mp hk with hk|hk
  ·obtain⟨b,hb,hk⟩:=Eh.mp hk
   exact(hA b hb).2 k hk
  ·obtain⟨b,hb,hk⟩:=Eh.mp hk
   exact(hB b hb).2 k hk
theorem Q3(hn:n<=7)(s0 s1 s2:Sl):∀(rs:List Ap)(w:Ap)(s4:Sl),(∀r∈rs,bO n r)->w.length+rs.length*21<=100000->∃s4',iS kc (rs.map λr=>.lst (bp r)) [s0,s1,s2,.own (bp w),s4]=.ok (.nx [s0,s1,s2,.own (bp (w++(rs.map (j3 n)).flatten)),s4'])
 |[],w,s4,_,_=>⟨s4,by rw[dz,dz,Bc,bg];rfl⟩
 |r::rs,w,s4,hr,hl=>by
  have h1:=hr r (by simp);have l1:=JG hn h1;rw[aR,IA]at hl;obtain⟨s4',e⟩:=Q3 hn s0 s1 s2 rs (w++j3 n r) (.val (.lst (bp r))) (λx hx=>hr x (by simp[hx])) (by rw[br];lia);refine⟨s4',?_⟩;have eb:kc (.lst (bp r)) [s0,s1,s2,.own (bp w),s4]=.ok (.nx [s0,s1,s2,.own (bp (w++j3 n r)),.val (.lst (bp r))]):=by unfold kc;simp_all [pL,(Q1 hn h1).1];rw[Pr (by rw[cK,cK];lia),kL];simp_all
  rw[bq]
  conv=>lhs;unfold iS
  rw[eb];show iS _ _ _=_;rw[e,bq,dM,aZ]
def Q4(m:Nat)(w:Ap):(aO m (bp w)).flatten=bp (aO m w).flatten:=by unfold bp;rw[List.map_flatten,aaO]
def JH(hn:1<=n/\n<=7){h:Int}{rs:List Ap}(hr:∀r∈rs,bO n r)(hl:h.natAbs+rs.length<=100):mC [.int n,.tup [.int h,.lst (rs.map λr=>.lst (bp r))]]=.ok (bp (z4 n h rs)):=by
 show 'a';have l1:=JG hn.2 hh;have a0:∀(x y:D),mO [x,y] 0=aa x:=λ_ _=>rfl;show '1';have f1:=(zp hn.2 (h:=h) hr).1;unfold mC C9;simp_all [QE n hn,(Q1 hn.2 hh).1,a0,a1];have key:∀s2:Sl,∃s4',iS kc (rs.map λr=>.lst (bp r)) [.val (.int n),.val (.tup [.int h,.lst (rs.map λr=>.lst (bp r))]),s2,.own (bp (vG n h).flatten),.no]=.ok (.nx [.val (.int n),.val (.tup [.int h,.lst (rs.map λr=>.lst (bp r))]),s2,.own (bp (z4 n h rs)),s4']):=λs2=>Q3 hn.2 _ _ s2 rs _ .no hr (by lia);obtain⟨s4,e4⟩:=key (.own (bp (j3 n (upTo n).reverse)))
 by_cases c:h<0
 ·dsimp [c,decide_true,a0,Ht _ (show(j3 n (upTo n).reverse).length<=1000 by lia)]
  rw[MP _ _ (by refine⟨by lia,by lia,?_⟩;rw[cK,aN,bR];have:(j3 n (upTo n).reverse).length*(-h).toNat<=21*100:=P6 l1 (by lia);exact big (by lia)),Q4]
  have ew:(aO (-h).toNat ((j3 n (upTo n).reverse).reverse.map λk=> -k)).flatten=(vG n h).flatten:=by unfold vG;rw[if_pos c];rfl
  rw[ew];simp_all [a1,e4,jE]
 ·dsimp [c,decide_false,a0]
  rw[MP _ _ (by refine⟨by lia,by lia,?_⟩;rw[cK];have:(j3 n (upTo n).reverse).length*h.toNat<=21*100:=P6 l1 (by lia);exact big (by lia)),Q4]
  have ew:(aO h.toNat (j3 n (upTo n).reverse)).flatten=(vG n h).flatten:=by unfold vG;rw[if_neg c]
  rw[ew];simp_all [a1,e4,jE]
def zq:((("out":Str))==(("out":Str)))=true:=by decide
def BN:((("out":Str))==(("in":Str)))=false:=by decide
def zr:((("out":Str))==(("far":Str)))=false:=by decide
def wW:((("out":Str))==(("near":Str)))=false:=by decide
def BO:((("in":Str))==(("out":Str)))=false:=by decide
def EB:((("in":Str))==(("in":Str)))=true:=by decide
def BP:((("in":Str))==(("far":Str)))=false:=by decide
def zt:((("in":Str))==(("near":Str)))=false:=by decide
def zu:((("far":Str))==(("out":Str)))=false:=by decide
def BQ:((("far":Str))==(("in":Str)))=false:=by decide
def zw:((("far":Str))==(("far":Str)))=true:=by decide
def wX:((("far":Str))==(("near":Str)))=false:=by decide
def wY:((("near":Str))==(("out":Str)))=false:=by decide
def zx:((("near":Str))==(("in":Str)))=false:=by decide
def wZ:((("near":Str))==(("far":Str)))=false:=by decide
def uz:((("near":Str))==(("near":Str)))=true:=by decide
def gI(w:Ap)(i:Int):Int:=(w[i.toNat]?).getD 0
def Q5{i:Int}(h:0<=i)(h2:i<(w.length:Int)):mO (bp w) i=aa (.int (gI w i)):=by rw[AY,yY h];unfold gI;rw[aP (by lia)];rfl
def sP{i:Int}(h:0<=i)(h2:i<(w.length:Int)):gI w i∈w:=by unfold gI;rw[aP (by lia)];exact Jp _
def eZ(k:Int):Int:=if k<0 then-k else k
inductive Mv where
 |out (p:Int)|Tq (p k:Int)|far (p:Int)|near (p:Int)
def Mv.d:Mv->D
 |.out p=>.tup [.str "out",.int p]
 |.Tq p k=>.tup [.str "in",.int p,.int k]
 |.far p=>.tup [.str "far",.int p]
 |.near p=>.tup [.str "near",.int p]
def DD(w:Ap)(p m:Int):Bool:=decide (0<=p)&&decide (p+m<=(w.length:Int))
def sQ(n:Int)(w:Ap):Mv->Bool
 |.out p=>DD w p 2&&(gI w p== -gI w (p+1))
 |.Tq p k=>DD w p 0&&(!(k==0)&&decide (eZ k<n))
 |.far p=>DD w p 2&&decide (2<=eZ (eZ (gI w p)-eZ (gI w (p+1))))
 |.near p=>DD w p 3&&(gI w p==gI w (p+2))&&(eZ (gI w p-gI w (p+1))==1)
noncomputable def doneF(w:Ap):Mv->Ap
 |.out p=>w.take p.toNat++w.drop (p+2).toNat
 |.Tq p k=>w.take p.toNat++[k,-k]++w.drop p.toNat
 |.far p=>w.take p.toNat++[gI w (p+1),gI w p]++w.drop (p+2).toNat
 |.near p=>w.take p.toNat++[gI w (p+1),gI w p,gI w (p+1)]++w.drop (p+3).toNat
def Q6{p m:Int}(h:DD w p m=true):0<=p/\p+m<=(w.length:Int):=by unfold DD at h;simpa using h
theorem Q7(a b:D):mO [a,b] 0=aa a:=rfl
theorem Q8(a b:D):mO [a,b] 1=aa b:=rfl
theorem Q9(a b c:D):mO [a,b,c] 0=aa a:=rfl
theorem Ra(a b c:D):mO [a,b,c] 1=aa b:=rfl
theorem Rb(a b c:D):mO [a,b,c] 2=aa c:=rfl
def JI{n:Int}{d:Mv}(h:sQ n w d=true):(match d with
  |.out p=>0<=p/\p+2<=(w.length:Int)
  |.Tq p _=>0<=p/\p<=(w.length:Int)
  |.far p=>0<=p/\p+2<=(w.length:Int)
  |.near p=>0<=p/\p+3<=(w.length:Int)):=by
 cases d with
 |out p=>
  simp only [sQ,di]at h;exact Q6 h.1
 |Tq p k=>
  simp only [sQ,di]at h;have:=Q6 h.1;dsimp only;lia
 |far p=>
  simp only [sQ,di]at h;exact Q6 h.1
 |near p=>
  simp only [sQ,di]at h;exact Q6 h.1.1
theorem Rf(a b:Int):[D.int a,D.int b]=bp [a,b]:=rfl
theorem SY(a b c:Int):[D.int a,D.int b,D.int c]=bp [a,b,c]:=rfl
def aa6(n:Int)(w:Ap)(d:Mv)(hw:w.length<=1000)(h:sQ n w d=true):qB [.lst (bp w),d.d]=.ok (bp (doneF w d)):=by
 have hp:=JI h;unfold qB C7;simp_all;cases d with
 |out p=>
  show '0';dsimp [Mv.d,Q7,Q8,Q9,Ra,Rb,zq,BN,zr,wW,BO,EB,BP,zt,zu,BQ,zw,wX,wY,zx,wZ,uz,tY];rw[Co _ _ hp.1,uY _ _ (by lia),kL,jw (by rw[br,fA,fG];lia)];dsimp [jE];rfl
 |Tq p k=>
  show '0';dsimp [Mv.d,Q7,Q8,Q9,Ra,Rb,zq,BN,zr,wW,BO,EB,BP,zt,zu,BQ,zw,wX,wY,zx,wZ,uz,tY];rw[Co _ _ hp.1,uY _ _ hp.1,Rf k (-k),kL,jw (by rw[br,fA];simp;lia)];dsimp [kL];rw[jw (by rw[br,br,fA,fG];simp;lia)];dsimp [jE];rfl
 |far p=>
  show '0';dsimp [Mv.d,Q7,Q8,Q9,Ra,Rb,zq,BN,zr,wW,BO,EB,BP,zt,zu,BQ,zw,wX,wY,zx,wZ,uz,tY];rw[Q5 (by lia) (by lia)];dsimp;rw[Q5 (by lia) (by lia)];dsimp;rw[Co _ _ hp.1,uY _ _ (by lia),Rf (gI w (p+1)) (gI w p),kL,jw (by rw[br,fA];simp;lia)];dsimp [kL];rw[jw (by rw[br,br,fA,fG];simp;lia)];dsimp [jE];rfl
 |near p=>
  show '0';dsimp [Mv.d,Q7,Q8,Q9,Ra,Rb,zq,BN,zr,wW,BO,EB,BP,zt,zu,BQ,zw,wX,wY,zx,wZ,uz,tY];rw[Q5 (by lia) (by lia)];dsimp;rw[Q5 (by lia) (by lia)];dsimp;rw[Co _ _ hp.1,uY _ _ (by lia),SY (gI w (p+1)) (gI w p) (gI w (p+1)),kL,jw (by rw[br,fA];simp;lia)];dsimp [kL];rw[jw (by rw[br,br,fA,fG];simp;lia)];dsimp [jE];rfl
def JJ{t:R Bool}{b:Bool}{a:R Out}{e:DE}{k:DE->R Out}(h:t=.ok b):bV (R.bind t λv=>if v=true then a else .ok (.nx e)) k=if b=true then bV a k else k e:=by subst h;cases b<;>rfl
def BR{n:Int}{d:Mv}(h:sQ n w d=true):(doneF w d).length<=w.length+2/\((∀p k,d≠.Tq p k)->(doneF w d).length<=w.length):=by
 have hp:=JI h;cases d with
 |out p=>
  show '0';refine⟨?_,λ_=>?_⟩<;>(show(w.take p.toNat++w.drop (p+2).toNat).length<=_;rw[br,fA,fG];lia)
 |Tq p k=>
  show '0';refine⟨?_,λhq=>absurd rfl (hq p k)⟩;show(w.take p.toNat++[k,-k]++w.drop p.toNat).length<=_;rw[br,br,fA,fG];simp;lia
 |far p=>
  show '0';refine⟨?_,λ_=>?_⟩<;>(show(w.take p.toNat++[gI w (p+1),gI w p]++w.drop (p+2).toNat).length<=_;rw[br,br,fA,fG];simp;lia)
 |near p=>
  show '0';refine⟨?_,λ_=>?_⟩<;>(show(w.take p.toNat++[gI w (p+1),gI w p,gI w (p+1)]++w.drop (p+3).toNat).length<=_;rw[br,br,fA,fG];simp;lia)
def Rh{n k:Int}(h1:(k==0)=false)(h2:eZ k<n):cQ n k:=by
 unfold eZ at h2;unfold cQ;have:k≠0:=by simpa using h1
 split at h2<;>lia
def EC{n k:Int}(h:cQ n k):cQ n (-k):=by unfold cQ at*;lia
def aa7{n:Int}{d:Mv}(hw:∀k∈w,cQ n k)(h:sQ n w d=true):∀k∈doneF w d,cQ n k:=by
 have hp:=JI h;cases d with
 |out p=>
  intro k hk;rcases cu.mp (show k∈w.take p.toNat++w.drop (p+2).toNat from hk)with q|q
  ·show 'Ï'
  ·show 'Ð'
 |Tq p x=>
  intro k hk;have hx:cQ n x:=by simp only [sQ,di,Ri,decide_eq_true_eq]at h;exact Rh h.2.1 h.2.2
  rcases cu.mp (show k∈w.take p.toNat++[x,-x]++w.drop p.toNat from hk)with q|q
  ·rcases cu.mp q with q|q
   ·show 'Ï'
   ·simp at q
    rcases q with rfl|rfl
    ·exact hx
    ·exact EC hx
  ·show 'Ð'
 |far p=>
  show '0';intro k hk;rcases cu.mp (show k∈w.take p.toNat++[gI w (p+1),gI w p]++w.drop (p+2).toNat from hk)with q|q
  ·rcases cu.mp q with q|q
   ·show 'Ï'
   ·simp at q
    rcases q with rfl|rfl
    ·show 'I'
    ·show 'I'
  ·show 'Ð'
 |near p=>
  show '0';intro k hk;rcases cu.mp (show k∈w.take p.toNat++[gI w (p+1),gI w p,gI w (p+1)]++w.drop (p+3).toNat from hk)with q|q
  ·rcases cu.mp q with q|q
   ·show 'Ï'
   ·simp at q
    rcases q with rfl|rfl|rfl
    ·show 'I'
    ·show 'I'
    ·show 'I'
  ·show 'Ð'
def w9{p i:Int}(hp:0<=p)(hi:0<=i/\i<3)(hl:p+i<(w.length:Int)):mO (bp ((w.drop p.toNat).take 3)) i=aa (.int (gI w (p+i))):=by rw[AY,yY hi.1];unfold gI;rw[List.getElem?_take,if_pos (by lia),List.getElem?_drop,show p.toNat+i.toNat=(p+i).toNat by lia,aP (by lia)];rfl
def aa8(w:Ap)(n z room:Int)(hw:∀k∈w,cQ n k)(hn:1<=n/\n<=7)(hz:0<=z)(hl:w.length<=1000):∃o:Option Mv,qC [.lst (bp w),.int n,.int z,.int room]=.ok (match o with
  |some d=>d.d
  |none=>.non)/\∀d,o=aa d->sQ n w d=true/\((doneF w d).length<=w.length\/((doneF w d).length:Int)<=room):=by
 unfold qC C8;simp_all [cK];rw[nK z _ (by lia)];simp_all;generalize hp:z%((w.length:Int)+1)=p;have p0:0<=p:=by rw[<-hp];exact Bb _ (by lia)
 have p1:p<(w.length:Int)+1:=by rw[<-hp];exact Eg _ (by lia)
 rw[tY,adS _ _ _ p0 (by lia),show(p+3).toNat-p.toNat=3 by lia];have hhl:(((w.drop p.toNat).take 3).length:Int)=if(w.length:Int)-p<3 then(w.length:Int)-p else 3:=by rw[fA,fG];split<;>lia
 have m1:∀i:Int,0<=i->i<(w.length:Int)-> -(2^64)<gI w i/\gI w i<2^64:=λi h1 h2=>by have:=hw _ (sP h1 h2);unfold cQ at this;lia
 have l1:(1:Int)<(((w.drop p.toNat).take 3).length:Int)↔p+2<=(w.length:Int):=by rw[hhl];split<;>lia
 have l2:(2:Int)<(((w.drop p.toNat).take 3).length:Int)↔p+3<=(w.length:Int):=by rw[hhl];split<;>lia
 rw[JJ (b:=DD w p 2&&(gI w p== -gI w (p+1))&&decide (0<z/128%3))]
 rotate_left
 ·simp_all [cK]
  by_cases h:p+2<=(w.length:Int)
  ·have hb:DD w p 2=true:=by unfold DD;simp[p0,h]
   simp_all [l1.mpr h,decide_true,hb,xf];show '+';simp_all [qz];show '+';simp_all;cases hq:(gI w p== -gI w (p+1))with
   |false=>simp_all [tP]
   |true=>
    simp_all [xf];rw[wm z 128 (by decide)];simp_all;rw[nK _ 3 (by decide)];simp_all
  ·have hb:DD w p 2=false:=by unfold DD;simp[h]
   have:¬(1:Int)<(((w.drop p.toNat).take 3).length:Int):=λq=>h (l1.mp q);simp_all [this,decide_false,hb,tP]
 simp_all;rw[JJ (b:=DD w p 2&&decide (1<eZ (eZ (gI w p)-eZ (gI w (p+1))))&&decide (0<z/128%5))]
 rotate_left
 ·simp_all [cK]
  by_cases h:p+2<=(w.length:Int)
  ·have hb:DD w p 2=true:=by unfold DD;simp[p0,h]
   simp_all [l1.mpr h,decide_true,hb,xf];show '+';simp_all [qz];show '+';simp_all
   by_cases hq:1<eZ (eZ (gI w p)-eZ (gI w (p+1)))
   ·have JU:=hq
    unfold eZ at JU;simp_all [hq,JU,decide_true,xf];rw[wm z 128 (by decide)];simp_all;rw[nK _ 5 (by decide)];simp_all
   ·have JU:=hq
    unfold eZ at JU;simp_all [hq,JU,decide_false,tP]
  ·have hb:DD w p 2=false:=by unfold DD;simp[h]
   have:¬(1:Int)<(((w.drop p.toNat).take 3).length:Int):=λq=>h (l1.mp q);simp_all [this,decide_false,hb,tP]
 simp_all;rw[JJ (b:=DD w p 3&&(gI w p==gI w (p+2))&&decide (0<gI w p*gI w (p+1))&&(eZ (gI w p-gI w (p+1))==1))]
 rotate_left
 ·simp_all [cK]
  by_cases h:p+3<=(w.length:Int)
  ·have hb:DD w p 3=true:=by unfold DD;simp[p0,h]
   simp_all [l2.mpr h,decide_true,hb,xf];show '+';simp_all [qz];show '+';simp_all;cases hq:(gI w p==gI w (p+2))with
   |false=>simp_all [tP]
   |true=>
    simp_all [xf];show '+';simp_all;rw[IK _ _ (.inl (m1 p p0 (by lia)))];simp_all
    by_cases hm:0<gI w p*gI w (p+1)
    ·simp_all [hm,decide_true,xf]
     rfl
    ·simp_all [hm,decide_false,tP]
  ·have hb:DD w p 3=false:=by unfold DD;simp[h]
   have:¬(2:Int)<(((w.drop p.toNat).take 3).length:Int):=λq=>h (l2.mp q);simp_all [this,decide_false,hb,tP]
 simp_all;rw[JJ (b:=decide (1<n)&&decide ((w.length:Int)+2<=room))]
 rotate_left
 ·simp_all [cK]
  by_cases h:1<n
  ·simp_all [h,decide_true,xf,cK]
  ·simp_all [h,decide_false,tP]
 cases c1:(DD w p 2&&(gI w p== -gI w (p+1))&&decide (0<z/128%3))with
 |true=>
  simp only [di]at c1;simp_all;refine⟨aa (.out p),rfl,λd hd=>?_⟩;cases hd;have hc:sQ n w (.out p)=true:=by simp_all only [sQ,di];exact c1.1
  show 'Y'
 |false=>
  simp_all;cases c2:(DD w p 2&&decide (1<eZ (eZ (gI w p)-eZ (gI w (p+1))))&&decide (0<z/128%5))with
  |true=>
   simp only [di,decide_eq_true_eq]at c2;simp_all;refine⟨aa (.far p),rfl,λd hd=>?_⟩;cases hd;have hc:sQ n w (.far p)=true:=(by simp_all only [sQ,di,decide_eq_true_eq];exact⟨c2.1.1,by lia⟩);show 'Y'
  |false=>
   simp_all;cases c3:(DD w p 3&&(gI w p==gI w (p+2))&&decide (0<gI w p*gI w (p+1))&&(eZ (gI w p-gI w (p+1))==1))with
   |true=>
    simp only [di,decide_eq_true_eq]at c3;simp_all;refine⟨aa (.near p),rfl,λd hd=>?_⟩;cases hd;have hc:sQ n w (.near p)=true:=(by simp_all only [sQ,di];exact⟨c3.1.1,c3.2⟩);show 'Y'
   |false=>
    simp_all;cases c4:(decide (1<n)&&decide ((w.length:Int)+2<=room))with
    |true=>
     simp only [di,decide_eq_true_eq]at c4;simp_all;rw[wm z 1024 (by decide)];simp_all;rw[KZ _ n (by lia)];simp_all;refine⟨aa (.Tq p (iU (z/1024) n)),rfl,λd hd=>?_⟩;cases hd;have hx:=K0 (z/1024) n (by lia);have hc:sQ n w (.Tq p (iU (z/1024) n))=true:=by
      simp_all only [sQ,di,Ri,decide_eq_true_eq];refine⟨by unfold DD;simp[p0];lia,?_,?_⟩
      ·exact beq_false_of_ne hx.1
      ·unfold eZ cQ at*;split<;>lia
     refine⟨hc,.inr ?_⟩;have:=(BR hc).1;lia
    |false=>
     simp_all;exact⟨none,rfl,λd hd=>by cases hd⟩
def fU(q k:Int):Int:=if q=eZ k-1 then q+1 else if q=eZ k then q-1 else q
theorem kr(i:Int):zC [.int i]=aa (.int (eZ i)):=rfl
def L5(q k:Int):gw [.int q,.int k]=.ok (.int (fU q k)):=by
 unfold gw x5 fU;simp_all only [mS,mD,mF,cg,aB,aR,cD,bq,dz,cB,dh,reduceAdd,reduceSub,reduceEqDiff,eB,cA,if_true,ite_true,reduceIte,fH,gC,nX,nY,nZ,ju,n8,n9,jv,og,oh,oi,om,ou,gD,gE,R.bX,R.dE,R.my,nM,nN,nP,fJ,jo,jq,nq,nv,nA,nC,nE,nG,nH,nJ,kr,fY,jr,jt,nQ,nR,nS,wo,wq,wu,wx,wy,fZ,f9,dW,aA,aC,nT,nU,nV,nW,gb,oy,oA,oB,oE,oF,oG]
 by_cases h1:q=eZ k-1
 ·have K1:(q==eZ k-1)=true:=by rw[beq_iff_eq];exact h1
  simp_all only [mS,mD,mF,cg,aB,aR,cD,bq,dz,cB,dh,reduceAdd,reduceSub,reduceEqDiff,eB,cA,if_true,ite_true,reduceIte,fH,gC,nX,nY,nZ,ju,n8,n9,jv,og,oh,oi,om,ou,gD,gE,R.bX,R.dE,R.my,nM,nN,nP,fJ,jo,jq,nq,nv,nA,nC,nE,nG,nH,nJ,kr,fY,jr,jt,nQ,nR,nS,wo,wq,wu,wx,wy,fZ,f9,dW,aA,aC,nT,nU,nV,nW,gb,oy,oA,oB,oE,oF,oG,K1,if_pos h1]
 ·have K1:(q==eZ k-1)=false:=beq_false_of_ne h1
  simp_all only [mS,mD,mF,cg,aB,aR,cD,bq,dz,cB,dh,reduceAdd,reduceSub,reduceEqDiff,eB,cA,if_true,ite_true,reduceIte,fH,gC,nX,nY,nZ,ju,n8,n9,jv,og,oh,oi,om,ou,gD,gE,R.bX,R.dE,R.my,nM,nN,nP,fJ,jo,jq,nq,nv,nA,nC,nE,nG,nH,nJ,kr,fY,jr,jt,nQ,nR,nS,wo,wq,wu,wx,wy,fZ,f9,dW,aA,aC,nT,nU,nV,nW,gb,oy,oA,oB,oE,oF,oG,K1,if_neg h1]
  by_cases h2:q=eZ k
  ·have Uq:(q==eZ k)=true:=by rw[beq_iff_eq];exact h2
   simp_all only [mS,mD,mF,cg,aB,aR,cD,bq,dz,cB,dh,reduceAdd,reduceSub,reduceEqDiff,eB,cA,if_true,ite_true,reduceIte,fH,gC,nX,nY,nZ,ju,n8,n9,jv,og,oh,oi,om,ou,gD,gE,R.bX,R.dE,R.my,nM,nN,nP,fJ,jo,jq,nq,nv,nA,nC,nE,nG,nH,nJ,kr,fY,jr,jt,nQ,nR,nS,wo,wq,wu,wx,wy,fZ,f9,dW,aA,aC,nT,nU,nV,nW,gb,oy,oA,oB,oE,oF,oG,Uq,if_pos h2]
  ·have Uq:(q==eZ k)=false:=beq_false_of_ne h2
   simp_all only [mS,mD,mF,cg,aB,aR,cD,bq,dz,cB,dh,reduceAdd,reduceSub,reduceEqDiff,eB,cA,if_true,ite_true,reduceIte,fH,gC,nX,nY,nZ,ju,n8,n9,jv,og,oh,oi,om,ou,gD,gE,R.bX,R.dE,R.my,nM,nN,nP,fJ,jo,jq,nq,nv,nA,nC,nE,nG,nH,nJ,kr,fY,jr,jt,nQ,nR,nS,wo,wq,wu,wx,wy,fZ,f9,dW,aA,aC,nT,nU,nV,nW,gb,oy,oA,oB,oE,oF,oG,Uq,if_neg h2]
def zI(k m:Int):Int:=if 0<k then k+m else k-m
def W8(k m:Int):cX [.int k,.int m]=.ok (.int (zI k m)):=by
 unfold cX pM zI;simp_all
 by_cases h:0<k
 ·dsimp [h,decide_true]
 ·dsimp [h,decide_false]
def b9(F:Int->Int->Ap):Int->Ap->Ap
 |_,[]=>[]
 |q,k::w=>F q k++b9 F (fU q k) w
theorem vB{F:Int->Int->Ap}(hF:∀q k,(F q k).length<=2):∀(w:Ap)(q:Int),(b9 F q w).length<=2*w.length
 |[],q=>by simp[b9]
 |k::w,q=>by have h1:=hF q k;have h2:=vB hF w (fU q k);unfold b9;rw[br,aR];lia
def L6(n:Str)(m:AN->R AN)(tab:Sh):xW ((n,m)::tab) (.fn n)=.ok m:=by unfold xW;simp_all only [tW,beq_self_eq_true,R.dE]
def W9{n x:Str}{m:AN->R AN}{tab:Sh}(h:(x==n)=false):xW ((n,m)::tab) (.fn x)=xW tab (.fn x):=by unfold xW;simp_all only [tW,h]
theorem HD{nm:Str}{mm:AN->R AN}(F:Int->Int->Ap)(hF:∀q k,(F q k).length<=2)(hg:xW [("crossings_of_others",cY),("ribbon_crossings",dO)] (.fn nm)=.ok mm)(hm:∀q k,mm [.int q,.int k]=.ok (bp (F q k)))(s0 s1:Sl):∀(w acc:Ap)(q:Int)(s5:Sl),acc.length+2*w.length<=100000->
  ∃t4 t5,iS lL (bp w) [s0,s1,.val (.fn nm),.own (bp acc),.val (.int q),s5]=.ok (.nx [s0,s1,.val (.fn nm),.own (bp (acc++b9 F q w)),t4,t5])
 |[],acc,q,s5,_=>⟨_,_,by unfold b9;rw[bg];rfl⟩
 |k::w,acc,q,s5,hl=>by
  have h1:=hF q k;rw[aR]at hl;obtain⟨t4,t5,e⟩:=HD F hF hg hm s0 s1 w (acc++F q k) (fU q k) (.val (.int k)) (by rw[br];lia);refine⟨t4,t5,?_⟩;rw[<-xU];unfold iS;have eb:lL (.int k) [s0,s1,.val (.fn nm),.own (bp acc),.val (.int q),s5]=.ok (.nx [s0,s1,.val (.fn nm),.own (bp (acc++F q k)),.val (.int (fU q k)),.val (.int k)]):=by unfold lL;simp_all [pL,hg,hm];rw[Pr (by rw[cK,cK];lia),kL];simp_all [L5]
  rw[eb];unfold b9;rw[<-aZ];exact e
def Rj{nm:Str}{mm:AN->R AN}(F:Int->Int->Ap)(hF:∀q k,(F q k).length<=2)(hg:xW [("crossings_of_others",cY),("ribbon_crossings",dO)] (.fn nm)=.ok mm)(hm:∀q k,mm [.int q,.int k]=.ok (bp (F q k)))(w:Ap)(q:Int)(hl:w.length<=10000):jx [.lst (bp w),.int q,.fn nm]=.ok (bp (b9 F q w)):=by unfold jx Be;simp_all;obtain⟨t4,t5,e⟩:=HD F hF hg hm (.val (.lst (bp w))) (.val (.int q)) w [] q .no (by rw[cD];lia);rw[show([]:AN)=bp []from rfl,e];dsimp [jE]
def Xa{n s:Int}(h0:0<=s)(h1:s<n):eR [.int n,.int s]=.ok .non:=by have e1:decide (s<0)=false:=decide_eq_false (by lia);have e2:decide (n<=s)=false:=decide_eq_false (by lia);unfold eR u4;simp_all [e1,e2]
def cj(q k:Int):Ap:=if fU q k≠q then[]else if q<eZ k then[zI k (-1)]else[k]
def BU(q k:Int):(cj q k).length<=2:=by unfold cj;split<;>(try split)<;>simp
def aa9(q k:Int):cY [.int q,.int k]=.ok (bp (cj q k)):=by
 unfold cY pN;simp_all only [mS,mD,mF,cg,aB,aR,cD,bq,dz,cB,dh,reduceAdd,reduceSub,reduceEqDiff,eB,cA,if_true,ite_true,reduceIte,fH,gC,nX,nY,nZ,ju,n8,n9,jv,og,oh,oi,om,ou,gD,gE,R.bX,R.dE,R.my,nM,nN,nP,fJ,jo,jq,nq,nv,nA,nC,nE,nG,nH,nJ,kr,fY,jr,jt,nQ,nR,nS,wo,wq,wu,wx,wy,fZ,f9,dW,aA,aC,nT,nU,nV,nW,gb,oy,oA,oB,oE,oF,oG,L5]
 by_cases h1:fU q k=q
 ·have K1:(fU q k==q)=true:=by rw[beq_iff_eq];exact h1
  have e1:cj q k=if q<eZ k then[zI k (-1)]else[k]:=if_neg λz=>z h1;simp_all only [mS,mD,mF,cg,aB,aR,cD,bq,dz,cB,dh,reduceAdd,reduceSub,reduceEqDiff,eB,cA,if_true,ite_true,reduceIte,fH,gC,nX,nY,nZ,ju,n8,n9,jv,og,oh,oi,om,ou,gD,gE,R.bX,R.dE,R.my,nM,nN,nP,fJ,jo,jq,nq,nv,nA,nC,nE,nG,nH,nJ,kr,fY,jr,jt,nQ,nR,nS,wo,wq,wu,wx,wy,fZ,f9,dW,aA,aC,nT,nU,nV,nW,gb,oy,oA,oB,oE,oF,oG,K1,iO]
  by_cases h2:q<eZ k
  ·rw[e1,if_pos h2]
   simp_all only [mS,mD,mF,cg,aB,aR,cD,bq,dz,cB,dh,reduceAdd,reduceSub,reduceEqDiff,eB,cA,if_true,ite_true,reduceIte,fH,gC,nX,nY,nZ,ju,n8,n9,jv,og,oh,oi,om,ou,gD,gE,R.bX,R.dE,R.my,nM,nN,nP,fJ,jo,jq,nq,nv,nA,nC,nE,nG,nH,nJ,kr,fY,jr,jt,nQ,nR,nS,wo,wq,wu,wx,wy,fZ,f9,dW,aA,aC,nT,nU,nV,nW,gb,oy,oA,oB,oE,oF,oG,h2,decide_true,W8];rfl
  ·rw[e1,if_neg h2]
   simp_all only [mS,mD,mF,cg,aB,aR,cD,bq,dz,cB,dh,reduceAdd,reduceSub,reduceEqDiff,eB,cA,if_true,ite_true,reduceIte,fH,gC,nX,nY,nZ,ju,n8,n9,jv,og,oh,oi,om,ou,gD,gE,R.bX,R.dE,R.my,nM,nN,nP,fJ,jo,jq,nq,nv,nA,nC,nE,nG,nH,nJ,kr,fY,jr,jt,nQ,nR,nS,wo,wq,wu,wx,wy,fZ,f9,dW,aA,aC,nT,nU,nV,nW,gb,oy,oA,oB,oE,oF,oG,h2,decide_false];rfl
 ·have K1:(fU q k==q)=false:=beq_false_of_ne h1
  have e1:cj q k=[]:=if_pos h1;rw[e1];simp_all only [mS,mD,mF,cg,aB,aR,cD,bq,dz,cB,dh,reduceAdd,reduceSub,reduceEqDiff,eB,cA,if_true,ite_true,reduceIte,fH,gC,nX,nY,nZ,ju,n8,n9,jv,og,oh,oi,om,ou,gD,gE,R.bX,R.dE,R.my,nM,nN,nP,fJ,jo,jq,nq,nv,nA,nC,nE,nG,nH,nJ,kr,fY,jr,jt,nQ,nR,nS,wo,wq,wu,wx,wy,fZ,f9,dW,aA,aC,nT,nU,nV,nW,gb,oy,oA,oB,oE,oF,oG,K1,Rk];rfl
def sS{n s:Int}(h0:0<=s)(h1:s<n)(hn:n≠1)(w:Ap)(hl:w.length<=10000):kM [.int n,.lst (bp w),.int s]=.ok (bp (b9 cj s w)):=by have hn':(n==1)=false:=beq_false_of_ne hn;unfold kM He;simp_all [Xa h0 h1,hn'];rw[Rj cj BU (L6 _ _ _) aa9 w s hl];dsimp [jE]
def mU(q k:Int):Ap:=if q=eZ k-1 then[zI k 1,k]else if q=eZ k then[k,zI k 1]else if q<eZ k then[zI k 1]else[k]
def JK(q k:Int):(mU q k).length<=2:=by unfold mU;split<;>(try split)<;>(try split)<;>simp
def afD(q k:Int):dO [.int q,.int k]=.ok (bp (mU q k)):=by
 unfold dO rX;simp_all only [mS,mD,mF,cg,aB,aR,cD,bq,dz,cB,dh,reduceAdd,reduceSub,reduceEqDiff,eB,cA,if_true,ite_true,reduceIte,fH,gC,nX,nY,nZ,ju,n8,n9,jv,og,oh,oi,om,ou,gD,gE,R.bX,R.dE,R.my,nM,nN,nP,fJ,jo,jq,nq,nv,nA,nC,nE,nG,nH,nJ,kr,fY,jr,jt,nQ,nR,nS,wo,wq,wu,wx,wy,fZ,f9,dW,aA,aC,nT,nU,nV,nW,gb,oy,oA,oB,oE,oF,oG,W8]
 by_cases h1:q=eZ k-1
 ·have K1:(q==eZ k-1)=true:=by rw[beq_iff_eq];exact h1
  have e1:mU q k=[zI k 1,k]:=if_pos h1;rw[e1];simp_all only [mS,mD,mF,cg,aB,aR,cD,bq,dz,cB,dh,reduceAdd,reduceSub,reduceEqDiff,eB,cA,if_true,ite_true,reduceIte,fH,gC,nX,nY,nZ,ju,n8,n9,jv,og,oh,oi,om,ou,gD,gE,R.bX,R.dE,R.my,nM,nN,nP,fJ,jo,jq,nq,nv,nA,nC,nE,nG,nH,nJ,kr,fY,jr,jt,nQ,nR,nS,wo,wq,wu,wx,wy,fZ,f9,dW,aA,aC,nT,nU,nV,nW,gb,oy,oA,oB,oE,oF,oG,K1];rfl
 ·have K1:(q==eZ k-1)=false:=beq_false_of_ne h1
  have e1:mU q k=if q=eZ k then[k,zI k 1]else if q<eZ k then[zI k 1]else[k]:=if_neg h1;rw[e1];simp_all only [mS,mD,mF,cg,aB,aR,cD,bq,dz,cB,dh,reduceAdd,reduceSub,reduceEqDiff,eB,cA,if_true,ite_true,reduceIte,fH,gC,nX,nY,nZ,ju,n8,n9,jv,og,oh,oi,om,ou,gD,gE,R.bX,R.dE,R.my,nM,nN,nP,fJ,jo,jq,nq,nv,nA,nC,nE,nG,nH,nJ,kr,fY,jr,jt,nQ,nR,nS,wo,wq,wu,wx,wy,fZ,f9,dW,aA,aC,nT,nU,nV,nW,gb,oy,oA,oB,oE,oF,oG,K1]
  by_cases h2:q=eZ k
  ·have Uq:(q==eZ k)=true:=by rw[beq_iff_eq];exact h2
   rw[if_pos h2];simp_all only [mS,mD,mF,cg,aB,aR,cD,bq,dz,cB,dh,reduceAdd,reduceSub,reduceEqDiff,eB,cA,if_true,ite_true,reduceIte,fH,gC,nX,nY,nZ,ju,n8,n9,jv,og,oh,oi,om,ou,gD,gE,R.bX,R.dE,R.my,nM,nN,nP,fJ,jo,jq,nq,nv,nA,nC,nE,nG,nH,nJ,kr,fY,jr,jt,nQ,nR,nS,wo,wq,wu,wx,wy,fZ,f9,dW,aA,aC,nT,nU,nV,nW,gb,oy,oA,oB,oE,oF,oG,Uq];rfl
  ·have Uq:(q==eZ k)=false:=beq_false_of_ne h2
   rw[if_neg h2];simp_all only [mS,mD,mF,cg,aB,aR,cD,bq,dz,cB,dh,reduceAdd,reduceSub,reduceEqDiff,eB,cA,if_true,ite_true,reduceIte,fH,gC,nX,nY,nZ,ju,n8,n9,jv,og,oh,oi,om,ou,gD,gE,R.bX,R.dE,R.my,nM,nN,nP,fJ,jo,jq,nq,nv,nA,nC,nE,nG,nH,nJ,kr,fY,jr,jt,nQ,nR,nS,wo,wq,wu,wx,wy,fZ,f9,dW,aA,aC,nT,nU,nV,nW,gb,oy,oA,oB,oE,oF,oG,Uq]
   by_cases h3:q<eZ k
   ·rw[if_pos h3]
    simp_all only [mS,mD,mF,cg,aB,aR,cD,bq,dz,cB,dh,reduceAdd,reduceSub,reduceEqDiff,eB,cA,if_true,ite_true,reduceIte,fH,gC,nX,nY,nZ,ju,n8,n9,jv,og,oh,oi,om,ou,gD,gE,R.bX,R.dE,R.my,nM,nN,nP,fJ,jo,jq,nq,nv,nA,nC,nE,nG,nH,nJ,kr,fY,jr,jt,nQ,nR,nS,wo,wq,wu,wx,wy,fZ,f9,dW,aA,aC,nT,nU,nV,nW,gb,oy,oA,oB,oE,oF,oG,h3,decide_true];rfl
   ·rw[if_neg h3]
    simp_all only [mS,mD,mF,cg,aB,aR,cD,bq,dz,cB,dh,reduceAdd,reduceSub,reduceEqDiff,eB,cA,if_true,ite_true,reduceIte,fH,gC,nX,nY,nZ,ju,n8,n9,jv,og,oh,oi,om,ou,gD,gE,R.bX,R.dE,R.my,nM,nN,nP,fJ,jo,jq,nq,nv,nA,nC,nE,nG,nH,nJ,kr,fY,jr,jt,nQ,nR,nS,wo,wq,wu,wx,wy,fZ,f9,dW,aA,aC,nT,nU,nV,nW,gb,oy,oA,oB,oE,oF,oG,h3,decide_false];rfl
def FW{n s:Int}(h0:0<=s)(h1:s<n)(hn:n≠7)(w:Ap)(hl:w.length<=10000):rL [.int n,.lst (bp w),.int s]=.ok (bp (b9 mU s w)):=by have hn':(n==7)=false:=beq_false_of_ne hn;unfold rL Hf;simp_all [Xa h0 h1,hn'];rw[Rj mU JK ((W9 (by decide)).trans (L6 _ _ _)) afD w s hl];dsimp [jE]
def ky(q:Int):Ap->Int
 |[]=>q
 |k::w=>ky (fU q k) w
theorem qH(F:Int->Int->Ap):∀(a b:Ap)(q:Int),b9 F q (a++b)=b9 F q a++b9 F (ky q a) b
 |[],b,q=>rfl
 |k::a,b,q=>by show F q k++b9 F (fU q k) (a++b)=(F q k++b9 F (fU q k) a)++b9 F (ky (fU q k) a) b;rw[qH F a b,aZ]
def dist(q a:Int):q=a-1\/q=a\/q<a-1\/a<q:=by lia
def A1{q k:Int}(hq:0<=q)(hk:k≠0):b9 cj q (mU q k)=[k]/\ky q (mU q k)=fU q k/\b9 cj (q+1) (mU q k)=[k]/\ky (q+1) (mU q k)=fU q k+1:=by
 rcases(by lia:0<k\/k<0)with hp|hp
 ·rcases dist q k with h|h|h|h<;>refine⟨?_,?_,?_,?_⟩<;>simp(disch:=lia) only [b9,ky,cj,mU,fU,zI,eZ,if_pos,if_neg,bg,cB,dh]<;>first|rfl|lia|(simp_all only [List.cons.injEq,and_true,true_and];lia)
 ·rcases dist q (-k)with h|h|h|h<;>refine⟨?_,?_,?_,?_⟩<;>simp(disch:=lia) only [b9,ky,cj,mU,fU,zI,eZ,if_pos,if_neg,bg,cB,dh]<;>first|rfl|lia|(simp_all only [List.cons.injEq,and_true,true_and];lia)
def aba{q k:Int}(hq:0<=q)(hk:k≠0):0<=fU q k:=by
 unfold fU eZ
 repeat' split
 all_goals lia
theorem A2:∀(w:Ap)(q:Int),0<=q->(∀k∈w,k≠0)->b9 cj q (b9 mU q w)=w/\b9 cj (q+1) (b9 mU q w)=w
 |[],q,_,_=>⟨rfl,rfl⟩
 |k::w,q,hq,hw=>by have hk:=hw k (by simp);obtain⟨h1,h2,h3,h4⟩:=A1 hq hk;obtain⟨i1,i2⟩:=A2 w (fU q k) (aba hq hk) λx hx=>hw x (by simp[hx]);show b9 cj q (mU q k++b9 mU (fU q k) w)=_/\b9 cj (q+1) (mU q k++b9 mU (fU q k) w)=_;rw[qH,qH,h1,h2,h3,h4,i1,i2];show 'È'
def FY{q k:Int}(hk:cQ n k)(h0:0<=q)(h1:q<n):0<=fU q k/\fU q k<n:=by
 unfold cQ at hk;unfold fU eZ
 repeat' split
 all_goals lia
theorem Xb:∀(w:Ap)(q:Int),0<=q->q<n->(∀k∈w,cQ n k)->∀k∈b9 cj q w,cQ ((n:Int)-1) k
 |[],q,_,_,_,k,h=>by simp[b9]at h
 |x::w,q,h0,h1,hw,k,h=>by
  have hx:=hw x (by simp);obtain⟨s0,s1⟩:=FY hx h0 h1;rcases cu.mp (show k∈cj q x++b9 cj (fU q x) w from h)with h|h
  ·unfold cj at h
   unfold cQ at hx⊢;split at h
   ·simp at h
   ·rename_i hs
    have Pw:fU q x=q:=not_not.mp hs;unfold fU eZ at Pw;split at h
    ·rename_i hq
     have e:k=zI x (-1):=(by simpa using h);unfold eZ at hq;unfold zI at e
     repeat' split at Pw
     all_goals (repeat' split at hq)<;>(repeat' split at e)<;>lia
    ·rename_i hq
     have e:k=x:=(by simpa using h);unfold eZ at hq
     repeat' split at Pw
     all_goals (repeat' split at hq)<;>lia
  ·exact Xb w (fU q x) s0 s1 (λy hy=>hw y (by simp[hy])) k h
theorem Xc:∀(w:Ap)(q:Int),0<=q->q<n->(∀k∈w,cQ n k)->∀k∈b9 mU q w,cQ ((n:Int)+1) k
 |[],q,_,_,_,k,h=>by simp[b9]at h
 |x::w,q,h0,h1,hw,k,h=>by
  have hx:=hw x (by simp);obtain⟨s0,s1⟩:=FY hx h0 h1;rcases cu.mp (show k∈mU q x++b9 mU (fU q x) w from h)with h|h
  ·have e:k=x\/k=zI x 1:=by
    unfold mU at h
    repeat' split at h
    all_goals simp at h
    all_goals rcases h with h|h<;>simp[h]
   unfold cQ at hx⊢;unfold zI at e;rcases e with e|e
   ·lia
   ·split at e<;>lia
  ·exact Xc w (fU q x) s0 s1 (λy hy=>hw y (by simp[hy])) k h
def Rl{k:Int}(h:cQ n k):1<=k.natAbs/\k.natAbs<n:=by unfold cQ at h;lia
theorem pY:∀(a b:Ap)(q:Int),ky q (a++b)=ky (ky q a) b
 |[],b,q=>rfl
 |k::a,b,q=>pY a b (fU q k)
theorem CV:∀(w:Ap)(q:Int),0<=q->q<n->(∀k∈w,cQ n k)->0<=ky q w/\ky q w<n
 |[],q,h0,h1,_=>⟨h0,h1⟩
 |k::w,q,h0,h1,hw=>by obtain⟨s0,s1⟩:=FY (hw k (by simp)) h0 h1;exact CV w _ s0 s1 λx hx=>hw x (by simp[hx])
def EF(F:Int->Int->Ap)(m n:Nat)(u v:Ap):Prop:=∀q:Int,0<=q->q<n->ky q u=ky q v/\(2<=m->Lk m (b9 F q u) (b9 F q v))
def Fis(F:Int->Int->Ap)(m n:Nat):Prop:=∀(w:Ap)(q:Int),0<=q->q<n->(∀k∈w,cQ n k)->∀k∈b9 F q w,cQ m k
theorem EF.refl (F:Int->Int->Ap)(m n:Nat)(u:Ap):EF F m n u u:=λ_ _ _=>⟨rfl,λ_=>Lk.refl m _⟩
theorem EF.symm {F:Int->Int->Ap}{m n:Nat}{u v:Ap}(h:EF F m n u v):EF F m n v u:=λq a b=>⟨(h q a b).1.symm,λz=>((h q a b).2 z).symm⟩
theorem EF.trans {F:Int->Int->Ap}{m n:Nat}{u v w:Ap}(h:EF F m n u v)(g:EF F m n v w):EF F m n u w:=λq a b=>⟨(h q a b).1.trans (g q a b).1,λz=>((h q a b).2 z).trans ((g q a b).2 z)⟩
theorem EF.mid {F:Int->Int->Ap}{m n:Nat}(hm:m<=7)(hF:Fis F m n){u v:Ap}(h:EF F m n u v){a:Ap}(ha:∀k∈a,cQ n k)(b:Ap):EF F m n (a++u++b) (a++v++b):=λq h0 h1=>by obtain⟨s0,s1⟩:=CV a q h0 h1 ha;obtain⟨e,l⟩:=h _ s0 s1;refine⟨by rw[pY,pY,pY,pY,e],λz=>?_⟩;rw[qH,qH,qH,qH,pY,pY,e];exact Lk.mid hm z (l z) (hF a q h0 h1 ha)
def Xd(F:Int->Int->Ap)(m n:Nat)(u v:Ap):Bool:=(bG n).all λq=>decide (ky q u=ky q v)&&decide (iD m (b9 F q u) (0,[])=iD m (b9 F q v) (0,[]))
def EF.of {F:Int->Int->Ap}{m n:Nat}(hm:m<=7)(hF:Fis F m n){u v:Ap}(hu:∀k∈u,cQ n k)(hv:∀k∈v,cQ n k)(h:Xd F m n u v=true):EF F m n u v:=λq h0 h1=>by unfold Xd at h;rw[gZ]at h;have:=h q.toNat (gA.mpr (by lia));rw[di,decide_eq_true_eq,decide_eq_true_eq,show((q.toNat:Nat):Int)=q by lia]at this;exact⟨this.1,λz=>aiC hm z (hF u q h0 h1 hu) (hF v q h0 h1 hv) this.2⟩
def z5(h:1<=n):Fis cj (n-1) n:=λw q h0 h1 hw k hk=>by
 have:=Xb w q h0 h1 hw k hk
 rwa [show(n:Int)-1=((n-1:Nat):Int)by lia]at this
def Rm:Fis mU (n+1) n:=λw q h0 h1 hw k hk=>by
 have:=Xc w q h0 h1 hw k hk
 rwa [show(n:Int)+1=((n+1:Nat):Int)by lia]at this
def xsL:Ap:=[1,2,3,4,-1,-2,-3,-4]
def BV(hn:n<=5){k:Int}(h:cQ n k):k∈xsL/\k.natAbs<n:=by
 unfold cQ at h;have:k=1\/k=2\/k=3\/k=4\/k= -1\/k= -2\/k= -3\/k= -4:=by lia
 exact⟨by unfold xsL;simpa using this,by lia⟩
def chB(n:Nat)(u v:Ap):Bool:=Xd cj (n-1) n u v&&Xd mU (n+1) n u v
def abd:((bG 6).all λn=>xsL.all λk=> !(decide (k.natAbs<n))||chB n [k,-k] [])=true:=by decide +kernel
def abe:((bG 6).all λn=>xsL.all λk=>xsL.all λl=> !(decide (k.natAbs<n)&&decide (l.natAbs<n)&&(decide (k.natAbs+2<=l.natAbs)||decide (l.natAbs+2<=k.natAbs)))||chB n [k,l] [l,k])=true:=by decide +kernel
def Xe:((bG 6).all λn=>xsL.all λk=>xsL.all λl=> !(decide (k.natAbs<n)&&decide (l.natAbs<n)&&(decide (k-l=1)||decide (l-k=1)))||chB n [k,l,k] [l,k,l])=true:=by decide +kernel
structure FZ(n:Nat)(u v:Ap):Prop where
 lk:n<=7->2<=n->Lk n u v
 o:1<=n->n<=5->EF cj (n-1) n u v
 r:1<=n->n<=5->EF mU (n+1) n u v
theorem FZ.symm {u v:Ap}(h:FZ n u v):FZ n v u:=⟨λa b=>(h.lk a b).symm,λa b=>(h.o a b).symm,λa b=>(h.r a b).symm⟩
theorem FZ.refl (n:Nat)(u:Ap):FZ n u u:=⟨λ_ _=>Lk.refl n u,λ_ _=>EF.refl _ _ _ _,λ_ _=>EF.refl _ _ _ _⟩
theorem FZ.trans {u v w:Ap}(h:FZ n u v)(g:FZ n v w):FZ n u w:=⟨λa b=>(h.lk a b).trans (g.lk a b),λa b=>(h.o a b).trans (g.o a b),λa b=>(h.r a b).trans (g.r a b)⟩
theorem FZ.mid {u v:Ap}(h:FZ n u v){a:Ap}(ha:∀k∈a,cQ n k)(b:Ap):FZ n (a++u++b) (a++v++b):=⟨λx y=>Lk.mid x y (h.lk x y) ha,λx y=>EF.mid (by lia) (z5 x) (h.o x y) ha b,λx y=>EF.mid (by lia) Rm (h.r x y) ha b⟩
theorem FZ.of {u v:Ap}(hu:∀k∈u,cQ n k)(hv:∀k∈v,cQ n k)(h:n<=7->2<=n->Lk n u v)(c:n<=5->chB n u v=true):FZ n u v:=⟨h,λx y=>EF.of (by lia) (z5 x) hu hv (by have:=c y;unfold chB at this;rw[di]at this;exact this.1),λx y=>EF.of (by lia) Rm hu hv (by have:=c y;unfold chB at this;rw[di]at this;exact this.2)⟩
def all1(hn:n<=5){f:Nat->Int->Bool}(h:((bG 6).all λn=>xsL.all λk=>f n k)=true){k:Int}(hk:k∈xsL):f n k=true:=by rw[gZ]at h;have h1:=h n (by rw[gA];lia);rw[gZ]at h1;exact h1 k hk
def Xf{n:Int}{a b:Int}(ha:cQ n a)(hb:cQ n b):∀x∈[a,b],cQ n x:=λx hx=>by simp only [aX,AV,or_false]at hx;rcases hx with rfl|rfl<;>assumption
def Rn{n:Int}{a b c:Int}(ha:cQ n a)(hb:cQ n b)(hc:cQ n c):∀x∈[a,b,c],cQ n x:=λx hx=>by simp only [aX,AV,or_false]at hx;rcases hx with rfl|rfl|rfl<;>assumption
def JL{k:Int}(hk:cQ n k):FZ n [k,-k] []:=.of (Xf hk (EC hk)) (λ_ z=>nomatch z) (λa b=>WZ a b hk) λh=>by
 obtain⟨m1,m2⟩:=BV h hk;have:=all1 h abd m1
 rwa [decide_eq_true m2,iO,vW]at this
def abf{k l:Int}(hk:cQ n k)(hl:cQ n l)(h:k.natAbs+2<=l.natAbs\/l.natAbs+2<=k.natAbs):FZ n [k,l] [l,k]:=.of (Xf hk hl) (Xf hl hk) (λa b=>afB a b hk hl h) λh5=>by
 obtain⟨m1,m2⟩:=BV h5 hk;obtain⟨l1,l2⟩:=BV h5 hl;have:=all1 h5 abe m1;rw[gZ]at this;have t:=this l l1
 rwa [decide_eq_true m2,decide_eq_true l2,show(decide (k.natAbs+2<=l.natAbs)||decide (l.natAbs+2<=k.natAbs))=true by rw[yV,decide_eq_true_eq,decide_eq_true_eq];exact h,JM,JM,iO,vW]at t
def abg{k l:Int}(hk:cQ n k)(hl:cQ n l)(h:k-l=1\/l-k=1)(a:n<=7)(b:2<=n):Lk n [k,l,k] [l,k,l]:=by
 have k1:=Rl hk;have l1:=Rl hl;unfold cQ at hk hl;have hs:(0<k)=(0<l):=by apply propext;lia
 by_cases q:k.natAbs<l.natAbs
 ·exact LU a b (a:=k.natAbs-1) (by lia) (by lia) (by lia) hs
 ·exact(LU a b (a:=l.natAbs-1) (by lia) (by lia) (by lia) hs.symm).symm
def Xg{k l:Int}(hk:cQ n k)(hl:cQ n l)(h:k-l=1\/l-k=1):FZ n [k,l,k] [l,k,l]:=.of (Rn hk hl hk) (Rn hl hk hl) (abg hk hl h) λh5=>by
 obtain⟨m1,m2⟩:=BV h5 hk;obtain⟨l1,l2⟩:=BV h5 hl;have:=all1 h5 Xe m1;rw[gZ]at this;have t:=this l l1
 rwa [decide_eq_true m2,decide_eq_true l2,show(decide (k-l=1)||decide (l-k=1))=true by rw[yV,decide_eq_true_eq,decide_eq_true_eq];exact h,JM,JM,iO,vW]at t
def Xh{p:Int}(h0:0<=p)(h:p+2<=(w.length:Int)):w=w.take p.toNat++[gI w p,gI w (p+1)]++w.drop (p+2).toNat:=by
 obtain⟨m,rfl⟩:∃m:Nat,p=m:=⟨p.toNat,by lia⟩
 have e1:gI w m=w[m]'(by lia):=by unfold gI;rw[bu,aP (by lia)];rfl
 have e2:gI w ((m:Int)+1)=w[m+1]'(by lia):=by unfold gI;rw[show((m:Int)+1).toNat=m+1 by lia,aP (by lia)];rfl
 rw[e1,e2,bu,show((m:Int)+2).toNat=m+1+1 by lia,aZ];show w=w.take m++(w[m]::w[m+1]::w.drop (m+1+1));rw[<-rh (show m+1<w.length by lia),<-rh (show m<w.length by lia),JN]
def afE{p:Int}(h0:0<=p)(h:p+3<=(w.length:Int)):w=w.take p.toNat++[gI w p,gI w (p+1),gI w (p+2)]++w.drop (p+3).toNat:=by
 obtain⟨m,rfl⟩:∃m:Nat,p=m:=⟨p.toNat,by lia⟩
 have e1:gI w m=w[m]'(by lia):=by unfold gI;rw[bu,aP (by lia)];rfl
 have e2:gI w ((m:Int)+1)=w[m+1]'(by lia):=by unfold gI;rw[show((m:Int)+1).toNat=m+1 by lia,aP (by lia)];rfl
 have e3:gI w ((m:Int)+2)=w[m+1+1]'(by lia):=by unfold gI;rw[show((m:Int)+2).toNat=m+1+1 by lia,aP (by lia)];rfl
 rw[e1,e2,e3,bu,show((m:Int)+3).toNat=m+1+1+1 by lia,aZ];show w=w.take m++(w[m]::w[m+1]::w[m+1+1]::w.drop (m+1+1+1));rw[<-rh (show m+1+1<w.length by lia),<-rh (show m+1<w.length by lia),<-rh (show m<w.length by lia),JN]
def abh{d:Mv}(hw:∀k∈w,cQ n k)(h:sQ n w d=true):FZ n w (doneF w d):=by
 have hp:=JI h;have ht:∀q:Nat,∀k∈w.take q,cQ n k:=λq k hk=>hw k (wz hk);cases d with
 |out p=>
  show '0';simp only [sQ,di,beq_iff_eq]at h;have e:=Xh hp.1 hp.2;have hx:=hw _ (sP hp.1 (show p<(w.length:Int)by lia));have e2:gI w (p+1)= -gI w p:=by lia
  rw[e2]at e;have:=(JL hx).mid (ht p.toNat) (w.drop (p+2).toNat);rw[<-e,bg]at this;exact this
 |Tq p k=>
  show '0';simp only [sQ,di,Ri,decide_eq_true_eq]at h;have hx:=Rh h.2.1 h.2.2;have:=((JL hx).mid (ht p.toNat) (w.drop p.toNat)).symm;rw[bg,JN]at this;exact this
 |far p=>
  show '0';simp only [sQ,di,decide_eq_true_eq]at h;have e:=Xh hp.1 hp.2;have hx:=hw _ (sP hp.1 (show p<(w.length:Int)by lia));have hy:=hw _ (sP (show 0<=p+1 by lia) (show p+1<(w.length:Int)by lia));have hq:=h.2;have:=(abf hx hy (by unfold eZ at hq;repeat' split at hq<;>lia)).mid (ht p.toNat) (w.drop (p+2).toNat);rw[<-e]at this;exact this
 |near p=>
  show '0';simp only [sQ,di,beq_iff_eq]at h;have e:=afE hp.1 hp.2;have hx:=hw _ (sP hp.1 (show p<(w.length:Int)by lia));have hy:=hw _ (sP (show 0<=p+1 by lia) (show p+1<(w.length:Int)by lia));have hq:=h.2;rw[<-h.1.2]at e;have:=(Xg hx hy (by unfold eZ at hq;repeat' split at hq<;>lia)).mid (ht p.toNat) (w.drop (p+3).toNat);rw[<-e]at this;exact this
def qP(R:List Ap):AN:=R.map λr=>.lst (bp r)
theorem HE(n:Nat):∀(a b:List Ap),a.length=b.length->xM (zQ (n+1)) (qP a) (qP b)=aa (decide (a=b))
 |[],[],_=>rfl
 |[],_::_,h=>by simp at h
 |_::_,[],h=>by simp at h
 |x::a,y::b,h=>by have ih:=HE n a b (by simpa using h);show(zQ (n+1) (.lst (bp x)) (.lst (bp y))).bind _=_;rw[EV];show(xM (zQ (n+1)) (qP a) (qP b)).map (decide (x=y)&&·)=_;rw[ih];show aa (decide (x=y)&&decide (a=b))=aa (decide (x::a=y::b));congr 1;rw[yE];simp
def Xi(n:Nat)(a b:List Ap):zQ (n+2) (.lst (qP a)) (.lst (qP b))=aa (decide (a=b)):=by
 show(if(qP a).length=(qP b).length then xM (zQ (n+1)) (qP a) (qP b)else aa false)=_;split
 ·rename_i h
  exact HE n a b (by simpa[qP]using h)
 ·rename_i h
  congr 1
  symm
  rw[decide_eq_false_iff_not];rintro rfl;exact h rfl
def xG(ω:Int×As):D:=.tup [.int ω.1,.lst (qP (ω.2.map (·.1)))]
def NK(h:Int)(R:As):D.tup [.int h,.lst (R.map λp=>.lst (bp p.1))]=xG (h,R):=by unfold xG qP;rw[jV];rfl
def Ro(ω ω':Int×As):zQ 6 (xG ω) (xG ω')=aa (ω.1==ω'.1&&decide (ω.2.map (·.1)=ω'.2.map (·.1))):=by unfold xG;show(((zQ 5 (.int ω.1) (.int ω'.1)).bind λb=>(xM (zQ 5) [.lst (qP (ω.2.map (·.1)))] [.lst (qP (ω'.2.map (·.1)))]).map (b&&·)).map (·&&([D.int ω.1,.lst (qP (ω.2.map (·.1)))].length==[D.int ω'.1,.lst (qP (ω'.2.map (·.1)))].length)))=_;show((((zQ 5 (.lst (qP (ω.2.map (·.1)))) (.lst (qP (ω'.2.map (·.1))))).bind λb=>(aa true).map (b&&·)).map ((ω.1==ω'.1)&&·)).map (·&&true))=_;rw[Xi 3];simp
def Rp(ω ω':Int×As):Ae (xG ω) (xG ω')=aa (.bl (ω.1==ω'.1&&decide (ω.2.map (·.1)=ω'.2.map (·.1)))):=by unfold Ae;rw[Ro];rfl
def Rq(ω ω':Int×As):G4 (xG ω) (xG ω')=aa (.bl (!(ω.1==ω'.1&&decide (ω.2.map (·.1)=ω'.2.map (·.1))))):=by unfold G4;rw[Ro];rfl
def lwd:Nat->Ap->Ap->Ap
 |0,_,_=>[]
 |f+1,r,s=>match Ak s with
  |[]=>[]
  |k::_=>k::lwd f (vh r (k-1).toNat) (fy s (k-1).toNat)
theorem Xj(hn:n<=7):∀(f:Nat)(r s:Ap),Iv n r s->343-wsum 0 s<f->Wk n true (lwd f r s) r s
 |0,r,s,h,hf=>by have:=(h.ws hn).2;lia
 |f+1,r,s,h,hf=>by
  unfold lwd;cases hd:Ak s with
  |nil=>exact QZ h hd
  |cons k t=>
   obtain⟨a,rfl,h1,h2,h3⟩:=Lc hd;rw[h.ls]at h1;have e:((a:Int)+1-1).toNat=a:=(by lia);show Wk n true (((a:Int)+1)::lwd f (vh r ((a:Int)+1-1).toNat) (fy s ((a:Int)+1-1).toNat)) r s;rw[e];exact⟨a,rfl,h1,h2,λ_=>h3,Xj hn f (vh r a) (fy s a) (h.step h1) (by rw[Fe _ _ _ (by rw[h.ls];exact h1)];lia)⟩
def Tt(r:Ap):Ap:=lwd 400 r (xN r)
def F0(hn:n<=7)(hr:bO n r):j3 n r=Tt r:=by have h:=kZ hr;have:=(h.ws hn).1;exact W7 hr (Xj hn 400 r (xN r) h (by lia))
def z6(n:Nat):Nat->List Ap
 |0=>[[]]
 |m+1=>(upTo n).flatMap λx=>(z6 n m).map (x::·)
theorem F3:∀(l:Ap),(∀x∈l,0<=x/\x<n)->l∈z6 n l.length
 |[],_=>by simp[z6]
 |x::l,h=>by show x::l∈(upTo n).flatMap λx=>(z6 n l.length).map (x::·);rw[List.mem_flatMap];exact⟨x,mem_upTo.mpr (h x (by simp)),dQ.mpr ⟨l,F3 l λy hy=>h y (by simp[hy]),rfl⟩⟩
def dlt(n:Nat):Ap:=Tt (upTo n).reverse
def chO(n:Nat)(u v:Ap):Bool:=Xd cj (n-1) n u v
def abi:((bG 5).all λn=>(z6 n n).all λr=> !(decide r.Nodup)||(chO n (Tt r++jM (dlt n)) (jM (dlt n)++Tt (fl n r.reverse))&&(bG (n-1)).all λj=>
  (!(decide (ai r j<ai r (j+1)))||chO n (Tt r++[(j:Int)+1]) (Tt (fy r j)))&&(!(decide (ai (xN r) (j+1)<ai (xN r) j))||chO n (Tt r) ([(j:Int)+1]++Tt (vh r j)))))=true:=by decide +kernel
def abj:((bG 5).all λn=>(bG (n-1)).all λj=>chO n [-((j:Int)+1)] (jM (dlt n)++Tt (GD n (Xr n j)).1))=true:=by decide +kernel
def afF:((bG 5).all λn=>(bG (n-1)).all λj=>decide (Tt (Xr n j).1=[(j:Int)+1]))=true:=by decide +kernel
section
variable{n:Nat}(hn:n<=4)(h2:2<=n)
include hn h2
theorem F4(hr:bO n r):chO n (j3 n r++jM (j3 n (upTo n).reverse)) (jM (j3 n (upTo n).reverse)++j3 n (fl n r.reverse))=true/\∀j,j+1<n->(ai r j<ai r (j+1)->chO n (j3 n r++[(j:Int)+1]) (j3 n (fy r j))=true)/\(ai (xN r) (j+1)<ai (xN r) j->chO n (j3 n r) ([(j:Int)+1]++j3 n (vh r j))=true):=by
 have h:=abi;rw[gZ]at h;have h1:=h n (by rw[gA];lia);rw[gZ]at h1;have m:=F3 (n:=n) r λx hx=>hr.mem.mp hx;rw[hr.len]at m;have h3:=h1 r m;rw[decide_eq_true hr.nd,iO,vW,di,gZ]at h3;have iv:=kZ hr;show 'a';have hf:bO n (fl n r.reverse):=Jr (Ey hr);refine⟨?_,λj hj=>?_⟩
 ·rw[F0 (by lia) hr,F0 (by lia) hh,F0 (by lia) hf]
  exact h3.1
 ·have h4:=h3.2 j (by rw[gA];lia)
  rw[di]at h4;have s1:bO n (fy r j):=gR (dX (p:=(r,xN r)) iv hj);have s2:bO n (vh r j):=gR (ie (p:=(r,xN r)) iv hj);refine⟨λc=>?_,λc=>?_⟩
  ·have:=h4.1
   rw[decide_eq_true c,iO,vW]at this;rw[F0 (by lia) hr,F0 (by lia) s1];exact this
  ·have:=h4.2
   rw[decide_eq_true c,iO,vW]at this;rw[F0 (by lia) hr,F0 (by lia) s2];exact this
theorem GF(hr:bO n r):∀k∈j3 n r,cQ n k:=λk hk=>(aa5 (LZ (by lia) hr) k hk).1
theorem EO.of {u v:Ap}(hu:∀k∈u,cQ n k)(hv:∀k∈v,cQ n k)(h:chO n u v=true):EF cj (n-1) n u v:=EF.of (by lia) (z5 (by lia)) hu hv h
theorem EO.mid {u v:Ap}(h:EF cj (n-1) n u v){a:Ap}(ha:∀k∈a,cQ n k)(b:Ap):EF cj (n-1) n (a++u++b) (a++v++b):=EF.mid (by lia) (z5 (by lia)) h ha b
theorem EO.lft {u v:Ap}(h:EF cj (n-1) n u v){a:Ap}(ha:∀k∈a,cQ n k):EF cj (n-1) n (a++u) (a++v):=by
 have:=EO.mid hn h2 h ha []
 rwa [bg,bg]at this
theorem EO.rgt {u v:Ap}(h:EF cj (n-1) n u v)(b:Ap):EF cj (n-1) n (u++b) (v++b):=EO.mid hn h2 h (a:=[]) (λ_ z=>nomatch z) b
theorem F5{u v:Ap}(hu:∀k∈u,cQ n k)(hv:∀k∈v,cQ n k):∀k∈u++v,cQ n k:=λk hk=>(cu.mp hk).elim (hu k) (hv k)
def yu(n:Nat)(L:As):Ap:=((L.map (·.1)).map (j3 n)).flatten
theorem aiG(h:b8 n L):∀k∈yu n L,cQ n k:=λk hk=>by unfold yu at hk;obtain⟨b,hb,hk⟩:=Eh.mp hk;obtain⟨r,hr,rfl⟩:=dQ.mp hb;obtain⟨p,hp,rfl⟩:=dQ.mp hr;exact GF hn h2 (gR (h p hp)) k hk
theorem jK(p:RP)(L:As):yu n (p::L)=j3 n p.1++yu n L:=rfl
theorem ED(A B:As):yu n (A++B)=yu n A++yu n B:=by unfold yu;rw[cF,cF,ue]
theorem Rt(hj:j+1<n):∀k∈[(j:Int)+1],cQ n k:=λk hk=>by rw[dN.mp hk];unfold cQ;lia
theorem anz{L L':As}(s:B4 n L L'):b8 n L->EF cj (n-1) n (yu n L) (yu n L'):=by
 induction s with
 | @here p q B j hj c1 c2=>
  intro h;have ip:=h p (by simp);have iq:=h q (by simp);have rp:=gR ip;have rq:=gR iq;have eq:xN q.1=q.2:=(kZ rq).symm.uniq iq.symm;have k1:=((F4 hn h2 rp).2 j hj).1 c1;have k2:=((F4 hn h2 rq).2 j hj).2 (by rw[eq];exact c2);have r1:bO n (wB p j).1:=gR (dX ip hj);have r2:bO n (yd q j).1:=gR (ie iq hj);have e1:=EO.of hn h2 (F5 hn h2 (GF hn h2 rp) (Rt hn h2 hj)) (GF hn h2 r1) k1;have e2:=EO.of hn h2 (GF hn h2 rq) (F5 hn h2 (Rt hn h2 hj) (GF hn h2 r2)) k2;rw[jK hn h2,jK hn h2,jK hn h2,jK hn h2];have a1:=EO.mid hn h2 e2 (GF hn h2 rp) (yu n B);have a2:=EO.rgt hn h2 (EO.rgt hn h2 e1 (j3 n (yd q j).1)) (yu n B);have f1:j3 n p.1++([(j:Int)+1]++j3 n (yd q j).1)++yu n B=j3 n p.1++[(j:Int)+1]++j3 n (yd q j).1++yu n B:=by simp_all only [aZ]
  have a3:=a1.trans (f1▸a2);rw[aZ,aZ]at a3;exact a3
 | @next p L L' _ ih=>
  intro h;rw[jK hn h2,jK hn h2];exact EO.lft hn h2 (ih λx hx=>h x (by simp[hx])) (GF hn h2 (gR (h p (by simp))))
theorem aiH{L L':As}(s:B4 n L L'):b8 n L->b8 n L':=by
 induction s with
 | @here p q B j hj c1 c2=>
  intro h x hx;simp only [aX]at hx;rcases hx with rfl|rfl|hx
  ·exact dX (h p (by simp)) hj
  ·exact ie (h q (by simp)) hj
  ·exact h x (by simp[hx])
 | @next p L L' _ ih=>
  intro h x hx;rcases aX.mp hx with rfl|hx
  ·exact h x (by simp)
  ·exact ih (λy hy=>h y (by simp[hy])) x hx
theorem aiI{L L':As}(s:rO n L L'):b8 n L->EF cj (n-1) n (yu n L) (yu n L'):=by
 induction s with
 |nil=>exact λ_=>EF.refl _ _ _ _
 |cons s _ ih=>exact λh=>(anz hn h2 s h).trans (ih (aiH hn h2 s h))
theorem NN:∀(u:Ap),(∀k∈u,cQ n k)->EF cj (n-1) n (jM u++u) []
 |[],_=>EF.refl _ _ _ _
 |k::u,h=>by
  have e:jM (k::u)++k::u=jM u++[-k,k]++u:=by unfold jM;simp
  rw[e];have hk:=h k (by simp);have o:=(JL (EC hk)).o (by lia) (by lia);rw[JF]at o;have tx:∀x∈jM u,cQ n x:=FU (by lia) h2 λx hx=>h x (by simp[hx]);have:=(EO.mid hn h2 o tx u).trans (by rw[bg];exact NN u λx hx=>h x (by simp[hx]));exact this
theorem aiJ:j3 n (upTo n)=[]:=W7 (jy n) rfl
theorem Xk:∀k:Nat,yu n (aO k (Zr n))=[]
 |0=>rfl
 |k+1=>by rw[cA,jK hn h2,Xk k,bg];exact aiJ hn h2
theorem Ru(h:Int):∀k∈(vG n h).flatten,cQ n k:=λk hk=>by have:=(zp (n:=n) (by lia) (h:=h) (rs:=[]) (λr hr=>nomatch hr)).2.2 k (by unfold z4;simpa using hk);exact this
theorem acw(h:Int):EF cj (n-1) n ((vG n h).flatten++j3 n (upTo n).reverse) (vG n (h+1)).flatten:=by
 show 'a'
 by_cases c:h<0
 ·obtain⟨m,rfl⟩:∃m:Nat,h= -((m:Int)+1):=⟨(-h-1).toNat,by lia⟩
  have e1:(vG n (-((m:Int)+1))).flatten=(aO m (jM (j3 n (upTo n).reverse))).flatten++jM (j3 n (upTo n).reverse):=by unfold vG;rw[if_pos c,show(-(-((m:Int)+1))).toNat=m+1 by lia,Jv,ue];simp
  have e2:(vG n (-((m:Int)+1)+1)).flatten=(aO m (jM (j3 n (upTo n).reverse))).flatten:=by
   unfold vG
   by_cases d:m=0
   ·subst d
    rfl
   ·rw[if_pos (by lia),show(-(-((m:Int)+1)+1)).toNat=m by lia]
  rw[e1,e2,aZ];have px:∀k∈(aO m (jM (j3 n (upTo n).reverse))).flatten,cQ n k:=λk hk=>by obtain⟨b,hb,hk⟩:=Eh.mp hk;rw[(rK.mp hb).2]at hk;exact FU (by lia) h2 (GF hn h2 hh) k hk
  have:=EO.lft hn h2 (NN hn h2 _ (GF hn h2 hh)) px
  rwa [bg]at this
 ·have e:(vG n h).flatten++j3 n (upTo n).reverse=(vG n (h+1)).flatten:=by
   unfold vG;rw[if_neg c,if_neg (by lia),show(h+1).toNat=h.toNat+1 by lia,Jv,ue];simp
  rw[e];show 'Ä'
theorem aiK(h:Int):EF cj (n-1) n ((vG n h).flatten++jM (j3 n (upTo n).reverse)) (vG n (h+ -1)).flatten:=by
 show 'a';have u:=EO.rgt hn h2 (acw hn h2 (h+ -1)) (jM (j3 n (upTo n).reverse));rw[show h+ -1+1=h by lia]at u;have f:∀v:Ap,(∀k∈v,cQ n k)->EF cj (n-1) n (v++jM v) []:=λv hv=>by
  have:=NN hn h2 (jM v) (FU (by lia) h2 hv);have e:jM (jM v)=v:=by unfold jM;simp[rz,Function.comp_def]
  rwa [e]at this
 have g:=EO.lft hn h2 (f _ (GF hn h2 hh)) (Ru hn h2 (h+ -1));rw[bg,<-aZ]at g;exact u.symm.trans g
theorem Xl:∀(c:Nat)(h:Int)(B:Ap),EF cj (n-1) n ((vG n h).flatten++(yu n (aO c (iC n))++B)) ((vG n (h+c)).flatten++B)
 |0,h,B=>by rw[show h+((0:Nat):Int)=h by lia];show 'Ä'
 |c+1,h,B=>by
  rw[cA,jK hn h2];have u:=EO.rgt hn h2 (acw hn h2 h) (yu n (aO c (iC n))++B);have:=Xl c (h+1) B;rw[show h+1+(c:Int)=h+((c+1:Nat):Int)by lia]at this;have e:(vG n h).flatten++(j3 n (iC n).1++yu n (aO c (iC n))++B)=(vG n h).flatten++j3 n (upTo n).reverse++(yu n (aO c (iC n))++B):=by show(vG n h).flatten++(j3 n (upTo n).reverse++yu n (aO c (iC n))++B)=_;simp_all only [aZ]
  rw[e];exact u.trans this
def HF(n:Nat)(ω:Int×As):Ap:=z4 n ω.1 (ω.2.map (·.1))
theorem aiL(h:Int)(hI:b8 n L):EF cj (n-1) n ((vG n h).flatten++yu n L) (HF n (Vl n h L)):=by obtain⟨k,s,_⟩:=uy (n:=n) (by lia) hI;have g:=aiI hn h2 s hI;rw[ED hn h2,Xk hn h2,bg]at g;have a:=EO.lft hn h2 g (Ru hn h2 h);refine a.trans ?_;unfold Vl HF z4;dsimp only;generalize zm n L=C;have b:=Xl hn h2 (iZ n C) h (yu n (C.drop (iZ n C)));rw[<-ED hn h2,<-Bm]at b;exact b
theorem aiM:∀{Z:As},b8 n Z->EF cj (n-1) n (yu n Z++jM (j3 n (upTo n).reverse)) (jM (j3 n (upTo n).reverse)++yu n (Z.map (mj n)))
 |[],_=>by show EF cj (n-1) n ([]++_) (_++[]);rw[dh,bg];show 'Ä'
 |p::Z,h=>by have ip:=h p (by simp);show 'a';have tx:∀k∈jM (j3 n (upTo n).reverse),cQ n k:=FU (n:=n) (by lia) h2 (GF hn h2 hh);have rf:bO n (fl n p.1.reverse):=Jr (Ey (gR ip));have k:=(F4 hn h2 (gR ip)).1;have e1:=EO.of hn h2 (F5 hn h2 (GF hn h2 (gR ip)) tx) (F5 hn h2 tx (GF hn h2 rf)) k;have ih:=aiM (Z:=Z) λx hx=>h x (by simp[hx]);have a1:=EO.lft hn h2 ih (GF hn h2 (gR ip));have a2:=EO.rgt hn h2 e1 (yu n (Z.map (mj n)));rw[jK hn h2,bq,jK hn h2];rw[<-aZ,<-aZ]at a1;have:=a1.trans a2;rw[aZ (jM _)]at this;exact this
theorem aiN{ω:Int×As}(hc:Cv n ω){k:Int}(hk:cQ n k):EF cj (n-1) n (HF n ω++[k]) (HF n (act n k ω)):=by
 show 'a';have xw:∀j,j+1<n->j3 n (Xr n j).1=[(j:Int)+1]:=λj hj=>by have c:=afF;rw[gZ]at c;have c1:=c n (by rw[gA];lia);rw[gZ]at c1;have c2:=c1 j (by rw[gA];lia);rw[decide_eq_true_eq]at c2;rw[F0 (by lia) (gR (fx hj)),c2]
 rcases(by unfold cQ at hk;lia:0<k\/k<0)with h|h
 ·obtain⟨a,rfl,ha,e,_⟩:=zo (by lia) h2 hk h ω
  rw[e];have:=aiL hn h2 ω.1 (L:=ω.2++[Xr n a]) (hc.iv.app (.one (fx ha)));rw[ED hn h2,<-aZ]at this;have w:yu n [Xr n a]=[(a:Int)+1]:=by rw[jK hn h2,xw a ha];rfl
  rw[w]at this;exact this
 ·have RY:=EC hk
  obtain⟨a,ea,ha,_,e⟩:=zo (by lia) h2 RY (by lia) ω;rw[JF]at e;rw[e];have ek:k= -((a:Int)+1):=by lia
  have c:=abj;rw[gZ]at c;have c1:=c n (by rw[gA];lia);rw[gZ]at c1;have c2:=c1 a (by rw[gA];lia);have rc:bO n (GD n (Xr n a)).1:=gR (sO (fx ha));have tx:∀k∈jM (j3 n (upTo n).reverse),cQ n k:=FU (n:=n) (by lia) h2 (GF hn h2 hh);unfold dlt at c2;rw[<-F0 (by lia) hh,<-F0 (by lia) rc,<-ek]at c2;have e1:=EO.of hn h2 (λx hx=>by rw[dN.mp hx];exact hk) (F5 hn h2 tx (GF hn h2 rc)) c2;have nx:∀x∈HF n ω,cQ n x:=F5 hn h2 (Ru hn h2 ω.1) (aiG hn h2 hc.iv);have s1:=EO.lft hn h2 e1 nx;have s2:=EO.mid hn h2 (aiM hn h2 hc.iv) (Ru hn h2 ω.1) (j3 n (GD n (Xr n a)).1);have s3:=EO.rgt hn h2 (aiK hn h2 ω.1) (yu n (ω.2.map (mj n))++j3 n (GD n (Xr n a)).1);have s4:=aiL hn h2 (ω.1+ -1) (L:=ω.2.map (mj n)++[GD n (Xr n a)]) (hc.iv.mj.app (.one (sO (fx ha))));have w:yu n (ω.2.map (mj n)++[GD n (Xr n a)])=yu n (ω.2.map (mj n))++j3 n (GD n (Xr n a)).1:=by rw[ED hn h2,jK hn h2];show _++(_++[])=_;rw[bg]
  rw[w]at s4;have f1:HF n ω++(jM (j3 n (upTo n).reverse)++j3 n (GD n (Xr n a)).1)=(vG n ω.1).flatten++(yu n ω.2++jM (j3 n (upTo n).reverse))++j3 n (GD n (Xr n a)).1:=by show(vG n ω.1).flatten++yu n ω.2++_=_;simp_all only [aZ]
  have f2:(vG n ω.1).flatten++(jM (j3 n (upTo n).reverse)++yu n (ω.2.map (mj n)))++j3 n (GD n (Xr n a)).1=(vG n ω.1).flatten++jM (j3 n (upTo n).reverse)++(yu n (ω.2.map (mj n))++j3 n (GD n (Xr n a)).1):=by simp_all only [aZ]
  rw[f1]at s1;rw[f2]at s2;exact s1.trans (s2.trans (s3.trans s4))
theorem aiO:∀(w v:Ap),(∀k∈w,cQ n k)->(∀k∈v,cQ n k)->EF cj (n-1) n v (HF n (iD n v (0,[])))->EF cj (n-1) n (v++w) (HF n (iD n (v++w) (0,[])))
 |[],v,_,_,h=>by rw[bg];exact h
 |k::w,v,hw,hv,h=>by
  have hk:=hw k (by simp);have hx:∀x∈v++[k],cQ n x:=F5 hn h2 hv λx hx=>by rw[dN.mp hx];exact hk
  have:=aiO w (v++[k]) (λx hx=>hw x (by simp[hx])) hx (by rw[pB];exact(EO.rgt hn h2 h [k]).trans (aiN hn h2 (BL (by lia) h2 v hv wV) hk))
  rw[aZ]at this;exact this
theorem afH(hw:∀k∈w,cQ n k):EF cj (n-1) n w (HF n (iD n w (0,[]))):=aiO hn h2 w [] hw (λ_ z=>nomatch z) (EF.refl _ _ _ _)
end
def Xm(s:Int):j8 [.int s,.int 2,.int 5]=.ok (.int (2+s/13%4)):=by unfold j8 xX;simp_all;rw[show((2:Int)==1)=false from rfl];dsimp;rw[wm s 13 (by decide)];dsimp;rw[nK _ _ (by decide)];rfl
def NP(w cs:Ap)(rm:Nat)(hn:1<=n/\n<=7)(hw:∀k∈w,cQ n k)(hr:rm<=900)(hl:w.length<=rm)(hc:cs.length<=1000):∃w',j9 [.lst (bp w),.int n,.lst (bp cs),.int rm]=.ok (.lst (bp w'))/\(∀k∈w',cQ n k)/\w'.length<=rm/\FZ n w w':=by
 unfold j9 x9;simp_all;obtain⟨s',e,hj⟩:=xT (S:=Ap×Sl×Sl×Sl) (b:=oM) (λ_ s=>(∀k∈s.1,cQ n k)/\s.1.length<=rm/\FZ n w s.1)
  (λs=>[.val (.lst (bp s.1)),.val (.int n),.val (.lst (bp cs)),.val (.int rm),s.2.1,s.2.2.1,s.2.2.2]) (nk (bp cs)) 0 (w,.no,.no,.no) ⟨hw,hl,FZ.refl n w⟩ (by
   rintro j ⟨u,s1,s2,s3⟩ x ⟨hu,hul,hk⟩ hx;have hu:∀k∈u,cQ n k:=hu;have hul:u.length<=rm:=hul;have hk:FZ n w u:=hk;obtain⟨cc,hcj,rfl⟩:=Cp hx;have hj:j<cs.length:=(bH.mp hcj).1;unfold oM;simp_all [bT2];rw[Vn cc j 69621 (by lia) (by decide)];have hz:=M0 cc j 69621;generalize KY cc j 69621=z at hz;dsimp;obtain⟨o,ho,hd⟩:=aa8 u n z rm hu (by lia) hz (by lia);rw[ho];cases o with
   |none=>
    dsimp [ZI];exact⟨(u,_,_,_),rfl,hu,hul,hk⟩
   |some d=>
    obtain⟨hc1,hc2⟩:=hd d rfl;have hdl:(doneF u d).length<=rm:=(by lia);have hnn:G6 d.d .non=aa (.bl true):=by cases d<;>rfl
    dsimp [hnn];rw[aa6 n u d (by lia) hc1];dsimp;exact⟨(doneF u d,_,_,_),rfl,aa7 hu hc1,hdl,hk.trans (abh hu hc1)⟩)
 obtain⟨w',s1,s2,s3⟩:=s';dsimp only at e;rw[e];dsimp;exact⟨w',rfl,hj.1,hj.2.1,hj.2.2⟩
def abk(ns:Ap)(k:Nat):iW [.lst (bp ns),.int k]=.ok (.int (ai ns k)):=by
 unfold iW x6 ai;simp_all [cK]
 by_cases h:(k:Int)<ns.length
 ·have hk:k<ns.length:=by lia
  dsimp [h,decide_true];rw[jX (by lia) h];dsimp [bu];unfold ai;rfl
 ·simp_all [h,decide_false]
  rw[A6 (by lia)];rfl
def BW{b:D->DE->R Out}{x:D}{xs:AN}{e e':DE}(h:b x e=.ok (.nx e')):iS b (x::xs) e=iS b xs e':=by
 conv=>lhs;unfold iS
 rw[h];rfl
def S2(r:Ap)(h:r.length<64):KO (bp r)=.ok (bp (sortI r)):=by unfold KO;rw[IL];exact if_pos h
theorem afI(i:Int):tE (JW (.int i)) "int"=true:=rfl
theorem afJ(i:Int):tE (JW (.int i)) "bool"=false:=rfl
theorem sub_tt(xs:AN):tE (JW (.tup xs)) "tuple"=true:=rfl
def HG(i:Int):hU [.int i]=.ok (.bl true):=by unfold hU zT;simp_all [afI,afJ,Rk]
def same_self(ω:Int×As):(ω.1==ω.1&&decide (ω.2.map (·.1)=ω.2.map (·.1)))=true:=by simp
structure LnN(n:Nat)(L:As):Prop where
 ln:zG n L
 nh:∀x∈L,x≠iC n
def Xn(hn:n<=7)(hr:bO n r)(n1:r≠upTo n)(n2:r≠(upTo n).reverse):lj [.int n,.lst (bp r)]=.ok (.bl true):=by
 have l0:=hr.len;have n3:r.reverse≠upTo n:=λe=>n2 (by rw[<-e,oQ]);have er:(bp r).reverse=bp r.reverse:=by unfold bp;rw[rz]
 unfold lj zV;simp_all [Vu,iO];obtain⟨e,-⟩:=KI (S:=Sl) (b:=pT) (λ_=>True) (λs=>[.val (.int n),.val (.lst (bp r)),s,.no]) (λ_ x=>.val x) (bp r) .no trivial λs x _ hx=>by obtain⟨k,_,rfl⟩:=dQ.mp hx;refine⟨?_,trivial⟩;unfold pT;simp_all [pL,HG,iO]
 rw[e];dsimp;rw[G7 _ (by lia),bu,Cw];dsimp;rw[S2 _ (by lia),VB hr];dsimp [ahv,ahw,decide_true,decide_eq_false n1,Rk,er,decide_eq_false n3]
def if1{h:Int}{Z:As}(hL:LnN n Z){t:Nat}{q:RP}(hq:Z[t]?=aa q)(hj:j+1<n)(s4:Sl):
  jW (.int ((j:Int)+1)) [.val (.int n),.val (xG (h,Z)),.val (.int t),.val (.lst (bp q.1)),s4]=.ok (.nx [.val (.int n),.val (xG (h,Z)),.val (.int t),.val (.lst (bp q.1)),.val (.int ((j:Int)+1))]):=by
 show '1';have mq:q∈Z:=dU hq;have iq:=hL.ln.iv q mq;unfold xG;unfold jW;simp_all [pL];cases t with
 |zero=>
  rw[decide_eq_false (show¬(((0:Nat)):Int)>0 by lia)];dsimp
 |succ u=>
  have hz:u+1<Z.length:=(bH.mp hq).1;obtain⟨p,ep⟩:∃p,Z[u]?=aa p:=⟨Z[u],aP (by lia)⟩
  have ip:=hL.ln.iv p (dU ep);have hf:uh p q=[]:=by
   have e:Z=Z.take u++p::q::Z.drop (u+2):=by
    have h1:Z.drop u=p::Z.drop (u+1):=by rw[rh (by lia)];rw[aP (by lia)]at ep;rw[ck.inj ep]
    have h2:Z.drop (u+1)=q::Z.drop (u+2):=by rw[rh (by lia)];rw[aP (by lia)]at hq;rw[ck.inj hq]
    rw[<-h2,<-h1,JN]
   exact hL.ln.nb (A:=Z.take u) (B:=Z.drop (u+2)) e
  have hd:=(g5 ip iq).mp hf j hj;have e1:xV (bp q.1) (.int ((j:Int)+1-1))=.ok (.int (ai q.2 j)):=by rw[show(j:Int)+1-1=((j:Nat):Int)by lia];exact Lf iq (by lia)
  have e2:xV (bp q.1) (.int ((j:Int)+1))=.ok (.int (ai q.2 (j+1))):=by have:=Lf iq hj;rw[<-this];congr 2
  have er:mO (qP (Z.map (·.1))) (((u+1:Nat):Int)-1)=aa (.lst (bp p.1)):=by unfold qP;rw[yY (by lia),show(((u+1:Nat):Int)-1).toNat=u by lia,bK,bK,ep];rfl
  rw[decide_eq_true (show(((u+1:Nat)):Int)>0 by lia)];simp_all [e1,e2]
  by_cases c:ai q.2 j>ai q.2 (j+1)
  ·have h2:=hd c
   have lp:=ip.lr;dsimp [c,decide_true,a1,er];rw[jX (by lia) (by lia),jX (by lia) (by lia)];dsimp;rw[show((j:Int)+1-1).toNat=j by lia,show((j:Int)+1).toNat=j+1 by lia,decide_eq_false (by lia)];dsimp
  ·dsimp [c,decide_false]
theorem aiP{h:Int}{Z:As}(hL:LnN n Z){t:Nat}{q:RP}(hq:Z[t]?=aa q):∀(m j:Nat)(s4:Sl),j+1+m<=n->∃s4',iS jW (xK ((j:Int)+1) m) [.val (.int n),.val (xG (h,Z)),.val (.int t),.val (.lst (bp q.1)),s4]=.ok (.nx [.val (.int n),.val (xG (h,Z)),.val (.int t),.val (.lst (bp q.1)),s4'])
 |0,j,s4,_=>⟨s4,by rw[show xK ((j:Int)+1) 0=[]from rfl];rfl⟩
 |m+1,j,s4,hm=>by
  obtain⟨s,e⟩:=aiP hL hq (h:=h) m (j+1) (.val (.int ((j:Int)+1))) (by lia);refine⟨s,?_⟩;have er:xK ((j:Int)+1) (m+1)=.int ((j:Int)+1)::xK (((j+1:Nat):Int)+1) m:=by rw[Eb,Eb,Ph,bq,jV,<-xU];congr 1;congr 1;apply y6;intro x _;simp_all only [Function.comp];lia
  rw[er,BW (if1 hL hq (by lia) s4)];exact e
def NQ(hn:1<=n/\n<=7){Z:As}{h:Int}(hL:LnN n Z)(h0:n=1->h=0)(hz:Z.length<=1000):iY [.int n,xG (h,Z)]=.ok (.bl true):=by
 have a0:∀(x y:D),mO [x,y] 0=aa x:=λ_ _=>rfl;show '1';have b3:(((2:Nat):Int)==2)=true:=rfl;have b2:((2:Int)==2)=true:=rfl;have rl:(qP (Z.map (·.1))).length=Z.length:=by unfold qP;rw[aN,aN]
 obtain⟨s',e,-⟩:=xT (S:=Sl×Sl×Sl) (b:=oN) (λ_ _=>True) (λs=>[.val (.int n),.val (xG (h,Z)),s.1,s.2.1,s.2.2]) (bp (upTo Z.length)) 0 (.no,.no,.no) trivial λt s x _ hx=>by
  have ht:t<Z.length:=by have:=(bH.mp hx).1;rw[cK,aI]at this;exact this
  have ex:x=.int (t:Int):=by unfold bp at hx;rw[bK,gy (by rw[aI];exact ht),aM ht]at hx;exact(ck.inj hx).symm
  subst ex;obtain⟨q,hq⟩:∃q,Z[t]?=aa q:=⟨Z[t],aP ht⟩
  have mq:q∈Z:=dU hq;have iq:=hL.ln.iv q mq;have hi:Iv n (upTo n) (upTo n):=sL n;have n1:q.1≠upTo n:=λe=>by have i2:=iq;rw[e]at i2;exact VS (hL.ln.ns q mq) (Prod.ext e (i2.symm.uniq hi.symm))
  have n2:q.1≠(upTo n).reverse:=λe=>by have i2:=iq;rw[e]at i2;exact hL.nh q mq (Prod.ext e (i2.symm.uniq (WU n).symm))
  have er:mO (qP (Z.map (·.1))) (t:Int)=aa (.lst (bp q.1)):=by unfold qP;rw[yY (by lia),bu,bK,bK,hq];rfl
  obtain⟨s4,e4⟩:=aiP hL hq (h:=h) (n-1) 0 s.2.2 (by lia);refine⟨(.val (.int t),.val (.lst (bp q.1)),s4),?_,trivial⟩;unfold xG at e4⊢;dsimp only at e4⊢;unfold oN;simp_all [pL,a1,er,Xn hn.2 (gR iq) n1 n2,iO];rw[UJ _ _ (by lia),show((n:Int)-1).toNat=n-1 by lia];dsimp;exact e4
 unfold xG at e⊢;dsimp only at e;have rg:Ut [.int (Z.length:Int)]=.ok (bp (upTo Z.length)):=by rw[adP _ (by lia),bu,Cw]
 unfold iY ya;simp_all [sub_tt,Vu,iO,b2,b3,a0,a1,HG,rl]
 by_cases c:n=1
 ·obtain rfl:=h0 c
  subst c;dsimp [show(((1:Nat):Int)==1)=true from rfl,show((0:Int)==0)=true from rfl,iO,a1,rl,rg,e]
 ·have c2:((n:Int)==1)=false:=beq_eq_false_iff_ne.mpr (by lia)
  dsimp [c2,a1,rl,rg,e]
theorem F6(P:Int->Prop)(hP:∀k l,P k->P l->(0<k/\0<l)\/(k<0/\l<0)):∀(B A:Ap),(∀k∈B,P k)->∃A' A'' B' B'',A=A'++A''/\B=B''++B'/\gz A B=A'++B'
 |[],A,_=>⟨A,[],[],[],by simp,rfl,by rw[bg];rfl⟩
 |k::B,A,h=>by
  rw[HB]
  by_cases c:jb A k=A++[k]
  ·rw[c,HC P hP B A k (h k (by simp)) λx hx=>h x (by simp[hx])]
   exact⟨A,[],k::B,[],by simp,rfl,rfl⟩
  ·have e:jb A k=A.dropLast:=by
    unfold jb at c⊢;split
    ·rfl
    ·rename_i z
     rw[if_neg z]at c;exact absurd rfl c
   rw[e];obtain⟨A',A'',B',B'',e1,e2,e3⟩:=F6 P hP B A.dropLast λx hx=>h x (by simp[hx])
   by_cases hA:A=[]
   ·subst hA
    exact⟨A',A'',B',k::B'',e1,by rw[e2];rfl,e3⟩
   ·exact⟨A',A''++[A.getLast hA],B',k::B'',by rw[<-aZ,<-e1,Jg],by rw[e2];rfl,e3⟩
def Xo{s b:Ap}{m:Nat}(hs:Blk n s m)(hb:Gp n b\/b=[]):Blk n (gz s b) (m+1):=by
 rcases hb with g|rfl
 ·have:∃A' A'' B' B'',s=A'++A''/\b=B''++B'/\gz s b=A'++B':=by
   rcases g.sg with h|h
   ·exact F6 (λx=>0<x) (λ_ _ a b=>.inl ⟨a,b⟩) b s h
   ·exact F6 (λx=>x<0) (λ_ _ a b=>.inr ⟨a,b⟩) b s h
  obtain⟨A',A'',B',B'',e1,e2,e3⟩:=this;obtain⟨bs,f1,f2,f3⟩:=hs;obtain⟨cs,c1,c2,c3⟩:=Q2 bs A' A'' (f1.trans e1) f3;obtain⟨ds,d1,d2,d3⟩:=JE [b] B'' B' (by simpa using e2) (λz hz=>by rw[dN.mp hz];exact .inl g);rw[tR]at d1;exact⟨cs++ds,by rw[ue,c2,d2,e3],by rw[br];lia,λz hz=>(cu.mp hz).elim (c3 z) (d3 z)⟩
 ·obtain⟨bs,f1,f2,f3⟩:=hs
  exact⟨bs,f1,by lia,f3⟩
theorem L7:∀(bs:List Ap){s:Ap}{m:Nat},Blk n s m->Bl n bs->Blk n (gz s bs.flatten) (m+bs.length)
 |[],s,m,h,_=>h
 |b::bs,s,m,h,g=>by rw[dM,LD,aR,show m+(bs.length+1)=m+1+bs.length by lia];exact L7 bs (Xo h (g b (by simp))) λz hz=>g z (by simp[hz])
def BX(c:¬2<=n)(hw:∀k∈w,cQ n k):w=[]:=by
 cases w with
 |nil=>rfl
 |cons k w=>have:=hw k (by simp);unfold cQ at this;lia
def L8(h1:1<=n)(hn:n<=7)(hw:∀k∈w,cQ n k)(hl:w.length<=40):∃ω,fj [.int n,.lst (bp w)]=.ok (xG ω)/\LnN n ω.2/\(n=1->ω.1=0)/\(2<=n->ω=iD n w (0,[]))/\ω.1.natAbs<=w.length/\ω.2.length<=w.length:=by
 by_cases c:2<=n
 ·obtain⟨e,F⟩:=SW hn c hw hl
  have hb:=F.bd;exact⟨iD n w (0,[]),by rw[e,NK],⟨F.ln,F.nh⟩,λz=>absurd z (by lia),λ_=>rfl,by lia,F.ll⟩
 ·have w0:=BX c hw
  subst w0;obtain⟨h,Z,e,F,_⟩:=QT (n:=n) h1 hn hw (by simp) ⟨[],rfl,iJ _,λz hz=>nomatch hz⟩;have hb:=F.bd;have hll:=F.ll;rw[cD]at hb hll;exact⟨(h,Z),by rw[e,NK],⟨F.ln,F.nh⟩,λ_=>by show h=0;lia,λz=>absurd z c,by show h.natAbs<=0;lia,hll⟩
def Xp{u v:Ap}{ω ω':Int×As}(e:fj [.int n,.lst (bp u)]=.ok (xG ω))(e':fj [.int n,.lst (bp v)]=.ok (xG ω')):Fo [.int n,.lst (bp u),.lst (bp v)]=.ok (.bl (ω.1==ω'.1&&decide (ω.2.map (·.1)=ω'.2.map (·.1)))):=by unfold Fo VZ;simp_all [e,e',Rp]
def val_eq(h1:1<=n)(hn:n<=7){u v:Ap}(hu:∀k∈u,cQ n k)(hv:∀k∈v,cQ n k)(lu:u.length<=40)(lv:v.length<=40)(h:2<=n->Lk n u v):∃ω,fj [.int n,.lst (bp u)]=.ok (xG ω)/\fj [.int n,.lst (bp v)]=.ok (xG ω)/\LnN n ω.2/\(n=1->ω.1=0)/\(2<=n->ω=iD n u (0,[]))/\ω.1.natAbs<=u.length/\ω.2.length<=u.length:=by
 obtain⟨ω,e,r1,r2,r3,r4,r5⟩:=L8 h1 hn hu lu;refine⟨ω,e,?_,r1,r2,r3,r4,r5⟩
 by_cases c:2<=n
 ·obtain⟨ω',e',_,_,r3',_⟩:=L8 h1 hn hv lv
  rw[e',r3' c,<-h c _ wV,<-r3 c]
 ·rw[BX c hv,<-BX c hu]
  exact e
def NR(hn:1<=n/\n<=7){u v:Ap}{ω:Int×As}(fu:fj [.int n,.lst (bp u)]=.ok (xG ω))(fv:fj [.int n,.lst (bp v)]=.ok (xG ω))(hL:LnN n ω.2)(h0:n=1->ω.1=0)(hz:ω.2.length<=1000):mh [.int n,.lst (bp u),.lst (bp v)]=.ok (.bl true):=by
 have hf:iY [.int n,xG ω]=.ok (.bl true):=NQ hn hL h0 hz;unfold mh Fp;have ke:Ae (xG ω) (xG ω)=aa (.bl true):=by rw[Rp,same_self]
 simp_all [fu,fv,hf,ke]
def gpB(m:Nat)(p:Ap):Bool:=(p.all (λk=>decide (0<k))||p.all λk=>decide (k<0))&&(fR (p.map zH) (upTo m)).isSome
def acA{m:Nat}{p:Ap}(hx:∀k∈p,cQ m k)(h:gpB m p=true):Gp m p\/p=[]:=by
 by_cases c:p=[]
 ·exact .inr c
 ·unfold gpB at h
  rw[di,yV,gZ,gZ,OC]at h;refine .inl ⟨c,hx,h.1.imp (λq k hk=>of_decide_eq_true (q k hk)) (λq k hk=>of_decide_eq_true (q k hk)),h.2⟩
def afK:((bG 5).all λn=>(z6 n n).all λr=> !(decide r.Nodup)||(bG n).all λq=>gpB (n-1) (b9 cj q (Tt r))&&gpB (n-1) (b9 cj q (jM (Tt r))))=true:=by decide +kernel
theorem HH{F:Int->Int->Ap}:∀(bs:List Ap)(q:Int),0<=q->q<n->(∀b∈bs,∀k∈b,cQ n k)->∃cs:List Ap,cs.length=bs.length/\b9 F q bs.flatten=cs.flatten/\∀c∈cs,∃b∈bs,∃q':Int,(0<=q'/\q'<n)/\c=b9 F q' b
 |[],q,_,_,_=>⟨[],rfl,rfl,λc hc=>nomatch hc⟩
 |b::bs,q,h0,h1,h=>by
  obtain⟨s0,s1⟩:=CV b q h0 h1 (h b (by simp));obtain⟨cs,e1,e2,e3⟩:=HH (F:=F) bs (ky q b) s0 s1 λx hx=>h x (by simp[hx]);refine⟨b9 F q b::cs,by rw[aR,aR,e1],by rw[dM,qH,e2,dM],λc hc=>?_⟩;rcases aX.mp hc with rfl|hc
  ·exact⟨b,by simp,q,⟨h0,h1⟩,rfl⟩
  ·obtain⟨b',hb,q',hq,e⟩:=e3 c hc
   exact⟨b',by simp[hb],q',hq,e⟩
def Xq(hn:n<=4)(h2:2<=n)(hw:∀k∈w,cQ n k)(hl:w.length<=10){s:Int}(s0:0<=s)(s1:s<n){ω ω':Int×As}(ea:ω=iD n w (0,[]))(l1:ω.1.natAbs<=w.length)(l2:ω.2.length<=w.length)(hL:LnN n ω.2)
  (ef:fj [.int ((n-1:Nat):Int),.lst (bp (b9 cj s w))]=.ok (xG ω'))(e':2<=n-1->ω'=iD (n-1) (b9 cj s w) (0,[])):fj [.int ((n-1:Nat):Int),.lst (bp (b9 cj s (HF n ω)))]=.ok (xG ω')/\(HF n ω).length<=1000:=by
 have hr:∀r∈ω.2.map (·.1),bO n r:=λr hr=>by obtain⟨p,hp,rfl⟩:=dQ.mp hr;exact gR (hL.ln.iv p hp)
 have f2:=(zp (n:=n) (by lia) (h:=ω.1) hr).2.1;have f3:∀k∈HF n ω,cQ n k:=(zp (n:=n) (by lia) (h:=ω.1) hr).2.2;rw[aN]at f2;have fl:(HF n ω).length<=420:=by show(z4 n ω.1 (ω.2.map (·.1))).length<=420;lia
 refine⟨?_,by lia⟩;have ex:=(z5 (n:=n) (by lia)) (HF n ω) s s0 s1 f3;have E:=afH hn h2 hw s s0 s1;rw[<-ea]at E
 by_cases c:2<=n-1
 ·have el:(b9 cj s (HF n ω)).length<=900:=by
   have:=vB BU (HF n ω) s;lia
  show 'a';have gq:∀r,bO n r->∀q:Int,0<=q->q<n->(Gp (n-1) (b9 cj q (j3 n r))\/b9 cj q (j3 n r)=[])/\(Gp (n-1) (b9 cj q (jM (j3 n r)))\/b9 cj q (jM (j3 n r))=[]):=λr hr q q0 q1=>by have h:=afK;rw[gZ]at h;have h1:=h n (by rw[gA];lia);rw[gZ]at h1;have m:=F3 (n:=n) r λx hx=>hr.mem.mp hx;rw[hr.len]at m;have h3:=h1 r m;rw[decide_eq_true hr.nd,iO,vW,gZ]at h3;have h4:=h3 q.toNat (by rw[gA];lia);rw[di,show((q.toNat:Nat):Int)=q by lia,<-F0 (by lia) hr]at h4;have tx:∀k∈jM (j3 n r),cQ n k:=FU (by lia) h2 (GF hn h2 hr);exact⟨acA (z5 (by lia) _ q q0 q1 (GF hn h2 hr)) h4.1,acA (z5 (by lia) _ q q0 q1 tx) h4.2⟩
  have hv:(vG n ω.1).length=ω.1.natAbs:=by unfold vG;split<;>rw[AA]<;>lia
  have isb:∀b∈vG n ω.1++(ω.2.map (·.1)).map (j3 n),(∀k∈b,cQ n k)/\∀q:Int,0<=q->q<n->(Gp (n-1) (b9 cj q b)\/b9 cj q b=[]):=λb hb=>by
   rcases cu.mp hb with hb|hb
   ·unfold vG at hb
    split at hb
    ·rw[(rK.mp hb).2]
     exact⟨FU (by lia) h2 (GF hn h2 hh),λq q0 q1=>(gq _ hh q q0 q1).2⟩
    ·rw[(rK.mp hb).2]
     exact⟨GF hn h2 hh,λq q0 q1=>(gq _ hh q q0 q1).1⟩
   ·obtain⟨r,h1,rfl⟩:=dQ.mp hb
    exact⟨GF hn h2 (hr r h1),λq q0 q1=>(gq _ (hr r h1) q q0 q1).1⟩
  have en:HF n ω=(vG n ω.1++(ω.2.map (·.1)).map (j3 n)).flatten:=by show(vG n ω.1).flatten++_=_;rw[ue]
  obtain⟨cs,c1,c2,c3⟩:=HH (F:=cj) (n:=n) (vG n ω.1++(ω.2.map (·.1)).map (j3 n)) s s0 s1 λb hb=>(isb b hb).1;obtain⟨bs,b1,b2,b3⟩:=L7 (n:=n-1) cs (s:=[]) (m:=0) ⟨[],rfl,aY _,λz hz=>nomatch hz⟩ λc hc=>by obtain⟨b,hb,q',hq,rfl⟩:=c3 c hc;exact(isb b hb).2 q' hq.1 hq.2
  rw[br,aN,aN,hv]at c1;have e:=(Hz (n:=n-1) (by lia) c ex el ⟨bs,by rw[b1,en,c2],by lia,b3⟩).1;rw[e,NK,<-(E.2 c) _ wV,e' c]
 ·have hx:=(z5 (n:=n) (by lia)) w s s0 s1 hw
  rw[BX c ex,<-BX c hx];exact ef
def aiQ(hn:2<=n/\n<=5){w v:Ap}(hw:∀k∈w,cQ n k)(hv:∀k∈v,cQ n k)(lw:w.length<=10)(lv:v.length<=14)(G:FZ n w v){ω:Int×As}(ew:fj [.int n,.lst (bp w)]=.ok (xG ω))(ea:ω=iD n w (0,[]))(hL:LnN n ω.2)(g1:ω.1.natAbs<=w.length)(g2:ω.2.length<=w.length)(s0' s3:Sl)(sd:Int){s:Int}(h0:0<=s)(h1:s<n)(s7 s8 s9 sA:Sl):
  ∃t9,Fq (.int s) [s0',.val (.int sd),.val (.int n),s3,.val (.lst (bp w)),.val (.lst (bp v)),.val (xG ω),s7,s8,s9,sA]=.ok (.nx [s0',.val (.int sd),.val (.int n),s3,.val (.lst (bp w)),.val (.lst (bp v)),.val (xG ω),.val (.int s),.val (.lst (bp (b9 cj s w))),t9,.val (.lst (bp (b9 mU s w)))]):=by
 have c1:(n:Int)-1=((n-1:Nat):Int):=by lia
 have c2:(n:Int)+1=((n+1:Nat):Int):=by lia
 have ow:=z5 (n:=n) (by lia) w s h0 h1 hw;have ov:=z5 (n:=n) (by lia) v s h0 h1 hv;have xq:=Rm (n:=n) w s h0 h1 hw;have rv:=Rm (n:=n) v s h0 h1 hv;have l1:=vB BU w s;have l2:=vB BU v s;have l3:=vB JK w s;have l4:=vB JK v s;obtain⟨ω1,a1,a2,a3,a4,a5,a6,a7⟩:=val_eq (n:=n-1) (by lia) (by lia) ow ov (by lia) (by lia) ((G.o (by lia) hn.2 s h0 h1).2);obtain⟨ω2,b1,b2,b3,b4,b5,b6,b7⟩:=val_eq (n:=n+1) (by lia) (by lia) xq rv (by lia) (by lia) ((G.r (by lia) hn.2 s h0 h1).2);have o1:=NR (n:=n-1) ⟨by lia,by lia⟩ a1 a2 a3 a4 (by lia);have o2:=NR (n:=n+1) ⟨by lia,by lia⟩ b1 b2 b3 b4 (by lia);have w1:=sS (n:=n) h0 h1 (by lia) w (by lia);have w2:=sS (n:=n) h0 h1 (by lia) v (by lia);have d1:=FW (n:=n) h0 h1 (by lia) w (by lia);have d2:=FW (n:=n) h0 h1 (by lia) v (by lia);have nz:∀k∈w,k≠0:=λk hk=>by have:=hw k hk;unfold cQ at this;lia
 have m2:∀i:Int,uW (.int i) (.int 2)=aa (.int (i%2)):=λi=>nK _ _ (by decide);have d5:∀i:Int,Cg (.int i) (.int 5)=aa (.int (i/5)):=λi=>wm _ _ (by decide);have bk:kM [.int ((n+1:Nat):Int),.lst (bp (b9 mU s w)),.int (s+sd/5%2)]=.ok (bp w):=by
  have A:=A2 w s h0 nz;have hm:sd/5%2=0\/sd/5%2=1:=by lia
  rcases hm with c|c
  ·rw[c,qz,sS (n:=((n+1:Nat):Int)) h0 (by lia) (by lia) _ (by lia),A.1]
  ·rw[c,sS (n:=((n+1:Nat):Int)) (by lia) (by lia) (by lia) _ (by lia),A.2]
 have ks:G4 (xG ω) (xG ω)=aa (.bl false):=by rw[Rq,same_self];rfl
 have k1:G4 (xG ω1) (xG ω1)=aa (.bl false):=by rw[Rq,same_self];rfl
 unfold Fq;simp_all [pL,w1,w2,c1,o1,iO]
 by_cases c:n<=4
 ·have cd:decide ((n:Int)<5)=true:=decide_eq_true (by lia)
  obtain⟨fa,la⟩:=Xq (w:=w) c hn.1 hw lw h0 h1 ea g1 g2 hL a1 a5;have hr:∀r∈ω.2.map (·.1),bO n r:=λr hr=>by obtain⟨p,hp,rfl⟩:=dQ.mp hr;exact gR (hL.ln.iv p hp)
  have fw:mC [.int n,xG ω]=.ok (bp (HF n ω)):=JH ⟨by lia,by lia⟩ hr (by rw[aN];lia);have w3:=sS (n:=n) h0 h1 (by lia) (HF n ω) (by lia);refine⟨.val (.lst (bp (b9 cj s (HF n ω)))),?_⟩;simp_all [cd,fw,w3,c1,fa,a1,k1,d1,d2,c2,o2,iO,d5,m2,bk,ew,ks]
 ·have cd:decide ((n:Int)<5)=false:=decide_eq_false (by lia)
  refine⟨s9,?_⟩;simp_all [cd,d1,d2,c2,o2,iO,d5,m2,bk,ew,ks]
def aiR(ns:Ap)(hl:ns.length<=63):Ft [.lst (bp ns)]=.ok (.bl true):=by
 unfold Ft abW;simp_all;rw[show iW [.lst (bp ns),.int 0]=.ok (.int (ai ns 0))from abk ns 0];dsimp;rw[nK _ _ (by decide)];dsimp [Xm];generalize ai ns 0%1000000007=sd;obtain⟨n,en,hn⟩:∃n:Nat,2+sd/13%4=(n:Int)/\2<=n/\n<=5:=⟨(2+sd/13%4).toNat,by lia,by lia,by lia⟩
 rw[en];obtain⟨rm,em,hr⟩:∃rm:Nat,(if decide ((n:Int)>3)=true then R.ok (D.int 6)else R.ok (D.int 10))=.ok (.int (rm:Int))/\rm<=10:=by
  by_cases c:decide ((n:Int)>3)=true
  ·exact⟨6,if_pos c,by lia⟩
  ·exact⟨10,if_neg c,by lia⟩
 rw[em];dsimp;rw[tY,uY _ _ (by decide),Vt _ _ _ (by rw[fG];lia) (by lia) (by lia)];dsimp;have dx:∀k∈Ah (ns.drop (1:Int).toNat) n rm,cQ n k:=Vs;have dl:(Ah (ns.drop (1:Int).toNat) n rm).length<=rm:=by unfold Ah;rw[fA];lia
 generalize Ah (ns.drop (1:Int).toNat) n rm=w at dx dl;rw[show(rm:Int)+4=((rm+4:Nat):Int)by lia];obtain⟨v,ev,hv,vl,G⟩:=NP w ns (rm+4) ⟨by lia,by lia⟩ dx (by lia) (by lia) (by lia);obtain⟨ω,fw,fv,a3,a4,a5,a6,a7⟩:=val_eq (n:=n) (by lia) (by lia) dx hv (by lia) (by lia) λh=>G.lk (by lia) h;have o1:=NR (n:=n) ⟨by lia,by lia⟩ fw fv a3 a4 (by lia);have hs:=Xp fw fv;rw[same_self]at hs;have kn:IX (.bl true) (.bl true)=aa (.bl false):=rfl;have mn:uW (.int sd) (.int (n:Int))=aa (.int (sd%(n:Int))):=nK _ _ (by lia);have q0:=Bb sd (show(n:Int)≠0 by lia);have q1:=Eg sd (show(0:Int)<(n:Int)by lia);have f3:∀x y z:D,fit [x,y,z]=.ok [x,y,z]:=λx y z=>xS (by show 3<=aK;decide);simp_all [ev,fw,o1,iO,hs,kn,mn];have L:=λ(s:Int)(h0:0<=s)(h1:s<n)(s7 s8 s9 sA:Sl)=>aiQ hn dx hv (by lia) (by lia) G fw (a5 hn.1) a3 a6 a7 (.val (.lst (bp ns))) (.val (.int rm)) sd h0 h1 s7 s8 s9 sA;obtain⟨t1,e1⟩:=L 0 (by lia) (by lia) .no .no .no .no;obtain⟨t2,e2⟩:=L ((n:Int)-1) (by lia) (by lia) (.val (.int 0)) (.val (.lst (bp (b9 cj 0 w)))) t1 (.val (.lst (bp (b9 mU 0 w))));obtain⟨t3,e3⟩:=L (sd%(n:Int)) q0 q1 (.val (.int ((n:Int)-1))) (.val (.lst (bp (b9 cj ((n:Int)-1) w)))) t2 (.val (.lst (bp (b9 mU ((n:Int)-1) w))));rw[BW e1,BW e2,BW e3];dsimp [iS]
def afL{K:ak}(ns:Ap)(hl:ns.length<=63)(hS:gS K H a (ns.map V.int)):O9 K MN Ft [.ref a] H (λv _=>v=.bl true) λ_ _ _=>False:=ahK (aiR ns hl) hS
end DL
namespace DL.yf
open PySem PySem.Spec PyProof.Rows L2 DL
section
variable{P:aS}{w:aD}{K:ak}{mg:Str->Option ah}{base:aF}(t:Tb K mg)
def S3:pF P w K mg base 1 t.ym t.yn ["word"] rV:=by
 have h:=tH (P:=P) (w:=w) (base:=base) (k:=0) Nh t.Bv λcdv A outer s H E hr=>
  (bU (jD (G2 (cpS (N:=["k"]) (nt:=1) (caps:=[]) (au CD) ["word"] (by decide +kernel)) rfl (Us (iV t.sI (nD 0))) (Kp.ok (R9 (nt:=1) 0)) (λ_ _ _ _ _=>(EY 0 (by show rB (["k"]:List Str);decide +kernel))) (λ_ _ _ _ _=>ts0) (λ_ _ _ _ _=>(R0 m8 kJ (nB 0))))))
 exact h
def NS:pF P w K mg base 1 t.y7 t.y8 ["word"] uZ:=by
 have h:=tH (P:=P) (w:=w) (base:=base) (k:=0) yg t.CH λcdv A outer s H E hr=>
  (bh (xR 1 (q9 cL) yg.nd)
  (bh (AS gK rfl (iL (nD 0)) (EY 2 yg.nd) (bU (uE (tV (cy jO gP (PE.aW (ik gu jm t.qG jn (aQ (nB 1) cG))) (PE.aW cI) (bf _)) (AQ (cy (gQ (cP.u6 hr)) eu (PE.aW (Ab (nL 1) (PE.aW (R0 m8 kJ (PE.aW cI))))) (PE.aW (R0 m8 kJ (nB 2))) (bf _)))).pt (bU (ahx 1)) (bU (abG 1 (nD 2))))))
  (bU (G1 1))))
 exact h
def BZ:Ok P w K mg base 1 t.i9 t.ja ["n","s"] eR:=by
 have h:=Po (P:=P) (w:=w) (base:=base) (k:=0) Al t.kP λcdv A outer s H E hr=>
  (bU (uE (Kr (cy xp uC (nB 1) (PE.aW cI) (bf _)) (Uo (cy agG adn (nB 1) (nB 0) (bf _)))).pt (bU UL) iT))
 exact h
def xg:Ok P w K mg base 1 t.eI t.eJ ["k","many"] cX:=by
 have h:=Po (P:=P) (w:=w) (base:=base) (k:=0) vo t.gF λcdv A outer s H E hr=>
  (bh (uE (cy jO gP (nB 0) (PE.aW cI) (bf _)) (bU (gY (cJ fO cV (nB 0) (nB 1)))) iT)
  (bU (gY (cJ dw cW (nB 0) (nB 1)))))
 exact h
def DF:Ok P w K mg base 1 t.ki t.kj ["place","k"] gw:=by
 have h:=Po (P:=P) (w:=w) (base:=base) (k:=0) CF t.oX λcdv A outer s H E hr=>
  (bh (uE (cy (gQ (cP.u6 hr)) eu (nB 0) (PE.aW (cJ dw cW (PE.aW (ik jC lG t.vz qI (aQ (nB 1) cG))) (PE.aW cI))) (bf _)) (bU (gY (cJ fO cV (nB 0) (PE.aW cI)))) iT)
  (bh (uE (cy (gQ (cP.u6 hr)) eu (nB 0) (PE.aW (ik jC lG t.vz qI (aQ (nB 1) cG))) (bf _)) (bU (gY (cJ dw cW (nB 0) (PE.aW cI)))) iT)
  (bU (gY (nD 0)))))
 exact h
def L9:pF P w K mg base 1 t.pW t.pX ["n"] g9:=by
 have h:=tH (P:=P) (w:=w) (base:=base) (k:=0) Jh t.km λcdv A outer s H E hr=>
  (bU (jD (UG rfl t.pA t.wO (aQ (nB 0) cG))))
 exact h
def abl:pF P w K mg base 1 t.FE t.FG ["n"] Ai:=by
 have h:=tH (P:=P) (w:=w) (base:=base) (k:=0) V0 t.CI λcdv A outer s H E hr=>
  (bU (jD (ZV rfl t.pA t.wO (aQ (PE.aW (cJ dw cW (nB 0) (PE.aW cI))) (aQ (PE.aW (R0 m8 kJ (PE.aW cI))) (aQ (PE.aW (R0 m8 kJ (PE.aW cI))) cG))))))
 exact h
def JO:pF P w K mg base 1 t.mG t.mH ["row"] gj:=by
 have h:=tH (P:=P) (w:=w) (base:=base) (k:=0) qo t.mJ λcdv A outer s H E hr=>
  (bh (xR 1 (ahs (q9 (aJ cI cL)) (PE.aW (ik gu jm t.qG jn (aQ (nB 0) cG)))) qo.nd)
  (bh (AS gK rfl (iE t.uw (nD 0)) (gT2 2 rfl (yW (EY 2 qo.nd) (yW (EY 3 qo.nd) MQ))) (bU (IM 1 (nB 3) (nD 2))))
  (bU (G1 1))))
 exact h
def Xs:pF P w K mg base 1 t.Bw t.Bx ["row"] y0:=by
 have h:=tH (P:=P) (w:=w) (base:=base) (k:=0) SD t.ze λcdv A outer s H E hr=>
  (bU (jD (G2 (cpS (N:=["k","row"]) (nt:=1) (caps:=[0]) (au Fy) ["row"] (by decide +kernel)) rfl (Us (iR2 t.wO (aQ (PE.aW cI) (aQ (PE.aW (ik gu jm t.qG jn (aQ (nB 0) cG))) cG)))) (Kp.ok (R9 (nt:=1) 0)) (λ_ _ _ _ _=>(EY 0 (by show rB (["k","row"]:List Str);decide +kernel))) (λ_ _ _ _ _=>(ts1 (cy jO gP (PE.aW (Ab (nL 1) (PE.aW (cJ dw cW (nB 0) (PE.aW cI))))) (PE.aW (Ab (nL 1) (nB 0))) (bf _)))) (λ_ _ _ _ _=>(nD 0)))))
 exact h
def vC:pF P w K mg base 1 t.dA t.dB ["row","k"] cC:=by
 have h:=tH (P:=P) (w:=w) (base:=base) (k:=0) uH t.cR λcdv A outer s H E hr=>
  (bU (jD (Gr (PE.uV (Gr (PE.uV (pS (nL 0) Tf (AR (PE.aW (cJ dw cW (nB 1) (PE.aW cI)))))) (PE.uV (q9 (aJ (Ab (nL 0) (nB 1)) (aJ (Ab (nL 0) (PE.aW (cJ dw cW (nB 1) (PE.aW cI)))) cL)))))) (PE.uV (pS (nL 0) (AR (PE.aW (cJ fO cV (nB 1) (PE.aW cI)))) Tf)))))
 exact h
def F7:pF P w K mg base 1 t.qp t.qq ["row"] lg:=by
 have h:=tH (P:=P) (w:=w) (base:=base) (k:=0) Dz t.uJ λcdv A outer s H E hr=>
  (bU (jD (G2 (cpS (N:=["string","row"]) (nt:=1) (caps:=[0]) (au r9) ["row"] (by decide +kernel)) rfl (Us (iV t.sI (nD 0))) (Kp.ok (R9 (nt:=1) 0)) (λ_ _ _ _ _=>(EY 0 (by show rB (["string","row"]:List Str);decide +kernel))) (λ_ _ _ _ _=>ts0) (λ_ _ _ _ _=>(cJ dw cW (PE.aW (cJ dw cW (PE.aW (ik gu jm t.qG jn (aQ (nB 1) cG))) (PE.aW cI))) (nB 0))))))
 exact h
def NT:Ok P w K mg base 1 t.zf t.zg ["crossings"] vc:=by
 have h:=Po (P:=P) (w:=w) (base:=base) (k:=0) uj t.mK λcdv A outer s H E hr=>
  (bh (jZ 1 cI uj.nd)
  (bh (AS gK rfl (iL (nD 0)) (EY 2 uj.nd) (bU (abJ 1 ahG (PE.aW (cJ ac2 Z0 (PE.aW cI) (PE.aW (cJ dw cW (nB 2) (PE.aW cI))))) uj.nd)))
  (bU (gY (nD 1)))))
 exact h
def Mb:Ok P w K mg base 1 t.sj t.sy ["_law_cell","_law_k","_law_factor"] lZ:=by
 have h:=Po (P:=P) (w:=w) (base:=base) (k:=0) Ji t.wJ λcdv A outer s H E hr=>
  (bU (gY (cJ qX q8 (PE.aW (cJ lW jl (PE.aW (cJ HZ D5 (PE.aW (cJ fO cV (PE.aW (cJ fO cV (PE.aW (cJ HZ D5 (PE.aW (cJ lW jl (nB 0) (PE.aW cI))) (PE.aW cI))) (PE.aW (cJ HZ D5 (nB 1) (nB 1))))) (PE.aW cI))) (nB 2))) (PE.aW cI))) (PE.aW cI))))
 exact h
def DG:Ok P w K mg base 1 t.o4 t.o5 ["_law_script","_law_k"] iW:=by
 have h:=Po (P:=P) (w:=w) (base:=base) (k:=0) CG t.sC λcdv A outer s H E hr=>
  (bh (uE (cy xp uC (nB 1) (PE.aW (ik gu jm t.qG jn (aQ (nB 0) cG))) (bf _)) (bU (gY (Ab (nL 0) (nB 1)))) iT)
  (bU (gY cI)))
 exact h
def DH:Ok P w K mg base 1 t.o6 t.o7 ["_law_seed","_law_least","_law_most"] j8:=by
 have h:=Po (P:=P) (w:=w) (base:=base) (k:=0) vv t.sE λcdv A outer s H E hr=>
  (bh (uE (tV (cy (gQ (cP.u6 hr)) eu (nB 1) (PE.aW cI) (bf _)) (AQ (cy (gQ (cP.u6 hr)) eu (PE.aW (cJ lW jl (nB 0) (PE.aW cI))) (PE.aW cI) (bf _)))).pt (bU (gY cI)) iT)
  (bh (jZ 1 (ik (RJ rfl) Up t.abZ adJ (aQ (PE.aW cI) (aQ (nB 1) cG))) vv.nd)
  (bU (gY (cJ fO cV (nB 1) (PE.aW (cJ lW jl (PE.aW (cJ qX q8 (nB 0) (PE.aW cI))) (PE.aW (cJ fO cV (PE.aW (cJ dw cW (nB 2) (nB 1))) (PE.aW cI))))))))))
 exact h
def CW:Ok P w K mg base 1 t.jI t.jJ ["_law_number_here","_law_n"] fQ:=by
 have h:=Po (P:=P) (w:=w) (base:=base) (k:=0) uk t.lU λcdv A outer s H E hr=>
  (bh (jZ 2 (cJ fO cV (PE.aW cI) (PE.aW (cJ lW jl (nB 0) (PE.aW (cJ dw cW (nB 1) (PE.aW cI)))))) uk.nd)
  (bh (uE (cy (gQ (cP.u6 hr)) eu (PE.aW (cJ lW jl (PE.aW (cJ qX q8 (nB 0) (PE.aW cI))) (PE.aW cI))) (PE.aW cI) (bf _)) (bU (gY (R0 m8 kJ (nB 2)))) iT)
  (bU (gY (nD 2)))))
 exact h
def JP:pF P w K mg base 1 t.uu t.uv ["_law_word","_law_deed_here"] qB:=by
 have h:=tH (P:=P) (w:=w) (base:=base) (k:=0) z0 t.yt λcdv A outer s H E hr=>
  (bh (jZ 2 (Ci (nD 1) (PE.aW cI)) z0.nd)
  (bh (uE (cy (gQ (cP.u6 hr)) eu (PE.aW (Ci (nD 1) (PE.aW cI))) (PE.aW cS) (bf _)) (bU (jD (Gr (PE.uV (pS (nL 0) Tf (AR (nB 2)))) (PE.uV (pS (nL 0) (AR (PE.aW (cJ fO cV (nB 2) (PE.aW cI)))) Tf))))) iT)
  (bh (uE (cy (gQ (cP.u6 hr)) eu (PE.aW (Ci (nD 1) (PE.aW cI))) (PE.aW cS) (bf _)) (bU (jD (Gr (PE.uV (Gr (PE.uV (pS (nL 0) Tf (AR (nB 2)))) (PE.uV (q9 (aJ (Ci (nD 1) (PE.aW cI)) (aJ (R0 m8 kJ (PE.aW (Ci (nD 1) (PE.aW cI)))) cL)))))) (PE.uV (pS (nL 0) (AR (nB 2)) Tf))))) iT)
  (bh (uE (cy (gQ (cP.u6 hr)) eu (PE.aW (Ci (nD 1) (PE.aW cI))) (PE.aW cS) (bf _)) (bU (jD (Gr (PE.uV (Gr (PE.uV (pS (nL 0) Tf (AR (nB 2)))) (PE.uV (q9 (aJ (Ab (nL 0) (PE.aW (cJ fO cV (nB 2) (PE.aW cI)))) (aJ (Ab (nL 0) (nB 2)) cL)))))) (PE.uV (pS (nL 0) (AR (PE.aW (cJ fO cV (nB 2) (PE.aW cI)))) Tf))))) iT)
  (bU (jD (Gr (PE.uV (Gr (PE.uV (pS (nL 0) Tf (AR (nB 2)))) (PE.uV (q9 (aJ (Ab (nL 0) (PE.aW (cJ fO cV (nB 2) (PE.aW cI)))) (aJ (Ab (nL 0) (nB 2)) (aJ (Ab (nL 0) (PE.aW (cJ fO cV (nB 2) (PE.aW cI)))) cL))))))) (PE.uV (pS (nL 0) (AR (PE.aW (cJ fO cV (nB 2) (PE.aW cI)))) Tf)))))))))
 exact h
def F8:Ok P w K mg base 1 t.lB t.lC ["_law_x"] hU:=by
 have h:=Po (P:=P) (w:=w) (base:=base) (k:=0) DC t.qw λcdv A outer s H E hr=>
  (bU (gY (Y3 (PE.aW (UC adF adI t.kQ t.abY (nB 0))) (ado (aky (PE.aW (UC Zn Zo t.kQ t.V7 (nB 0))))))))
 exact h
def zJ(dJ:Ok P w K mg base 1 t.eI t.eJ ["k","many"] cX):pF P w K mg base 2 t.jz t.jA ["place","k"] dO:=by
 have h:=tH (P:=P) (w:=w) (base:=base) (k:=1) qF t.jB λcdv A outer s H E hr=>
  (bh (jZ 2 (G5 G9 t.gF dJ hr.mono (aQ (nB 1) (aQ (PE.aW cI) cG))) qF.nd)
  (bh (uE (cy (gQ (cP.u6 hr)) eu (nB 0) (PE.aW (cJ dw cW (PE.aW (ik jC lG t.vz qI (aQ (nB 1) cG))) (PE.aW cI))) (bf _)) (bU (jD (q9 (aJ (nD 2) (aJ (nD 1) cL))))) iT)
  (bh (uE (cy (gQ (cP.u6 hr)) eu (nB 0) (PE.aW (ik jC lG t.vz qI (aQ (nB 1) cG))) (bf _)) (bU (jD (q9 (aJ (nD 1) (aJ (nD 2) cL))))) iT)
  (bh (uE (cy xp uC (nB 0) (PE.aW (ik jC lG t.vz qI (aQ (nB 1) cG))) (bf _)) (bU (jD (q9 (aJ (nD 2) cL)))) iT)
  (bU (jD (q9 (aJ (nD 1) cL))))))))
 exact h
def xh(dJ:Ok P w K mg base 1 t.eI t.eJ ["k","many"] cX)(jd:Ok P w K mg base 1 t.ki t.kj ["place","k"] gw):pF P w K mg base 2 t.gG t.gH ["place","k"] cY:=by
 have h:=tH (P:=P) (w:=w) (base:=base) (k:=1) vp t.gJ λcdv A outer s H E hr=>
  (bh (uE (cy (wk (cP.u6 hr)) rn (PE.aW (G5 G9 t.oX jd hr.mono (aQ (nB 0) (aQ (nB 1) cG)))) (nB 0) (bf _)) (bU (jD (q9 cL))) iT)
  (bh (uE (cy xp uC (nB 0) (PE.aW (ik jC lG t.vz qI (aQ (nB 1) cG))) (bf _)) (bU (jD (q9 (aJ (G5 G9 t.gF dJ hr.mono (aQ (nB 1) (aQ (PE.aW (R0 m8 kJ (PE.aW cI))) cG))) cL)))) iT)
  (bU (jD (q9 (aJ (nD 1) cL))))))
 exact h
def S4(gk:pF P w K mg base 1 t.mG t.mH ["row"] gj)(zk:pF P w K mg base 1 t.Bw t.Bx ["row"] y0):pF P w K mg base 2 t.yo t.yp ["row"] rY:=by
 have h:=tH (P:=P) (w:=w) (base:=base) (k:=1) Ni t.si λcdv A outer s H E hr=>
  (bU (jD (zD t.ze zk hr.mono (aJ (PE.iR (zD t.mJ gk hr.mono (aJ (nD 0) cL))) cL))))
 exact h
def xj(gk:pF P w K mg base 1 t.mG t.mH ["row"] gj)(cT:pF P w K mg base 1 t.dA t.dB ["row","k"] cC):pF P w K mg base 2 t.eM t.eO ["row","k"] dG:=by
 have h:=tH (P:=P) (w:=w) (base:=base) (k:=1) vq t.dH λcdv A outer s H E hr=>
  (bU (jD (zD t.mJ gk hr.mono (aJ (PE.iR (zD t.cR cT hr.mono (aJ (PE.iR (zD t.mJ gk hr.mono (aJ (nD 0) cL))) (aJ (nD 1) cL)))) cL))))
 exact h
def S5(kB:pF P w K mg base 1 t.pW t.pX ["n"] g9)(cT:pF P w K mg base 1 t.dA t.dB ["row","k"] cC):pF P w K mg base 2 t.By t.BA ["n","word"] ve:=by
 have h:=tH (P:=P) (w:=w) (base:=base) (k:=1) wF t.BC λcdv A outer s H E hr=>
  (bh (xR 2 (zD t.km kB hr.mono (aJ (nD 0) cL)) wF.nd)
  (bh (AS gK rfl (iL (nD 1)) (EY 3 wF.nd) (bh (uE (cy xp uC (nB 3) (PE.aW cI) (bf _)) (bU UL) iT)
  (bh (uE (cy jO gP (PE.aW (Ab (nL 2) (PE.aW (cJ dw cW (nB 3) (PE.aW cI))))) (PE.aW (Ab (nL 2) (nB 3))) (bf _)) (bU UL) iT)
  (bU (xR 2 (ahr scl t.cR cT hr.mono (aQ (nB 2) (aQ (nB 3) cG))) wF.nd)))))
  (bU (G1 2))))
 exact h
def Xu(gk:pF P w K mg base 1 t.mG t.mH ["row"] gj):pF P w K mg base 2 t.Eu t.Ew ["row"] Bd:=by
 have h:=tH (P:=P) (w:=w) (base:=base) (k:=1) SE t.Jj λcdv A outer s H E hr=>
  (bU (jD (G2 (cpS (N:=["place","row"]) (nt:=1) (caps:=[0]) (au Fz) ["row"] (by decide +kernel)) rfl (Us (iL (PE.iR (zD t.mJ gk hr.mono (aJ (nD 0) cL))))) (Kp.ok (R9 (nt:=1) 0)) (λ_ _ _ _ _=>(EY 0 (by show rB (["place","row"]:List Str);decide +kernel))) (λ_ _ _ _ _=>ts0) (λ_ _ _ _ _=>(cJ dw cW (PE.aW (cJ dw cW (PE.aW (ik gu jm t.qG jn (aQ (nB 1) cG))) (PE.aW cI))) (nB 0))))))
 exact h
def afM(kB:pF P w K mg base 1 t.pW t.pX ["n"] g9):OkT P w K mg base 2 t.Qp t.Qq ["n","word"] K8:=by
 have h:=okT (P:=P) (w:=w) (base:=base) (k:=1) rD t.V5 λcdv A outer s H E hr=>
  (bh (abL 2 abK rD.nd)
  (bh (xR 3 (zD t.km kB hr.mono (aJ (nD 0) cL)) rD.nd)
  (bh (jZ 4 MG rD.nd)
  (bh (AS gK rfl (iL (nD 1)) (EY 5 rD.nd) (bh (jZ 6 (ik jC lG t.vz qI (aQ (nB 5) cG)) rD.nd)
  (bh (uE (Kr (cy (gQ (cP.u6 hr)) eu (PE.aW (ik gu jm t.qG jn (aQ (nB 2) cG))) (PE.aW cI) (bf _)) (Kr (cy (wk (cP.u6 hr)) rn (nB 4) (PE.aW (MH jO gP (nB 5) (PE.aW cI) (bf _))) (bf _)) (Uo (cy jO gP (PE.aW (Ab (nL 3) (PE.aW (cJ dw cW (nB 6) (PE.aW cI))))) (PE.aW (Ab (nL 3) (nB 6))) (bf _))))).pt (bh (abN 2 (q9 cL))
  (bh (xR 3 (zD t.km kB hr.mono (aJ (nD 0) cL)) rD.nd)
  (bU (jZ 4 (MH jO gP (nB 5) (PE.aW cI) (bf _)) rD.nd)))) iT)
  (bh (ad1 2 (PE.aW (R0 m8 kJ (PE.aW cI))) (nB 5))
  (bh (jZ 7 (Ab (nL 3) (nB 6)) rD.nd)
  (bh (IM 3 (nB 6) (Ab (nL 3) (PE.aW (cJ dw cW (nB 6) (PE.aW cI)))))
  (bU (IM 3 (PE.aW (cJ dw cW (nB 6) (PE.aW cI))) (nD 7)))))))))
  (bU (abM 2))))))
 exact h
def F9(uP:pF P w K mg base 1 t.qp t.qq ["row"] lg):pF P w K mg base 2 t.qu t.qv ["halves","row"] lh:=by
 have h:=tH (P:=P) (w:=w) (base:=base) (k:=1) DB t.uL λcdv A outer s H E hr=>
  (bh (uE (cy (gQ (cP.u6 hr)) eu (PE.aW (cJ lW jl (nB 0) (PE.aW cI))) (PE.aW cI) (bf _)) (bU (jD (G0 t.pA (nL 1)))) iT)
  (bU (jD (zD t.uJ uP hr.mono (aJ (nD 1) cL)))))
 exact h
def GG(gU:Ok P w K mg base 1 t.jI t.jJ ["_law_number_here","_law_n"] fQ):Ok P w K mg base 2 t.rF t.rG ["_law_number_here","_law_n"] oH:=by
 have h:=okD (P:=P) (w:=w) (base:=base) (k:=1) se t.wK λcdv A outer s H E hr=>
  (bh (jZ 2 (G5 G9 t.lU gU hr.mono (aQ (nB 0) (aQ (nB 1) cG))) se.nd)
  (bh (uE (Kr (cy jO gP (PE.aW (cJ lW jl (PE.aW (cJ qX q8 (nB 0) (PE.aW cI))) (PE.aW cI))) (PE.aW cI) (bf _)) (Uo (cy xp uC (nB 1) (PE.aW cI) (bf _)))).pt (bU (gY (PE.iR (q9 (aJ (nD 2) cL))))) iT)
  (bh (jZ 3 (vIf (tV (cy xp uC (PE.aW (ik jC lG t.vz qI (aQ (PE.aW (cJ fO cV (nB 2) (PE.aW cI))) cG))) (nB 1) (bf _)) (AQ (cy (wk (cP.u6 hr)) rn (PE.aW (cJ fO cV (nB 2) (PE.aW cI))) (PE.aW cI) (bf _)))).pt (cJ fO cV (nB 2) (PE.aW cI)) (cJ dw cW (nB 2) (PE.aW cI))) se.nd)
  (bU (gY (Ab (PE.uV (q9 (aJ (PE.iR (q9 (aJ (nD 2) (aJ (nD 3) (aJ (nD 2) cL))))) (aJ (PE.iR (q9 (aJ (nD 2) (aJ (nD 3) cL)))) (aJ (PE.iR (q9 (aJ (nD 2) (aJ (nD 2) cL)))) (aJ (PE.iR (q9 (aJ (nD 2) (aJ (R0 m8 kJ (nB 3)) (aJ (nD 2) cL))))) cL)))))) (PE.aW (cJ lW jl (PE.aW (cJ qX q8 (nB 0) (PE.aW cI))) (PE.aW cI)))))))))
 exact h
def JQ(gU:Ok P w K mg base 1 t.jI t.jJ ["_law_number_here","_law_n"] fQ):Ok P w K mg base 2 t.uq t.ur ["_law_word","_law_n","_law_number_here","_law_room"] qC:=by
 have h:=okD (P:=P) (w:=w) (base:=base) (k:=1) uI t.yr λcdv A outer s H E hr=>
  (bh (jZ 4 (cJ lW jl (nB 2) (PE.aW (cJ fO cV (PE.aW (ik gu jm t.qG jn (aQ (nB 0) cG))) (PE.aW cI)))) uI.nd)
  (bh (jZ 5 (PE.iR (pS (nL 0) (AR (nB 4)) (AR (PE.aW (cJ fO cV (nB 4) (PE.aW cI)))))) uI.nd)
  (bh (uE (tV (cy jO gP (PE.aW (ik gu jm t.qG jn (aQ (nB 5) cG))) (PE.aW cI) (bf _)) (tV (cy (gQ (cP.u6 hr)) eu (PE.aW (Ab (nL 5) (PE.aW cI))) (PE.aW (R0 m8 kJ (PE.aW (Ab (nL 5) (PE.aW cI))))) (bf _)) (AQ (cy jO gP (PE.aW (cJ lW jl (PE.aW (cJ qX q8 (nB 2) (PE.aW cI))) (PE.aW cI))) (PE.aW cI) (bf _))))).pt (bU (gY (MJ (aJ cS (aJ (nD 4) cL))))) iT)
  (bh (uE (tV (cy jO gP (PE.aW (ik gu jm t.qG jn (aQ (nB 5) cG))) (PE.aW cI) (bf _)) (tV (cy jO gP (PE.aW (ik jC lG t.vz qI (aQ (PE.aW (cJ dw cW (PE.aW (ik jC lG t.vz qI (aQ (PE.aW (Ab (nL 5) (PE.aW cI))) cG))) (PE.aW (ik jC lG t.vz qI (aQ (PE.aW (Ab (nL 5) (PE.aW cI))) cG))))) cG))) (PE.aW cI) (bf _)) (AQ (cy jO gP (PE.aW (cJ lW jl (PE.aW (cJ qX q8 (nB 2) (PE.aW cI))) (PE.aW cI))) (PE.aW cI) (bf _))))).pt (bU (gY (MJ (aJ cS (aJ (nD 4) cL))))) iT)
  (bh (uE (tV (cy jO gP (PE.aW (ik gu jm t.qG jn (aQ (nB 5) cG))) (PE.aW cI) (bf _)) (tV (cy (gQ (cP.u6 hr)) eu (PE.aW (Ab (nL 5) (PE.aW cI))) (PE.aW (Ab (nL 5) (PE.aW cI))) (bf _)) (tV (cy jO gP (PE.aW (cJ HZ D5 (PE.aW (Ab (nL 5) (PE.aW cI))) (PE.aW (Ab (nL 5) (PE.aW cI))))) (PE.aW cI) (bf _)) (AQ (cy (gQ (cP.u6 hr)) eu (PE.aW (ik jC lG t.vz qI (aQ (PE.aW (cJ dw cW (PE.aW (Ab (nL 5) (PE.aW cI))) (PE.aW (Ab (nL 5) (PE.aW cI))))) cG))) (PE.aW cI) (bf _)))))).pt (bU (gY (MJ (aJ cS (aJ (nD 4) cL))))) iT)
  (bh (uE (tV (cy jO gP (nB 1) (PE.aW cI) (bf _)) (AQ (cy agF adm (PE.aW (cJ fO cV (PE.aW (ik gu jm t.qG jn (aQ (nB 0) cG))) (PE.aW cI))) (nB 3) (bf _)))).pt (bU (gY (MJ (aJ cS (aJ (nD 4) (aJ (G5 G9 t.lU gU hr.mono (aQ (PE.aW (cJ qX q8 (nB 2) (PE.aW cI))) (aQ (nB 1) cG))) cL)))))) iT)
  (bU (gY cN))))))))
 exact h
def Ga(jL:Ok P w K mg base 1 t.lB t.lC ["_law_x"] hU):Ok P w K mg base 2 t.qx t.qy ["_law_n","_law_row"] lj:=by
 have h:=Po (P:=P) (w:=w) (base:=base) (k:=1) qM t.uN λcdv A outer s H E hr=>
  (bh (uE (AO (ID (PE.aW (UC Pg wj t.kQ t.pA (nB 1))))) (bU (gY MG)) iT)
  (bh (AS gK rfl (iL (nD 1)) (EY 2 qM.nd) (bU (uE (AO (ID (PE.aW (G5 G9 t.qw jL hr.mono (aQ (nB 2) cG))))) (bU (gY MG)) iT)))
  (bh (jZ 3 (PE.iR (UG rfl t.pA t.wO (aQ (nB 0) cG))) qM.nd)
  (bU (gY (Y3 (PE.aW (MH (gQ (cP.u6 hr)) eu (PE.aW (PE.iR (ZP t.Lv (nL 1)))) (nB 3) (bf _))) (Y3 (PE.aW (MH (wk (cP.u6 hr)) rn (nB 1) (nB 3) (bf _))) (ado (MH (wk (cP.u6 hr)) rn (PE.aW (PE.iR (adT rfl t.pA t.sI (nL 1)))) (nB 3) (bf _))))))))))
 exact h
def GH(jd:Ok P w K mg base 1 t.ki t.kj ["place","k"] gw)(mr:pF P w K mg base 2 t.jz t.jA ["place","k"] dO)(jN:pF P w K mg base 2 t.gG t.gH ["place","k"] cY):pF P w K mg base 3 t.oY t.oZ ["word","s","told_at"] jx:=by
 have h:=tH (P:=P) (w:=w) (base:=base) (k:=2) kg t.rE λcdv A outer s H E hr=>
  (bh (xR 3 (q9 cL) kg.nd)
  (bh (jZ 4 (nD 1) kg.nd)
  (bh (AS gK rfl (iL (nD 0)) (EY 5 kg.nd) (bh (abH 3 (fFV 2 (ZY.cons t.gJ jN hr.mono (ZY.cons t.jB mr hr.mono ZY.nil)) (aJ (nD 4) (aJ (nD 5) cL))))
  (bU (jZ 4 (G5 G9 t.oX jd hr.mono (aQ (nB 4) (aQ (nB 5) cG))) kg.nd))))
  (bU (G1 3)))))
 exact h
def Mc(sJ:pF P w K mg base 2 t.yo t.yp ["row"] rY)(gM:pF P w K mg base 2 t.eM t.eO ["row","k"] dG):pF P w K mg base 3 t.wG t.wH ["row"] l9:=by
 have h:=tH (P:=P) (w:=w) (base:=base) (k:=2) kN t.wI λcdv A outer s H E hr=>
  (bh (xR 1 (q9 cL) kN.nd)
  (bh (jZ 2 (PE.iR (G0 t.pA (nL 0))) kN.nd)
  (bh (jZ 3 (PE.iR (zD t.si sJ hr.mono (aJ (nD 2) cL))) kN.nd)
  (bh (adv (λ_=>400) gK (cy jO gP (PE.aW (ik gu jm t.qG jn (aQ (nB 3) cG))) (PE.aW cI) (bf _)) (bh (abG 1 (Ab (nL 3) (PE.aW cI)))
  (bh (jZ 2 (PE.iR (zD t.dH gM hr.mono (aJ (nD 2) (aJ (Ab (nL 3) (PE.aW cI)) cL)))) kN.nd)
  (bU (jZ 3 (PE.iR (zD t.si sJ hr.mono (aJ (nD 2) cL))) kN.nd)))))
  (bU (G1 1))))))
 exact h
def Gb(JR:pF P w K mg base 2 t.Eu t.Ew ["row"] Bd):Ok P w K mg base 3 t.qr t.qt ["row"] qm:=by
 have h:=okD (P:=P) (w:=w) (base:=base) (k:=2) DA t.uK λcdv A outer s H E hr=>
  (bU (gY (MJ (aJ (R0 m8 kJ (PE.aW cI)) (aJ (PE.iR (zD t.Jj JR hr.mono (aJ (nD 0) cL))) cL)))))
 exact h
def xO(uQ:pF P w K mg base 2 t.qu t.qv ["halves","row"] lh):OkT P w K mg base 3 t.g6 t.g7 ["steps"] dm:=by
 have h:=okT (P:=P) (w:=w) (base:=base) (k:=2) dY t.fq λcdv A outer s H E hr=>
  (bh (abL 1 abK dY.nd)
  (bh (jZ 2 cI dY.nd)
  (bh (AS gK rfl (iV t.sI (nD 0)) (EY 3 dY.nd) (bh (abN 1 (zD t.uL uQ hr.mono (aJ (nD 2) (aJ (Ci (nD 3) (PE.aW cI)) cL))))
  (bU (abJ 2 TR (PE.aW (Ci (nD 3) (PE.aW cI))) dY.nd))))
  (bh (ahI 1)
  (bU (abM 1))))))
 exact h
def GJ(pZ:Ok P w K mg base 1 t.sj t.sy ["_law_cell","_law_k","_law_factor"] lZ)(xm:Ok P w K mg base 2 t.rF t.rG ["_law_number_here","_law_n"] oH):pF P w K mg base 3 t.rH t.rJ ["_law_cells","_law_n","_law_most"] oJ:=by
 have h:=tH (P:=P) (w:=w) (base:=base) (k:=2) kh t.wL λcdv A outer s H E hr=>
  (bh (jZ 3 (PE.iR (q9 cL)) kh.nd)
  (bh (AS gK rfl (iE t.uw (nD 0)) (gT2 2 rfl (yW (EY 4 kh.nd) (yW (EY 5 kh.nd) MQ))) (bU (uE (cy jO gP (nB 1) (PE.aW cI) (bf _)) (bU (jZ 3 (PE.iR (Gr (nL 3) (PE.akx (MO t.wK xm hr.mono (aJ (G5 G9 t.wJ pZ hr.mono (aQ (nB 5) (aQ (nB 4) (aQ (PE.aW cI) cG)))) (aJ (nD 1) cL)))))) kh.nd)) iT)))
  (bU (jD (pS (nL 3) Tf (AR (nB 2)))))))
 exact h
def DI(pZ:Ok P w K mg base 1 t.sj t.sy ["_law_cell","_law_k","_law_factor"] lZ)(yv:Ok P w K mg base 2 t.uq t.ur ["_law_word","_law_n","_law_number_here","_law_room"] qC)(yw:pF P w K mg base 1 t.uu t.uv ["_law_word","_law_deed_here"] qB):Ok P w K mg base 3 t.o8 t.o9 ["_law_word","_law_n","_law_cells","_law_room"] j9:=by
 have h:=okD (P:=P) (w:=w) (base:=base) (k:=2) i7 t.sF λcdv A outer s H E hr=>
  (bh (AS gK rfl (iE t.uw (nD 2)) (gT2 2 rfl (yW (EY 4 i7.nd) (yW (EY 5 i7.nd) MQ))) (bh (jZ 6 (MO t.yr yv hr.mono (aJ (nD 0) (aJ (nD 1) (aJ (G5 G9 t.wJ pZ hr.mono (aQ (nB 5) (aQ (nB 4) (aQ (PE.aW cI) cG)))) (aJ (nD 3) cL))))) i7.nd)
  (bU (uE (cy Oj KD (nB 6) (PE.aW cN) (bf _)) (bU (jZ 0 (PE.iR (zD t.yt yw hr.mono (aJ (nD 0) (aJ (nD 6) cL)))) i7.nd)) iT))))
  (bU (gY (nD 0))))
 exact h
def DJ(jL:Ok P w K mg base 1 t.lB t.lC ["_law_x"] hU)(uR:Ok P w K mg base 2 t.qx t.qy ["_law_n","_law_row"] lj):Ok P w K mg base 3 t.pe t.ph ["_law_n","_law_found"] iY:=by
 have h:=Po (P:=P) (w:=w) (base:=base) (k:=2) kO t.sG λcdv A outer s H E hr=>
  (bh (uE (Kr (AO (ID (PE.aW (UC UB KA t.kQ t.Jm (nB 1))))) (Kr (cy (wk (cP.u6 hr)) rn (PE.aW (ik gu jm t.qG jn (aQ (nB 1) cG))) (PE.aW cI) (bf _)) (Kr (AO (ID (PE.aW (G5 G9 t.qw jL hr.mono (aQ (PE.aW (Ci (nD 1) (PE.aW cI))) cG))))) (Uo (AO (ID (PE.aW (UC Pg wj t.kQ t.pA (PE.aW (Ci (nD 1) (PE.aW cI))))))))))).pt (bU (gY MG)) iT)
  (bh (uE (tV (cy (gQ (cP.u6 hr)) eu (nB 0) (PE.aW cI) (bf _)) (AQ (cy (wk (cP.u6 hr)) rn (PE.aW (Ci (nD 1) (PE.aW cI))) (PE.aW cI) (bf _)))).pt (bU (gY MG)) iT)
  (bh (AS gK rfl (iR1 t.wO (aQ (PE.aW (ik gu jm t.qG jn (aQ (PE.aW (Ci (nD 1) (PE.aW cI))) cG))) cG)) (EY 2 kO.nd) (bh (jZ 3 (Ci (Ci (nD 1) (PE.aW cI)) (nB 2)) kO.nd)
  (bh (uE (AO (ID (PE.aW (G5 G9 t.uN uR hr.mono (aQ (nB 0) (aQ (nB 3) cG)))))) (bU (gY MG)) iT)
  (bU (AS gK rfl (iR2 t.wO (aQ (PE.aW cI) (aQ (nB 0) cG))) (EY 4 kO.nd) (bU (uE (tV (cy jO gP (nB 2) (PE.aW cI) (bf _)) (tV (cy jO gP (PE.aW (UW (nL 3) (PE.aW (cJ dw cW (nB 4) (PE.aW cI))))) (PE.aW (UW (nL 3) (nB 4))) (bf _)) (AQ (cy xp uC (PE.aW (Ci (Ci (Ci (nD 1) (PE.aW cI)) (PE.aW (cJ dw cW (nB 2) (PE.aW cI)))) (PE.aW (cJ dw cW (nB 4) (PE.aW cI))))) (PE.aW (Ci (Ci (Ci (nD 1) (PE.aW cI)) (PE.aW (cJ dw cW (nB 2) (PE.aW cI)))) (nB 4))) (bf _))))).pt (bU (gY MG)) iT)))))))
  (bU (gY MG)))))
 exact h
def NU(gm:Ok P w K mg base 1 t.i9 t.ja ["n","s"] eR)(kU:pF P w K mg base 3 t.oY t.oZ ["word","s","told_at"] jx):pF P w K mg base 4 t.y9 t.za ["n","word","s"] kM:=by
 have h:=tH (P:=P) (w:=w) (base:=base) (k:=3) Lr t.rN λcdv A outer s H E hr=>
  (bh (abB (PE.aW (G5 G9 t.kP gm hr.mono (aQ (nB 0) (aQ (nB 2) cG)))))
  (bh (uE (cy (gQ (cP.u6 hr)) eu (nB 0) (PE.aW cI) (bf _)) (bU UL) iT)
  (bU (jD (zD t.rE kU hr.mono (aJ (nD 1) (aJ (nD 2) (aJ (dFn t.gJ) cL))))))))
 exact h
def NV(gm:Ok P w K mg base 1 t.i9 t.ja ["n","s"] eR)(kU:pF P w K mg base 3 t.oY t.oZ ["word","s","told_at"] jx):pF P w K mg base 4 t.zb t.zc ["n","word","s"] rL:=by
 have h:=tH (P:=P) (w:=w) (base:=base) (k:=3) Ls t.zd λcdv A outer s H E hr=>
  (bh (abB (PE.aW (G5 G9 t.kP gm hr.mono (aQ (nB 0) (aQ (nB 2) cG)))))
  (bh (uE (cy (gQ (cP.u6 hr)) eu (nB 0) (PE.aW (glI t.xF)) (bf _)) (bU UL) iT)
  (bU (jD (zD t.rE kU hr.mono (aJ (nD 1) (aJ (nD 2) (aJ (dFn t.jB) cL))))))))
 exact h
def JS(vD:pF P w K mg base 1 t.ym t.yn ["word"] rV)(JT:pF P w K mg base 1 t.FE t.FG ["n"] Ai)(xn:pF P w K mg base 3 t.wG t.wH ["row"] l9):pF P w K mg base 4 t.um t.uo ["n","form"] mC:=by
 have h:=tH (P:=P) (w:=w) (base:=base) (k:=3) ly t.yq λcdv A outer s H E hr=>
  (bh (xR 2 (zD t.wI xn hr.mono (aJ (PE.iR (zD t.CI JT hr.mono (aJ (nD 0) cL))) cL)) ly.nd)
  (bh (uE (cy xp uC (PE.aW (Ci (nD 1) (PE.aW cI))) (PE.aW cI) (bf _)) (bU (xR 3 (ahs (ahr scl t.Bv vD hr.mono (aQ (nB 2) cG)) (PE.aW (R0 m8 kJ (PE.aW (Ci (nD 1) (PE.aW cI)))))) ly.nd)) (bU (xR 3 (ahJ (mNm 2) (PE.aW (Ci (nD 1) (PE.aW cI)))) ly.nd)))
  (bh (AS gK rfl (iL (Ci (nD 1) (PE.aW cI))) (EY 4 ly.nd) (bU (abH 3 (zD t.wI xn hr.mono (aJ (nD 4) cL)))))
  (bU (G1 3)))))
 exact h
def NW(vD:pF P w K mg base 1 t.ym t.yn ["word"] rV)(B0:pF P w K mg base 2 t.By t.BA ["n","word"] ve)(uS:Ok P w K mg base 3 t.qr t.qt ["row"] qm):Ok P w K mg base 4 t.zh t.zj ["n","piece"] vg:=by
 have h:=okD (P:=P) (w:=w) (base:=base) (k:=3) Lu t.CJ λcdv A outer s H E hr=>
  (bh (uE (cy jO gP (PE.aW (Ab (nL 1) (PE.aW cI))) (PE.aW cI) (bf _)) (bU (gY (MJ (aJ cI (aJ (PE.iR (zD t.BC B0 hr.mono (aJ (nD 0) (aJ (nD 1) cL)))) cL))))) iT)
  (bU (gY (MO t.uK uS hr.mono (aJ (PE.iR (zD t.BC B0 hr.mono (aJ (nD 0) (aJ (PE.iR (zD t.Bv vD hr.mono (aJ (nD 1) cL))) cL)))) cL)))))
 exact h
def CY(CZ:pF P w K mg base 1 t.y7 t.y8 ["word"] uZ)(Xv:OkT P w K mg base 2 t.Qp t.Qq ["n","word"] K8)(C0:Ok P w K mg base 4 t.zh t.zj ["n","piece"] vg):Ok P w K mg base 5 t.lS t.lT ["n","word"] jG:=by
 have h:=okD (P:=P) (w:=w) (base:=base) (k:=4) Br t.qO λcdv A outer s H E hr=>
  (bU (gY (PE.iR (G2 (cpS (N:=["piece","n"]) (nt:=1) (caps:=[0]) (au pV) ["n","word"] (by decide +kernel)) rfl (iLS (PE.alp (fT1 t.V5 Xv hr.mono (aQ (nB 0) (aQ (PE.aW (PE.iR (zD t.CH CZ hr.mono (aJ (nD 1) cL)))) cG))))) (Kp.ok (R9 (nt:=1) 0)) (λ_ _ _ _ _=>(EY 0 (by show rB (["piece","n"]:List Str);decide +kernel))) (λ_ _ _ _ _=>ts0) (λ_ _ _ _ _=>(MO t.CJ C0 hr.mono (aJ (nD 1) (aJ (nD 0) cL))))))))
 exact h
def abm(qQ:Ok P w K mg base 9 t.lQ t.lR ["n","steps"] jH)(qR:Ok P w K mg base 5 t.lS t.lT ["n","word"] jG):Ok P w K mg base 10 t.CK t.CL ["n","word"] fj:=by
 have h:=okD (P:=P) (w:=w) (base:=base) (k:=9) V2 t.uM λcdv A outer s H E hr=>
  (bU (gY (MO t.qN qQ hr.mono (aJ (nD 0) (aJ (MO t.qO qR hr.mono (aJ (nD 0) (aJ (nD 1) cL))) cL)))))
 exact h
def abn(pD:Ok P w K mg base 10 t.CK t.CL ["n","word"] fj):Ok P w K mg base 11 t.Jk t.Jl ["n","one","other"] Fo:=by
 have h:=Po (P:=P) (w:=w) (base:=base) (k:=10) V3 t.Nj λcdv A outer s H E hr=>
  (bU (gY (MH (gQ (cP.u6 hr)) eu (PE.aW (MO t.uM pD hr.mono (aJ (nD 0) (aJ (nD 1) cL)))) (PE.aW (MO t.uM pD hr.mono (aJ (nD 0) (aJ (nD 2) cL)))) (bf _))))
 exact h
def Md(pD:Ok P w K mg base 10 t.CK t.CL ["n","word"] fj)(sU:Ok P w K mg base 3 t.pe t.ph ["_law_n","_law_found"] iY):Ok P w K mg base 11 t.wM t.wN ["_law_n","_law_word","_law_other"] mh:=by
 have h:=Po (P:=P) (w:=w) (base:=base) (k:=10) Bu t.sH λcdv A outer s H E hr=>
  (bh (jZ 3 (MO t.uM pD hr.mono (aJ (nD 0) (aJ (nD 1) cL))) Bu.nd)
  (bU (gY (Y3 (PE.aW (G5 G9 t.sG sU hr.mono (aQ (nB 0) (aQ (nB 3) cG)))) (ado (MH (gQ (cP.u6 hr)) eu (PE.aW (MO t.uM pD hr.mono (aJ (nD 0) (aJ (nD 2) cL)))) (nB 3) (bf _)))))))
 exact h
def afN(rP:pF P w K mg base 4 t.y9 t.za ["n","word","s"] kM)(zy:pF P w K mg base 4 t.zb t.zc ["n","word","s"] rL)(yx:pF P w K mg base 4 t.um t.uo ["n","form"] mC)(pD:Ok P w K mg base 10 t.CK t.CL ["n","word"] fj)(NX:Ok P w K mg base 11 t.Jk t.Jl ["n","one","other"] Fo)(sV:Ok P w K mg base 1 t.o4 t.o5 ["_law_script","_law_k"] iW)(sW:Ok P w K mg base 1 t.o6 t.o7 ["_law_seed","_law_least","_law_most"] j8)(xo:pF P w K mg base 3 t.rH t.rJ ["_law_cells","_law_n","_law_most"] oJ)(sX:Ok P w K mg base 3 t.o8 t.o9 ["_law_word","_law_n","_law_cells","_law_room"] j9)(sY:Ok P w K mg base 11 t.wM t.wN ["_law_n","_law_word","_law_other"] mh):Ok P w K mg base 12 t.V6 t.Qs ["_law_script"] Ft:=by
 have h:=Po (P:=P) (w:=w) (base:=base) (k:=11) oW t.abX λcdv A outer s H E hr=>
  (bh (jZ 1 (cJ lW jl (PE.aW (G5 G9 t.sC sV hr.mono (aQ (nB 0) (aQ (PE.aW cI) cG)))) (PE.aW cI)) oW.nd)
  (bh (jZ 2 (G5 G9 t.sE sW hr.mono (aQ (nB 1) (aQ (PE.aW cI) (aQ (PE.aW cI) cG)))) oW.nd)
  (bh (jZ 3 (vIf (cy jO gP (nB 2) (PE.aW cI) (bf _)) cI cI) oW.nd)
  (bh (jZ 4 (PE.iR (zD t.wL xo hr.mono (aJ (PE.iR (pS (nL 0) (AR (PE.aW cI)) Tf)) (aJ (nD 2) (aJ (nD 3) cL))))) oW.nd)
  (bh (jZ 5 (MO t.sF sX hr.mono (aJ (nD 4) (aJ (nD 2) (aJ (nD 0) (aJ (cJ fO cV (nB 3) (PE.aW cI)) cL))))) oW.nd)
  (bh (jZ 6 (MO t.uM pD hr.mono (aJ (nD 2) (aJ (nD 4) cL))) oW.nd)
  (bh (uE (Kr (AO (ID (PE.aW (G5 G9 t.sH sY hr.mono (aQ (nB 2) (aQ (nB 4) (aQ (nB 5) cG))))))) (Uo (cy UR Sf (PE.aW (G5 G9 t.Nj NX hr.mono (aQ (nB 2) (aQ (nB 4) (aQ (nB 5) cG))))) (PE.aW MG) (bf _)))).pt (bU (gY MG)) iT)
  (bh (AS gK rfl (iL (PE.iR (q9 (aJ cI (aJ (cJ dw cW (nB 2) (PE.aW cI)) (aJ (cJ lW jl (nB 1) (nB 2)) cL)))))) (EY 7 oW.nd) (bh (jZ 8 (PE.iR (zD t.rN rP hr.mono (aJ (nD 2) (aJ (PE.iR (G0 t.pA (nL 4))) (aJ (nD 7) cL))))) oW.nd)
  (bh (uE (AO (ID (PE.aW (G5 G9 t.sH sY hr.mono (aQ (PE.aW (cJ dw cW (nB 2) (PE.aW cI))) (aQ (nB 8) (aQ (PE.aW (PE.iR (zD t.rN rP hr.mono (aJ (nD 2) (aJ (PE.iR (G0 t.pA (nL 5))) (aJ (nD 7) cL)))))) cG))))))) (bU (gY MG)) iT)
  (bh (uE (cy xp uC (nB 2) (PE.aW cI) (bf _)) (bh (jZ 9 (PE.iR (zD t.rN rP hr.mono (aJ (nD 2) (aJ (PE.iR (zD t.yq yx hr.mono (aJ (nD 2) (aJ (nD 6) cL)))) (aJ (nD 7) cL))))) oW.nd)
  (bU (uE (cy (wk (cP.u6 hr)) rn (PE.aW (MO t.uM pD hr.mono (aJ (cJ dw cW (nB 2) (PE.aW cI)) (aJ (nD 9) cL)))) (PE.aW (MO t.uM pD hr.mono (aJ (cJ dw cW (nB 2) (PE.aW cI)) (aJ (nD 8) cL)))) (bf _)) (bU (gY MG)) iT))) iT)
  (bh (jZ 10 (PE.iR (zD t.zd zy hr.mono (aJ (nD 2) (aJ (PE.iR (G0 t.pA (nL 4))) (aJ (nD 7) cL))))) oW.nd)
  (bh (uE (AO (ID (PE.aW (G5 G9 t.sH sY hr.mono (aQ (PE.aW (cJ fO cV (nB 2) (PE.aW cI))) (aQ (nB 10) (aQ (PE.aW (PE.iR (zD t.zd zy hr.mono (aJ (nD 2) (aJ (PE.iR (G0 t.pA (nL 5))) (aJ (nD 7) cL)))))) cG))))))) (bU (gY MG)) iT)
  (bU (uE (cy (wk (cP.u6 hr)) rn (PE.aW (MO t.uM pD hr.mono (aJ (nD 2) (aJ (PE.iR (zD t.rN rP hr.mono (aJ (cJ fO cV (nB 2) (PE.aW cI)) (aJ (nD 10) (aJ (cJ fO cV (nB 7) (PE.aW (cJ lW jl (PE.aW (cJ qX q8 (nB 1) (PE.aW cI))) (PE.aW cI)))) cL))))) cL)))) (nB 6) (bf _)) (bU (gY MG)) iT))))))))
  (bU (gY MG))))))))))
 exact h
end
@[irreducible] noncomputable def Kw (w:aD):ak:=U2.K w.params
def acB(w:aD):Kw w=U2.K w.params:=by kernel_rfl
def tm{K:ak}{h:aF}{mg:Str->Option ah}{x:String}{st:aw}{ps:List Str}{f c:ae}{m:ah}(X:K.In h)(G:h.Ns ed mg)
  (e:(vY K ed (dF x),K.lookup f,AD K (.ref c) (dF x),kG K (.ref f))=(aa (aa (.ref f)),aa (DL.H.hf (dF x) (dF x) st m c),true,true))
  (hb:∀(kV doc pm:ah)(an:Option ae)(cdv ct:ah)(us:List ah),us.length=ps.length->m9 (fX (dF x) (dF x) (jT st) (eg st) (au st) .none kV doc pm an cdv ct) ⟨us,[]⟩=bj (ps.zip us)):
  Df K mg (dF x) st ps f (fX (dF x) (dF x) (jT st) (eg st) (au st) .none .none .none m none (.ref c) .none):=dfm X G (congrArg (·.1) e) (congrArg (·.2.1) e) (congrArg (·.2.2.1) e) (congrArg (·.2.2.2) e) hb
def Mj{x q:Str}{a:AB}{b:List aw}{s:du}{p0:Str}(h:∀(kV doc pm:ah)(an:Option ae)(cdv ct v0:ah),m9 (fX x q a b s .none kV doc pm an cdv ct) ⟨[v0],[]⟩=bj [(p0,v0)])(kV doc pm:ah)(an:Option ae)(cdv ct:ah)(us:List ah)(hl:us.length=[p0].length):m9 (fX x q a b s .none kV doc pm an cdv ct) ⟨us,[]⟩=bj ([p0].zip us):=match us,hl with|[v0],_=>h _ _ _ _ _ _ _
def EE{x q:Str}{a:AB}{b:List aw}{s:du}{p0 p1:Str}(h:∀(kV doc pm:ah)(an:Option ae)(cdv ct v0 v1:ah),m9 (fX x q a b s .none kV doc pm an cdv ct) ⟨[v0,v1],[]⟩=bj [(p0,v0),(p1,v1)])(kV doc pm:ah)(an:Option ae)(cdv ct:ah)(us:List ah)(hl:us.length=[p0,p1].length):m9 (fX x q a b s .none kV doc pm an cdv ct) ⟨us,[]⟩=bj ([p0,p1].zip us):=match us,hl with|[v0,v1],_=>h _ _ _ _ _ _ _ _
def Tu{x q:Str}{a:AB}{b:List aw}{s:du}{p0 p1 p2:Str}(h:∀(kV doc pm:ah)(an:Option ae)(cdv ct v0 v1 v2:ah),m9 (fX x q a b s .none kV doc pm an cdv ct) ⟨[v0,v1,v2],[]⟩=bj [(p0,v0),(p1,v1),(p2,v2)])(kV doc pm:ah)(an:Option ae)(cdv ct:ah)(us:List ah)(hl:us.length=[p0,p1,p2].length):m9 (fX x q a b s .none kV doc pm an cdv ct) ⟨us,[]⟩=bj ([p0,p1,p2].zip us):=match us,hl with|[v0,v1,v2],_=>h _ _ _ _ _ _ _ _ _
def bd4{x q:Str}{a:AB}{b:List aw}{s:du}{p0 p1 p2 p3:Str}(h:∀(kV doc pm:ah)(an:Option ae)(cdv ct v0 v1 v2 v3:ah),m9 (fX x q a b s .none kV doc pm an cdv ct) ⟨[v0,v1,v2,v3],[]⟩=bj [(p0,v0),(p1,v1),(p2,v2),(p3,v3)])(kV doc pm:ah)(an:Option ae)(cdv ct:ah)(us:List ah)(hl:us.length=[p0,p1,p2,p3].length):m9 (fX x q a b s .none kV doc pm an cdv ct) ⟨us,[]⟩=bj ([p0,p1,p2,p3].zip us):=match us,hl with|[v0,v1,v2,v3],_=>h _ _ _ _ _ _ _ _ _ _
def mth(K:ak){C:ae}{x q:String}{st:aw}{f c:ae}{m:ah}
  (e:(eY K (.ref C) (dF x),Ic K (.ref f),K.lookup f,AD K (.ref c) (dF q),kG K (.ref f))=(aa (aa (.ref f)),true,aa (DL.H.hf (dF x) (dF q) st m c),true,true)):
  Kh K (dF x) (dF q) st f (fX (dF x) (dF q) (jT st) (eg st) (au st) .none .none .none m none (.ref c) .none)/\Meth K C (dF x) f:=
 ⟨ME (congrArg (·.2.2.1) e) (congrArg (·.2.2.2.1) e) (congrArg (·.2.2.2.2) e),congrArg (·.1) e,congrArg (·.2.1) e,congrArg (·.2.2.2.2) e⟩
def all_mk{l:O0}{w:aD}{h:aF}{mg:Str->Option ah}{fa:ae}(X:(Kw w).In h)(G:h.Ns ed mg)(hfa:mg "law"=aa (.ref fa)):
  ∃fd:aL,(∀(s:aj)(v:ah),yH s fd ⟨[v],[]⟩ [("_law_script",v)])/\∀base:aF,(Kw w).In base->base.Ns ed mg->fW l.prog w (Kw w) mg base tw 12 fa fd ["_law_script"] (O9 (Kw w) MN Ft):=by
 have e:=hfa.symm.trans (Ef X G (show vY (Kw w) ed "law"=aa (aa (.ref 429))by kernel_rfl));cases e;have yC:vY (Kw w) ed "Comb"=aa (aa (.ref 261)):=by kernel_rfl
 have ypg:DU (Kw w) 261 Ou=true:=by kernel_rfl
 have yhd:Ib (Kw w) 261=true:=by kernel_rfl
 have ypo:Oo (Kw w) 261=true:=by kernel_rfl
 have ysa:eY (Kw w) (.ref 261) "__setattr__"=aa (aa (.builtin "object.__setattr__")):=by kernel_rfl
 have ymk:Ot (Kw w) 261=true:=by kernel_rfl
 have ykc:kG (Kw w) (.ref 261)=true:=by kernel_rfl
 have yn0:eY (Kw w) (.ref 261) "known"=aa none:=by kernel_rfl
 have yn1:eY (Kw w) (.ref 261) "numbers"=aa none:=by kernel_rfl
 have yn2:eY (Kw w) (.ref 261) "firsts"=aa none:=by kernel_rfl
 have yn3:eY (Kw w) (.ref 261) "lasts"=aa none:=by kernel_rfl
 have yn4:eY (Kw w) (.ref 261) "shorter"=aa none:=by kernel_rfl
 have yn5:eY (Kw w) (.ref 261) "longer"=aa none:=by kernel_rfl
 have yn6:eY (Kw w) (.ref 261) "kept"=aa none:=by kernel_rfl
 have yn7:eY (Kw w) (.ref 261) "line"=aa none:=by kernel_rfl
 have yn8:eY (Kw w) (.ref 261) "none"=aa none:=by kernel_rfl
 have yn9:eY (Kw w) (.ref 261) "whole"=aa none:=by kernel_rfl
 let t:Tb (Kw w) mg:={ym:=56,yn:=_,Bv:=tm X G (c:=55) (m:=U2.w1) (by kernel_rfl) (Mj λ_ _ _ _ _ _ _=>rfl),y7:=63,y8:=_,CH:=tm X G (c:=62) (m:=U2.w1) (by kernel_rfl) (Mj λ_ _ _ _ _ _ _=>rfl),i9:=70,ja:=_,kP:=tm X G (c:=69) (m:=U2.w2) (by kernel_rfl) (EE λ_ _ _ _ _ _ _ _=>rfl),eI:=77,eJ:=_,gF:=tm X G (c:=76) (m:=U2.w2) (by kernel_rfl) (EE λ_ _ _ _ _ _ _ _=>rfl),ki:=84,kj:=_,oX:=tm X G (c:=83) (m:=U2.w2) (by kernel_rfl) (EE λ_ _ _ _ _ _ _ _=>rfl),jz:=91,jA:=_,jB:=tm X G (c:=90) (m:=U2.w2) (by kernel_rfl) (EE λ_ _ _ _ _ _ _ _=>rfl),gG:=98,gH:=_,gJ:=tm X G (c:=97) (m:=U2.w2) (by kernel_rfl) (EE λ_ _ _ _ _ _ _ _=>rfl),oY:=105,oZ:=_,rE:=tm X G (c:=104) (m:=U2.w2) (by kernel_rfl) (Tu λ_ _ _ _ _ _ _ _ _=>rfl),y9:=112,za:=_,rN:=tm X G (c:=111) (m:=U2.w2) (by kernel_rfl) (Tu λ_ _ _ _ _ _ _ _ _=>rfl),zb:=119,zc:=_,zd:=tm X G (c:=118) (m:=U2.w2) (by kernel_rfl) (Tu λ_ _ _ _ _ _ _ _ _=>rfl),pW:=126,pX:=_,km:=tm X G (c:=125) (m:=U2.w3) (by kernel_rfl) (Mj λ_ _ _ _ _ _ _=>rfl),FE:=133,FG:=_,CI:=tm X G (c:=132) (m:=U2.w3) (by kernel_rfl) (Mj λ_ _ _ _ _ _ _=>rfl),mG:=140,mH:=_,mJ:=tm X G (c:=139) (m:=U2.w3) (by kernel_rfl) (Mj λ_ _ _ _ _ _ _=>rfl),Bw:=145,Bx:=_,ze:=tm X G (c:=144) (m:=U2.w3) (by kernel_rfl) (Mj λ_ _ _ _ _ _ _=>rfl),yo:=152,yp:=_,si:=tm X G (c:=151) (m:=U2.w3) (by kernel_rfl) (Mj λ_ _ _ _ _ _ _=>rfl),dA:=159,dB:=_,cR:=tm X G (c:=158) (m:=U2.w3) (by kernel_rfl) (EE λ_ _ _ _ _ _ _ _=>rfl),eM:=166,eO:=_,dH:=tm X G (c:=165) (m:=U2.w3) (by kernel_rfl) (EE λ_ _ _ _ _ _ _ _=>rfl),wG:=173,wH:=_,wI:=tm X G (c:=172) (m:=U2.w3) (by kernel_rfl) (Mj λ_ _ _ _ _ _ _=>rfl),By:=180,BA:=_,BC:=tm X G (c:=179) (m:=U2.w3) (by kernel_rfl) (EE λ_ _ _ _ _ _ _ _=>rfl),Eu:=185,Ew:=_,Jj:=tm X G (c:=184) (m:=U2.w3) (by kernel_rfl) (Mj λ_ _ _ _ _ _ _=>rfl),qp:=190,qq:=_,uJ:=tm X G (c:=189) (m:=U2.w3) (by kernel_rfl) (Mj λ_ _ _ _ _ _ _=>rfl),zf:=197,zg:=_,mK:=tm X G (c:=196) (m:=U2.w4) (by kernel_rfl) (Mj λ_ _ _ _ _ _ _=>rfl),um:=272,uo:=_,yq:=tm X G (c:=271) (m:=U2.w5) (by kernel_rfl) (EE λ_ _ _ _ _ _ _ _=>rfl),Qp:=279,Qq:=_,V5:=tm X G (c:=278) (m:=U2.w5) (by kernel_rfl) (EE λ_ _ _ _ _ _ _ _=>rfl),qr:=286,qt:=_,uK:=tm X G (c:=285) (m:=U2.w5) (by kernel_rfl) (Mj λ_ _ _ _ _ _ _=>rfl),zh:=293,zj:=_,CJ:=tm X G (c:=292) (m:=U2.w5) (by kernel_rfl) (EE λ_ _ _ _ _ _ _ _=>rfl),qu:=300,qv:=_,uL:=tm X G (c:=299) (m:=U2.w5) (by kernel_rfl) (EE λ_ _ _ _ _ _ _ _=>rfl),g6:=307,g7:=_,fq:=tm X G (c:=306) (m:=U2.w5) (by kernel_rfl) (Mj λ_ _ _ _ _ _ _=>rfl),lQ:=312,lR:=_,qN:=tm X G (c:=311) (m:=U2.w5) (by kernel_rfl) (EE λ_ _ _ _ _ _ _ _=>rfl),lS:=317,lT:=_,qO:=tm X G (c:=316) (m:=U2.w5) (by kernel_rfl) (EE λ_ _ _ _ _ _ _ _=>rfl),CK:=324,CL:=_,uM:=tm X G (c:=323) (m:=U2.w5) (by kernel_rfl) (EE λ_ _ _ _ _ _ _ _=>rfl),Jk:=331,Jl:=_,Nj:=tm X G (c:=330) (m:=U2.w5) (by kernel_rfl) (Tu λ_ _ _ _ _ _ _ _ _=>rfl),sj:=338,sy:=_,wJ:=tm X G (c:=337) (m:=U2.w6) (by kernel_rfl) (Tu λ_ _ _ _ _ _ _ _ _=>rfl),o4:=345,o5:=_,sC:=tm X G (c:=344) (m:=U2.w6) (by kernel_rfl) (EE λ_ _ _ _ _ _ _ _=>rfl),o6:=352,o7:=_,sE:=tm X G (c:=351) (m:=U2.w6) (by kernel_rfl) (Tu λ_ _ _ _ _ _ _ _ _=>rfl),jI:=359,jJ:=_,lU:=tm X G (c:=358) (m:=U2.w6) (by kernel_rfl) (EE λ_ _ _ _ _ _ _ _=>rfl),rF:=366,rG:=_,wK:=tm X G (c:=365) (m:=U2.w6) (by kernel_rfl) (EE λ_ _ _ _ _ _ _ _=>rfl),rH:=373,rJ:=_,wL:=tm X G (c:=372) (m:=U2.w6) (by kernel_rfl) (Tu λ_ _ _ _ _ _ _ _ _=>rfl),uq:=380,ur:=_,yr:=tm X G (c:=379) (m:=U2.w6) (by kernel_rfl) (bd4 λ_ _ _ _ _ _ _ _ _ _=>rfl),uu:=387,uv:=_,yt:=tm X G (c:=386) (m:=U2.w6) (by kernel_rfl) (EE λ_ _ _ _ _ _ _ _=>rfl),o8:=394,o9:=_,sF:=tm X G (c:=393) (m:=U2.w6) (by kernel_rfl) (bd4 λ_ _ _ _ _ _ _ _ _ _=>rfl),lB:=401,lC:=_,qw:=tm X G (c:=400) (m:=U2.w6) (by kernel_rfl) (Mj λ_ _ _ _ _ _ _=>rfl),qx:=408,qy:=_,uN:=tm X G (c:=407) (m:=U2.w6) (by kernel_rfl) (EE λ_ _ _ _ _ _ _ _=>rfl),pe:=415,ph:=_,sG:=tm X G (c:=414) (m:=U2.w6) (by kernel_rfl) (EE λ_ _ _ _ _ _ _ _=>rfl),wM:=422,wN:=_,sH:=tm X G (c:=421) (m:=U2.w6) (by kernel_rfl) (Tu λ_ _ _ _ _ _ _ _ _=>rfl),V6:=429,Qs:=_,abX:=tm X G (c:=428) (m:=U2.w6) (by kernel_rfl) (Mj λ_ _ _ _ _ _ _=>rfl),vz:=lV X G (by kernel_rfl),V7:=lV X G (by kernel_rfl),uw:=lV X G (by kernel_rfl),abY:=lV X G (by kernel_rfl),kQ:=lV X G (by kernel_rfl),qG:=lV X G (by kernel_rfl),pA:=lV X G (by kernel_rfl),abZ:=lV X G (by kernel_rfl),wO:=lV X G (by kernel_rfl),sI:=lV X G (by kernel_rfl),Lv:=lV X G (by kernel_rfl),ab0:=lV X G (by kernel_rfl),Jm:=lV X G (by kernel_rfl),BD:=420,BE:=Ef X G (by kernel_rfl),xE:=241,xF:=Ef X G (by kernel_rfl)}
 refine⟨_,λs v=>(?_:yH s t.Qs ⟨[v],[]⟩ [("_law_script",v)]),λbase _ _=>?_⟩
 ·exact .of_eq rfl
 have vD:= @S3 l.prog w (Kw w) mg base t;have CZ:= @NS l.prog w (Kw w) mg base t;have gm:= @BZ l.prog w (Kw w) mg base t;have dJ:= @xg l.prog w (Kw w) mg base t;have jd:= @DF l.prog w (Kw w) mg base t;have kB:= @L9 l.prog w (Kw w) mg base t;have JT:= @abl l.prog w (Kw w) mg base t;have gk:= @JO l.prog w (Kw w) mg base t;have zk:= @Xs l.prog w (Kw w) mg base t;have cT:= @vC l.prog w (Kw w) mg base t;have uP:= @F7 l.prog w (Kw w) mg base t;have S6:= @NT l.prog w (Kw w) mg base t;have pZ:= @Mb l.prog w (Kw w) mg base t;have sV:= @DG l.prog w (Kw w) mg base t;have sW:= @DH l.prog w (Kw w) mg base t;have gU:= @CW l.prog w (Kw w) mg base t;have yw:= @JP l.prog w (Kw w) mg base t;have jL:= @F8 l.prog w (Kw w) mg base t;have mr:= @zJ l.prog w (Kw w) mg base t dJ;have jN:= @xh l.prog w (Kw w) mg base t dJ jd;have sJ:= @S4 l.prog w (Kw w) mg base t gk zk;have gM:= @xj l.prog w (Kw w) mg base t gk cT;have B0:= @S5 l.prog w (Kw w) mg base t kB cT;have JR:= @Xu l.prog w (Kw w) mg base t gk;have Xv:= @afM l.prog w (Kw w) mg base t kB;have uQ:= @F9 l.prog w (Kw w) mg base t uP;have xm:= @GG l.prog w (Kw w) mg base t gU;have yv:= @JQ l.prog w (Kw w) mg base t gU;have uR:= @Ga l.prog w (Kw w) mg base t jL;have kU:= @GH l.prog w (Kw w) mg base t jd mr jN;have xn:= @Mc l.prog w (Kw w) mg base t sJ gM;have uS:= @Gb l.prog w (Kw w) mg base t JR;have yy:= @xO l.prog w (Kw w) mg base t uQ;have xo:= @GJ l.prog w (Kw w) mg base t pZ xm;have sX:= @DI l.prog w (Kw w) mg base t pZ yv yw;have sU:= @DJ l.prog w (Kw w) mg base t jL uR;have rP:= @NU l.prog w (Kw w) mg base t gm kU;have zy:= @NV l.prog w (Kw w) mg base t gm kU;have yx:= @JS l.prog w (Kw w) mg base t vD JT xn;have C0:= @NW l.prog w (Kw w) mg base t vD B0 uS;have qR:= @CY l.prog w (Kw w) mg base t CZ Xv C0;have TC:XF (Kw w) mg 261:=⟨⟨ypg,yhd,ypo,ysa⟩,yn0,yn1,yn2,yn3,yn4,yn5,yn6,yn7,yn8,yn9,Ef X G yC,t.Jm,t.pA,t.qG⟩
 have⟨YF0,aiS⟩:=mth (Kw w) (C:=261) (x:="__init__") (q:="Comb.__init__") (st:=Nn) (f:=211) (c:=210) (m:=U2.w4) (by kernel_rfl);have YB0:=YF0.binds (ps:=["self","n"]) (EE λ_ _ _ _ _ _ _ _=>rfl);have⟨YF1,anB⟩:=mth (Kw w) (C:=261) (x:="number_of") (q:="Comb.number_of") (st:=V8) (f:=218) (c:=217) (m:=U2.w4) (by kernel_rfl);have YB1:=YF1.binds (ps:=["self","row"]) (EE λ_ _ _ _ _ _ _ _=>rfl);have YM1:=anB;have⟨YF2,anC⟩:=mth (Kw w) (C:=261) (x:="without_first") (q:="Comb.without_first") (st:=Wb) (f:=225) (c:=224) (m:=U2.w4) (by kernel_rfl);have YB2:=YF2.binds (ps:=["self","number","k"]) (Tu λ_ _ _ _ _ _ _ _ _=>rfl);have YM2:=anC;have⟨YF3,anD⟩:=mth (Kw w) (C:=261) (x:="with_last") (q:="Comb.with_last") (st:=We) (f:=232) (c:=231) (m:=U2.w4) (by kernel_rfl);have YB3:=YF3.binds (ps:=["self","number","k"]) (Tu λ_ _ _ _ _ _ _ _ _=>rfl);have YM3:=anD;have⟨YF4,anE⟩:=mth (Kw w) (C:=261) (x:="slide") (q:="Comb.slide") (st:=Wg) (f:=239) (c:=238) (m:=U2.w4) (by kernel_rfl);have YB4:=YF4.binds (ps:=["self","one","other"]) (Tu λ_ _ _ _ _ _ _ _ _=>rfl);have YM4:=anE;have⟨YF5,anF⟩:=mth (Kw w) (C:=261) (x:="slide_kept") (q:="Comb.slide_kept") (st:=Wi) (f:=246) (c:=245) (m:=U2.w4) (by kernel_rfl);have YB5:=YF5.binds (ps:=["self","one","other"]) (Tu λ_ _ _ _ _ _ _ _ _=>rfl);have YM5:=anF;have⟨YF6,anG⟩:=mth (Kw w) (C:=261) (x:="put") (q:="Comb.put") (st:=Wl) (f:=253) (c:=252) (m:=U2.w4) (by kernel_rfl);have YB6:=YF6.binds (ps:=["self","row"]) (EE λ_ _ _ _ _ _ _ _=>rfl);have YM6:=anG;have⟨YF7,anH⟩:=mth (Kw w) (C:=261) (x:="form_told") (q:="Comb.form_told") (st:=Qu) (f:=258) (c:=257) (m:=U2.w4) (by kernel_rfl);have YB7:=YF7.binds (ps:=["self"]) (Mj λ_ _ _ _ _ _ _=>rfl);have YM7:=anH;have YG1:=afa (P:=l.prog) (w:=w) (base:=base) YF1 TC t sJ zk S6 aaC;have YG2:=ahW (P:=l.prog) (w:=w) (base:=base) YF2 TC t YM1 YB1 YG1 gM;have YG3:=ahY (P:=l.prog) (w:=w) (base:=base) YF3 TC t YM1 YB1 YG1 cT;have YG4:=ahZ (P:=l.prog) (w:=w) (base:=base) YF4 TC YM2 YB2 YG2 YM3 YB3 YG3;have YG5:=ah4 (P:=l.prog) (w:=w) (base:=base) YF5 TC t YM4 YB4 YG4;have YG6:=ah8 (P:=l.prog) (w:=w) (base:=base) YF6 TC YM1 YB1 YG1 YM5 YB5 YG5;have YG7:=aic (P:=l.prog) (w:=w) (base:=base) YF7 TC;have YG0:=aie (P:=l.prog) (w:=w) (base:=base) YF0 TC t YM1 YB1 YG1 kB JT (λn hn=>ux n hn) (λn hn=>QE n hn) aaD sL;have qQ:=afq (P:=l.prog) (w:=w) (base:=base) TC ⟨_,_,_,_,_,_,⟨ymk,aiS.1,aiS.2,ykc⟩,YB0,YG0,YM6,YB6,YG6,YM7,YB7,YG7⟩ t yy;have pD:= @abm l.prog w (Kw w) mg base t qQ qR;have NX:= @abn l.prog w (Kw w) mg base t pD;have sY:= @Md l.prog w (Kw w) mg base t pD sU;have aiT:= @afN l.prog w (Kw w) mg base t rP zy yx pD NX sV sW xo sX sY;exact aiT
def walk{l:O0}{q:aS}{loose:List Str}{XP:(Str->Option ah)->aF->Prop}{YP:aD->aF->Prop}{d:DefRec}{K:ni->ak}(hn:l.most=aa 63)(hdf:d.params.defaults=[])
  (hY:∀(w:aD)(h:aF),YP w h->(K w.params).In h)
  (F:∀(w:aD)(mg:Str->Option ah)(fa:ae)(h:aF),(K w.params).In h->h.Ns ed mg->mg d.name=aa (.ref fa)->
   ∃fd:aL,(∀(s:aj)(u:ah),yH s fd ⟨[u],[]⟩ [("_law_script",u)])/\∀base:aF,(K w.params).In base->base.Ns ed mg->fW l.prog w (K w.params) mg base tw 12 fa fd ["_law_script"] (O9 (K w.params) MN Ft)):
  YR q loose XP YP l.row.toRowW d [] (λf vs=>PySem.call f vs):=
 L2.YQ (n:=63) (k:=12) (x:="_law_script") (CX:=λ_=>tw) (sp:=λw=>O9 (K w.params) MN Ft) hn (by decide) hdf ⟨rfl,by decide,by decide⟩ hY F (λw H a ns hl _ hS=>afL ns hl hS) λ_ _ _ _ _ z=>z
end DL.yf
open PySem PySem.W PyProof.Rows
set_option maxRecDepth 100000 in
set_option maxHeartbeats 0 in
theorem PySem.Challenge.cw_braidcomb_k93_whole_strings_out_holds : PySem.Challenge.rw_braidcomb_k93_whole_strings_out.Holds := by
 w_on;refine holds_law (l:=PySem.Challenge.rw_braidcomb_k93_whole_strings_out) (by kernel_rfl) λsaid=>?_;refine holds_open (q:=DL.yf.U2.q) (Xt:=DL.yf.U2.Xt) (XP:=XL DL.yf.U2.q []) (Yf:=DL.yf.U2.hk.obs) (Ya:=DL.yf.U2.hk.val) (YP:=DL.yf.U2.hk.says) DL.yf.U2.left DL.yf.U2.hk.of DL.yf.U2.hk.keeps (λs e=>xl_of s (abo.mp e).1) XL.keeps (by rfl) (by rfl) (by rfl) (λs e=>recFacts_of (abo.mp e).2) (by rfl) said (by decide +kernel) ⟨rfl,rfl,rfl,rfl,rfl,by decide +kernel⟩ ?hw ?hc
 case hw=>w_witness2
 refine DL.yf.walk (l:=PySem.Challenge.rw_braidcomb_k93_whole_strings_out) rfl rfl (λw h Y=>kIn_of Y) ?F
 case F=>
  intro w mg fa h KX G hmg;have hh:=DL.yf.all_mk (l:=PySem.Challenge.rw_braidcomb_k93_whole_strings_out) ((DL.yf.acB w).symm▸KX) G hmg;rw[DL.yf.acB w]at hh;exact hh
