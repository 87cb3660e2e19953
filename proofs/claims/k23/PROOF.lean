import PyProof.Rows.All
import KE.KDictOf
import KE.KDictSum
import KE.KEqDict
import KE.KFromBytes
import KE.KIsAll
import KE.KRevSl
import KE.KSortTup
import KE.KUnpack
import PySem.Challenge.RW_braemantle_k23_mesh_triangles
set_option Elab.async false
set_option linter.all false
set_option maxRecDepth 100000
set_option maxHeartbeats 0
set_option hygiene false
set_option bootstrap.genMatcherCode false
set_option genSizeOf false
set_option genSizeOfSpec false
set_option compiler.extract_closed false
set_option backward.eqns.nonrecursive false
abbrev K0(p q:Prop):Prop:=p->q
abbrev KA(a:Prop)(r:Prop->Prop)(q:Prop):Prop:=a->r q
abbrev KE{α:Sort _}(r:α->Prop->Prop)(q:Prop):Prop:=∀x,r x q
class Cur(n:Nat)(p:Prop)(r:outParam (Prop->Prop)):Prop where c:∀{q:Prop},r q->p->q
instance{p:Prop}:Cur 0 p (K0 p):=⟨id⟩
instance{n:Nat}{a b:Prop}{r:Prop->Prop}[i:Cur n b r]:Cur (n+1) (a∧b) (KA a r):=⟨fun f h=>i.c (f h.1) h.2⟩
instance{n:Nat}{α:Sort _}{p:α->Prop}{r:α->Prop->Prop}[i:∀x,Cur n (p x) (r x)]:Cur (n+1) (∃x,p x) (KE r):=⟨fun f ⟨x,h⟩=>(i x).c (f x) h⟩
open Lean in
def r_p:Nat->Syntax->MacroM (TSyntax `rcasesPat)
 |0,_=>Macro.throwUnsupported
 |n+1,x=>do
  if x.isOfKind `Lean.Parser.Term.anonymousCtor then
   let q<-x[1].getSepArgs.mapM fun y=>do let z<-r_p n y;`(Parser.Tactic.rcasesPatLo|$z:rcasesPat)
   `(rcasesPat|⟨$q,*⟩)
  else if x.isIdent then `(rcasesPat|$(⟨x⟩):ident) else if x.isOfKind `Lean.Parser.Term.hole then `(rcasesPat|_) else Macro.throwUnsupported
open Lean in
local macro_rules|`(tactic|let $p:term:=$e)=>do
 if p.raw.isIdent then Macro.throwUnsupported
 let q<-r_p 9 p;`(tactic|obtain $q:rcasesPat:=$e)
open Lean in
def r_k(q:Syntax):Option (NumLit×Array (TSyntax `rintroPat)):=
 let a:=q[1].getSepArgs
 if q.isOfKind `Lean.Parser.Tactic.rcasesPat.tuple&&a.size>1&&a.all (fun x=>x[0][0].getArgs.size==1&&x[1].getArgs.isEmpty) then some (Syntax.mkNumLit (toString (a.size-1)),a.map fun x=>⟨mkNode `Lean.Parser.Tactic.rintroPat.one #[x[0][0][0]]⟩) else none
open Lean in
local macro_rules|`(tactic|rintro $ps*)=>do
 let o<-ps.mapM fun p=>do
  let q:=p.raw[0]
  if q.isOfKind `Lean.Parser.Tactic.rcasesPat.one&&q[0].getId != `rfl then return <-`(tactic|intro $(⟨q[0]⟩):ident)
  let r<-`(tactic|(intro h_;rcases h_ with $(⟨q⟩):rcasesPat))
  match r_k q with
  |some (n,k)=>`(tactic|first|(refine Cur.c (n:=$n) ?_;rintro $k*)|$r:tactic)
  |none=>if p.raw.isOfKind `Lean.Parser.Tactic.rintroPat.one then return r else Macro.throwUnsupported
 `(tactic|($[$o];*))
open Lean in
local macro_rules|`(tactic|obtain $q:rcasesPatMed:=$e:term)=>do
 let q:=q.raw[0][0]
 let r<-`(tactic|rcases $e:term with $(⟨q⟩):rcasesPat)
 match r_k q with
 |some (n,k)=>do
  let c<-if e.raw.isIdent then `(tactic|clear $(⟨e⟩):ident) else `(tactic|skip)
  `(tactic|first|(refine Cur.c (n:=$n) ?_ $e;$c:tactic;rintro $k*)|$r:tactic)
 |none=>return r
local macro_rules|`(tactic|simp! [$xs,*] $[$l:location]?)=>`(tactic|simp only [$xs,*] $[$l]?)
local macro_rules | `(tactic| simp? [$xs,*] $[$l:location]?) => do
  let a ← ("qX ph qK iq iA bh_f eB sL tO si tX oc_n oc_s lE kT lr lY uj k_E uh KB_a tB rN lQ k7 lu sR ob_k mj ll uf oZ qy qi l8 mV qT sM k_or tU qh rV qF tN oB qY nj rH nV qO m7 rn og oI pH sk kY m8 t6 lF ql nT ud nu ny qQ pO oG pP qf oF qg qp pM tZ oT oQ qJ sS qH oX qd sI oR nY pJ pZ rT k_bi pR tY Ko_a mG rK tQ rq sh ni sX oE mY nS kX nR qV kS qu lG pC sj qj lA tL n8 pG kN kU lL qx oS oW rm oP mU mZ qA oK qk oC nK sE pB tu oU ox pD ot nC nI md qr ng rG qv sf tJ tF qU rO uc oi pY nk pz pT nG oy pA oz oe nM qc oj pL nB ou pf rL rJ se tM qZ tS om rF sZ sY me tV q_or sV rY t9 rX rR sW oO t8 nO pd q_bi sQ sH s9 rE mX nF pU pK pQ tK tD sC rp r8 r9 sr".splitOn " ").toArray.mapM λs => `(Lean.Parser.Tactic.simpLemma| ↓$(Lean.mkIdent s.toName):ident)
  let b ← ("perm pick AL Option.bind_some BN Bz Bh Cg List.lookup_cons List.lookup_nil Nat.reduceBEq List.contains_cons List.contains_nil Fx List.getElem?_nil List.getElem?_cons_zero List.getElem?_cons_succ List.length_cons List.length_nil List.set_cons_zero List.set_cons_succ List.map_cons List.map_nil List.replicate_succ List.replicate_zero List.cons_append List.nil_append Nat.zero_add Nat.reduceAdd Nat.reduceSub Nat.reduceLT Nat.reduceLeDiff Nat.reduceEqDiff Nat.lt_add_left_iff_pos IK Ae bindL if_true if_false ite_true ite_false and_true true_and Option.getD_some eS eU pF lJ lU mi tq s8 sG sD gS gg r6 ug sO cin ij iC tz gE Bool.or_false Bool.or_true Bool.true_or Bool.false_or clt cle cgt cge Ir IB items Cb BI IH Au lift IG C6 DO BK alloc AK gi Ac rl rZ rQ qW rA tf AD Cu Option.map_some Int.reduceLT Int.reduceLE Int.reduceNeg Int.reduceEq decide_true decide_false Bool.not_true Bool.not_false Bool.and_true Bool.true_and Bool.and_self decide_eq_true_eq eq_self".splitOn " ").toArray.mapM λs => `(Lean.Parser.Tactic.simpLemma| $(Lean.mkIdent s.toName):ident)
  let a := a ++ b
  `(tactic| simp only [$[$a:simpLemma],*, $xs,*] $[$l]?)
local macro_rules|`(tactic|simp? only [$x:ident])=>`(tactic|(refine ab (by rfl) (by rfl) ?_;simp only [$x:ident]))|`(tactic|simp?)=>`(tactic|simp? [eq_self])
open Lean in
local macro_rules|`($m:declModifiers def $i:declId $s:optDeclSig $v:declVal)=>do
 unless m.raw.getArgs.all (·.isNone) do Macro.throwUnsupported
 let r<-(if (match i.raw[0].getId with|.str _ n=>(n.toList.headD 'A').isLower&&!("dig place kwOk isStar ownOf freeOf setArg mkF endsF lastOf fns ms loose upd frs gNil rNe start sIx ixN atI rPop rCat putK head dd refs intsOf keyOf dput dfold neT inD best insI sortI tupI next bindL pick perm subAt rIxD post rInN rInt tyName allFrom holds wp wpS hk ob plainT tupP small stride lying upright rising falling dT mid l1 kyP".splitOn ).contains n|_=>false) then let z:TSyntax `Lean.Parser.Command.declSig:=⟨mkNode `Lean.Parser.Command.declSig #[s.raw[0],s.raw[1][0]]⟩;`(command|theorem $i:declId $z:declSig $v:declVal) else `(command|noncomputable def $i:declId $s:optDeclSig $v:declVal));return r.raw.rewriteBottomUp (·.setInfo .none)
open Lean in
local macro_rules|`($m:declModifiers abbrev $i:declId $s:optDeclSig $v:declVal)=>do
 unless m.raw.getArgs.all (·.isNone) do Macro.throwUnsupported
 `(command|noncomputable abbrev $i:declId $s:optDeclSig $v:declVal)
open Lean in
local macro_rules|`(fun $xs* => $b)=>do
 let rec h:Nat->Syntax->Bool
  |0,_=>true
  |n+1,x=>x.isOfKind `Lean.Parser.Term.syntheticHole||x.getArgs.any (h n)
 if xs.all (!·.raw.isOfKind `Lean.Parser.Term.anonymousCtor)||h 99 b then Macro.throwUnsupported
 let q<-xs.mapM fun x=>do let z<-r_p 9 x;`(rintroPat|$z:rcasesPat)
 `(by rintro $q*;exact $b)
open Lean in
local macro_rules|`(#[$n:num])=>match n.getNat with|0=>`(PySem.Challenge.rw_braemantle_k23_mesh_triangles.prog.main.body)|1=>`(by decide)|2=>`(by rfl)|3=>`(by simp)|_=>Macro.throwUnsupported
local macro_rules|`(())=>`(by omega)
def b_F{P:Prop}(h:false=true):P:=absurd h Bool.false_ne_true
def n_F{α:Type}{a:α}{P:Prop}(h:(none:Option α)=some a):P:=nomatch h
local macro_rules|`(tactic|cases $h:ident)=>`(tactic|first|exact n_F $h|exact b_F $h|cases ($h))
def Zz:=@List.length_map
def Z1:=@List.length_append
def Yb:=@Bool.and_eq_true
def Yj:=@if_neg
def Yq:=@Iff.rfl
def YC:=@if_pos
def YG:=@List.getElem?_eq_some_iff
def YT:=@List.map_cons
def YZ:=@List.length_cons
def Y0:=@PyProof.Rows.wpS_bind
def Y2:=@Option.some.injEq
def Y9:=@List.getElem?_eq_getElem
def Xh:=@Array.length_toList
def Xl:=@List.size_toArray
def Xq:=@decide_eq_true_eq
def Xs:=@PyProof.Rows.wpS_pure
def XH:=@Bool.false_eq_true
def XM:=@List.getElem?_append_left
def XS:=@List.append_assoc
def XY:=@List.mem_map
def XZ:=@List.mem_cons_self
def X5:=@List.mem_cons
def Wa:=@Option.map_eq_some_iff
def Wc:=@List.getElem?_append_right
def Wd:=@List.mem_append
def We:=@Array.toList_append
def Wh:=@List.getElem?_map
def Ws:=@Array.getElem?_eq_getElem
def Wy:=@List.all_eq_true
def Wz:=@List.take_append_drop
def WA:=@List.mem_singleton
def WE:=@Option.some.inj
def WM:=@List.lookup_cons
def WN:=@Array.getElem?_toList
def WT:=@List.drop_eq_getElem_cons
def WU:=@List.pairwise_append
def WV:=@List.length_take
def WY:=@decide_eq_false
def WZ:=@Option.bind_eq_some_iff
def W6:=@if_false
def W9:=@Bool.not_eq_true'
def W_:=@List.mem_of_getElem?
def Vg:=@Option.map_some
def Vi:=@List.take_of_length_le
def Vm:=@List.getElem?_set_ne
def Vo:=@decide_eq_true
def Vw:=@List.length_drop
def Vx:=@Array.getElem_mem
def Vy:=@List.mem_append_right
def VC:=@Nat.le_succ
def VJ:=@List.filterMap_cons
def VL:=@PySem.mem_of_lookup
def VO:=@PySem.wpAny_holding
def VP:=@List.mem_of_mem_drop
def VQ:=@List.mem_reverse
def VS:=@PySem.wpAny_newObj_type
def V0:=@beq_iff_eq
def V7:=@List.any_cons
def Uc:=@if_true
def Ug:=@List.drop_eq_nil_of_le
def Uh:=@List.flatMap_cons
def Ui:=@List.perm_append_comm
def Uj:=@PyProof.Rows.wpS_forRange
def Um:=@List.find?_cons
def Uo:=@Array.getElem?_eq_some_iff
def Uq:=@List.pairwise_cons
def Uu:=@List.map_map
def UA:=@PySem.wpAny_call_entry
def UB:=@PySem.sizeLine_eq
def UC:=@List.mem_iff_getElem?
def UG:=@Nat.zero_add
def UI:=@PySem.wpAny_setState_of
def UJ:=@PyProof.Rows.wpS_mono
def UR:=@List.eraseIdx_eq_take_drop_succ
def U1:=@List.mem_of_mem_take
def U7:=@Bool.or_eq_false_iff
def U9:=@List.append_nil
def Tj:=@List.getElem_mem
def Ts:=@List.getElem?_eq_none_iff
def Tz:=@PyProof.Rows.F.plain_set_update_loop
def TB:=@PySem.wpAny_truthy_bool
def TH:=@List.length_singleton
def TJ:=@List.mem_range
def TL:=@Bool.or_eq_true
def TX:=@PySem.Obj.data_mapFields
def TZ:=@congrArg
def T1:=@Array.mem_toList_iff
def T3:=@PySem.wpAny_askSetting
def T6:=@decide_eq_false_iff_not
def Se:=@List.getElem?_set_self
def Sf:=@List.pairwise_map
def Sq:=@Array.toList_push
def Sz:=@PySem.Heap.SameBut.update
def SK:=@List.flatMap_append
def SM:=@List.map_append
def SR:=@List.nil_append
def SU:=@List.pairwise_iff_getElem
def S1:=@List.contains_iff_mem
def S4:=@List.mem_flatMap
def S8:=@PySem.wpAny_standAt
def S_:=@Nat.zero_le
def Ra:=@PySem.wpAny_typeNameOfWhole_keyiter
def Rb:=@PySem.wpAny_callSpecial?_slot
def Rc:=@PySem.F.slot_dict_keyiterator_next
def Rf:=@beq_eq_false_iff_ne
def Rg:=@Nat.le_of_lt
def Rh:=@PySem.Heap.get?_update_other
def Ri:=@Nat.lt_succ_self
def Rj:=@Option.bind_some
def Rk:=@List.cons_append
def Rl:=@List.mem_filterMap
def Rm:=@List.zip_cons_cons
def Rn:=@PySem.Heap.get?_update_self
def Ro:=@List.Perm.append_left
def Rp:=@List.extract_eq_take_drop
def Rq:=@PySem.wpAny_passesOwn
def Rr:=@List.nodup_cons
def Rt:=@List.mem_append_left
def Ru:=@PySem.codeAny_mono
def Rv:=@Nat.lt_succ_of_lt
def Rw:=@List.mem_iff_getElem
def Rx:=@Nat.lt_irrefl
def Ry:=@Option.isSome_iff_exists
def Rz:=@PySem.wpAny_typeNameOf_keyiter
def RA:=@PySem.Heap.size_push
def RB:=@List.getElem?_replicate
def RE:=@List.length_eq_zero_iff
def RG:=@beq_self_eq_true
def RJ:=@List.isEmpty_iff
def RL:=@List.take_succ
def RM:=@PySem.wpAny_rule
def RN:=@PySem.wpAny_Call_Name_kw
def RP:=@PySem.W.cellsFrom_some
def RW:=@PyProof.Rows.wpS_modify
def RX:=@decide_false
def Qa:=@List.filter_eq_nil_iff
def Qb:=@List.mem_filter
def Qc:=@Bool.eq_iff_iff
def Qd:=@PySem.wpAny_specialOf
def Qe:=@PySem.W.kia_one
def Qf:=@List.length_replicate
def Qg:=@List.getElem?_eq_none
def Qh:=@List.Pairwise.sublist
def Qi:=@List.set_append_right
def Qj:=@PySem.Value.isInt_shape
def Qk:=@List.take_sublist
def Ql:=@List.reverse_cons
def Qm:=@List.getElem?_of_mem
def Qn:=@Array.toList_extract
def Qo:=@Array.toList_reverse
def Qp:=@Nat.lt_or_ge
def Qq:=@Nat.le_add_right
def Qr:=@List.take_length
def Qs:=@List.getElem_of_mem
def Qt:=@PyProof.Rows.F.entry_set_update_loop
def Qu:=@PySem.Paired.length
def Qv:=@List.getElem?_take_of_lt
def Qw:=@Bool.true_and
def Qx:=@PySem.wpAny_comprehension_free
def Qy:=@List.foldl_cons
def Qz:=@PySem.tupleKind_room_in1
def QA:=@Int.emod_lt_of_pos
def QC:=@of_decide_eq_false
def QD:=@Array.size_extract
def QE:=@decide_true
def QG:=@List.getElem?_cons_succ
def QH:=@Nat.ne_of_gt
def QJ:=@Bool.false_and
def QK:=@List.map_nil
def QM:=@Option.isSome_map
def QN:=@Nat.lt_trans
def QP:=@List.length_range
def QQ:=@Array.getElem?_eq_none
def QR:=@Int.toNat_natCast
def QS:=@PySem.wpAny_setField
def QT:=@List.drop_drop
def QU:=@List.reverse_perm
def QV:=@PySem.wpAny_dictEntries
def QW:=@PyProof.Rows.slot_tuple_getitem
def QX:=@List.eraseIdxIfInBounds_toArray
def QY:=@PySem.Obj.isFreed_of_fields
def QZ:=@List.length_filter_le
def Q0:=@List.eq_nil_or_concat
def Q1:=@PySem.wpAny_mono
def Q3:=@List.Nodup.length_le_of_subset
def Q4:=@Array.toList_inj
def Q5:=@PySem.wpAny_forIn_list
def Q6:=@PySem.F.args_dict_keyiterator_next_1
def Q7:=@Int.natCast_zero
def Q8:=@PySem.wpAny_attempt
def Q9:=@List.take_add
def Q_:=@List.all_cons
def Pa:=@PySem.mem_of_lookup
def Pb:=@PySem.Around.under_plainId
def Pc:=@PySem.F.entry_dict_keyiterator_next
def Pd:=@Option.ite_none_right_eq_some
def Pe:=@List.length_set
def Pf:=@Int.emod_nonneg
def Pg:=@Array.getElem?_setIfInBounds
def Ph:=@PySem.codeAny_builtin
def Pj:=@List.forIn_cons
def Pk:=@PySem.W.plainGet_of
def Pl:=@PySem.wpAny_setEntries_of
def Pm:=@List.length_reverse
def Pn:=@PyProof.Rows.callWith_type1
def Po:=@PyProof.Rows.wpS_get
def Pp:=@PySem.Calls.Name_function_global
def Pq:=@PyProof.Rows.assignInOrder_cons
def Pu:=@List.perm_ext_iff_of_nodup
def Pw:=@Bool.not_false
def Px:=@PySem.wpAny_fieldsOf
def Py:=@PyProof.Rows.wpS_lift
def Pz:=@Array.toList_setIfInBounds
def PD:=@List.getElem?_drop
def PF:=@List.contains_cons
def PH:=@List.mem_of_find?_eq_some
def PJ:=@Option.isNone_iff_eq_none
def PL:=@Nat.le_of_lt_succ
def PM:=@List.getElem_take
def PN:=@List.getElem_drop
def PQ:=@List.nodup_append
def PU:=@PySem.wpAny_pyIter_slot
def PV:=@PySem.Obj.cls_mapFields
def PX:=@Nat.le_of_succ_le
def PY:=@Array.size_setIfInBounds
def PZ:=@Option.getD_none
def P1:=@Nat.succ_le_succ
def P2:=@List.nodup_range
def P4:=@List.perm_middle
def P6:=@PySem.wpAny_isInstance
def P7:=@List.pairwise_singleton
def P8:=@decide_eq_decide
def P9:=@PySem.F.plainAttrs_list
def P_:=@Nat.add_sub_cancel_left
def Oa:=@Int.eq_ofNat_of_zero_le
def Ob:=@Nat.le_of_eq
def Oc:=@Nat.mod_lt
def Od:=@List.range_succ_eq_map
def Oe:=@Nat.sub_zero
def Of:=@PySem.wpAny_execs_nil
def Og:=@List.of_mem_zip
def Oh:=@PySem.SeqAt.EqAt.same
def Oi:=@PySem.codeAny_of_tree
def Ol:=@List.cons.injEq
def Om:=@PySem.wpAny_dictEpoch
def Oo:=@Sum.inr.inj
def Oq:=@PyProof.Rows.vals1
def Ot:=@PySem.wpAny_seqItems
def Ou:=@PySem.wpAny_of_eq
def Ov:=@PySem.isSubtype_type
def Ow:=@List.take_zero
def Ox:=@List.drop_zero
def Oy:=@PySem.typeIs_none
def Oz:=@Bool.false_or
def OA:=@Prod.mk.injEq
def OB:=@Nat.add_assoc
def OC:=@List.map_take
def OD:=@Bool.and_true
def OE:=@PySem.wpAny_call
def OF:=@PySem.call_meets
def OG:=@Prod.ext
def Gx:=@PySem.Heap.get?_push_of_some
def Gy:=@PySem.Heap.lt_size
def Gz:=@Nat.le_trans
def GA:=@Bool.false_ne_true
def GB:=@Nat.le_refl
def GC:=@List.mem_cons_of_mem
def GD:=@Nat.lt_of_lt_of_le
def GF:=@Nat.ne_of_lt
def GG:=@PySem.Heap.get?_push_size
def GH:=@Classical.byContradiction
def GI:=@of_decide_eq_true
abbrev GJ:=PySem.W.Frag
def ZB:=@PySem.wpAny_bind
def ZP:=@PySem.wpAny_pure
set_option bootstrap.genMatcherCode false
variable{K:GJ}{ρ ZN ch fp:List PySem.Addr}{x:PySem.Str}{a b:PySem.Addr}{P prog:PySem.Program}{w:PySem.World}{h h' base:PySem.Heap}{α β:Type}{e tg:PySem.Expr}{O:List (PySem.Addr×PySem.Obj)}{s:PySem.Shared}{t' i j Z5 c n lo m d ep slot:Nat}{N ps:List PySem.Str}{A:PySem.Around}{pos apos Y_:PySem.Pos}{ZQ gens:List PySem.Comprehension}{D:List (List Int×PySem.Addr)}{f:PySem.Value->PySem.Value->PySem.Sem PySem.Value}{st:PyProof.Rows.SortSt}{es ts:List PySem.Expr}{pl:PySem.Sem Bool}{κ:PyProof.Rows.SortKind}{ZV:List PySem.Value}{ns:List Int}{kw:List (PySem.Str×PySem.Value)}{env:PySem.Env}{mg:PySem.Str->Option PySem.Value}{fd:PySem.FuncData}{kws:List PySem.Keyword}{scope:PySem.Scope}{z:Nat×Int×PySem.Value}{ZO arr:Array PyProof.Rows.Keyed}{rk:PyProof.Rows.Keyed->Nat}{gc:PySem.Comprehension}{cells cl:List (PySem.Str×PySem.Addr)}{names:List (PySem.Str×PySem.NameKind)}{Zq:List Nat}{rs:List (Option (PySem.Scope×List PySem.Stmt))}
namespace Att
end Att
namespace HT
end HT
namespace L2
end L2
namespace ZE
end ZE
namespace PI
end PI
namespace PI
noncomputable section
open PySem
noncomputable section
inductive U where
 |ZL|bl (b:Bool)|int (i:Int)|str (s:Str)|ZX (xs:List U)|Zv (xs:List U)|ref (n:Nat)|xn (c:Nat) (fs:List U)
inductive Op where|add|sub|mul|fdiv|mod|pow
inductive Cp where|eq|ne|lt|le|gt|ge|V6|Vv|W8|V5
inductive Bi where|len|abs|list|mn|mx|Vu|sum|TV|cat|sset|dct|UZ|int
set_option genInjectivity false in
inductive Ty where|Vt|Vs|UY|UX|UW|own (c:Nat)
set_option genInjectivity false in
inductive Tg where|nm (i:Nat)|tp (is:List Nat)
set_option genInjectivity false in
inductive E where
 |L (i:Nat)|ZZ (u:U)
 |ZT (op:Op) (a b:E)|cmp (op:Cp) (a b:E)|chain (op Y1:Cp) (a b c:E)
 |and (a b:E)|or (a b:E)|not (a:E)|neg (a:E)|ite (c a b:E)
 |ZX (es:List E)|M (es:List E)
 |idx (a b:E)|XR (a:E) (lo hi:Option E)|rev (a:E)
 |call (f:Nat) (es:List E)
 |fld (a:E) (j:Nat) (cs:List Nat)|make (c f:Nat) (es ks:List E) (pm:List (Nat ⊕ U))|Yw (a:E) (j:Nat) (tb:List (Nat×Nat×List (Nat ⊕ U))) (es ks:List E)
 |bi (b:Bi) (es:List E)
 |Yv (a:E) (t:Ty)
 |app (o v:E)|ext (o v:E)|pop (o:E)|V4 (o v:E)
 |Ym (a:E)|Vr (a b:E)|Wp
 |comp (own:Nat) (fr:List Nat) (gs:List (Tg×E×List E)) (elt:E)
 |pair (k v:E)|Wo (own:Nat) (fr:List Nat) (gs:List (Tg×E×List E)) (k v:E)
set_option genInjectivity false in
inductive Z6 where
 |ret (e:E)|set (t:Tg) (e:E)|par (i j:Nat) (a b:E)
 |sub (o i e:E)
 |exp (e:E)|Zx (c:E) (a b:List Z6)|V3 (c:E) (b:List Z6)|for (t:Tg) (it:E) (b:List Z6)
 |never|fset (a:E) (j:Nat) (cs:List Nat) (e:E)
structure Fn where
 np:Nat
 ns:Nat
 body:List Z6
end
open PySem PySem.Spec PyProof.Rows L2
section
variable{Vq:List Addr}{H H' XE:Hp}{g:G}
def dig:Nat->Nat->List Nat
 |0,_=>[]
 |f+1,n=>if n=0 then[]else n % 128::dig f (n / 128)
def Bk:Nat:=128 ^ 64
def Ao(n:Nat):Str:=⟨(dig 64 n).toArray⟩
end
open PySem PySem.Spec PyProof.Rows L2 PySem.W
def Cq(names:List Str):List Str->Bool
 |[]=>true
 |k::r=>!names.contains k&&Cq (names++[k]) r
def place{a:Type}(ns ks kw:List Str)(dd:List (Str×a))(S b:List a):List a:=(ns++ks).filterMap λn=>(ns.zip S++(kw.zip b++dd)).lookup n
set_option genInjectivity false in
structure KF where
 ns:List Str
 ks:List Str
 dd:List (Str×U)
def Ci(F:KF)(a:Nat)(kw:List Str):List (Nat ⊕ U):=place F.ns F.ks kw (F.dd.map λp=>(p.1,.inr p.2)) ((List.range' 0 a).map .inl) ((List.range' a kw.length).map .inl)
def B2(F:KF)(b a:Nat)(kw:List Str):Bool:=decide (a<=F.ns.length)&&kw.all (λk=>F.ns.contains k||F.ks.contains k)&&Cq (F.ns.take a) kw&&(F.ns.take (F.ns.length-b)).all λn=>(F.ns.take a++kw).contains n
def AE(kws:List Keyword):List Str:=kws.filterMap (·.arg)
def kwOk(kws:List Keyword):Bool:=kws.all (·.arg.isSome)
open PySem PySem.Spec PyProof.Rows L2
set_option genInjectivity false in
structure Tab where
 J:List Str
 cs:List (Str×U)
 bt:List Str
 kf:List (Str×Nat×KF×Nat)
 cl:List (Str×Nat×Nat×KF×Nat)
 mt:List (Str×List (Nat×Nat×KF×Nat))
 fl:List (Str×List Nat)
 ow:List (Str×Nat)
 oq:List Str
def AN(N:List Str)(x:Str):Option Nat:=N.findIdx? (· == x)
def DX:Operator->Option Op
 |.Add=>some .add|.Sub=>some .sub|.Mult=>some .mul|.FloorDiv=>some .fdiv|.Mod=>some .mod|.Pow=>some .pow|_=>none
def CJ:CmpOp->Option Cp
 |.Eq=>some .eq|.NotEq=>some .ne|.Lt=>some .lt|.LtE=>some .le|.Gt=>some .gt|.GtE=>some .ge|.Is=>some .V6|.IsNot=>some .Vv|.In=>some .W8|.NotIn=>some .V5
def isStar:Expr->Bool
 |.Starred ..=>true
 |_=>false
def CV:Expr->Bool
 |.Set ..=>true
 |_=>false
def B0:Expr->Bool
 |.ListComp ..=>true|.SetComp ..=>true|.DictComp ..=>true|_=>false
def Ck:Expr->Bool
 |.Call _ es _ _=>es.isEmpty
 |_=>false
def CT:Expr->Bool
 |.Tuple ..=>true|_=>false
def Co:Expr->Bool
 |.Slice ..=>true|_=>false
def Dj(x:Str):Option Ty:=if x = "int" then some .Vt else if x = "bool" then some .Vs else if x = "str" then some .UY else if x = "tuple" then some .UX else if x = "list" then some .UW else none
def CI(x:Str):Bool:=!(x==("__debug__" : Str))&&!(x==("__classdict__" : Str))&&!(x==("__name__" : Str))
def Ab{b:Type}:List (Option b)->Option (List b)
 |[]=>some []
 |none::_=>none
 |some a::r=>(Ab r).map (a :: ·)
def CO:E->Bool
 |.Ym _=>false|.Vr _ _=>false|_=>true
def BS(b:Bool)(a:Scope)(x:Str):Bool:=a.names.lookup x==some .local||(b&&a.names.lookup x==some .cell)
def BQ(b:Bool)(a:Scope)(N:List Str)(x:Str):Option Nat:=if BS b a x then AN N x else none
def B5(b:Bool)(a:Scope)(N:List Str)(e:Expr):Option Nat:=match e with
 |.Name x _=>BQ b a N x
 |_=>none
def Bj(b:Bool)(a:Scope)(N:List Str):Expr->Option Tg
 |.Name x _=>(BQ b a N x).map .nm
 |.Tuple ts _ _=>(Ab (ts.map (B5 b a N))).map .tp
 |_=>none
def GK{a:Type}(c:Bool)(x:Option a):Option a:=match c with
 |true=>x
 |false=>none
def GL(e:Expr):Option Str:=match e with
 |.Name x _=>some x
 |_=>none
def CU(e:Expr):Option (Str×List Expr):=match e with
 |.Call f es kws _=>match kws with
  |[]=>(GL f).map λn=>(n,es)
  |_::_=>none
 |_=>none
def CB(c:Expr->Option E)(k:E->E)(b:List Expr):Option E:=match b with
 |[]=>none
 |a::b=>match b with
  |[]=>(c a).map k
  |_::_=>none
def Ba{a:Type}(l:List a):Bool:=match l with
 |[]=>true
 |_::_=>false
def Gs(f:Expr->Option E)(a:List Expr):Option E:=match a with
 |[]=>none
 |_::r=>match Ba r with
  |true=>CB f .Ym a
  |false=>none
def GN(f:Expr->Option E)(e:Expr):Option E:=GK (!CV e) ((f e).bind λe'=>GK (CO e') (some e'))
def DP(T:Tab)(a:Scope)(f:Expr->Option E)(e:Expr):Option E:=match CU e with
 |some c=>if c.1 = "range" then GK (T.bt.contains c.1&&(a.names.lookup c.1==some .globalImplicit)&&!c.2.any isStar) (Gs f c.2)else GN f e
 |none=>GN f e
def CS(T:Tab)(a:Scope)(f:Expr->Option E)(b e:Expr):Option E:=DP T a f e
def Bg(scope a:Scope):Scope:={scope with names:=scope.names.map λ(n,k)=>if(k==.free&&a.kind==.function&&a.names.lookup n==some .cell)then(n,.cell)else(n,k)}
def F4:Expr->List Str
 |.Name x _=>[x]
 |.Tuple ts _ _=>ts.filterMap fun|.Name x _=>some x|_=>none
 |_=>[]
def ownOf(gs:List Comprehension):List Str:=(gs.map λg=>F4 g.target).flatten
def freeOf(scope:Scope):List Str:=(scope.names.filter λx=>x.2==.free).map (·.1)
def DD(scope c:Scope)(a b:List Str):Bool:=
 (scope.kind==.function)&&(scope.names.all λx=>x.2 != .local||scope.names.lookup x.1==some .local)&&(scope.names.all λx=>x.2 != .cell||scope.names.lookup x.1==some .cell)&&(scope.names.all λx=>x.2 != .free||c.names.lookup x.1==some .cell)
  && (a.all λx=>scope.names.lookup x==some .local||scope.names.lookup x==some .cell)&&decide ((a++b).Nodup)&&(b.all λx=>scope.names.lookup x==some .free)
def DQ(T:Tab)(a:Scope)(N:List Str)(f:Expr->Option E):List Comprehension->Option (List (Tg×E×List E))
 |[]=>some []
 |g::r=>GK (g.is_async==0) ((Bj false a N g.target).bind λt=>(CS T a f g.target g.iter).bind λit=>(Ab (g.ifs.map f)).bind λcs=>(DQ T a N f r).map λr'=>(t,it,cs)::r')
def Bm(f:Str):Nat:=f.cps.toList.foldr (λd n=>d+128*n) 0
def BU(f:Str):Bool:=decide (Ao (Bm f)=f)&&decide (Bm f<Bk)
def Cy(T:Tab)(c:Scope)(b:Expr->Option E)(f:Str)(a:List Expr)(kws:List Keyword):Option E:=GK (CI f&&!a.any isStar&&(c.names.lookup f==some .globalImplicit)&&kwOk kws)
  ((Ab (a.map b)).bind λes'=>(Ab (kws.map λk=>b k.value)).bind λX_=>match T.kf.lookup f with
   |some _=>none
   |none=>(T.cl.lookup f).bind λq=>GK (B2 q.2.2.1 q.2.2.2 (a.length+1) (AE kws)) (some (.make q.1 q.2.1 es' X_ (Ci q.2.2.1 (a.length+1) (AE kws)))))
def DN(T:Tab)(b:Expr->Option E)(o':E)(m:Str)(d c:Pos)(a:List Expr)(kws:List Keyword):Option E:=GK (BU m&&!a.any isStar&&kwOk kws&&decide (a.length+kws.length+1<30)&&(d.endLine==c.line))
  ((Ab (a.map b)).bind λes'=>(Ab (kws.map λk=>b k.value)).bind λX_=>(T.mt.lookup m).bind λl =>
   GK (l.all (λe=>B2 e.2.2.1 e.2.2.2 (a.length+1) (AE kws))) (some (.Yw o' (Bm m) (l.map λe=>(e.1,e.2.1,Ci e.2.2.1 (a.length+1) (AE kws))) es' X_)))
def Fv(f:Str)(n:Nat)(a:Str->Option Bi):Option Bi:=
 a f
def GO(f:Str):Option Bi:=
 if f = "len" then some .len else
 if f = "abs" then some .abs else
 if f = "list" then some .list else
 if f = "sorted" then some .Vu else
 if f = "tuple" then some .TV else
 if f = "repr" then some .UZ else
 if f = "int" then some .int else
 none
def setArg(b:List Expr):Option Expr:=match b with
 |[]=>none
 |e::b=>match b with
  |[]=>(CU e).bind λc=>if c.1 = "set" then(match c.2 with
   |[]=>none
   |a::as=>match as with
    |[]=>GK (!isStar a) (some a)
    |_::_=>none)else none
  |_::_=>none
def FN(T:Tab)(a:Scope)(N:List Str)(x:Str):Option E:=GK (CI x) ((a.names.lookup x).bind λk=>match k with
 |.local=>(AN N x).map .L
 |.cell=>(AN N x).map .L
 |.free=>(AN N x).map .L
 |.globalImplicit=>(T.cs.lookup x).map .ZZ
 |_=>none)
def GP(v:Const):Option E:=match v with
 |.int i=>some (.ZZ (.int i))
 |.bool b=>some (.ZZ (.bl b))
 |.none=>some (.ZZ .ZL)
 |.str s=>some (.ZZ (.str s))
 |_=>none
section
variable(T:Tab)(sc:Scope)(ce:Expr->Option E)
def GQ(o:Operator)(a b:Expr):Option E:=(DX o).bind λo'=>(ce a).bind λa'=>(ce b).map (.ZT o' a')
def FC(a:Expr)(o:CmpOp)(b:Expr):Option E:=GK (!CV b) ((CJ o).bind λo'=>(ce a).bind λa'=>(ce b).map (.cmp o' a'))
def Fw(a:Expr)(o q:CmpOp)(b c:Expr):Option E:=GK (!CV c) ((CJ o).bind λo'=>(CJ q).bind λd=>(ce a).bind λa'=>(ce b).bind λb'=>(ce c).map (.chain o' d a' b'))
def GR(a:Expr)(e:List CmpOp)(d:List Expr):Option E:=match e with
 |[]=>none
 |o::e=>match d with
  |[]=>none
  |b::d=>match e with
   |[]=>GK (Ba d) (FC ce a o b)
   |q::e=>match d with
    |[]=>none
    |c::d=>GK (Ba e&&Ba d) (Fw ce a o q b c)
def GS(o:BoolOp)(c:List Expr)(pos:Pos):Option E:=match c with
 |[]=>none
 |a::c=>match c with
  |[]=>ce a
  |b::ZQ=>match o with
   |.And=>(ce a).bind λa'=>(ce (.BoolOp .And (b::ZQ) pos)).map (.and a')
   |.Or=>(ce a).bind λa'=>(ce (.BoolOp .Or (b::ZQ) pos)).map (.or a')
def GU(o:UnaryOp)(a:Expr):Option E:=match o with
 |.Not=>(ce a).map .not
 |.USub=>(ce a).map .neg
 |_=>none
def GV(k:List E->E)(a:List Expr):Option E:=GK (!a.any isStar) ((Ab (a.map ce)).map k)
def GW(e:Expr):Bool:=match e with
 |.UnaryOp o a _=>match o with
  |.USub=>match a with
   |.Constant v _ _=>match v with
    |.int i=>i==1
    |_=>false
   |_=>false
  |_=>false
 |_=>false
def Eg(lo:Option Expr):Option (Option E):=match lo with
 |none=>some none
 |some l=>(ce l).map some
def Ep{a:Type}(o:Option a):Bool:=match o with
 |none=>true
 |some _=>false
def GX(a s:Expr):Option E:=match s with
 |.Slice lo hi st _=>match st with
  |none=>(ce a).bind λa'=>(Eg ce lo).bind λb=>(Eg ce hi).map (.XR a' b)
  |some st=>GK (Ep lo&&Ep hi&&GW st) ((ce a).map .rev)
 |_=>none
def Ew(a s:Expr):Option E:=match Co s with
 |true=>GX ce a s
 |false=>(ce a).bind λa'=>(ce s).map (.idx a')
def Gn(a t:Expr):Option E:=(GL t).bind λtn=>(Dj tn).bind λt=>(ce a).bind λa'=>GK (T.bt.contains tn&&(sc.names.lookup tn==some .globalImplicit)) (some (.Yv a' t))
def Gk(a t:Expr):Option E:=(GL t).bind λ_=>Gn T sc ce a t
def GY(b:List Expr):Option E:=match b with
 |[]=>none
 |a::b=>match b with
  |[]=>none
  |t::b=>GK (Ba b) (Gk T sc ce a t)
def GZ(f:Str)(a:List Expr):Option E:=(Fv f a.length GO).bind λb=>GK (!Ba a) ((Ab (a.map ce)).map (.bi b))
def G0(a:Expr):Option E:=GK (T.bt.contains ("set" : Str)&&(sc.names.lookup ("set" : Str)==some .globalImplicit)) ((ce a).map λa'=>.bi .sset [a'])
def G1(f:Str)(b:List Expr):Option E:=
 if f = "sorted" then(match setArg b with
  |some a=>G0 T sc ce a
  |none=>GZ ce f b)else
 GZ ce f b
def Dw(T:Tab)(a:Scope)(c:Expr->Option E)(f:Str)(b:List Expr):Option E:=
 if f = "isinstance" then GY T a c b else
 G1 T a c f b
def G2(f:Str)(a:List Expr):Option E:=GK (CI f&&!a.any isStar&&(sc.names.lookup f==some .globalImplicit)) (match AN T.J f with
 |some i=>(Ab (a.map ce)).map (.call i)
 |none=>match T.bt.contains f with
  |true=>Dw T sc ce f a
  |false=>Cy T sc ce f a [])
def G3(o':E)(m:Str)(d c:Pos)(b:List Expr):Option E:=
 if m = "append" then CB ce (.app o') b else
 if m = "extend" then CB ce (.ext o') b else
 if m = "pop" then(match b with
  |[]=>some (.pop o')
  |a::b=>CB ce (.V4 o') (a::b))else
 DN T ce o' m d c b []
def Gq(o:Expr)(m:Str)(c b:Pos)(a:List Expr)(kws:List Keyword):Option E:=GK (!Ck o) ((ce o).bind λo'=>match kws with
 |[]=>GK (c.endLine==b.line&&!a.any isStar) (G3 T ce o' m c b a)
 |k::kws=>DN T ce o' m c b a (k::kws))
def G4(fn:Expr)(a:List Expr)(kws:List Keyword)(b:Pos):Option E:=match fn with
 |.Name f _=>match kws with
  |[]=>G2 T sc ce f a
  |k::kws=>Cy T sc ce f a (k::kws)
 |.Attribute o m ap=>Gq T ce o m ap b a kws
 |_=>none
def G5(o:Expr)(f:Str):Option E:=(T.fl.lookup f).bind λcs=>(ce o).bind λo'=>GK (BU f&&!Ck o) (some (.fld o' (Bm f) cs))
def G6(b:Expr->Option E)(a:List (Option Expr))(vs:List Expr):Option E:=match a with
 |[]=>GK (Ba vs) (some .Wp)
 |_::_=>none
def Eu(N:List Str)(b:Expr->Option E)(g:Comprehension)(a:List Comprehension)(scope:Scope):Option (List Nat×List (Tg×E×List E)):=
 GK (DD scope sc (ownOf (g :: a)) (freeOf scope) && (g.is_async == 0)) ((CS T sc ce g.target g.iter).bind λZp=>(Bj true scope (ownOf (g :: a)++freeOf scope) g.target).bind λt=>(Ab (g.ifs.map b)).bind λcs =>
  (DQ T (Bg scope sc) (ownOf (g::a)++freeOf scope) b a).bind λZD=>(Ab ((freeOf scope).map (AN N))).map λZq=>(Zq,(t,Zp,cs)::ZD))
end
def Al(T:Tab)(c:Scope)(N:List Str):Nat->Expr->Option E
 |0,_=>none
 |n+1,e=>match e with
  |.Name x _=>FN T c N x
  |.Constant v _ _=>GP v
  |.BinOp a o b _=>GQ (Al T c N n) o a b
  |.Compare a os bs _=>GR (Al T c N n) a os bs
  |.BoolOp o es pos=>GS (Al T c N n) o es pos
  |.UnaryOp o a _=>GU (Al T c N n) o a
  |.Tuple es _ _=>GV (Al T c N n) .ZX es
  |.List es _=>GV (Al T c N n) .M es
  |.Subscript a s _=>Ew (Al T c N n) a s
  |.Call fn es kws cp=>G4 T c (Al T c N n) fn es kws cp
  |.Attribute o f _=>G5 T (Al T c N n) o f
  |.Dict keys vs _=>G6 (Al T c N n) keys vs
  |.ListComp elt gs scope _=>match gs with
   |[]=>none
   |g::ZQ=>(Eu T c (Al T c N n) N (Al T (Bg scope c) (ownOf (g::ZQ)++freeOf scope) n) g ZQ scope).bind λq=>(Al T (Bg scope c) (ownOf (g::ZQ)++freeOf scope) n elt).map (.comp (ownOf (g::ZQ)).length q.1 q.2)
  |.DictComp h d gs scope _=>match gs with
   |[]=>none
   |g::ZQ=>(Eu T c (Al T c N n) N (Al T (Bg scope c) (ownOf (g::ZQ)++freeOf scope) n) g ZQ scope).bind λq=>
    (Al T (Bg scope c) (ownOf (g::ZQ)++freeOf scope) n h).bind λk'=>(Al T (Bg scope c) (ownOf (g::ZQ)++freeOf scope) n d).map (.Wo (ownOf (g::ZQ)).length q.1 q.2 k')
  |_=>none
def Ct(c:Scope)(x y:Str)(e d:Pos)(a b:Expr):Bool:=
 (c.names.lookup x==some .local)&&(c.names.lookup y==some .local)&&!(x==y)&&(d.line==e.line)&&!isStar a&&!isStar b&&!(foldedForSure 8 a&&foldedForSure 8 b)&&!(constantsAlone 8 a&&constantsAlone 8 b)
def Et(a:Scope)(x:Str)(b:Pos)(scope:Scope)(p:Pos):Bool:=(a.names.lookup x==some .local)&&(b.line==p.line)&&!(scope.names.any λ(n,k)=>n==x&&(k==.local||k==.cell))
def DU{c:Type}(l:List c):Option (c×c):=match l with
 |[]=>none
 |a::l=>match l with
  |[]=>none
  |b::l=>match l with
   |[]=>some (a,b)
   |_::_=>none
def G7(e:Expr):Option (Str×Pos):=match e with
 |.Name x p=>some (x,p)
 |_=>none
def G8(e:Expr):Option (List Expr×Nat×Pos):=match e with
 |.Tuple es k p=>some (es,k,p)
 |_=>none
def CN(T:Tab)(c:Scope)(N:List Str)(b:Expr->Option E)(ts:List Expr)(f:Nat)(d:Pos)(e:Expr):Option Z6:=
 (G8 e).bind λq=>(DU ts).bind λt=>(G7 t.1).bind λx=>(G7 t.2).bind λy=>(DU q.1).bind λa=>match Ct c x.1 y.1 x.2 y.2 a.1 a.2 with
  |true=>(AN N x.1).bind λi=>(AN N y.1).bind λj=>(b a.1).bind λa'=>(b a.2).map (.par i j a')
  |false=>GK (foldedForSure 8 a.1&&foldedForSure 8 a.2) ((Bj true c N (.Tuple ts f d)).bind λt=>(b e).map (.set t))
def G9(e:Expr):Option (Scope×Pos):=match e with
 |.ListComp _ gs scope p=>match gs with
  |[]=>none
  |_::_=>some (scope,p)
 |_=>none
def Fu(a:Scope)(N:List Str)(c:Expr->Option E)(x:Str)(b:Pos)(e:Expr):Option Z6:=GK (match G9 e with
 |some q=>Et a x b q.1 q.2
 |none=>!B0 e) ((BQ true a N x).bind λi=>(c e).map (.set (.nm i)))
def Gd(T:Tab)(a:Expr->Option E)(o:Expr)(f:Str)(e:Expr):Option Z6:=(G7 o).bind λ_=>(T.fl.lookup f).bind λcs=>(a o).bind λo'=>(a e).bind λe'=>GK (BU f) (some (.fset o' (Bm f) cs e'))
def Fm(T:Tab)(b:Scope)(N:List Str)(a:Expr->Option E)(t e:Expr):Option Z6:=match t with
 |.Name x c=>Fu b N a x c e
 |.Tuple ts k p=>match CT e with
  |true=>CN T b N a ts k p e
  |false=>(Bj true b N (.Tuple ts k p)).bind λt=>(a e).map (.set t)
 |.Subscript o i _=>GK (!Co i&&!B0 e) ((a o).bind λo'=>(a i).bind λd=>(a e).map (.sub o' d))
 |.Attribute o f _=>Gd T a o f e
 |_=>none
def BB(T:Tab)(d:Scope)(N:List Str):Nat->Stmt->Option Z6
 |0,_=>none
 |n+1,st=>match st with
  |.Return o _=>match o with
   |none=>none
   |some e=>(Al T d N n e).map .ret
  |.Assign ts e _=>match ts with
   |[]=>none
   |t::r=>GK (Ba r) (Fm T d N (Al T d N n) t e)
  |.Expr e _=>GK (!B0 e) ((Al T d N n e).map .exp)
  |.If c a b _=>(Al T d N n c).bind λc'=>(Ab (a.map (BB T d N n))).bind λa'=>(Ab (b.map (BB T d N n))).map (.Zx c' a')
  |.While c b o _=>GK (Ba o) ((Al T d N n c).bind λc'=>(Ab (b.map (BB T d N n))).map (.V3 c'))
  |.For tg it b o _=>GK (Ba o) ((Bj true d N tg).bind λt=>(CS T d (Al T d N n) tg it).bind λZp=>(Ab (b.map (BB T d N n))).map (.for t Zp))
  |.Raise _ _ _=>some .never
  |_=>none
open PySem PySem.Spec PyProof.Rows L2 PySem.W
def Ca:Nat->List Obj->Frag
 |_,[]=>[]
 |n,o::r=>match o.data with
  |.freed=>Ca (n+1) r
  |_=>(n,o)::Ca (n+1) r
def AX(h:Heap):Frag:=Ca 0 h.objs.toList
set_option genInjectivity false in
structure Inf where
 x:Str
 N:List Str
 ps:List Str
 cm:Option (Str×Str)
 kf:Option (KF×Nat)
def DF(N b:List Str)(a:Scope):Bool:=
 decide (a.kind=.function)&&!a.isCoroutine&&!a.isGenerator&&decide N.Nodup&&decide (N.take b.length=b)&&b.all (λx=>decide (a.names.lookup x=some .local)||decide (a.names.lookup x=some .cell))&&a.names.all λy=>decide (y.2 ≠ .free)
def FL(a:List Str)(p:Arguments):Bool:=p.posonlyargs.isEmpty&&decide (p.args.map (·.arg)=a)&&p.vararg.isNone&&p.kwonlyargs.isEmpty&&p.kwarg.isNone
def Ek:Value->Bool
 |.none=>true
 |_=>false
def D4(u:U)(v:Value):Bool:=match u with
 |.int i=>match v with
  |.int j _=>decide (i=j)
  |_=>false
 |.ZL=>Ek v
 |.bl b=>match v with
  |.bool c=>b==c
  |_=>false
 |.str s=>match v with
  |.str t _=>decide (s=t)
  |_=>false
 |_=>false
def Cs:List U->List Value->Bool
 |[],[]=>true
 |u::S,v::vs=>D4 u v&&Cs S vs
 |_,_=>false
def Ha(S:List U)(d:Data):Bool:=match d with
 |.seq ZV _=>decide (ZV.size<=1000)&&Cs S ZV.toList
 |_=>false
def D9(K:Frag)(S:List U)(v:Value):Bool:=match v with
 |.ref a=>match K.lookup a with
  |some o=>decide (o.cls=.type "tuple")&&Ha S o.data
  |none=>false
 |_=>false
def Hb(K:Frag)(u:U)(v:Value):Bool:=match u with
 |.xn _ S=>D9 K S v
 |_=>false
def Dp(K:Frag)(u:U)(v:Value):Bool:=D4 u v||Hb K u v
def CY(K:Frag):List U->List Value->Bool
 |[],[]=>true
 |u::S,v::vs=>Dp K u v&&CY K S vs
 |_,_=>false
def D6(K:Frag):Value->Option (List Value)
 |.none=>some []
 |.ref a=>match K.lookup a with
  |some ⟨_,_,.seq ZV _,_⟩=>some ZV.toList
  |_=>none
 |_=>none
def BH(K:Frag)(v:Value)(n:Str):Option Value:=match v with
 |.ref d=>match nsIn K d n with
  |some (some v)=>some v
  |_=>none
 |_=>none
def Hc(K:Frag)(fd:FuncData)(F:KF)(a:Nat):Bool:=fd.params.posonlyargs.isEmpty&&decide (fd.params.args.map (·.arg)=F.ns)&&fd.params.vararg.isNone&&decide (fd.params.kwonlyargs.map (·.arg)=F.ks)&&fd.params.kwarg.isNone&&decide (a<=F.ns.length) &&
 (F.ks.all λn=>(BH K fd.kwdefaults n).isSome)&&decide (F.dd.map (·.1)=F.ns.drop (F.ns.length-a)++F.ks)&&match D6 K fd.defaults with
  |some b=>decide (b.length=a)&&CY K (F.dd.map (·.2)) (b++F.ks.map λn=>(BH K fd.kwdefaults n).getD .none)
  |none=>false
def Hd(K:Frag)(c:Str×U):Bool:=match nsIn K mainGlobals c.1 with
 |some (some val)=>Dp K c.2 val
 |_=>false
def FJ(x q:Str)(fd:FuncData):Bool:=decide (fd.name=x)&&decide (fd.qualname=q)&&(fd.globals==mainGlobals)&&fd.closure.isEmpty&&(fd.builtins==builtinsNs)
def El(K:Frag)(i:Inf)(fd:FuncData):Bool:=match i.kf with
 |none=>FL i.ps fd.params&&Ek fd.defaults
 |some (F,nd)=>decide (i.ps=F.ns++F.ks)&&!i.ps.isEmpty&&Hc K fd F nd
def CH(K:Frag)(C:Addr):Bool:=plainGet K C Str.empty&&hasDictIn K C&&plainOver K C&&(findIn K (.ref C) "__setattr__" == some (some (.builtin "object.__setattr__")))
def Ei(K:Frag)(i:Inf):Option Addr:=match i.cm with
 |none=>match nsIn K mainGlobals i.x with
  |some (some (.ref a))=>some a
  |_=>none
 |some c=>match nsIn K mainGlobals c.1 with
  |some (some (.ref C))=>match findIn K (.ref C) c.2 with
   |some (some (.ref a))=>if CH K C&&isFn K (.ref a)&&keepIn K (.ref a)&&(!decide (c.2 = "__init__")||(makesIn K C&&keepIn K (.ref C)))then some a else none
   |_=>none
  |_=>none
noncomputable def Inf.nm(i:Inf):Str:=match i.cm with|none=>i.x|some c=>c.2
def BF(K:Frag)(i:Inf):Option (Scope×List Stmt):=match Ei K i with
 |some a=>match K.lookup a with
  |some ⟨_,_,.func fd,_⟩=>match fd.body with
   |.stmts b=>if FJ i.nm i.x fd&&DF i.N i.ps fd.scope&&El K i fd&&codeIn K fd.code i.x&&keepIn K (.ref a)then some (fd.scope,b)else none
   |_=>none
  |_=>none
 |none=>none
def mkF(T:Tab)(q:Inf×Option (Scope×List Stmt)):Option Fn:=match q.2 with
 |some r=>(Ab (r.2.map (BB T r.1 q.1.N 60))).map λb'=>⟨q.1.ps.length,q.1.N.length,b'⟩
 |none=>none
def He(K:Frag)(e:Str×List Nat):Bool:=e.2.all λc=>match nsIn K mainGlobals (Ao c)with
 |some (some (.ref C))=>CH K C&&(findIn K (.ref C) e.1==some none)
 |_=>false
def Hf(K:Frag)(C:Addr):Bool:=(findIn K (.ref C) "__ne__" == some (some (.builtin "object.__ne__")))&&(mroIn K C (.type "object")==some true)&&(clsIn K C).isSome&&(typeIn K (.ref C)==some (.type "type"))&&(findIn K (.ref C) "__class__" == some (some (.builtin "object.__class__"))) &&
 (specialIn K (.builtin "object.__class__") "__get__" == some (some (.builtin "getset_descriptor.__get__")))&&(takesIn K (.builtin "object.__class__")==some true)
def Hg(K:Frag)(p:Str×Nat):Bool:=match nsIn K mainGlobals p.1 with
 |some (some (.ref C))=>decide (Ao p.2=p.1)&&CH K C&&Hf K C
 |_=>false
def Dq(is:List Inf):List (Str×Nat×KF×Nat):=is.zipIdx.filterMap λp=>match p.1.cm,p.1.kf with
 |none,some k=>some (p.1.x,p.2,k.1,k.2)
 |_,_=>none
def Dz(is:List Inf):List (Str×Nat×Nat×KF×Nat):=is.zipIdx.filterMap λp=>match p.1.cm,p.1.kf with
 |some c,some k=>if c.2 = "__init__" then some (c.1,Bm c.1,p.2,k.1,k.2)else none
 |_,_=>none
def Hh(is:List Inf)(m:Str):List (Nat×Nat×KF×Nat):=is.zipIdx.filterMap λp=>match p.1.cm,p.1.kf with
 |some c,some k=>if c.2=m then some (Bm c.1,p.2,k.1,k.2)else none
 |_,_=>none
def CZ(is:List Inf)(ms:List Str):List (Str×List (Nat×Nat×KF×Nat)):=ms.map λm=>(m,Hh is m)
def Hi(T:Tab)(K:Frag):Bool:=T.bt.all (λx=>(nsIn K mainGlobals x).any Option.isNone)
open PySem PySem.Spec PyProof.Rows L2 PySem.W PySem.Calls
noncomputable section
def Hj(p:Program)(w:World)(N:Nat)(Ze : Shared):Option Shared:=
 match Ze.heap.isNs mainGlobals&&Ze.gens.size==0 with
 |true=>(Fast.tw14082659384304107361 Fast.tw14364793385576792824 p w Ze.heap.objs.size (Ze.heap.nsMap mainGlobals "__annotations__") N Ze (topStub p)).bind λa=>match staticsOk (importedModules p.main.body) Ze.heap a.heap&&namesBound p a.heap&&gensDone a && laidKept Ze.heap a.heap with
   |true=>some a
   |false=>none
 |false=>none
def endsF(p:Program)(w:World)(N:Nat):Option Shared:=
 ((Fast.tw10274390034422433532 Fast.tw14364793385576792824 (opening p) w N (Fast.tw1435165496053646825 (opening p)).1 (Fast.tw1435165496053646825 (opening p)).2).bind (Fast.tw14289696077712309145 p)).bind (Hj p w N)
def lastOf(p:Program):Program:={p with main:={p.main with body:=p.main.body.drop (p.main.body.length-1)}}
def Ed(T:Tab)(K:Frag)(is:List Inf):Bool:=Hi T K&&T.cs.all (Hd K)&&T.fl.all (He K)&&is.all (λi=>i.cm.all λc=>BU c.1)&&T.ow.all (Hg K)
def Ad(b:List Stmt)(n:Nat):Option (Scope×List Stmt):=match b[n]? with
 |some (.FunctionDef _ _ b _ _ _ sc _ _ _)=>some (sc,b)
 |_=>none
def Dm(b:List Stmt)(n m:Nat):Option (Scope×List Stmt):=match b[n]? with
 |some (.ClassDef _ _ _ b _ _ _ _ _ _ _)=>Ad b m
 |_=>none
end
end
end PI
section
namespace ZE
open PI
def Fb:Fn:=⟨2,7,[(.set (.tp [2,3,4]) (.L 0)),(.set (.tp [5,6]) (.L 1)),(.ret (.and (.chain .le .le (.ZZ (.int 0)) (.L 5) (.ZT .mul (.L 2) (.L 4))) (.chain .le .le (.ZZ (.int 0)) (.L 6) (.ZT .mul (.L 3) (.L 4)))))]⟩
def EN:Fn:=⟨2,2,[(.Zx (.not (.call 0 [.L 0,.L 1])) [.never] [])]⟩
def EW:Fn:=⟨2,5,[(.exp (.call 1 [.L 0,.L 1])),(.set (.nm 2) (.idx (.L 0) (.ZZ (.int 2)))),(.set (.tp [3,4]) (.L 1)),(.ret (.and (.cmp .eq (.ZT .mod (.L 3) (.L 2)) (.ZZ (.int 0))) (.cmp .eq (.ZT .mod (.L 4) (.L 2)) (.ZZ (.int 0)))))]⟩
def E6:Fn:=⟨2,2,[(.Zx (.call 2 [.L 0,.L 1]) [.never] [])]⟩
def Fh:Fn:=⟨1,4,[(.set (.tp [1,2]) (.L 0)),(.for (.nm 3) (.ZX [(.ZZ (.int 4)),(.ZZ (.int 2))]) [(.Zx (.and (.cmp .eq (.ZT .mod (.L 1) (.L 3)) (.ZZ (.int 0))) (.cmp .eq (.ZT .mod (.L 2) (.L 3)) (.ZZ (.int 0)))) [(.ret (.L 3))] [])]),(.ret (.ZZ (.int 1)))]⟩
def EU:Fn:=⟨1,4,[(.set (.tp [1,2]) (.L 0)),(.set (.nm 3) (.call 4 [.L 0])),(.ret (.and (.cmp .eq (.ZT .mod (.ZT .fdiv (.L 1) (.L 3)) (.ZZ (.int 2))) (.ZZ (.int 1))) (.cmp .eq (.ZT .mod (.ZT .fdiv (.L 2) (.L 3)) (.ZZ (.int 2))) (.ZZ (.int 1)))))]⟩
def EK:Fn:=⟨1,6,[(.set (.tp [1,2]) (.L 0)),(.set (.nm 3) (.call 4 [.L 0])),(.set (.nm 4) (.ZX [(.ZX [(.ZT .sub (.L 1) (.L 3)),.L 2]),(.ZX [(.ZT .add (.L 1) (.L 3)),.L 2])])),(.set (.nm 5) (.ZX [(.ZX [.L 1,(.ZT .sub (.L 2) (.L 3))]),(.ZX [.L 1,(.ZT .add (.L 2) (.L 3))])])),(.Zx (.cmp .eq (.ZT .mod (.ZT .fdiv (.L 1) (.L 3)) (.ZZ (.int 2))) (.ZZ (.int 1))) [(.ret (.ZX [.L 4,.L 5]))] []),(.ret (.ZX [.L 5,.L 4]))]⟩
def EA:Fn:=⟨1,6,[(.set (.tp [1,2]) (.L 0)),(.set (.nm 3) (.call 4 [.L 0])),(.set (.nm 4) (.ZX [(.ZX [(.ZT .sub (.L 1) (.L 3)),(.ZT .sub (.L 2) (.L 3))]),(.ZX [(.ZT .add (.L 1) (.L 3)),(.ZT .add (.L 2) (.L 3))])])),(.set (.nm 5) (.ZX [(.ZX [(.ZT .sub (.L 1) (.L 3)),(.ZT .add (.L 2) (.L 3))]),(.ZX [(.ZT .add (.L 1) (.L 3)),(.ZT .sub (.L 2) (.L 3))])])),(.Zx (.cmp .eq (.ZT .mod (.ZT .add (.ZT .fdiv (.ZT .sub (.L 1) (.L 3)) (.ZT .mul (.ZZ (.int 2)) (.L 3))) (.ZT .fdiv (.ZT .sub (.L 2) (.L 3)) (.ZT .mul (.ZZ (.int 2)) (.L 3)))) (.ZZ (.int 2))) (.ZZ (.int 0))) [(.ret (.ZX [.L 4,.L 5]))] []),(.ret (.ZX [.L 5,.L 4]))]⟩
def Fk:Fn:=⟨1,1,[(.Zx (.call 5 [.L 0]) [(.ret (.call 7 [.L 0]))] []),(.ret (.call 6 [.L 0]))]⟩
def Fc:Fn:=⟨2,3,[(.exp (.call 3 [.L 0,.L 1])),(.set (.nm 2) (.idx (.call 8 [.L 1]) (.ZZ (.int 1)))),(.ret (.comp 1 [0] [((.nm 0),.L 2,[(.and (.call 0 [.L 1,.L 0]) (.not (.call 2 [.L 1,.L 0])))])] (.L 0)))]⟩
def E9:Fn:=⟨2,3,[(.for (.nm 2) (.L 1) [(.exp (.call 3 [.L 0,.L 2]))]),(.ret (.Wo 1 [] [((.nm 0),(.bi .sset [.L 1]),[])] (.L 0) (.ZZ (.bl true))))]⟩
def Fd:Fn:=⟨3,3,[(.ret (.comp 1 [1] [((.nm 0),(.call 9 [.L 0,.L 2]),[(.cmp .V5 (.L 0) (.L 1))])] (.L 0)))]⟩
def Fq:Fn:=⟨2,5,[(.set (.nm 2) (.call 10 [.L 0,.L 1])),(.for (.nm 3) (.L 2) [(.set (.nm 4) (.call 11 [.L 0,.L 2,.L 3])),(.Zx (.L 4) [(.ret (.ZX [.L 3,(.idx (.L 4) (.ZZ (.int 0)))]))] [])]),(.ret (.ZZ .ZL))]⟩
def EF:Fn:=⟨3,7,[(.par 3 4 (.ZT .mul (.L 0) (.L 2)) (.ZT .mul (.L 1) (.L 2))),(.par 5 6 (.ZT .add (.L 3) (.L 2)) (.ZT .add (.L 4) (.L 2))),(.Zx (.cmp .eq (.ZT .mod (.ZT .add (.L 0) (.L 1)) (.ZZ (.int 2))) (.ZZ (.int 0))) [(.ret (.M [(.ZX [.L 3,.L 4,.L 5,.L 6,.L 5,.L 4]),(.ZX [.L 5,.L 6,.L 3,.L 4,.L 3,.L 6])]))] []),(.ret (.M [(.ZX [.L 5,.L 4,.L 3,.L 6,.L 5,.L 6]),(.ZX [.L 3,.L 6,.L 5,.L 4,.L 3,.L 4])]))]⟩
def Fo:Fn:=⟨1,4,[(.set (.tp [1,2,3]) (.L 0)),(.ret (.comp 3 [2,3] [((.nm 0),(.Ym (.L 1)),[]),((.nm 1),(.Ym (.L 3)),[]),((.nm 2),(.call 13 [.L 0,.L 1,.L 4]),[])] (.L 2)))]⟩
def Ff:Fn:=⟨1,5,[(.set (.tp [1,2,3,4]) (.XR (.L 0) none (some (.ZZ (.int 4))))),(.Zx (.or (.cmp .eq (.ZT .mod (.ZT .add (.L 1) (.L 3)) (.ZZ (.int 2))) (.ZZ (.int 1))) (.cmp .eq (.ZT .mod (.ZT .add (.L 2) (.L 4)) (.ZZ (.int 2))) (.ZZ (.int 1)))) [(.ret (.ZZ .ZL))] []),(.ret (.ZX [(.ZT .fdiv (.ZT .add (.L 1) (.L 3)) (.ZZ (.int 2))),(.ZT .fdiv (.ZT .add (.L 2) (.L 4)) (.ZZ (.int 2)))]))]⟩
def Fg:Fn:=⟨1,10,[(.set (.nm 1) (.call 15 [.L 0])),(.Zx (.cmp .V6 (.L 1) (.ZZ .ZL)) [.never] []),(.set (.tp [2,3]) (.L 1)),(.set (.tp [4,5,6,7,8,9]) (.L 0)),(.ret (.M [(.ZX [.L 4,.L 5,.L 8,.L 9,.L 2,.L 3]),(.ZX [.L 8,.L 9,.L 6,.L 7,.L 2,.L 3])]))]⟩
def Ez:Fn:=⟨3,4,[(.set (.nm 3) (.call 12 [.L 1,.L 2])),(.Zx (.cmp .Vv (.L 3) (.ZZ .ZL)) [.never] []),(.fset (.L 0) 232289904 [220000973] (.L 1)),(.fset (.L 0) 31096353005 [220000973] (.call 10 [.L 1,.L 2]))]⟩
def Ey:Fn:=⟨1,4,[(.set (.nm 1) (.M [])),(.set (.nm 2) (.rev (.call 14 [(.fld (.L 0) 232289904 [220000973])]))),(.V3 (.L 2) [(.set (.nm 3) (.pop (.L 2))),(.Zx (.cmp .W8 (.call 15 [.L 3]) (.fld (.L 0) 31096353005 [220000973])) [(.exp (.ext (.L 2) (.rev (.call 16 [.L 3]))))] [(.exp (.app (.L 1) (.L 3)))])]),(.ret (.L 1))]⟩
def EV:Fn:=⟨1,1,[(.ret (.bi .list [(.fld (.L 0) 31096353005 [220000973])]))]⟩
def E8:Fn:=⟨2,2,[(.ret (.or (.call 2 [(.fld (.L 0) 232289904 [220000973]),.L 1]) (.cmp .W8 (.L 1) (.fld (.L 0) 31096353005 [220000973]))))]⟩
def EL:Fn:=⟨1,1,[(.ret (.and (.Yv (.L 0) .Vt) (.not (.Yv (.L 0) .Vs))))]⟩
def EX:Fn:=⟨2,3,[(.Zx (.cmp .V6 (.L 1) (.ZZ .ZL)) [(.ret (.cmp .V6 (.L 0) (.ZZ .ZL)))] []),(.Zx (.Yv (.L 1) .Vs) [(.ret (.and (.Yv (.L 0) .Vs) (.cmp .eq (.L 0) (.L 1))))] []),(.Zx (.Yv (.L 1) .Vt) [(.ret (.and (.call 21 [.L 0]) (.cmp .eq (.L 0) (.L 1))))] []),(.Zx (.Yv (.L 1) .UY) [(.ret (.and (.Yv (.L 0) .UY) (.cmp .eq (.L 0) (.L 1))))] []),(.Zx (.and (.Yv (.L 1) .UX) (.not (.Yv (.L 0) .UX))) [(.ret (.ZZ (.bl false)))] []),(.Zx (.and (.Yv (.L 1) .UW) (.not (.Yv (.L 0) .UW))) [(.ret (.ZZ (.bl false)))] []),(.Zx (.cmp .ne (.bi .len [.L 0]) (.bi .len [.L 1])) [(.ret (.ZZ (.bl false)))] []),(.for (.nm 2) (.Ym (.bi .len [.L 1])) [(.Zx (.not (.call 22 [(.idx (.L 0) (.L 2)),(.idx (.L 1) (.L 2))])) [(.ret (.ZZ (.bl false)))] [])]),(.ret (.ZZ (.bl true)))]⟩
def E5:Fn:=⟨1,1,[(.ret (.M [(.bi .list [(.XR (.L 0) none (some (.ZZ (.int 63))))]),(.ZZ (.int 0)),(.ZZ (.int 7))]))]⟩
def E2:Fn:=⟨2,5,[(.set (.nm 2) (.idx (.L 0) (.ZZ (.int 0)))),(.set (.nm 3) (.idx (.L 0) (.ZZ (.int 1)))),(.set (.nm 4) (.ZZ (.int 0))),(.Zx (.cmp .gt (.bi .len [.L 2]) (.ZZ (.int 0))) [(.set (.nm 4) (.idx (.L 2) (.ZT .mod (.L 3) (.bi .len [.L 2]))))] []),(.Zx (.cmp .lt (.L 4) (.ZZ (.int 0))) [(.set (.nm 4) (.ZT .sub (.ZZ (.int 1)) (.L 4)))] []),(.Zx (.cmp .ge (.L 4) (.ZT .pow (.ZZ (.int 10)) (.ZZ (.int 18)))) [(.sub (.L 2) (.ZT .mod (.L 3) (.bi .len [.L 2])) (.ZT .fdiv (.L 4) (.L 1))),(.ret (.ZT .mod (.L 4) (.L 1)))] []),(.sub (.L 0) (.ZZ (.int 1)) (.ZT .add (.L 3) (.ZZ (.int 1)))),(.sub (.L 0) (.ZZ (.int 2)) (.ZT .mod (.ZT .add (.ZT .add (.ZT .add (.ZT .mul (.idx (.L 0) (.ZZ (.int 2))) (.ZZ (.int 48271))) (.ZT .mul (.L 4) (.ZZ (.int 9973)))) (.ZT .mul (.L 3) (.ZZ (.int 31)))) (.ZZ (.int 11))) (.ZZ (.int 2147483647)))),(.ret (.ZT .mod (.ZT .fdiv (.ZT .mod (.ZT .mul (.idx (.L 0) (.ZZ (.int 2))) (.ZZ (.int 69621))) (.ZZ (.int 2147483629))) (.ZZ (.int 64))) (.L 1)))]⟩
def E3:Fn:=⟨1,2,[(.set (.nm 1) (.M [(.ZX [(.ZZ (.int 1)),(.ZZ (.int 1)),(.ZZ (.int 2))]),(.ZX [(.ZZ (.int 1)),(.ZZ (.int 1)),(.ZZ (.int 4))]),(.ZX [(.ZZ (.int 2)),(.ZZ (.int 1)),(.ZZ (.int 2))]),(.ZX [(.ZZ (.int 1)),(.ZZ (.int 2)),(.ZZ (.int 2))]),(.ZX [(.ZZ (.int 2)),(.ZZ (.int 2)),(.ZZ (.int 2))]),(.ZX [(.ZZ (.int 1)),(.ZZ (.int 1)),(.ZZ (.int 4))])])),(.set (.nm 1) (.ZT .add (.L 1) (.M [(.ZX [(.ZZ (.int 3)),(.ZZ (.int 1)),(.ZZ (.int 2))]),(.ZX [(.ZZ (.int 1)),(.ZZ (.int 3)),(.ZZ (.int 2))]),(.ZX [(.ZZ (.int 2)),(.ZZ (.int 1)),(.ZZ (.int 4))]),(.ZX [(.ZZ (.int 1)),(.ZZ (.int 2)),(.ZZ (.int 4))]),(.ZX [(.ZZ (.int 3)),(.ZZ (.int 2)),(.ZZ (.int 2))]),(.ZX [(.ZZ (.int 1)),(.ZZ (.int 1)),(.ZZ (.int 8))])]))),(.ret (.idx (.L 1) (.call 24 [.L 0,(.ZZ (.int 12))])))]⟩
def EI:Fn:=⟨1,4,[(.set (.nm 1) (.M [])),(.for (.nm 2) (.Ym (.ZT .add (.ZT .mul (.idx (.L 0) (.ZZ (.int 0))) (.idx (.L 0) (.ZZ (.int 2)))) (.ZZ (.int 1)))) [(.for (.nm 3) (.Ym (.ZT .add (.ZT .mul (.idx (.L 0) (.ZZ (.int 1))) (.idx (.L 0) (.ZZ (.int 2)))) (.ZZ (.int 1)))) [(.exp (.app (.L 1) (.ZX [.L 2,.L 3])))])]),(.ret (.L 1))]⟩
def EG:Fn:=⟨2,2,[(.ret (.and (.cmp .eq (.ZT .mod (.idx (.L 1) (.ZZ (.int 0))) (.idx (.L 0) (.ZZ (.int 2)))) (.ZZ (.int 0))) (.cmp .eq (.ZT .mod (.idx (.L 1) (.ZZ (.int 1))) (.idx (.L 0) (.ZZ (.int 2)))) (.ZZ (.int 0)))))]⟩
def E1:Fn:=⟨1,1,[(.ret (.comp 1 [0] [((.nm 0),(.call 26 [.L 0]),[(.not (.call 27 [.L 1,.L 0]))])] (.L 0)))]⟩
def Fe:Fn:=⟨2,2,[(.ret (.and (.chain .le .le (.ZZ (.int 0)) (.idx (.L 1) (.ZZ (.int 0))) (.ZT .mul (.idx (.L 0) (.ZZ (.int 0))) (.idx (.L 0) (.ZZ (.int 2))))) (.chain .le .le (.ZZ (.int 0)) (.idx (.L 1) (.ZZ (.int 1))) (.ZT .mul (.idx (.L 0) (.ZZ (.int 1))) (.idx (.L 0) (.ZZ (.int 2)))))))]⟩
def EY:Fn:=⟨1,1,[(.Zx (.and (.cmp .eq (.ZT .mod (.idx (.L 0) (.ZZ (.int 0))) (.ZZ (.int 4))) (.ZZ (.int 0))) (.cmp .eq (.ZT .mod (.idx (.L 0) (.ZZ (.int 1))) (.ZZ (.int 4))) (.ZZ (.int 0)))) [(.ret (.ZZ (.int 4)))] []),(.Zx (.and (.cmp .eq (.ZT .mod (.idx (.L 0) (.ZZ (.int 0))) (.ZZ (.int 2))) (.ZZ (.int 0))) (.cmp .eq (.ZT .mod (.idx (.L 0) (.ZZ (.int 1))) (.ZZ (.int 2))) (.ZZ (.int 0)))) [(.ret (.ZZ (.int 2)))] []),(.ret (.ZZ (.int 1)))]⟩
def ED:Fn:=⟨1,2,[(.set (.nm 1) (.call 30 [.L 0])),(.ret (.and (.cmp .eq (.ZT .mod (.ZT .fdiv (.idx (.L 0) (.ZZ (.int 0))) (.L 1)) (.ZZ (.int 2))) (.ZZ (.int 1))) (.cmp .eq (.ZT .mod (.ZT .fdiv (.idx (.L 0) (.ZZ (.int 1))) (.L 1)) (.ZZ (.int 2))) (.ZZ (.int 1)))))]⟩
def EB:Fn:=⟨1,8,[(.set (.nm 1) (.call 30 [.L 0])),(.set (.tp [2,3]) (.L 0)),(.set (.nm 4) (.M [(.ZX [(.ZT .sub (.L 2) (.L 1)),.L 3]),(.ZX [(.ZT .add (.L 2) (.L 1)),.L 3])])),(.set (.nm 5) (.M [(.ZX [.L 2,(.ZT .sub (.L 3) (.L 1))]),(.ZX [.L 2,(.ZT .add (.L 3) (.L 1))])])),(.set (.nm 6) (.M [(.ZX [(.ZT .sub (.L 2) (.L 1)),(.ZT .sub (.L 3) (.L 1))]),(.ZX [(.ZT .add (.L 2) (.L 1)),(.ZT .add (.L 3) (.L 1))])])),(.set (.nm 7) (.M [(.ZX [(.ZT .sub (.L 2) (.L 1)),(.ZT .add (.L 3) (.L 1))]),(.ZX [(.ZT .add (.L 2) (.L 1)),(.ZT .sub (.L 3) (.L 1))])])),(.Zx (.call 31 [.L 0]) [(.Zx (.cmp .eq (.ZT .mod (.ZT .fdiv (.ZT .sub (.ZT .add (.ZT .sub (.L 2) (.L 1)) (.L 3)) (.L 1)) (.ZT .mul (.ZZ (.int 2)) (.L 1))) (.ZZ (.int 2))) (.ZZ (.int 0))) [(.ret (.M [.L 6,.L 7]))] []),(.ret (.M [.L 7,.L 6]))] []),(.Zx (.cmp .eq (.ZT .mod (.ZT .fdiv (.L 2) (.L 1)) (.ZZ (.int 2))) (.ZZ (.int 1))) [(.ret (.M [.L 4,.L 5]))] []),(.ret (.M [.L 5,.L 4]))]⟩
def E4:Fn:=⟨2,2,[(.ret (.comp 1 [0] [((.nm 0),(.idx (.call 32 [.L 1]) (.ZZ (.int 1))),[(.and (.call 29 [.L 1,.L 0]) (.not (.call 27 [.L 1,.L 0])))])] (.L 0)))]⟩
def E7:Fn:=⟨1,3,[(.set (.nm 1) .Wp),(.for (.nm 2) (.L 0) [(.sub (.L 1) (.L 2) (.ZZ (.bl true)))]),(.ret (.L 1))]⟩
def EE:Fn:=⟨2,5,[(.set (.nm 2) .Wp),(.set (.nm 3) (.bi .list [.L 1])),(.V3 (.cmp .gt (.bi .len [.L 3]) (.ZZ (.int 0))) [(.set (.nm 4) (.pop (.L 3))),(.Zx (.cmp .V5 (.L 4) (.L 2)) [(.sub (.L 2) (.L 4) (.ZZ (.bl true))),(.exp (.ext (.L 3) (.call 33 [.L 0,.L 4])))] [])]),(.ret (.bi .Vu [.L 2]))]⟩
def ET:Fn:=⟨2,4,[(.set (.nm 2) (.call 28 [.L 1])),(.set (.nm 3) (.call 24 [.L 0,(.ZZ (.int 11))])),(.Zx (.cmp .eq (.L 3) (.ZZ (.int 0))) [(.ret (.M []))] []),(.Zx (.cmp .eq (.L 3) (.ZZ (.int 1))) [(.ret (.L 2))] []),(.Zx (.cmp .lt (.L 3) (.ZZ (.int 4))) [(.ret (.comp 1 [0] [((.nm 0),.L 2,[(.cmp .eq (.call 24 [.L 1,(.ZZ (.int 2))]) (.ZZ (.int 1)))])] (.L 0)))] []),(.Zx (.cmp .lt (.L 3) (.ZZ (.int 6))) [(.ret (.comp 1 [0] [((.nm 0),.L 2,[(.cmp .gt (.call 24 [.L 1,(.ZZ (.int 5))]) (.ZZ (.int 0)))])] (.L 0)))] []),(.ret (.comp 1 [0,2] [((.nm 0),(.Ym (.ZT .add (.ZZ (.int 1)) (.call 24 [.L 0,(.ZZ (.int 7))]))),[])] (.idx (.L 2) (.call 24 [.L 1,(.bi .len [.L 2])]))))]⟩
def EZ:Fn:=⟨2,2,[(.ret (.call 35 [.L 1,(.call 36 [.L 0,.L 1])]))]⟩
def ES:Fn:=⟨2,5,[(.set (.nm 2) (.M [])),(.set (.nm 3) (.bi .list [.L 1])),(.for (.nm 4) (.Ym (.bi .len [.L 1])) [(.exp (.app (.L 2) (.V4 (.L 3) (.call 24 [.L 0,(.bi .len [.L 3])]))))]),(.ret (.L 2))]⟩
def EO:Fn:=⟨1,7,[(.set (.nm 1) (.M [])),(.set (.nm 2) (.idx (.L 0) (.ZZ (.int 2)))),(.for (.nm 3) (.Ym (.idx (.L 0) (.ZZ (.int 0)))) [(.for (.nm 4) (.Ym (.idx (.L 0) (.ZZ (.int 1)))) [(.set (.nm 5) (.ZT .mul (.L 3) (.L 2))),(.set (.nm 6) (.ZT .mul (.L 4) (.L 2))),(.Zx (.cmp .eq (.ZT .mod (.ZT .add (.L 3) (.L 4)) (.ZZ (.int 2))) (.ZZ (.int 0))) [(.exp (.app (.L 1) (.ZX [.L 5,.L 6,(.ZT .add (.L 5) (.L 2)),(.ZT .add (.L 6) (.L 2)),(.ZT .add (.L 5) (.L 2)),.L 6]))),(.exp (.app (.L 1) (.ZX [(.ZT .add (.L 5) (.L 2)),(.ZT .add (.L 6) (.L 2)),.L 5,.L 6,.L 5,(.ZT .add (.L 6) (.L 2))])))] [(.exp (.app (.L 1) (.ZX [(.ZT .add (.L 5) (.L 2)),.L 6,.L 5,(.ZT .add (.L 6) (.L 2)),(.ZT .add (.L 5) (.L 2)),(.ZT .add (.L 6) (.L 2))]))),(.exp (.app (.L 1) (.ZX [.L 5,(.ZT .add (.L 6) (.L 2)),(.ZT .add (.L 5) (.L 2)),.L 6,.L 5,.L 6])))])])]),(.ret (.L 1))]⟩
def EC:Fn:=⟨1,1,[(.Zx (.or (.cmp .eq (.ZT .mod (.ZT .add (.idx (.L 0) (.ZZ (.int 0))) (.idx (.L 0) (.ZZ (.int 2)))) (.ZZ (.int 2))) (.ZZ (.int 1))) (.cmp .eq (.ZT .mod (.ZT .add (.idx (.L 0) (.ZZ (.int 1))) (.idx (.L 0) (.ZZ (.int 3)))) (.ZZ (.int 2))) (.ZZ (.int 1)))) [(.ret (.ZZ .ZL))] []),(.ret (.ZX [(.ZT .fdiv (.ZT .add (.idx (.L 0) (.ZZ (.int 0))) (.idx (.L 0) (.ZZ (.int 2)))) (.ZZ (.int 2))),(.ZT .fdiv (.ZT .add (.idx (.L 0) (.ZZ (.int 1))) (.idx (.L 0) (.ZZ (.int 3)))) (.ZZ (.int 2)))]))]⟩
def EH:Fn:=⟨1,4,[(.set (.nm 1) (.call 40 [.L 0])),(.set (.nm 2) (.ZX [(.idx (.L 0) (.ZZ (.int 0))),(.idx (.L 0) (.ZZ (.int 1))),(.idx (.L 0) (.ZZ (.int 4))),(.idx (.L 0) (.ZZ (.int 5))),(.idx (.L 1) (.ZZ (.int 0))),(.idx (.L 1) (.ZZ (.int 1)))])),(.set (.nm 3) (.ZX [(.idx (.L 0) (.ZZ (.int 4))),(.idx (.L 0) (.ZZ (.int 5))),(.idx (.L 0) (.ZZ (.int 2))),(.idx (.L 0) (.ZZ (.int 3))),(.idx (.L 1) (.ZZ (.int 0))),(.idx (.L 1) (.ZZ (.int 1)))])),(.ret (.M [.L 2,.L 3]))]⟩
def EJ:Fn:=⟨2,7,[(.set (.nm 2) (.call 34 [.L 1])),(.set (.nm 3) (.M [])),(.set (.nm 4) (.rev (.call 39 [.L 0]))),(.V3 (.cmp .gt (.bi .len [.L 4]) (.ZZ (.int 0))) [(.set (.nm 5) (.pop (.L 4))),(.set (.nm 6) (.call 40 [.L 5])),(.Zx (.and (.cmp .Vv (.L 6) (.ZZ .ZL)) (.cmp .W8 (.L 6) (.L 2))) [(.exp (.ext (.L 4) (.rev (.call 41 [.L 5]))))] [(.exp (.app (.L 3) (.L 5)))])]),(.ret (.L 3))]⟩
def EM:Fn:=⟨2,2,[(.ret (.ZX [(.call 24 [.L 0,(.ZT .add (.ZT .mul (.idx (.L 1) (.ZZ (.int 0))) (.idx (.L 1) (.ZZ (.int 2)))) (.ZZ (.int 1)))]),(.call 24 [.L 0,(.ZT .add (.ZT .mul (.idx (.L 1) (.ZZ (.int 1))) (.idx (.L 1) (.ZZ (.int 2)))) (.ZZ (.int 1)))])]))]⟩
def DB:Fn:=⟨1,1,[(.Zx (.cmp .gt (.bi .len [.L 0]) (.ZZ (.int 0))) [(.sub (.L 0) (.ZZ (.int 0)) (.idx (.L 0) (.neg (.ZZ (.int 1))))),(.exp (.pop (.L 0)))] []),(.exp (.app (.L 0) (.ZZ .ZL)))]⟩
def ER:Fn:=⟨4,8,[(.set (.nm 4) (.and (.call 22 [(.fld (.L 2) 232289904 [220000973]),.L 1]) (.call 22 [(.Yw (.L 2) 243088099 [(220000973,19,[.inl 0])] [] []),.L 3]))),(.set (.nm 4) (.and (.L 4) (.call 22 [(.Yw (.L 2) 8343959817466575220 [(220000973,18,[.inl 0])] [] []),(.call 42 [.L 1,.L 3])]))),(.for (.nm 5) (.Ym (.ZZ (.int 4))) [(.set (.nm 6) (.call 43 [.L 0,.L 1])),(.set (.nm 7) (.or (.call 27 [.L 1,.L 6]) (.cmp .W8 (.L 6) (.L 3)))),(.set (.nm 4) (.and (.L 4) (.call 22 [(.Yw (.L 2) 1896680 [(220000973,20,[.inl 0,.inl 1])] [.L 6] []),.L 7])))]),(.ret (.L 4))]⟩
def Br:Fn:=⟨1,10,[(.set (.nm 1) (.call 23 [.L 0])),(.set (.nm 2) (.call 25 [.L 1])),(.set (.nm 3) (.call 37 [.L 1,.L 2])),(.set (.nm 4) (.call 38 [.L 1,.L 3])),(.set (.nm 4) (.ZT .add (.L 4) (.XR (.L 4) none (some (.call 24 [.L 1,(.ZZ (.int 4))]))))),(.set (.nm 5) (.bi .list [.L 4])),(.set (.nm 6) (.make 220000973 17 [.L 2,.L 4] [] [.inl 0,.inl 1,.inl 2])),(.set (.nm 7) (.cmp .eq (.L 4) (.L 5))),(.exp (.call 44 [.L 4])),(.Zx (.cmp .eq (.call 24 [.L 1,(.ZZ (.int 3))]) (.ZZ (.int 0))) [(.set (.nm 6) (.make 220000973 17 [.L 2,(.bi .TV [.L 5])] [] [.inl 0,.inl 1,.inl 2]))] []),(.Zx (.cmp .eq (.bi .len [.L 3]) (.ZZ (.int 0))) [(.set (.nm 6) (.make 220000973 17 [.L 2] [] [.inl 0,.inl 1,(.inr (.xn 0 []))]))] []),(.set (.nm 7) (.and (.L 7) (.call 45 [.L 1,.L 2,.L 6,.L 3]))),(.set (.nm 8) (.Yw (.L 6) 8343959817466575220 [(220000973,18,[.inl 0])] [] [])),(.set (.nm 9) (.Yw (.L 6) 243088099 [(220000973,19,[.inl 0])] [] [])),(.exp (.call 44 [.L 8])),(.exp (.call 44 [.L 9])),(.set (.nm 7) (.and (.L 7) (.call 45 [.L 1,.L 2,.L 6,.L 3]))),(.set (.nm 8) (.bi .UZ [(.Yw (.L 6) 8343959817466575220 [(220000973,18,[.inl 0])] [] [])])),(.set (.nm 7) (.and (.L 7) (.cmp .eq (.Yw (.make 220000973 17 [.L 2,.L 3] [] [.inl 0,.inl 1,.inl 2]) 8343959817466575220 [(220000973,18,[.inl 0])] [] []) (.call 42 [.L 2,.L 3])))),(.ret (.and (.L 7) (.cmp .eq (.L 8) (.bi .UZ [(.Yw (.L 6) 8343959817466575220 [(220000973,18,[.inl 0])] [] [])]))))]⟩
def J:List Fn:=[Fb,EN,EW,E6,Fh,EU,EK,EA,Fk,Fc,E9,Fd,Fq,EF,Fo,Ff,Fg,Ez,Ey,EV,E8,EL,EX,E5,E2,E3,EI,EG,E1,Fe,EY,ED,EB,E4,E7,EE,ET,EZ,ES,EO,EC,EH,EJ,EM,DB,ER,Br]
end ZE
end
section
namespace ZE
noncomputable section
open PySem PI L2
def A2:List Inf:=[⟨"in_land",["plan","at","wide","deep","side","x","y"],["plan","at"],none,none⟩,⟨"need_place",["plan","at"],["plan","at"],none,none⟩,⟨"is_corner",["plan","at","side","x","y"],["plan","at"],none,none⟩,⟨"need_cut",["plan","at"],["plan","at"],none,none⟩,⟨"stride",["at","x","y","size"],["at"],none,none⟩,⟨"is_centre",["at","x","y","size"],["at"],none,none⟩,⟨"edge_pairs",["at","x","y","size","lying","upright"],["at"],none,none⟩,⟨"centre_pairs",["at","x","y","size","rising","falling"],["at"],none,none⟩,⟨"pairs",["at"],["at"],none,none⟩,⟨"parents",["plan","at","facing"],["plan","at"],none,none⟩,⟨"gathered",["plan","cuts","at"],["plan","cuts"],none,none⟩,⟨"lacking",["plan","known","at"],["plan","known","at"],none,none⟩,⟨"crack",["plan","cuts","known","at","missing"],["plan","cuts"],none,none⟩,⟨"block_roots",["i","j","side","x","y","right","top"],["i","j","side"],none,none⟩,⟨"roots",["plan","wide","deep","side"],["plan"],none,none⟩,⟨"middle",["shape","ax","ay","bx","by"],["shape"],none,none⟩,⟨"halved",["shape","place","x","y","ax","ay","bx","by","cx","cy"],["shape"],none,none⟩,⟨"Mesh.__init__",["self","plan","cuts","cracked"],["self","plan","cuts"],some ("Mesh","__init__"),some (⟨["self","plan","cuts"],[],[("cuts",(.xn 0 []))]⟩,1)⟩,⟨"Mesh.triangles",["self","told","waiting","shape"],["self"],some ("Mesh","triangles"),some (⟨["self"],[],[]⟩,0)⟩,⟨"Mesh.cuts",["self"],["self"],some ("Mesh","cuts"),some (⟨["self"],[],[]⟩,0)⟩,⟨"Mesh.has",["self","at"],["self","at"],some ("Mesh","has"),some (⟨["self","at"],[],[]⟩,0)⟩,⟨"_law_whole",["_law_found"],["_law_found"],none,none⟩,⟨"_law_same",["_law_found","_law_due","_law_k"],["_law_found","_law_due"],none,none⟩,⟨"_law_bag",["_law_script"],["_law_script"],none,none⟩,⟨"_law_draw",["_law_bag_here","_law_many","_law_cells","_law_at","_law_cell"],["_law_bag_here","_law_many"],none,none⟩,⟨"_law_plan",["_law_bag_here","_law_menu"],["_law_bag_here"],none,none⟩,⟨"_law_places",["_law_plan_here","_law_found","_law_x","_law_y"],["_law_plan_here"],none,none⟩,⟨"_law_corner",["_law_plan_here","_law_at"],["_law_plan_here","_law_at"],none,none⟩,⟨"_law_cuts",["_law_plan_here"],["_law_plan_here"],none,none⟩,⟨"_law_in",["_law_plan_here","_law_at"],["_law_plan_here","_law_at"],none,none⟩,⟨"_law_step",["_law_at"],["_law_at"],none,none⟩,⟨"_law_centre",["_law_at","_law_size"],["_law_at"],none,none⟩,⟨"_law_around",["_law_at","_law_size","_law_x","_law_y","_law_flat","_law_tall","_law_rising","_law_falling"],["_law_at"],none,none⟩,⟨"_law_ups",["_law_plan_here","_law_at"],["_law_plan_here","_law_at"],none,none⟩,⟨"_law_set",["_law_some_here","_law_found","_law_thing"],["_law_some_here"],none,none⟩,⟨"_law_closed",["_law_plan_here","_law_some_here","_law_there","_law_todo","_law_at"],["_law_plan_here","_law_some_here"],none,none⟩,⟨"_law_picks",["_law_bag_here","_law_plan_here","_law_every","_law_kind"],["_law_bag_here","_law_plan_here"],none,none⟩,⟨"_law_some",["_law_bag_here","_law_plan_here"],["_law_bag_here","_law_plan_here"],none,none⟩,⟨"_law_mixed",["_law_bag_here","_law_row","_law_found","_law_left","_law_k"],["_law_bag_here","_law_row"],none,none⟩,⟨"_law_roots",["_law_plan_here","_law_found","_law_side","_law_i","_law_j","_law_x","_law_y"],["_law_plan_here"],none,none⟩,⟨"_law_middle",["_law_shape"],["_law_shape"],none,none⟩,⟨"_law_halves",["_law_shape","_law_at","_law_one","_law_two"],["_law_shape"],none,none⟩,⟨"_law_leaves",["_law_plan_here","_law_some_here","_law_there","_law_found","_law_todo","_law_shape","_law_at"],["_law_plan_here","_law_some_here"],none,none⟩,⟨"_law_place",["_law_bag_here","_law_plan_here"],["_law_bag_here","_law_plan_here"],none,none⟩,⟨"_law_spoil",["_law_row"],["_law_row"],none,none⟩,⟨"_law_holds",["_law_bag_here","_law_plan_here","_law_mesh","_law_some_here","_law_good","_law_k","_law_at","_law_due"],["_law_bag_here","_law_plan_here","_law_mesh","_law_some_here"],none,none⟩,⟨"law",["_law_script","_law_bag_here","_law_plan_here","_law_some_here","_law_handed","_law_kept","_law_mesh","_law_good","_law_told","_law_row"],["_law_script"],none,none⟩]
def ms:List Str:=["__init__","cuts","has","triangles"]
def T:Tab:=⟨(["in_land","need_place","is_corner","need_cut","stride","is_centre","edge_pairs","centre_pairs","pairs","parents","gathered","lacking","crack","block_roots","roots","middle","halved","__debug__","__debug__","__debug__","__debug__","_law_whole","_law_same","_law_bag","_law_draw","_law_plan","_law_places","_law_corner","_law_cuts","_law_in","_law_step","_law_centre","_law_around","_law_ups","_law_set","_law_closed","_law_picks","_law_some","_law_mixed","_law_roots","_law_middle","_law_halves","_law_leaves","_law_place","_law_spoil","_law_holds","law"].map Str.ofString),[],["bool","int","isinstance","len","list","range","repr","set","sorted","str","tuple"],Dq A2,Dz A2,CZ A2 ms,[("plan",[220000973]),("marks",[220000973])],[("Mesh",220000973)],["_law_mesh"]⟩
def loose:List Str:=(["_wall","LandError","LookError","Cracked","Twice","NoHalf","NoPlace","NoCut","in_land","need_place","is_corner","need_cut","stride","is_centre","edge_pairs","centre_pairs","pairs","parents","gathered","lacking","crack","block_roots","roots","middle","halved","Mesh","_law_whole","_law_same","_law_bag","_law_draw","_law_plan","_law_places","_law_corner","_law_cuts","_law_in","_law_step","_law_centre","_law_around","_law_ups","_law_set","_law_closed","_law_picks","_law_some","_law_mixed","_law_roots","_law_middle","_law_halves","_law_leaves","_law_place","_law_spoil","_law_holds"].map Str.ofString)
end
end ZE
end
section
open PySem PySem.W PyProof.Rows
noncomputable def ZE.V2:List (Option (Scope×List Stmt)):=[PI.Ad #[0] 10,PI.Ad #[0] 11,PI.Ad #[0] 12,PI.Ad #[0] 13,PI.Ad #[0] 14,PI.Ad #[0] 15,PI.Ad #[0] 16,PI.Ad #[0] 17,PI.Ad #[0] 18,PI.Ad #[0] 19,PI.Ad #[0] 21,PI.Ad #[0] 22,PI.Ad #[0] 23,PI.Ad #[0] 25,PI.Ad #[0] 26,PI.Ad #[0] 27,PI.Ad #[0] 28,PI.Dm #[0] 30 0,PI.Dm #[0] 30 5,PI.Dm #[0] 30 6,PI.Dm #[0] 30 7,PI.Ad #[0] 32,PI.Ad #[0] 33,PI.Ad #[0] 34,PI.Ad #[0] 35,PI.Ad #[0] 36,PI.Ad #[0] 37,PI.Ad #[0] 38,PI.Ad #[0] 39,PI.Ad #[0] 40,PI.Ad #[0] 41,PI.Ad #[0] 42,PI.Ad #[0] 43,PI.Ad #[0] 44,PI.Ad #[0] 45,PI.Ad #[0] 46,PI.Ad #[0] 47,PI.Ad #[0] 48,PI.Ad #[0] 49,PI.Ad #[0] 50,PI.Ad #[0] 51,PI.Ad #[0] 52,PI.Ad #[0] 53,PI.Ad #[0] 54,PI.Ad #[0] 55,PI.Ad #[0] 56,PI.Ad #[0] 57]
def ZE.SS(w:World):(PI.endsF PySem.Challenge.rw_braemantle_k23_mesh_triangles.prog w 20000).map (λs=>(Fast.tw4187177175401517315 (PI.lastOf PySem.Challenge.rw_braemantle_k23_mesh_triangles.prog) ZE.loose (PySem.importedModules #[0]) (λ_=>true) true s,PI.Ed ZE.T (PI.AX s.heap) ZE.A2))=some (openGood (PI.lastOf PySem.Challenge.rw_braemantle_k23_mesh_triangles.prog) ZE.loose,true):=by kernel_rfl
def ZE.chk1(w:World):(PI.endsF PySem.Challenge.rw_braemantle_k23_mesh_triangles.prog w 20000).map (λs=>(ZE.A2.take 26).map (PI.BF (PI.AX s.heap)))=some (ZE.V2.take 26):=by kernel_rfl
def ZE.chk2(w:World):(PI.endsF PySem.Challenge.rw_braemantle_k23_mesh_triangles.prog w 20000).map (λs=>((ZE.A2.drop 26).take 21).map (PI.BF (PI.AX s.heap)))=some ((ZE.V2.drop 26).take 21):=by kernel_rfl
def ZE.part0:PI.Ab (((ZE.A2.zip ZE.V2).take 16).map (PI.mkF ZE.T))=some (ZE.J.take 16):=by kernel_rfl
def ZE.part1:PI.Ab ((((ZE.A2.zip ZE.V2).drop 16).take 11).map (PI.mkF ZE.T))=some ((ZE.J.drop 16).take 11):=by kernel_rfl
def ZE.part2:PI.Ab ((((ZE.A2.zip ZE.V2).drop 27).take 12).map (PI.mkF ZE.T))=some ((ZE.J.drop 27).take 12):=by kernel_rfl
def ZE.part3:PI.Ab ((((ZE.A2.zip ZE.V2).drop 39).take 7).map (PI.mkF ZE.T))=some ((ZE.J.drop 39).take 7):=by kernel_rfl
def ZE.part4:PI.Ab ((((ZE.A2.zip ZE.V2).drop 46).take 1).map (PI.mkF ZE.T))=some ((ZE.J.drop 46).take 1):=by kernel_rfl
end
variable{xs S ZS:List PI.U}{u y:PI.U}{o' e' elt Zj Zp:PI.E}{tb:List (Nat×Nat×List (Nat ⊕ PI.U))}{op:PI.Op}{pm:List (Nat ⊕ PI.U)}{es' cs:List PI.E}{is:List PI.Inf}{ZD gs:List (PI.Tg×PI.E×List PI.E)}{ce:PySem.Expr->Option PI.E}
namespace L2
open PySem PySem.Spec PyProof.Rows
abbrev Key:=Sum Int Str
def B8:Key->Value->Bool
 |.inl k,v=>Value.isInt k v
 |.inr x,v=>Value.isStrOf x v
def Hk(w:World):Key->Int
 |.inl k=>hashInt k
 |.inr x=>hashStr w x
def aL:∀{k:Key} {v:Value},B8 k v=true->(∃i t,k=Sum.inl i/\v=Value.int i t)\/(∃x t,k=Sum.inr x/\v=Value.str x t)
 |.inl i,v,h=>by
  let⟨t,e⟩:=Qj (k:=i) (v:=v) h;exact .inl ⟨i,t,rfl,e⟩
 |.inr x,v,h=>by
  let⟨t,e⟩:=Value.isStrOf_shape (x:=x) (v:=v) h;exact .inr ⟨x,t,rfl,e⟩
def wz(i:Int)(t:Tok):B8 (.inl i) (.int i t)=true:=by simp[B8,Value.isInt]
def wd(x:Str)(t:Tok):B8 (.inr x) (.str x t)=true:=by simp[B8,Value.isStrOf]
def abk(a b:Int):decide ((Sum.inl a:Key)=Sum.inl b)=(a==b):=by
 by_cases e:a=b
 .subst e;simp
 .have h : ¬ (Sum.inl a:Key)=Sum.inl b:=λq=>e (Sum.inl.inj q)
  rw[WY h];exact(Rf.mpr e).symm
def aco(a b:Str):decide ((Sum.inr a:Key)=Sum.inr b)=decide (a=b):=by
 by_cases e:a=b
 .subst e;simp
 .have h : ¬ (Sum.inr a:Key)=Sum.inr b:=λq=>e (Oo q)
  rw[WY h,WY e]
def aa6(a:Int)(b:Str):decide ((Sum.inl a:Key)=Sum.inr b)=false:=WY (λq=>nomatch q)
def abU(a:Str)(b:Int):decide ((Sum.inr a:Key)=Sum.inl b)=false:=WY (λq=>nomatch q)
def AF(prog:Program)(w:World):PySem.KeyKind prog w Key where
 is:=B8
 hash:=Hk w
 inj:=λv a b ha hb=>by
  rcases aL ha with⟨i,t,rfl,rfl⟩|⟨x,t,rfl,rfl⟩
  .rcases aL hb with⟨j,u,rfl,e⟩|⟨y,u,rfl,e⟩
   .injection e with e1 _;rw[e1]
   .exact nomatch e
  .rcases aL hb with⟨j,u,rfl,e⟩|⟨y,u,rfl,e⟩
   .exact nomatch e
   .injection e with e1 _;rw[e1]
 byValue:=λk v h=>by
  rcases aL h with⟨i,t,rfl,rfl⟩|⟨x,t,rfl,rfl⟩<;>rfl
 pyHash:=λhv h=>by
  rcases aL hv with⟨i,t,rfl,rfl⟩|⟨x,t,rfl,rfl⟩
  .exact wpAny_pyHash_int h
  .exact wpAny_pyHash_str h
 eqBool:=λhu hv h=>by
  rcases aL hu with⟨i,t,rfl,rfl⟩|⟨x,t,rfl,rfl⟩
  .rcases aL hv with⟨j,u,rfl,rfl⟩|⟨y,u,rfl,rfl⟩
   .rw [abk]at h;exact wpAny_eqBool_int h
   .rw [aa6]at h;exact SeqAt.EqAt.int_str i t y u _ _ _ _ h
  .rcases aL hv with⟨j,u,rfl,rfl⟩|⟨y,u,rfl,rfl⟩
   .rw [abU]at h;exact SeqAt.EqAt.str_int x t j u _ _ _ _ h
   .rw [aco]at h;exact wpAny_eqBool_str h
 «strs»:=λk x t v h=>by
  rcases aL h with⟨i,u,rfl,e⟩|⟨y,u,rfl,e⟩
  .exact nomatch e
  .injection e with e1 _
   subst e1;cases v<;>rfl
def va(prog:Program)(w:World)(i:Int)(t:Tok):(AF prog w).is (.inl i) (.int i t)=true:=wz i t
def u7(prog:Program)(w:World)(x:Str)(t:Tok):(AF prog w).is (.inr x) (.str x t)=true:=wd x t
end L2
namespace L2
open PySem PySem.Spec PyProof.Rows
inductive V where
 |ZL|bl (b:Bool)|int (i:Int)|str (x:Str)|XC (b:Array UInt8)|Vp (b:UInt64)|ref (a:Addr)|ty (n:String)
 deriving DecidableEq
def RelV:V->Value->Prop
 |.ZL,u=>u=Value.none
 |.bl b,u=>u=Value.bool b
 |.int i,u=>∃t,u=Value.int i t
 |.str x,u=>∃t,u=Value.str x t
 |.XC b,u=>∃t,u=Value.bytes b t
 |.Vp b,u=>∃t,u=Value.float b t
 |.ref a,u=>u=Value.ref a
 |.ty n,u=>u=Value.type n
abbrev ZH:List V->List Value->Prop:=Paired RelV
def ZH.length{xs:List V}{S:List Value}(r:ZH xs S):xs.length=S.length:=Qu r
def ZH.get:∀{xs:List V} {S:List Value} {i:Nat} {x:V},ZH xs S->xs[i]?=some x ->∃u,S[i]?=some u/\RelV x u
 |_,_,_,_,.nil,e=>by simp at e
 |_,_,0,_,.cons r _,e=>by simp at e;subst e;exact⟨_,rfl,r⟩
 |_,_,i+1,x,.cons _ t,e=>by
  let⟨u,h1,h2⟩:=ZH.get (i:=i) (x:=x) t (by simpa using e)
  exact⟨u,by simpa using h1,h2⟩
def ZH.set{x:V}{u:Value}(r:RelV x u):∀{xs:List V} {S:List Value} (i:Nat),ZH xs S->ZH (xs.set i x) (S.set i u)
 |_,_,_,.nil=>.nil
 |_,_,0,.cons _ t=>.cons r t
 |_,_,i+1,.cons q t=>.cons q (ZH.set r i t)
def ZH.append:∀{xs ys:List V} {S ws:List Value},ZH xs S->ZH ys ws->ZH (xs++ys) (S++ws)
 |_,_,_,_,.nil,s=>s
 |_,_,_,_,.cons r t,s=>.cons r (ZH.append t s)
def ZH.take:∀{xs:List V} {S:List Value} (n:Nat),ZH xs S->ZH (xs.take n) (S.take n)
 |_,_,0,_=>.nil
 |_,_,_+1,.nil=>.nil
 |_,_,n+1,.cons r t=>.cons r (ZH.take n t)
def ZH.drop:∀{xs:List V} {S:List Value} (n:Nat),ZH xs S->ZH (xs.drop n) (S.drop n)
 |_,_,0,r=>r
 |_,_,_+1,.nil=>.nil
 |_,_,n+1,.cons _ t=>ZH.drop n t
def RelO:Option V->Option Value->Prop
 |some v,some u=>RelV v u
 |none,none=>True
 |_,_=>False
def KV{a:Type}:List (a×V)->List (a×Value)->Prop:=Paired λ(p:a×V) (q:a×Value)=>p.1=q.1/\RelV p.2 q.2
def Hl:Key->V
 |.inl i=>.int i
 |.inr x=>.str x
set_option genInjectivity false in
inductive HO where
 |M (xs:List V)
 |ZX (xs:List V)
 |dK (Z4:List (Key×V))|dT (Z4:List (List Key×V))
 |set (Z6:Int->Bool) (n:Nat)
 |ins (C dx:Addr) (fs:List (Str×V))
 |own (x:Addr)
 |xd (fs:List (Str×V))
 |met (f x:Addr)
 |YM (lo hi:Int)
 |Zt (o:Obj) (u:HO)
 |V1 (ps:Array Value)
 |ext (φ:Heap->Prop)
abbrev Hp:=Addr->Option HO
def upd(H:Hp)(a:Addr)(o:HO):Hp:=λb=>if b=a then some o else H b
def upd_same{H:Hp}{o:HO}:upd H a o a=some o:=by unfold upd;rw[YC rfl]
def af{H:Hp}{o:HO}(h:b≠a):upd H a o b=H b:=by unfold upd;rw[Yj h]
def bZ{H:Hp}{o u:HO}(h:H a=some o)(h':H b=some u)(d:o≠u):a≠b:=by
 intro e;subst e;rw[h]at h';exact d (WE h')
def aC{H:Hp}{o:HO}(h:H a=some o)(h':H b=none):a≠b:=by
 intro e;subst e;rw[h]at h';cases h'
section
variable(P:Program)(w:World)
def ObjOk(H:Hp)(h:Heap)(a:Addr):HO->Prop
 |.M xs=>xs.length<=sizeLine /\∃(ZV:List Value) (n:Nat),ZH xs ZV/\h.get? a=some {cls:=.type "list",data:=.seq ZV.toArray n}
 |.ZX xs=>xs.length<=sizeLine /\∃ZV:List Value,ZH xs ZV/\IsTup h a ZV.toArray
 |.dK Z4=>Z4.length<=sizeLine/\(a==sysModules)=false /\∃vs,KV Z4 vs/\h.DictOf (AF P w) a vs
 |.dT Z4=>Z4.length<=sizeLine/\(a==sysModules)=false /\∃xs:List (List Key×Addr×Value),
   Paired (λ(p:List Key×V) (q:List Key×Addr×Value)=>p.1=q.1/\H q.2.1=some (.ZX (p.1.map Hl))/\RelV p.2 q.2.2) Z4 xs /\
   ∃o es ep,h.get? a=some o/\o.ExactDict/\o.data=.dict es ep/\es.toList=xs.map (entryOfKey (tupleKind (AF P w)))/\(xs.map (·.1)).Nodup
 |.set Z6 n=>h.SetOf (intKind P w) a Z6 n
 |.ins C dx fs=>H dx=some (.own a)/\fs.length<=1000/\dx≠a/\h.get? a=some (PySem.W.instObj C dx) /\
   ∃mA,h.Ns1 dx mA/\(∀f,RelO (fs.lookup f) (mA f))/\PySem.Within mA (fs.map (·.1))
 |.own _=>∃o,h.get? a=some o
 |.xd fs=>∃mA,h.Ns1 a mA /\∀f,RelO (fs.lookup f) (mA f)
 |.YM lo hi=>∃t u v,h.get? a=some {cls:=.type "range",data:=.fields #[.int lo t,.int hi u,.int 1 v]}
 |.Zt o u=>h.get? a=some o/\ObjOk H h a u
 |.V1 ps=>h.get? a=some {cls:=.none,data:=.fields ps}
 |.met f x=>h.get? a=some (PySem.W.methodObj (.ref f) (.ref x))
 |.ext c=>c h/\(∃o,h.get? a=some o) /\∀h1 h2:Heap,c h1->(∀o,h1.get? a=some o->h2.get? a=some o)->c h2
def HOk(H:Hp)(h:Heap):Prop:=∀a o,H a=some o->ObjOk P w H h a o
end
section
variable{H H':Hp}{o:HO}
def ObjOk.lt(x:ObjOk P w H h a o):a<h.objs.size:=by
 cases o with
 |M xs=>let⟨_,_,_,_,e⟩:=x;exact Gy e
 |ZX xs=>let⟨_,_,_,p⟩:=x;exact p.lt
 |dK Z4=>let⟨_,_,_,_,o,_,_,e,_⟩:=x;exact Gy e
 |dT Z4=>let⟨_,_,_,_,o,_,_,e,_⟩:=x;exact Gy e
 |set Z6 n=>let⟨o,_,_,_,e,_⟩:=x;exact Gy e
 |ins C dx fs=>let⟨_,_,_,e,_⟩:=x;exact Gy e
 |own y=>let⟨_,e⟩:=x;exact Gy e
 |xd fs=>let⟨_,⟨_,_,_,e,_⟩,_⟩:=x;exact Gy e
 |YM lo hi=>let⟨_,_,_,e⟩:=x;exact Gy e
 |Zt ob u=>let⟨e,_⟩:=x;exact Gy e
 |V1 ps=>exact Gy (show h.get? a=some _ from x)
 |met f y=>exact Gy (show h.get? a=some _ from x)
 |ext b=>let⟨_,⟨_,e⟩,_⟩:=x;exact Gy e
def Paired.Tr{d c:Type}{F G:d->c->Prop}:∀{l₁ : List d} {l₂ : List c},Paired F l₁ l₂ -> (∀a b,F a b->G a b)->Paired G l₁ l₂
 |_,_,.nil,_=>.nil
 |_,_,.cons r t,f=>.cons (f _ _ r) (Paired.Tr t f)
def ObjOk.XO(x:ObjOk P w H h a o)(k:∀b u,(b=a\/H b=some (.own a))->h.get? b=some u->h'.get? b=some u)
  (l:∀b,H b=some (.own a)->H' b=some (.own a)) (j:∀b xs,H b=some (.ZX xs)->H' b=some (.ZX xs)):ObjOk P w H' h' a o:=by
 induction o with
 |M xs=>let⟨z,ZV,n,r,e⟩:=x;exact⟨z,ZV,n,r,k _ _ (.inl rfl) e⟩
 |ZX xs=>let⟨z,ZV,r,ob,e,c⟩:=x;exact⟨z,ZV,r,ob,k _ _ (.inl rfl) e,c⟩
 |dK Z4=>let⟨z,y,vs,r,ob,es,ep,e,c⟩:=x;exact⟨z,y,vs,r,ob,es,ep,k _ _ (.inl rfl) e,c⟩
 |dT Z4=>
  let⟨z,y,xs,r,ob,es,ep,e,c⟩:=x;exact⟨z,y,xs,Paired.Tr r λp q z=>⟨z.1,j _ _ z.2.1,z.2.2⟩,ob,es,ep,k _ _ (.inl rfl) e,c⟩
 |set Z6 n=>let⟨ob,es,ep,t,e,c⟩:=x;exact⟨ob,es,ep,t,k _ _ (.inl rfl) e,c⟩
 |ins C dx fs=>
  let⟨d,z,i,e,mA,⟨g,es,ep,m,c⟩,r⟩:=x;exact⟨l _ d,z,i,k _ _ (.inl rfl) e,mA,⟨g,es,ep,k _ _ (.inr d) m,c⟩,r⟩
 |own y=>let⟨ob,e⟩:=x;exact⟨ob,k _ _ (.inl rfl) e⟩
 |xd fs=>let⟨mA,⟨g,es,ep,e,c⟩,r⟩:=x;exact⟨mA,⟨g,es,ep,k _ _ (.inl rfl) e,c⟩,r⟩
 |YM lo hi=>let⟨t,u,v,e⟩:=x;exact⟨t,u,v,k _ _ (.inl rfl) e⟩
 |Zt ob u ih=>let⟨e,q⟩:=x;exact⟨k _ _ (.inl rfl) e,ih q⟩
 |V1 ps=>
  have e:h.get? a=some {cls:=.none,data:=.fields ps}:=x;show h'.get? a=some {cls:=.none,data:=.fields ps};exact k a _ (.inl rfl) e
 |met f y=>
  have e:h.get? a=some (PySem.W.methodObj (.ref f) (.ref y)):=x;show h'.get? a=some (PySem.W.methodObj (.ref f) (.ref y));exact k a _ (.inl rfl) e
 |ext s=>let⟨p,⟨o,e⟩,st⟩:=x;exact⟨st _ _ p λo q=>k _ _ (.inl rfl) q,⟨o,k _ _ (.inl rfl) e⟩,st⟩
def HOk.lt(x:HOk P w H h)(e:H a=some o):a<h.objs.size:=(x a o e).lt
def HOk.fresh(x:HOk P w H h)(e:h.objs.size<=a):H a=none:=by
 cases q:H a with
 |none=>rfl
 |some u=>exact absurd (GD (x.lt q) e) (Rx _)
def HOk.kept(x:HOk P w H h)(k:∀b u,h.get? b=some u->h'.get? b=some u):HOk P w H h':=λa o e=>
 (x a o e).XO (λb u _ q=>k b u q) (λ_ q=>q) λ_ _ q=>q
def HOk.laid(x:HOk P w H h)(k:∀b u,h.get? b=some u->h'.get? b=some u)(g:h.objs.size<=a)(d:ObjOk P w (upd H a o) h' a o):HOk P w (upd H a o) h':=λb u e=>by
 have hn:=x.fresh g;by_cases f:b=a
 .subst f;rw[upd_same]at e;cases e;exact d
 .rw [af f]at e
  exact(x b u e).XO (λc v _ q=>k c v q) (λc q=>by rw[af (aC q hn)];exact q) λc xs q=>by rw[af (aC q hn)];exact q
end
def Rd(H:Hp)(a:Addr)(u:HO):Prop:=H a=some u \/∃o,H a=some (.Zt o u)
def Rd.ok{H:Hp}{u:HO}(r:Rd H a u)(x:HOk P w H h):ObjOk P w H h a u:=by
 rcases r with r|⟨o,r⟩
 .exact x a u r
 .obtain ⟨_,q⟩:=x a _ r
  exact q
def Mut:Option HO->Prop
 |some (.M _)=>True
 |some (.dK _)=>True
 |some (.dT _)=>True
 |some (.set _ _)=>True
 |some (.ins _ _ _)=>True
 |some (.ext _)=>True
 |_=>False
section
variable{H:Hp}{x e:Addr}{o':HO}
def HOk.write(o:HOk P w H h)(d:Mut (H x))(m:e=x\/H e=some (.own x))(k:∀b u,b≠e->h.get? b=some u->h'.get? b=some u)(s:∃u,h'.get? e=some u)
  (j:ObjOk P w (upd H x o') h' x o'):HOk P w (upd H x o') h':=λb u q=>by
 have n:∀c y,H c=some (.own y)->c≠x:=λc y r z=>by subst z;rw[r]at d;exact d
 have a:∀c xs,H c=some (.ZX xs)->c≠x:=λc xs r z=>by subst z;rw[r]at d;exact d
 by_cases g:b=x
 .subst g;rw[upd_same]at q;cases q;exact j
 .rw [af g]at q
  by_cases i:b=e
  .have l:H b=some (.own x):=by
    rcases m with z|z
    .exact absurd (i.trans z) g
    .rw [i];exact z
   rw[q]at l;cases l;let⟨v,p⟩:=s;exact⟨v,by rw[i];exact p⟩
  .refine (o b u q).XO (λc v f r=>k c v ?_ r) (λc r=>by rw[af (n c b r)];exact r) λc xs r=>by rw[af (a c xs r)];exact r
   rcases f with rfl|f
   .exact i
   .rintro rfl
    rcases m with z|z
    .exact n c b f z
    .rw [f]at z;cases z;exact g rfl
end
structure Un(fs ex:List Addr)(H H':Hp)(h h':Heap):Prop where
 keep:∀b o,h.get? b=some o->H b=none->b ∉ fs->b ∉ ex->h'.get? b=some o
 slot:∀b o,h.get? b=some o->H b=none->b∈fs->b ∉ ex ->∃sl,h'.get? b=some {o with slots:=sl}
 free:∀b o,h.get? b=some o->H b=none->b ∉ ex->H' b=none
 there:∀b o,h.get? b=some o->b ∉ ex ->∃o',h'.get? b=some o'
 Wn:∀b xs,H b=some (.ZX xs)->H' b=some (.ZX xs)
 WL:∀b o u,H b=some (.Zt o u)->H' b=some (.Zt o u)
 Wm:∀b ps,H b=some (.V1 ps) ->∃more,H' b=some (.V1 (ps++more))
section
variable{fs fs' ex ex':List Addr}{H H1 H2:Hp}{h1 h2:Heap}{x e:Addr}{o:HO}
def Un.any(u:Un fs ex H H1 h h1){a:Obj}(q:h.get? b=some a)(n:H b=none)(c:b ∉ ex):∃e,h1.get? b=some {a with slots:=e}:=by
 by_cases d:b∈fs
 .exact u.slot b a q n d c
 .exact ⟨a.slots,u.keep b a q n d c⟩
def Un.kept(k:∀b u,h.get? b=some u->h'.get? b=some u):Un fs ex H H h h':=
 ⟨λb ob q _ _ _=>k b ob q,λb ob q _ _ _=>⟨ob.slots,k b ob q⟩,λ_ _ _ n _=>n,λb ob q _=>⟨ob,k b ob q⟩,λ_ _ q=>q,λ_ _ _ q=>q,λ_ ps q=>⟨#[],by rw[q];simp⟩⟩
def Un.refl:Un fs ex H H h h:=Un.kept λ_ _ q=>q
def Un.laid(k:∀b u,h.get? b=some u->h'.get? b=some u)(hp:h.objs.size<=a)(hn:H a=none):Un fs ex H (upd H a o) h h' where
 keep:=λb u q _ _ _=>k b u q
 slot:=λb u q _ _ _=>⟨u.slots,k b u q⟩
 free:=λb u q n _=>by rw[af (GF (GD (Gy q) hp))];exact n
 there:=λb u q _=>⟨u,k b u q⟩
 Wn:=λb xs q=>by rw[af (aC q hn)];exact q
 WL:=λb u xs q=>by rw[af (aC q hn)];exact q
 Wm:=λb ps q=>⟨#[],by rw[af (aC q hn),q];simp⟩
def Un.write(a:Mut (H x))(j:e=x\/H e=some (.own x))(k:∀b u,b≠e->h.get? b=some u->h'.get? b=some u)(t:∃u,h'.get? e=some u):Un fs ex H (upd H x o) h h':=by
 have d:∀b,H b=none->b≠x:=λb n z=>by subst z;rw[n]at a;exact a
 have f:∀b,H b=none->b≠e:=λb n z=>by
  subst z;rcases j with r|r
  .exact d b n r
  .rw [n]at r;cases r
 have c:∀b u,H b=some u -> ¬ Mut (some u)->b≠x:=λb u q nm z=>by subst z;rw[q]at a;exact nm a
 refine ⟨λb u q n _ _=>k b u (f b n) q,λb u q n _ _=>⟨u.slots,k b u (f b n) q⟩,λb u q n _=>by rw [af (d b n)];exact n,λb u q _ => ?_,
  λb xs q=>by rw[af (c b _ q λz=>z)];exact q,λb u xs q=>by rw[af (c b _ q λz=>z)];exact q,λb ps q=>⟨#[],by rw[af (c b _ q λz=>z),q];simp⟩⟩
 by_cases g:b=e
 .subst g;exact t
 .exact ⟨u,k b u g q⟩
end
def Hm(h:Heap)(H:Hp):List Addr:=(List.range h.objs.size).filter λa=>(H a).isSome
def Bu(h:Heap)(H:Hp):Heap:=PySem.W.hideAll h (Hm h H)
def vX(h:Heap)(H:Hp):(Bu h H).objs.size=h.objs.size:=PySem.W.hideAll_size _ _
def x4{H:Hp}{o:Obj}(e:h.get? b=some o)(n:H b=none):(Bu h H).get? b=some o:=
 PySem.W.hideAll_get _ e λa=>by
  have q:(H b).isSome=true:=(Qb.mp a).2;rw[n]at q;simp at q
def y0{H:Hp}{o:Obj}(e:(Bu h H).get? b=some o):h.get? b=some o/\H b=none:=by
 have e':h.get? b=some o:=PySem.W.of_hideAll (Hm h H) e;refine⟨e',?_⟩;cases q:H b with
 |none=>rfl
 |some x=>
  have a:b∈Hm h H:=Qb.mpr ⟨TJ.mpr (Gy e'),by simp[q]⟩
  have z:(Bu h H).get? b=none:=PySem.W.hideAll_none (Hm h H) a;rw[z]at e;cases e
end L2
variable{H H':L2.Hp}{v:L2.V}{vs:List L2.V}{Z4:List (List L2.Key×L2.V)}{gV:List L2.V->List L2.V->List L2.V}{Zo:List (PySem.Str×L2.V)}{Q2:L2.V->L2.Hp->Prop}
namespace L2
open PySem PySem.Spec PyProof.Rows
structure Mod(K:GJ)(mg:Str->Option Value)(base:Heap):Prop where
 VZ:K.In base
 glob:base.Ns mainGlobals mg
 blt:∃mb,base.Ns builtinsNs mb /\∀x:Str,x ≠ "__name__" -> mb x=bootBuiltins x
 nolimit:base.NoLimit
set_option genInjectivity false in
structure Cx where
 prog:Program
 w:World
 K:GJ
 mg:Str->Option Value
 base:Heap
 A:Around
 N:List Str
 Ze : Shared
 UU : Hp
 env:Env
 outer:List Env
 stack:List Env
 ex:List Addr
 fn:Str->Bool
 calm:Bool
 pn:List (Addr×Obj)
 xe:Value->Shared->Prop
def frs(l:List Env):List Addr:=l.filterMap (·.frame)
abbrev Cx.fs(X:Cx):List Addr:=frs X.outer
def Vis(a:Scope)(x:Str):Prop:=a.names.lookup x=some .local\/a.names.lookup x=some .cell\/a.names.lookup x=some .free
def Loc(a:Scope)(x:Str):Prop:=a.names.lookup x=some .local\/a.names.lookup x=some .cell
def Look(env:Env)(h:Heap)(m:Str->Option Value)(x:Str)(u:Value):Prop:=
 (env.kindOf x=some .local/\m x=some u)\/((env.kindOf x=some .cell\/env.kindOf x=some .free) /\∃c,env.cells.lookup x=some c/\h.IsCell c (some u))
structure Cx.Ok(X:Cx):Prop where
 mod:Mod X.K X.mg X.base
 kind:X.env.scope.kind=.function
 glob:X.env.globals=mainGlobals
 blt:X.env.builtins=builtinsNs
 above:X.Ze.heap.objs.size<=X.env.locals
 inj:∀x y c,X.env.cells.lookup x=some c->X.env.cells.lookup y=some c->x=y
 has:∀x,(X.env.kindOf x=some .cell\/X.env.kindOf x=some .free) ->∃c,X.env.cells.lookup x=some c
 UT:∀x c,X.fn x=true->X.env.cells.lookup x=some c->X.Ze.heap.objs.size<=c
 hd:X.calm=true->X.A.handled=none
 frames:X.A.frames=some X.stack
 stk:X.stack=X.outer\/(X.stack=X.env::X.outer/\X.env.frame=some X.env.locals)
 exf:∀b∈X.ex,b≠X.env.locals /\∀x c,X.env.cells.lookup x=some c->c≠b
 bs:∀b o,X.base.get? b=some o->X.Ze.heap.get? b=some o/\X.UU b=none
 WK:X.base.objs.size<=X.Ze.heap.objs.size
 Yi:∀b o,X.base.get? b=some o->b ∉ X.ex
 TU:∀b∈X.ex,b ∉ X.fs
 XB:X.Ze.heap.FunFrames X.base X.outer
 VY:∀b∈X.fs,X.UU b=none
structure Z0(X:Cx)(O:List (Addr×Obj))(Y:List (Option V))(H:Hp)(s:Shared):Prop where
 ok:X.Ok
 os:s.os=X.Ze.os
 bare:AllBare s.gens
 base:Un X.fs X.ex X.UU H X.Ze.heap s.heap
 loc:∃m,s.heap.Ns X.env.locals m /\∀(i:Nat) (x:Str) (v:V),X.N[i]?=some x->Y[i]?=some (some v)->Vis X.env.scope x ->∃u,RelV v u/\Look X.env s.heap m x u
 cell:∀x c,X.env.cells.lookup x=some c ->∃v,s.heap.IsCell c v
 free:H X.env.locals=none
 W7:∀x c,X.env.cells.lookup x=some c->H c=none
 pin:∀p∈X.pn++O,s.heap.get? p.1=some p.2/\H p.1=none/\p.1≠X.env.locals/\p.1 ∉ X.fs /\∀v,p.2.data ≠ .cell v
 ZJ:HOk X.prog X.w H s.heap
 len:Y.length=X.N.length
section
variable{X:Cx}{Y:List (Option V)}
def Cx.Ok.nofr(a:X.Ok){o:Obj}(e:X.base.get? b=some o):b ∉ X.fs:=λc=>by
 have:=(a.XB.mem c).1;rw[e]at this;cases this
def Z0.bs(I:Z0 X O Y H s):∀b o,X.base.get? b=some o->s.heap.get? b=some o/\H b=none:=λb o e=>
 ⟨I.base.keep b o (I.ok.bs b o e).1 (I.ok.bs b o e).2 (I.ok.nofr e) (I.ok.Yi b o e),I.base.free b o (I.ok.bs b o e).1 (I.ok.bs b o e).2 (I.ok.Yi b o e)⟩
def Z0.bk(I:Z0 X O Y H s):∀b o,X.base.get? b=some o->s.heap.get? b=some o:=λb o e=>(I.bs b o e).1
def Z0.mod(I:Z0 X O Y H s):Mod X.K X.mg X.base:=I.ok.mod
def Z0.YR(I:Z0 X O Y H s):X.K.In s.heap:=I.ok.mod.VZ.keeps I.bk
def Z0.lt(I:Z0 X O Y H s):X.env.locals<s.heap.objs.size:=let⟨_,a,_⟩:=I.loc;a.lt
def Z0.sz(I:Z0 X O Y H s):X.Ze.heap.objs.size<=s.heap.objs.size:=Gz I.ok.above (Rg I.lt)
def Z0.nofs(I:Z0 X O Y H s)(h:s.heap.objs.size<=a):a ∉ X.fs:=λb=>by
 let⟨_,o,ho,_⟩:=I.ok.XB.mem b;exact absurd (GD (Gy ho) (Gz I.sz h)) (Rx _)
def Z0.VX(I:Z0 X O Y H s):∀x c,X.env.cells.lookup x=some c->c≠X.env.locals:=λx c e z=>by
 let⟨v,o,ho,a⟩:=I.cell x c e;let⟨m,⟨o',es,ep,b,d,_⟩,_⟩:=I.loc;rw[z,b]at ho;cases ho;rw[d]at a;cases a
def Z0.XB(I:Z0 X O Y H s):s.heap.FunFrames X.base X.outer:=by
 have all:∀(l:List Env),(∀b∈frs l,b∈X.fs)->X.Ze.heap.FunFrames X.base l->s.heap.FunFrames X.base l:=by
  intro l
  induction l with
  |nil=>intro _ _;trivial
  |cons env r ih=>
   intro hs h;let⟨hk,⟨Z7,o,a,g,ho,i⟩,f⟩:=h;have d:Z7∈X.fs:=hs Z7 (by unfold frs;rw[VJ,a];exact XZ)
   let⟨j,e⟩:=I.base.slot Z7 o ho (I.ok.VY Z7 d) d λz=>I.ok.TU Z7 z d;exact⟨hk,⟨Z7,_,a,g,e,i⟩,ih (λb c=>hs b (by unfold frs;rw[VJ,a];exact GC _ c)) f⟩
 exact all X.outer (λ_ c=>c) I.ok.XB
def Z0.stack(I:Z0 X O Y H s):s.heap.FunFrames X.base X.stack:=by
 rcases I.ok.stk with e|⟨e,hf⟩
 .rw [e];exact I.XB
 .rw [e]
  let⟨m,a,_⟩:=I.loc;refine .cons (by rw[I.ok.kind];decide) hf a ?_ I.XB
  exact Heap.get?_none_of_le (Gz I.ok.WK I.ok.above)
def Z0.US(I:Z0 X O Y H s):∀b∈frs X.stack,b∈X.env.locals::X.fs:=λb a=>by
 rcases I.ok.stk with e|⟨e,hf⟩
 .rw [e]at a;exact GC _ a
 .rw [e]at a
  unfold frs at a;rw[VJ,hf]at a;exact a
def Z0.SQ(I:Z0 X O Y H s):∀b∈frs X.stack,H b=none:=λb a=>by
 rcases X5.mp (I.US b a)with e|a
 .rw [e];exact I.free
 .obtain ⟨_,o,ho,_⟩:=I.ok.XB.mem a
  exact I.base.free b o ho (I.ok.VY b a) λz=>I.ok.TU b z a
def Z0.step{g':Array GenState}{d':Drawn}{ch:List Addr}(I:Z0 X O Y H s)
  (A:∀b∈ch,(b∈X.ex\/X.Ze.heap.objs.size<=b)/\b≠X.env.locals/\(∀x c,X.env.cells.lookup x=some c->c≠b) /\∀p∈X.pn++O,p.1≠b)
  (keep:∀b o,b≠X.env.locals->b ∉ X.fs->b ∉ ch->s.heap.get? b=some o->H b=none->h'.get? b=some o)
  (slot:∀b o,b≠X.env.locals->b∈X.fs->b ∉ ch->s.heap.get? b=some o->H b=none ->∃D,h'.get? b=some {o with slots:=D}) (free:∀b o,b ∉ ch->s.heap.get? b=some o->H b=none->H' b=none)
  (there:∀b o,b ∉ ch->s.heap.get? b=some o ->∃o',h'.get? b=some o')
  (Wn:∀b xs,H b=some (.ZX xs)->H' b=some (.ZX xs)) (WL:∀b o u,H b=some (.Zt o u)->H' b=some (.Zt o u)) (Wm:∀b ps,H b=some (.V1 ps) ->∃more,H' b=some (.V1 (ps++more)))
  (ns:∀m,s.heap.Ns X.env.locals m->h'.Ns X.env.locals m) (Q:HOk X.prog X.w H' h') (N:AllBare g') :
  Z0 X O Y H' {s with heap:=h',gens:=g',drawn:=d',toks:=t'}:=by
 have t:∀b o,X.Ze.heap.get? b=some o->b≠X.env.locals:=λb o e=>GF (GD (Gy e) I.ok.above);have g:∀b o,X.Ze.heap.get? b=some o->b ∉ X.ex->b ∉ ch:=λb o e a j=>by
  rcases(A b j).1 with z|z
  .exact a z
  .exact absurd (GD (Gy e) z) (Rx _)
 have f:∀x c,X.env.cells.lookup x=some c ->∀v,s.heap.IsCell c v->h'.IsCell c v:=λx c e v ⟨o,ho,hd⟩=>by
  have B:c ∉ ch:=λz=>(A c z).2.2.1 x c e rfl;by_cases J:c∈X.fs
  .obtain ⟨D,q⟩:=slot c o (I.VX x c e) J B ho (I.W7 x c e)
   exact⟨_,q,hd⟩
  .exact ⟨o,keep c o (I.VX x c e) J B ho (I.W7 x c e),hd⟩
 refine⟨I.ok,I.os,N,⟨λb o e n j a=>?_,λb o e n j a=>?_,λb o e n a=>?_,λb o e a=>?_,λb xs e=>Wn b xs (I.base.Wn b xs e),λb o xs e=>WL b o xs (I.base.WL b o xs e),λb ps e=>?_⟩,?_,λx c e=>?_,?_,λx c e=>?_,λp G=>?_,Q,I.len⟩
 .exact keep b o (t b o e) j (g b o e a) (I.base.keep b o e n j a) (I.base.free b o e n a)
 .obtain ⟨D,h⟩:=I.base.slot b o e n j a
  let⟨C,y⟩:=slot b _ (t b o e) j (g b o e a) h (I.base.free b o e n a);exact⟨C,y⟩
 .obtain ⟨o',h⟩:=I.base.there b o e a
  exact free b o' (g b o e a) h (I.base.free b o e n a)
 .obtain ⟨o',h⟩:=I.base.there b o e a
  exact there b o' (g b o e a) h
 .obtain ⟨m1,h⟩:=I.base.Wm b ps e
  let⟨K,y⟩:=Wm b _ h;exact⟨m1++K,by rw[y,Array.append_assoc]⟩
 .obtain ⟨m,L,M⟩:=I.loc
  refine⟨m,ns m L,λi x v h y P=>?_⟩;let⟨u,r,l⟩:=M i x v h y P;refine⟨u,r,?_⟩;rcases l with l|⟨k,c,e,z⟩
  .exact .inl l
  .exact .inr ⟨k,c,e,f x c e _ z⟩
 .obtain ⟨v,z⟩:=I.cell x c e
  exact⟨v,f x c e v z⟩
 .obtain ⟨m,⟨o,_,_,ho,_⟩,_⟩:=I.loc
  exact free _ o (λz=>(A _ z).2.1 rfl) ho I.free
 .obtain ⟨v,o,ho,hd⟩:=I.cell x c e
  exact free c o (λz=>(A c z).2.2.1 x c e rfl) ho (I.W7 x c e)
 .obtain ⟨e,n,F,E,d⟩:=I.pin p G
  have B:p.1 ∉ ch:=λz=>(A p.1 z).2.2.2 p G rfl;exact⟨keep p.1 p.2 F E B e n,free p.1 p.2 B e n,F,E,d⟩
def Z0.un(I:Z0 X O Y H s)(u:Un X.fs [] H H' s.heap h')(g:HOk X.prog X.w H' h'):Z0 X O Y H' {s with heap:=h',toks:=t'}:=by
 let⟨m,⟨o,es,ep,ho,r⟩,_⟩:=id I.loc;let⟨k,f⟩:=u.any ho I.free #[3]
 exact I.step (g':=s.gens) (d':=s.drawn) (ch:=[]) (λ_ z=>nomatch z) (λb o _ a _ e n=>u.keep b o e n a #[3]) (λb o _ a _ e n=>u.slot b o e n a #[3]) (λb o _ e n=>u.free b o e n #[3]) (λb o _ e=>u.there b o e #[3]) u.Wn u.WL u.Wm (λt d=>by
  let⟨o',es',j,c,r'⟩:=d;rw[ho]at c;cases c;exact⟨_,es',j,f,r'⟩) g I.bare
def Z0.call{g':Array GenState}{d':Drawn}{ch:List Addr}(I:Z0 X O Y H s)(u:Un (frs X.stack) ch H H' s.heap h')(k:HOk X.prog X.w H' h')(i:AllBare g')
  (g:∀b∈ch,(b∈X.ex\/X.Ze.heap.objs.size<=b)/\b≠X.env.locals/\(∀x c,X.env.cells.lookup x=some c->c≠b) /\∀p∈X.pn++O,p.1≠b) :
  Z0 X O Y H' {s with heap:=h',gens:=g',drawn:=d',toks:=t'}:=by
 let⟨m,⟨o,es,ep,ho,r⟩,_⟩:=id I.loc;let⟨q,d⟩:=u.any ho I.free λz=>(g _ z).2.1 rfl
 exact I.step (ch:=ch) g (λb o d j a e n=>u.keep b o e n (λz=>(X5.mp (I.US b z)).elim d j) a) (λb o _ _ a e n=>u.any e n a) (λb o a e n=>u.free b o e n a) (λb o a e=>u.there b o e a) u.Wn u.WL u.Wm (λt h=>by
  let⟨o',es',l,f,r'⟩:=h;rw[ho]at f;cases f;exact⟨_,es',l,d,r'⟩) k i
def Z0.turned{it:Addr}(I:Z0 X O Y H s)(k:∀b o,b≠it->s.heap.get? b=some o->h'.get? b=some o)(g:H it=none)(f:it≠X.env.locals)
  (A:it∈X.ex\/X.Ze.heap.objs.size<=it) (y:∀x c,X.env.cells.lookup x=some c->c≠it) (w:∀p∈X.pn++O,p.1≠it):Z0 X O Y H {s with heap:=h',toks:=t'}:=by
 have d:∀b u,H b=some u->b≠it:=λb u e z=>by rw[z,g]at e;cases e
 refine I.step (g':=s.gens) (d':=s.drawn) (ch:=[it]) (λb t=>?_) (λb o _ _ a e _=>k b o (λz=>a (by simp[z])) e) (λb o _ _ a e _=>⟨o.slots,k b o (λz=>a (by simp[z])) e⟩) (λ_ _ _ _ n=>n)
  (λb o a e=>⟨o,k b o (λz=>a (by simp[z])) e⟩) (λ_ _ e=>e) (λ_ _ _ e=>e) (λb ps e=>⟨#[],by rw[e];simp⟩) (λm j=>?_) (λb u e=>?_) I.bare
 .have e:b=it:=by simpa using t
  subst e;exact⟨A,f,y,w⟩
 .obtain ⟨o,es,ep,ho,r⟩:=j
  exact⟨o,es,ep,k _ o (Ne.symm f) ho,r⟩
 .refine (I.ZJ b u e).XO (λc v a q=>k c v ?_ q) (λ_ q=>q) λ_ _ q=>q
  rcases a with z|z
  .rw [z];exact d b u e
  .exact d c _ z
def Z0.tok(I:Z0 X O Y H s)(t:Nat):Z0 X O Y H {s with toks:=t}:=I.un (h':=s.heap) (t':=t) Un.refl I.ZJ
def Z0.kept{t':Nat}(I:Z0 X O Y H s)(k:∀b u,s.heap.get? b=some u->h'.get? b=some u):Z0 X O Y H {s with heap:=h',toks:=t'}:=I.un (Un.kept k) (I.ZJ.kept k)
def Z0.laid{a:Addr}{o:HO}{t':Nat}(I:Z0 X O Y H s)(k:∀b u,s.heap.get? b=some u->h'.get? b=some u)(d:s.heap.objs.size<=a)(c:ObjOk X.prog X.w (upd H a o) h' a o):
  Z0 X O Y (upd H a o) {s with heap:=h',toks:=t'}:=I.un (Un.laid k d (I.ZJ.fresh d)) (I.ZJ.laid k d c)
def Z0.write{x e:Addr}{o:HO}{t':Nat}(I:Z0 X O Y H s)(c:Mut (H x))(d:e=x\/H e=some (.own x))(k:∀b u,b≠e->s.heap.get? b=some u->h'.get? b=some u)(f:∃u,h'.get? e=some u)
  (a:ObjOk X.prog X.w (upd H x o) h' x o):Z0 X O Y (upd H x o) {s with heap:=h',toks:=t'}:=I.un (Un.write c d k f) (I.ZJ.write c d k f a)
def Z0.SO{a:List (Addr×Obj)}(I:Z0 X O Y H s)(h:∀p∈a,s.heap.get? p.1=some p.2/\H p.1=none/\p.1≠X.env.locals/\p.1 ∉ X.fs /\∀v,p.2.data ≠ .cell v):Z0 X a Y H s:=
 ⟨I.ok,I.os,I.bare,I.base,I.loc,I.cell,I.free,I.W7,λp b=>(Wd.mp b).elim (λz=>I.pin p (Rt _ z)) (h p),I.ZJ,I.len⟩
def kD(c:N.Nodup)(a:N[i]?=some x)(b:N[j]?=some x):i=j:=by
 let⟨h1,e⟩:=YG.mp a;let⟨h2,d⟩:=YG.mp b;exact(List.getElem_inj c).mp (e.trans d.symm)
def jF{Z5:Model}{E:Value->Shared->Prop}{u:Value}{Q:Unit->Shared->Prop}(I:Z0 X O Y H s)(hN:X.N.Nodup)(hi:X.N[i]?=some x)(t:Loc X.env.scope x)(r:RelV v u)
  (h:∀s',Z0 X O (Y.set i (some v)) H s'->(∃a,Heap.SameBut a s.heap s'.heap/\(a=X.env.locals\/X.env.cells.lookup x=some a))->Q Unit.unit s') (hf:X.fn x=true\/X.env.scope.names.lookup x=some .local:=by first|exact .inl rfl|exact .inr rfl|assumption):wpAny Z5 A (storeName X.env x u) Q E s:=by
 let⟨m,U,Z⟩:=id I.loc;have Tq:(X.env.scope.kind==.class||(X.env.scope.kind==.module&&X.env.locals != X.env.globals))=false:=by rw[I.ok.kind];rfl
 have SN:i<Y.length:=by rw[I.len];exact(YG.mp hi).1
 have VX:=I.VX;have f:∀{a:Addr} {h':Heap},(∃o,s.heap.get? a=some o/\H a=none)->Heap.SameBut a s.heap h'->HOk X.prog X.w H h':=λ{a h'} ha hs b ob e=>by
  let⟨_,_,Vn⟩:=ha;refine(I.ZJ b ob e).XO (λc K l q=>(hs.2 c ?_).trans q) (λ_ q=>q) λ_ _ q=>q;rintro rfl;rcases l with rfl|l
  .rw [Vn]at e;cases e
  .rw [Vn]at l;cases l
 rcases t with hk|hk
 .refine wpAny_storeName_local hk U (λh' Zd hs=>?_) Tq
  let⟨oL,_,_,UQ,_⟩:=id U;refine h _ ⟨I.ok,I.os,I.bare,⟨λb o e n D t=>?_,λb o e n D t=>?_,I.base.free,λb o e t=>?_,I.base.Wn,I.base.WL,I.base.Wm⟩,⟨_,Zd,λj y M g B V=>?_⟩,λy c e=>?_,I.free,I.W7,λp T=>?_,f ⟨oL,UQ,I.free⟩ hs,by simpa using I.len⟩ ⟨_,hs,.inl rfl⟩
  .exact (hs.2 b (GF (GD (Gy e) I.ok.above))).trans (I.base.keep b o e n D t)
  .obtain ⟨R,g⟩:=I.base.slot b o e n D t
   exact⟨R,(hs.2 b (GF (GD (Gy e) I.ok.above))).trans g⟩
  .obtain ⟨o',g⟩:=I.base.there b o e t
   exact⟨o',(hs.2 b (GF (GD (Gy e) I.ok.above))).trans g⟩
  .by_cases C:j=i
   .subst C
    rw[hi]at g;cases g;rw[Se SN]at B;cases B;exact⟨u,r,.inl ⟨hk,by simp⟩⟩
   .rw [Vm (Ne.symm C)]at B
    let⟨P,r',q⟩:=Z j y M g B V;refine⟨P,r',?_⟩;rcases q with⟨k,e⟩|⟨k,c,e,z⟩
    .refine .inl ⟨k,?_⟩
     have:y≠x:=λe=>C (kD hN g (e ▸ hi));simp[this,e]
    .exact .inr ⟨k,c,e,z.sameBut hs (VX y c e)⟩
  .obtain ⟨K,z⟩:=I.cell y c e
   exact⟨K,z.sameBut hs (VX y c e)⟩
  .obtain ⟨e,n,L,S,d⟩:=I.pin p T
   exact⟨(hs.2 p.1 L).trans e,n,L,S,d⟩
 .have W:X.fn x=true:=by
   rcases hf with z|z
   .exact z
   .rw [z]at hk;cases hk
  let⟨c,l⟩:=I.ok.has x (.inl hk);let⟨K,z⟩:=I.cell x c l;refine wpAny_storeName_cell I.ok.kind hk l z (λh' UP hs=>?_);let⟨Jt,G,F⟩:=id z;refine h {s with heap:=h'} ⟨I.ok,I.os,I.bare,⟨λb o e n D t=>?_,λb o e n D t=>?_,I.base.free,λb o e t=>?_,I.base.Wn,I.base.WL,I.base.Wm⟩,⟨m,U.sameBut hs (Ne.symm (VX x c l)),λj y M g B V=>?_⟩,λy c' e=>?_,I.free,I.W7,λp T=>?_,f ⟨Jt,G,I.W7 x c l⟩ hs,by simpa using I.len⟩ ⟨c,hs,.inr l⟩
  .exact (hs.2 b (GF (GD (Gy e) (I.ok.UT x c W l)))).trans (I.base.keep b o e n D t)
  .obtain ⟨R,g⟩:=I.base.slot b o e n D t
   exact⟨R,(hs.2 b (GF (GD (Gy e) (I.ok.UT x c W l)))).trans g⟩
  .obtain ⟨o',g⟩:=I.base.there b o e t
   exact⟨o',(hs.2 b (GF (GD (Gy e) (I.ok.UT x c W l)))).trans g⟩
  .by_cases C:j=i
   .subst C
    rw[hi]at g;cases g;rw[Se SN]at B;cases B;exact⟨u,r,.inr ⟨.inl hk,c,l,UP⟩⟩
   .rw [Vm (Ne.symm C)]at B
    let⟨P,r',q⟩:=Z j y M g B V;refine⟨P,r',?_⟩;rcases q with q|⟨k,c',e,z'⟩
    .exact .inl q
    .refine .inr ⟨k,c',e,z'.sameBut hs ?_⟩
     rintro rfl;exact C (kD hN g (I.ok.inj _ _ _ e l ▸ hi))
  .by_cases J:c'=c
   .subst J;exact⟨_,UP⟩
   .obtain ⟨w2,z2⟩:=I.cell y c' e
    exact⟨w2,z2.sameBut hs J⟩
  .obtain ⟨e,n,L,S,d⟩:=I.pin p T
   refine⟨(hs.2 p.1 ?_).trans e,n,L,S,d⟩;intro q;rw[q,G]at e;have q':Jt=p.2:=WE e;exact d K (by rw[<-q'];exact F)
def dQ{Z5:Model}{E:Value->Shared->Prop}{u:Value}{Q:Unit->Shared->Prop}(I:Z0 X O Y H s)(c:X.N.Nodup)(hi:X.N[i]?=some x)(a:Loc X.env.scope x)(r:RelV v u)
  (h:∀s',Z0 X O (Y.set i (some v)) H s'->Q Unit.unit s') (b:X.fn x=true\/X.env.scope.names.lookup x=some .local:=by first|exact .inl rfl|exact .inr rfl|assumption):wpAny Z5 A (storeName X.env x u) Q E s:=
 jF I c hi a r (λs' d _=>h s' d) b
def Z0.Sl{a:Shared}{ch:List Addr}(I:Z0 X O Y H s)(d:a.os=s.os)(u:Un (frs X.stack) ch H H' s.heap a.heap)(g:HOk X.prog X.w H' a.heap)(f:AllBare a.gens)
  (h:∀b∈ch,(b∈X.ex\/X.Ze.heap.objs.size<=b)/\b≠X.env.locals/\(∀x c,X.env.cells.lookup x=some c->c≠b) /\∀p∈X.pn++O,p.1≠b):Z0 X O Y H' a:=by
 let⟨h',g',d',t',o'⟩:=a;have e:o'=s.os:=d;subst e;exact I.call (g':=g') (t':=t') (d':=d') u g f h
end
abbrev XK:=Value->Option Addr->Hp->Prop
abbrev St:=List (Option V)
abbrev VK:=V->Hp->Prop
abbrev TE:=St->Hp->VK->Prop
abbrev TT:=St->Hp->(Bool->Hp->Prop)->Prop
abbrev TA:=St->Hp->(List V->Hp->Prop)->Prop
set_option genInjectivity false in
structure Ends where
 nx:St->Hp->Prop
 rt:VK
 bk:St->Hp->Prop:=λ_ _=>False
 ct:St->Hp->Prop:=λ_ _=>False
abbrev TS:=Ends->St->Hp->Prop
inductive EP(X:Cx)(O:List (Addr×Obj))(Y:St)(Q:VK)(u:Value)(s':Shared):Prop
 |mk:∀v H',Z0 X O Y H' s'->RelV v u->Q v H'->EP X O Y Q u s'
inductive TP(X:Cx)(O:List (Addr×Obj))(Y:St)(Q:Bool->Hp->Prop)(b:Bool)(s':Shared):Prop
 |mk:∀H',Z0 X O Y H' s'->Q b H'->TP X O Y Q b s'
inductive AP(X:Cx)(O:List (Addr×Obj))(Y:St)(Q:List V->Hp->Prop)(S:List Value)(s':Shared):Prop
 |mk:∀vs H',Z0 X O Y H' s'->ZH vs S->Q vs H'->AP X O Y Q S s'
def SP(X:Cx)(O:List (Addr×Obj))(D:Ends)(f:Flow)(a:Shared):Prop:=
 match f with
 |.next=>∃ZR H',Z0 X O ZR H' a/\D.nx ZR H'
 |.brk=>∃ZR H',Z0 X O ZR H' a/\D.bk ZR H'
 |.cont=>∃ZR H',Z0 X O ZR H' a/\D.ct ZR H'
 |.ret u=>∃v ZR H',Z0 X O ZR H' a/\RelV v u/\D.rt v H'
def PE(X:Cx)(e:Expr)(t:TE):Prop:=
 ∀(O:List (Addr×Obj)) (s:Shared) (Y:St) (H:Hp) (Q:VK),Z0 X O Y H s->t Y H Q->wpAny (model X.prog X.w) X.A (eval e X.env) (EP X O Y Q) X.xe s
def PT(X:Cx)(e:Expr)(t:TT):Prop:=
 ∀(O:List (Addr×Obj)) (s:Shared) (Y:St) (H:Hp) (Q:Bool->Hp->Prop),Z0 X O Y H s->t Y H Q->wpAny (model X.prog X.w) X.A (isTrue e X.env (eval e X.env)) (TP X O Y Q) X.xe s
def PW(X:Cx)(e:Expr)(t:TT):Prop:=
 ∀(a:Sem Value) (O:List (Addr×Obj)) (s:Shared) (Y:St) (H:Hp) (Q:Bool->Hp->Prop),Z0 X O Y H s->t Y H Q->wpAny (model X.prog X.w) X.A (isTrue e X.env a) (TP X O Y Q) X.xe s
def PW.pt{X:Cx}{t:TT}(h:PW X e t):PT X e t:=h _
def PA(X:Cx)(a:List Expr)(t:TA):Prop:=
 ∀(pos:Pos) (O:List (Addr×Obj)) (s:Shared) (Y:St) (H:Hp) (Q:List V->Hp->Prop),Z0 X O Y H s->t Y H Q->wpAny (model X.prog X.w) X.A (spliced (backTo pos (starEach a X.env))) (AP X O Y Q) X.xe s
def PS(X:Cx)(st:Stmt)(t:TS):Prop:=
 ∀(O:List (Addr×Obj)) (s:Shared) (Y:St) (H:Hp) (D:Ends),Z0 X O Y H s->t D Y H->wpAny (model X.prog X.w) X.A (exec st X.env) (SP X O D) X.xe s
def PSs(X:Cx)(st:List Stmt)(t:TS):Prop:=
 ∀(O:List (Addr×Obj)) (s:Shared) (Y:St) (H:Hp) (D:Ends),Z0 X O Y H s->t D Y H->wpAny (model X.prog X.w) X.A (execs st X.env) (SP X O D) X.xe s
def thn{t:Sem α}{Q Q':α->Shared->Prop}{Z5:Model}{E:Value->Shared->Prop}{s:Shared}(h:wpAny Z5 A t Q E s)(b:∀a s,Q a s->Q' a s):wpAny Z5 A t Q' E s:=Q1 h b λ_ _ x=>x
end L2
variable{X:L2.Cx}{ta te:L2.TE}
namespace L2
open PySem PySem.Spec PyProof.Rows
section
def Hn(i:Nat):TE:=λY H Q=>∃v,Y[i]?=some (some v)/\Q v H
def Ho(v:V):TE:=λ_ H Q=>Q v H
def aaW(n:X.N[i]?=some x)(g:Vis X.env.scope x)(b:(x==("__debug__" : Str))=false:=by decide)(o:(x==("__classdict__" : Str))=false:=by decide):PE X (.Name x pos) (Hn i):=by
 intro O s Y H Q I h;let⟨v,e,h⟩:=h;let⟨m,j,k⟩:=I.loc;let⟨u,r,l⟩:=k i x v n e g;have a:EP X O Y Q u s:=⟨v,H,I,r,h⟩;rcases l with⟨hk,hm⟩|⟨hk,c,d,f⟩
 .exact wpAny_Name (wpAny_loadName_local I.ok.kind hk j hm a) b
 .rcases hk with hk|hk
  .exact wpAny_Name (wpAny_loadName_cell I.ok.kind hk d f a) b
  .exact wpAny_Name (wpAny_loadName_free I.ok.kind hk d f a o) b
def p0{i j pos}:PE X (.Constant (.int i) j pos) (Ho (.int i)):=λ_ _ _ H _ I h=>wpAny_Constant_int ⟨.int i,H,I.tok _,⟨_,rfl⟩,h⟩
def adU{b j pos}:PE X (.Constant (.bool b) j pos) (Ho (.bl b)):=λ_ _ _ H _ I h=>Constant_bool ⟨.bl b,H,I,rfl,h⟩
def abl{j pos}:PE X (.Constant .none j pos) (Ho .ZL):=λ_ _ _ H _ I h=>Constant_none ⟨.ZL,H,I,rfl,h⟩
def acH{x j pos}:PE X (.Constant (.str x) j pos) (Ho (.str x)):=λ_ _ _ H _ I h=>Calls.Constant_str ⟨.str x,H,I.tok _,⟨_,rfl⟩,h⟩
def Gl(X:Cx)(x:Str):Prop:=X.env.kindOf x=some .globalImplicit
def eC{E:Value->Shared->Prop}{Y:St}{u:Value}{Q:Value->Shared->Prop}(I:Z0 X O Y H s)(b:Gl X x)(a:X.mg x=some u)(h:Q u s)
  (c:(x==("__debug__" : Str))=false:=by decide):wpAny (model X.prog X.w) X.A (eval (.Name x pos) X.env) Q E s:=
 Pp I.ok.kind b (Calls.loadGlobal_global (by rw[I.ok.glob];exact I.mod.glob.keeps I.bk) a h) c
def eM{E:Value->Shared->Prop}{Y:St}{u:Value}{Q:Value->Shared->Prop}(I:Z0 X O Y H s)(d:Gl X x)(c:X.mg x=none)(a:bootBuiltins x=some u)(h:Q u s)
  (b:x ≠ "__name__":=by decide) (e:(x==("__debug__" : Str))=false:=by decide):wpAny (model X.prog X.w) X.A (eval (.Name x pos) X.env) Q E s:=by
 let⟨f,h1,h2⟩:=I.mod.blt;exact Pp I.ok.kind d (Calls.loadGlobal_builtin (by rw[I.ok.glob];exact I.mod.glob.keeps I.bk) c (by rw[I.ok.blt];exact h1.keeps I.bk) ((h2 x b).trans a) h) e
def zF{u:Value}(b:Gl X x)(a:X.mg x=some u)(r:RelV v u)(c:(x==("__debug__" : Str))=false:=by decide):PE X (.Name x pos) (Ho v):=
 λ_ _ _ H _ I h=>eC I b a ⟨v,H,I,r,h⟩ c
def aai{u:Value}(d:Gl X x)(c:X.mg x=none)(a:bootBuiltins x=some u)(r:RelV v u)(b:x ≠ "__name__":=by decide)(e:(x==("__debug__" : Str))=false:=by decide):PE X (.Name x pos) (Ho v):=
 λ_ _ _ H _ I h=>eM I d c a ⟨v,H,I,r,h⟩ b e
variable{a b:Expr}{tb:TE}
variable{tA tB':TT}{ZQ:List Expr}
def Hq(t u:TT):TT:=λY H Q=>t Y H λc H1=>if c=true then u Y H1 Q else Q false H1
def Hr(t u:TT):TT:=λY H Q=>t Y H λc H1=>if c=true then Q true H1 else u Y H1 Q
def Ht(t:TT):TT:=λY H Q=>t Y H λc H1=>Q (!c) H1
def zJ(b:PT X a tA):PW X (.BoolOp .And [a] pos) tA:=by
 intro d O s Y H Q I h;refine isTrue_and (thn (b O s Y H Q I h) λc f e=>?_);cases c with
 |true=>exact isTrue_and_nil e
 |false=>exact e
def ab2(b:PT X a tA):PW X (.BoolOp .Or [a] pos) tA:=by
 intro d O s Y H Q I h;refine isTrue_or (thn (b O s Y H Q I h) λc f e=>?_);cases c with
 |false=>exact isTrue_or_nil e
 |true=>exact e
def acF(j:PT X a tA)(i:PW X (.BoolOp .And (b::ZQ) pos) tB'):PW X (.BoolOp .And (a::b::ZQ) pos) (Hq tA tB'):=by
 intro f O s Y H Q I h;refine isTrue_and (thn (j O s Y H _ I h) ?_);rintro c g ⟨H1,e,d⟩;cases c with
 |true=>exact i f O g Y H1 Q e d
 |false=>exact⟨H1,e,d⟩
def adV(j:PT X a tA)(i:PW X (.BoolOp .Or (b::ZQ) pos) tB'):PW X (.BoolOp .Or (a::b::ZQ) pos) (Hr tA tB'):=by
 intro f O s Y H Q I h;refine isTrue_or (thn (j O s Y H _ I h) ?_);rintro c g ⟨H1,e,d⟩;cases c with
 |true=>exact⟨H1,e,d⟩
 |false=>exact i f O g Y H1 Q e d
def acy(b:PT X a tA):PT X (.UnaryOp .Not a pos) (Ht tA):=by
 intro O s Y H Q I h;exact isTrue_not (thn (b O s Y H (λc H1=>Q (!c) H1) I h) λ_ _ ⟨H1,d,q⟩=>⟨H1,d,q⟩)
def Gp(b a:TE):TE:=λY H Q=>b Y H λx H1=>∃c,x=.bl c/\if c=true then a Y H1 Q else Q (.bl false) H1
def Hu(b a:TE):TE:=λY H Q=>b Y H λx H1=>∃c,x=.bl c/\if c=true then Q (.bl true) H1 else a Y H1 Q
def acB{op}{t:TE}(h:PE X a t):PE X (.BoolOp op [a] pos) t:=λO s Y H Q I b=>BoolOp_one (h O s Y H Q I b)
def acS(j:PE X a ta)(i:PE X (.BoolOp .And (b::ZQ) pos) tb):PE X (.BoolOp .And (a::b::ZQ) pos) (Gp ta tb):=by
 intro O s Y H Q I h;refine BoolOp_and (thn (j O s Y H _ I h) ?_);rintro v f ⟨x,H1,e,g,d⟩;let⟨c,rfl,d⟩:=d;cases g;refine TB ?_;cases c with
 |true=>exact i O f Y H1 Q e d
 |false=>exact⟨.bl false,H1,e,rfl,d⟩
def aeb(j:PE X a ta)(i:PE X (.BoolOp .Or (b::ZQ) pos) tb):PE X (.BoolOp .Or (a::b::ZQ) pos) (Hu ta tb):=by
 intro O s Y H Q I h;refine BoolOp_or (thn (j O s Y H _ I h) ?_);rintro v f ⟨x,H1,e,g,d⟩;let⟨c,rfl,d⟩:=d;cases g;refine TB ?_;cases c with
 |false=>exact i O f Y H1 Q e d
 |true=>exact⟨.bl true,H1,e,rfl,d⟩
end
end L2
namespace L2
open PySem PySem.Spec PyProof.Rows
def SqL(K:GJ)(H:Hp)(a:Addr)(xs:List V):Prop:=
 Rd H a (.M xs) \/
  ∃(o:Obj) (ZV:Array Value) (n:Nat),K.lookup a=some o/\o.cls=.type "list" /\ o.dict=none/\o.data=.seq ZV n/\ZV.size<=sizeLine/\ZH xs ZV.toList
def SqT(K:GJ)(H:Hp)(a:Addr)(xs:List V):Prop:=
 Rd H a (.ZX xs) \/
  ∃(o:Obj) (ZV:Array Value) (n:Nat),K.lookup a=some o/\o.cls=.type "tuple" /\ o.data=.seq ZV n/\ZV.size<=sizeLine/\ZH xs ZV.toList
def Hv:Value->Option V
 |.none=>some .ZL
 |.bool b=>some (.bl b)
 |.int i _=>some (.int i)
 |.str x _=>some (.str x)
 |.bytes b _=>some (.XC b)
 |.float b _=>some (.Vp b)
 |.ref a=>some (.ref a)
 |.type n=>some (.ty n)
 |_=>none
def RelV.abs{x:V}{u:Value}(r:RelV x u):Hv u=some x:=by
 cases x with
 |ZL=>cases r;rfl
 |bl _=>cases r;rfl
 |int _=>let⟨t,rfl⟩:=r;rfl
 |str _=>let⟨t,rfl⟩:=r;rfl
 |XC _=>let⟨t,rfl⟩:=r;rfl
 |Vp _=>let⟨t,rfl⟩:=r;rfl
 |ref _=>cases r;rfl
 |ty _=>cases r;rfl
def RelV.inj{x y:V}{u:Value}(r:RelV x u)(q:RelV y u):x=y:=WE (r.abs.symm.trans q.abs)
def ZH.inj:∀{xs ys:List V} {S:List Value},ZH xs S->ZH ys S->xs=ys
 |_,_,_,.nil,.nil=>rfl
 |_,_,_,.cons r t,.cons r' t'=>by rw[r.inj r',ZH.inj t t']
section
variable{Y:St}{xs ys:List V}
def SqL.of(h:H a=some (.M xs)):SqL K H a xs:=.inl (.inl h)
def SqT.of(h:H a=some (.ZX xs)):SqT K H a xs:=.inl (.inl h)
def Z0.list(I:Z0 X O Y H s)(h:SqL X.K H a xs):∃ZV:List Value,ZH xs ZV/\PlainL s.heap a ZV.toArray/\xs.length<=sizeLine:=by
 rcases h with h|⟨o,ZV,n,hk,b,hd,hs,c,r⟩
 .obtain ⟨z,ZV,n,r,e⟩:=h.ok I.ZJ
  exact⟨ZV,r,⟨_,n,e,rfl,rfl,rfl⟩,z⟩
 .refine ⟨ZV.toList,r,⟨o,n,I.YR a o hk,b,hd,by simpa using hs⟩,?_⟩
  have e:=r.length;simp![Xh]at e;lia
def Z0.tuple(I:Z0 X O Y H s)(h:SqT X.K H a xs):∃ZV:List Value,ZH xs ZV/\IsTup s.heap a ZV.toArray/\xs.length<=sizeLine:=by
 rcases h with h|⟨o,ZV,n,hk,b,hs,c,r⟩
 .obtain ⟨z,ZV,r,p⟩:=h.ok I.ZJ
  exact⟨ZV,r,p,z⟩
 .refine ⟨ZV.toList,r,⟨o,I.YR a o hk,b,n,by simpa using hs⟩,?_⟩
  have e:=r.length;simp![Xh]at e;omega
def Z0.Sk(I:Z0 X O Y H s)(h:SqL X.K H a xs)(h':SqL X.K H a ys):xs=ys:=by
 let⟨ZV,r,⟨o,n,e,_,_,d⟩,_⟩:=I.list h;let⟨b,r',⟨o',g,e',_,_,c⟩,_⟩:=I.list h';rw[e]at e';cases e';rw[d]at c;injection c with f _
 have:ZV=b:=by simpa using TZ Array.toList f
 subst this;exact r.inj r'
def Z0.UO(I:Z0 X O Y H s)(h:SqT X.K H a xs)(h':SqT X.K H a ys):xs=ys:=by
 let⟨ZV,r,⟨o,e,_,n,d⟩,_⟩:=I.tuple h;let⟨b,r',⟨o',e',_,g,c⟩,_⟩:=I.tuple h';rw[e]at e';cases e';rw[d]at c;injection c with f _
 have:ZV=b:=by simpa using TZ Array.toList f
 subst this;exact r.inj r'
end
abbrev Cx.W3(X:Cx)(E:Value->Shared->Prop):Cx:={X with xe:=E}
abbrev Cx.nox(X:Cx):Cx:=X.W3 λ_ _=>False
def Cx.Ok.W3{X:Cx}(a:X.Ok)(E:Value->Shared->Prop):(X.W3 E).Ok:=
 ⟨a.mod,a.kind,a.glob,a.blt,a.above,a.inj,a.has,a.UT,a.hd,a.frames,a.stk,a.exf,a.bs,a.WK,a.Yi,a.TU,a.XB,a.VY⟩
def Cx.Ok.Wl{E:Value->Shared->Prop}(a:(X.W3 E).Ok):X.Ok:=
 ⟨a.mod,a.kind,a.glob,a.blt,a.above,a.inj,a.has,a.UT,a.hd,a.frames,a.stk,a.exf,a.bs,a.WK,a.Yi,a.TU,a.XB,a.VY⟩
section
variable{Y:St}{E:Value->Shared->Prop}
def Z0.W3(I:Z0 X O Y H s)(E:Value->Shared->Prop):Z0 (X.W3 E) O Y H s:=⟨I.ok.W3 E,I.os,I.bare,I.base,I.loc,I.cell,I.free,I.W7,I.pin,I.ZJ,I.len⟩
def Z0.Wl(I:Z0 (X.W3 E) O Y H s):Z0 X O Y H s:=⟨I.ok.Wl,I.os,I.bare,I.base,I.loc,I.cell,I.free,I.W7,I.pin,I.ZJ,I.len⟩
def SP.Wl{D:Ends}{f:Flow}{a:Shared}(h:SP (X.W3 E) O D f a):SP X O D f a:=by
 cases f with
 |next=>let⟨ZR,H',I,q⟩:=h;exact⟨ZR,H',I.Wl,q⟩
 |brk=>let⟨ZR,H',I,q⟩:=h;exact⟨ZR,H',I.Wl,q⟩
 |cont=>let⟨ZR,H',I,q⟩:=h;exact⟨ZR,H',I.Wl,q⟩
 |ret u=>let⟨v,ZR,H',I,r,q⟩:=h;exact⟨v,ZR,H',I.Wl,r,q⟩
def PSs.nox{st:List Stmt}{t:TS}(h:PSs X.nox st t):PSs X st t:=λO s Y H D I a=>
 Q1 (h O s Y H D (I.W3 _) a) (λ_ _ q=>q.Wl) λ_ _ z=>False.elim z
end
section
variable{st:Stmt}{ZQ:List Stmt}{t u:TS}
def Gu:TS:=λD Y H=>D.nx Y H
def Hw(t u:TS):TS:=λD Y H=>t {D with nx:=u D} Y H
def zZ:PSs X [] Gu:=λ_ _ Y H _ I h=>Of ⟨Y,H,I,h⟩
def xt(c:PS X st t)(b:PSs X ZQ u):PSs X (st::ZQ) (Hw t u):=by
 intro O s Y H D I h;refine wpAny_execs_cons (thn (c O s Y H {D with nx:=u D} I h) λf a q=>?_)
 cases f with
 |next=>
  let⟨ZR,H',d,q⟩:=q;exact b O a ZR H' D d q
 |ret v=>exact q
 |brk=>exact q
 |cont=>exact q
def Z0.quiet{Y:St}(I:Z0 X O Y H s):interactive X.env=false:=by simp[interactive,I.ok.kind]
def Ge(a:TE):TS:=λD Y H=>a Y H λ_ H1=>D.nx Y H1
def yQ(c:PE X e te)(b:swapsWith e none pos.line X.env=pure false:=by rfl):PS X (.Expr e pos) (Ge te):=by
 intro O s Y H D I h;exact wpAny_Expr_any (thn (c O s Y H _ I h) λv f ⟨x,H1,d,g,a⟩=>⟨Y,H1,d,a⟩) I.quiet b
def Hx(a:TE):TS:=λD Y H=>a Y H D.rt
def acn(c:PE X e te):PS X (.Return (some e) pos) (Hx te):=by
 intro O s Y H D I h;exact wpAny_Return_some (thn (c O s Y H _ I h) λv f ⟨x,H1,d,a,b⟩=>⟨x,Y,H1,d,a,b⟩)
def Hy(c:TT)(t u:TS):TS:=λD Y H=>c Y H λb H1=>if b=true then t D Y H1 else u D Y H1
def adQ{c:Expr}{a b:List Stmt}{e:TT}(j:PT X c e)(l:PSs X a t)(k:PSs X b u):PS X (.If c a b pos) (Hy e t u):=by
 intro O s Y H D I h;refine wpAny_If (thn (j O s Y H _ I h) ?_);rintro d f ⟨H1,i,g⟩;cases d with
 |true=>exact l O f Y H1 D i g
 |false=>exact k O f Y H1 D i g
end
abbrev TG:=V->St->Hp->(St->Hp->Prop)->Prop
abbrev WJ:=List V->St->Hp->(St->Hp->Prop)->Prop
def PG(X:Cx)(a:Expr)(t:TG):Prop:=
 ∀(O:List (Addr×Obj)) (s:Shared) (Y:St) (H:Hp) (v:V) (u:Value) (Q:St->Hp->Prop),Z0 X O Y H s->RelV v u->t v Y H Q ->
  wpAny (model X.prog X.w) X.A (assign a X.env u) (λ_ s'=>∃ZR H',Z0 X O ZR H' s'/\Q ZR H') X.xe s
def PGs(X:Cx)(ts:List Expr)(t:WJ):Prop:=
 ∀(O:List (Addr×Obj)) (s:Shared) (Y:St) (H:Hp) (vs:List V) (S:List Value) (Q:St->Hp->Prop),Z0 X O Y H s->ZH vs S->t vs Y H Q ->
  wpAny (model X.prog X.w) X.A (assignInOrder ((assignEach ts X.env).map (·.2)) S) (λ_ s'=>∃ZR H',Z0 X O ZR H' s'/\Q ZR H') X.xe s
abbrev CF:=V->V->V->Hp->(Hp->Prop)->Prop
def Cd(X:Cx)(t:CF):Prop:=
 ∀(O:List (Addr×Obj)) (s:Shared) (Y:St) (H:Hp) (o i v:V) (a b u:Value) (Q:Hp->Prop),Z0 X O Y H s->RelV o a->RelV i b->RelV v u->t o i v H Q ->
  wpAny (model X.prog X.w) X.A (setItem a b u) (λ_ s'=>∃H',Z0 X O Y H' s'/\Q H') X.xe s
section
def FF(i:Nat):TG:=λv Y H Q=>Q (Y.set i (some v)) H
def lz(c:X.N.Nodup)(hi:X.N[i]?=some x)(a:Loc X.env.scope x)(b:X.fn x=true\/X.env.scope.names.lookup x=some .local:=by first|exact .inl rfl|exact .inr rfl|assumption):PG X (.Name x pos) (FF i):=by
 intro O s Y H v u Q I r h;exact wpAny_assign_Name (dQ I c hi a r (λs' d=>⟨_,H,d,h⟩) b)
def gNil:WJ:=λvs Y H Q=>vs=[]/\Q Y H
def Gf(t:TG)(u:WJ):WJ:=λvs Y H Q=>∃v r,vs=v::r/\t v Y H λZR H'=>u r ZR H' Q
def yC:PGs X [] gNil:=by
 intro O s Y H vs S Q I r h;let⟨e,h⟩:=h;subst e;cases r;exact assignInOrder_nil ⟨Y,H,I,h⟩
def xW{t:TG}{u:WJ}(g:PG X e t)(f:PGs X es u)
  (d:(assignEach (e::es) X.env).map (·.2)=assign e X.env::(assignEach es X.env).map (·.2):=by rfl):PGs X (e::es) (Gf t u):=by
 intro O s Y H vs S Q I r h;let⟨v,l,i,h⟩:=h;subst i;cases r with
 |cons r b=>
  rw[d];refine Pq (thn (g O s Y H _ _ _ I r h) ?_);rintro _ a ⟨j,H1,k,c⟩;exact f O a j H1 _ _ Q k b c
def Hz(K:GJ)(n:Nat)(t:WJ):TG:=λv Y H Q=>∃a xs,v=.ref a/\SqT K H a xs/\xs.length=n/\t xs Y H Q
def aaG{k:Nat}{t:WJ}(m:X.calm=true)(h:PGs X es t)
  (j:(assignEach es X.env).length=n:=by rfl) (q:(assignEach es X.env).findIdx? (·.1)=none:=by rfl):PG X (.Tuple es k pos) (Hz X.K n t):=by
 intro O s Y H v u Q I r c;let⟨a,xs,p,i,l,c⟩:=c;subst p;cases r;let⟨ZV,d,g,x⟩:=I.tuple i;refine assign_Tuple_tuple (I.ok.hd m) g (by simp[j,<-l,d.length]) q λh' f=>?_
 have w:Z0 X O Y H {s with heap:=h'}:=I.kept (t':=s.toks) λb o e=>f b o (GF (Gy e)) e
 exact h O _ Y H xs _ Q w (by simpa using d) c
def HA(a b:TE)(t:CF):TG:=λv Y H Q=>a Y H λo H1=>b Y H1 λi H2=>t o i v H2 λH3=>Q Y H3
def abv{o i:Expr}{to ti:TE}{t:CF}(ho:PE X o to)(hi:PE X i ti)(hs:Cd X t)
  (ha:∀ v,assign (.Subscript o i pos) X.env v=(do
   let ov<-holding [v] (eval o X.env)
   let iv<-holding [v,ov] (eval i X.env)
   standAt pos
   holding [v,ov,iv] (setItem ov iv v)
   release [v,ov,iv] []):=by intro _;rfl):PG X (.Subscript o i pos) (HA to ti t):=by
 intro O s Y H v u Q I r h;rw[ha];refine ZB (VO (thn (ho O s Y H _ I h) ?_));rintro ov s1 ⟨x,H1,I1,r1,q1⟩;refine ZB (VO (thn (hi O s1 Y H1 _ I1 q1) ?_));rintro iv s2 ⟨y,H2,I2,r2,q2⟩;refine ZB (S8 (ZB (VO (thn (hs O s2 Y H2 x y v ov iv u _ I2 r1 r2 r q2) ?_))));rintro _ s3 ⟨H3,I3,q3⟩;exact wpAny_release ⟨Y,H3,I3,q3⟩
def HB(a:TE)(g:TG):TS:=λD Y H=>a Y H λx H1=>g x Y H1 D.nx
def qa{g:TG}(j:PE X e te)(i:PG X tg g)(f:swapsWithSole [tg] e pos.line X.env=pure false:=by rfl)(d:swappedStores [tg] e X.env=pure none:=by rfl)
  (h1:(assignEach [tg] X.env).map (·.2)=[assign tg X.env]:=by rfl):PS X (.Assign [tg] e pos) (HB te g):=by
 intro O s Y H D I h;refine wpAny_Assign_stores (thn (j O s Y H _ I h) λv a ⟨x,H1,k,b,c⟩=>?_) f d;rw[h1];exact thn (i O a Y H1 x v _ k b c) λ_ l q=>q
def acu{a:Pos}(k:X.N.Nodup)(hi:X.N[i]?=some x)(d:Loc X.env.scope x)(j:PE X e te)(f:swapsWith e (some (.Name x a)) pos.line X.env=pure false:=by rfl)(g:X.fn x=true\/X.env.scope.names.lookup x=some .local:=by first|exact .inl rfl|exact .inr rfl|assumption):
  PS X (.Assign [.Name x a] e pos) (HB te (FF i)):=by
 intro O s Y H D I h;refine wpAny_Assign_Name (thn (j O s Y H _ I h) λv o ⟨y,H1,m,b,c⟩=>?_) f;exact dQ m k hi d b (λn l=>⟨_,H1,l,c⟩) g
def HC(i j:Nat)(a:TA):TS:=λD Y H=>a Y H λvs H1=>∃v w,vs=[v,w]/\D.nx ((Y.set i (some v)).set j (some w)) H1
def acE{y:Str}{a b:Expr}{ta:TA}{px py pt:Pos}{kt k2 W2}(hc:X.calm=true)(hN:X.N.Nodup)(hi:X.N[i]?=some x)(hj:X.N[j]?=some y)(Y6:i≠j)
  (hx:X.env.scope.names.lookup x=some .local) (hy:X.env.scope.names.lookup y=some .local) (ha:PA X [a,b] ta)
  (hw:swappedStores [.Tuple [.Name x px,.Name y py] kt pt] (.Tuple [a,b] k2 W2) X.env=pure (some [x,y]))
  (hs:swapsWithSole [.Tuple [.Name x px,.Name y py] kt pt] (.Tuple [a,b] k2 W2) pos.line X.env=pure false:=by rfl) :
  PS X (.Assign [.Tuple [.Name x px,.Name y py] kt pt] (.Tuple [a,b] k2 W2) pos) (HC i j ta):=by
 intro O s Y H D I h;rw[exec_Assign_arm];refine ZB (S8 ?_);rw[hs];refine ZB (ZP ?_);rw[Yj #[1]]
 refine ZB (Tuple_ (thn (ha _ O s Y H _ I h) ?_));rintro S s1 ⟨vs,H1,I1,r1,q1⟩;let⟨v,w,e1,q1⟩:=q1;subst e1;obtain⟨u1,u2,rfl,rv,YV⟩:∃u1 u2,S=[u1,u2]/\RelV v u1/\RelV w u2:=by
  cases r1 with
  |cons p q=>
   cases q with
   |cons p' q'=>
    cases q';exact⟨_,_,rfl,p,p'⟩
 refine VS ?_ (by show 2<=sizeLine;decide)
 have I2:Z0 X O Y H1 {s1 with heap:=s1.heap.push {cls:=.type "tuple",data:=.seq [u1,u2].toArray}}:=I1.kept (t':=s1.toks) λb o e=>Gx _ e
 rw[hw];refine ZB (ZP ?_);show wpAny (model X.prog X.w) X.A (do rule "assign.swapped-stores";let items<-unpackItems (.ref s1.heap.objs.size) 2 none;assignInOrder [λv=>bindName X.env y v,λv=>bindName X.env x v] items.reverse;pure Flow.next) _ _ _
 refine ZB (RM (ZB (unpackItems_tuple (items:=#[u1,u2]) (I.ok.hd hc) (IsTup.new s1.heap _) λh' Wk=>?_)));have I3:=I2.kept (h':=h') (t':=s1.toks) λb o e=>Wk b o (GF (Gy e)) e;show wpAny _ _ (assignInOrder [λv=>bindName X.env y v,λv=>bindName X.env x v] [u2,u1] >>= λ_=>pure Flow.next) _ _ _;refine ZB (Pq (wpAny_bindName (dQ I3 hN hj (.inl hy) YV (λs2 I4=>?_) (.inr hy))));refine Pq (wpAny_bindName (dQ I4 hN hi (.inl hx) rv (λs3 I5=>assignInOrder_nil (ZP ?_)) (.inr hx)));rw[List.set_comm _ _ (Ne.symm Y6)]at I5;exact⟨_,H1,I5,q1⟩
end
set_option genInjectivity false in
structure It where
 go:Nat->Hp->Prop
 yld:Nat->Hp->V->Hp->Prop
 stop:Nat->Hp->Prop
def AY(X:Cx)(O:List (Addr×Obj))(H:Hp)(b:Addr):Prop:=
 H b=none/\b≠X.env.locals/\b ∉ X.fs/\(b∈X.ex\/X.Ze.heap.objs.size<=b)/\(∀x c,X.env.cells.lookup x=some c->c≠b) /\∀p∈X.pn++O,p.1≠b
def Z0.TR{Y:St}(I:Z0 X O Y H s)(a:s.heap.objs.size<=b)(f:H' b=none):AY X O H' b:=by
 refine⟨f,QH (GD I.lt a),I.nofs a,.inr (Gz I.sz a),λx c e z=>?_,λp d z=>?_⟩
 .obtain ⟨v,q⟩:=I.cell x c e
  exact absurd (GD q.lt (by rw[z];exact a)) (Rx _)
 .exact absurd (GD (Gy (I.pin p d).1) (by rw[z];exact a)) (Rx _)
structure Turn(P:Program)(w:World)(K:GJ)(tg:Expr)(Z8:It)(fp:List Addr)(it:Addr)(tn:Nat->Heap->Prop):Prop where
 mem:it∈fp
 obj:∀i h,tn i h ->∀b∈fp,∃o,h.get? b=some o /\∀v,o.data ≠ .cell v
 keep:∀i h h',tn i h->(∀b∈fp,∀o,h.get? b=some o->h'.get? b=some o)->tn i h'
 item:∀(X:Cx),X.prog=P->X.w=w->X.K=K->X.calm=true ->∀(i:Nat) (O:List (Addr×Obj)) (s:Shared) (Y:St) (H:Hp) (E:Value->Shared->Prop),Z0 X O Y H s->(∀b∈fp,AY X O H b)->tn i s.heap->Z8.go i H ->
  wpAny (model P w) X.A (pyNext (.ref it)) (λr s1 => ∃ u,r=some u /\
   wpAny (model P w) X.A (letOwnedTupleGo tg (.ref it) u) (λ_ s2=>∃x H',Z0 X O Y H' s2/\RelV x u/\Z8.yld i H x H'/\tn (i+1) s2.heap /\∀b∈fp,H' b=none) E s1) E s
 done:∀(X:Cx),X.prog=P->X.w=w->X.K=K->X.calm=true ->∀(i:Nat) (O:List (Addr×Obj)) (s:Shared) (Y:St) (H:Hp) (E:Value->Shared->Prop),Z0 X O Y H s->(∀b∈fp,AY X O H b)->tn i s.heap->Z8.stop i H ->
  wpAny (model P w) X.A (pyNext (.ref it)) (λr s1=>r=none/\Z0 X O Y H s1) E s
 self:∀(A:Around) (i:Nat) (s:Shared) (Q:Value->Shared->Prop) (E:Value->Shared->Prop),tn i s.heap->Q (.ref it) s->wpAny (model P w) A (pyIter (.ref it)) Q E s
abbrev TI:=St->Hp->(It->Hp->Prop)->Prop
def PIE(X:Cx)(O:List (Addr×Obj))(Y:St)(d:Expr)(R:It->Hp->Prop)(e:Value)(a:Shared):Prop:=
 ∃(it:Addr) (fp:List Addr) (tn:Nat->Heap->Prop) (c:It) (H':Hp),e=.ref it/\Z0 X O Y H' a/\Turn X.prog X.w X.K d c fp it tn/\tn 0 a.heap/\(∀b∈fp,AY X O H' b)/\R c H'
def PI(X:Cx)(c a:Expr)(b:TI):Prop:=
 ∀(O:List (Addr×Obj)) (s:Shared) (Y:St) (H:Hp) (R:It->Hp->Prop),Z0 X O Y H s->b Y H R ->
  wpAny (model X.prog X.w) X.A (eval a X.env) (λv d=>wpAny (model X.prog X.w) X.A (pyIter v) (PIE X O Y c R) X.xe d) X.xe s
def eZ{Z5:Model}{E:Value->Shared->Prop}{it:Addr}{u:Value}{o:Obj}{n:String}{vs:Array Value}{Q:Unit->Shared->Prop}(b:s.heap.get? it=some o)(e:o.cls=.type n)(d:o.data=.fields vs)
    (c:["enumerate","zip","dict_itemiterator","dict_reverseitemiterator","odict_iterator","itertools.zip_longest","itertools.pairwise"].contains n=false) (a:Q Unit.unit s):wpAny Z5 A (letOwnedTupleGo tg (.ref it) u) Q E s:=by
  unfold letOwnedTupleGo;cases tg<;>first
    |exact ZP a
    | (cases u <;> first
        |exact ZP a
        | (refine ZB (wpAny_load b ?_)
           rw[e,d];show wpAny Z5 A (if(["enumerate","zip","dict_itemiterator","dict_reverseitemiterator","odict_iterator","itertools.zip_longest","itertools.pairwise"].contains n&&vs[0]? == some (rawInt _))=true then _ else _) Q E s
           rw[Yj (by intro h;rw[c,QJ]at h;cases h)]
           exact ZP a))
def Itl(K:GJ)(a:Addr):It:=
 ⟨λi H=>∃xs x,SqL K H a xs/\xs[i]?=some x,λi H x H'=>H'=H /\∀xs,SqL K H a xs->xs[i]?=some x,λi H=>∃xs,SqL K H a xs/\xs.length<=i⟩
def Itt(K:GJ)(a:Addr):It:=
 ⟨λi H=>∃xs x,SqT K H a xs/\xs[i]?=some x,λi H x H'=>H'=H /\∀xs,SqT K H a xs->xs[i]?=some x,λi H=>∃xs,SqT K H a xs/\xs.length<=i⟩
def Itr(lo:Int)(n:Nat):It:=⟨λi _=>i<n,λi H x H'=>H'=H/\x=.int (lo+i),λi _=>n<=i⟩
def v7(a it:Addr):Turn P w K tg (Itl K a) [it] it (λi h=>h.IsListIter it a i) where
 mem:=by simp
 obj:=λi h st b hb=>by
  have e:b=it:=by simpa using hb
  subst e;let⟨o,e,c,d⟩:=st;exact⟨o,e,λv z=>by rw[d]at z;cases z⟩
 keep:=λi h h' st k=>st.at λo e=>k it #[3] o e
 item:=by
  intro X hP hw hK hc i O s Y H E I hf st hg;subst hP hw hK;let⟨xs,x,hq,hx⟩:=hg;let⟨ZV,rv,p,hz⟩:=I.list hq;let⟨u,hu,ru⟩:=rv.get hx;let⟨f0,f1,f2,f3,f4,f5⟩:=hf it #[3]
  refine wpAny_pyNext_list_item st p.isList (x:=u) (by simpa using hu) λh' ZW sb=>?_
  have I1:Z0 X O Y H {s with heap:=h'}:=I.turned (t':=s.toks) (λb o hb e=>(sb.2 b hb).trans e) f0 f1 f3 f4 f5
  let⟨o,e,c,d⟩:=id ZW;exact⟨u,rfl,eZ (s:={s with heap:=h'}) e c d #[1] ⟨x,H,I1,ru,⟨rfl,λys hy=>by rw[I.Sk hy hq];exact hx⟩,ZW,λb hb=>(hf b hb).1⟩⟩
 done:=by
  intro X hP hw hK hc i O s Y H E I hf st hg;subst hP hw hK;let⟨xs,hq,hx⟩:=hg;let⟨ZV,rv,p,hz⟩:=I.list hq;let⟨f0,f1,f2,f3,f4,f5⟩:=hf it #[3]
  have hl:=rv.length;exact wpAny_pyNext_list_end (I.ok.hd hc) st p.isList (by simp;lia) λh' eb=>⟨rfl,I.turned (t':=s.toks) (λb o hb e=>eb b o hb e) f0 f1 f3 f4 f5⟩
 self:=λ_ _ _ _ _ st h=>wpAny_pyIter_listiter st h
def vk(a it:Addr):Turn P w K tg (Itt K a) [it] it (λi h=>h.IsTupleIter it a i) where
 mem:=by simp
 obj:=λi h st b hb=>by
  have e:b=it:=by simpa using hb
  subst e;let⟨o,e,c,d⟩:=st;exact⟨o,e,λv z=>by rw[d]at z;cases z⟩
 keep:=λi h h' st k=>st.at λo e=>k it #[3] o e
 item:=by
  intro X hP hw hK hc i O s Y H E I hf st hg;subst hP hw hK;let⟨xs,x,hq,hx⟩:=hg;let⟨ZV,rv,p,hz⟩:=I.tuple hq;let⟨u,hu,ru⟩:=rv.get hx;let⟨f0,f1,f2,f3,f4,f5⟩:=hf it #[3]
  refine wpAny_pyNext_tuple_item st (show s.heap.IsTuple a ZV.toArray from p) (x:=u) (by simpa using hu) λh' ZW sb=>?_
  have I1:Z0 X O Y H {s with heap:=h'}:=I.turned (t':=s.toks) (λb o hb e=>(sb.2 b hb).trans e) f0 f1 f3 f4 f5
  let⟨o,e,c,d⟩:=id ZW;exact⟨u,rfl,eZ (s:={s with heap:=h'}) e c d #[1] ⟨x,H,I1,ru,⟨rfl,λys hy=>by rw[I.UO hy hq];exact hx⟩,ZW,λb hb=>(hf b hb).1⟩⟩
 done:=by
  intro X hP hw hK hc i O s Y H E I hf st hg;subst hP hw hK;let⟨xs,hq,hx⟩:=hg;let⟨ZV,rv,p,hz⟩:=I.tuple hq;let⟨f0,f1,f2,f3,f4,f5⟩:=hf it #[3]
  have hl:=rv.length;exact wpAny_pyNext_tuple_end (I.ok.hd hc) st (show s.heap.IsTuple a ZV.toArray from p) (by simp;omega) λh' eb=>⟨rfl,I.turned (t':=s.toks) (λb o hb e=>eb b o hb e) f0 f1 f3 f4 f5⟩
 self:=λ_ _ _ _ _ st h=>wpAny_pyIter_tupleiter st h
def vK(it:Addr)(lo:Int)(n:Nat):Turn P w K tg (Itr lo n) [it] it (λi h=>IsRangeIter h it (lo+(i:Nat)*1) ((n:Int)-(i:Nat)) 1) where
 mem:=by simp
 obj:=λi h st b hb=>by
  have e:b=it:=by simpa using hb
  subst e
  exact ⟨_,st,λv z=>by
   have z':Data.fields _=Data.cell v:=z;cases z'⟩
 keep:=λi h h' st k=>k it #[3] _ st
 item:=by
  intro X hP hw hK hc i O s Y H E I hf st hg;subst hP hw hK;let⟨f0,f1,f2,f3,f4,f5⟩:=hf it #[3]
  have W:=Walks.range (prog:=X.prog) (w:=X.w) (I.ok.hd hc) it lo 1 n;refine W.item i s _ _ hg st λv h' tk hv ZW kk=>?_;let⟨t,rfl⟩:=hv;have I1:Z0 X O Y H {s with heap:=h',toks:=tk}:=I.turned (λb o hb e=>kk b o (by simpa using hb) e) f0 f1 f3 f4 f5
  refine⟨_,rfl,eZ (s:={s with heap:=h',toks:=tk}) (n:="range_iterator") ZW rfl rfl #[1] ⟨.int (lo+i),H,I1,⟨t,?_⟩,⟨rfl,rfl⟩,ZW,λb hb=>(hf b hb).1⟩⟩
  rw[Int.mul_one]
 done:=by
  intro X hP hw hK hc i O s Y H E I hf st hg;subst hP hw hK;let⟨f0,f1,f2,f3,f4,f5⟩:=hf it #[3]
  exact wpAny_pyNext_range_end (I.ok.hd hc) st (by have:n<=i:=hg;lia) λh' eb=>⟨rfl,I.turned (t':=s.toks) (λb o hb e=>eb b o hb e) f0 f1 f3 f4 f5⟩
 self:=λ_ _ _ _ _ st h=>wpAny_pyIter_rangeiter st h
end L2
namespace L2
open PySem PySem.Spec PyProof.Rows
section
def xx{Y:St}{R:It->Hp->Prop}{E:Value->Shared->Prop}{lo hi:Int}{t u v:Tok}{tk:Nat}(I:Z0 X O Y H s)(h1 : -(2 ^ 62)<=lo)(f:lo<2 ^ 62)(h3 : -(2 ^ 62)<=hi)(d:hi<2 ^ 62)
  (q:R (Itr lo (hi-lo).toNat) H):wpAny (model X.prog X.w) X.A (pyIter (.ref s.heap.objs.size)) (PIE X O Y tg R) E {s with heap:=s.heap.push {cls:=.type "range",data:=.fields #[.int lo t,.int hi u,.int 1 v]},toks:=tk}:=by
 refine wpAny_pyIter_range (IsRange.new ..) (small_one h1 f h3 d) ?_;have a:Z0 X O Y H {s with heap:=s.heap.push {cls:=.type "range",data:=.fields #[.int lo t,.int hi u,.int 1 v]},toks:=tk}:=I.kept λb o e=>Gx _ e
 refine⟨(s.heap.push {cls:=.type "range",data:=.fields #[.int lo t,.int hi u,.int 1 v]}).objs.size,[(s.heap.push {cls:=.type "range",data:=.fields #[.int lo t,.int hi u,.int 1 v]}).objs.size],_,_,H,rfl,
  a.kept (t':=tk) λb o e=>Gx _ e,vK _ lo (hi-lo).toNat,?_,λb c=>?_,q⟩
 .have j:lo+((0:Nat):Int)*1=lo:=by simp
  have g:(((hi-lo).toNat:Nat):Int)-((0:Nat):Int)=Builtin.Range.rangeSize lo hi 1:=by rw[rangeSize_one];split<;>lia
  show IsRangeIter _ _ (lo+((0:Nat):Int)*1) ((((hi-lo).toNat:Nat):Int)-((0:Nat):Int)) 1;rw[j,g];exact GG _ rfl
 .have e:b=(s.heap.push {cls:=.type "range",data:=.fields #[.int lo t,.int hi u,.int 1 v]}).objs.size:=by simpa using c
  subst e;exact a.TR (GB _) (a.ZJ.fresh (GB _))
def Gm(a:TA):TI:=λY H R=>a Y H λvs H1=>∃j:Int,vs=[.int j] /\ -(2 ^ 62)<=j/\j<2 ^ 62/\R (Itr 0 j.toNat) H1
def wu{a:Expr}{c:TA}{p:Pos}(l:Gl X "range")(k:X.mg "range" = none)(m:PA X [a] c)(i:starEach [a] X.env=[(false,eval a X.env)]:=by rfl):PI X tg (.Call (.Name "range" p) [a] [] pos) (Gm c):=by
 intro O s Y H R I h;refine Call_ (eM I l k boot_range (Pn (thn (m pos O s Y H _ I h) λS o ⟨vs,H1,n,f,b⟩=>?_) i rfl));let⟨j,e,b,g,q⟩:=b;subst e;cases f with
 |cons r d=>
  cases d;let⟨t,rfl⟩:=r;exact call_range_1 (xx n (by lia) (by lia) b g (by simpa using q))
def HD(c:TI)(g:TG)(d:TS):TS:=λD Y H=>c Y H λa H1=>∃W:Nat->Nat->St->Hp->Prop,(∃m,W 0 m Y H1) /\∀i m Y H,W i m Y H ->
 (a.stop i H/\D.nx Y H)\/(a.go i H /\∃N:St->Hp->Prop,(∀ZR H',N ZR H' ->∃b,b<m/\W (i+1) b ZR H') /\∀x H',a.yld i H x H'->g x Y H' λe H2=>d {D with nx:=N,ct:=N,bk:=D.nx} e H2)
def Cr(a:List Addr)(h:Heap):List (Addr×Obj):=a.filterMap λb=>(h.get? b).map λo=>(b,o)
def dj{o:Obj}(a:b∈fp)(e:h.get? b=some o):(b,o)∈Cr fp h:=Rl.mpr ⟨b,a,by rw[e];rfl⟩
def wx{p:Addr×Obj}(a:p∈Cr fp h):p.1∈fp/\h.get? p.1=some p.2:=by
 let⟨b,c,e⟩:=Rl.mp a;cases q:h.get? b with
 |none=>rw[q]at e;cases e
 |some o=>
  rw[q]at e;have e':(b,o)=p:=WE e;subst e';exact⟨c,q⟩
def Z0.pinned{Y:St}{a:List Addr}(I:Z0 X O Y H s)(h:∀b∈a,AY X O H b)(g:∀b∈a,∃o,s.heap.get? b=some o /\∀v,o.data ≠ .cell v):Z0 X (O++Cr a s.heap) Y H s:=
 I.SO λp f=>(Wd.mp f).elim (λz=>I.pin p (Vy _ z)) λz=>by
  let⟨c,e⟩:=wx z;let⟨k,j,i,_⟩:=h p.1 c;let⟨o,e',d⟩:=g p.1 c;rw[e]at e';cases e';exact⟨e,k,j,i,d⟩
def Z0.TQ{pl:List (Addr×Obj)}{Y:St}(I:Z0 X (O++pl) Y H s):Z0 X O Y H s:=I.SO λp a=>I.pin p (Vy _ (Rt _ a))
def acv{c:Expr}{y:List Stmt}{P:TI}{g:TG}{Q:TS}(C:PassesOwn (model X.prog X.w) X.A X.env X.xe)(S:X.calm=true)(hi:PI X tg c P)(hg:PG X tg g)(j:PSs X y Q)
  (hs:∀x,foldedSetIterable c X.env x=pure x:=by intro _;rfl):PS X (.For tg c y [] pos) (HD P g Q):=by
 intro O s Y H D I h;refine wpAny_For (thn (hi O s Y H _ I h) λv s1 h1=>thn h1 λVl s2 h2=>?_) hs;let⟨it,fp,tn,Z8,H2,e,I2,T,Zw,U,W,⟨m0,w0⟩,z⟩:=h2;subst e;have a:∀{H':Hp},(∀b∈fp,H' b=none) ->∀b∈fp,AY X O H' b:=λhn b j=>⟨hn b j,(U b j).2⟩;refine codeAny_forLoop_any (λn s'=>∃i ZR H',Z0 X O ZR H' s'/\tn i s'.heap/\(∀b∈fp,H' b=none)/\W i n ZR H') ?_ m0 ⟨0,Y,H2,I2,Zw,λb j=>(U b j).1,w0⟩;rintro n s3 ⟨i,F,H3,Z,V,E,w3⟩;rcases z i n F H3 w3 with⟨stop,qn⟩|⟨go,N,hN,step⟩
 .refine Rq C (thn (T.done X rfl rfl rfl S i O s3 F H3 X.xe Z (a E) V stop) λr s4 ⟨J,I4⟩=>?_)
  subst J;exact Of ⟨F,H3,I4,qn⟩
 .refine Rq C (thn (T.item X rfl rfl rfl S i O s3 F H3 X.xe Z (a E) V go) λr s4 ⟨u,J,h4⟩=>?_)
  subst J;refine Rq C (thn h4 ?_);rintro _ R ⟨x,H5,I5,r5,y5,L,K⟩;have M:=I5.pinned (a K) (T.obj _ _ L);refine Rq C (thn (hg _ R F H5 x u _ M r5 (step x H5 y5)) ?_);rintro _ s6 ⟨UN,H6,I6,q6⟩;refine Rq C (thn (j _ s6 UN H6 _ I6 q6) λf G t=>?_);have k:∀{l:St} {q:Hp},Z0 X (O++Cr fp R.heap) l q G->N l q ->∃m,m<n /\∃i ZR H',Z0 X O ZR H' G/\tn i G.heap/\(∀b∈fp,H' b=none)/\W i m ZR H':=λ{l q} p B=>by
   let⟨m',hm,w7⟩:=hN l q B;refine⟨m',hm,i+1,l,q,p.TQ,T.keep _ _ _ L λb j o e=>(p.pin (b,o) (Vy _ (Vy _ (dj j e)))).1,λb j=>?_,w7⟩;let⟨o,e,d⟩:=T.obj _ _ L b j;exact(p.pin (b,o) (Vy _ (Vy _ (dj j e)))).2.1
  cases f with
  |next=>let⟨l,q,p,B⟩:=t;exact k p B
  |cont=>let⟨l,q,p,B⟩:=t;exact k p B
  |brk=>let⟨l,q,p,t⟩:=t;exact⟨l,q,p.TQ,t⟩
  |ret v=>let⟨x7,l,q,p,r7,t⟩:=t;exact⟨x7,l,q,p.TQ,r7,t⟩
end
end L2
namespace L2
open PySem PySem.Spec PyProof.Rows
abbrev R2:=V->V->Hp->VK->Prop
def OpR(X:Cx)(f:Value->Value->Sem Value)(r:R2):Prop:=
 ∀(O:List (Addr×Obj)) (s:Shared) (Y:St) (H:Hp) (x y:V) (v u:Value) (Q:VK),Z0 X O Y H s->RelV x v->RelV y u->r x y H Q ->
  wpAny (model X.prog X.w) X.A (f v u) (EP X O Y Q) X.xe s
def UnR(X:Cx)(f:Value->Sem Value)(r:V->Hp->VK->Prop):Prop:=
 ∀(O:List (Addr×Obj)) (s:Shared) (Y:St) (H:Hp) (x:V) (v:Value) (Q:VK),Z0 X O Y H s->RelV x v->r x H Q ->
  wpAny (model X.prog X.w) X.A (f v) (EP X O Y Q) X.xe s
def CallR(X:Cx)(f:Value)(r:List V->Hp->VK->Prop):Prop:=
 ∀(O:List (Addr×Obj)) (s:Shared) (Y:St) (H:Hp) (xs:List V) (S:List Value) (Q:VK),Z0 X O Y H s->ZH xs S->r xs H Q ->
  wpAny (model X.prog X.w) X.A (call f S) (EP X O Y Q) X.xe s
def TruR(X:Cx)(r:V->Hp->(Bool->Hp->Prop)->Prop):Prop:=
 ∀(O:List (Addr×Obj)) (s:Shared) (Y:St) (H:Hp) (x:V) (v:Value) (Q:Bool->Hp->Prop),Z0 X O Y H s->RelV x v->r x H Q ->
  wpAny (model X.prog X.w) X.A (truthy v) (TP X O Y Q) X.xe s
def HE(r:R2)(b a:TE):TE:=λY H Q=>b Y H λx H1=>a Y H1 λy H2=>r x y H2 Q
def HF(r:V->Hp->VK->Prop)(a:TE):TE:=λY H Q=>a Y H λx H1=>r x H1 Q
def HG(C:Int->Int->Prop)(g:Int->Int->V):R2:=λx y H Q=>∃i j,x=.int i/\y=.int j/\C i j/\Q (g i j) H
def HH(g:Int->Int->V):R2:=λx y H Q=>∃i j,x=.int i/\y=.int j/\Q (g i j) H
def HI(g:Int->V):V->Hp->VK->Prop:=λx H Q=>∃i,x=.int i/\Q (g i) H
section
variable{a b c:Expr}{tb tc:TE}
def iB(m:PE X a ta)(l:PE X b tb){Y:St}{R:V->V->Hp->Prop}(I:Z0 X O Y H s)
  (h:ta Y H λx H1=>tb Y H1 λy H2=>R x y H2) {Q:Value->Shared->Prop} {f:Value->Value->Sem Value}
  (k:∀v u c x y H2,Z0 X O Y H2 c->RelV x v->RelV y u->R x y H2->wpAny (model X.prog X.w) X.A (f v u) Q X.xe c) :
  wpAny (model X.prog X.w) X.A (eval a X.env) (λv n=>wpAny (model X.prog X.w) X.A (eval b X.env) (λu o=>wpAny (model X.prog X.w) X.A (f v u) Q X.xe o) X.xe n) X.xe s:=by
 refine thn (m O s Y H _ I h) ?_;rintro v d ⟨x,H1,q,g,j⟩;refine thn (l O d Y H1 _ q j) ?_;rintro u c ⟨y,H2,p,e,i⟩;exact k v u c x y H2 p g e i
def adC{op:Operator}{r:R2}(f:OpR X (binaryOp op) r)(i:PE X a ta)(g:PE X b tb):PE X (.BinOp a op b pos) (HE r ta tb):=by
 intro O s Y H Q I h;exact wpAny_BinOp (iB i g I h λv u c x y H2 j e d q=>f O c Y H2 x y v u Q j e d q)
def tj{op:UnaryOp}{r:V->Hp->VK->Prop}(e:UnR X (unaryOp op) r)(f:PE X a ta):PE X (.UnaryOp op a pos) (HF r ta):=by
 intro O s Y H Q I h;exact UnaryOp_ (thn (f O s Y H _ I h) λv b ⟨x,H1,g,c,d⟩=>e O b Y H1 x v Q g c d)
def opI{C:Int->Int->Prop}{g:Int->Int->Int}
  (a:∀(i j:Int) (t u:Tok) (s:Shared) (Q:Value->Shared->Prop) (E:Value->Shared->Prop),C i j->Q (.int (g i j) s.toks) {s with toks:=s.toks+1}->wpAny (model X.prog X.w) X.A (f (.int i t) (.int j u)) Q E s) :
  OpR X f (HG C λi j=>.int (g i j)):=by
 intro O s Y H x y v u Q I c b h;let⟨i,j,rfl,rfl,d,q⟩:=h;let⟨t,rfl⟩:=c;let⟨t',rfl⟩:=b;exact a i j t t' s _ _ d ⟨.int (g i j),H,I.tok _,⟨_,rfl⟩,q⟩
def opI0{g:Int->Int->Int}
  (a:∀(i j:Int) (t u:Tok) (s:Shared) (Q:Value->Shared->Prop) (E:Value->Shared->Prop),Q (.int (g i j) s.toks) {s with toks:=s.toks+1}->wpAny (model X.prog X.w) X.A (f (.int i t) (.int j u)) Q E s) :
  OpR X f (HH λi j=>.int (g i j)):=by
 intro O s Y H x y v u Q I c b h;let⟨i,j,rfl,rfl,q⟩:=h;let⟨t,rfl⟩:=c;let⟨t',rfl⟩:=b;exact a i j t t' s _ _ ⟨.int (g i j),H,I.tok _,⟨_,rfl⟩,q⟩
def fe{g:Int->Int->Bool}
  (a:∀(i j:Int) (t u:Tok) (s:Shared) (Q:Value->Shared->Prop) (E:Value->Shared->Prop),Q (.bool (g i j)) s->wpAny (model X.prog X.w) X.A (f (.int i t) (.int j u)) Q E s) :
  OpR X f (HH λi j=>.bl (g i j)):=by
 intro O s Y H x y v u Q I c b h;let⟨i,j,rfl,rfl,q⟩:=h;let⟨t,rfl⟩:=c;let⟨t',rfl⟩:=b;exact a i j t t' s _ _ ⟨.bl (g i j),H,I,rfl,q⟩
def FZ(i j:Int):Prop:=0<=j/\j<=1000000/\i.natAbs<2 ^ 64
def CMul(i j:Int):Prop:=(-(2 ^ 64)<i/\i<2 ^ 64)\/(-(2 ^ 64)<j/\j<2 ^ 64)
def CMul.ok{i j:Int}(h:CMul i j):IntMulOk i j:=by
 rcases h with⟨h1,h2⟩|⟨h1,h2⟩
 .exact .of_left (intBits_le_64 h1 h2)
 .exact .of_right (intBits_le_64 h1 h2)
def eS:OpR X (binaryOp .Add) (HH λi j=>.int (i+j)):=opI0 λ_ _ _ _ _ _ _ q=>add_int q
def eU:OpR X (binaryOp .Sub) (HH λi j=>.int (i-j)):=opI0 λ_ _ _ _ _ _ _ q=>sub_int q
def yN:OpR X (binaryOp .Mod) (HG (λ_ j=>j≠0) λi j=>.int (i.fmod j)):=opI λ_ _ _ _ _ _ _ a q=>mod_int' a q
def aaz:OpR X (binaryOp .Pow) (HG FZ λi j=>.int (i ^ j.toNat)):=opI λ_ _ _ _ _ _ _ a q=>pow_int_small a.1 a.2.1 a.2.2 q
def unI{f:Value->Sem Value}{g:Int->Int}
  (a:∀(i:Int) (t:Tok) (s:Shared) (Q:Value->Shared->Prop) (E:Value->Shared->Prop),Q (.int (g i) s.toks) {s with toks:=s.toks+1}->wpAny (model X.prog X.w) X.A (f (.int i t)) Q E s) :
  UnR X f (HI λi=>.int (g i)):=by
 intro O s Y H x v Q I b h;let⟨i,rfl,q⟩:=h;let⟨t,rfl⟩:=b;exact a i t s _ _ ⟨.int (g i),H,I.tok _,⟨_,rfl⟩,q⟩
def qR:UnR X (unaryOp .USub) (HI λi=>.int (-i)):=unI λ_ _ _ _ _ q=>neg_int q
end
def HJ:V->V->Bool
 |.ZL,.ZL=>true|.ZL,.int _=>true|.int _,.ZL=>true|.ZL,.bl _=>true|.bl _,.ZL=>true|.ZL,.str _=>true|.str _,.ZL=>true
 |.int _,.int _=>true|.bl _,.bl _=>true|.str _,.str _=>true|.XC _,.XC _=>true
 |.int _,.str _=>true|.str _,.int _=>true|.bl _,.str _=>true|.str _,.bl _=>true
 |_,_=>false
def rNe:R2:=λx y H Q=>HJ x y=true/\Q (.bl (!decide (x=y))) H
def lh{i j:Int}:decide (V.int i=V.int j)=(i==j):=by
 rw[Qc];simp
def qo{i j:Bool}:decide (V.bl i=V.bl j)=(i==j):=by
 rw[Qc];simp
def lX{i j:Str}:decide (V.str i=V.str j)=(i==j):=by
 rw[Qc];simp
def yI{i j:Array UInt8}:decide (V.XC i=V.XC j)=(i.toList==j.toList):=by
 rw[Qc];cases i;cases j;simp
section
variable{a b c:Expr}{tb tc:TE}
def au{Y:St}{Q:VK}{k a:Bool}(I:Z0 X O Y H s)(q:Q (.bl k) H)(e:k=a):EP X O Y Q (.bool a) s:=by
 subst e;exact⟨.bl k,H,I,rfl,q⟩
def aej:OpR X (compareOp .NotEq) rNe:=by
 intro O s Y H x y v u Q I c a h;let⟨hs,q⟩:=h;cases x with
 |ZL=>
  cases c;cases y with
  |ZL=>cases a;exact PySem.EqNone.ne_none_none (au I q #[3])
  |bl j=>cases a;exact PySem.EqNone.ne_none_bool (au I q #[3])
  |int j=>let⟨t',rfl⟩:=a;exact PySem.EqNone.ne_none_int (au I q #[3])
  |str j=>let⟨t',rfl⟩:=a;exact PySem.EqNone.ne_none_str (au I q #[3])
  |_=>exact absurd (show false=true from hs) GA
 |bl i=>
  cases c;cases y with
  |ZL=>cases a;exact PySem.EqNone.ne_bool_none (au I q #[3])
  |bl j=>cases a;exact ne_bool (au I q (TZ not qo))
  |str j=>let⟨t',rfl⟩:=a;exact PySem.EqMixed.ne_bool_str (au I q #[3])
  |_=>exact absurd (show false=true from hs) GA
 |int i=>
  let⟨t,rfl⟩:=c;cases y with
  |ZL=>cases a;exact PySem.EqNone.ne_int_none (au I q #[3])
  |int j=>let⟨t',rfl⟩:=a;exact ne_int (au I q (TZ not lh))
  |str j=>let⟨t',rfl⟩:=a;exact PySem.EqMixed.ne_int_str (au I q #[3])
  |_=>exact absurd (show false=true from hs) GA
 |str i=>
  let⟨t,rfl⟩:=c;cases y with
  |ZL=>cases a;exact PySem.EqNone.ne_str_none (au I q #[3])
  |bl j=>cases a;exact PySem.EqMixed.ne_str_bool (au I q #[3])
  |int j=>let⟨t',rfl⟩:=a;exact PySem.EqMixed.ne_str_int (au I q #[3])
  |str j=>let⟨t',rfl⟩:=a;exact ne_str (au I q (TZ not lX))
  |_=>exact absurd (show false=true from hs) GA
 |XC i=>
  let⟨t,rfl⟩:=c;cases y with
  |XC j=>let⟨t',rfl⟩:=a;exact PySem.W.ne_bytes (au I q (TZ not yI))
  |_=>exact absurd (show false=true from hs) GA
 |_=>cases y<;>exact absurd (show false=true from hs) GA
def adq:OpR X (compareOp .Lt) (HH λi j=>.bl (decide (i<j))):=fe λ_ _ _ _ _ _ _ q=>lt_int q
def adK:OpR X (compareOp .LtE) (HH λi j=>.bl (decide (i<=j))):=fe λ_ _ _ _ _ _ _ q=>le_int q
def ac9:OpR X (compareOp .Gt) (HH λi j=>.bl (decide (j<i))):=fe λ_ _ _ _ _ _ _ q=>gt_int q
def adg:OpR X (compareOp .GtE) (HH λi j=>.bl (decide (j<=i))):=fe λ_ _ _ _ _ _ _ q=>ge_int q
def abe:OpR X (compareOp .Is) (λx y H Q=>y=.ZL/\Q (.bl (decide (x=.ZL))) H):=by
 intro O s Y H x y v u Q I a b h;let⟨rfl,q⟩:=h;cases b;refine is_none_gen (au I q ?_);cases x<;>first
  |(cases a;rfl)
  |(let⟨t,rfl⟩:=a;rfl)
def zR:OpR X (compareOp .IsNot) (λx y H Q=>y=.ZL/\Q (.bl (!decide (x=.ZL))) H):=by
 intro O s Y H x y v u Q I a b h;let⟨rfl,q⟩:=h;cases b;refine isnot_none_gen (au I q ?_);cases x<;>first
  |(cases a;rfl)
  |(let⟨t,rfl⟩:=a;rfl)
def aap{op:CmpOp}{r:R2}(f:OpR X (compareOp op) r)(j:PE X a ta)(i:PE X b tb)(g:behindInMarks op b=false):PE X (.Compare a [op] [b] pos) (HE r ta tb):=by
 intro O s Y H Q I h;exact wpAny_Compare1 (iB j i I h λv u c x y H2 k e d q=>f O c Y H2 x y v u Q k e d q) g
def Fz(t:TE):TT:=λY H Q=>t Y H λx H'=>∃k,x=.bl k/\Q k H'
def zK{op:CmpOp}{r:R2}(o:OpR X (compareOp op) r)(t:PE X a ta)(q:PE X b tb)(p:behindInMarks op b=false):PT X (.Compare a [op] [b] pos) (Fz (HE r ta tb)):=by
 intro O s Y H Q I h;refine wpAny_isTrue_Compare1 (thn (t O s Y H _ I h) λv f ⟨x,H1,B,j,n⟩=>thn (q O f Y H1 _ B n) λu d ⟨y,H2,A,i,m⟩ =>
  thn (o O d Y H2 x y v u _ A j i m) λc s3 ⟨z,H3,w,g,k,e,l⟩=>?_) p
 subst e;cases g;exact TB ⟨H3,w,l⟩
def DI(r e:R2)(d c b:TE):TE:=λY H Q=>d Y H λx H1=>c Y H1 λy H2=>r x y H2 λz H3=>∃k,z=.bl k /\
 (if k=true then b Y H3 λa f=>e y a f Q else Q (.bl false) H3)
def xR{op f:CmpOp}{r i:R2}(D:OpR X (compareOp op) r)(K:OpR X (compareOp f) i)(J:PE X a ta)(G:PE X b tb)(F:PE X c tc)
  (E:lastMarks [op,f] [b,c]=false:=by with_unfolding_all rfl):PE X (.Compare a [op,f] [b,c] pos) (DI r i ta tb tc):=by
 intro O s Y H Q I h;refine Compare_chain (thn (J O s Y H _ I h) λv p ⟨x,H1,N,w,C⟩=>chain_link (thn (G O p Y H1 _ N C) λu o ⟨y,H2,M,g,B⟩ =>
  thn (D O o Y H2 x y v u _ M w g B) λd s3 ⟨z,H3,l,t,k,e,j⟩=>?_)) E
 subst e;cases t;refine TB ?_;cases k with
 |false=>exact ite_ff ⟨.bl false,H3,l,rfl,j⟩
 |true=>exact ite_tt (chain_last (thn (F O s3 Y H3 _ l j) λn s4 ⟨m,P,L,q,A⟩=>K O s4 Y P y m u n Q L g q A))
def yr{op f:CmpOp}{r i:R2}(G:OpR X (compareOp op) r)(P:OpR X (compareOp f) i)(M:PE X a ta)(L:PE X b tb)(K:PE X c tc)
  (J:lastMarks [op,f] [b,c]=false:=by with_unfolding_all rfl):PT X (.Compare a [op,f] [b,c] pos) (Fz (DI r i ta tb tc)):=by
 intro O s Y H Q I h;refine isTrue_chain (thn (M O s Y H _ I h) λv p ⟨x,H1,U,A,E⟩=>test_link (thn (L O p Y H1 _ U E) λu o ⟨y,H2,T,g,D⟩ =>
  thn (G O o Y H2 x y v u _ T A g D) λd s3 ⟨z,H3,l,w,k,e,j⟩=>?_)) J
 subst e;cases w;refine TB ?_;cases k with
 |false=>
  let⟨k',e',F⟩:=j;cases e';exact ite_ff ⟨H3,l,F⟩
 |true=>
  refine ite_tt (test_last (thn (K O s3 Y H3 _ l j) λn s4 ⟨m,W,S,t,C⟩=>thn (P O s4 Y W y m u n _ S g t C) ?_));rintro d' s5 ⟨Z,V,R,q,k2,N,B⟩;subst N;cases q;exact TB ⟨V,R,B⟩
def C8(K:GJ)(x:V)(H:Hp)(k:Bool):Prop:=
 match x with
 |.ZL=>k=false
 |.bl b=>k=b
 |.int i=>k=(i != 0)
 |.str y=>y.length<=sizeLine/\k=((y.length:Int) != 0)
 |.XC y=>y.size<=sizeLine/\k=((y.size:Int) != 0)
 |.ref p=>(∃xs,SqL K H p xs/\k = !xs.isEmpty)\/(∃xs,SqT K H p xs/\k = !xs.isEmpty) \/∃Z4,H p=some (.dK Z4)/\k = !Z4.isEmpty
 |_=>False
def vJ{a:Type}{b:List (a×V)}{vs:List (a×Value)}(r:KV b vs):(!vs.isEmpty) = !b.isEmpty:=by
 cases r<;>rfl
def jd{xs:List V}(r:ZH xs ZV):(!ZV.toArray.isEmpty) = !xs.isEmpty:=by
 cases r<;>simp
def cQ:(sizeLine:Nat)<2 ^ 63:=by rw[UB];decide
def qw:TruR X (λx H Q=>∃k,C8 X.K x H k/\Q k H):=by
 intro O s Y H x v Q I a h;let⟨k,e,q⟩:=h;have hl:=cQ;have hs:sizeLine=16777216:=UB;cases x with
 |ZL=>
  cases a;have e':k=false:=e;subst e';exact truthy_none ⟨H,I,q⟩
 |bl b=>
  cases a;have e':k=b:=e;subst e';exact TB ⟨H,I,q⟩
 |int i=>
  let⟨t,rfl⟩:=a;have e':k=(i != 0):=e;subst e';exact PySem.P.truthy_int ⟨H,I,q⟩
 |str y=>
  let⟨t,rfl⟩:=a;obtain⟨f,e'⟩:y.length<=sizeLine/\k=((y.length:Int) != 0):=e;subst e';exact PySem.P.truthy_str (by lia) ⟨H,I.tok _,q⟩
 |XC y=>
  let⟨t,rfl⟩:=a;obtain⟨f,e'⟩:y.size<=sizeLine/\k=((y.size:Int) != 0):=e;subst e';exact PySem.W.truthy_bytes (by lia) ⟨H,I.tok _,q⟩
 |ref p=>
  cases a;have e':(∃xs,SqL X.K H p xs/\k = !xs.isEmpty)\/(∃xs,SqT X.K H p xs/\k = !xs.isEmpty) \/∃Z4,H p=some (.dK Z4)/\k = !Z4.isEmpty:=e;rcases e' with⟨xs,c,e'⟩|⟨xs,c,e'⟩|⟨Z4,c,e'⟩
  .subst e'
   let⟨ZV,r,pl,d⟩:=I.list c;have hlen:=r.length;exact wpAny_truthy_list pl.isList (by simp![Xl];lia) ⟨H,I.tok _,by rw[jd r];exact q⟩
  .subst e'
   let⟨ZV,r,pl,d⟩:=I.tuple c;have hlen:=r.length;exact truthy_tuple pl (by simp![Xl];omega) ⟨H,I.tok _,by rw[jd r];exact q⟩
  .subst e'
   obtain⟨d,g,vs,r,m⟩:Z4.length<=sizeLine/\(p==sysModules)=false /\∃vs,KV Z4 vs/\s.heap.DictOf (AF X.prog X.w) p vs:=I.ZJ p _ c;have hlen:Z4.length=vs.length:=Qu r;exact wpAny_truthy_dict g m (by lia) ⟨H,I.tok _,by rw[vJ r];exact q⟩
 |_=>exact(show False from e).elim
def ya(ha:PE X a ta)(he:∀whole,isTrue a X.env whole=(do let v<-whole;standAt a.pos;holding [v] (truthy v))):
  PT X a (λY H Q=>ta Y H λx H'=>∃k,C8 X.K x H' k/\Q k H'):=by
 intro O s Y H Q I h;exact isTrue_plain (thn (ha O s Y H _ I h) λv s1 ⟨x,H1,I1,r1,q1⟩=>qw O s1 Y H1 x v Q I1 r1 q1) (he _)
def Oq{x:V}{S:List Value}(r:ZH [x] S):∃u,S=[u]/\RelV x u:=by
 cases r with
 |cons b a=>cases a;exact⟨_,rfl,b⟩
def call_abs:CallR X (.builtin "abs") (λxs H Q=>∃i,xs=[.int i]/\Q (.int (if i<0 then -i else i)) H):=by
 intro O s Y H xs S Q I r h;let⟨i,rfl,q⟩:=h;let⟨u,rfl,t,rfl⟩:=Oq r;exact call_abs_int λu tk=>⟨.int (if i<0 then -i else i),H,I.tok _,⟨_,rfl⟩,q⟩
end
end L2
namespace L2
open PySem PySem.Spec PyProof.Rows
structure VW(h:Heap)(x dx C:Addr)(mA:Str->Option Value):Prop where
 obj:h.get? x=some (PySem.W.instObj C dx)
 ns:h.Ns1 dx mA
 ne:dx≠x
def wb{d:Addr}{c:Str->Option Value}(n:h.Ns1 d c):∃b,h.get? d=some b /\∀name,PySem.W.lookIn name b=some (c name):=by
 let⟨o,es,ep,ho,i,hk,_,g⟩:=n;refine⟨o,ho,λname=>?_⟩;have e:=g name;unfold nsFind findBy at e;rw[<-Array.find?_toList]at e;unfold PySem.W.lookIn;rw[i];dsimp only;split
 .rename_i y q
  rw[q]at e;exact TZ some e
 .rename_i q
  rw[q]at e;have a:es.toList.any (·.refKey)=false:=by
   rw[List.any_eq_false];intro y f;let⟨z,t,j⟩:=hk y (T1.mp f);simp[DictEntry.refKey,j]
  have a' : ¬ es.toList.any (·.refKey)=true:=by rw[a];exact GA
  rw[Yj a'];exact TZ some e
def VW.look{x c C:Addr}{b:Str->Option Value}(I:VW h x c C b):∃a,PySem.W.InstAt h x (PySem.W.instObj C c) C (some a) /\∀name,PySem.W.lookIn name a=some (b name):=
 let⟨a,ho,d⟩:=wb I.ns
 ⟨a,⟨I.obj,rfl,rfl,ho⟩,d⟩
section
variable{E:Value->Shared->Prop}{x dx C f:Addr}{mA:Str->Option Value}{name:Str}{v:Value}
def get_map{a:Bool}{Q:Value->Shared->Prop}(X:K.In s.heap)(I:VW s.heap x dx C mA)(f:PySem.W.plainGet K C name=true)(e:PySem.W.hasDictIn K C=true)
  (g:PySem.W.findIn K (.ref C) name=some none) (c:mA name=some v) (b:PySem.W.handedIn v=true) (h:Q v {s with toks:=s.toks+1}) :
  wpAny (model prog w) A (getAttr (.ref x) name a) Q E s:=by
 let⟨j,i,d⟩:=I.look;exact PySem.W.get_value X i (Pk f).1 (PySem.W.findObj_own e g rfl (by rw[d,c])) b h
def xF{Q:Value×List Value->Shared->Prop}(X:K.In s.heap)(I:VW s.heap x dx C mA)(a:PySem.W.plainGet K C name=true)
  (g:PySem.W.findIn K (.ref C) name=some (some (.ref f))) (d:PySem.W.isFn K (.ref f)=true) (c:mA name=none) (h:Q (.ref f,[.ref x]) s) :
  wpAny (model prog w) A (getMethod (.ref x) name pl) Q E s:=by
 let⟨b,i,e⟩:=I.look;exact PySem.W.method_fn X i (Pk a).1 (Pk a).2 g (V0.mp d) (by show(PySem.W.lookIn name b).map (·.isSome)=some false;rw[e,c];rfl) h
def y3{ns:List Str}{Q:Unit->Shared->Prop}(X:K.In s.heap)(I:VW s.heap x dx C mA)
  (z:PySem.W.findIn K (.ref C) "__setattr__" = some (some (.builtin "object.__setattr__"))) (B:PySem.W.plainOver K C=true) (u:PySem.W.takerIn K C name=some none) (D:PySem.W.hasDictIn K C=true)
  (t:PySem.Within mA ns) (hsz:ns.length<=sizeLine)
  (h:∀h',VW h' x dx C (λy=>if y=name then some v else mA y)->Heap.SameBut dx s.heap h'->Q Unit.unit {s with heap:=h',toks:=s.toks+2}) :
  wpAny (model prog w) A (setAttr (.ref x) name v) Q E s:=by
 let⟨L,g,N⟩:=I.look;refine PySem.W.set_plain X g z (PySem.W.osa_open (s:={s with toks:=s.toks+1}) (r:=none) X g B u λb=>?_)
 let⟨O,F,J⟩:=PySem.W.any_some D;have o:s.heap.get? x=some ⟨.ref C,some dx,.plain,#[]⟩:=I.obj;refine ZB (ZP (ZB (ZB (wpAny_loadPart o (ZB (PySem.W.Looks.here (s:={s with toks:=s.toks+1}) (PySem.W.looks_clsIn X F) ?_))))))
 rw[J];refine ZP (a:=some dx) (ZB (ZP (ZB ?_)));refine wpAny_nsSet1 (s:={s with toks:=s.toks+1}) I.ns λh' j k=>?_
 let⟨M,G,H,c,d,f⟩:=j.count (PySem.Within.cons name v t);refine ZB (wpAny_lookBehind c (by rw[d];exact pastItsLine_dict (Gz f (by rw[YZ];lia))) ?_)
 exact ZP (h _ ⟨(k.2 _ (Ne.symm I.ne)).trans I.obj,j,I.ne⟩ k)
def xu{R:Result->Shared->Prop}{vs:List Value}(X:K.In s.heap)(a:PySem.W.makesIn K C=true)
  (hi:PySem.W.findIn K (.ref C) "__init__" = some (some (.ref f))) (b:PySem.W.typeIn K (.ref f)=some (.type "function"))
  (h:codeAny (model prog w) (A.under (.builtin "type.__call__" ⟨.ref C::vs,kw⟩)) (.call (.ref f) ⟨.ref (s.heap.objs.size+1)::vs,kw⟩) (PySem.W.InitBack (s.heap.objs.size+1) R)
   {s with heap:=(s.heap.push PySem.W.emptyDict).push (PySem.W.instObj C s.heap.objs.size)}) :
  codeAny (model prog w) A (.call (.ref C) ⟨vs,kw⟩) R s:=by
 let⟨c,g,d,t,os⟩:=s;exact PySem.W.make_core (PySem.W.makes_of X a) (PySem.W.looks_findIn X hi) (λself=>PySem.W.bind_fn X self b) (.inl rfl) h
end
def AB(f:Str)(v:V):List (Str×V)->List (Str×V)
 |[]=>[(f,v)]
 |(g,x)::r=>if g=f then(g,v)::r else(g,x)::AB f v r
def iO(f g:Str)(v:V):∀fs:List (Str×V),(AB f v fs).lookup g=if g=f then some v else fs.lookup g
 |[]=>by
  show List.lookup g [(f,v)]=_;by_cases h:g=f
  .have a:(g==f)=true:=V0.mpr h
   simp![List.lookup,a,YC h]
  .have a:(g==f)=false:=Rf.mpr h
   simp![List.lookup,a,Yj h]
 |(k,x)::r=>by
  have ih:=iO f g v r;rw[show AB f v ((k,x)::r)=(if k=f then(k,v)::r else(k,x)::AB f v r)from rfl]
  by_cases hk:k=f
  .rw [YC hk]
   by_cases h:g=k
   .have a:(g==k)=true:=V0.mpr h
    simp![List.lookup,a,YC (h.trans hk)]
   .have a:(g==k)=false:=Rf.mpr h
    simp![List.lookup,a,Yj (λe:g=f=>h (e.trans hk.symm))]
  .rw [Yj hk]
   by_cases h:g=k
   .have a:(g==k)=true:=V0.mpr h
    simp![List.lookup,a,Yj (λe:g=f=>hk (h.symm.trans e))]
   .have a:(g==k)=false:=Rf.mpr h
    simp![List.lookup,a];exact ih
def fP(f:Str)(v:V):∀fs:List (Str×V),f∈(AB f v fs).map (·.1) /\∀g,g∈fs.map (·.1)->g∈(AB f v fs).map (·.1)
 |[]=>⟨by simp[AB],λg h=>by simp at h⟩
 |(k,x)::r=>by
  let⟨b,a⟩:=fP f v r;rw[show AB f v ((k,x)::r)=(if k=f then(k,v)::r else(k,x)::AB f v r)from rfl]
  by_cases hk:k=f
  .rw [YC hk]
   subst hk;exact⟨by simp,λg h=>by simpa using h⟩
  .rw [Yj hk]
   refine⟨?_,λg h=>?_⟩
   .rw [YT]
    exact GC _ b
   .rw [YT]at h ⊢
    rcases X5.mp h with e|e
    .exact X5.mpr (.inl e)
    .exact GC _ (a g e)
def iN(f:Str)(v:V):∀fs:List (Str×V),(AB f v fs).length<=fs.length+1
 |[]=>by simp[AB]
 |(k,x)::r=>by
  have ih:=iN f v r;rw[show AB f v ((k,x)::r)=(if k=f then(k,v)::r else(k,x)::AB f v r)from rfl]
  by_cases hk:k=f
  .rw [YC hk,YZ,YZ];lia
  .rw [Yj hk,YZ,YZ];lia
def RelO.some_of{o:Option Value}(r:RelO (some v) o):∃u,o=some u/\RelV v u:=by
 cases o with
 |none=>exact(show False from r).elim
 |some u=>exact⟨u,rfl,r⟩
def RelO.none_of{o:Option Value}(r:RelO none o):o=none:=by
 cases o with
 |none=>rfl
 |some u=>exact(show False from r).elim
def wK{u:Value}(r:RelV v u):PySem.W.handedIn u=true:=by
 cases v with
 |ZL=>cases(show u=Value.none from r);rfl
 |bl b=>cases(show u=Value.bool b from r);rfl
 |int i=>let⟨t,e⟩:=(show∃t,u=Value.int i t from r);cases e;rfl
 |str x=>let⟨t,e⟩:=(show∃t,u=Value.str x t from r);cases e;rfl
 |XC b=>let⟨t,e⟩:=(show∃t,u=Value.bytes b t from r);cases e;rfl
 |Vp b=>let⟨t,e⟩:=(show∃t,u=Value.float b t from r);cases e;rfl
 |ref a=>cases(show u=Value.ref a from r);rfl
 |ty n=>cases(show u=Value.type n from r);rfl
section
variable{C dx:Addr}{fs fs':List (Str×V)}
def gw(c:HOk P w H h)(e:H a=some (.ins C dx fs)):∃mA,VW h a dx C mA/\(∀f,RelO (fs.lookup f) (mA f))/\PySem.Within mA (fs.map (·.1))/\fs.length<=1000/\H dx=some (.own a):=by
 let⟨d,z,b,ob,mA,n,r,q⟩:=(show ObjOk P w H h a (.ins C dx fs)from c a _ e);exact⟨mA,⟨ob,n,b⟩,r,q,z,d⟩
end
structure Yh(K:GJ)(C:Addr):Prop where
 pg:PySem.W.plainGet K C Str.empty=true
 hd:PySem.W.hasDictIn K C=true
 po:PySem.W.plainOver K C=true
 sa:PySem.W.findIn K (.ref C) "__setattr__" = some (some (.builtin "object.__setattr__"))
def Yh.get{C:Addr}(c:Yh K C)(f:Str):PySem.W.plainGet K C f=true:=c.pg
def NoAttr(K:GJ)(C:Addr)(f:Str):Prop:=PySem.W.findIn K (.ref C) f=some none
def NoAttr.Sj{C:Addr}{f:Str}(n:NoAttr K C f):PySem.W.takerIn K C f=some none:=by
 unfold PySem.W.takerIn;rw[show PySem.W.findIn K (.ref C) f=some none from n]
 rfl
structure Con(K:GJ)(C:Addr)(f:Str)(v:V)(u:Value):Prop where
 at_:PySem.W.findIn K (.ref C) f=some (some u)
 rel:RelV v u
 get:PySem.W.specialIn K u "__get__" = some none
 cp:PySem.W.copiedNames.contains f=false
structure UM(K:GJ)(C:Addr)(m:Str)(f:Addr):Prop where
 at_:PySem.W.findIn K (.ref C) m=some (some (.ref f))
 fn:PySem.W.isFn K (.ref f)=true
 kp:PySem.W.keepIn K (.ref f)=true
section
variable{Y:St}{C dx:Addr}{fs:List (Str×V)}{f:Str}{E:Value->Shared->Prop}
def vj{b:Bool}{Q:Value->Shared->Prop}(I:Z0 X O Y H s)(e:H a=some (.ins C dx fs))(c:Yh X.K C)(n:NoAttr X.K C f)(l:fs.lookup f=some v)
  (h:∀u s',Z0 X O Y H s'->RelV v u->Q u s'):wpAny (model X.prog X.w) A (getAttr (.ref a) f b) Q E s:=by
 let⟨mA,Z9,r,_,_,_⟩:=gw I.ZJ e;let⟨u,g,d⟩:=RelO.some_of (v:=v) (o:=mA f) (by rw[<-l];exact r f)
 exact get_map I.YR Z9 (c.get f) c.hd n g (wK d) (h u _ (I.tok _) d)
def vG{m:Str}{g:Addr}{Q:Value×List Value->Shared->Prop}(I:Z0 X O Y H s)(e:H a=some (.ins C dx fs))(c:Yh X.K C)(k:UM X.K C m g)(l:fs.lookup m=none)
  (h:Q (.ref g,[.ref a]) s):wpAny (model X.prog X.w) A (getMethod (.ref a) m pl) Q E s:=by
 let⟨mA,Z9,r,_,_,_⟩:=gw I.ZJ e;have b:mA m=none:=RelO.none_of (by rw[<-l];exact r m)
 exact xF I.YR Z9 (c.get m) k.at_ k.fn b h
def vA{y:V}{u:Value}{Q:Unit->Shared->Prop}(I:Z0 X O Y H s)(e:H a=some (.ins C dx fs))(c:Yh X.K C)(n:NoAttr X.K C f)(p:fs.length<1000)(j:RelV y u)
  (h:∀s',Z0 X O Y (upd H a (.ins C dx (AB f y fs))) s'->Q Unit.unit s'):wpAny (model X.prog X.w) A (setAttr (.ref a) f u) Q E s:=by
 let⟨mA,Z9,r,i,_,ho⟩:=gw I.ZJ e;have k:(fs.map (·.1)).length<=sizeLine:=by rw[Zz,UB];lia
 refine y3 I.YR Z9 c.sa c.po n.Sj c.hd i k λh' d sb=>h _ ?_;have hd:∃o,h'.get? dx=some o:=let⟨o,_,_,e',_⟩:=d.ns;⟨o,e'⟩
 refine I.write (x:=a) (e:=dx) (by rw[e];exact True.intro) (.inr ho) (λb q m z=>(sb.2 b m).trans z) hd ?_
 refine⟨by rw[af Z9.ne];exact ho,?_,Z9.ne,d.obj,_,d.ns,λg=>?_,λg l=>?_⟩
 .have:=iN f y fs;lia
 .show RelO ((AB f y fs).lookup g) (if g=f then some u else mA g)
  rw[iO];by_cases q:g=f
  .rw [YC q,YC q];exact j
  .rw [Yj q,Yj q];exact r g
 .by_cases q:g=f
  .rw [q];exact(fP f y fs).1
  .refine (fP f y fs).2 g (i g λz=>l ?_)
   show(if g=f then some u else mA g)=none
   rw[Yj q];exact z
def Z0.made(I:Z0 X O Y H s):Z0 X O Y (upd (upd H s.heap.objs.size (.own (s.heap.objs.size+1))) (s.heap.objs.size+1) (.ins C s.heap.objs.size []))
  {s with heap:=(s.heap.push PySem.W.emptyDict).push (PySem.W.instObj C s.heap.objs.size)}:=by
 have d:(s.heap.push PySem.W.emptyDict).get? s.heap.objs.size=some PySem.W.emptyDict:=GG s.heap rfl;have k:((s.heap.push PySem.W.emptyDict).push (PySem.W.instObj C s.heap.objs.size)).get? (s.heap.objs.size+1)=some (PySem.W.instObj C s.heap.objs.size):=by
  have:=GG (s.heap.push PySem.W.emptyDict) (o:=PySem.W.instObj C s.heap.objs.size) rfl;rwa[RA]at this
 have j:(s.heap.push PySem.W.emptyDict).Ns s.heap.objs.size (λ_=>none):=⟨PySem.W.emptyDict,#[],_,d,rfl,(λe g=>absurd g #[3]),λ_=>rfl⟩
 have r:=I.laid (a:=s.heap.objs.size) (o:=.own (s.heap.objs.size+1)) (h':=s.heap.push PySem.W.emptyDict) (t':=s.toks) (λb u q=>Gx _ q) (GB _) ⟨_,d⟩;refine r.laid (a:=s.heap.objs.size+1) (o:=.ins C s.heap.objs.size []) (t':=s.toks) (λb u q=>Gx _ q) (Ob (RA _ _)) ?_;have c:s.heap.objs.size≠s.heap.objs.size+1:=GF (Ri _);refine⟨by rw[af c,upd_same],S_ _,c,k,λ_=>none,(Heap.Ns1.of_empty j).at λo q=>Gx _ q,λ_=>True.intro,λy f=>absurd rfl f⟩
def yO{f:Str}{Q:Value->Shared->Prop}(a:attributeBase e f env (eval e env)=eval e env)
  (h:wpAny (model prog w) A (eval e env) (λo b=>wpAny (model prog w) A (getAttr o f true) Q E b) E s):wpAny (model prog w) A (eval (.Attribute e f pos) env) Q E s:=
 Attribute_any_ h (by rw[arm_eval_Attribute,a])
end
def HK(K:GJ)(b:TE)(f:Str):TE:=λY H Q=>b Y H λx H1=>∃a C dx fs v,x=.ref a/\H1 a=some (.ins C dx fs)/\Yh K C/\NoAttr K C f/\fs.lookup f=some v/\Q v H1
def HL(K:GJ)(c b:TE)(f:Str):TS:=λD Y H=>b Y H λy H1=>c Y H1 λx H2=>∃a C dx fs,x=.ref a/\H2 a=some (.ins C dx fs)/\Yh K C/\NoAttr K C f/\fs.length<1000 /\
 D.nx Y (upd H2 a (.ins C dx (AB f y fs)))
section
variable{o value:Expr}{f:Str}{pos' tpos:Pos}{tv:TE}
def aaQ(g:PE X e ta)(i:attributeBase e f X.env (eval e X.env)=eval e X.env):PE X (.Attribute e f pos) (HK X.K ta f):=by
 intro O s Y H Q I h;refine yO i (thn (g O s Y H _ I h) ?_);rintro u r ⟨x,H1,m,b,a,C,dx,fs,v,ex,j,c,n,l,q⟩;subst ex;obtain rfl:u=Value.ref a:=b;exact vj m j c n l λo p k d=>⟨v,H1,k,d,q⟩
def acK(m:PE X o ta)(j:PE X value tv)(k:swapsWith value (some (.Attribute o f pos')) pos.line X.env=pure false):PS X (.Assign [.Attribute o f pos'] value pos) (HL X.K ta tv f):=by
 intro O s Y H D I h;refine plainObj_wpAny_Assign_Attribute (thn (j O s Y H _ I h) λu b ⟨y,H1,v,d,q⟩=>thn (m O b Y H1 _ v q) λi w ⟨x,H2,t,e,a,C,dx,fs,ex,p,c,n,l,g⟩=>?_) k;subst ex;obtain rfl:i=Value.ref a:=e;exact vA t p c n l d λs3 r=>⟨Y,_,r,g⟩
end
section
variable{Y:St}{E:Value->Shared->Prop}{Q:Value->Shared->Prop}{c:Value}{b:Bool}
inductive Xk(K:GJ)(H:Hp):V->Value->Prop where
 |ZL:Xk K H .ZL (.type "NoneType")
 |bl (x:Bool):Xk K H (.bl x) (.type "bool")
 |int (i:Int):Xk K H (.int i) (.type "int")
 |str (x:Str):Xk K H (.str x) (.type "str")
 |Vp (x:UInt64):Xk K H (.Vp x) (.type "float")
 |M {a:Addr} {xs:List V} (e:H a=some (.M xs)):Xk K H (.ref a) (.type "list")
 |Zt {a:Addr} {o:Obj} {xs:List V} (e:H a=some (.Zt o (.M xs))):Xk K H (.ref a) (.type "list")
 |ZX {a:Addr} {xs:List V} (e:H a=some (.ZX xs)):Xk K H (.ref a) (.type "tuple")
 |dK {a:Addr} {Z4:List (Key×V)} (e:H a=some (.dK Z4)):Xk K H (.ref a) (.type "dict")
 |dT {a:Addr} {Z4:List (List Key×V)} (e:H a=some (.dT Z4)):Xk K H (.ref a) (.type "dict")
 |ins {a C dx:Addr} {fs:List (Str×V)} (e:H a=some (.ins C dx fs)) (cl:Yh K C) (ha:PySem.W.findIn K (.ref C) "__class__" = some (some (.builtin "object.__class__")))
   (hn:PySem.W.specialIn K (.builtin "object.__class__") "__get__" = some (some (.builtin "getset_descriptor.__get__"))) (htk:PySem.W.takesIn K (.builtin "object.__class__")=some true)
   (hm:PySem.W.mroIn K C (.type "object")=some true):Xk K H (.ref a) (.ref C)
end
end L2
namespace L2
open PySem PySem.Spec PyProof.Rows
structure Y8(k:Nat)(A:Around):Prop where
 hd:A.handled=none
 dp:A.depth+3*k+5<recursionLimit
 un:A.units+16*k+200<cLine
 gd:A.guards=some []
def Y8.deeper{k:Nat}{A:Around}(r:Y8 (k+1) A)(env:Env):Y8 k (A.deeper env):=
 ⟨r.hd,by have:=r.dp;show A.depth+1+3*k+5<_;lia,by have:=r.un;show A.units+3+16*k+200<_;lia,r.gd⟩
def vh{C:Addr}{S:List Value}:(A.under (.builtin "type.__call__" ⟨.ref C::S,kw⟩)).depth=A.depth+1:=by
 first|rfl|simp[Around.under,Code.weight,Code.isCreation,Code.isGuard,Code.isCaller,Code.frames,Code.isFrame,guardIds]
def vQ{C:Addr}{S:List Value}:(A.under (.builtin "type.__call__" ⟨.ref C::S,kw⟩)).units=A.units+1:=by
 first|rfl|simp[Around.under,Code.cUnits,Code.frames,Code.isFrame]
def Y8.make{k:Nat}(r:Y8 (k+1) A)(C:Addr)(S:List Value)(kw:List (Str×Value)):Y8 k (A.under (.builtin "type.__call__" ⟨.ref C::S,kw⟩)):=
 ⟨r.hd,by have:=r.dp;rw[vh];lia,by have:=r.un;rw[vQ];lia,(show A.guards=_ from r.gd)⟩
def Y8.depth{k:Nat}{A:Around}(r:Y8 k A):A.depth<recursionLimit:=by have:=r.dp;lia
def Y8.units{k:Nat}{A:Around}(r:Y8 k A):A.units+64<cLine:=by have:=r.un;lia
def Ef:TA:=λ_ H Q=>Q [] H
def Fy(b:TE)(a:TA):TA:=λY H Q=>b Y H λx H1=>a Y H1 λxs H2=>Q (x::xs) H2
section
variable{t:TA}
def bQ:PA X [] Ef:=λ_ _ _ _ H Q I h=>Calls.spliced_nil ⟨[],H,I,.nil,h⟩
def aW(j:PE X e te)(i:PA X es t)(g:starEach (e::es) X.env=(false,eval e X.env)::starEach es X.env:=by rfl):PA X (e::es) (Fy te t):=by
 intro pos O s Y H Q I h;rw[g];show wpAny _ _ (spliced ((false,eval e X.env)::backTo pos (starEach es X.env))) _ _ s;refine Calls.spliced_cons (thn (j O s Y H _ I h) ?_);rintro u a ⟨x,H1,l,c,f⟩;exact thn (i pos O a Y H1 _ l f) λS m ⟨xs,H2,k,b,d⟩=>⟨x::xs,H2,k,.cons c b,d⟩
def HM(t:TA):TE:=λY H Q=>t Y H λxs H1=>xs.length<=sizeLine /\∀p,H1 p=none->Q (.ref p) (upd H1 p (.ZX xs))
def HN(t:TA):TE:=λY H Q=>t Y H λxs H1=>xs.length<=sizeLine /\∀p,H1 p=none->Q (.ref p) (upd H1 p (.M xs))
def aaA{x1}(h:PA X es t):PE X (.Tuple es x1 pos) (HM t):=by
 intro O s Y H Q I d;refine wpAny_Tuple_spliced (thn (h pos O s Y H _ I d) λS a ⟨xs,H1,c,r,z,q⟩=>⟨by rw[<-r.length];exact z,?_⟩)
 have f:H1 a.heap.objs.size=none:=c.ZJ.fresh (GB _);refine⟨.ref a.heap.objs.size,upd H1 a.heap.objs.size (.ZX xs),c.laid (t':=a.toks) (λb u e=>Gx _ e) (GB _) ?_,rfl,q _ f⟩;exact⟨z,S,r,⟨_,GG _ rfl,rfl,_,rfl⟩⟩
def acz(h:PA X es t):PE X (.List es pos) (HN t):=by
 intro O s Y H Q I d;refine wpAny_List_spliced (thn (h pos O s Y H _ I d) λS a ⟨xs,H1,c,r,z,q⟩=>⟨by rw[<-r.length];exact z,?_⟩)
 have f:H1 a.heap.objs.size=none:=c.ZJ.fresh (GB _);refine⟨.ref a.heap.objs.size,upd H1 a.heap.objs.size (.M xs),c.laid (t':=a.toks) (λb u e=>Gx _ e) (GB _) ?_,rfl,q _ f⟩;exact⟨z,S,0,r,GG _ rfl⟩
end
abbrev Sp:=List V->Hp->VK->XK->Prop
abbrev XN:=List Env->Hp->Shared->XK->Value->Shared->Prop
structure VV(P:Program)(w:World)(K:GJ)(mg:Str->Option Value)(base:Heap)(A:Around)(outer:List Env)(s:Shared)(H:Hp):Prop where
 frames:A.frames=some outer
 mod:Mod K mg base
 bs:∀b o,base.get? b=some o->s.heap.get? b=some o/\H b=none
 WK:base.objs.size<=s.heap.objs.size
 XB:s.heap.FunFrames base outer
 VY:∀b∈frs outer,H b=none
 ZJ:HOk P w H s.heap
 bare:AllBare s.gens
def CE(outer:List Env)(P:Program)(w:World)(H:Hp)(s:Shared)(Q:VK)(u:Value)(a:Shared):Prop:=
 ∃v H',a.os=s.os/\AllBare a.gens/\Un (frs outer) [] H H' s.heap a.heap/\HOk P w H' a.heap/\RelV v u/\Q v H'
def CR(CX:XN)(outer:List Env)(P:Program)(w:World)(H:Hp)(s:Shared)(Q:VK)(E:XK)(r:Result)(a:Shared):Prop:=
 match r with
 |.ok (.ret u)=>CE outer P w H s Q u a
 |.ok _=>False
 |.error e=>CX outer H s E e a
structure YE(P:Program)(w:World)(K:GJ)(mg:Str->Option Value)(base:Heap)(CX:XN)(k:Nat)(f:Addr)(fd:FuncData)(ps:List Str)(sp:Sp):Prop where
 len:∀vs H Q E,sp vs H Q E->vs.length=ps.length
 run:∀(A:Around) (outer:List Env) (s:Shared) (H:Hp) (args:Args) (S:List Value) (vs:List V) (Q:VK) (E:XK),Y8 k A->VV P w K mg base A outer s H->BindsTo s fd args (ps.zip S)->ZH vs S->sp vs H Q E ->
  codeAny (model P w) A (.call (.ref f) args) (CR CX outer P w H s Q E) s
def VV.make{outer:List Env}(e:VV P w K mg base A outer s H)(C:Addr)(S:List Value)(kw:List (Str×Value)):
  VV P w K mg base (A.under (.builtin "type.__call__" ⟨.ref C::S,kw⟩)) outer s H:=⟨by first|exact e.frames|(simpa[Around.under,Code.envs,Code.isFrame,pushEnvs]using e.frames),e.mod,e.bs,e.WK,e.XB,e.VY,e.ZJ,e.bare⟩
section
variable{Y:St}{s':Shared}
def Z0.Tp(I:Z0 X O Y H s):VV X.prog X.w X.K X.mg X.base X.A X.stack s H:=
 ⟨I.ok.frames,I.ok.mod,I.bs,Gz I.ok.WK I.sz,I.stack,I.SQ,I.ZJ,I.bare⟩
def Z0.after{Q:VK}{u:Value}(I:Z0 X O Y H s)(h:CE X.stack X.prog X.w H s Q u s'):EP X O Y Q u s':=by
 let⟨v,H',os,a,un,j,r,q⟩:=h;let⟨f,g,d,t,c⟩:=s';obtain rfl:c=s.os:=os;exact⟨v,H',I.call (h':=f) (g':=g) (d':=d) (t':=t) (ch:=[]) un j a (λb z=>absurd z #[3]),r,q⟩
end
def FG(sp:Sp)(a:List V)(E:XK)(t:TA):TE:=λY H Q=>t Y H λvs H1=>sp (vs++a) H1 Q E
def Binds(K:GJ)(fd:FuncData)(a:List Str)(b:List Value):Prop:=
 ∀(s:Shared) (S:List Value),K.In s.heap->(S++b).length=a.length->BindsTo s fd ⟨S,[]⟩ (a.zip (S++b))
def Binds.all(h:∀S:List Value,S.length=ps.length->bindArgs fd ⟨S,[]⟩=pure (ps.zip S)):Binds K fd ps []:=λs S _ a=>by
 rw[U9]at a ⊢;exact .of_eq (h S a)
def A5(CX:XN)(X:Cx)(E:XK):Prop:=∀(O:List (Addr×Obj)) (Y:St) (H:Hp) (s:Shared) (e:Value) (s':Shared),Z0 X O Y H s->CX X.stack H s E e s'->X.xe e s'
section
variable{CX:XN}{k:Nat}{f C:Addr}{sp:Sp}{W1:List V}{ds:List Value}{E:XK}{m:Str}{p:Pos}{o:Expr}{t:TA}
def oN{Y:St}{Q:VK}{S:List Value}(F:YE X.prog X.w X.K X.mg X.base CX k f fd ps sp)(d:Y8 k X.A)(j:Binds X.K fd ps ds)(i:ZH W1 ds)(c:A5 CX X E)
  (I:Z0 X O Y H s) (r:ZH vs S) (h:sp (vs++W1) H Q E):wpAny (model X.prog X.w) X.A (call (.ref f) S) (EP X O Y Q) X.xe s:=by
 have b:ZH (vs++W1) (S++ds):=r.append i;have g:(S++ds).length=ps.length:=by rw[<-b.length];exact F.len _ _ _ _ h
 refine OE (Ru (F.run X.A X.stack s H ⟨S,[]⟩ (S++ds) (vs++W1) Q E d I.Tp (j s S I.YR g) b h) λr s' a=>?_);cases r with
 |error e=>exact c O Y H s e s' I a
 |ok fl=>
  cases fl with
  |ret u=>exact I.after a
  |next=>exact False.elim a
  |brk=>exact False.elim a
  |cont=>exact False.elim a
def yW(F:YE X.prog X.w X.K X.mg X.base CX k f fd ps sp)(c:Y8 k X.A)(i:Gl X x)(d:X.mg x=some (.ref f))(g:PySem.W.keepIn X.K (.ref f)=true)(m:Binds X.K fd ps ds)(l:ZH W1 ds)(b:A5 CX X E)
  (n:PA X (e::es) t) (u:(x==("__debug__" : Str))=false:=by decide) (j:starEach (e::es) X.env=(false,eval e X.env)::starEach es X.env:=by rfl) (o:(backTo pos (starEach es X.env)).any (·.1)=false:=by rfl) :
  PE X (.Call (.Name x p) (e::es) [] pos) (FG sp W1 E t):=by
 intro O s Y H Q I h;refine RN (eC I i d ?_ u);refine PySem.W.callWith_K (h₀:=X.base) I.ok.mod.VZ g (thn (n pos O s Y H _ I h) λS v ⟨vs,H1,a,r,q⟩=>⟨a.YR,?_⟩) j o;exact oN F c m l b a r q
def xK(F:YE X.prog X.w X.K X.mg X.base CX k f fd ps sp)(b:Y8 k X.A)(e:Gl X x)(c:X.mg x=some (.ref f))(d:PySem.W.keepIn X.K (.ref f)=true)(i:Binds X.K fd ps ds)(g:ZH W1 ds)(a:A5 CX X E)
  (j:(x==("__debug__" : Str))=false:=by decide):PE X (.Call (.Name x p) [] [] pos) (FG sp W1 E Ef):=by
 intro O s Y H Q I h;refine RN (eC I e c ?_ j);exact PySem.W.callWith_K0 I.YR d (oN (S:=[]) F b i g a I .nil h)
structure Mk(K:GJ)(C f:Addr):Prop where
 makes:PySem.W.makesIn K C=true
 init:PySem.W.findIn K (.ref C) "__init__" = some (some (.ref f))
 fn:PySem.W.isFn K (.ref f)=true
 kp:PySem.W.keepIn K (.ref C)=true
end
def PK(X:Cx)(kws:List Keyword)(t:TA):Prop:=
 ∀(pos:Pos) (O:List (Addr×Obj)) (s:Shared) (Y:St) (H:Hp) (Q:List V->Hp->Prop),Z0 X O Y H s->t Y H Q->wpAny (model X.prog X.w) X.A (evalAll ((backToKw pos (keywordEach kws X.env)).map (·.2))) (AP X O Y Q) X.xe s
section
variable{CX:XN}{k:Nat}{f C:Addr}{ks:List Str}{sp:Sp}{E:XK}{m:Str}{p kpos:Pos}{o:Expr}{t tk:TA}{nm:Option Str}
def abB:PK X [] Ef:=λ_ _ _ _ H Q I h=>wpAny_evalAll_nil ⟨[],H,I,.nil,h⟩
def zT(ha:PE X e te)(hr:PK X kws t):PK X (⟨nm,e,kpos⟩::kws) (Fy te t):=by
 intro pos O s Y H Q I h;show wpAny _ _ (evalAll ((do let v<-eval e X.env;standAt pos;pure v)::(backToKw pos (keywordEach kws X.env)).map (·.2))) _ _ s
 refine wpAny_evalAll_cons (ZB (thn (ha O s Y H _ I h) λu s1 ⟨x,H1,I1,r1,q1⟩=>ZB (S8 (ZP ?_))));exact thn (hr pos O s1 Y H1 _ I1 q1) λS s2 ⟨xs,H2,I2,r2,q2⟩=>⟨x::xs,H2,I2,.cons r1 r2,q2⟩
structure UL(K:GJ)(fd:FuncData)(ps ks:List Str)(g:List Value->List Value->List Value)(gV:List V->List V->List V):Prop where
 to:∀(s:Shared) (S ws:List Value),K.In s.heap->(g S ws).length=ps.length->BindsTo s fd ⟨S,ks.zip ws⟩ (ps.zip (g S ws))
 rel:∀{vs:List V} {S:List Value} {zs:List V} {ws:List Value},ZH vs S->ZH zs ws->ZH (gV vs zs) (g S ws)
variable{g:List Value->List Value->List Value}
def lB{Y:St}{Q:VK}{S a:List Value}{c:List V}(F:YE X.prog X.w X.K X.mg X.base CX k f fd ps sp)(m:Y8 k X.A)(i:UL X.K fd ps ks g gV)(l:A5 CX X E)
  (I:Z0 X O Y H s) (r:ZH vs S) (j:ZH c a) (h:sp (gV vs c) H Q E):wpAny (model X.prog X.w) X.A (call (.ref f) S (ks.zip a)) (EP X O Y Q) X.xe s:=by
 have d:=i.rel r j;have n:(g S a).length=ps.length:=by rw[<-d.length];exact F.len _ _ _ _ h
 refine OE (Ru (F.run X.A X.stack s H ⟨S,ks.zip a⟩ (g S a) (gV vs c) Q E m I.Tp (i.to s S a I.YR n) d h) λr s' b=>?_);cases r with
 |error e=>exact l O Y H s e s' I b
 |ok fl=>
  cases fl with
  |ret u=>exact I.after b
  |next=>exact False.elim b
  |brk=>exact False.elim b
  |cont=>exact False.elim b
end
structure TM(N P:List Str)(sc:Scope):Prop where
 kind:sc.kind=.function
 co:sc.isCoroutine=false
 gen:sc.isGenerator=false
 nd:N.Nodup
 pre:N.take P.length=P
 par:∀x∈P,sc.names.lookup x=some .local\/sc.names.lookup x=some .cell
 Si:∀y∈sc.names,y.2 ≠ .free
def jC{b:Str->Option NameKind}{x:Str}:∀{a:List (Str×Value)} {m:Str->Option Value},(∀v,(x,v) ∉ a)->bindL b a m x=m x
 |[],_,_=>rfl
 |(n,v)::r,m,h=>by
  unfold bindL;rw[jC λw c=>h w (GC _ c)];split
  .have:x≠n:=by rintro rfl;exact h v XZ
   simp[this]
  .rfl
def jH{b:Str->Option NameKind}{x:Str}:∀{a:List (Str×Value)} {m:Str->Option Value},(∀v,(x,v) ∉ a)->bindC b a m x=m x
 |[],_,_=>rfl
 |(n,v)::r,m,h=>by
  unfold bindC;rw[jH λw c=>h w (GC _ c)];split
  .rfl
  .have:x≠n:=by rintro rfl;exact h v XZ
   simp[this]
def jM{a:Str->Option NameKind}{x:Str}{v:Value}:∀{P:List Str} {vs:List Value} {i:Nat} {m:Str->Option Value},P.Nodup->P[i]?=some x->vs[i]?=some v->a x=some .local ->
  bindL a (P.zip vs) m x=some v
 |[],_,_,_,_,h,_,_=>by simp at h
 |_::_,[],_,_,_,_,h,_=>by simp at h
 |p::P,w::vs,0,m,nd,h1,h2,hk=>by
  simp at h1 h2;subst h1;subst h2;show bindL a ((p,w)::P.zip vs) m p=_;unfold bindL;rw[jC λv b=>(Rr.mp nd).1 (Og b).1,YC hk];simp
 |p::P,w::vs,i+1,m,nd,h1,h2,hk=>by
  show bindL a ((p,w)::P.zip vs) m x=_;unfold bindL;exact jM (i:=i) (Rr.mp nd).2 (by simpa using h1) (by simpa using h2) hk
def jt{a:Str->Option NameKind}{x:Str}{v:Value}:∀{P:List Str} {vs:List Value} {i:Nat} {m:Str->Option Value},P.Nodup->P[i]?=some x->vs[i]?=some v->a x≠some .local ->
  bindC a (P.zip vs) m x=some v
 |[],_,_,_,_,h,_,_=>by simp at h
 |_::_,[],_,_,_,_,h,_=>by simp at h
 |p::P,w::vs,0,m,nd,h1,h2,hk=>by
  simp at h1 h2;subst h1;subst h2;show bindC a ((p,w)::P.zip vs) m p=_;unfold bindC;rw[jH λv b=>(Rr.mp nd).1 (Og b).1,Yj hk];simp
 |p::P,w::vs,i+1,m,nd,h1,h2,hk=>by
  show bindC a ((p,w)::P.zip vs) m x=_;unfold bindC;exact jt (i:=i) (Rr.mp nd).2 (by simpa using h1) (by simpa using h2) hk
def start(N:List Str)(vs:List V):St:=vs.map some++List.replicate (N.length-vs.length) none
def Ce(CX:XN)(P:Program)(w:World)(K:GJ)(mg:Str->Option Value)(base:Heap)(N:List Str)(qual:Str)(scope:Scope)(f:Addr)(cd:Value)(A:Around)(outer:List Env)(s:Shared)(H:Hp)(E:XK):Cx where
 prog:=P
 w:=w
 K:=K
 mg:=mg
 base:=base
 A:=A.deeper (envOfC qual scope s.heap.objs.size f cd)
 N:=N
 Ze:=s
 UU:=H
 env:=envOfC qual scope s.heap.objs.size f cd
 outer:=outer
 stack:=envOfC qual scope s.heap.objs.size f cd::outer
 ex:=[]
 calm:=true
 fn:=λ_=>true
 pn:=[]
 xe:=λe s'=>wpAny (model P w) (A.deeper (envOfC qual scope s.heap.objs.size f cd)) (leaving (envOfC qual scope s.heap.objs.size f cd) e) (λ_ WI=>CX outer H s E e WI) (λe' WI=>CX outer H s E e' WI) s'
def ki{a:Scope}(h:a.names.lookup x=some .cell):∃c,(cellsFrom n a.names []).lookup x=some c:=by
 have q:=RP a.names n [] (.inl h);exact Ry.mp q
def vV{CX:XN}{qual:Str}{f:Addr}{t:Value}{outer:List Env}{C:Shared}{E:XK}{S:List Value}
  (Z6:TM N ps scope) (G:A.handled=none) (d:VV P w K mg base A outer s H) (J:vs.length=ps.length) (r:ZH vs S)
  (x:InCallC s s.heap.objs.size (bindL (envOfC qual scope s.heap.objs.size f t).kindOf (ps.zip S) λ_=>none) (cellsFrom (s.heap.objs.size+1) scope.names []) (bindC (envOfC qual scope s.heap.objs.size f t).kindOf (ps.zip S) λ_=>none) C) :
  Z0 (Ce CX P w K mg base N qual scope f t A outer s H E) [] (start N vs) H C:=by
 have M:ps.length<=N.length:=by have:=TZ List.length Z6.pre;rw[WV]at this;lia
 let⟨h1,tk,rfl,hk⟩:=x.done;have B:∀b:Addr,b ∉ (Ce CX P w K mg base N qual scope f t A outer s H E).ex:=λb z=>absurd (show b∈([]:List Addr)from z) #[3]
 refine ⟨⟨d.mod,Z6.kind,rfl,rfl,GB _,λy z c h1 h2 => ?_,λy g => ?_,λy c _ h => ?_,λ_=>G,Around.frames_deeper d.frames,.inr ⟨rfl,rfl⟩,λb z=>absurd z (B b),d.bs,d.WK,λb _ _=>B b,λb z=>absurd z (B b),d.XB,d.VY⟩,
  rfl,d.bare,Un.kept hk,⟨_,x.toInCall.ns,λi y v h1 h2 L=>?_⟩,λy c h=>⟨_,x.cell y c h⟩,d.ZJ.fresh (GB _),λy c h=>?_,λp o=>absurd (show p∈([]:List (Addr×Obj))from o) #[3],d.ZJ.kept hk,?_⟩
 .exact name_of_addr x.apart (VL h1) (VL h2)
 .have g:scope.names.lookup y=some .cell\/scope.names.lookup y=some .free:=g
  rcases g with g|g
  .exact ki g
  .exact absurd rfl (Z6.Si _ (VL g))
 .exact Rg (x.above y c (VL h))
 .have hi:i<vs.length:=by
   unfold start at h2;by_cases hi:i<vs.length
   .exact hi
   .rw [Wc (by simpa using hi)]at h2
    rw[RB]at h2;split at h2<;>cases h2
  have I:vs[i]?=some v:=by
   unfold start at h2;rw[XM (by simpa using hi),Wh]at h2
   cases e:vs[i]? with
   |none=>rw[e]at h2;cases h2
   |some a=>rw[e]at h2;cases h2;rfl
  let⟨u,D,F⟩:=r.get I;have o:ps[i]?=some y:=by
   rw[<-Z6.pre,Qv (by lia)];exact h1
  have j:ps.Nodup:=by rw[<-Z6.pre];exact Z6.nd.sublist (Qk _ _)
  refine⟨u,F,?_⟩;rcases Z6.par y (W_ o)with k|k
  .exact .inl ⟨k,jM j o D k⟩
  .obtain ⟨c,e⟩:=ki (n:=s.heap.objs.size+1) k
   refine .inr ⟨.inl k,c,e,?_⟩;have q:=x.cell y c e;rw[jt j o D (by show scope.names.lookup y≠_;rw[k];decide)]at q
   exact q
 .exact d.ZJ.fresh (Rg (x.above y c (VL h)))
 .unfold start
  show _=N.length;rw[Z1,Zz,Qf];lia
def adf{CX:XN}{k:Nat}{f:Addr}{name qual:Str}{a:Arguments}{c:List Stmt}{scope:Scope}{F L l D g ct Jt:Value}{G M:Option Addr}
  {VU:Array (Option Value)} {N m:List Str} {sp:Sp} (lk:K.lookup f=some ⟨Jt,M,.func (PySem.W.fnOf name qual a c scope F L l D G g ct),VU⟩) (Z:PySem.W.codeIn K g qual=true) (Z6:TM N m scope)
  (len:∀vs H Q E,sp vs H Q E->vs.length=m.length)
  (Sh:∀ (A:Around) (outer:List Env) (s:Shared) (H:Hp) (vs:List V) (Q:VK) (E:XK),Y8 k (A.deeper (envOfC qual scope s.heap.objs.size f g))->sp vs H Q E ->
   ∃t,PSs (Ce CX P w K mg base N qual scope f g A outer s H E) c t/\t {nx:=λ_ H'=>Q .ZL H',rt:=Q} (start N vs) H) :
  YE P w K mg base CX (k+1) f (PySem.W.fnOf name qual a c scope F L l D G g ct) m sp:=by
 refine⟨len,λA outer s H args S vs Q E B j X r h=>?_⟩;have hl:=len _ _ _ _ h;have J:K.In s.heap:=j.mod.VZ.keeps λb o e=>(j.bs b o e).1;have z:s.heap.NoLimit:=j.mod.nolimit.keeps λb o e=>(j.bs b o e).1;have To:∀y∈m.zip S,scope.names.lookup y.1=some .local\/(scope.names.lookup y.1=some .cell/\((cellsFrom (s.heap.objs.size+1) scope.names []).lookup y.1).isSome=true):=λ⟨n,v⟩ O=>by
  rcases Z6.par n (Og O).1 with q|q
  .exact .inl q
  .exact .inr ⟨q,RP _ _ _ (.inl q)⟩
 refine codeAny_call_function B.depth (J _ _ lk) rfl Z6.co Z6.gen rfl (PySem.W.codeRec_of J Z) (X _ _ _ _ ?_);refine wpAny_newFunctionEnv_cells Z6.kind To λenv U C x=>?_;subst U;refine⟨z.keeps x.toInCall.keep,codeAny_func ?_⟩;let⟨t,R,T⟩:=Sh A outer s H vs Q E (B.deeper _) h;have I:Z0 (Ce CX P w K mg base N qual scope f g A outer s H E) [] (start N vs) H C:=vV Z6 B.hd j hl r x;refine Q1 (R [] C (start N vs) H _ I T) (λY s' hs=>?_) λe s' hs=>hs;have i:∀{ZR:St} {H':Hp} {v:V} {u:Value},Z0 (Ce CX P w K mg base N qual scope f g A outer s H E) [] ZR H' s'->RelV v u->Q v H'->CE outer P w H s Q u s':=
  λ{ZR H' v u} d p q=>⟨v,H',d.os,d.bare,d.base,d.ZJ,p,q⟩
 cases Y with
 |ret u=>
  let⟨v,ZR,H',d,p,q⟩:=hs;exact i d p q
 |next=>
  let⟨ZR,H',d,q⟩:=hs;exact i (v:=V.ZL) (u:=Value.none) d rfl q
 |brk=>
  let⟨_,_,_,q⟩:=hs;exact False.elim q
 |cont=>
  let⟨_,_,_,q⟩:=hs;exact False.elim q
end L2
variable{CX:L2.XN}
namespace L2
open PySem PySem.Spec PyProof.Rows
section
variable{p:Pos}{t:TA}{id T:String}{r:List V->Hp->VK->Prop}
def HP(r:List V->Hp->VK->Prop)(t:TA):TE:=λY H Q=>t Y H λvs H1=>r vs H1 Q
def pe_callB(j:CallR X (.builtin id) r)(i:Gl X x)(g:X.mg x=none)(d:bootBuiltins x=some (.builtin id))(k:PA X (e::es) t)(f:x ≠ "__name__":=by decide)(m:(x==("__debug__" : Str))=false:=by decide)
  (he:starEach (e::es) X.env=(false,eval e X.env)::starEach es X.env:=by rfl) (l:(backTo pos (starEach es X.env)).any (·.1)=false:=by rfl):PE X (.Call (.Name x p) (e::es) [] pos) (HP r t):=by
 intro O s Y H Q I h;refine RN (eM I i g d ?_ f m);exact PyProof.Rows.callWith_builtin1 (thn (k pos O s Y H _ I h) λS a ⟨vs,H1,n,b,c⟩=>j O a Y H1 vs S Q n b c) he l
def pe_callTy(j:CallR X (.type T) r)(i:Gl X x)(g:X.mg x=none)(d:bootBuiltins x=some (.type T))(k:PA X (e::es) t)(f:x ≠ "__name__":=by decide)(m:(x==("__debug__" : Str))=false:=by decide)
  (he:starEach (e::es) X.env=(false,eval e X.env)::starEach es X.env:=by rfl) (l:(backTo pos (starEach es X.env)).any (·.1)=false:=by rfl):PE X (.Call (.Name x p) (e::es) [] pos) (HP r t):=by
 intro O s Y H Q I h;refine RN (eM I i g d ?_ f m);exact Pn (thn (k pos O s Y H _ I h) λS a ⟨vs,H1,n,b,c⟩=>j O a Y H1 vs S Q n b c) he l
end
end L2
namespace HT
open PySem PyProof.Rows
section
variable{E:Value->Shared->Prop}
def sIx(n d:Nat):Option Int->Nat
 |none=>d
 |some v=>if v<0 then(v+(n:Int)).toNat else min v.toNat n
def aaO(n d:Nat)(b:d<=n)(o:Option Int):sIx n d o<=n:=by
 cases o with
 |none=>exact b
 |some v=>
  show(if v<0 then(v+(n:Int)).toNat else min v.toNat n)<=n
  by_cases a:v<0
  .rw [YC a];lia
  .rw [Yj a];exact Nat.min_le_right _ _
def lC(v:Int)(n d:Nat):(if v<0 then max (v+(n:Int)) 0 else min v (n:Int))=((sIx n d (some v):Nat):Int):=by
 show(if v<0 then max (v+(n:Int)) 0 else min v (n:Int))=(((if v<0 then(v+(n:Int)).toNat else min v.toNat n):Nat):Int)
 by_cases a:v<0
 .simp only [YC a];lia
 .simp only [Yj a];lia
def vF(lo hi:Option Int)(n:Nat):Builtin.Slice.sliceAdjust lo hi 1 (n:Int)=(((sIx n 0 lo:Nat):Int),((sIx n n hi:Nat):Int)):=by
 have h1 : ¬ ((1:Int)<0):=by lia
 unfold Builtin.Slice.sliceAdjust;simp![h1,W6];refine OG ?_ ?_
 .cases lo with
  |none=>rfl
  |some v=>exact lC v n 0
 .cases hi with
  |none=>rfl
  |some v=>exact lC v n n
def vf(i j:Nat):Builtin.Slice.slicePlaces (i:Int) (j:Int) 1=j-i:=by
 unfold Builtin.Slice.slicePlaces;have h1:(1:Int) > 0:=by lia
 simp![h1,Uc,Int.ediv_one];split<;>lia
def jc{v:Value}{o:Option Int}{Q:Option Int->Shared->Prop}(p:IsPart v o)(h:Q o s):wpAny (model prog w) A (Builtin.Slice.slicePartIndex v) Q E s:=by
 cases p with
 |none=>exact slicePart_none h
 |int i t=>exact slicePart_int h
def um{g:Addr}{c a:Value}{lo hi:Option Int}{Q:Int×Int×Nat->Shared->Prop}(k:s.heap.IsSliceOf g c a .none)(pl:IsPart c lo)(j:IsPart a hi)
  (h:Q (((sIx n 0 lo:Nat):Int),1,sIx n n hi-sIx n 0 lo) s):wpAny (model prog w) A (Builtin.Slice.sliceApplied (.ref g) (pure (n:Int))) Q E s:=by
 let⟨os,f,o,d⟩:=id k;unfold Builtin.Slice.sliceApplied Builtin.Slice.sliceFields;refine ZB (ZB (wpAny_field f d (x:=c) rfl (ZB (wpAny_field f d (x:=a) rfl (ZB (wpAny_field f d (x:=.none) rfl (ZP ?_)))))));refine ZB (slicePart_none ?_);show wpAny _ _ (if((1:Int)==0)=true then _ else _) _ _ s
 rw[Yj #[1]]
 refine ZB (jc pl (ZB (jc j (ZB (ZP ?_)))));show wpAny _ _ (match Builtin.Slice.sliceAdjust lo hi 1 (n:Int)with|(lo,hi)=>pure (lo,(1:Int),Builtin.Slice.slicePlaces lo hi 1)) _ _ s
 rw[vF lo hi n];show wpAny _ _ (pure (((sIx n 0 lo:Nat):Int),(1:Int),Builtin.Slice.slicePlaces ((sIx n 0 lo:Nat):Int) ((sIx n n hi:Nat):Int) 1)) _ _ s;rw[vf];exact ZP h
def yx(xs:Array Value)(i k:Nat):((List.range k).filterMap λ(m:Nat)=>xs[((i:Int)+(m:Int)*1).toNat]?).toArray=((xs.toList.drop i).take k).toArray:=by
 have e:(λ(m:Nat)=>xs[((i:Int)+(m:Int)*1).toNat]?)=λm=>xs[i+m]?:=by
  funext m;have:((i:Int)+(m:Int)*1).toNat=i+m:=by lia
  rw[this]
 rw[e];have:=pick_run xs i k;rw[List.filterMap_map]at this;have a:((λx=>xs[x]?) ∘ λx=>i+x)=λm=>xs[i+m]?:=rfl;rw[a]at this;rw[this]
def getItem_tuple_cut{t d:Addr}{items:Array Value}{j g:Value}{lo hi:Option Int}{Q:Value->Shared->Prop}(a:IsTup s.heap t items)(k:s.heap.IsSliceOf d j g .none)(pl:IsPart j lo)(o:IsPart g hi)
  (hw : ¬ (sIx items.size 0 lo=0/\sIx items.size items.size hi=items.size))
  (h:Q (.ref s.heap.objs.size) {s with heap:=s.heap.push {cls:=.type "tuple",data:=.seq ((items.toList.drop (sIx items.size 0 lo)).take (sIx items.size items.size hi-sIx items.size 0 lo)).toArray}})
  (hsz:items.size<=sizeLine):wpAny (model prog w) A (getItem (.ref t) (.ref d)) Q E s:=by
 have c:sizeOk (.seq ((items.toList.drop (sIx items.size 0 lo)).take (sIx items.size items.size hi-sIx items.size 0 lo)).toArray):=by
  show((items.toList.drop (sIx items.size 0 lo)).take (sIx items.size items.size hi-sIx items.size 0 lo)).toArray.size<=sizeLine;rw[Xl,WV,Vw,Xh];omega
 have C:sIx items.size items.size hi<=items.size:=aaO _ _ (GB _) hi;let⟨os,y,r,D⟩:=id k;have f:s.TypeIs (.ref d) "slice":=⟨os,y,r⟩;unfold getItem
 try with_reducible refine VO ?_
 first|refine ZB (ZP ?_)|skip
 refine ZB (wpAny_sequenceKey a.typeIs #[1] ?_)
 refine ZB (Rb (name:=Str.ofString "__getitem__") a.typeIs QW
  (UA QW a.typeIs entry_tuple_getitem ?_ (args_tuple_getitem _ _)))
 show wpAny _ _ (Builtin.Tuple.tupleItemsOf (.ref t) >>= _) _ _ s;refine ZB (tupleItemsOf_ a ?_);refine ZB (wpAny_typeOf f ?_);rw[YC #[1]]
 refine ZB (um k pl o ?_);have u : ¬ ((((sIx items.size 0 lo:Nat):Int)==0&&(1:Int)==1&&(sIx items.size items.size hi-sIx items.size 0 lo)==items.size)=true):=by
  intro q;rw[Yb,Yb]at q;have B:((sIx items.size 0 lo:Nat):Int)=0:=eq_of_beq q.1.1;have z:sIx items.size items.size hi-sIx items.size 0 lo=items.size:=eq_of_beq q.2;exact hw ⟨by lia,by omega⟩
 show wpAny _ _ (if(((sIx items.size 0 lo:Nat):Int)==0&&(1:Int)==1&&(sIx items.size items.size hi-sIx items.size 0 lo)==items.size)=true then _ else _) _ _ s
 rw[Yj u,yx]
 first
  |exact ZB (m:=Builtin.Tuple.tupleExact _) (VS (ZP ⟨_,rfl,ZP h⟩) c)
  |exact ZB (m:=Builtin.Tuple.tupleExact _) (VS (ZB (ZP (ZP ⟨_,rfl,ZP h⟩))) c)
  |exact ZB (ZB (m:=Builtin.Tuple.tupleExact _) (VS (ZP (ZP ⟨_,rfl,ZP h⟩)) c))
  |exact ZB (ZB (m:=Builtin.Tuple.tupleExact _) (VS (ZP ⟨_,rfl,ZP h⟩) c))
end
end HT
namespace L2
open PySem PySem.Spec PyProof.Rows
abbrev TO:=St->Hp->(Option Int->Hp->Prop)->Prop
def PO(X:Cx)(e:Option Expr)(t:TO):Prop:=
 ∀(O:List (Addr×Obj)) (s:Shared) (Y:St) (H:Hp) (Q:Option Int->Hp->Prop),Z0 X O Y H s->t Y H Q ->
  wpAny (model X.prog X.w) X.A (evalPart e X.env) (λu s'=>∃o H',Z0 X O Y H' s'/\IsPart u o/\Q o H') X.xe s
def F6:TO:=λ_ H Q=>Q none H
def Gv(t:TE):TO:=λY H Q=>t Y H λx H1=>∃i,x=.int i/\Q (some i) H1
section
variable{lo hi:Option Expr}{tl th:TO}{p2:Pos}
def y2:PO X none F6:=by
 intro O s Y H Q I h;rw[evalPart_none];exact ZP ⟨none,H,I,.none,h⟩
def zQ(h:PE X e te):PO X (some e) (Gv te):=by
 intro O s Y H Q I c;rw[evalPart_some];refine thn (h O s Y H _ I c) ?_;rintro u f ⟨x,H1,d,a,b⟩;let⟨i,rfl,q⟩:=b;let⟨t,rfl⟩:=a;exact⟨some i,H1,d,.int i t,q⟩
def SlR(X:Cx)(r:V->Option Int->Option Int->Hp->VK->Prop):Prop:=
 ∀(O:List (Addr×Obj)) (s:Shared) (Y:St) (H:Hp) (x:V) (v b a:Value) (lo hi:Option Int) (c:Addr) (Q:VK),Z0 X O Y H s->RelV x v->s.heap.IsSliceOf c b a .none->IsPart b lo->IsPart a hi->r x lo hi H Q ->
  ∃T id,typeLookup (.type T) "__getitem__" = pure (some (.builtin id))/\s.TypeIs v T/\wpAny (model X.prog X.w) X.A (getItem v (.ref c)) (EP X O Y Q) X.xe s
def SlR.or{r e:V->Option Int->Option Int->Hp->VK->Prop}(h:SlR X r)(h':SlR X e):SlR X (λx lo hi H Q=>r x lo hi H Q\/e x lo hi H Q):=by
 intro O s Y H x v b a lo hi c Q I d hs pl f q;rcases q with q|q
 .exact h O s Y H x v b a lo hi c Q I d hs pl f q
 .exact h' O s Y H x v b a lo hi c Q I d hs pl f q
def HQ(r:V->Option Int->Option Int->Hp->VK->Prop)(c:TE)(a b:TO):TE:=λY H Q=>c Y H λx H1=>a Y H1 λl H2=>b Y H2 λu H3=>r x l u H3 Q
def xN{r:V->Option Int->Option Int->Hp->VK->Prop}(z:SlR X r)(D:PE X e te)(B:PO X lo tl)(t:PO X hi th):PE X (.Subscript e (.Slice lo hi none p2) pos) (HQ r te tl th):=by
 intro O s Y H Q I h;refine Subscript_ (thn (D O s Y H _ I h) ?_);rintro v f ⟨x,H1,K,g,o⟩;refine wpAny_Slice (thn (B O f Y H1 _ K o) λc d ⟨l,H2,J,pl,k⟩=>thn (t O d Y H2 _ J k) ?_);rintro a s3 ⟨u,H3,G,pu,j⟩;rw[evalPart_none];refine ZP ?_;have F:Z0 X O Y H3 {s3 with heap:=s3.heap.push {cls:=.type "slice",data:=.fields #[c,a,.none]}}:=G.kept (t':=s3.toks) λb ob q=>Gx _ q
 let⟨T,id,E,y,C⟩:=z O {s3 with heap:=s3.heap.push {cls:=.type "slice",data:=.fields #[c,a,.none]}} Y H3 x v c a l u s3.heap.objs.size Q F g (Heap.IsSliceOf.new ..) pl pu j
 show wpAny (model X.prog X.w) X.A (subscriptTail e (.Slice lo hi none p2) v (.ref s3.heap.objs.size)) (EP X O Y Q) X.xe {s3 with heap:=s3.heap.push {cls:=.type "slice",data:=.fields #[c,a,.none]}}
 exact tail_any (ops:=[.ref s3.heap.objs.size,v]) y E C (by with_unfolding_all rfl)
def BE(xs:List V)(lo hi:Option Int):List V:=(xs.drop (HT.sIx xs.length 0 lo)).take (HT.sIx xs.length xs.length hi-HT.sIx xs.length 0 lo)
def iQ(xs:List V)(lo hi:Option Int):(BE xs lo hi).length<=xs.length:=by
 unfold BE;rw[WV,Vw];omega
def HR(K:GJ):V->Option Int->Option Int->Hp->VK->Prop:=λx lo hi H Q=>∃a xs,x=.ref a/\SqT K H a xs /\
 ¬ (HT.sIx xs.length 0 lo=0/\HT.sIx xs.length xs.length hi=xs.length) /\∀p,H p=none->Q (.ref p) (upd H p (.ZX (BE xs lo hi)))
def acN:SlR X (HR X.K):=by
 intro O s Y H x v l k lo hi m Q I f hs pl g h;let⟨a,xs,rfl,i,j,q⟩:=h;cases f;let⟨ZV,r,e,d⟩:=I.tuple i;have c:ZV.toArray.size=xs.length:=by rw[Xl];exact r.length.symm
 refine⟨"tuple",_,PyProof.Rows.slot_tuple_getitem.lookup,e.typeIs,?_⟩;refine HT.getItem_tuple_cut e hs pl g (by rw[c];exact j) ?_ (by rw[c];exact d)
 rw[c];refine⟨.ref s.heap.objs.size,_,I.laid (t':=s.toks) (o:=.ZX (BE xs lo hi)) (λb ob q=>Gx _ q) (GB _) ?_,rfl,q _ (I.ZJ.fresh (GB _))⟩;exact⟨Gz (iQ xs lo hi) d,_,(r.drop (HT.sIx xs.length 0 lo)).take (HT.sIx xs.length xs.length hi-HT.sIx xs.length 0 lo),IsTup.new _ _⟩
end
end L2
namespace L2
open PySem PySem.Spec PyProof.Rows
def ixN(n:Nat)(i:Int):Option Nat:=if 0<=i then(if i<n then some i.toNat else none)else if -(n:Int)<=i then some (i+n).toNat else none
def atI{a:Type}(xs:List a)(i:Int):Option a:=(ixN xs.length i).bind λj=>xs[j]?
def mH{i:Int}(h:ixN n i=some j):seqIndex? i n=some j/\j<n /\ -(n:Int)<=i/\i<n:=by
 unfold ixN at h;by_cases a:0<=i
 .rw [YC a]at h
  by_cases h1:i<n
  .rw [YC h1]at h
   have e:i.toNat=j:=WE h;exact⟨by rw[seqIndex_of a h1,e],by omega,by lia,h1⟩
  .rw [Yj h1]at h;cases h
 .rw [Yj a]at h
  by_cases h1 : -(n:Int)<=i
  .rw [YC h1]at h
   have e:(i+n).toNat=j:=WE h;exact⟨by rw[seqIndex_neg (by lia) h1,e],by lia,h1,by lia⟩
  .rw [Yj h1]at h;cases h
def lO{xs:List α}{i:Int}{v:α}(h:atI xs i=some v):∃j,seqIndex? i xs.length=some j/\xs[j]?=some v/\j<xs.length /\ -(xs.length:Int)<=i/\i<xs.length:=by
 unfold atI at h;cases e:ixN xs.length i with
 |none=>rw[e]at h;cases h
 |some j=>
  rw[e]at h;let⟨h1,h2,b,a⟩:=mH e;exact⟨j,h1,h,h2,b,a⟩
def DG(b:Expr):Prop:=∀o i,subscripted b false o i=operate [o,i] (getItem o i)
def IxR(X:Cx)(r:R2):Prop:=
 ∀(value slice:Expr) (O:List (Addr×Obj)) (s:Shared) (Y:St) (H:Hp) (x y:V) (v u:Value) (Q:VK),Z0 X O Y H s->RelV x v->RelV y u->r x y H Q ->
  subscripted slice false v u=operate [v,u] (getItem v u)->wpAny (model X.prog X.w) X.A (subscriptTail value slice v u) (EP X O Y Q) X.xe s
def MtR(X:Cx)(a:String)(r:V->List V->Hp->VK->Prop):Prop:=
 ∀(O:List (Addr×Obj)) (s:Shared) (Y:St) (H:Hp) (x:V) (xs:List V) (v:Value) (S:List Value) (Q:VK),Z0 X O Y H s->RelV x v->ZH xs S->r x xs H Q ->
  wpAny (model X.prog X.w) X.A (call (.builtin a) (v::S)) (EP X O Y Q) X.xe s
section
variable{a b:Expr}{tb:TE}
def IxR.or{r c:R2}(h:IxR X r)(h':IxR X c):IxR X (λx y H Q=>r x y H Q\/c x y H Q):=by
 intro value slice O s Y H x y v u Q I b a q hs;rcases q with q|q
 .exact h value slice O s Y H x y v u Q I b a q hs
 .exact h' value slice O s Y H x y v u Q I b a q hs
def adw{r:R2}(g:IxR X r)(j:PE X a ta)(i:PE X b tb)(f:DG b):PE X (.Subscript a b pos) (HE r ta tb):=by
 intro O s Y H Q I h;exact Subscript_ (iB j i I h λv u c x y H2 k e d q=>g a b O c Y H2 x y v u Q k e d q (f _ _))
def HS(K:GJ):R2:=λx y H Q=>∃p xs i v,x=.ref p/\y=.int i/\SqL K H p xs/\atI xs i=some v/\Q v H
def HU(K:GJ):R2:=λx y H Q=>∃p xs i v,x=.ref p/\y=.int i/\SqT K H p xs/\atI xs i=some v/\Q v H
def aaj:IxR X (HS X.K):=by
 intro value slice O s Y H x y v u Q I f e h hs;let⟨p,xs,i,z,rfl,rfl,g,k,q⟩:=h;cases f;let⟨t,rfl⟩:=e;let⟨ZV,r,pl,o⟩:=I.list g;let⟨j,h1,h2,A,m,l⟩:=lO k;let⟨w,d,n⟩:=r.get h2;have hl:=r.length;have hn:=cQ;have a:EP X O Y Q w s:=⟨z,H,I,n,q⟩;by_cases c:0<=i
 .have b:i.toNat=j:=by
   rw[seqIndex_of c l]at h1;exact WE h1
  exact item_listR pl.isList c (by lia) (by rw[b];simpa using d) a hs
 .have b:(i+(ZV.toArray.size:Int)).toNat=j:=by
   rw[seqIndex_neg (by lia) m]at h1
   rw[Xl,<-hl];exact WE h1
  exact subscriptTail_builtinR (x:=w) pl.isList.typeIs slot_list_getitem.lookup
   (wpAny_getItem_list_neg (Q:=λr s'=>r=w/\EP X O Y Q r s') pl.isList () (by rw[Xl]<;>lia) (by lia) (by rw[b];simpa using d) ⟨rfl,a⟩) hs
def ac5:IxR X (HU X.K):=by
 intro value slice O s Y H x y v u Q I c b h hs;let⟨p,xs,i,z,rfl,rfl,d,e,q⟩:=h;cases c;let⟨t,rfl⟩:=b;let⟨ZV,r,pl,k⟩:=I.tuple d;let⟨j,h1,h2,n,m,l⟩:=lO e;let⟨w,f,g⟩:=r.get h2;have hl:=r.length;have hn:=cQ;have a:EP X O Y Q w s:=⟨z,H,I,g,q⟩;exact subscriptTail_builtinR (x:=w) pl.typeIs slot_tuple_getitem.lookup
  (getItem_tuple (j:=j) (Q:=λr s'=>r=w/\EP X O Y Q r s') pl (by lia) (by lia) (by rw[Xl,<-hl];exact h1) (by simpa using f) ⟨rfl,a⟩) hs
def vw(a:List Value)(n j:Nat)(u:Value):Obj.mapSeq (·.setIfInBounds j u) {cls:=.type "list",data:=.seq a.toArray n}={cls:=.type "list",data:=.seq (a.set j u).toArray n}:=by
 simp[Obj.mapSeq]
def Z0.M{O:List (Addr×Obj)}{Y:St}{H:Hp}{s:Shared}{p:Addr}{xs:List V}(I:Z0 X O Y H s)(h:H p=some (.M xs)):
  ∃(ZV:List Value) (n:Nat),ZH xs ZV/\s.heap.get? p=some {cls:=.type "list",data:=.seq ZV.toArray n}/\xs.length<=sizeLine:=by
 let⟨z,ZV,n,r,e⟩:=I.ZJ p _ h;exact⟨ZV,n,r,e,z⟩
def Z0.Sg{Y:St}{p:Addr}{xs a:List V}{its':List Value}{c:Nat}{f:Obj->Obj}(I:Z0 X O Y H s)(h:H p=some (.M xs))
  (i:s.heap.get? p=some {cls:=.type "list",data:=.seq ZV.toArray n}) (d:f {cls:=.type "list",data:=.seq ZV.toArray n}={cls:=.type "list",data:=.seq its'.toArray c}) (r:ZH a its') (g:a.length<=sizeLine) (t:Nat) :
  Z0 X O Y (upd H p (.M a)) {s with heap:=s.heap.update p f,toks:=t}:=by
 have e:(s.heap.update p f).get? p=some {cls:=.type "list",data:=.seq its'.toArray c}:=by
  rw[Rn f i (by rw[d]<;>rfl),d]
 refine I.write (x:=p) (e:=p) (by rw[h];trivial) (.inl rfl) (λb u j q=>(Rh _ _ (Ne.symm j)).trans q) ⟨_,e⟩ ?_
 exact⟨g,its',c,r,e⟩
def Gj:V->V->V->Hp->(Hp->Prop)->Prop:=λo i v H Q=>∃p xs k j,o=.ref p/\i=.int k/\H p=some (.M xs)/\ixN xs.length k=some j/\Q (upd H p (.M (xs.set j v)))
def set_list:Cd X Gj:=by
 intro O s Y H o i v x y u Q I g l f h;let⟨p,xs,k,j,rfl,rfl,a,w,q⟩:=h;cases g;let⟨t,rfl⟩:=l;let⟨ZV,n,r,ho,m⟩:=I.M a;let⟨h1,h2,c,b⟩:=mH w;have hl:=r.length;have hn:=cQ;have e:Z0 X O Y (upd H p (.M (xs.set j v))) {s with heap:=s.heap.update p (Obj.mapSeq (·.setIfInBounds j u))}:=
  I.Sg a ho (vw ZV n j u) (r.set f j) (by rw[Pe];exact m) s.toks
 by_cases d:0<=k
 .have hk:k.toNat=j:=by
   rw[seqIndex_of d b]at h1;exact WE h1
  exact PySem.W.ki_setAt ho d (by lia) (by rw[Xl,<-hl];exact b) (by rw[hk];exact⟨_,e,q⟩)
 .have hk:(k+(ZV.toArray.size:Int)).toNat=j:=by
   rw[seqIndex_neg (by lia) c]at h1
   rw[Xl,<-hl];exact WE h1
  exact PySem.W.ki_setBack ho () (by rw[Xl,<-hl];exact c) (by lia) (by rw[hk];exact⟨_,e,q⟩)
def uF(lo hi:Option Int)(n:Nat):(sliceBounds lo hi none n).1=((HT.sIx n 0 lo:Nat):Int)/\(sliceBounds lo hi none n).2.1=((HT.sIx n n hi:Nat):Int)/\(sliceBounds lo hi none n).2.2=1:=by
 refine⟨?_,?_,rfl⟩
 .cases lo with
  |none=>simp[sliceBounds,HT.sIx]
  |some i=>
   simp![sliceBounds,HT.sIx,PZ,show(1:Int) > 0 by decide,Uc]
   by_cases h:i<0
   .simp only [h,Uc]<;>lia
   .simp only [h,W6]<;>lia
 .cases hi with
  |none=>simp[sliceBounds,HT.sIx]
  |some i=>
   simp![sliceBounds,HT.sIx,PZ,show(1:Int) > 0 by decide,Uc]
   by_cases h:i<0
   .simp only [h,Uc]<;>omega
   .simp only [h,W6]<;>omega
def uy(a:List Value)(lo hi:Option Int):slicePick a.toArray lo hi none=((a.drop (HT.sIx a.length 0 lo)).take (HT.sIx a.length a.length hi-HT.sIx a.length 0 lo)).toArray:=by
 let⟨h1,h2,b⟩:=uF lo hi a.toArray.size;unfold slicePick;rw[h1,h2,b];simp![sliceRange_one,pick_run,Xl]<;>rfl
def HV(K:GJ):V->Option Int->Option Int->Hp->VK->Prop:=λx lo hi H Q=>∃a xs,x=.ref a/\SqL K H a xs /\∀p,H p=none->Q (.ref p) (upd H p (.M (BE xs lo hi)))
def zd:SlR X (HV X.K):=by
 intro O s Y H x v t k lo hi u Q I d hs pl f h;let⟨a,xs,rfl,j,q⟩:=h;cases d;let⟨ZV,r,c,g⟩:=I.list j;have hlen:=r.length;refine⟨"list",_,slot_list_getitem.lookup,c.isList.typeIs,?_⟩;refine wpAny_getItem_list_slice c.isList hs pl f .none #[3] ?_ (by rw[Xl]<;>lia)
 rw[uy,<-hlen];refine⟨.ref s.heap.objs.size,_,I.laid (t':=s.toks) (o:=.M (BE xs lo hi)) (λb ob q=>Gx _ q) (GB _) ?_,rfl,q _ (I.ZJ.fresh (GB _))⟩;exact⟨Gz (iQ xs lo hi) g,_,0,(r.drop (HT.sIx xs.length 0 lo)).take (HT.sIx xs.length xs.length hi-HT.sIx xs.length 0 lo),GG _ rfl⟩
def C3:V->Bool
 |.ZL=>true
 |.bl _=>true
 |.int _=>true
 |.str _=>true
 |_=>false
def HW:V->V->Bool
 |.ZL,.ZL=>true
 |.bl a,.bl b=>a==b
 |.bl a,.int b=>(if a then 1 else 0)==b
 |.int a,.bl b=>a==(if b then 1 else 0)
 |.int a,.int b=>a==b
 |.str a,.str b=>a==b
 |_,_=>false
def gM{y x:V}{u v:Value}(d:RelV y u)(c:RelV x v)(f:C3 y=true)(e:C3 x=true):SeqAt.EqAt A s u v (HW y x):=by
 cases y with
 |ZL=>
  cases d;cases x with
  |ZL=>cases c;exact Oh _
  |bl b=>cases c;exact SeqAt.EqAt.none_bool b
  |int b=>let⟨t,rfl⟩:=c;exact SeqAt.EqAt.none_int b t
  |str b=>let⟨t,rfl⟩:=c;exact SeqAt.EqAt.none_str b t
  |_=>exact absurd (show false=true from e) GA
 |bl a=>
  cases d;cases x with
  |ZL=>cases c;exact SeqAt.EqAt.bool_none a
  |bl b=>cases c;exact SeqAt.EqAt.bool_bool a b
  |int b=>let⟨t,rfl⟩:=c;exact SeqAt.EqAt.bool_int a b t
  |str b=>let⟨t,rfl⟩:=c;exact SeqAt.EqAt.bool_str a b t
  |_=>exact absurd (show false=true from e) GA
 |int a=>
  let⟨t',rfl⟩:=d;cases x with
  |ZL=>cases c;exact SeqAt.EqAt.int_none a t'
  |bl b=>cases c;exact SeqAt.EqAt.int_bool a t' b
  |int b=>let⟨t,rfl⟩:=c;exact SeqAt.EqAt.int_int a t' b t
  |str b=>let⟨t,rfl⟩:=c;exact SeqAt.EqAt.int_str a t' b t
  |_=>exact absurd (show false=true from e) GA
 |str a=>
  let⟨t',rfl⟩:=d;cases x with
  |ZL=>cases c;exact SeqAt.EqAt.str_none a t'
  |bl b=>cases c;exact SeqAt.EqAt.str_bool a t' b
  |int b=>let⟨t,rfl⟩:=c;exact SeqAt.EqAt.str_int a t' b t
  |str b=>let⟨t,rfl⟩:=c;exact SeqAt.EqAt.str_str a t' b t
  |_=>exact absurd (show false=true from e) GA
 |_=>exact absurd (show false=true from f) GA
def call_len_seq:CallR X (.builtin "len") (λxs H Q=>∃p ys,xs=[.ref p]/\(SqL X.K H p ys\/SqT X.K H p ys)/\Q (.int ys.length) H):=by
 intro O s Y H xs S Q I r h;let⟨p,ys,rfl,a,q⟩:=h;let⟨u,rfl,b⟩:=Oq r;cases b;have hn:=cQ;rcases a with a|a
 .obtain ⟨ZV,r',pl,c⟩:=I.list a
  have hlen:=r'.length;exact Calls.call_len_list pl.isList (by simp![Xl]<;>lia) ⟨.int ys.length,H,I.tok _,⟨s.toks+1,by rw[Xl,hlen]⟩,q⟩
 .obtain ⟨ZV,r',pl,c⟩:=I.tuple a
  have hlen:=r'.length;exact len_tuple pl (by simp![Xl]<;>omega) ⟨.int ys.length,H,I.tok _,⟨s.toks+1,by rw[Xl,hlen]⟩,q⟩
def CallR.or{f:Value}{r a:List V->Hp->VK->Prop}(h:CallR X f r)(h':CallR X f a):CallR X f (λxs H Q=>r xs H Q\/a xs H Q):=by
 intro O s Y H xs S Q I rs q;rcases q with q|q
 .exact h O s Y H xs S Q I rs q
 .exact h' O s Y H xs S Q I rs q
def call_list_of:CallR X (.type "list") (λxs H Q=>∃p ys,xs=[.ref p]/\(SqL X.K H p ys\/SqT X.K H p ys) /\∀l,H l=none->Q (.ref l) (upd H l (.M ys))):=by
 intro O s Y H xs S Q I r h;let⟨p,ys,rfl,d,q⟩:=h;let⟨u,rfl,k⟩:=Oq r;cases k;have f:∀(ZV:List Value),ZH ys ZV->ys.length<=sizeLine ->∀(h':Heap) (c':Nat),(∀b o',s.heap.get? b=some o'->h'.get? b=some o') ->
   h'.get? s.heap.objs.size=some {cls:=.type "list",dict:=none,data:=.seq ZV.toArray c',slots:=#[]}->EP X O Y Q (.ref s.heap.objs.size) {s with heap:=h'}:=λZV r' c h' c' a e=>
  ⟨.ref s.heap.objs.size,_,I.laid (t':=s.toks) a (GB _) (show ObjOk X.prog X.w _ h' _ (.M ys)from⟨c,ZV,c',r',e⟩),rfl,q _ (I.ZJ.fresh (GB _))⟩
 rcases d with d|d
 .obtain ⟨ZV,r',pl,c⟩:=I.list d
  have hlen:=r'.length;let⟨o,ho,j,n,g⟩:=pl.isList;exact call_list_seq p (.inl rfl) ho j g (λh' c' a e=>f ZV r' c h' c' a e) (by simp![Xl]<;>omega)
 .obtain ⟨ZV,r',pl,c⟩:=I.tuple d
  have hlen:=r'.length;let⟨o,ho,j,n,g⟩:=pl;exact call_list_seq p (.inr rfl) ho j g (λh' c' a e=>f ZV r' c h' c' a e) (by simp![Xl]<;>omega)
def call_tuple_of:CallR X (.type "tuple") (λxs H Q=>∃p ys,xs=[.ref p]/\((SqL X.K H p ys /\∀l,H l=none->Q (.ref l) (upd H l (.ZX ys)))\/(SqT X.K H p ys/\Q (.ref p) H))):=by
 intro O s Y H xs S Q I r h;let⟨p,ys,rfl,h⟩:=h;let⟨u,rfl,f⟩:=Oq r;cases f;rcases h with⟨a,q⟩|⟨a,q⟩
 .obtain ⟨ZV,r',pl,c⟩:=I.list a
  have hlen:=r'.length;refine call_tuple_list pl.isList (λh' g=>?_) (by simp![Xl]<;>omega)
  have d:Z0 X O Y H {s with heap:=h'}:=I.kept (t':=s.toks) g
  have i:Z0 X O Y (upd H h'.objs.size (.ZX ys)) {s with heap:=h'.push {cls:=.type "tuple",data:=.seq ZV.toArray}}:=
   d.laid (t':=s.toks) (λb o e=>Gx _ e) (GB _) (show ObjOk X.prog X.w _ _ _ (.ZX ys)from⟨c,ZV,r',IsTup.new _ _⟩)
  exact⟨.ref h'.objs.size,_,i,rfl,q _ (d.ZJ.fresh (GB _))⟩
 .obtain ⟨ZV,r',pl,c⟩:=I.tuple a
  exact call_tuple_same pl ⟨.ref p,H,I,rfl,q⟩
def HX(K:GJ)(T:String)(x:V)(H:Hp):Prop:=match x with
 |.str _=>T = "str"
 |.int _=>T = "int"
 |.ref p=>(T = "list" /\∃xs,SqL K H p xs)\/(T = "tuple" /\∃o,K.lookup p=some o/\o.cls=.type "tuple" /\ o.dict=none) \/
   (T = "dict" /\ ((∃Z4,H p=some (.dK Z4)) \/∃Z4,H p=some (.dT Z4)))\/(T = "set" /\∃Z6 n,H p=some (.set Z6 n))
 |_=>False
def nP{Y:St}{T:String}{x:V}{v:Value}(I:Z0 X O Y H s)(r:RelV x v)(b:HX X.K T x H):
  s.TypeIs v T /\∀a,v=.ref a ->∃f,s.heap.get? a=some f/\f.dict=none:=by
 cases x with
 |str z=>
  let⟨t,rfl⟩:=r;cases(show T = "str" from b);exact⟨typeIs_str s z t,λ_ e=>nomatch e⟩
 |int i=>
  let⟨t,rfl⟩:=r;cases(show T = "int" from b);exact⟨typeIs_int s i t,λ_ e=>nomatch e⟩
 |ref p=>
  cases r;rcases b with⟨rfl,xs,g⟩|⟨rfl,o,hk,h,hd⟩|⟨rfl,hk⟩|⟨rfl,Z6,n,hk⟩
  .obtain ⟨ZV,_,pl,_⟩:=I.list g
   refine⟨pl.isList.typeIs,λa e=>?_⟩;cases e;let⟨o,n,e,c,hd,_⟩:=pl;exact⟨o,e,hd⟩
  .refine ⟨⟨o,I.YR p o hk,h⟩,λa e=>?_⟩
   cases e;exact⟨o,I.YR _ o hk,hd⟩
  .have z:∃o,s.heap.get? p=some o/\o.ExactDict:=by
    rcases hk with⟨Z4,hk⟩|⟨Z4,hk⟩
    .obtain ⟨_,_,_,_,o,_,_,e,ex,_⟩:=I.ZJ p _ hk
     exact⟨o,e,ex⟩
    .obtain ⟨_,_,_,_,o,_,_,e,ex,_⟩:=I.ZJ p _ hk
     exact⟨o,e,ex⟩
   let⟨o,e,ex⟩:=z;refine⟨⟨o,e,ex.1⟩,λa d=>?_⟩;cases d;exact⟨o,e,ex.2.1⟩
  .obtain ⟨o,_,_,_,e,ex,_⟩:=I.ZJ p _ hk
   refine⟨⟨o,e,ex.1⟩,λa d=>?_⟩;cases d;exact⟨o,e,ex.2.1⟩
 |_=>exact False.elim b
def HY(K:GJ)(T:String)(r:V->List V->Hp->VK->Prop)(a:TE):TE:=λY H Q=>a Y H λx H1=>HX K T x H1/\r x [] H1 Q
def HZ(K:GJ)(T:String)(r:V->List V->Hp->VK->Prop)(a:TE)(t:TA):TE:=λY H Q=>a Y H λx H1=>HX K T x H1/\t Y H1 λxs H2=>r x xs H2 Q
variable{o:Expr}{to:TE}{t:TA}{name:Str}{T id:String}{r:V->List V->Hp->VK->Prop}
def abj(f:PlainAttrs T)(a:Slot T name id)(l:typeOf (.builtin id)=pure (.type "method_descriptor"))(i:MtR X id r)(g:PE X o to)
  (k:attributeBase o name X.env (eval o X.env)=eval o X.env:=by rfl) (j:(apos.endLine==Y_.line)=true:=by rfl):PE X (.Call (.Attribute o name apos) [] [] Y_) (HY X.K T r to):=by
 intro O s Y H Q I h;refine wpAny_Call_method0_late k j (thn (g O s Y H _ I h) ?_);rintro v d ⟨x,H1,c,b,ty,e⟩;let⟨h1,h2⟩:=nP c b ty;exact⟨T,id,f,a,l,h1,h2,Calls.callWith_builtin rfl (PySem.evalArgs_none (i O d Y H1 x [] v [] Q c b .nil e))⟩
def ad8(l:PlainAttrs T)(a:Slot T name id)(y:typeOf (.builtin id)=pure (.type "method_descriptor"))(p:MtR X id r)(n:PE X o to)(q:PA X (e::es) t)
  (w:attributeBase o name X.env (eval o X.env)=eval o X.env:=by rfl)
  (b:((backTo Y_ (starEach (e :: es) X.env)).all (λx => !x.1) && (backToKw Y_ (keywordEach [] X.env)).all (λx=>x.1.isSome)
   && decide ((e::es).length+([]:List Keyword).length+(if([]:List Keyword).isEmpty then 0 else 1)<30))=true:=by rfl)
  (u:(apos.endLine==Y_.line)=true:=by rfl) (m:starEach (e::es) X.env=(false,eval e X.env)::starEach es X.env:=by rfl) (z:(backTo Y_ (starEach es X.env)).any (·.1)=false:=by rfl) :
  PE X (.Call (.Attribute o name apos) (e::es) [] Y_) (HZ X.K T r to t):=by
 intro O s Y H Q I h;refine wpAny_Call_method_late w b u rfl (thn (n O s Y H _ I h) ?_);rintro v g ⟨x,H1,d,c,ty,k⟩;let⟨h1,h2⟩:=nP d c ty;refine⟨T,id,l,a,y,h1,h2,?_⟩;have hA:=q Y_ O g Y H1 _ d k;rw[m]at hA ⊢;refine Calls.callWith_builtin (by show(false||(backTo Y_ (starEach es X.env)).any (·.1))=false;rw[z]<;>rfl) (Calls.evalArgs_plain ?_)
 exact thn hA λS f ⟨vs,H2,A,i,j⟩=>p O f Y H2 x vs v S Q A c i j
end
end L2
namespace L2
open PySem PySem.Spec PyProof.Rows
def MtM(X:Cx)(a:String)(r:V->List V->Hp->VK->Prop):Prop:=
 ∀(O:List (Addr×Obj)) (s:Shared) (Y:St) (H:Hp) (x:V) (xs:List V) (v:Value) (S:List Value) (Q:VK),Z0 X O Y H s->RelV x v->ZH xs S->r x xs H Q ->
  wpAny (model X.prog X.w) X.A (call (.builtin a) (v::S)) (EP X O Y Q) X.xe s
def ZH.one:∀{x:V} {S:List Value},ZH [x] S ->∃u,S=[u]/\RelV x u
 |_,_,.cons r .nil=>⟨_,rfl,r⟩
def ZH.zero:∀{S:List Value},ZH [] S->S=[]
 |_,.nil=>rfl
def ZH.dropLast{xs:List V}{S:List Value}(h:ZH xs S):ZH xs.dropLast S.dropLast:=by
 induction h with
 |nil=>exact .nil
 |cons r t ih=>
  cases t with
  |nil=>exact .nil
  |cons q t'=>exact .cons r ih
def ZH.eraseIdx:∀{xs:List V} {S:List Value} (i:Nat),ZH xs S->ZH (xs.eraseIdx i) (S.eraseIdx i)
 |_,_,_,.nil=>.nil
 |_,_,0,.cons _ t=>t
 |_,_,i+1,.cons r t=>.cons r (ZH.eraseIdx i t)
def ZH.reverse{xs:List V}{S:List Value}(h:ZH xs S):ZH xs.reverse S.reverse:=by
 induction h with
 |nil=>exact .nil
 |cons r t ih=>rw[Ql,Ql];exact ZH.append ih (.cons r .nil)
def vb(l:List α):l.eraseIdx (l.length-1)=l.dropLast:=by
 induction l with
 |nil=>rfl
 |cons a r ih=>
  cases r with
  |nil=>rfl
  |cons b r=>
   have e:(a::b::r).length-1=((b::r).length-1)+1:=by
    have h1:(a::b::r).length=r.length+2:=rfl;have h2:(b::r).length=r.length+1:=rfl;lia
   rw[e,List.eraseIdx_cons_succ,ih]
   all_goals rfl
def jL{a:Type}:∀(l:List a) (i:Nat),(l.eraseIdx i).length<=l.length
 |[],_=>GB _
 |_::_,0=>VC _
 |_::r,i+1=>P1 (jL r i)
section
variable{Y:St}{l:Addr}{xs ys zs:List V}
def Z0.TK{its':List Value}{f:Array Value->Array Value}(I:Z0 X O Y H s)(h:H l=some (.M xs))
  (e:s.heap.get? l=some {cls:=.type "list",data:=.seq ZV.toArray n}) (d:f ZV.toArray=its'.toArray) (b:ZH ys its') (a:ys.length<=sizeLine) :
  Z0 X O Y (upd H l (.M ys)) {s with heap:=s.heap.update l (Obj.mapSeq f),toks:=t'}:=by
 have q:=PySem.IsL.update e f;rw[d]at q;refine I.write (x:=l) (e:=l) (by rw[h];exact trivial) (.inl rfl) (λb' u g c=>(Rh s.heap (Obj.mapSeq f) (Ne.symm g)).trans c) ⟨_,q⟩ ?_
 exact⟨a,its',_,b,q⟩
def Z0.lnew(I:Z0 X O Y H s)(b:ZH ys ZV)(a:ys.length<=sizeLine):
  Z0 X O Y (upd H s.heap.objs.size (.M ys)) {s with heap:=s.heap.push {cls:=.type "list",data:=.seq ZV.toArray},toks:=t'}:=
 I.laid (λ_ _ q=>Gx _ q) (GB _) ⟨a,ZV,0,b,GG _ rfl⟩
def Z0.fresh(I:Z0 X O Y H s):H s.heap.objs.size=none:=I.ZJ.fresh (GB _)
def Z0.VT(I:Z0 X O Y H s)(a:H l=some (.M xs)):xs.length<=sizeLine /\∃(ZV:List Value) (n:Nat),ZH xs ZV/\xs.length=ZV.length/\s.heap.get? l=some {cls:=.type "list",data:=.seq ZV.toArray n}:=by
 let⟨z,ZV,n,r,e⟩:=I.ZJ l _ a;exact⟨z,ZV,n,r,r.length,e⟩
def x6(h:n<=sizeLine):Builtin.List.listTooLong n=false:=by
 unfold Builtin.List.listTooLong;exact WY (by lia)
end
section
def F1:V->List V->Hp->VK->Prop:=λx vs H Q=>∃l xs y,x=.ref l/\vs=[y]/\H l=some (.M xs)/\xs.length<sizeLine/\Q .ZL (upd H l (.M (xs++[y])))
def jm:MtM X "list.append" F1:=by
 intro O s Y H x vs v S Q I c d h;let⟨l,xs,y,rfl,rfl,a,g,q⟩:=h;cases c;let⟨u,rfl,f⟩:=d.one;let⟨z,ZV,n,r,j,e⟩:=I.VT a;refine OF F.slot_list_append ⟨_,e,rfl⟩ F.entry_list_append (F.args_list_append_2 _ _) (PySem.list_append l ZV.toArray n u (by rw[Xl];lia)) ⟨e,?_⟩
 refine⟨.ZL,_,I.TK (its':=ZV++[u]) a e #[3] (r.append (.cons f .nil)) ?_,rfl,q⟩
 rw[Z1,TH];lia
def F5:V->List V->Hp->VK->Prop:=λx vs H Q=>∃l b xs zs,x=.ref l/\vs=[.ref b]/\H l=some (.M xs)/\H b=some (.M zs)/\xs.length+zs.length<=sizeLine/\Q .ZL (upd H l (.M (xs++zs)))
def wC:MtM X "list.extend" F5:=by
 intro O s Y H x vs v S Q I f g h;let⟨l,b,xs,zs,rfl,rfl,d,t,B,q⟩:=h;cases f;let⟨u,rfl,j⟩:=g.one;cases j;let⟨z,ZV,n,r,C,e⟩:=I.VT d;let⟨A,a,o,k,D,w⟩:=I.VT t;have c:ZV.toArray.size+a.toArray.size<=sizeLine:=by rw[Xl,Xl];lia
 have y : ¬ (!ZV.toArray.isEmpty&&Builtin.List.listTooLong (ZV.toArray.size+a.toArray.size))=true:=by
  rw[x6 c,Bool.and_false];exact GA
 refine OF F.slot_list_extend ⟨_,e,rfl⟩ F.entry_list_extend (F.args_list_extend_2 _ _)
  (AutoSeq1.list_extend_list_list_0 l ZV.toArray n b a.toArray o y (by rw[Xl];lia) (by lia)) ⟨e,w,?_⟩
 refine⟨.ZL,_,I.TK (its':=ZV++a) d e #[3] (r.append k) ?_,rfl,q⟩
 rw[Z1];lia
def rPop:V->List V->Hp->VK->Prop:=λx vs H Q=>∃l xs y,x=.ref l/\vs=[]/\H l=some (.M xs)/\xs[xs.length-1]?=some y/\Q y (upd H l (.M xs.dropLast))
def abJ:MtM X "list.pop" rPop:=by
 intro O s Y H x vs v S Q I b c h;let⟨l,xs,y,rfl,rfl,a,f,q⟩:=h;cases b;have j:=c.zero;subst j;let⟨z,ZV,n,r,i,e⟩:=I.VT a;let⟨u,g,d⟩:=r.get f;have k:ZV.toArray[ZV.toArray.size-1]?=some u:=by
  show ZV.toArray[ZV.length-1]?=some u;rw[<-WN,<-i];exact g
 refine OF F.slot_list_pop ⟨_,e,rfl⟩ F.entry_list_pop (F.args_list_pop_1 _) (MeetsSeq.list_pop_last l ZV.toArray n u k (by rw[Xl];lia)) ⟨e,?_⟩
 refine⟨y,_,I.TK (its':=ZV.dropLast) a e ?_ r.dropLast ?_,d,q⟩
 .show ZV.toArray.eraseIdxIfInBounds (ZV.toArray.size-1)=ZV.dropLast.toArray
  rw[Xl,QX,vb]
 .rw [List.length_dropLast]
  omega
def Gc:V->List V->Hp->VK->Prop:=λx vs H Q=>∃l xs i k y,x=.ref l/\vs=[.int i]/\H l=some (.M xs) /\ -(2 ^ 63)<=i/\i<2 ^ 63/\seqIndex? i xs.length=some k/\xs[k]?=some y/\Q y (upd H l (.M (xs.eraseIdx k)))
def yc:MtM X "list.pop" Gc:=by
 intro O s Y H x vs v S Q I b c h;let⟨l,xs,i,k,y,rfl,rfl,a,h1,h2,hk,f,q⟩:=h;cases b;let⟨u,rfl,d⟩:=c.one;let⟨t,rfl⟩:=d;let⟨z,ZV,n,r,j,e⟩:=I.VT a;let⟨w,g,m⟩:=r.get f;refine OF F.slot_list_pop ⟨_,e,rfl⟩ F.entry_list_pop (F.args_list_pop_2 _ _)
  (MeetsSeq.list_pop_at l ZV.toArray n i t k w (fitsIndex_both h1 h2) (by rw[Xl,<-j];exact hk) (by rw[<-WN];exact g) (by rw[Xl];lia)) ⟨e,?_⟩
 refine⟨y,_,I.TK (its':=ZV.eraseIdx k) a e ?_ (r.eraseIdx k) ?_,m,q⟩
 .show ZV.toArray.eraseIdxIfInBounds k=(ZV.eraseIdx k).toArray
  rw[QX]
 .have:=jL xs k
  lia
def rCat:R2:=λx y H Q=>∃l b xs zs,x=.ref l/\y=.ref b/\H l=some (.M xs)/\H b=some (.M zs)/\xs.length+zs.length<=sizeLine /\∀p,H p=none->Q (.ref p) (upd H p (.M (xs++zs)))
def ace:OpR X (binaryOp .Add) rCat:=by
 intro O s Y H x y v u Q I d c h;let⟨l,b,xs,zs,rfl,rfl,g,i,p,q⟩:=h;cases d;cases c;let⟨z,ZV,n,r,t,e⟩:=I.VT g;let⟨m,a,o,f,w,k⟩:=I.VT i;refine PySem.P.add_list e k ?_ (by rw[Xl,Xl];omega)
 have j:ZV.toArray++a.toArray=(ZV++a).toArray:=by simp
 rw[j];exact⟨.ref _,_,I.lnew (t':=s.toks) (r.append f) (by rw[Z1];omega),rfl,q _ I.fresh⟩
end
end L2
namespace Att
open PySem PySem.W PySem.Calls PyProof.Rows
def uo{P:Params}:∀(ns:List Int) (vs:List Value),WellAll P h vs (ns.map WData.int)->IntsAre vs ns:=by
 intro ns
 induction ns with
 |nil=>
  intro vs w;rw[QK]at w;cases w;exact .nil
 |cons n ns ih=>
  intro vs w;rw[YT]at w;cases w with
  |cons a b=>
   cases a;exact .cons _ _ (ih _ b)
def wo{l:OpenLaw}(y:l.most=some n){P:Params}{args:List WData}{c:List Value}
  (o:l.row.toRowW.claim.pre args=true) (j:WellAll P h c args) :
  ∃a vs ns,c=[Value.ref a]/\args=[WData.list (ns.map WData.int)]/\h.get? a=some {cls:=.type "list",data:=.seq vs.toArray}/\IntsAre vs ns/\ns.length<=n:=by
 have A:WShape.hasAll [] args [.list .int]=true:=(pre_splitW o).1;have k:l.pre.holds [] {args:=args}=true:=(pre_splitW o).2;let⟨d,r,rfl,h1,h2⟩:=hasAllW_cons A;obtain rfl:=hasAllW_nil h2;let⟨xs,rfl,z⟩:=hasW_list h1;let⟨ns,rfl⟩:=items_int z;have f:ns.length<=n:=by
  unfold OpenLaw.pre at k;have g:(WTm.not (.lt (.lit (.int (n:Int))) (.len (.arg 0)))).holds [] {args:=[.list (ns.map .int)]}=true:=by
   have g:=(holds_andW k).1;rw[y]at g;exact g
  have h5:=condW_of g (w_not (w_lt w_lit (w_len_list (w_arg rfl))));rw[Zz]at h5;refine Nat.le_of_not_lt λq=>?_;have w:(n:Int)<((ns.length:Nat):Int):=by omega
  first
   |(rw[Vo w]at h5;exact absurd h5 #[1])
   |(simp at h5;omega)
 cases j with
 |cons u t=>
  cases t;cases u with
  |list ho B=>exact⟨_,_,ns,rfl,rfl,ho,uo ns _ B,f⟩
def w5(l:OpenLaw)(args:List WData):l.row.toRowW.claim.post args (.bool true) args=true:=
 postW_of (r:=l.row.toRowW) (X:=(true==true))
  (show WShape.has [] (.bool true) .bool=true by first|rfl|decide|simp[WShape.has,WShape.arms,WShape.armsAll])
  (show(WTm.eq .res (.lit (.bool true))).value [] {args:=args,res:=some (.bool true),after:=args}=some (.bool (true==true))from w_eq_bool (w_res rfl) w_lit) rfl
def attach_call{l:OpenLaw}{q:Program}{loose:List Str}{XP:(Str->Option Value)->Heap->Prop}{YP:World->Heap->Prop}{d:DefRec}
  (F:l.most=some n) (A:d.params.defaults=[])
  (call:∀ (w:World) (Ze Zy : Shared) (mg u:Str->Option Value) (k:Addr) (o:Obj) (pm t g:Value) (a:Addr) (vs:List Value) (ns:List Int),
   Ground q loose [] XP w Ze mg u Zy.heap->YP w Zy.heap ->
   Zy.heap.get? k=some o->o.data=.func (docDef d.name d.params d.body d.scope pm t g)->Zy.heap.CodeRec t d.name->mg d.name=some (.ref k) ->
   Zy.heap.get? a=some {cls:=.type "list",data:=.seq vs.toArray}->IntsAre vs ns->ns.length<=n->Zy.gens = #[] ->
   codeAny (model l.prog w) callerA (.call (.ref k) ⟨[.ref a],[]⟩) (λr s'=>r=.ok (.ret (.bool true))/\OldK Zy.heap s'.heap/\s'.os=Zy.os/\AllBare s'.gens) Zy) :
  WalkO q loose XP YP l.row.toRowW d [] (λf vs=>PySem.call f vs):=by
 intro w Ze Zy mg u G Z_ k o pm t g M Hl ho J N C z I args vals Q P B D y R;obtain rfl:M=.none:=Dflts.none C A;obtain rfl:Hl=.none:=Dflts.noKw C;let⟨a,vs,ns,rfl,rfl,O,c,j⟩:=wo F P y;refine enter_call (Ru (call w Ze Zy mg u k o pm t g a vs ns G Z_ ho (fd_plain J) N z O c j I) λr s' E=>?_);let⟨rfl,h2,L,K⟩:=E;exact⟨.inl ⟨.bool true,.bool true,[],rfl,λ_=>rfl,.bool true,w5 l _,λ_=>⟨List.Pairwise.nil,λ_ H=>(nomatch H)⟩⟩,h2,L,K⟩
end Att
namespace L2
open PySem PySem.Spec PyProof.Rows
def fN:∀{vs:List Value} {ns:List Int},IntsAre vs ns->ZH (ns.map V.int) vs
 |_,_,.nil=>.nil
 |_,_,.cons n t h=>.cons ⟨t,rfl⟩ (fN h)
def C7(H:Hp):Prop:=∀b,H b=none \/∃o xs,H b=some (.Zt o (.M xs))
def xo{G:Str->Option Value}{k:Nat}{N:Addr}{x:Str}{sp:Sp}{Zy : Shared}{vs:List Value}
  (W:K.In Zy.heap) (A:Zy.heap.Ns mainGlobals mg) (c:Zy.heap.Ns builtinsNs G) (J:∀x:Str,x ≠ "__name__" -> G x=bootBuiltins x) (B:Zy.heap.NoLimit) (hg:Zy.gens = #[])
  (E:Zy.heap.get? a=some {cls:=.type "list",data:=.seq vs.toArray}) (hi:IntsAre vs ns) (Q:ns.length<=sizeLine) (hr:Y8 k callerA)
  (F:∀base:Heap,K.In base->base.Ns mainGlobals mg->YE P w K mg base CX k N fd [x] sp) (Sd:∀(s:Shared) (u:Value),BindsTo s fd ⟨[u],[]⟩ [(x,u)])
  (I:∀H:Hp,C7 H->SqL K H a (ns.map V.int)->sp [.ref a] H (λv _=>v=.bl true) λ_ _ _=>False)
  (L:∀H e s',CX [] H Zy (λ_ _ _=>False) e s'->False) :
  codeAny (model P w) callerA (.call (.ref N) ⟨[.ref a],[]⟩) (λr s'=>r=.ok (.ret (.bool true))/\OldK Zy.heap s'.heap/\s'.os=Zy.os/\AllBare s'.gens) Zy:=by
 have O:=fN hi;have t:=hi.length;have g:∀H:Hp,C7 H->SqL K H a (ns.map V.int)->HOk P w H Zy.heap->(∀b,H b≠none->b=a)->(H a≠none->K.lookup a=none) ->
   codeAny (model P w) callerA (.call (.ref N) ⟨[.ref a],[]⟩) (λr s'=>r=.ok (.ret (.bool true))/\OldK Zy.heap s'.heap/\s'.os=Zy.os/\AllBare s'.gens) Zy:=by
  intro H R hS U S hK;have base_of:∀{b:Addr} {o:Obj},Zy.heap.get? b=some o->H b=none->(Bu Zy.heap H).get? b=some o:=λe n=>x4 e n;have UK:∀{b:Addr} {o:Obj} {es:Array DictEntry} {ep:Nat},Zy.heap.get? b=some o->o.data=.dict es ep->H b=none:=λ{b o es ep} e d=>by
   cases q:H b with
   |none=>rfl
   |some u=>
    have e':b=a:=S b (by rw[q];simp)
    subst e';rw[E]at e;cases e;have d':Data.seq vs.toArray _=Data.dict es ep:=d;cases d'
  have f:∀{b:Addr} {m:Str->Option Value},Zy.heap.Ns b m->(Bu Zy.heap H).Ns b m:=λ{b m} ⟨o,es,ep,e,d,r⟩=>⟨o,es,ep,base_of e (UK e d),d,r⟩
  have C:K.In (Bu Zy.heap H):=λb o e=>base_of (W b o e) (by
   cases q:H b with
   |none=>rfl
   |some u=>
    have e':b=a:=S b (by rw[q];simp)
    subst e'
    rw[hK (by rw[q];simp)]at e;cases e)
  have hM:Mod K mg (Bu Zy.heap H):=⟨C,f A,⟨G,f c,J⟩,let⟨Z,h1,h2⟩:=B;⟨Z,f h1,h2⟩⟩
  have e0:VV P w K mg (Bu Zy.heap H) callerA [] Zy H:=⟨rfl,hM,λb o e=>y0 e,Ob (vX _ _),trivial,λb c=>absurd (show b∈([]:List Addr)from c) #[3],U,.of_eq hg⟩
  refine Ru ((F _ C (f A)).run callerA [] Zy H ⟨[.ref a],[]⟩ [.ref a] [.ref a] _ _ hr e0 (Sd Zy (.ref a)) (.cons rfl .nil) (I H R hS)) λr s' h=>?_;cases r with
  |error e=>exact(L H e s' h).elim
  |ok fl=>
   cases fl with
   |next=>exact False.elim h
   |brk=>exact False.elim h
   |cont=>exact False.elim h
   |ret u=>
    let⟨v,H',os,D,un,y,r',q⟩:=h;have Y:v=.bl true:=q;subst Y;obtain rfl:u=Value.bool true:=r';refine⟨rfl,OldK.of_keep λb o e=>?_,os,D⟩;cases q:H b with
    |none=>exact un.keep b o e q (by intro z;exact absurd (show b∈([]:List Addr)from z) #[3]) #[3]
    |some u=>
     rcases R b with z|⟨ob,xs,z⟩
     .rw [q]at z;cases z
     .have X:=un.WL b ob _ z
      let⟨T,_⟩:=U b _ z;let⟨e2,_⟩:=y b _ X;rw[e]at T;cases T;exact e2
 cases hk:K.lookup a with
 |some o=>
  have e:=W a o hk;rw[E]at e;cases e;refine g (λ_=>none) (λ_=>.inl rfl) (.inr ⟨_,vs.toArray,_,hk,rfl,rfl,rfl,by rw[Xl,t];exact Q,by simpa using O⟩) (λb u z=>by have j:(none:Option HO)=some u:=z;cases j) (λb z=>absurd rfl z) λz=>absurd rfl z
 |none=>
  refine g (λb=>if b=a then some (.Zt {cls:=.type "list",data:=.seq vs.toArray} (.M (ns.map V.int)))else none) (λb=>?_) (.inl (.inr ⟨{cls:=.type "list",data:=.seq vs.toArray},YC rfl⟩)) (λb u z=>?_) (λb z=>?_) λ_=>hk
  .by_cases c:b=a
   .exact .inr ⟨_,_,YC c⟩
   .exact .inl (Yj c)
  .by_cases c:b=a
   .have j:=(YC c).symm.trans z
    cases j;subst c;exact⟨E,by rw[Zz];exact Q,vs,_,O,E⟩
   .have j:=(Yj c).symm.trans z
    cases j
  .by_cases c:b=a
   .exact c
   .exact absurd (Yj c) z
end L2
namespace L2
open PySem PySem.Spec PyProof.Rows
def Cm(s:Stmt):Arguments:=match s with
 |.FunctionDef _ a _ _ _ _ _ _ _ _=>a
 |_=>{posonlyargs:=[],args:=[],vararg:=none,kwonlyargs:=[],kw_defaults:=[],kwarg:=none,defaults:=[]}
def Cn(s:Stmt):List Stmt:=match s with
 |.FunctionDef _ _ b _ _ _ _ _ _ _=>b
 |_=>[]
def Bf(s:Stmt):Scope:=match s with
 |.FunctionDef _ _ _ _ _ _ sc _ _ _=>sc
 |_=>{kind:=.function,names:=[],isGenerator:=false,isCoroutine:=false}
abbrev XA:XN:=λ_ _ _ _ _ _=>False
abbrev E0:XK:=λ_ _ _=>False
def eY:A5 XA X E0:=λ_ _ _ _ _ _ _ h=>h.elim
structure Fun(K:GJ)(x qual:Str)(st:Stmt)(f:Addr)(fd:FuncData):Prop where
 ex:∃(Jt:Value) (od:Option Addr) (Hl doc pm:Value) (an:Option Addr) (YA ct:Value) (VU:Array (Option Value)),
  fd=PySem.W.fnOf x qual (Cm st) (Cn st) (Bf st) .none Hl doc pm an YA ct/\K.lookup f=some ⟨Jt,od,.func fd,VU⟩/\PySem.W.codeIn K YA qual=true
 kp:PySem.W.keepIn K (.ref f)=true
def a9{A B:Prop}(h:B):if false=true then A else B:=by
 rw[Yj GA];exact h
def ba{A B:Prop}(h:A):if true=true then A else B:=by
 rw[YC rfl];exact h
end L2
namespace L2
open PySem PySem.Spec PyProof.Rows
section
variable{κ:Type}[DecidableEq κ]
def AZ(b:List (κ×V))(k:κ):Option V:=(b.find? λa=>decide (a.1=k)).map (·.2)
def putK(b:List (κ×V))(k:κ)(v:V):List (κ×V):=
 if(b.any λa=>decide (a.1=k))=true then b.map (λa=>if a.1=k then(a.1,v)else a)else b++[(k,v)]
def bH{p:κ×V}{r:List (κ×V)}{k:κ}(e:p.1=k):AZ (p::r) k=some p.2:=by simp[AZ,Um,e]
def bJ{p:κ×V}{r:List (κ×V)}{k:κ}(e : ¬ p.1=k):AZ (p::r) k=AZ r k:=by simp[AZ,Um,e]
def jX(k:κ):∀Z4:List (κ×V),(Z4.any λa=>decide (a.1=k))=(AZ Z4 k).isSome
 |[]=>rfl
 |p::r=>by
  rw[V7];by_cases e:p.1=k
  .simp only [bH e,Vo e,Bool.true_or,Option.isSome_some]
  .rw [bJ e,WY e,Oz];exact jX k r
def ft(a:List (κ×V))(k:κ)(v:V):(putK a k v).length<=a.length+1:=by
 unfold putK;split
 .rw [Zz];lia
 .rw [Z1,YZ,List.length_nil];lia
def RelO.UH{o:Option V}{u:Option Value}(r:RelO o u):o.isSome=u.isSome:=by
 cases o with
 |none=>cases u with
  |none=>rfl
  |some _=>exact(show False from r).elim
 |some _=>cases u with
  |none=>exact(show False from r).elim
  |some _=>rfl
def KV.val{a:List (κ×V)}{vs:List (κ×Value)}(r:KV a vs)(k:κ):RelO (AZ a k) (valueAt vs k):=by
 unfold KV at r
 induction r with
 |nil=>exact True.intro
 |@cons p q ps Iw h t ih=>
  let⟨h1,h2⟩:=h;by_cases e:p.1=k
  .have e':q.1=k:=h1.symm.trans e
   have b:valueAt (q::Iw) k=some q.2:=by simp[valueAt,Um,e']
   rw[bH e,b];exact h2
  .have e' : ¬ q.1=k:=λz=>e (h1.trans z)
   have b:valueAt (q::Iw) k=valueAt Iw k:=by simp[valueAt,Um,e']
   rw[bJ e,b];exact ih
def KV.any{b:List (κ×V)}{vs:List (κ×Value)}(r:KV b vs)(k:κ):(b.any λa=>decide (a.1=k))=vs.any λa=>decide (a.1=k):=by
 unfold KV at r
 induction r with
 |nil=>rfl
 |cons h t ih=>rw[V7,V7,ih,h.1]
def KV.Xi{b:List (κ×V)}{vs:List (κ×Value)}(r:KV b vs)(k:κ){y:V}{u:Value}(c:RelV y u):
  KV (b.map λa=>if a.1=k then(a.1,y)else a) (vs.map λa=>if a.1=k then(a.1,u)else a):=by
 unfold KV at r ⊢
 induction r with
 |nil=>exact .nil
 |@cons p q ps Iw h t ih=>
  rw[YT,YT];refine .cons ?_ ih;let⟨h1,h2⟩:=h;by_cases e:p.1=k
  .rw [YC e,YC (h1.symm.trans e)];exact⟨h1,c⟩
  .rw [Yj e,Yj (λz=>e (h1.trans z))];exact⟨h1,h2⟩
def KV.put{b:List (κ×V)}{vs:List (κ×Value)}(r:KV b vs)(k:κ){y:V}{u:Value}(a:RelV y u):KV (putK b k y) (stored vs k u):=by
 unfold putK stored;rw[r.any k];by_cases e:(vs.any λc=>decide (c.1=k))=true
 .rw [YC e,YC e];exact r.Xi k a
 .rw [Yj e,Yj e];exact Paired.snoc r ⟨rfl,a⟩
def KV.length{a:List (κ×V)}{vs:List (κ×Value)}(r:KV a vs):a.length=vs.length:=Qu r
end
def c6{k:Key}{u:Value}(r:RelV (Hl k) u):(AF P w).is k u=true:=by
 cases k with
 |inl i=>let⟨t,e⟩:=(show∃t,u=Value.int i t from r);subst e;exact va P w i t
 |inr x=>let⟨t,e⟩:=(show∃t,u=Value.str x t from r);subst e;exact u7 P w x t
def jv{P:Program}{w:World}:∀{ks:List Key} {S:List Value},ZH (ks.map Hl) S->ItemsAre (AF P w) ks S
 |[],_,r=>by rw[QK]at r;cases r;exact .nil
 |k::ks,_,r=>by
  rw[YT]at r;cases r with
  |cons h t=>exact .cons (c6 h) (jv t)
abbrev KT(H:Hp):List (List Key×V)->List (List Key×Addr×Value)->Prop:=Paired λp q=>p.1=q.1/\H q.2.1=some (.ZX (p.1.map Hl))/\RelV p.2 q.2.2
def KT.val{xs:List (List Key×Addr×Value)}(r:KT H Z4 xs)(k:List Key):RelO (AZ Z4 k) ((atKey xs k).map (·.2)):=by
 induction r with
 |nil=>exact True.intro
 |@cons p q ps Iw h t ih=>
  let⟨h1,_,h2⟩:=h;by_cases e:p.1=k
  .have e':q.1=k:=h1.symm.trans e
   have b:atKey (q::Iw) k=some q.2:=by simp[atKey,Um,e']
   rw[bH e,b];exact h2
  .have e' : ¬ q.1=k:=λz=>e (h1.trans z)
   have b:atKey (q::Iw) k=atKey Iw k:=by simp[atKey,Um,e']
   rw[bJ e,b];exact ih
def KT.Xi{xs:List (List Key×Addr×Value)}(r:KT H Z4 xs)(k:List Key){y:V}{u:Value}(b:RelV y u):
  KT H (Z4.map λa=>if a.1=k then(a.1,y)else a) (xs.map (putAt k u)):=by
 induction r with
 |nil=>exact .nil
 |@cons p q ps Iw h t ih=>
  rw[YT,YT];refine .cons ?_ ih;let⟨h1,h2,c⟩:=h;unfold putAt;by_cases e:p.1=k
  .rw [YC e,YC (h1.symm.trans e)];exact⟨h1,h2,b⟩
  .rw [Yj e,Yj (λz=>e (h1.trans z))];exact⟨h1,h2,c⟩
def KT.put{xs:List (List Key×Addr×Value)}(r:KT H Z4 xs)(k:List Key){y:V}{u:Value}(d:H b=some (.ZX (k.map Hl)))(a:RelV y u):
  KT H (putK Z4 k y) (storedH xs k b u):=by
 have e:(Z4.any λc=>decide (c.1=k))=(atKey xs k).isSome:=by
  rw[jX,(r.val k).UH,QM]
 unfold putK storedH;rw[e];by_cases q:(atKey xs k).isSome=true
 .rw [YC q,YC q];exact r.Xi k a
 .rw [Yj q,Yj q];exact Paired.snoc r ⟨rfl,d,a⟩
def KT.keeps{xs:List (List Key×Addr×Value)}(r:KT H Z4 xs)(a:∀b ys,H b=some (.ZX ys)->H' b=some (.ZX ys)):KT H' Z4 xs:=
 Paired.Tr r λ_ _ z=>⟨z.1,a _ _ z.2.1,z.2.2⟩
section
def rj{u:HO}(ok:HOk P w H h)(e:Rd H a u):ObjOk P w H h a u:=e.ok ok
def cX{b:List (Key×V)}(c:HOk P w H h)(e:Rd H a (.dK b)):b.length<=sizeLine/\(a==sysModules)=false /\∃vs,KV b vs/\h.DictOf (AF P w) a vs:=
 show ObjOk P w H h a (.dK b)from rj c e
def adL{b:List (Key×V)}(c:HOk P w H h)(e:H a=some (.dK b)):b.length<=sizeLine/\(a==sysModules)=false /\∃vs,KV b vs/\h.DictOf (AF P w) a vs:=cX c (.inl e)
def bS{ks:List Key}(b:HOk P w H h)(e:H a=some (.ZX (ks.map Hl))):(tupleKind (AF P w)).is h ks a:=by
 let⟨_,ZV,r,o,h1,h2,n,c⟩:=(show ObjOk P w H h a (.ZX (ks.map Hl))from b a _ e);exact⟨o,ZV.toArray,n,h1,h2,c,by simpa using jv r⟩
def cY(c:HOk P w H h)(e:Rd H a (.dT Z4)):Z4.length<=sizeLine/\(a==sysModules)=false /\
  ∃xs,KT H Z4 xs/\h.DictOfH (tupleKind (AF P w)) a xs:=by
 let⟨z,y,xs,r,o,es,ep,h1,h2,i,g,f⟩:=(show ObjOk P w H h a (.dT Z4)from rj c e);refine⟨z,y,xs,r,o,es,ep,h1,h2,i,g,λx b=>?_,f⟩;have all:∀{l:List (List Key×V)} {m:List (List Key×Addr×Value)},KT H l m ->∀x∈m,(tupleKind (AF P w)).is h x.1 x.2.1:=by
  intro l m q
  induction q with
  |nil=>intro x b;exact nomatch b
  |@cons p q ps Iw d t ih=>
   intro x b;rcases X5.mp b with e|b
   .subst e
    exact bS c (by rw[<-d.1];exact d.2.1)
   .exact ih x b
 exact all r x b
def tH(b:HOk P w H h)(e:H a=some (.dT Z4)):Z4.length<=sizeLine/\(a==sysModules)=false /\
  ∃xs,KT H Z4 xs/\h.DictOfH (tupleKind (AF P w)) a xs:=cY b (.inl e)
end
def DGet(H:Hp)(a:Addr)(y:V)(r:Option V):Prop:=
 (∃Z4 k,Rd H a (.dK Z4)/\y=Hl k/\r=AZ Z4 k) \/∃Z4 k b,Rd H a (.dT Z4)/\y=.ref b/\H b=some (.ZX (k.map Hl))/\r=AZ Z4 k
def DPut(H:Hp)(a:Addr)(y v:V)(c:Hp):Prop:=
 (∃Z4 k,H a=some (.dK Z4)/\y=Hl k/\Z4.length<sizeLine/\c=upd H a (.dK (putK Z4 k v))) \/
 ∃Z4 k b,H a=some (.dT Z4)/\y=.ref b/\H b=some (.ZX (k.map Hl))/\Z4.length<sizeLine/\c=upd H a (.dT (putK Z4 k v))
def DGet.k{H:Hp}{a:Addr}{b:List (Key×V)}{k:Key}(e:H a=some (.dK b)):DGet H a (Hl k) (AZ b k):=.inl ⟨b,k,.inl e,rfl,rfl⟩
def DPut.k{H:Hp}{a:Addr}{b:List (Key×V)}{k:Key}{v:V}(e:H a=some (.dK b))(c:b.length<sizeLine):DPut H a (Hl k) v (upd H a (.dK (putK b k v))):=.inl ⟨b,k,e,rfl,c,rfl⟩
def DPut.t{k:List Key}(e:H a=some (.dT Z4))(d:H b=some (.ZX (k.map Hl)))(c:Z4.length<sizeLine):
  DPut H a (.ref b) v (upd H a (.dT (putK Z4 k v))):=.inr ⟨Z4,k,b,e,rfl,d,c,rfl⟩
section
variable{Y:St}{y:V}{u r:Value}{o:Option V}{E:Value->Shared->Prop}
def Z0.WG(I:Z0 X O Y H s):sysModules<s.heap.objs.size:=by
 have h:mainGlobals<s.heap.objs.size:=(I.mod.glob.keeps I.bk).lt;exact QN #[1] h
def wL{Q:Value->Shared->Prop}(n:A.units+1<cLine)(I:Z0 X O Y H s)(g:DGet H a y (some v))(m:RelV y u)(h:∀d s',Z0 X O Y H s'->RelV v d->Q d s'):
  wpAny (model X.prog X.w) A (getItem (.ref a) u) Q E s:=by
 rcases g with⟨Z4,k,e,i,l⟩|⟨Z4,k,b,e,i,t,l⟩
 .subst i
  let⟨z,r,vs,c,dd⟩:=cX I.ZJ e;let⟨d,f,j⟩:=RelO.some_of (v:=v) (o:=valueAt vs k) (by rw[l];exact c.val k)
  exact wpAny_getItem_of (c6 m) dd.mapOf f (h d _ (I.tok _) j)
 .subst i
  cases(show u=Value.ref b from m);let⟨z,r,xs,c,dd⟩:=cY I.ZJ e;let⟨d,f,j⟩:=RelO.some_of (v:=v) (o:=(atKey xs k).map (·.2)) (by rw[l];exact c.val k)
  let⟨p,q,x⟩:=Wa.mp f;refine wpAny_getItem_heap (Qz n) (bS I.ZJ t) dd q ?_;rw[x];exact h d _ (I.tok _) j
def d_in{Q:Value->Shared->Prop}(j:A.units+1<cLine)(I:Z0 X O Y H s)(g:DGet H a y o)(i:RelV y u)(h:∀s',Z0 X O Y H s'->Q (.bool o.isSome) s'):
  wpAny (model X.prog X.w) A (compareOp .In u (.ref a)) Q E s:=by
 rcases g with⟨Z4,k,e,f,l⟩|⟨Z4,k,b,e,f,m,l⟩
 .subst f
  let⟨z,d,vs,c,dd⟩:=cX I.ZJ e;refine wpAny_in_of (c6 i) d dd.mapOf ?_;rw[<-(c.val k).UH,<-l];exact h _ (I.tok _)
 .subst f
  cases(show u=Value.ref b from i);let⟨z,d,xs,c,dd⟩:=cY I.ZJ e;refine wpAny_in_heap (Qz j) (bS I.ZJ m) d dd ?_;have q:=(c.val k).UH;rw[QM]at q;rw[<-q,<-l];exact h _ (I.tok _)
def aah{Q:Value->Shared->Prop}(j:A.units+1<cLine)(I:Z0 X O Y H s)(g:DGet H a y o)(i:RelV y u)(h:∀s',Z0 X O Y H s'->Q (.bool (!o.isSome)) s'):
  wpAny (model X.prog X.w) A (compareOp .NotIn u (.ref a)) Q E s:=by
 rcases g with⟨Z4,k,e,f,l⟩|⟨Z4,k,b,e,f,m,l⟩
 .subst f
  let⟨z,d,vs,c,dd⟩:=cX I.ZJ e;refine wpAny_notIn_of (c6 i) d dd.mapOf ?_;rw[<-(c.val k).UH,<-l];exact h _ (I.tok _)
 .subst f
  cases(show u=Value.ref b from i);let⟨z,d,xs,c,dd⟩:=cY I.ZJ e;refine wpAny_notIn_heap (Qz j) (bS I.ZJ m) d dd ?_;have q:=(c.val k).UH;rw[QM]at q;rw[<-q,<-l];exact h _ (I.tok _)
def gD{c:HO}(I:Z0 X O Y H s)(f:Mut (H a))(g:Heap.SameBut a s.heap h')(h:∃q,h'.get? a=some q)(d:ObjOk X.prog X.w (upd H a c) h' a c):
  Z0 X O Y (upd H a c) {s with heap:=h',toks:=t'}:=
 I.write (x:=a) (e:=a) f (.inl rfl) (λb q i z=>(g.2 b i).trans z) h d
def aa1{c:List (Key×V)}{vs:List (Key×Value)}(z:c.length<=sizeLine)(d:(a==sysModules)=false)(b:KV c vs)(dd:h'.DictOf (AF P w) a vs):
  ObjOk P w H' h' a (.dK c):=⟨z,d,vs,b,dd⟩
def wV{Q:Unit->Shared->Prop}(D:A.units+1<cLine)(I:Z0 X O Y H s)(g:DPut H a y v H')(t:RelV y u)(x:RelV v r)(h:∀s',Z0 X O Y H' s'->Q Unit.unit s'):
  wpAny (model X.prog X.w) A (setItem (.ref a) u r) Q E s:=by
 rcases g with⟨Z4,k,e,o,l,p⟩|⟨Z4,k,b,e,o,C,l,p⟩
 .subst o p
  let⟨z,n,vs,d,dd⟩:=adL I.ZJ e;have j:vs.length<=sizeLine:=by rw[<-d.length];exact z
  have m:(putK Z4 k v).length<=sizeLine:=by have:=ft Z4 k v;lia
  refine wpAny_setItem_pairs (hsz:=j) (c6 t) dd λh' i hs=>h _ ?_;have F:∃q,h'.get? a=some q:=let⟨q,_,_,f,_⟩:=i;⟨q,f⟩
  exact gD I (by rw[e];exact True.intro) hs F (aa1 m n (d.put k x) i)
 .subst o p
  cases(show u=Value.ref b from t);let⟨z,n,xs,d,dd⟩:=tH I.ZJ e;have j:xs.length<=sizeLine:=by rw[<-Qu d];exact z
  have m:(putK Z4 k v).length<=sizeLine:=by have:=ft Z4 k v;lia
  refine wpAny_setItem_heap (hsz:=j) (Qz D) (bS I.ZJ C) dd λh' i hs=>h _ ?_;let⟨q,es,ep,f,h2,K,J,_,G⟩:=i;refine gD I (by rw[e];exact True.intro) hs ⟨q,f⟩ ⟨m,n,_,(d.put k C x).keeps λc ys B=>?_,q,es,ep,f,h2,K,J,G⟩
  rw[af (bZ B e (λz=>nomatch z))];exact B
end
end L2
namespace L2
open PySem PySem.Spec PyProof.Rows
def kE(h:Heap)(a:sysModules<h.objs.size):ObjOk P w H (h.push {cls:=.type "dict",data:=.dict #[]}) h.objs.size (.dT []):=
 ⟨S_ _,Rf.mpr (Ne.symm (GF a)),[],.nil,_,#[],0,GG _ rfl,⟨rfl,rfl,rfl⟩,rfl,rfl,List.nodup_nil⟩
def F7:TE:=λ_ H Q=>∀p,H p=none->Q (.ref p) (upd H p (.dT []))
section
def yv:PE X (.Dict [] [] pos) F7:=λO s Y H Q I h=>
 wpAny_Dict_empty ⟨.ref s.heap.objs.size,_,I.laid (a:=s.heap.objs.size) (o:=.dT []) (t':=s.toks) (λ_ _ q=>Gx _ q) (GB _) (kE s.heap I.WG),rfl,h _ (I.ZJ.fresh (GB _))⟩
end
structure M1(X:Cx)(o:Expr)(m:Str)(apos:Pos)(e:Expr)(Y_:Pos):Prop where
 base:attributeBase o m X.env (eval o X.env)=eval o X.env
 few:((backTo Y_ (starEach [e] X.env)).all (λx => !x.1) && (backToKw Y_ (keywordEach [] X.env)).all (λx=>x.1.isSome)
  && decide (([e]:List Expr).length+([]:List Keyword).length+(if([]:List Keyword).isEmpty then 0 else 1)<30))=true
 line:(apos.endLine==Y_.line)=true
 trees:backTo Y_ (starEach [e] X.env)=[(false,eval e X.env)]
structure M2(X:Cx)(o:Expr)(m:Str)(apos:Pos)(e f:Expr)(Y_:Pos):Prop where
 base:attributeBase o m X.env (eval o X.env)=eval o X.env
 few:((backTo Y_ (starEach [e,f] X.env)).all (λx => !x.1) && (backToKw Y_ (keywordEach [] X.env)).all (λx=>x.1.isSome)
  && decide (([e,f]:List Expr).length+([]:List Keyword).length+(if([]:List Keyword).isEmpty then 0 else 1)<30))=true
 line:(apos.endLine==Y_.line)=true
 trees:backTo Y_ (starEach [e,f] X.env)=[(false,eval e X.env),(false,eval f X.env)]
end L2
namespace PI
noncomputable section
open PySem
def H8(Z5:Nat)(p:SetTable.Probe):SetTable.Probe:=
 if p.more > 0 then{p with j:=p.j+1,more:=p.more-1}else
 let(i,perturb):=SetTable.leap Z5 p.i p.perturb
 {p with j:=i,more:=SetTable.runEnd Z5 i-i,i,perturb}
def Ar(Z5:Nat):Nat->SetTable.Probe->SetTable.Probe
 |0,p=>p
 |n+1,p=>Ar Z5 n (H8 Z5 p)
def H9(Z5:Nat)(h:Int):SetTable.Probe:=
 let i:=SetTable.bits h % (Z5+1)
 {j:=i,more:=SetTable.runEnd Z5 i-i,i,perturb:=SetTable.bits h,dummy:=none}
def Ia(Z5:Nat)(h:Int)(n:Nat):Nat:=(Ar Z5 n (H9 Z5 h)).j
def dH(Z5:Nat):∀(a b:Nat) (p:SetTable.Probe),Ar Z5 (a+b) p=Ar Z5 b (Ar Z5 a p)
 |0,b,p=>by rw[UG];rfl
 |a+1,b,p=>by rw[Nat.succ_add];exact dH Z5 a b _
def v9(Z5 n:Nat)(p:SetTable.Probe):Ar Z5 (n+1) p=H8 Z5 (Ar Z5 n p):=dH Z5 n 1 p
def vW(Z5:Nat)(p:SetTable.Probe):(H8 Z5 p).dummy=p.dummy:=by unfold H8;split<;>rfl
def i5(Z5:Nat):∀(n:Nat) (p:SetTable.Probe),(Ar Z5 n p).dummy=p.dummy
 |0,_=>rfl
 |n+1,p=>(i5 Z5 n _).trans (vW Z5 p)
def f7(Z5:Nat):∀(n:Nat) (p:SetTable.Probe),n<=p.more->Ar Z5 n p={p with j:=p.j+n,more:=p.more-n}
 |0,p,_=>rfl
 |n+1,p,h=>by
  have e:H8 Z5 p={p with j:=p.j+1,more:=p.more-1}:=by unfold H8;rw[YC (by lia)]
  show Ar Z5 n (H8 Z5 p)=_;rw[e,f7 Z5 n _ (by show n<=p.more-1;omega)]
  show SetTable.Probe.mk .. = SetTable.Probe.mk ..;congr 1
  .show p.j+1+n=p.j+(n+1);lia
  .show p.more-1-n=p.more-(n+1);lia
def head(Z5 i q:Nat):SetTable.Probe:={j:=i,more:=SetTable.runEnd Z5 i-i,i,perturb:=q,dummy:=none}
def jR(Z5 i q:Nat):Ar Z5 (SetTable.runEnd Z5 i-i+1) (head Z5 i q)=head Z5 ((i*5+1+q / 32) % (Z5+1)) (q / 32):=by
 rw[v9,f7 Z5 (SetTable.runEnd Z5 i-i) (head Z5 i q) (GB _)];unfold H8;rw[Yj (by show ¬ (SetTable.runEnd Z5 i-i-(SetTable.runEnd Z5 i-i)) > 0;lia)]
 rfl
def aaI(Z5 i:Nat):SetTable.runEnd Z5 i-i<=9:=by unfold SetTable.runEnd;split<;>lia
def Ib(Z5:Nat):Nat->Nat×Nat->Nat×Nat
 |0,x=>x
 |k+1,x=>Ib Z5 k ((x.1*5+1+x.2 / 32) % (Z5+1),x.2 / 32)
def eT(Z5:Nat):∀(a b:Nat) (x:Nat×Nat),Ib Z5 (a+b) x=Ib Z5 b (Ib Z5 a x)
 |0,b,x=>by rw[UG];rfl
 |a+1,b,x=>by rw[Nat.succ_add];exact eT Z5 a b _
def kI(Z5:Nat):∀(k:Nat) (i q:Nat),∃n,n<=10*k/\Ar Z5 n (head Z5 i q)=head Z5 (Ib Z5 k (i,q)).1 (Ib Z5 k (i,q)).2
 |0,i,q=>⟨0,GB _,rfl⟩
 |k+1,i,q=>by
  let⟨n,a,e⟩:=kI Z5 k ((i*5+1+q / 32) % (Z5+1)) (q / 32);refine⟨(SetTable.runEnd Z5 i-i+1)+n,by have:=aaI Z5 i;lia,?_⟩
  rw[dH,jR,e];rfl
def gN(Z5:Nat):∀(k:Nat) (x:Nat×Nat),(Ib Z5 k x).2=x.2 / 32 ^ k
 |0,x=>by rw[Nat.pow_zero,Nat.div_one];rfl
 |k+1,x=>by
  show(Ib Z5 k _).2=_;rw[gN Z5 k,Nat.div_div_eq_div_mul,Nat.pow_succ,Nat.mul_comm (32 ^ k)]
def Ic(Z5:Nat)(k:Nat):Nat:=(Ib Z5 k (0,0)).1
def ls(Z5:Nat)(k i:Nat):Ib Z5 k (i,0)=((Ib Z5 k (i,0)).1,0):=by
 have:=gN Z5 k (i,0);rw[Nat.zero_div]at this;exact OG rfl this
def CA(Z5:Nat):Nat->Nat->List Nat
 |0,_=>[]
 |n+1,i=>i::CA Z5 n ((i*5+1) % (Z5+1))
def Ie(Z5:Nat):Bool:=(List.range (Z5+1)).all λj=>(CA Z5 (Z5+1) 0).contains j
def Mok(Z5:Nat):Prop:=Z5=7\/Z5=31\/Z5=127\/Z5=511
def kq(Z5:Nat):∀(n i k:Nat),k<n->(CA Z5 n i)[k]?=some (Ib Z5 k (i,0)).1
 |0,_,_,h=>by lia
 |n+1,i,0,_=>rfl
 |n+1,i,k+1,h=>by
  show(CA Z5 n _)[k]?=_;rw[kq Z5 n _ k (by lia)]
  show _=some (Ib Z5 k ((i*5+1+0 / 32) % (Z5+1),0 / 32)).1;rw[Nat.zero_div,Nat.add_zero]
def j8(Z5:Nat):∀(n i:Nat),(CA Z5 n i).length=n
 |0,_=>rfl
 |n+1,i=>TZ (· + 1) (j8 Z5 n _)
def pI(h:Mok Z5):Ie Z5=true/\Ic Z5 (Z5+1)=0:=by
 rcases h with rfl|rfl|rfl|rfl<;>decide +kernel
def mf(h:Mok Z5)(b:j<=Z5):∃k,k<=Z5/\Ic Z5 k=j:=by
 have h1:=(pI h).1;unfold Ie at h1;rw[Wy]at h1;have h2:=h1 j (TJ.mpr (by lia))
 rw[S1]at h2;let⟨k,hk,e⟩:=Qs h2;have a:k<Z5+1:=by rw[j8]at hk;exact hk
 refine⟨k,by lia,?_⟩
 have:=kq Z5 (Z5+1) 0 k a;rw[Y9 hk,e]at this;exact(WE this).symm
def zI(h:Mok Z5)(k:Nat):Ic Z5 (Z5+1+k)=Ic Z5 k:=by
 unfold Ic;rw[eT,ls Z5 (Z5+1) 0];rw[show(Ib Z5 (Z5+1) (0,0)).1=0 from(pI h).2]
def aab(h:Mok Z5)(hi:i<=Z5)(e:j<=Z5):∃k,k<=Z5/\(Ib Z5 k (i,0)).1=j:=by
 let⟨a,l,f⟩:=mf h hi;let⟨b,g,d⟩:=mf h e;have c:∀k,(Ib Z5 k (i,0)).1=Ic Z5 (a+k):=λk=>by
  unfold Ic;rw[eT,ls Z5 a 0];rw[show(Ib Z5 a (0,0)).1=i from f]
 by_cases m:a<=b
 .exact ⟨b-a,by lia,by rw[c,show a+(b-a)=b by lia];exact d⟩
 .exact ⟨Z5+1+b-a,by omega,by rw[c,show a+(Z5+1+b-a)=Z5+1+b by lia,zI h];exact d⟩
def yS(h:Int):SetTable.bits h<2 ^ 64:=by
 unfold SetTable.bits;have h1:0<=h % (2 ^ 64:Int):=Pf _ #[1]
 have h2:h % (2 ^ 64:Int)<2 ^ 64:=QA _ #[1]
 lia
def ue(Z5:Nat):∀(k:Nat) (x:Nat×Nat),x.1<=Z5->(Ib Z5 k x).1<=Z5
 |0,x,h=>h
 |k+1,x,_=>ue Z5 k _ (PL (Oc _ (by lia)))
def jh(c:Mok Z5)(h:Int)(a:j<=Z5):∃k,k<=Z5+13/\(Ib Z5 k (SetTable.bits h % (Z5+1),SetTable.bits h)).1=j:=by
 have d:(Ib Z5 13 (SetTable.bits h % (Z5+1),SetTable.bits h)).2=0:=by
  rw[gN];exact Nat.div_eq_of_lt (QN (yS h) #[1])
 have h1:(Ib Z5 13 (SetTable.bits h % (Z5+1),SetTable.bits h)).1<=Z5:=ue Z5 13 _ (PL (Oc _ (by lia)))
 let⟨k,hk,e⟩:=aab c h1 a;refine⟨13+k,by lia,?_⟩
 rw[eT];have:Ib Z5 13 (SetTable.bits h % (Z5+1),SetTable.bits h)=((Ib Z5 13 (SetTable.bits h % (Z5+1),SetTable.bits h)).1,0):=OG rfl d;rw[this];exact e
def xl(b:Mok Z5)(h:Int)(a:j<=Z5):∃n,n<10*SetTable.turns Z5/\Ia Z5 h n=j:=by
 let⟨k,hk,e⟩:=jh b h a;let⟨n,d,c⟩:=kI Z5 k (SetTable.bits h % (Z5+1)) (SetTable.bits h);refine⟨n,by unfold SetTable.turns;lia,?_⟩
 unfold Ia;rw[show H9 Z5 h=head Z5 (SetTable.bits h % (Z5+1)) (SetTable.bits h)from rfl,c];exact e
def abC(p:SetTable.Probe)(h:p.j+p.more<=Z5):(H8 Z5 p).j+(H8 Z5 p).more<=Z5:=by
 unfold H8;split
 .show p.j+1+(p.more-1)<=Z5;lia
 .show (p.i*5+1+p.perturb / 32) % (Z5+1)+(SetTable.runEnd Z5 ((p.i*5+1+p.perturb / 32) % (Z5+1))-(p.i*5+1+p.perturb / 32) % (Z5+1))<=Z5
  have:(p.i*5+1+p.perturb / 32) % (Z5+1)<Z5+1:=Oc _ (by lia)
  unfold SetTable.runEnd;split<;>lia
def lM{Z5:Nat}:∀(n:Nat) (p:SetTable.Probe),p.j+p.more<=Z5->(Ar Z5 n p).j<=Z5
 |0,p,h=>by show p.j<=Z5;lia
 |n+1,p,h=>lM n _ (abC p h)
def fb(Z5:Nat)(h:Int)(n:Nat):Ia Z5 h n<=Z5:=by
 refine lM n _ ?_;show SetTable.bits h % (Z5+1)+(SetTable.runEnd Z5 (SetTable.bits h % (Z5+1))-SetTable.bits h % (Z5+1))<=Z5;have:SetTable.bits h % (Z5+1)<Z5+1:=Oc _ (by lia)
 unfold SetTable.runEnd;split<;>lia
def yp{P:Nat->Prop}:∀(n:Nat),P n ->∃N,N<=n/\P N /\∀m,m<N -> ¬ P m:=λn=>by
 induction n using Nat.strongRecOn with
 |_ n ih=>
  intro h;by_cases d:∃m,m<n/\P m
  .obtain ⟨m,h1,h2⟩:=d
   let⟨N,a,b,c⟩:=ih m h1 h2;exact⟨N,by lia,b,c⟩
  .exact ⟨n,GB _,h,λm h1 h2=>d ⟨m,h1,h2⟩⟩
def fZ(xs:Array Nat)(j:Nat)(d:∀(a b x y:Nat),a<b->xs[a]?=some x->xs[b]?=some y->x<y):∀(fu lo hi:Nat),hi-lo<=fu->lo<=hi->hi<=xs.size ->
  (∀i x,i<lo->xs[i]?=some x->x<j)->(∀i x,hi<=i->xs[i]?=some x->j<=x) ->
  (∀i x,i<SetTable.below.go xs j fu lo hi->xs[i]?=some x->x<j)/\(∀i x,SetTable.below.go xs j fu lo hi<=i->xs[i]?=some x->j<=x)/\SetTable.below.go xs j fu lo hi<=xs.size
 |0,lo,hi,h,h',hs,h1,h2=>⟨h1,λi x YJ e=>h2 i x (by have:lo<=i:=YJ;lia) e,by show lo<=_;lia⟩
 |fu+1,lo,hi,h,h',hs,h1,h2=>by
  unfold SetTable.below.go;split
  .rename_i k
   dsimp only;have f:(lo+hi) / 2<xs.size:=by lia
   have ex:xs[(lo+hi) / 2]?=some xs[(lo+hi) / 2]:=Ws f;have g:xs.getD ((lo+hi) / 2) j=xs[(lo+hi) / 2]:=by unfold Array.getD;rw[dif_pos f];rfl
   rw[g];by_cases c:xs[(lo+hi) / 2]<j
   .rw [YC c]
    refine fZ xs j d fu ((lo+hi) / 2+1) hi () (by lia) hs (λi x YJ e=>?_) h2
    by_cases q:i=(lo+hi) / 2
    .subst q;rw[ex]at e;cases e;exact c
    .exact QN (d i _ x _ (by lia) e ex) c
   .rw [Yj c]
    refine fZ xs j d fu lo ((lo+hi) / 2) () (by lia) (by lia) h1 λi x YJ e=>?_
    by_cases q:i=(lo+hi) / 2
    .subst q;rw[ex]at e;cases e;lia
    .have:=d _ i _ x (by lia) ex e;lia
  .rename_i k
   exact⟨h1,λi x YJ e=>h2 i x (by lia) e,by lia⟩
abbrev Z3:=List (Nat×Int×Value)
structure Tb(t:SetTable)(es:Array (Int×Value))(Z:Z3):Prop where
 hp:t.place=(Z.map (·.1)).toArray
 he:es=(Z.map (·.2)).toArray
 hd:t.dummies = #[]
 hs:Z.Pairwise λa b=>a.1<b.1
 hl:∀z∈Z,z.1<=t.mask
 hM:Mok t.mask
 hn:Z.length<=t.mask
 met:∀z∈Z,∃n,Ia t.mask z.2.1 n=z.1 /\∀m,m<n ->∃y∈Z,y.1=Ia t.mask z.2.1 m
section
variable{t:SetTable}{es:Array (Int×Value)}{Z:Z3}
def Tb.get(T:Tb t es Z){x:Nat}:t.place[i]?=some x ↔ ∃z,Z[i]?=some z/\z.1=x:=by
 rw[T.hp];simp[Wh]
def Tb.lt(T:Tb t es Z)(a b x y:Nat)(h:a<b)(f:t.place[a]?=some x)(e:t.place[b]?=some y):x<y:=by
 let⟨z,h1,rfl⟩:=T.get.mp f;let⟨u,h2,rfl⟩:=T.get.mp e;let⟨d,rfl⟩:=YG.mp h1;let⟨c,rfl⟩:=YG.mp h2;exact SU.mp T.hs a b d c h
def Tb.below(T:Tb t es Z)(j:Nat):(∀i x,i<SetTable.below t.place j->t.place[i]?=some x->x<j)/\(∀i x,SetTable.below t.place j<=i->t.place[i]?=some x->j<=x)/\SetTable.below t.place j<=t.place.size:=
 fZ t.place j T.lt t.place.size 0 t.place.size (by lia) (S_ _) (GB _) (λi x h _=>by omega) (λi x h e=>by
  have:=(Uo.mp e).1;lia)
def Tb.live(T:Tb t es Z){i:Nat}{z:Nat×Int×Value}(h:Z[i]?=some z):t.slot z.1=.live i:=by
 let⟨d,c,f⟩:=T.below z.1;have e:t.place[i]?=some z.1:=T.get.mpr ⟨z,h,rfl⟩;have hi:SetTable.below t.place z.1=i:=by
  rcases Nat.lt_trichotomy (SetTable.below t.place z.1) i with q|q|q
  .have hs:SetTable.below t.place z.1<t.place.size:=QN q (Uo.mp e).1
   have a:t.place[SetTable.below t.place z.1]?=some t.place[SetTable.below t.place z.1]:=Ws hs;have h1:=c _ _ (GB _) a;have h2:=T.lt _ _ _ _ q a e;lia
  .exact q
  .have:=d i _ q e;lia
 unfold SetTable.slot;dsimp only;rw[hi,e,YC #[3]]
def Tb.empty(T:Tb t es Z){j:Nat}(h:∀z∈Z,z.1≠j):t.slot j=.empty:=by
 unfold SetTable.slot;dsimp only;rw[Yj,Yj]
 .rw [T.hd];unfold SetTable.has;simp
 .intro e
  have e:t.place[SetTable.below t.place j]?=some j:=by simpa using e
  let⟨z,h1,h2⟩:=T.get.mp e;exact h z (W_ h1) h2
def Tb.slots(T:Tb t es Z)(j:Nat):(∃i z,Z[i]?=some z/\z.1=j/\t.slot j=.live i)\/((∀z∈Z,z.1≠j)/\t.slot j=.empty):=by
 by_cases h:∃z∈Z,z.1=j
 .obtain ⟨z,a,rfl⟩:=h
  let⟨i,e⟩:=Qm a;exact .inl ⟨i,z,e,rfl,T.live e⟩
 .have h':∀z∈Z,z.1≠j:=λz a e=>h ⟨z,a,e⟩
  exact .inr ⟨h',T.empty h'⟩
def Tb.Sb(T:Tb t es Z):∃j,j<=t.mask /\∀z∈Z,z.1≠j:=by
 refine GH λc=>?_;have h1:List.range (t.mask+1) ⊆ Z.map (·.1):=λj a=>by
  have a:=TJ.mp a;refine GH λhn=>c ⟨j,by lia,λz b e=>hn (XY.mpr ⟨z,b,e⟩)⟩
 have h2:=Q3 (P2) h1;rw[QP,Zz]at h2;have:=T.hn;lia
def Tb.hash(T:Tb t es Z)(h:Z[i]?=some z):es[i]?=some z.2:=by
 rw[T.he];simp[h]
noncomputable def XJ(a:Array (Int×Value))(i:Nat):Int:=(a[i]?.map (·.1)).getD 0
def Tb.XJ(T:Tb t es Z){i:Nat}{z:Nat×Int×Value}(h:Z[i]?=some z):XJ es i=z.2.1:=by
 unfold PI.XJ;rw[T.hash h];rfl
def ja{f:Nat->Int}{h:Int}:∀(n fu:Nat) (p:SetTable.Probe),(∀m,m<n ->∃i,t.slot (Ar t.mask m p).j=.live i/\f i≠h) ->
  SetTable.probe.go t f h (fu+n) p=SetTable.probe.go t f h fu (Ar t.mask n p)
 |0,fu,p,_=>rfl
 |n+1,fu,p,H=>by
  let⟨i,e,hi⟩:=H 0 (Nat.succ_pos _);have e:t.slot p.j=.live i:=e;show SetTable.probe.go t f h ((fu+n)+1) p=_;rw[SetTable.probe.go,e];dsimp only;rw[Yj (by simpa using hi)]
  exact ja n fu (H8 t.mask p) λm a=>H (m+1) (by lia)
def Tb.probe(T:Tb t es Z)(h:Int):
  (∃i z j nx,Z[i]?=some z/\z.2.1=h/\z.1=j/\t.probe (PI.XJ es) h (t.probeStart h)=some (.candidate j i nx)) \/
  ((∀z∈Z,z.2.1≠h) /\∃N,t.probe (PI.XJ es) h (t.probeStart h)=some (.empty (Ia t.mask h N) none)/\(∀z∈Z,z.1≠Ia t.mask h N)/\Ia t.mask h N<=t.mask /\∀m,m<N ->∃y∈Z,y.1=Ia t.mask h m):=by
 let⟨I,k,l⟩:=T.Sb;let⟨u,K,G⟩:=xl T.hM h k
 let P:Nat->Prop:=λn=>∀i,t.slot (Ia t.mask h n)=.live i->PI.XJ es i=h
 have o:P u:=λi e=>by
  rw[G,T.empty l]at e;cases e
 let⟨N,J,B,A⟩:=yp u o;have skip:∀m,m<N ->∃i,t.slot (Ar t.mask m (t.probeStart h)).j=.live i/\PI.XJ es i≠h:=λm g=>by
  have:=A m g;refine GH λE=>this λi e=>GH λH=>E ⟨i,e,H⟩
 have run:t.probe (PI.XJ es) h (t.probeStart h)=SetTable.probe.go t (PI.XJ es) h ((10*SetTable.turns t.mask-N-1)+1) (Ar t.mask N (t.probeStart h)):=by
  unfold SetTable.probe;have:10*SetTable.turns t.mask=((10*SetTable.turns t.mask-N-1)+1)+N:=by lia
  rw[this];rw[ja N _ _ skip];congr 1;omega
 have a:∀m,m<N ->∃y∈Z,y.1=Ia t.mask h m:=λm g=>by
  let⟨i,e,_⟩:=skip m g;rcases T.slots (Ia t.mask h m)with⟨C,z,d,r,b⟩|⟨_,b⟩
  .exact ⟨z,W_ d,r⟩
  .rw [show(Ar t.mask m (t.probeStart h)).j=Ia t.mask h m from rfl,b]at e;cases e
 rcases T.slots (Ia t.mask h N)with⟨i,z,d,r,b⟩|⟨hn,b⟩
 .refine .inl ⟨i,z,_,t.advance (Ar t.mask N (t.probeStart h)),d,?_,r,?_⟩
  .rw [<-T.XJ d];exact B i b
  .rw [run,SetTable.probe.go]
   rw[show(Ar t.mask N (t.probeStart h)).j=Ia t.mask h N from rfl,b];dsimp only;rw[YC (by rw[B i b];simp)]
 .refine .inr ⟨λz f x=>?_,N,?_,hn,?_,a⟩
  .obtain ⟨c,p,v⟩:=T.met z f
   rw[x]at p v;rcases Qp N c with q|q
   .obtain ⟨y,D,F⟩:=v N q
    exact hn y D F
   .rcases Qp c N with s|s
    .have:=A c s
     let⟨i,w⟩:=Qm f;refine this λC e'=>?_;rw[p,T.live w]at e';cases e';rw[T.XJ w];exact x
    .have:c=N:=by lia
     subst this;exact hn z f p.symm
  .rw [run,SetTable.probe.go]
   rw[show(Ar t.mask N (t.probeStart h)).j=Ia t.mask h N from rfl,b];dsimp only;rw[show(Ar t.mask N (t.probeStart h)).dummy=none from i5 _ _ _]
  .exact fb _ _ _
end
section
variable{t:SetTable}{es:Array (Int×Value)}{Z:Z3}
def iX(xs:List α)(p:Nat)(x:α):SetTable.insertAt xs.toArray p x=(xs.take p++x::xs.drop p).toArray:=by
 apply Q4.mp;rw[SetTable.toList_insertAt]
def eD{xs:List α}{p:Nat}{x y:α}:y∈xs.take p++x::xs.drop p↔y=x\/y∈xs:=by
 rw[Wd,X5];constructor
 .rintro (h|h|h)
  .exact .inr (U1 h)
  .exact .inl h
  .exact .inr (VP h)
 .rintro (h|h)
  .exact .inr (.inl h)
  .rw [<-Wz p xs,Wd]at h
   exact h.elim .inl λh=>.inr (.inr h)
def Tb.put(T:Tb t es Z){h:Int}{x:Value}{N:Nat}(o:∀z∈Z,z.1≠Ia t.mask h N)(l:∀m,m<N ->∃y∈Z,y.1=Ia t.mask h m)(v:Z.length+1<=t.mask):
  ∃p,(t.put (Ia t.mask h N)).2=p/\Tb (t.put (Ia t.mask h N)).1 (SetTable.insertAt es p (h,x)) (Z.take p++(Ia t.mask h N,h,x)::Z.drop p):=by
 refine⟨_,rfl,?_⟩;let⟨s,r,w⟩:=T.below (Ia t.mask h N);have u:(t.put (Ia t.mask h N)).2=SetTable.below t.place (Ia t.mask h N):=rfl;rw[u];have d:(t.put (Ia t.mask h N)).1.mask=t.mask:=rfl;constructor
 .show SetTable.insertAt t.place _ _=_
  rw[T.hp,iX];simp
 .rw [T.he,iX]
  simp
 .show (if _ then _ else t.dummies)=_
  rw[T.hd];rw[Yj];unfold SetTable.has;simp
 .have hs:=T.hs
  rw[<-Wz (SetTable.below t.place (Ia t.mask h N)) Z,WU]at hs;rw[WU,Uq];have k:∀a∈Z.take (SetTable.below t.place (Ia t.mask h N)),a.1<Ia t.mask h N:=λa g=>by
   let⟨i,hi,e⟩:=Qs g;rw[WV]at hi;rw[PM]at e;exact s i a.1 (by lia) (T.get.mpr ⟨a,by rw[<-e];exact Y9 (by lia),rfl⟩)
  have g:∀a∈Z.drop (SetTable.below t.place (Ia t.mask h N)),Ia t.mask h N<a.1:=λa g=>by
   let⟨i,hi,e⟩:=Qs g;rw[Vw]at hi;rw[PN]at e;have:=r _ a.1 (Qq _ i) (T.get.mpr ⟨a,by rw[<-e];exact Y9 (),rfl⟩)
   exact Nat.lt_of_le_of_ne this λq=>o a (VP g) q.symm
  refine⟨hs.1,⟨g,hs.2.1⟩,λa h' b f=>?_⟩;rcases X5.mp f with rfl|f
  .exact k a h'
  .exact hs.2.2 a h' b f
 .intro z c
  rw[d];rcases eD.mp c with rfl|c
  .exact fb _ _ _
  .exact T.hl z c
 .exact T.hM
 .rw [d]
  have:(Z.take (SetTable.below t.place (Ia t.mask h N))++(Ia t.mask h N,h,x)::Z.drop (SetTable.below t.place (Ia t.mask h N))).length=Z.length+1:=by
   rw[Z1,YZ,WV,Vw];omega
  lia
 .intro z c
  rw[d];rcases eD.mp c with rfl|c
  .exact ⟨N,rfl,λm d=>let⟨y,j,e⟩:=l m d;⟨y,eD.mpr (.inr j),e⟩⟩
  .obtain ⟨n,e,k⟩:=T.met z c
   exact⟨n,e,λm d=>let⟨y,j,e⟩:=k m d;⟨y,eD.mpr (.inr j),e⟩⟩
def xX(xs:List α)(p:Nat)(x:α):(xs.take p++x::xs.drop p).Perm (x::xs):=by
 have:=(P4 (a:=x) (l₁:=xs.take p) (l₂:=xs.drop p));rwa[Wz]at this
end
abbrev WX:=Array (Option Nat)
def mQ{Z5:Nat}(owner:WX):∀(fu i q:Nat),(∃K,K<fu/\owner.getD (Ib Z5 K (i,q)).1 (some 0)=none) ->
  ∃n,SetTable.layClean.free Z5 owner fu i q=some (Ar Z5 n (head Z5 i q)).j/\owner.getD (Ar Z5 n (head Z5 i q)).j (some 0)=none /\∀m,m<n->owner.getD (Ar Z5 m (head Z5 i q)).j (some 0)≠none
 |0,i,q,⟨K,h,_⟩=>by omega
 |fu+1,i,q,⟨K,hK,e⟩=>by
  rw[SetTable.layClean.free];have len:SetTable.runEnd Z5 i+1-i=(SetTable.runEnd Z5 i-i)+1:=by unfold SetTable.runEnd;split<;>lia
  have d:∀m,m<=SetTable.runEnd Z5 i-i->(Ar Z5 m (head Z5 i q)).j=i+m:=λm f=>by
   rw[f7 Z5 m (head Z5 i q) f];rfl
  cases p:(List.range (SetTable.runEnd Z5 i+1-i)).find? λk=>(owner.getD (i+k) (some 0)).isNone with
  |some k=>
   dsimp only;let⟨h1,h2,t⟩:=List.find?_range_eq_some.mp p;have hk:k<SetTable.runEnd Z5 i+1-i:=TJ.mp h2;refine⟨k,by rw[d k (by lia)],by rw[d k ()];simpa using h1,λm f=>?_⟩
   rw[d m (by lia)]
   have:=t m f;intro q;rw[q]at this;simp at this
  |none=>
   dsimp only;have o:∀m,m<=SetTable.runEnd Z5 i-i->owner.getD (i+m) (some 0)≠none:=λm f=>by
    have:=List.find?_eq_none.mp p m (TJ.mpr (by lia))
    intro q;rw[q]at this;simp at this
   have l:K≠0:=λs=>by
    subst s;exact o 0 (S_ _) e
   let⟨u,rfl⟩:=Nat.exists_eq_succ_of_ne_zero l;let⟨n,a,b,c⟩:=mQ owner fu ((i*5+1+q / 32) % (Z5+1)) (q / 32) ⟨u,by lia,e⟩
   have g:∀m,Ar Z5 ((SetTable.runEnd Z5 i-i+1)+m) (head Z5 i q)=Ar Z5 m (head Z5 ((i*5+1+q / 32) % (Z5+1)) (q / 32)):=λm=>by rw[dH,jR]
   refine⟨(SetTable.runEnd Z5 i-i+1)+n,by rw[g];exact a,by rw[g];exact b,λm f=>?_⟩
   rcases Qp m (SetTable.runEnd Z5 i-i+1)with r|r
   .rw [d m (by lia)];exact o m ()
   .have:m=(SetTable.runEnd Z5 i-i+1)+(m-(SetTable.runEnd Z5 i-i+1)):=by omega
    rw[this,g];exact c _ (by lia)
structure LC(Z5:Nat)(owner:WX)(hs:List Int)(Z_:List Nat):Prop where
 sz:owner.size=Z5+1
 len:Z_.length=hs.length
 to:∀(i j:Nat),Z_[i]?=some j->owner[j]?=some (some i)
 Zv:∀(i j:Nat),owner[j]?=some (some i)->Z_[i]?=some j
 met:∀(i j:Nat) (h:Int),hs[i]?=some h->Z_[i]?=some j ->∃n,Ia Z5 h n=j /\∀m,m<n->Ia Z5 h m∈Z_
def LC.getD{Z5:Nat}{owner:WX}{d:List Int}{c:List Nat}(b:LC Z5 owner d c){j:Nat}(l:j<=Z5):owner.getD j (some 0)=none↔j ∉ c:=by
 have a:j<owner.size:=by rw[b.sz];lia
 have k:owner.getD j (some 0)=owner[j]:=by unfold Array.getD;rw[dif_pos a];rfl
 rw[k];constructor
 .intro e g
  let⟨i,h⟩:=Qm g;have:=b.to i j h;rw[Ws a,e]at this;cases this
 .intro f
  cases e:owner[j]with
  |none=>rfl
  |some i=>exact absurd (W_ (b.Zv i j (by rw[Ws a,e]))) f
def CM(Z5:Nat):Option (WX×Nat)->Int->Option (WX×Nat):=λZS h=>do
  let(owner,k)<-ZS
  let j<-SetTable.layClean.free Z5 owner (SetTable.turns Z5) (SetTable.bits h % (Z5+1)) (SetTable.bits h)
  pure (owner.setIfInBounds j (some k),k+1)
def LC.step(A:Mok Z5){owner:WX}{f:List Int}{g:List Nat}(d:LC Z5 owner f g)(u:f.length<=Z5)(h:Int):
  ∃w j,CM Z5 (some (owner,f.length)) h=some (w,f.length+1)/\LC Z5 w (f++[h]) (g++[j]):=by
 have sp:∃j,j<=Z5/\j ∉ g:=by
  refine GH λz=>?_;have h1:List.range (Z5+1) ⊆ g:=λj r=>by
   have r:=TJ.mp r;exact GH λy=>z ⟨j,by lia,y⟩
  have h2:=Q3 (P2) h1;rw[QP]at h2;have:=d.len;lia
 let⟨F,o,E⟩:=sp;let⟨K,G,B⟩:=jh A h o;let⟨n,a,b,c⟩:=mQ (Z5:=Z5) owner (SetTable.turns Z5) (SetTable.bits h % (Z5+1)) (SetTable.bits h) ⟨K,by unfold SetTable.turns;lia,by rw[B];exact(d.getD o).mpr E⟩
 have a:SetTable.layClean.free Z5 owner (SetTable.turns Z5) (SetTable.bits h % (Z5+1)) (SetTable.bits h)=some (Ia Z5 h n):=a;have b:owner.getD (Ia Z5 h n) (some 0)=none:=b;have c:∀m,m<n->owner.getD (Ia Z5 h m) (some 0)≠none:=c;have hle:=fb Z5 h n;have l:Ia Z5 h n ∉ g:=(d.getD hle).mp b;have v:Ia Z5 h n<owner.size:=by rw[d.sz];lia
 refine⟨owner.setIfInBounds (Ia Z5 h n) (some f.length),Ia Z5 h n,?_,?_⟩
 .unfold CM
  simp![Option.pure_def,Option.bind_eq_bind,Rj,a]
 .constructor
  .rw [PY];exact d.sz
  .simp [d.len]
  .intro i j e
   rw[Pg];rw[List.getElem?_append]at e;split at e
   .have r:j∈g:=W_ e
    rw[Yj (λq=>l (by rw[q];exact r))]
    exact d.to i j e
   .rename_i H
    have:i-g.length=0:=by
     cases s:i-g.length with
     |zero=>rfl
     |succ k=>rw[s]at e;simp at e
    rw[this]at e;simp at e;subst e;rw[YC rfl,YC v];have:=d.len;congr 2;lia
  .intro i j e
   rw[Pg]at e;by_cases q:Ia Z5 h n=j
   .rw [YC q,YC v]at e
    cases e;subst q;rw[<-d.len];simp
   .rw [Yj q]at e
    have:=d.Zv i j e;rw[XM (YG.mp this).1];exact this
  .intro i j h' p e
   rcases Qp i f.length with q|q
   .rw [XM q]at p
    rw[XM (by rw[d.len];exact q)]at e
    let⟨x,D,C⟩:=d.met i j h' p e;exact⟨x,D,λm t=>Rt _ (C m t)⟩
   .have:i=f.length:=by
     have:=(YG.mp p).1;simp at this;lia
    subst this;simp at p;rw[<-d.len]at e;simp at e;subst p e;exact⟨n,rfl,λm t=>Rt _ (GH λs=>c m t ((d.getD (fb Z5 h m)).mpr s))⟩
def LC.all{Z5:Nat}(a:Mok Z5):∀(r hs:List Int) {owner:WX} {Z_:List Nat},LC Z5 owner hs Z_->hs.length+r.length<=Z5 ->
  ∃c f,r.foldl (CM Z5) (some (owner,hs.length))=some (c,hs.length+r.length)/\LC Z5 c (hs++r) f
 |[],hs,owner,Z_,Z7,_=>⟨owner,Z_,rfl,by rw[U9];exact Z7⟩
 |h::r,hs,owner,Z_,Z7,hl=>by
  rw[YZ]at hl;let⟨JN,j,d,g⟩:=Z7.step a (by lia) h
  let⟨o2,e,b,L2⟩:=LC.all a r (hs++[h]) g (by rw[Z1,TH];lia)
  refine⟨o2,e,?_,?_⟩
  .rw [Qy,d]
   rw[Z1,TH]at b;rw[b,YZ];congr 2;lia
  .rw [XS]at L2;exact L2
def ym(c:Mok Z5)(a:Array Int)(b:a.size<=Z5):∃owner Z_,SetTable.layClean Z5 a=some owner/\LC Z5 owner a.toList Z_:=by
 have d:LC Z5 (Array.replicate (Z5+1) none) [] []:=by
  constructor
  .simp
  .rfl
  .intro i j e;simp at e
  .intro i j e
   rw[Array.getElem?_replicate]at e;split at e<;>cases e
  .intro i j h e;simp at e
 let⟨o,Z_,e,Z7⟩:=LC.all c a.toList [] d (by simpa using b)
 refine⟨o,Z_,?_,by simpa using Z7⟩
 unfold SetTable.layClean;rw[<-Array.foldl_toList];have:a.toList.foldl (CM Z5) (some (Array.replicate (Z5+1) none,0))=some (o,0+a.toList.length):=by simpa using e
 show(List.foldl (CM Z5) (some (Array.replicate (Z5+1) none,0)) a.toList).map (·.1)=some o;rw[this]
 rfl
def Bd(a:Array (Int×Value))(i:Nat):Int×Value:=(a[i]?).getD (0,.none)
def Ig(Z5:Nat)(owner:WX):List (Nat×Nat):=(List.range (Z5+1)).filterMap λj=>(owner.getD j none).map (j,·)
section
variable{owner:WX}{hs:List Int}{Z_:List Nat}
def LC.live(c:LC Z5 owner hs Z_)(j i:Nat):(j,i)∈Ig Z5 owner↔Z_[i]?=some j:=by
 unfold Ig;rw[Rl];constructor
 .rintro ⟨b,g,e⟩
  have g:=TJ.mp g;have a:b<owner.size:=by rw[c.sz];exact g
  have f:owner.getD b none=owner[b]:=by unfold Array.getD;rw[dif_pos a];rfl
  rw[f]at e;cases d:owner[b]with
  |none=>rw[d]at e;cases e
  |some k=>
   rw[d]at e;cases e;exact c.Zv i j (by rw[Ws a,d])
 .intro e
  have h:=c.to i j e;have a:j<owner.size:=(Uo.mp h).1;refine⟨j,TJ.mpr (by rw[<-c.sz];exact a),?_⟩
  have f:owner.getD j none=some i:=by
   unfold Array.getD;rw[dif_pos a];rw[Ws a]at h;exact WE h
  rw[f];rfl
def k5(Z5:Nat)(owner:WX):(Ig Z5 owner).Pairwise λa b=>a.1<b.1:=by
 unfold Ig;rw[List.pairwise_filterMap];refine List.Pairwise.imp (λ{a a'} h b c b' d=>?_) List.pairwise_lt_range;cases f:owner.getD a none with
 |none=>rw[f]at c;cases c
 |some i=>
  rw[f]at c;cases c;cases e:owner.getD a' none with
  |none=>rw[e]at d;cases d
  |some g=>rw[e]at d;cases d;exact h
def LC.order(c:LC Z5 owner hs Z_):((Ig Z5 owner).map (·.2)).Perm (List.range hs.length):=by
 refine(Pu ?_ P2).mpr λi=>?_
 .refine Sf.mpr (List.Pairwise.imp_of_mem (λ{a b} k g l=>?_) (k5 Z5 owner))
  intro e;have h1:=(c.live a.1 a.2).mp k;have h2:=(c.live b.1 b.2).mp g;rw[e,h2]at h1;have:=WE h1;lia
 .rw [XY,TJ,<-c.len]
  constructor
  .rintro ⟨⟨j,d⟩,f,rfl⟩
   exact(YG.mp ((c.live j d).mp f)).1
  .intro h
   exact⟨(Z_[i],i),(c.live _ _).mpr (Y9 h),rfl⟩
end
def mL{b c:Type}{f:b->Option c}{g:b->c}:∀(l:List b),(∀x∈l,f x=some (g x))->l.filterMap f=l.map g
 |[],_=>rfl
 |a::l,h=>by rw[VJ,h a XZ,YT,mL l λx d=>h x (GC _ d)]
section
variable{t:SetTable}{es:Array (Int×Value)}{Z:Z3}
def Tb.len(T:Tb t es Z):es.size=Z.length:=by rw[T.he];simp
def Tb.relaid(T:Tb t es Z){a:Nat}(o:Mok (SetTable.sizeAbove a-1))(k:Z.length<=SetTable.sizeAbove a-1):
  ∃t' order g,t.relaid (es.map (·.1)) a=some (t',order)/\Tb t' (order.filterMap (es[·]?)) g/\(g.map (·.2)).Perm (Z.map (·.2))/\t'.mask=SetTable.sizeAbove a-1/\t'.led=t.led/\t'.plain=t.plain:=by
 let⟨owner,Z_,e,Z7⟩:=ym o (es.map (·.1)) (by rw[Array.size_map,T.len];exact k)
 have c:(es.map (·.1)).toList.length=es.size:=by simp
 let Z5:=SetTable.sizeAbove a-1
 let order:Array Nat:=((Ig Z5 owner).map (·.2)).toArray
 let t':SetTable:={mask:=Z5,place:=((Ig Z5 owner).map (·.1)).toArray,dummies:=#[],finger:=t.finger,led:=t.led,moves:=t.movedTo Z5,plain:=t.plain}
 let g:Z3:=(Ig Z5 owner).map λp=>(p.1,Bd es p.2)
 have r:∀p∈Ig Z5 owner,es[p.2]?=some (Bd es p.2):=λp d=>by
  have h:=(YG.mp ((Z7.live p.1 p.2).mp d)).1;rw[Z7.len,c]at h;unfold Bd;rw[Ws h];rfl
 refine⟨t',order,g,?_,?_,?_,rfl,rfl,rfl⟩
 .unfold SetTable.relaid SetTable.laid
  rw[e]
  rfl
 .constructor
  .show ((Ig Z5 owner).map (·.1)).toArray=(List.map (λz:Nat×Int×Value=>z.1) (List.map _ _)).toArray
   rw[Uu];rfl
  .apply Q4.mp
   rw[Array.toList_filterMap];show(((Ig Z5 owner).map (·.2)).filterMap λx=>es[x]?)=(g.map (·.2));rw[List.filterMap_map,Uu];exact mL _ r
  .rfl
  .exact Sf.mpr (k5 Z5 owner)
  .intro z j
   let⟨p,d,rfl⟩:=XY.mp j;have h:=Z7.to p.2 p.1 ((Z7.live p.1 p.2).mp d);have:=(Uo.mp h).1;rw[Z7.sz]at this;exact PL this
  .exact o
  .show List.length (List.map _ _)<=Z5
   rw[Zz,<-Zz (f:=λp:Nat×Nat=>p.2),Z7.order.length_eq,QP,c,T.len];exact k
  .intro z j
   let⟨p,d,rfl⟩:=XY.mp j;have u:=(Z7.live p.1 p.2).mp d
   let ⟨n,B,A⟩:=Z7.met p.2 p.1 (Bd es p.2).1 (by
    rw[WN,Array.getElem?_map,r p d];rfl) u
   refine⟨n,B,λm w=>?_⟩;let⟨i,y⟩:=Qm (A m w);exact⟨_,XY.mpr ⟨(Ia Z5 (Bd es p.2).1 m,i),(Z7.live _ _).mpr y,rfl⟩,rfl⟩
 .show (List.map _ (List.map _ _)).Perm _
  rw[Uu];have h1:((Ig Z5 owner).map ((λz:Nat×Int×Value=>z.2) ∘ λp=>(p.1,Bd es p.2)))=((Ig Z5 owner).map (·.2)).map (Bd es):=by rw[Uu];rfl
  rw[h1];have h2:Z.map (·.2)=(List.range es.size).map (Bd es):=by
   apply List.ext_getElem?;intro i;have he:es[i]?=(Z.map (·.2))[i]?:=by rw[T.he];simp
   rw[<-he,Wh];rcases Qp i es.size with q|q
   .rw [List.getElem?_range q]
    show _=some (Bd es i);unfold Bd;rw[Ws q];rfl
   .rw [QQ q,Qg (by rw[QP];exact q)];rfl
  rw[h2];have:=Z7.order.map (Bd es);rw[c]at this;exact this
def Tb.fill(T:Tb t es Z):t.fill=Z.length:=by unfold SetTable.fill;rw[T.hp,T.hd];simp
def Tb.full(T:Tb t es Z):t.tooFull=decide (Z.length*5 ≥ t.mask*3):=by unfold SetTable.tooFull;rw[T.fill]
def Tb.fits(T:Tb t es Z):t.fits es.size=true:=by
 unfold SetTable.fits;rw[T.fill,T.len];have:=T.hn;rw[T.hp];simp[this]
def zH(a:Mok Z5)(h:n*5<Z5*3)(h':(n+1)*5 ≥ Z5*3)(c:n<300):
  Mok (SetTable.sizeAbove (SetTable.grown (n+1))-1)/\(n+1)*5<(SetTable.sizeAbove (SetTable.grown (n+1))-1)*3/\SetTable.sizeAbove (SetTable.grown (n+1))<=512:=by
 rcases a with rfl|rfl|rfl|rfl
 .have:n=4:=by lia
  subst this;exact⟨.inr (.inl #[1]),by decide,by decide⟩
 .have:n=18:=by lia
  subst this;exact⟨.inr (.inr (.inl #[1])),by decide,by decide⟩
 .have:n=76:=by lia
  subst this;exact⟨.inr (.inr (.inr #[1])),by decide,by decide⟩
 .lia
end
open PySem PyProof.Rows
section
variable{E:Value->Shared->Prop}
abbrev IsT(prog:Program)(w:World)(h:Heap)(k:List Int)(b:Addr):Prop:=IsTupleKey (intKind prog w) h k b
abbrev Zm(prog:Program)(w:World)(k:List Int):Int:=tupleKeyHash (intKind prog w) k
def iV{k:List Int}{vs:List Value}(h:ItemsAre (intKind prog w) k vs):∀v∈vs,∃i t,v=.int i t:=by
 induction h with
 |nil=>intro v a;cases a
 |cons h1 _ ih=>
  intro v a;rcases X5.mp a with rfl|a
  .obtain ⟨t,e⟩:=Qj h1;exact⟨_,t,e⟩
  .exact ih v a
def ka{k:List Int}{Q:Bool->Shared->Prop}(d:IsT prog w s.heap k b)(h:Q false s):wpAny (model prog w) A (ofAClassStatement (n+1) (.ref b)) Q E s:=by
 have hT:=d.typeIs;let⟨o,items,c,ho,_,g,hi⟩:=d;unfold ofAClassStatement;refine ZB (wpAny_typeOf hT ?_);dsimp only;rw[YC #[1]]
 refine ZB (ZP ?_);simp![Bool.not_true,XH,W6];refine ZB (Ot ho g ?_);dsimp only;refine ZB ?_;rw[<-Array.forIn_toList];refine Q5 _ (λZQ r s'=>r.1=none/\s'=s /\∀v∈ZQ,∃i t,v=Value.int i t) _ ?_ ?_ _ _ ⟨rfl,rfl,iV hi⟩
 .rintro v ZQ r s' ⟨a,rfl,f⟩
  let⟨i,t,rfl⟩:=f v XZ;have e:ofAClassStatement n (Value.int i t)=pure false:=by cases n<;>rfl
  rw[e];refine ZB (ZP ?_);simp![XH,W6];exact ZP ⟨rfl,rfl,λu j=>f u (GC _ j)⟩
 .rintro ⟨z,y⟩ s' ⟨a,rfl,_⟩
  simp only at a;subst a;exact ZP h
def zm{k:List Int}{Q:Bool->Shared->Prop}(d:IsT prog w s.heap k b)(h:Q true s):wpAny (model prog w) A (hashByValue (n+1) (.ref b)) Q E s:=by
 have hT:=d.typeIs;let⟨o,items,c,ho,_,g,hi⟩:=d;unfold hashByValue;refine ZB (Qd hT PySem.F.slot_tuple_hash.lookup ?_);dsimp only;refine ZB (Ot ho g ?_);dsimp only[Option.getD];refine ZB ?_;rw[<-Array.forIn_toList];refine Q5 _ (λZQ r s'=>r.1=none/\s'=s /\∀v∈ZQ,∃i t,v=Value.int i t) _ ?_ ?_ _ _ ⟨rfl,rfl,iV hi⟩
 .rintro v ZQ r s' ⟨a,rfl,f⟩
  let⟨i,t,rfl⟩:=f v XZ;have e:hashByValue n (Value.int i t)=pure true:=by cases n<;>rfl
  rw[e];refine ZB (ZP ?_);simp![Bool.not_true,XH,W6];exact ZP ⟨rfl,rfl,λu j=>f u (GC _ j)⟩
 .rintro ⟨m,l⟩ s' ⟨a,rfl,_⟩
  simp only at a;subst a;exact ZP h
def acm{k:List Int}{Q:Bool->Shared->Prop}(e:IsT prog w s.heap k b){d:List Value}(a:∀y∈d,∃k' b',y=.ref b'/\IsT prog w s.heap k' b')(h:Q false s):
  wpAny (model prog w) A (searchCouldBeSeen (.ref b) d) Q E s:=by
 unfold searchCouldBeSeen;refine ZB ?_;refine Q5 _ (λZQ r s'=>r.1=none/\s'=s /\∀y∈ZQ,∃k' b',y=Value.ref b'/\IsT prog w s.heap k' b') _ ?_ ?_ _ _ ⟨rfl,rfl,a⟩
 .rintro y ZQ r s' ⟨c,rfl,f⟩
  let⟨k',b',rfl,g⟩:=f y XZ;have ZD:∀u∈ZQ,∃k' b',u=Value.ref b'/\IsT prog w s'.heap k' b':=λu i=>f u (GC _ i);dsimp only;split
  .exact ZP ⟨rfl,rfl,ZD⟩
  .refine ZB (wpAny_eqIsQuiet_tuple e ?_)
   simp![Bool.not_true,XH,W6];refine ZB (wpAny_eqIsQuiet_tuple g ?_);simp![Bool.not_true,XH,W6];refine ZB (ka e ?_);simp![XH,W6];refine ZB (ka g ?_);simp![XH,W6];exact ZP ⟨rfl,rfl,ZD⟩
 .rintro ⟨l,j⟩ s' ⟨c,rfl,_⟩
  simp only at c;subst c;exact ZP h
structure Yy(prog:Program)(w:World)(o:Obj)(D:List (List Int×Addr))(es:Array (Int×Value))(ep:Nat)(t:SetTable)(Z:Z3):Prop where
 ex:o.ExactSet
 dt:o.data=.set es ep t
 tb:Tb t es Z
 pl:t.plain=true
 ld:t.led = !(w.params.followText "set-order")
 fl:Z.length*5<t.mask*3
 pm:(Z.map (·.2)).Perm (D.map λd=>(Zm prog w d.1,Value.ref d.2))
end
section
variable{E:Value->Shared->Prop}{o:Obj}{es:Array (Int×Value)}{t:SetTable}{Z:Z3}{k:List Int}
def Yy.mem(P:Yy prog w o D es ep t Z)(a:z∈Z):∃d∈D,z.2=(Zm prog w d.1,Value.ref d.2):=by
 have:=P.pm.mem_iff.mp (XY.mpr ⟨z,a,rfl⟩);let⟨d,b,e⟩:=XY.mp this;exact⟨d,b,e.symm⟩
def Yy.mem'(P:Yy prog w o D es ep t Z){d:List Int×Addr}(b:d∈D):∃z∈Z,z.2=(Zm prog w d.1,Value.ref d.2):=by
 have:=P.pm.mem_iff.mpr (XY.mpr ⟨d,b,rfl⟩);let⟨z,a,e⟩:=XY.mp this;exact⟨z,a,e⟩
def Yy.len(P:Yy prog w o D es ep t Z):Z.length=D.length:=by
 have:=P.pm.length_eq;simpa using this
def xU(h:Mok Z5):Z5 % 2=1:=by rcases h with rfl|rfl|rfl|rfl<;>decide
def vL(hu:A.units<cLine)(ho:s.heap.get? a=some o)(P:Yy prog w o D es ep t Z)(hD:∀d∈D,IsT prog w s.heap d.1 d.2)(hk:IsT prog w s.heap k b)
  (WW:∀d∈D,Zm prog w d.1=Zm prog w k->d.1=k) {Q:SetFound->Shared->Prop}
  (h1:(∃d∈D,d.1=k)->Q (.there none) s)
  (h2:(∀d∈D,d.1≠k) ->∀N,(∀z∈Z,z.1≠Ia t.mask (Zm prog w k) N)->(∀m,m<N ->∃y∈Z,y.1=Ia t.mask (Zm prog w k) m)->Q (.free (Ia t.mask (Zm prog w k) N) false) s) :
  wpAny (model prog w) A (setSearch a (.ref b) (Zm prog w k) true) Q E s:=by
 have hf:=P.tb.fits;show wpAny (model prog w) A (setSearchFrom a (.ref b) (Zm prog w k) true (99999+1) none) Q E s;rw[setSearchFrom];refine ZB (UI ho P.dt hf ?_);dsimp only;rw[Yj (by unfold SetTable.gaveWay;rw[xU P.tb.hM];decide)]
 rcases P.tb.probe (Zm prog w k)with⟨i,z,j,nx,ez,eh,ej,e⟩|⟨WH,N,e,Vn,hle,hbef⟩
 .obtain ⟨d,hd,ed⟩:=P.mem (W_ ez)
  have hdk:d.1=k:=WW d hd (by rw[<-eh,ed])
  have key:∀f:Nat->Int,f=XJ es->t.probe f (Zm prog w k) ((none:Option SetTable.Probe).getD (t.probeStart (Zm prog w k)))=some (.candidate j i nx):=λf hf=>by rw[hf];exact e
  rw[key]
  rotate_left
  .rfl
  dsimp only;have body:wpAny (model prog w) A (do
    let some (_,y):=es[i]?|unsupported "internal:set-entry"
    let equal<-holding [y] (eqBool y (.ref b))
    let(es',_,t')<-setState a
    if true&&equal then return .there none
    let some same:=t'.sameMemory t.moves t.mask|unsupported "set.changed-during-lookup:is-the-new-block-at-the-old-address"
    let Sa<-match(if same then t'.slot j else .empty)with
     |.live i'=>match es'[i']? with
      |some (_,y')=>do pure (if<-isSame y' y then some i' else none)
      |none=>pure none
     |_=>pure none
    match Sa with
    |none=>rule "set.search.anew";setSearchFrom a (.ref b) (Zm prog w k) true 99999 none
    |some i'=>if equal then return .there (some i')else setSearchFrom a (.ref b) (Zm prog w k) true 99999 (some nx)) Q E s:=by
   rw[P.tb.hash ez,ed];dsimp only;refine ZB (VO (wpAny_eqBool_tuple (knd:=intKind prog w) hu (hD d hd) hk ?_));refine ZB (UI ho P.dt hf ?_);dsimp only;rw[Vo hdk];exact ZP (h1 ⟨d,hd,hdk⟩)
  cases hl:t.led with
  |true=>simp![Bool.not_true,XH,W6];exact body
  |false=>
   simp![Pw,Uc];refine ZB (acm hk (λy hy=>?_) ?_)
   .rw [XY]at hy
    let⟨x,hx,rfl⟩:=hy;have hx:x∈es.toList:=by
     have:=T1.mp hx;rw[Array.mem_filter]at this;exact T1.mpr this.1
    rw[P.tb.he]at hx;simp![XY]at hx;let⟨z',hz',rfl⟩:=hx;let⟨d',YY,e'⟩:=P.mem hz';exact⟨d'.1,d'.2,by rw[e'],hD d' YY⟩
   .simp only [XH,W6]
    exact body
 .have key:∀f:Nat->Int,f=XJ es->t.probe f (Zm prog w k) ((none:Option SetTable.Probe).getD (t.probeStart (Zm prog w k)))=some (.empty (Ia t.mask (Zm prog w k) N) none):=λf hf=>by rw[hf];exact e
  rw[key]
  rotate_left
  .rfl
  dsimp only;refine ZP (h2 (λd hd ek=>?_) N Vn hbef);let⟨z,hz,ez⟩:=P.mem' hd;exact WH z hz (by rw[ez,ek])
end
section
variable{E:Value->Shared->Prop}{o:Obj}{es:Array (Int×Value)}{t:SetTable}{Z:Z3}{k:List Int}
def jJ{es':Array (Int×Value)}{t':SetTable}(c:h.get? a=some o)(b:o.data=.set es ep t):(h.update a (Obj.putSet es' t')).get? a=some {o with data:=.set es' (ep+1) t'}:=by
 have:=Rn (Obj.putSet es' t') c (by rw[putSet_of es' t' b];rfl)
 rw[putSet_of es' t' b]at this;exact this
def wt{Q:Unit->Shared->Prop}{wanted:Nat}(ho:s.heap.get? a=some o)(hd:o.data=.set es ep t)(T:Tb t es Z)(hM:Mok (SetTable.sizeAbove wanted-1))(hl:Z.length<=SetTable.sizeAbove wanted-1)(hs:SetTable.sizeAbove wanted<=512)
  (h:∀ es' t' Z',Tb t' es' Z'->(Z'.map (·.2)).Perm (Z.map (·.2))->t'.mask=SetTable.sizeAbove wanted - 1->t'.led=t.led->t'.plain=t.plain ->
   Q Unit.unit {s with heap:=s.heap.update a (Obj.putSet es' t')}):wpAny (model prog w) A (setRelay a wanted) Q E s:=by
 let⟨t',order,Z',e,T',pm,hm,Wg,hp⟩:=T.relaid hM hl;have hz:(order.filterMap (es[·]?)).size=es.size:=by
  rw[T'.len,T.len];have:=pm.length_eq;simpa using this
 unfold setRelay;refine ZB (UI ho hd T.fits ?_);dsimp only;have hz7:sizeLine=16777216:=by rfl
 rw[Yj (by lia)]
 refine ZB ?_;rw [e];show wpAny _ _ (do
  let es':=order.filterMap (es[·]?)
  if es'.size != es.size then unsupported "internal:set-table-lost-an-element"
  pure (es',t')) _ _ _
 dsimp only;rw[Yj (by rw[hz];simp)]
 refine ZP ?_;dsimp only;refine wpAny_storeSet_of ho hd (h _ t' Z' T' pm hm Wg hp) ?_;rw[hz,T.len];have:sizeLine=16777216:=by rfl
 omega
def vI(K:A.units<cLine)(h:s.heap.get? a=some o)(P:Yy prog w o D es ep t Z)(L:∀d∈D,IsT prog w s.heap d.1 d.2)(B:IsT prog w s.heap k b)
  (WW:∀d∈D,Zm prog w d.1=Zm prog w k->d.1=k) (hn:D.length<300) {Q:Bool->Shared->Prop}
  (O:(∃d∈D,d.1=k)->Q false s)
  (C:(∀d∈D,d.1≠k) ->∀h' o' es' v t' Z',Heap.SameBut a s.heap h'->h'.get? a=some o'->Yy prog w o' (D++[(k,b)]) es' v t' Z'->Q true {s with heap:=h'}) :
  wpAny (model prog w) A (setAddHashed a (.ref b) (Zm prog w k)) Q E s:=by
 have hf:=P.tb.fits;unfold setAddHashed;refine VO ?_;show wpAny (model prog w) A (setAddHashedIn a (.ref b) (Zm prog w k) (99999+1)) Q E s;rw[setAddHashedIn];refine ZB (UI h P.dt hf ?_);dsimp only;rw[Yj (by exact GA)]
 refine ZB (vL K h P L B WW (λl=>?_) λl N U T=>?_)
 .exact ZP (O l)
 .dsimp only
  refine ZB (UI h P.dt hf ?_);dsimp only;have hlen:=P.len;have H:=P.fl;have hM:=P.tb.hM;have M:Z.length+1<=t.mask:=by rcases hM with e|e|e|e<;>rw[e]at H ⊢<;>lia
  let⟨p,v,f⟩:=P.tb.put (x:=.ref b) U T M;have m:(t.put (Ia t.mask (Zm prog w k) N)).1.plain=true:=P.pl;have z:(t.put (Ia t.mask (Zm prog w k) N)).1.led = !(w.params.followText "set-order"):=P.ld;have i:(t.put (Ia t.mask (Zm prog w k) N)).1.mask=t.mask:=rfl;rw[v];generalize u:List.take p Z++(Ia t.mask (Zm prog w k) N,Zm prog w k,Value.ref b)::List.drop p Z=j at f;have c:(j.map (·.2)).Perm ((D++[(k,b)]).map λd=>(Zm prog w d.1,Value.ref d.2)):=by
   rw[<-u];refine((xX Z p _).map _).trans ?_;rw[YT,SM];refine(P.pm.cons _).trans ?_;exact(Ui (l₁:=[_])).trans (List.Perm.refl _)
  have I:j.length=Z.length+1:=by
   have:=c.length_eq;simp![Zz,Z1,TH]at this;lia
  generalize(t.put (Ia t.mask (Zm prog w k) N)).1=t1 at f m z i;rw[YC m];refine ZB (zm B ?_);simp![Uc];refine ZB (wpAny_storeSet_of h P.dt ?_ ?_)
  rotate_left
  .rw [f.len]
   have:sizeLine=16777216:=by rfl
   lia
  have y:=jJ (es':=SetTable.insertAt es p (Zm prog w k,Value.ref b)) (t':=t1) h P.dt;have G:=Sz s.heap a (Obj.putSet (SetTable.insertAt es p (Zm prog w k,Value.ref b)) t1);simp![Pw,Qw];rw[f.full];by_cases q:j.length*5 ≥ t1.mask*3
  .rw [Vo q]
   simp![Uc];have r:es.size=Z.length:=P.tb.len;rw[r];let⟨S,g2,R⟩:=zH (Z5:=t.mask) (n:=Z.length) hM H (by rw[i,I]at q;exact q) (by lia)
   refine ZB (wt (s:={s with heap:=_}) y rfl f S (by lia) R λV t2 F T2 g Y X W=>?_)
   refine ZP (C l _ _ _ _ _ F (G.trans (Sz _ a _)) (jJ y rfl) ⟨P.ex,rfl,T2,W.trans m,X.trans z,?_,g.trans c⟩);have J:F.length=j.length:=by have:=g.length_eq;simpa using this
   rw[Y,J,I];exact g2
  .rw [WY q]
   simp![XH,W6];refine ZP (C l _ _ _ _ _ j G y ⟨P.ex,rfl,f,m,z,by omega,c⟩)
def z7(c:A.units<cLine)(f:s.heap.get? a=some o)(P:Yy prog w o D es ep t Z)(h:∀d∈D,IsT prog w s.heap d.1 d.2)(e:IsT prog w s.heap k b)
  (n:∀d∈D,Zm prog w d.1=Zm prog w k->d.1=k) (g:D.length<300) {Q:Bool->Shared->Prop}
  (j:(∃d∈D,d.1=k)->Q false {s with toks:=s.toks+(k.length+1)})
  (i:(∀d∈D,d.1≠k) ->∀h' o' es' m t' l,Heap.SameBut a s.heap h'->h'.get? a=some o'->Yy prog w o' (D++[(k,b)]) es' m t' l->Q true {s with heap:=h',toks:=s.toks+(k.length+1)}) :
  wpAny (model prog w) A (setAdd a (.ref b)) Q E s:=by
 unfold setAdd;refine VO (ZB (wpAny_pyHash_tuple c e ?_));exact vI (s:={s with toks:=s.toks+(k.length+1)}) c f P h e n g j i
end
def dd(key:Nat->List Int×Addr):Nat->List (List Int×Addr)
 |0=>[]
 |i+1=>open Classical in if∃d∈dd key i,d.1=(key i).1 then dd key i else dd key i++[key i]
def cR(key:Nat->List Int×Addr):∀(i:Nat) (d:List Int×Addr),d∈dd key i ->∃j,j<i/\d=key j
 |0,d,h=>by cases h
 |i+1,d,h=>by
  unfold dd at h;split at h
  .obtain ⟨j,a,e⟩:=cR key i d h;exact⟨j,by lia,e⟩
  .rcases Wd.mp h with h|h
   .obtain ⟨j,a,e⟩:=cR key i d h;exact⟨j,by omega,e⟩
   .exact ⟨i,by lia,WA.mp h⟩
def oY(key:Nat->List Int×Addr):∀(i:Nat),(dd key i).length<=i
 |0=>GB _
 |i+1=>by
  have:=oY key i;unfold dd;split
  .lia
  .rw [Z1,TH];lia
def nh(key:Nat->List Int×Addr):∀(i j:Nat),j<i ->∃d∈dd key i,d.1=(key j).1
 |0,j,h=>by omega
 |i+1,j,h=>by
  unfold dd;by_cases b:j=i
  .subst b
   split
   .assumption
   .exact ⟨_,Vy _ (WA.mpr rfl),rfl⟩
  .obtain ⟨d,a,e⟩:=nh key i j (by lia)
   split
   .exact ⟨d,a,e⟩
   .exact ⟨d,Rt _ a,e⟩
def sm(key:Nat->List Int×Addr):∀(i:Nat),((dd key i).map (·.1)).Nodup
 |0=>List.nodup_nil
 |i+1=>by
  have ih:=sm key i;unfold dd;split
  .exact ih
  .rename_i c
   rw[SM];refine PQ.mpr ⟨ih,by simp,λx b y a e=>c ?_⟩
   let⟨d,f,g⟩:=XY.mp b;rw[List.map_singleton,WA]at a;exact⟨d,f,by rw[g,e,a]⟩
section
variable{R:Result->Shared->Prop}{I:Addr}{wr:List Addr}{G:Array GenState->Array GenState->Prop}{P:Nat->Value->Prop}{St:Nat->Shared->Prop}
def SInv(prog:Program)(w:World)(Z6:Addr)(D:List (List Int×Addr))(h:Heap):Prop:=∃o es ep t Z,h.get? Z6=some o/\Yy prog w o D es ep t Z
def jT(W:WalksS prog w A.in1 I fp wr G n P St)(hu:A.in1.units<cLine)(Z6:Addr)(UE:Z6 ∉ fp)(k:Heap)(L:k.get? Z6=none)(D:∀b∈wr,k.get? b=none)
  (key:Nat->List Int×Addr) (TF:∀i v,P i v->v=.ref (key i).2) (Vk:∀i,i<n->IsT prog w k (key i).1 (key i).2)
  (TC:∀i j,i<n->j<n->Zm prog w (key i).1=Zm prog w (key j).1->(key i).1=(key j).1) (hn:n<=300) :
  ∀(m i:Nat) (s:Shared),n-i=m->i<=n->St i s->(∀b o,k.get? b=some o->s.heap.get? b=some o)->SInv prog w Z6 (dd key i) s.heap ->
   (∀s',Moved (Z6::wr) G s s'->SInv prog w Z6 (dd key n) s'.heap->R (.ok (.ret .none)) s') ->
   codeAny (model prog w) A (.builtin "set.update.loop" ⟨[.ref Z6,.ref I],[]⟩) R s:=by
 have r:Z6 ∉ wr:=λh=>UE (W.sub _ h);have V:∀b∈wr,b∈Z6::wr:=λb g=>GC _ g;have kp:∀{s s':Shared},Moved wr G s s'->(∀b o,k.get? b=some o->s.heap.get? b=some o) ->∀b o,k.get? b=some o->s'.heap.get? b=some o:=λa g b o e=>
  a.heap b o (λhw=>by rw[D b hw]at e;cases e) (g b o e)
 intro m
 induction m with
 |zero=>
  intro i s hk hi st g M y;have e:i=n:=by lia
  subst e;refine Ph Qt ?_;rw[Pb Tz _];show wpAny _ A.in1 (pyNext (.ref I) >>= _) _ _ s;refine ZB (W.done s _ _ st λs' a=>?_);let⟨o,es,ep,t,Z,ho,z⟩:=M;exact ZP (y s' (a.mono V) ⟨o,es,ep,t,Z,a.heap Z6 _ r ho,z⟩)
 |succ m ih=>
  intro i s hk hi st g M y;have u:i<n:=by omega
  refine Ph Qt ?_;rw[Pb Tz _];show wpAny _ A.in1 (pyNext (.ref I) >>= _) _ _ s;refine ZB (W.item i s _ _ u st λv s' hv X a=>?_);obtain rfl:=TF i v hv;let⟨o,es,ep,t,Z,ho,z⟩:=M;have Y:=a.heap Z6 _ r ho;have T:=kp a g;have l:∀j,j<n->IsT prog w s'.heap (key j).1 (key j).2:=λj H=>by
   let⟨x,ZV,c,e1,e2,e3,e4⟩:=Vk j H;exact⟨x,ZV,c,T _ _ e1,e2,e3,e4⟩
  show wpAny _ A.in1 (holding [Value.ref (key i).2] (setAdd Z6 (.ref (key i).2)) >>= _) _ _ s';refine ZB (VO (z7 hu Y z (λd p=>?_) (l i u) (λd p e=>?_) (by have:=oY key i;lia) (λC=>?_) λC h' o2 O Q t2 Z2 sb E N=>?_))
  .obtain ⟨j,H,rfl⟩:=cR key i d p
   exact l j (by lia)
  .obtain ⟨j,H,rfl⟩:=cR key i d p
   exact TC j i (by lia) u e
  .have S:dd key (i+1)=dd key i:=by rw[dd,YC C]
   refine ZP ⟨plainId_quiet Tz _,ih (i+1) _ () u (W.frame _ s' s'.heap _ X (Qq _ _) λb _ o e=>e) T ⟨o,es,ep,t,Z,Y,by rw[S];exact z⟩ λB U f=>?_⟩
   exact y B (Moved.trans W.gtrans ((a.mono V).then_heap (Qq _ _) λb o _ e=>e) U) f
  .have S:dd key (i+1)=dd key i++[key i]:=by
    rw[dd,Yj];rintro⟨d,p,e⟩;exact C d p e
   refine ZP ⟨plainId_quiet Tz _,ih (i+1) _ () u (W.frame _ s' h' _ X (Qq _ _) λb K o e=>?_) (λb o e=>?_) ⟨o2,O,Q,t2,Z2,E,by rw[S];exact N⟩ λB U f=>?_⟩
   .rw [sb.2 b λq:b=Z6=>UE (by rw[<-q];exact K)];exact e
   .show h'.get? b=_
    rw[sb.2 b λq:b=Z6=>by rw[q,L]at e;cases e];exact T b o e
   .refine y B (Moved.trans W.gtrans ((a.mono V).then_heap (Qq _ _) λb o J e=>?_) U) f
    show h'.get? b=_;rw[sb.2 b λq:b=Z6=>J (by rw[q];exact XZ)];exact e
end
section
variable{E:Value->Shared->Prop}
abbrev SJ(w:World):Bool:=w.params.followText "set-order"
abbrev A1(w:World):Obj:={cls:=.type "set",dict:=none,data:=.set #[] 0 (.fresh 0 0 (!SJ w))}
def lK:Yy prog w (A1 w) [] #[] 0 (.fresh 0 0 (!SJ w)) [] where
 ex:=⟨rfl,rfl,rfl⟩
 dt:=rfl
 tb:=⟨rfl,rfl,rfl,List.Pairwise.nil,λz hz=>by(cases hz),.inl rfl,S_ _,λz hz=>by(cases hz)⟩
 pl:=rfl
 ld:=rfl
 fl:=(by decide:0<7*3)
 pm:=List.Perm.refl _
def zM(a:Value){Q₁ : Value->Shared->Prop}(h:Q₁ (.ref s.heap.objs.size) {s with heap:=s.heap.push (A1 w)}):
  codeAny (model prog w) A (.call (.builtin "set.__new__") ⟨[.type "set",a],[]⟩) (wants Q₁ E) s:=by
 refine Oi ?_;show wpAny _ A.in1 (do checkBuiltinCall "set.__new__" ⟨[.type "set",a],[]⟩;again (.builtin "set.__new__" ⟨[.type "set",a],[]⟩)) _ _ s
 refine ZB (Ou (PySem.F.newCall_set_1 a) (ZP ⟨plainId_quiet PySem.F.plain_set_new _,Ph PySem.F.entry_set_new ?_⟩));rw[Pb PySem.F.plain_set_new _];unfold Builtin.«set.__new__» Builtin.Frozenset.newClass;have UD:=sub_set_self;let⟨hp,g,d,tk,os⟩:=s;dsimp only
 wp_walk
 refine T3 (ZP ?_);dsimp only;simp![newObj];refine ZB (wpAny_alloc (ZP ?_));exact ZP h
set_option maxHeartbeats 3200000 in
def vY{l:Addr}{items:Array Value}{Q:Value->Shared->Prop}{key:Nat->List Int×Addr}
    (t:s.heap.IsList l items\/s.heap.IsTuple l items)
    (hh:A.handled=none) (O:A.units+3<cLine) (TF:∀(i:Nat) (v:Value),items[i]?=some v->v=.ref (key i).2) (Vk:∀i,i<items.size->IsT prog w s.heap (key i).1 (key i).2)
    (TC:∀i j,i<items.size->j<items.size->Zm prog w (key i).1=Zm prog w (key j).1->(key i).1=(key j).1) (W:items.size<=300)
    (h:∀(h':Heap) (tk:Nat),SInv prog w s.heap.objs.size (dd key items.size) h'->(∀b o,s.heap.get? b=some o->h'.get? b=some o)->Q (.ref s.heap.objs.size) {s with heap:=h',toks:=tk}) :
    wpAny (model prog w) A (call (.type "set") [.ref l]) Q E s:=by
  let⟨c,tl,X⟩:=PySem.F.called_set.mro;have J:=PySem.F.called_set.made;have UD:=PySem.F.called_set.sub;refine OE (Oi ?_);show wpAny _ _ (callAny (.type "set") _) _ _ _;refine ZP ⟨Code.quiet_builtin _ (by decide +kernel),Ph PySem.F.entry_type_call ?_⟩
  rw[Around.under_plain (weight_type_call_type "set" [.ref l] []) rfl];have h1:=PySem.F.called_set.notType;have h2:=PySem.F.called_set.canCreate;have hct:=PySem.F.typeCall_set_1 (.ref l)
  repeat (any_goals (first|assumption|wp_step))
  refine Ru (zM (.ref l) (E:=E) (Q₁:=λobj Y=>obj=.ref s.heap.objs.size/\Y = {s with heap:=s.heap.push (A1 w)}) ⟨rfl,rfl⟩) λr Y n=>?_
  cases r with
  |error e=>exact n
  |ok fl=>
    cases fl with
    |ret obj=>
      let⟨rfl,rfl⟩:=n;have K:(s.heap.push (A1 w)).get? s.heap.objs.size=some (A1 w):=GG _ rfl;have hT:Shared.TypeIs {s with heap:=s.heap.push (A1 w)} (.ref s.heap.objs.size) "set":=⟨_,K,rfl⟩
      have hli:=PySem.F.called_set.init.lookup;have hbi:=PySem.F.called_set.init.bind (.ref s.heap.objs.size)
      repeat (any_goals (first|assumption|wp_step))
      refine Ru (codeAny_call_builtin (R:=wants (λr TN => r=.none /\ ∃ h' tk,TN = { s with heap:=h',toks:=tk }/\SInv prog w s.heap.objs.size (dd key items.size) h'/\(∀ b o,s.heap.get? b=some o->h'.get? b=some o)) E)
        PySem.F.called_set.init.plain PySem.F.entry_set_init (check_set_init_1 hT ?_)) λm TN y=>?_
      . rcases t with t|t
        all_goals
         have d:=t.push (A1 w);let⟨ol,p,Z,nl,x⟩:=t;let⟨N,G,H,z⟩:=ol;simp only at Z x;subst Z;subst x;have V:=Gx (A1 w) p;have P:=PySem.F.sub_list_set;have U:=PySem.F.sub_tuple_set;have S:=PySem.F.sub_list_frozenset;have T:=PySem.F.sub_tuple_frozenset;have Y7:(Value.type "list" == Value.type "dict")=false:=by decide
         have hnT:(Value.type "tuple" == Value.type "dict")=false:=by decide
         unfold Builtin.«set.__init__» noKeywords Builtin.Frozenset.updateFrom;generalize L:pyIter=PI
         wp_walk
         subst L
         first|refine wpAny_pyIter_list d ?_|refine wpAny_pyIter_tuple d ?_
         refine ZB (wpAny_runValue ?_);have q:l<s.heap.objs.size:=Gy p;have u:A.in1.in1.in1.handled=none:=by simp[hh]
         have k:(s.heap.push (A1 w)).objs.size=s.heap.objs.size+1:=RA _ _;have SI:l≠(s.heap.push (A1 w)).objs.size:=by rw[k];exact GF (Rv q)
         have UE:s.heap.objs.size ∉ [(s.heap.push (A1 w)).objs.size,l]:=by
           rw[k];intro a;rcases X5.mp a with e|a
           . exact GF (Ri _) e
           . exact QH q (WA.mp a)
         have B:∀b,s.heap.objs.size<=b->s.heap.get? b=none:=λb g=>by
           cases e:s.heap.get? b with
           |none=>rfl
           |some o=>exact absurd (Gy e) (Nat.not_lt.mpr g)
         first
         |refine jT ((Walks.list u _ l SI items).toS) (by first|exact O|(simp![Around.in1_units];omega)) s.heap.objs.size UE s.heap (B _ (GB _)) (λb g=>B b (by rw[WA.mp g,k];exact VC _)) key (λi v I=>TF i v I) Vk TC W (items.size-0) 0 _ (by lia) (S_ _) ⟨⟨_,GG _ rfl,rfl,rfl⟩,(d.push _)⟩ (λb o e=>Gx _ (Gx _ e)) ⟨A1 w,_,_,_,[],Gx _ K,lK⟩ λs' a f=>?_
         |refine jT ((Walks.tuple u _ l SI items).toS) (by first|exact O|(simp![Around.in1_units];omega)) s.heap.objs.size UE s.heap (B _ (GB _)) (λb g=>B b (by rw[WA.mp g,k];exact VC _)) key (λi v I=>TF i v I) Vk TC W (items.size-0) 0 _ () (S_ _) ⟨⟨_,GG _ rfl,rfl,rfl⟩,(d.push _)⟩ (λb o e=>Gx _ (Gx _ e)) ⟨A1 w,_,_,_,[],Gx _ K,lK⟩ λs' a f=>?_
         let⟨h',g',d',C,D⟩:=s';have eg:g'=s.gens:=a.gens;have ed:d'=s.drawn:=a.drawn;have eo:D=s.os:=a.os;subst eg;subst ed;subst eo;show wpAny _ _ _ _ _ _;refine ZP ?_;show wpAny _ _ (ret Value.none) _ _ _;refine ZP ⟨rfl,h',C,rfl,f,λb o e=>?_⟩;have g:=Gy e;refine a.heap b o (λM=>?_) (Gx _ (Gx _ e));rcases X5.mp M with e'|M
         . exact GF g e'
         . have:=WA.mp M
           rw[k]at this;exact GF (Rv g) this
      . cases m with
        |error e=>exact y
        |ok R_=>
          cases R_ with
          |ret r=>
            let⟨rfl,h',tk,rfl,f,WC⟩:=y
            repeat (any_goals (first|assumption|wp_step))
            exact h _ _ f WC
          |next=>exact y.elim
          |brk=>exact y.elim
          |cont=>exact y.elim
    |next=>exact n.elim
    |brk=>exact n.elim
    |cont=>exact n.elim
end
def ly{b:Type}(next:Nat->Nat):∀(fu k:Nat) (left:List b) (out:Array b),left.length<=fu->(pickOrder.go next fu k left out).toList.Perm (out.toList++left)
 |0,k,left,out,h=>by
  have:left=[]:=RE.mp (by lia)
  subst this;rw[pickOrder.go,U9]
 |fu+1,k,left,out,h=>by
  rw[pickOrder.go];cases e:left[next k % left.length]? with
  |none=>
   dsimp only;cases left with
   |nil=>rw[U9]
   |cons x l=>
    rw[Y9 (Oc _ (by rw[YZ];lia))]at e
    cases e
  |some x=>
   dsimp only;let⟨hi,ex⟩:=YG.mp e;refine(ly next fu (k+1) _ _ (by rw[List.length_eraseIdx_of_lt hi];lia)).trans ?_
   rw[Sq,XS];refine Ro _ ?_;have a:left=left.take (next k % left.length)++x::left.drop (next k % left.length+1):=by
    rw[<-ex,<-WT hi,Wz]
   rw[UR];generalize left.take (next k % left.length)=l1 at a ⊢;generalize left.drop (next k % left.length+1)=c at a ⊢;rw[a];exact(P4 (l₁:=l1)).symm
def vS(next:Nat->Nat)(xs:Array α):(pickOrder next xs).toList.Perm xs.toList:=by
 unfold pickOrder;exact(ly next _ 0 _ #[] #[3]).trans #[3]
def Ih(w:World)(a:Addr)(c:Nat)(b:Array (Int×Value)):List (Int×Value):=if w.params.followText "set-order" then(pickOrder (w.params.setOrder a c) b).toList else b.toList
def gj(w:World)(a:Addr)(c:Nat)(b:Array (Int×Value)):(Ih w a c b).Perm b.toList:=by
 unfold Ih;split
 .exact vS _ _
 .exact .refl _
def bD:Slot "set_iterator" "__next__" "set_iterator.__next__":=
 .of (owner:="set_iterator") (n:="__next__") (by rw[typeLookup_type,builtinLookup_eq_fast];kernel_rfl) (by decide +kernel) (by decide +kernel) (by decide +kernel)
  (by first|exact .inl (by decide +kernel)|exact .inr (by decide +kernel)) (by rw[Ov];kernel_rfl)
def i3:entryFor table "set_iterator.__next__" = some Builtin.«set_iterator.__next__»:=entryFor_of_tree (by kernel_rfl)
def jI(a:Value):argsOk "set_iterator.__next__" ⟨[a],[]⟩:=by unfold argsOk;kernel_rfl
def jw:Slot "set_iterator" "__iter__" "set_iterator.__iter__":=
 .of (owner:="set_iterator") (n:="__iter__") (by rw[typeLookup_type,builtinLookup_eq_fast];kernel_rfl) (by decide +kernel) (by decide +kernel) (by decide +kernel)
  (by first|exact .inl (by decide +kernel)|exact .inr (by decide +kernel)) (by rw[Ov];kernel_rfl)
def vN:entryFor table "set.__iter__" = some Builtin.«frozenset.__iter__»:=
 entryFor_alias (id':="frozenset.__iter__") (by kernel_rfl) rfl (by decide +kernel) (by kernel_rfl)
section
variable{E:Value->Shared->Prop}{Z6 it:Addr}{o:Obj}{es:Array (Int×Value)}{t:SetTable}{Z:Z3}
def SIt(h:Heap)(it Z6:Addr)(a i n c:Nat):Prop:=∃o,h.get? it=some o/\o.cls=.type "set_iterator" /\ o.data=.fields #[.int a 0,.int i 0,.ref Z6,.int n 0,.int c 0]
def SIt.typeIs(h:SIt s.heap it Z6 slot i n ep):s.TypeIs (.ref it) "set_iterator":=let⟨o,e,c,_⟩:=h;⟨o,e,c⟩
def xv{Q:Value->Shared->Prop}(a:s.heap.get? Z6=some o)(P:Yy prog w o D es ep t Z)
  (h:Q (.ref s.heap.objs.size) {s with heap:=s.heap.push {cls:=.type "set_iterator",data:=.fields #[.int 0 0,.int 0 0,.ref Z6,.int es.size 0,.int ep 0]}}):wpAny (model prog w) A (pyIter (.ref Z6)) Q E s:=by
 have c:s.TypeIs (.ref Z6) "set":=⟨o,a,P.ex.1⟩;have hf:=P.tb.fits;refine PU c PySem.F.slot_set_iter (UA PySem.F.slot_set_iter c vN ?_ (PySem.F.args_set_iter_1 _));unfold Builtin.«frozenset.__iter__» Builtin.Frozenset.slot0 slotArgs Builtin.Frozenset.addrOf Builtin.Frozenset.sizeOf;dsimp only[List.isEmpty_nil,Bool.not_true,List.length_nil];rw[Yj #[1]];try (rw[Yj #[1]])
 refine ZB (ZP ?_);refine ZB (ZB (Pl a P.dt hf (ZP ?_)));refine ZB ?_;unfold setDrawn setsByText;refine ZB (UI a P.dt hf ?_);dsimp only;refine ZB (ZB (T3 (ZP ?_)));refine ZP ?_;rw[Yj (by show ¬ ((!w.params.followText "set-order" && (!t.plain&&decide (es.size > 1)))=true);rw[P.pl];simp)]
 refine ZB (ZP ?_);refine ZB (wpAny_setEpoch_of a P.dt hf ?_);exact ZB (VS (ZP ⟨_,rfl,"set_iterator",_,⟨_,GG _ rfl,rfl⟩,bD.lookup,by simpa[rawInt]using h⟩))
def SAt(w:World)(t:SetTable)(a i:Nat):Prop:=w.params.followText "set-order" = false->SetTable.below t.place a=i
def below_at(T:Tb t es Z){x:Nat}(e:t.place[i]?=some x):SetTable.below t.place (x+1)=i+1:=by
 let⟨c,b,d⟩:=T.below (x+1);have hi:=(Uo.mp e).1;rcases Nat.lt_trichotomy (SetTable.below t.place (x+1)) (i+1)with q|q|q
 .have:=b i x (by lia) e;lia
 .exact q
 .have a:t.place[i+1]?=some t.place[i+1]:=Ws ()
  have h1:=c (i+1) _ q a;have h2:=T.lt i (i+1) _ _ (by lia) e a
  lia
def vi(T:Tb t es Z):SetTable.below t.place 0=0:=by
 let⟨b,d,c⟩:=T.below 0;rcases Nat.eq_zero_or_pos (SetTable.below t.place 0)with q|q
 .exact q
 .have a:t.place[0]?=some t.place[0]:=Ws ()
  have:=b 0 _ q a;lia
def wA{e:Int×Value}{Q:Option (Value×Nat)->Shared->Prop}(f:s.heap.get? Z6=some o)(P:Yy prog w o D es ep t Z)(r:SAt w t slot i)(c:(Ih w Z6 ep es)[i]?=some e)
  (h:∀k,SAt w t k (i+1)->Q (some (e.2,k)) s):wpAny (model prog w) A (setNext Z6 slot i ep) Q E s:=by
 have hf:=P.tb.fits;unfold setNext;refine ZB (UI f P.dt hf ?_);dsimp only;unfold setsByText;refine ZB (ZB (T3 (ZP ?_)));dsimp only;cases a:w.params.followText "set-order" with
 |true=>
  have d:(model prog w).w.params.followText "set-order" = true:=a;rw[d,YC rfl,Yj #[3]]
  refine ZB ?_;unfold setWalk setsByText;refine ZB (UI f P.dt hf ?_);dsimp only;refine ZB (ZB (T3 (ZP ?_)));rw[d,YC rfl];refine ZB (T3 (ZP ?_));refine ZP ?_;have:(pickOrder ((model prog w).w.params.setOrder Z6 ep) es)[i]?=some e:=by
   unfold Ih at c;rw[YC a]at c;rw[<-WN];exact c
  rw[this];exact h slot (λq=>by rw[a]at q;cases q)
 |false=>
  have d:(model prog w).w.params.followText "set-order" = false:=a;rw[d,Yj #[1]]
  rw[Yj (by show ¬ ((!t.plain&&decide (es.size > 1))=true);rw[P.pl];simp)]
  refine ZB ?_;show wpAny _ _ (if(!t.led&&!es.isEmpty)=true then unsupported "set:maker-not-led" else pure Unit.unit) _ _ _
  rw[Yj (by rw[P.ld,a];simp)]
  refine ZP ?_;rw[r a];have j:es[i]?=some e:=by
   unfold Ih at c;rw[Yj (by rw[a];decide)]at c
   rw[<-WN];exact c
  have hi:i<t.place.size:=by
   have:=(Uo.mp j).1;rw[P.tb.len]at this;rw[P.tb.hp];simpa using this
  have g:t.place[i]?=some t.place[i]:=Ws hi;rw[j,g];exact ZP (h _ λ_=>below_at P.tb g)
def wB{Q:Option (Value×Nat)->Shared->Prop}(f:s.heap.get? Z6=some o)(P:Yy prog w o D es ep t Z)(g:SAt w t slot i)(a:(Ih w Z6 ep es)[i]?=none)
  (h:Q none s):wpAny (model prog w) A (setNext Z6 slot i ep) Q E s:=by
 have hf:=P.tb.fits;unfold setNext;refine ZB (UI f P.dt hf ?_);dsimp only;unfold setsByText;refine ZB (ZB (T3 (ZP ?_)));dsimp only;cases c:w.params.followText "set-order" with
 |true=>
  have d:(model prog w).w.params.followText "set-order" = true:=c;rw[d,YC rfl,Yj #[3]]
  refine ZB ?_;unfold setWalk setsByText;refine ZB (UI f P.dt hf ?_);dsimp only;refine ZB (ZB (T3 (ZP ?_)));rw[d,YC rfl];refine ZB (T3 (ZP ?_));refine ZP ?_;have:(pickOrder ((model prog w).w.params.setOrder Z6 ep) es)[i]?=none:=by
   unfold Ih at a;rw[YC c]at a;rw[<-WN];exact a
  rw[this];exact h
 |false=>
  have d:(model prog w).w.params.followText "set-order" = false:=c;rw[d,Yj #[1]]
  rw[Yj (by show ¬ ((!t.plain&&decide (es.size > 1))=true);rw[P.pl];simp)]
  refine ZB ?_;show wpAny _ _ (if(!t.led&&!es.isEmpty)=true then unsupported "set:maker-not-led" else pure Unit.unit) _ _ _
  rw[Yj (by rw[P.ld,c];simp)]
  refine ZP ?_;rw[g c];have j:es[i]?=none:=by
   unfold Ih at a;rw[Yj (by rw[c];decide)]at a
   rw[<-WN];exact a
  rw[j];exact ZP h
def yg{e:Int×Value}{Q:Option Value->Shared->Prop}(a:SIt s.heap it Z6 slot i es.size ep)(k:s.heap.get? Z6=some o)(P:Yy prog w o D es ep t Z)(u:SAt w t slot i)(y:(Ih w Z6 ep es)[i]?=some e)
  (h:∀h' d,SIt h' it Z6 d (i+1) es.size ep->SAt w t d (i+1)->Heap.SameBut it s.heap h'->Q (some e.2) {s with heap:=h'}):wpAny (model prog w) A (pyNext (.ref it)) Q E s:=by
 let⟨B,g,z,c⟩:=id a;unfold pyNext;refine ZB (Q8 (Rb (name:=Str.ofString "__next__") a.typeIs bD (UA bD a.typeIs i3 ?_ (jI _))))
 delta Builtin.«set_iterator.__next__» slotArgs;dsimp only
 dsimp only[List.isEmpty_nil,Bool.not_true,List.length_nil];rw[Yj #[1]];try (rw[Yj #[1]])
 refine ZB (ZP ?_);refine ZB (Px g c ?_);dsimp only;refine ZB (Pl k P.dt P.tb.fits ?_);rw[Yj #[3]]
 simp![QR];refine ZB (wA k P u y λd f=>?_);dsimp only;refine ZB (QS g c #[3] ?_)
 have j:(s.heap.update it (Obj.mapFields (·.setIfInBounds 0 (rawInt d)))).get? it=some _:=Rn _ g (QY (TX c _));refine ZB (QS j (TX c _) #[3] ?_)
 have r:=Rn (Obj.mapFields (·.setIfInBounds 1 (rawInt ((i:Int)+1)))) j (QY (TX (TX c _) _));refine ZP ⟨_,rfl,ZP (h _ d ⟨_,r,((PV ..).trans (PV ..)).trans z,?_⟩ f ((Sz ..).trans (Sz ..)))⟩;rw[TX (TX c _)];simp[rawInt]
def xC{Q:Option Value->Shared->Prop}(k:A.handled=none)(c:SIt s.heap it Z6 slot i es.size ep)(d:s.heap.get? Z6=some o)(P:Yy prog w o D es ep t Z)(j:SAt w t slot i)(r:(Ih w Z6 ep es)[i]?=none)
  (h:∀h',Heap.ExtBut it s.heap h'->Q none {s with heap:=h'}):wpAny (model prog w) A (pyNext (.ref it)) Q E s:=by
 let⟨u,g,y,f⟩:=id c;unfold pyNext;refine ZB (Q8 (Rb (name:=Str.ofString "__next__") c.typeIs bD (UA bD c.typeIs i3 ?_ (jI _))))
 delta Builtin.«set_iterator.__next__» slotArgs;dsimp only
 dsimp only[List.isEmpty_nil,Bool.not_true,List.length_nil];rw[Yj #[1]];try (rw[Yj #[1]])
 refine ZB (ZP ?_);refine ZB (Px g f ?_);dsimp only;refine ZB (Pl d P.dt P.tb.fits ?_);rw[Yj #[3]]
 simp![QR];refine ZB (wB d P j r ?_);dsimp only;refine ZB (QS g f #[3] ?_)
 refine ZB ?_
 delta newExc newTuple;try dsimp only
 refine ZB (VS ?_ (by size_fits))
 refine ZB (m:=firstArgMember _ _) (Ou (a:=Value.none) (by first|rfl|(simp![firstArgMember];rfl)) (VS ?_ (by size_fits)))
 delta raiseNew;try dsimp only
 refine ZB (wpAny_handled ?_);rw[show A.in1.handled=none from k];refine ZB (ZP (wpAny_throw ?_));exact ZB (P6 (T:="StopIteration") (b:=true) ⟨_,GG _ rfl,rfl⟩ isSubtype_stop (ZP (h _ (((Sz ..).extBut.push _).push _))))
end
def Ah:List Int->List Int->Bool
 |[],[]=>false
 |[],_::_=>true
 |_::_,[]=>false
 |a::r,b::q=>if a=b then Ah r q else decide (a<b)
section
variable{E:Value->Shared->Prop}
def acW(c:A.units<cLine){f:Bool}{a b:Int}{t u:Tok}{Q:Bool->Shared->Prop}(h:Q (decide (a<b)) s):wpAny (model prog w) A (oneLt' f (.int a t) (.int b u)) Q E s:=by
 cases f with
 |true=>exact oneLt_int h
 |false=>
  rw[oneLt'_eq];simp![XH,W6];refine ZB (wpAny_richCompare_same_room (op:=.Lt) (typeIs_int s a t) (typeIs_int s b u) slot_int_lt (call_int_lt ⟨(λe=>nomatch e),?_⟩) c);exact TB h
def wW(f:Bool)(x y:Value):keyLt' (tuples' f) x y=(do
  let xs<-Builtin.List.listItems x;let ys<-Builtin.List.listItems y
  for ((p,q),i)in (xs.toList.zip ys.toList).zipIdx do
   if !(<- eqBool p q)then return<-oneLt' (f&&i==0) p q
  return xs.size<ys.size):=rfl
def acM(N:A.units<cLine){f:Bool}{x y:List Int}{Q:Bool->Shared->Prop}(M:IsT prog w s.heap x a)(L:IsT prog w s.heap y b)(h:Q (Ah x y) s):
  wpAny (model prog w) A (keyLt' (tuples' f) (.ref a) (.ref b)) Q E s:=by
 let⟨X,xs,na,H,_,J,P⟩:=M;let⟨ob,ys,nb,G,_,O,I⟩:=L;rw[wW];refine ZB (listItems_at H J ?_);refine ZB (listItems_at G O ?_);refine ZB ?_;refine Q5 _
  (λZQ r s'=>r.1=none/\s'=s /\∃p o m n k,ZQ=(List.zip m n).zipIdx k/\ItemsAre (intKind prog w) p m/\ItemsAre (intKind prog w) o n/\Ah p o=Ah x y/\(m.length+ys.size=n.length+xs.size))
  _ ?_ ?_ _ _ ⟨rfl,rfl,x,y,xs.toList,ys.toList,0,rfl,P,I,rfl,by simp[Nat.add_comm]⟩
 .rintro ⟨⟨u,v⟩,i⟩ ZQ r s' ⟨F,rfl,p,o,m,n,k,c,K,q,t,hlen⟩
  cases K with
  |nil=>simp at c
  |@cons D S B e h1 j=>
   cases q with
   |nil=>simp at c
   |@cons C R z d h2 g=>
    simp![Rm,List.zipIdx_cons,Ol,OA]at c;let⟨⟨⟨rfl,rfl⟩,rfl⟩,rfl⟩:=c;refine ZB ((intKind prog w).eqBool (a:=D) (b:=C) h1 h2 ?_);by_cases hk:D=C
    .subst hk
     rw[Vo rfl];simp![Bool.not_true,XH,W6];refine ZP ⟨rfl,rfl,B,z,e,d,i+1,rfl,j,g,?_,?_⟩
     .rw [<-t];simp[Ah]
     .simp only [YZ]at hlen;lia
    .rw [WY hk]
     simp![Pw,Uc];let⟨U,rfl⟩:=Qj h1;let⟨T,rfl⟩:=Qj h2;refine ZB (acW N ?_);refine ZP (ZP ?_);have:Ah x y=decide (D<C):=by rw[<-t];simp[Ah,hk]
     rw[this]at h;exact h
 .rintro ⟨W,V⟩ s' ⟨F,rfl,p,o,m,n,k,c,K,q,t,hlen⟩
  simp only at F;subst F;refine ZP ?_;have l:decide (xs.size<ys.size)=Ah x y:=by
   rw[<-t];cases K with
   |nil=>
    cases q with
    |nil=>simp![Ah,List.length_nil]at hlen ⊢;exact WY (by lia)
    |cons _ _=>simp![Ah,List.length_nil,YZ]at hlen ⊢;exact Vo (by lia)
   |cons _ _=>
    cases q with
    |nil=>simp![Ah,List.length_nil,YZ]at hlen ⊢;exact WY (by lia)
    |cons _ _=>simp at c
  rw[l];exact h
end
def AM(prog:Program)(w:World)(A:Around)(E:Value->Shared->Prop)(s:Shared)(a:SortKind)(ZO : Array Keyed)(rk:Keyed->Nat):Prop:=
 ∀x y,x∈ZO -> y∈ZO ->∀(st:SortSt) (Q:Option Bool->SortSt->Prop),kindOf st=a->Q (some (decide (rk x<rk y))) st->wpS (model prog w) A E s (lt' x y) Q st
def Ii(rk:Keyed->Nat)(a:Array Keyed)(i:Nat):Nat:=(a[i]?.map rk).getD 0
structure SB(κ:SortKind)(ZO : Array Keyed)(st:SortSt):Prop where
 perm:(arrOf st).Perm ZO
 failed:failedOf st=none
 kind:kindOf st=κ
def Up(r:Nat->Nat)(lo hi:Nat):Prop:=∀i j,lo<=i->i<=j->j<hi->r i<=r j
def Dn(r:Nat->Nat)(lo hi:Nat):Prop:=∀i j,lo<=i->i<=j->j<hi->r j<=r i
structure Kp(κ:SortKind)(ZO : Array Keyed)(lo hi:Nat)(st ZW:SortSt):Prop where
 sb:SB κ ZO ZW
 out:∀i,(i<lo\/hi<=i)->(arrOf ZW)[i]?=(arrOf st)[i]?
 pend:pendingOf ZW=pendingOf st
section
variable{E:Value->Shared->Prop}{hi:Nat}
def SB.size(B:SB κ ZO st):(arrOf st).size=ZO.size:=B.perm.size_eq
def Kp.refl(B:SB κ ZO st):Kp κ ZO lo hi st st:=⟨B,λ_ _=>rfl,rfl⟩
def Kp.trans{a b:SortSt}(h:Kp κ ZO lo hi st a)(h':Kp κ ZO lo hi a b):Kp κ ZO lo hi st b:=⟨h'.sb,λi hi=>(h'.out i hi).trans (h.out i hi),h'.pend.trans h.pend⟩
def SB.setArr(B:SB κ ZO st){xs:Array Keyed}(h:xs.Perm (arrOf st)):SB κ ZO (setArr st xs):=⟨h.trans B.perm,B.failed,B.kind⟩
def cW(Z7:AM prog w A E s κ ZO rk)(B:SB κ ZO st){Q:Option Bool->SortSt->Prop}(hi:i<ZO.size)(hj:j<ZO.size)
  (h:Q (some (decide (Ii rk (arrOf st) i<Ii rk (arrOf st) j))) st):wpS (model prog w) A E s (ltAt' i j) Q st:=by
 have YJ:i<(arrOf st).size:=by rw[B.size];exact hi
 have Ye:j<(arrOf st).size:=by rw[B.size];exact hj
 have ei:(arrOf st)[i]?=some (arrOf st)[i]:=Ws YJ;have ej:(arrOf st)[j]?=some (arrOf st)[j]:=Ws Ye;rw[ltAt'_eq];refine Y0 (Po ?_);show wpS _ _ _ _ (do let x<-elem' (arrOf st) i;let y<-elem' (arrOf st) j;lt' x y) Q st
 rw[elem'_eq,elem'_eq,ei,ej];refine Y0 (Xs (Y0 (Xs ?_)));refine Z7 _ _ (B.perm.mem_iff.mp (Vx YJ)) (B.perm.mem_iff.mp (Vx Ye)) st Q B.kind ?_;unfold Ii at h;rw[ei,ej]at h;exact h
def wk{a:Array Keyed}(b:j<=a.size)(k:Nat):Ii rk (mirror a i j ((j-i) / 2)) k=if i<=k/\k<j then Ii rk a (i+j-1-k)else Ii rk a k:=by
 unfold Ii;rw[getElem?_mirror_all b];split<;>rfl
def bT(B:SB κ ZO st){Q:Unit->SortSt->Prop}(c:j<=ZO.size)
  (h:∀a,SB κ ZO a->pendingOf a=pendingOf st->(∀k,¬ (i<=k/\k<j)->(arrOf a)[k]?=(arrOf st)[k]?)->(∀k,Ii rk (arrOf a) k=if i<=k/\k<j then Ii rk (arrOf st) (i+j-1-k)else Ii rk (arrOf st) k)->Q Unit.unit a) :
  wpS (model prog w) A E s (reverseSlice' i j) Q st:=by
 have b:j<=(arrOf st).size:=by rw[B.size];exact c
 rw[reverseSlice'_eq];refine RW (h _ (B.setArr (mirror_perm _ _ _ _)) rfl (λk hk=>?_) λk=>wk b k);show(mirror (arrOf st) i j ((j-i) / 2))[k]?=_;rw[getElem?_mirror_all b,Yj hk]
def cC(Z7:AM prog w A E s κ ZO rk)(B:SB κ ZO st){Zf:Nat}{Q:Option (Option Nat)×Nat->SortSt->Prop}(h1:1<=n)(h2:n<=Zf)(hs:lo+Zf<=ZO.size)(hu:Up (Ii rk (arrOf st)) lo (lo+n))
  (h:∀m,n<=m->m<=Zf->Up (Ii rk (arrOf st)) lo (lo+m)->(m=Zf\/Ii rk (arrOf st) (lo+m)<Ii rk (arrOf st) (lo+m-1))->Q (none,m) st) :
  wpS (model prog w) A E s (forIn [n:Zf] ((none,n):Option (Option Nat)×Nat) λ_ c=>do
   let VR<-ltAt' (lo+c.2) (lo+c.2-1)
   match VR with
   |some Ti=>if Ti=true then pure (ForInStep.done (none,c.2))else pure (ForInStep.yield (none,c.2+1))
   |_=>pure (ForInStep.done (some none,c.2))) Q st:=by
 refine UJ (Uj (I:=λx c ZW=>ZW=st/\c=(none,x)/\x<=Zf/\Up (Ii rk (arrOf st)) lo (lo+x))
  (Q:=λc ZW=>ZW=st /\∃m,c=(none,m)/\n<=m/\m<=Zf/\Up (Ii rk (arrOf st)) lo (lo+m)/\(m=Zf\/Ii rk (arrOf st) (lo+m)<Ii rk (arrOf st) (lo+m-1))) ?_ ?_ ⟨rfl,rfl,h2,hu⟩) ?_
 .rintro x c ZW hnx hx ⟨rfl,rfl,_,YD⟩
  refine Y0 (cW Z7 B (by lia) () ?_)
  by_cases hl:Ii rk (arrOf ZW) (lo+x)<Ii rk (arrOf ZW) (lo+x-1)
  .simp only [hl,QE,Uc]
   exact Xs ⟨rfl,x,rfl,hnx,by lia,YD,.inr hl⟩
  .simp only [hl,RX,XH,W6]
   refine Xs ⟨rfl,rfl,by lia,λi j hi Y6 hj=>?_⟩
   by_cases q:j<lo+x
   .exact YD i j hi Y6 q
   .have:j=lo+x:=by lia
    subst this;by_cases q2:i=lo+x
    .rw [q2];exact GB _
    .exact Gz (YD i (lo+x-1) hi (by lia) ()) (by lia)
 .rintro c ZW ⟨rfl,rfl,_,YD⟩
  have e:max n Zf=Zf:=by lia
  rw[e]at YD ⊢;exact⟨rfl,Zf,rfl,h2,GB _,YD,.inl rfl⟩
 .rintro c ZW ⟨rfl,m,rfl,a,b,c,d⟩
  exact h m a b c d
end
section
variable{E:Value->Shared->Prop}{hi:Nat}
def Eqs(r:Nat->Nat)(lo n q:Nat):Prop:=q+1<=n /\∀i,lo+n-(q+1)<=i->i<lo+n->r i=r (lo+n-1)
def gh(B:SB κ ZO st){q:Nat}{Q:Unit->SortSt->Prop}(d:Eqs (Ii rk (arrOf st)) lo n q)(b:lo+n<=ZO.size)
  (h:∀a,Kp κ ZO lo (lo+n) st a->(∀k,Ii rk (arrOf a) k=Ii rk (arrOf st) k)->Q Unit.unit a):wpS (model prog w) A E s (reverseSlice' (lo+n-(q+1)) (lo+n)) Q st:=by
 let⟨h1,h2⟩:=d;refine bT (rk:=rk) B b λa f e ho c=>h a ⟨f,λi hi=>ho i (),e⟩ λk=>?_
 rw[c k];split
 .rename_i hk
  rw[h2 _ () (),h2 k (by lia) ()]
 .rfl
def jG(z:AM prog w A E s κ ZO rk)(B:SB κ ZO st){g:Nat}{Q:Option (Option Nat)×Nat×Nat->SortSt->Prop}(O:1<=n)(y:n<=g)(M:lo+g<=ZO.size)(G:Dn (Ii rk (arrOf st)) lo (lo+n))
  (h:∀m q f,Kp κ ZO lo (lo+g) st f->n<=m->m<=g->Dn (Ii rk (arrOf f)) lo (lo+m)->Eqs (Ii rk (arrOf f)) lo m q->Q (none,m,q) f) :
  wpS (model prog w) A E s (forIn [n:g] ((none,n,0):Option (Option Nat)×Nat×Nat) λ_ c =>
   ltAt' (lo+c.2.1) (lo+c.2.1-1) >>= λv=>match v with
   |some Ti=>if Ti=true then
     (if c.2.2 > 0 then reverseSlice' (lo+c.2.1-(c.2.2+1)) (lo+c.2.1) >>= λ_=>pure (ForInStep.yield (none,c.2.1+1,0))else pure (ForInStep.yield (none,c.2.1+1,0)))
    else (ltAt' (lo+c.2.1 - 1) (lo+c.2.1) >>= λv=>match v with
     |some R9=>if R9=true then pure (ForInStep.done (none,c.2.1,c.2.2))else pure (ForInStep.yield (none,c.2.1+1,c.2.2+1))
     |_=>pure (ForInStep.done (some none,c.2.1,c.2.2)))
   |_=>pure (ForInStep.done (some none,c.2.1,c.2.2))) Q st:=by
 refine UJ (Uj (I:=λx c f=>Kp κ ZO lo (lo+g) st f /\ ∃ q,c=(none,x,q)/\x<=g/\Dn (Ii rk (arrOf f)) lo (lo+x)/\Eqs (Ii rk (arrOf f)) lo x q)
  (Q:=λc f=>Kp κ ZO lo (lo+g) st f /\∃m q,c=(none,m,q)/\n<=m/\m<=g/\Dn (Ii rk (arrOf f)) lo (lo+m)/\Eqs (Ii rk (arrOf f)) lo m q) ?_ ?_
  ⟨Kp.refl B,0,rfl,y,G,by lia,λi a b=>by congr 1;lia⟩) ?_
 .rintro x c f t L ⟨hk,q,rfl,_,l,o⟩
  have k:∀{r:Nat->Nat},Dn r lo (lo+x)->r (lo+x)<=r (lo+x-1)->Dn r lo (lo+(x+1)):=λ{r} l hl i j hi K N=>by
   by_cases q:j<lo+x
   .exact l i j hi K q
   .have:j=lo+x:=by lia
    subst this;by_cases p:i=lo+x
    .rw [p];exact GB _
    .exact Gz hl (l i (lo+x-1) hi (by lia) ())
  have one:∀r:Nat->Nat,Eqs r lo (x+1) 0:=λr=>⟨by lia,λi a b=>by congr 1;lia⟩
  dsimp only;refine Y0 (cW z hk.sb (by lia) () ?_)
  by_cases hl:Ii rk (arrOf f) (lo+x)<Ii rk (arrOf f) (lo+x-1)
  .simp only [hl,QE,Uc]
   by_cases C:q > 0
   .rw [YC C]
    refine Y0 (gh hk.sb o (by lia) λJ u F=>Xs ⟨hk.trans ⟨u.sb,λi hi=>u.out i (by lia),u.pend⟩,0,rfl,by lia,?_,one _⟩)
    have e:Ii rk (arrOf J)=Ii rk (arrOf f):=funext F;rw[e];exact k l (by lia)
   .rw [Yj C]
    exact Xs ⟨hk,0,rfl,by omega,k l (),one _⟩
  .simp only [hl,RX,XH,W6]
   refine Y0 (cW z hk.sb (by lia) (by lia) ?_)
   by_cases D:Ii rk (arrOf f) (lo+x-1)<Ii rk (arrOf f) (lo+x)
   .simp only [D,QE,Uc]
    exact Xs ⟨hk,x,q,rfl,t,by omega,l,o⟩
   .simp only [D,RX,XH,W6]
    refine Xs ⟨hk,q+1,rfl,by omega,k l (by lia),by have:=o.1;lia,λi a b=>?_⟩
    have H:lo+(x+1)-1=lo+x:=by lia
    rw[H];by_cases p:i=lo+x
    .rw [p]
    .rw [o.2 i (by have:=o.1;lia) (by lia)];lia
 .rintro c f ⟨hk,q,rfl,_,l,o⟩
  have e:max n g=g:=by omega
  rw[e]at l o ⊢;exact⟨hk,g,q,rfl,y,GB _,l,o⟩
 .rintro c f ⟨hk,m,q,rfl,a,b,c,d⟩
  exact h m q f hk a b c d
end
section
variable{E:Value->Shared->Prop}{hi:Nat}
def eR{r a:Nat->Nat}(c:Dn r lo (lo+n))(b:∀k,a k=if lo<=k/\k<lo+n then r (lo+(lo+n)-1-k)else r k):Up a lo (lo+n):=λi j hi e d=>by
 rw[b i,b j,YC (by lia),YC (by lia)]
 exact c _ _ () () ()
def wN(t:AM prog w A E s κ ZO rk)(B:SB κ ZO st){l:Nat}{Q:Option Nat->SortSt->Prop}(h1:1<=l)(v:lo+l<=ZO.size)
  (h:∀m X,Kp κ ZO lo (lo+l) st X->1<=m->m<=l->Up (Ii rk (arrOf X)) lo (lo+m)->Q (some m) X) :
  wpS (model prog w) A E s (countRun' lo l) Q st:=by
 rw[countRun'_eq];refine Y0 (cC t B (GB 1) h1 v (λi j hi O V=>by have:i=j:=(by lia);rw[this];exact GB _) λn Yt Yu L S=>?_)
 dsimp only;by_cases T:n=l
 .rw [YC (by simp[T])]
  exact Xs (h n st (Kp.refl B) Yt Yu L)
 .rw [Yj (by simp[T])]
  have Zc:Ii rk (arrOf st) (lo+n)<Ii rk (arrOf st) (lo+n-1):=S.resolve_left T;have Xy:n<l:=by lia
  have p:∀{r:Nat->Nat},Dn r lo (lo+n)->r (lo+n)<=r (lo+n-1)->Dn r lo (lo+(n+1)):=λ{r} YY hl i j hi O V=>by
   by_cases q:j<lo+n
   .exact YY i j hi O q
   .have:j=lo+n:=by lia
    subst this;by_cases q2:i=lo+n
    .rw [q2];exact GB _
    .exact Gz hl (YY i (lo+n-1) hi (by lia) ())
  by_cases Uz:n > 1
  .rw [YC Uz]
   refine Y0 (cW t B (by lia) () ?_)
   by_cases H:Ii rk (arrOf st) lo<Ii rk (arrOf st) (lo+n-1)
   .simp only [H,QE,Uc]
    exact Xs (h n st (Kp.refl B) Yt Yu L)
   .simp only [H,RX,XH,W6]
    have M:∀i,lo<=i->i<lo+n->Ii rk (arrOf st) i=Ii rk (arrOf st) (lo+n-1):=λi a b=>by
     have Z:=L lo i (GB _) a b;have Y:=L i (lo+n-1) a (by lia) ()
     lia
    refine Y0 (bT (rk:=rk) B (by lia) λN B1 hp ho P=>?_)
    have Z:∀k,Ii rk (arrOf N) k=Ii rk (arrOf st) k:=λk=>by
     rw[P k];split
     .rw [M _ () (),M k (by lia) (by lia)]
     .rfl
    have Y:Ii rk (arrOf N)=Ii rk (arrOf st):=funext Z;have z:Kp κ ZO lo (lo+l) st N:=⟨B1,λi hi=>ho i (by lia),hp⟩
    have y:Dn (Ii rk (arrOf N)) lo (lo+(n+1)):=by
     rw[Y];exact p (λi j hi O V=>by rw[M i (by lia) (by lia),M j (by lia) (by lia)];exact GB _) (by lia)
    refine Y0 (Py (RM ⟨rfl,?_⟩));refine Y0 (jG t z.sb (by lia) (by lia) v y λm q W g U I d R=>?_)
    dsimp only;by_cases K:q > 0
    .rw [YC K]
     refine Y0 (gh g.sb R (by lia) λJ o H=>?_)
     have e:Ii rk (arrOf J)=Ii rk (arrOf W):=funext H;have x:Dn (Ii rk (arrOf J)) lo (lo+m):=by rw[e];exact d
     refine Y0 (bT (rk:=rk) o.sb () λC f D F G=>?_)
     refine Y0 (cC t f (by lia) I v (eR x G) λu a b c _=>?_)
     exact Xs (h u C ((z.trans g).trans (Kp.trans ⟨o.sb,λi hi=>o.out i (by lia),o.pend⟩ ⟨f,λi hi=>F i (by lia),D⟩)) (by lia) b c)
    .rw [Yj K]
     refine Y0 (bT (rk:=rk) g.sb () λC f D F G=>?_)
     refine Y0 (cC t f () I v (eR d G) λu a b c _=>?_)
     exact Xs (h u C ((z.trans g).trans ⟨f,λi hi=>F i (),D⟩) () b c)
  .rw [Yj Uz]
   have:n=1:=by lia
   subst this;have z:Kp κ ZO lo (lo+l) st st:=Kp.refl B;have y:Dn (Ii rk (arrOf st)) lo (lo+(1+1)):=p (λi j hi O V=>by have:i=j:=(by lia);rw[this];exact GB _) (by lia)
   refine Y0 (Py (RM ⟨rfl,?_⟩));refine Y0 (jG t z.sb (by lia) (by lia) v y λm q W g U I d R=>?_)
   dsimp only;by_cases K:q > 0
   .rw [YC K]
    refine Y0 (gh g.sb R (by lia) λJ o H=>?_)
    have e:Ii rk (arrOf J)=Ii rk (arrOf W):=funext H;have x:Dn (Ii rk (arrOf J)) lo (lo+m):=by rw[e];exact d
    refine Y0 (bT (rk:=rk) o.sb () λC f D F G=>?_)
    refine Y0 (cC t f (by lia) I v (eR x G) λu a b c _=>?_)
    exact Xs (h u C ((z.trans g).trans (Kp.trans ⟨o.sb,λi hi=>o.out i (by lia),o.pend⟩ ⟨f,λi hi=>F i (by lia),D⟩)) (by lia) b c)
   .rw [Yj K]
    refine Y0 (bT (rk:=rk) g.sb () λC f D F G=>?_)
    refine Y0 (cC t f () I v (eR d G) λu a b c _=>?_)
    exact Xs (h u C ((z.trans g).trans ⟨f,λi hi=>F i (),D⟩) () b c)
def jO{a:Array Keyed}{b:Nat}(c:b<a.size)(e:d<=b)(k:Nat):Ii rk (bubble a b d) k=if k=b-d then Ii rk a b else if b-d<k/\k<=b then Ii rk a (k-1)else Ii rk a k:=by
 unfold Ii;rw[getElem?_bubble c d e k];split
 .rfl
 .split<;>rfl
def uZ(Z7:AM prog w A E s κ ZO rk)(B:SB κ ZO st){ok:Nat}{Q:Bool->SortSt->Prop}(hs:lo+n<=ZO.size)(ZJ:ok<=n)(hu:Up (Ii rk (arrOf st)) lo (lo+ok))
  (h:∀ZW,Kp κ ZO lo (lo+n) st ZW->Up (Ii rk (arrOf ZW)) lo (lo+n)->Q true ZW):wpS (model prog w) A E s (binarySort' lo n ok) Q st:=by
 rw [binarySort'_eq];refine Y0 (UJ (Uj (I:=λk c ZW=>c=(none,Unit.unit)/\Kp κ ZO lo (lo+n) st ZW/\Up (Ii rk (arrOf ZW)) lo (lo+min k n))
  (Q:=λc ZW=>c=(none,Unit.unit)/\Kp κ ZO lo (lo+n) st ZW/\Up (Ii rk (arrOf ZW)) lo (lo+n)) ?step ?fin ?init) ?post)
 case post=>
  rintro c ZW ⟨rfl,hk,YD⟩;exact Xs (h ZW hk YD)
 case init=>
  refine⟨rfl,Kp.refl B,λi j hi Y6 hj=>?_⟩;by_cases q:ok=0
  .have:i=j:=by lia
   rw[this];exact GB _
  .exact hu i j hi Y6 (by lia)
 case fin=>
  rintro c ZW ⟨hc,hk,YD⟩;refine⟨hc,hk,?_⟩;rwa[show min (max (max ok 1) n) n=n by omega]at YD
 case step=>
  rintro k c ZW hak Vf ⟨rfl,hk,YD⟩;rw[show min k n=k by lia]at YD
  refine Y0 (UJ (Uj (I:=λx c Y5=>Y5=ZW /\ ∃ l r,c=(none,l,r)/\l<=r/\r<=k/\r - l<=k - x /\
    (∀i,i<l->Ii rk (arrOf ZW) (lo+i)<=Ii rk (arrOf ZW) (lo+k))/\(∀i,r<=i->i<k->Ii rk (arrOf ZW) (lo+k)<Ii rk (arrOf ZW) (lo+i)))
   (Q:=λc Y5=>Y5=ZW /\ ∃ l r,c=(none,l,r)/\l<=k /\
    (∀i,i<l->Ii rk (arrOf ZW) (lo+i)<=Ii rk (arrOf ZW) (lo+k))/\(∀i,l<=i->i<k->Ii rk (arrOf ZW) (lo+k)<Ii rk (arrOf ZW) (lo+i))) ?R8 ?ifin ?R7) ?R6)
  case R7=>exact⟨rfl,0,k,rfl,by lia,by lia,by lia,λi hi=>by lia,λi a b=>by lia⟩
  case ifin=>
   rintro c Y5 ⟨rfl,l,r,rfl,hlr,hrk,hm,Wi,Ve⟩;have e:l=r:=by lia
   subst e;exact⟨rfl,l,l,rfl,hrk,Wi,Ve⟩
  case R8=>
   rintro x c Y5 _ hxk ⟨rfl,l,r,rfl,hlr,hrk,hm,Wi,Ve⟩;dsimp only;by_cases Yg:l ≥ r
   .rw [YC Yg]
    have e:l=r:=by lia
    subst e;exact Xs ⟨rfl,l,l,rfl,hrk,Wi,Ve⟩
   .rw [Yj Yg]
    refine Y0 (cW Z7 hk.sb (by lia) (by lia) ?_)
    by_cases Tx:Ii rk (arrOf Y5) (lo+k)<Ii rk (arrOf Y5) (lo+(l+r) / 2)
    .simp only [Tx,QE,Uc]
     refine Xs ⟨rfl,l,(l+r) / 2,rfl,by lia,by lia,by omega,Wi,λi a b=>?_⟩
     exact GD Tx (YD _ _ (by lia) (by lia) (by lia))
    .simp only [Tx,RX,XH,W6]
     refine Xs ⟨rfl,(l+r) / 2+1,r,rfl,by lia,by lia,by omega,λi a=>?_,Ve⟩
     exact Gz (YD (lo+i) (lo+(l+r) / 2) (by lia) (by lia) (by lia)) (Nat.not_lt.mp Tx)
  case R6=>
   rintro c Y5 ⟨rfl,l,r,rfl,Vd,Wi,Ve⟩;show wpS _ _ _ _ (do moveDown' (lo+k) (lo+l);pure (ForInStep.yield (none,Unit.unit))) _ _
   rw[moveDown'_eq];have Yd:lo+k<(arrOf Y5).size:=by rw[hk.sb.size];lia
   refine Y0 (RW (Xs ⟨rfl,hk.trans ⟨hk.sb.setArr (bubble_perm _ _ _),λi hi=>?_,rfl⟩,?_⟩))
   .show (bubble (arrOf Y5) (lo+k) (lo+k-(lo+l)))[i]?=_
    rw[getElem?_bubble Yd _ (),Yj (),Yj (by lia)]
   .rw [show min (k+1) n=k+1 by lia]
    intro i j hi Y6 hj;show Ii rk (bubble (arrOf Y5) (lo+k) (lo+k-(lo+l))) i<=Ii rk (bubble (arrOf Y5) (lo+k) (lo+k-(lo+l))) j;rw[jO Yd (),jO Yd (),show lo+k-(lo+k-(lo+l))=lo+l by lia]
    have key1:∀i,lo<=i->i<lo+l->Ii rk (arrOf Y5) i<=Ii rk (arrOf Y5) (lo+k):=λi a b=>by have:=Wi (i-lo) (by lia);rwa[show lo+(i-lo)=i by lia]at this
    have key2:∀i,lo+l<=i->i<lo+k->Ii rk (arrOf Y5) (lo+k)<Ii rk (arrOf Y5) i:=λi a b=>by have:=Ve (i-lo) (by lia) ();rwa[show lo+(i-lo)=i by lia]at this
    repeat' split
    all_goals first
     |(exfalso;lia)
     |exact GB _
     |exact key1 _ (by lia) (by lia)
     |exact Rg (key2 _ (by lia) ())
     |exact YD _ _ (by lia) (by lia) ()
end
def cI:∀a:List Int,Ah a a=false
 |[]=>rfl
 |x::r=>by simp[Ah,cI r]
def cL:∀{a b c:List Int},Ah a b=true->Ah b c=true->Ah a c=true
 |[],[],_,h,_=>by cases h
 |[],_::_,[],_,h=>by cases h
 |[],_::_,_::_,_,_=>rfl
 |_::_,[],_,h,_=>by cases h
 |_::_,_::_,[],_,h=>by cases h
 |x::a,y::b,z::c,h1,h2=>by
  simp![Ah]at h1 h2 ⊢;by_cases e:x=y
  .subst e
   rw[YC rfl]at h1;by_cases d:x=z
   .subst d;rw[YC rfl]at h2 ⊢;exact cL h1 h2
   .rw [Yj d]at h2 ⊢;exact h2
  .rw [Yj e]at h1
   have h1:=GI h1;by_cases d:y=z
   .subst d;rw[Yj e];exact Vo h1
   .rw [Yj d]at h2
    have h2:=GI h2;rw[Yj (by lia)]
    exact Vo ()
def cH:∀{a b:List Int},Ah a b=false->Ah b a=false->a=b
 |[],[],_,_=>rfl
 |[],_::_,h,_=>by cases h
 |_::_,[],_,h=>by cases h
 |x::a,y::b,h1,h2=>by
  simp![Ah]at h1 h2;by_cases e:x=y
  .subst e
   rw[YC rfl]at h1 h2;rw[cH h1 h2]
  .rw [Yj e]at h1
   rw[Yj (λq=>e q.symm)]at h2;have h1:=QC h1;have h2:=QC h2;lia
def km{c:Type}{p q:c->Bool}:∀{l:List c},(∀x∈l,p x=true->q x=true)->(∃x∈l,q x=true/\p x=false)->l.countP p<l.countP q
 |[],_,⟨x,h,_⟩=>by cases h
 |a::l,h1,⟨x,b,d,hp⟩=>by
  have mono:l.countP p<=l.countP q:=List.countP_mono_left λx b h=>h1 x (GC _ b) h;rw[List.countP_cons,List.countP_cons];rcases X5.mp b with rfl|b
  .rw [d,hp];simp;lia
  .have ih:=km (λx b=>h1 x (GC _ b)) ⟨x,b,d,hp⟩
   have h2:=h1 a XZ;cases ep:p a with
   |false=>simp![XH,W6];split<;>lia
   |true=>rw[h2 ep];simp;omega
abbrev Y4:=List (List Int×Addr)
def DY(D:Y4)(v:Value):List Int:=open Classical in match D.find? λd=>decide (Value.ref d.2=v)with
 |some d=>d.1
 |none=>[]
def Ij(D:Y4)(x:Keyed):Nat:=D.countP λd=>Ah d.1 (DY D x.1)
section
variable{E:Value->Shared->Prop}{D:Y4}
def j4(f:∀d∈D,IsT prog w s.heap d.1 d.2){d:List Int×Addr}(c:d∈D):DY D (.ref d.2)=d.1:=by
 unfold DY;cases e:D.find? λb=>open Classical in decide (Value.ref b.2=Value.ref d.2)with
 |none=>
  have:=List.find?_eq_none.mp e d c;simp at this
 |some b=>
  have h1:=List.find?_some e;have h2:=PH e;have g:b.2=d.2:=by simpa using h1
  have a:=f b h2;rw[g]at a;exact a.inj (f d c)
def su(c:∀d∈D,IsT prog w s.heap d.1 d.2){d e:List Int×Addr}(b:d∈D)(f:e∈D)(u v:Value):Ah d.1 e.1=decide (Ij D (.ref d.2,u)<Ij D (.ref e.2,v)):=by
 unfold Ij;rw[j4 c b,j4 c f];cases h:Ah d.1 e.1 with
 |true=>exact(Vo (km (λx _ a=>cL a h) ⟨d,b,h,cI _⟩)).symm
 |false=>
  refine(WY (Nat.not_lt.mpr ?_)).symm;refine List.countP_mono_left λx _ a=>?_;cases h2:Ah e.1 d.1 with
  |true=>exact cL a h2
  |false=>rw[cH h h2];exact a
def aea(k:A.units<cLine)(a:∀d∈D,IsT prog w s.heap d.1 d.2){f:Bool}{ZO : Array Keyed}(g:∀x∈ZO,∃d∈D,x=(.ref d.2,.ref d.2)):AM prog w A E s (tuples' f) ZO (Ij D):=by
 intro x y j i st Q hk h;let⟨d,c,rfl⟩:=g x j;let⟨e,b,rfl⟩:=g y i;rw[lt'_eq];refine Y0 (Po ?_);rw[hk];refine Y0 (Py (Q8 (acM k (a d c) (a e b) ⟨rfl,?_⟩)));rw[su a c b (.ref d.2) (.ref e.2)];exact Xs h
end
def Ik:Bool->Keyed->Array Keyed->Nat->Nat->Nat->StateT SortSt Sem (Option Nat):=sortPriv% PySem.Builtin.gallop
def vp(left:Bool)(key:Keyed)(arr:Array Keyed)(base n hint:Nat):Ik left key arr base n hint=(do
 let beyond (i:Nat):StateT SortSt Sem (Option Bool):=do
  let x<-elem' arr (base+i)
  if left then lt' x key else return (<- lt' key x).map (!·)
 let mut Tw:=0
 let mut Xx:=1
 let mut lo:=0
 let mut hi:=0
 let some right<-beyond hint|return none
 if right then
  let Uy:=n-hint
  for _ in [0:n]do
   if Xx ≥ Uy then break
   let some more<-beyond (hint+Xx)|return none
   if !more then break
   Tw:=Xx
   Xx:=2*Xx+1
  lo:=hint+Tw+1
  hi:=hint+min Xx Uy
 else
  let Uy:=hint+1
  for _ in [0:n]do
   if Xx ≥ Uy then break
   let some found<-beyond (hint-Xx)|return none
   if found then break
   Tw:=Xx
   Xx:=2*Xx+1
  lo:=hint+1-min Xx Uy
  hi:=hint-Tw
 for _ in [0:n]do
  if lo ≥ hi then break
  let m:=lo+(hi-lo) / 2
  let some more<-beyond m|return none
  if more then lo:=m+1 else hi:=m
 return some hi):=rfl
def Il(left:Bool)(rk:Keyed->Nat)(key:Keyed)(a:Array Keyed)(base i:Nat):Bool:=if left then decide (Ii rk a (base+i)<rk key)else !decide (rk key<Ii rk a (base+i))
section
variable{E:Value->Shared->Prop}
def Im(left:Bool)(key:Keyed)(arr:Array Keyed)(base i:Nat):StateT SortSt Sem (Option Bool):=do
  let x<-elem' arr (base+i)
  if left then lt' x key else return (<- lt' key x).map (!·)
def acw(e:AM prog w A E s κ ZO rk)(B:kindOf st=κ){left:Bool}{key:Keyed}{a:Array Keyed}{base:Nat}{Q:Option Bool->SortSt->Prop}(b:key∈ZO)(c:∀x∈a,x∈ZO)(hi:base+i<a.size)
  (h:Q (some (Il left rk key a base i)) st):wpS (model prog w) A E s (Im left key a base i) Q st:=by
 have d:a[base+i]?=some a[base+i]:=Ws hi;have f:Ii rk a (base+i)=rk a[base+i]:=by unfold Ii;rw[d];rfl
 unfold Im;rw[elem'_eq,d];refine Y0 (Xs ?_);unfold Il at h;rw[f]at h;cases left with
 |true=>rw[YC rfl]at h ⊢;exact e _ _ (c _ (Vx hi)) b st Q B h
 |false=>
  rw[Yj GA]at h ⊢;exact Y0 (e _ _ b (c _ (Vx hi)) st _ B (Xs h))
def Spl(b:Nat->Bool)(n k:Nat):Prop:=k<=n/\(∀i,i<k->b i=true) /\∀i,k<=i->i<n->b i=false
def fK(O:AM prog w A E s κ ZO rk)(B:kindOf st=κ){left:Bool}{key:Keyed}{m:Array Keyed}{base a:Nat}{Q:Option Nat->SortSt->Prop}(L:key∈ZO)(N:∀x∈m,x∈ZO)(P:base+n<=m.size)(M:a<n)
  (J:Up (Ii rk m) base (base+n)) (h:∀k,Spl (Il left rk key m base) n k->Q (some k) st):wpS (model prog w) A E s (Ik left key m base n a) Q st:=by
 have mono:∀i j,i<=j->j<n->Il left rk key m base j=true->Il left rk key m base i=true:=λi j S R u=>by
  have:=J (base+i) (base+j) (by lia) (by lia) (by lia)
  unfold Il at u ⊢;cases left with
  |true=>rw[YC rfl]at u ⊢;have:=GI u;exact Vo (by lia)
  |false=>
   rw[Yj GA]at u ⊢;simp![W9,T6]at u ⊢;lia
 generalize u:Il left rk key m base=b at mono h;have bk:∀{i:Nat} {Q:Option Bool->SortSt->Prop},i<n->Q (some (b i)) st->wpS (model prog w) A E s (Im left key m base i) Q st:=λhi K=>acw O B L N (by lia) (by rw[u];exact K)
 rw[vp];dsimp only;refine Y0 (bk M ?_);cases H:b a with
 |true=>
  dsimp only;rw [YC rfl];refine Y0 (UJ (Uj (I:=λx c f=>st=f /\ ∃ l o,c=(none,l,o)/\l < o/\x+1<=o/\a+l < n/\b (a+l)=true)
   (Q:=λc f=>st=f /\∃l o,c=(none,l,o)/\l<o/\a+l<n/\b (a+l)=true/\(n-a<=o\/b (a+o)=false)) ?_ ?_ ⟨rfl,0,1,rfl,by lia,by lia,by lia,H⟩) ?_)
  .rintro x c f _ D ⟨rfl,l,o,rfl,g,p2,p,d⟩
   dsimp only;by_cases r:o ≥ n-a
   .rw [YC r]
    exact Xs ⟨rfl,l,o,rfl,g,p,d,.inl r⟩
   .rw [Yj r]
    refine Y0 (bk (i:=a+o) (by lia) ?_)
    cases hm:b (a+o)with
    |true=>exact Xs ⟨rfl,o,2*o+1,rfl,by lia,by lia,by omega,hm⟩
    |false=>exact Xs ⟨rfl,l,o,rfl,g,p,d,.inr hm⟩
  .rintro c f ⟨rfl,l,o,rfl,g,p2,p,d⟩
   exact⟨rfl,l,o,rfl,g,p,d,.inl (by lia)⟩
  .rintro c f ⟨rfl,l,o,rfl,g,p,d,t⟩
   dsimp only;have C:a+l+1=0\/b (a+l+1-1)=true:=.inr d;have z:a+min o (n-a)=n\/b (a+min o (n-a))=false:=by
    rcases t with e|e
    .exact .inl (by lia)
    .by_cases q:n-a<=o
     .exact .inl ()
     .refine .inr ?_
      rw[show min o (n-a)=o by lia];exact e
   have y:a+l+1<=a+min o (n-a):=by lia
   have v:a+min o (n-a)<=n:=by omega
   refine Y0 (UJ (Uj (I:=λx c f=>st=f /\ ∃ lo hi,c=(none,lo,hi)/\(lo=0\/b (lo - 1)=true)/\(hi=n\/b hi=false)/\lo<=hi/\hi<=n/\hi - lo<=n - x)
    (Q:=λc f=>st=f /\∃k,c=(none,k,k)/\(k=0\/b (k-1)=true)/\(k=n\/b k=false)/\k<=n) ?_ ?_ ⟨rfl,_,_,rfl,C,z,y,v,by omega⟩) ?_)
   .rintro x c f _ D ⟨rfl,lo,hi,rfl,g,p2,p,d,t⟩
    dsimp only;by_cases r:lo ≥ hi
    .rw [YC r]
     have e:lo=hi:=by lia
     subst e;exact Xs ⟨rfl,lo,rfl,g,p2,d⟩
    .rw [Yj r]
     refine Y0 (bk (i:=lo+(hi-lo) / 2) () ?_)
     cases hm:b (lo+(hi-lo) / 2)with
     |true=>exact Xs ⟨rfl,_,_,rfl,.inr hm,p2,by omega,d,by omega⟩
     |false=>exact Xs ⟨rfl,_,_,rfl,g,.inr hm,by lia,by omega,by omega⟩
   .rintro c f ⟨rfl,lo,hi,rfl,g,p2,p,d,t⟩
    have e:lo=hi:=by omega
    subst e;exact⟨rfl,lo,rfl,g,p2,d⟩
   .rintro c f ⟨rfl,k,rfl,g,p2,d⟩
    refine Xs (h k ⟨d,λi hi=>?_,λi hi F=>?_⟩)
    .rcases g with e|e
     .lia
     .exact mono i (k-1) (by lia) (by lia) e
    .rcases p2 with e|e
     .lia
     .cases G:b i with
      |false=>rfl
      |true=>have:=mono k i hi F G;rw[e]at this;cases this
 |false=>
  dsimp only;rw [Yj GA];refine Y0 (UJ (Uj (I:=λx c f=>st=f /\ ∃ l o,c=(none,l,o)/\l < o/\x+1<=o/\l<=a/\b (a - l)=false)
   (Q:=λc f=>st=f /\∃l o,c=(none,l,o)/\l<o/\l<=a/\b (a-l)=false/\(a+1<=o\/b (a-o)=true)) ?_ ?_ ⟨rfl,0,1,rfl,by omega,by omega,by lia,H⟩) ?_)
  .rintro x c f _ D ⟨rfl,l,o,rfl,g,p2,p,d⟩
   dsimp only;by_cases r:o ≥ a+1
   .rw [YC r]
    exact Xs ⟨rfl,l,o,rfl,g,p,d,.inl r⟩
   .rw [Yj r]
    refine Y0 (bk (i:=a-o) (by lia) ?_)
    cases hm:b (a-o)with
    |false=>exact Xs ⟨rfl,o,2*o+1,rfl,by omega,by omega,by lia,hm⟩
    |true=>exact Xs ⟨rfl,l,o,rfl,g,p,d,.inr hm⟩
  .rintro c f ⟨rfl,l,o,rfl,g,p2,p,d⟩
   exact⟨rfl,l,o,rfl,g,p,d,.inl (by lia)⟩
  .rintro c f ⟨rfl,l,o,rfl,g,p,d,t⟩
   dsimp only;have C:a+1-min o (a+1)=0\/b (a+1-min o (a+1)-1)=true:=by
    by_cases q:a+1<=o
    .exact .inl ()
    .refine .inr ?_
     rw[show a+1-min o (a+1)-1=a-o by lia]
     exact t.resolve_left q
   have z:a-l=n\/b (a-l)=false:=.inr d;have y:a+1-min o (a+1)<=a-l:=by omega
   have v:a-l<=n:=by lia
   refine Y0 (UJ (Uj (I:=λx c f=>st=f /\ ∃ lo hi,c=(none,lo,hi)/\(lo=0\/b (lo - 1)=true)/\(hi=n\/b hi=false)/\lo<=hi/\hi<=n/\hi - lo<=n - x)
    (Q:=λc f=>st=f /\∃k,c=(none,k,k)/\(k=0\/b (k-1)=true)/\(k=n\/b k=false)/\k<=n) ?_ ?_ ⟨rfl,_,_,rfl,C,z,y,v,by omega⟩) ?_)
   .rintro x c f _ D ⟨rfl,lo,hi,rfl,g,p2,p,d,t⟩
    dsimp only;by_cases r:lo ≥ hi
    .rw [YC r]
     have e:lo=hi:=by omega
     subst e;exact Xs ⟨rfl,lo,rfl,g,p2,d⟩
    .rw [Yj r]
     refine Y0 (bk (i:=lo+(hi-lo) / 2) () ?_)
     cases hm:b (lo+(hi-lo) / 2)with
     |true=>exact Xs ⟨rfl,_,_,rfl,.inr hm,p2,by omega,d,by omega⟩
     |false=>exact Xs ⟨rfl,_,_,rfl,g,.inr hm,by omega,by omega,by omega⟩
   .rintro c f ⟨rfl,lo,hi,rfl,g,p2,p,d,t⟩
    have e:lo=hi:=by omega
    subst e;exact⟨rfl,lo,rfl,g,p2,d⟩
   .rintro c f ⟨rfl,k,rfl,g,p2,d⟩
    refine Xs (h k ⟨d,λi hi=>?_,λi hi F=>?_⟩)
    .rcases g with e|e
     .omega
     .exact mono i (k-1) () () e
    .rcases p2 with e|e
     .omega
     .cases G:b i with
      |false=>rfl
      |true=>have:=mono k i hi F G;rw[e]at this;cases this
end
def DE:Array Keyed->Array Keyed->StateT SortSt Sem (Array Keyed):=sortPriv% PySem.Builtin.mergeLo
def Cj:Nat->StateT SortSt Sem Unit:=sortPriv% PySem.Builtin.setMinGallop
def c7(g:Nat):Cj g=modify λs=>SortSt.mk' (kindOf s) (arrOf s) (pendingOf s) g (failedOf s):=rfl
def uS(a b:Array Keyed):DE a b=(do
 rule "list.sort.merge-lo"
 let total:=a.size+b.size
 let done (out:Array Keyed) (ia ib:Nat):=out++a.extract ia a.size++b.extract ib b.size
 let Ux (out:Array Keyed) (ia ib:Nat):=out++b.extract ib b.size++a.extract ia a.size
 let mut out:Array Keyed:=#[<-elem' b 0]
 let mut ia:=0
 let mut ib:=1
 if ib==b.size then return done out ia ib
 if ia+1==a.size then return Ux out ia ib
 let mut YQ:=gallopOf (<- get)
 for _ in [0:total]do
  let mut X3:=0
  let mut X2:=0
  for _ in [0:total]do
   let some Th<-lt' (<- elem' b ib) (<- elem' a ia)|return done out ia ib
   if Th then
    out:=out.push (<- elem' b ib);ib:=ib+1;X2:=X2+1;X3:=0
    if ib==b.size then return done out ia ib
    if X2 ≥ YQ then break
   else
    out:=out.push (<- elem' a ia);ia:=ia+1;X3:=X3+1;X2:=0
    if ia+1==a.size then return Ux out ia ib
    if X3 ≥ YQ then break
  rule "list.sort.gallop"
  YQ:=YQ+1
  for _ in [0:total]do
   if YQ > 1 then YQ:=YQ-1
   Cj YQ
   let some k<-Ik false (<- elem' b ib) a ia (a.size-ia) 0|return done out ia ib
   X3:=k
   if k > 0 then
    out:=out++a.extract ia (ia+k);ia:=ia+k
    if ia+1==a.size then return Ux out ia ib
    if ia==a.size then return done out ia ib
   out:=out.push (<- elem' b ib);ib:=ib+1
   if ib==b.size then return done out ia ib
   let some k<-Ik true (<- elem' a ia) b ib (b.size-ib) 0|return done out ia ib
   X2:=k
   if k > 0 then
    out:=out++b.extract ib (ib+k);ib:=ib+k
    if ib==b.size then return done out ia ib
   out:=out.push (<- elem' a ia);ia:=ia+1
   if ia+1==a.size then return Ux out ia ib
   if X3<7&&X2<7 then break
  YQ:=YQ+1
  Cj YQ
 unsupported "internal:list.sort.merge-bound"):=rfl
def SrL(rk:Keyed->Nat)(l:List Keyed):Prop:=l.Pairwise λx y=>rk x<=rk y
structure MI(rk:Keyed->Nat)(a b out:List Keyed)(ia ib:Nat):Prop where
 pm:out.Perm (a.take ia++b.take ib)
 so:SrL rk out
 oa:∀x∈out,∀y∈a.drop ia,rk x<=rk y
 ob:∀x∈out,∀y∈b.drop ib,rk x<=rk y
section
variable{a b out:List Keyed}{ia ib:Nat}
def jP(l:List Keyed)(i k:Nat):l.take (i+k)=l.take i++(l.drop i).take k:=by rw[Q9]
def SrL.drop{l:List Keyed}(h:SrL rk l)(i:Nat):SrL rk (l.drop i):=Qh (List.drop_sublist i l) h
def SrL.cut{l:List Keyed}(h:SrL rk l)(k:Nat):∀x∈l.take k,∀y∈l.drop k,rk x<=rk y:=by
 rw[SrL,<-Wz k l,WU]at h;exact h.2.2
def MI.Vc(I:MI rk a b out ia ib)(ha:SrL rk a)(k:Nat)(h:∀x∈(a.drop ia).take k,∀y∈b.drop ib,rk x<=rk y):MI rk a b (out++(a.drop ia).take k) (ia+k) ib where
 pm:=by
  rw[jP];refine(I.pm.append_right _).trans ?_;rw[XS,XS];exact Ro _ Ui
 so:=WU.mpr ⟨I.so,Qh (Qk k _) (ha.drop ia),λx hx y hy=>I.oa x hx y (U1 hy)⟩
 oa:=λx hx y hy=>by
  rw[<-QT]at hy;rcases Wd.mp hx with hx|hx
  .exact I.oa x hx y (VP hy)
  .exact (ha.drop ia).cut k x hx y hy
 ob:=λx hx y hy=>by
  rcases Wd.mp hx with hx|hx
  .exact I.ob x hx y hy
  .exact h x hx y hy
def MI.VN(I:MI rk a b out ia ib)(hb:SrL rk b)(k:Nat)(h:∀x∈(b.drop ib).take k,∀y∈a.drop ia,rk x<=rk y):MI rk a b (out++(b.drop ib).take k) ia (ib+k) where
 pm:=by
  rw[jP];refine(I.pm.append_right _).trans ?_;rw[XS]
 so:=WU.mpr ⟨I.so,Qh (Qk k _) (hb.drop ib),λx hx y hy=>I.ob x hx y (U1 hy)⟩
 oa:=λx hx y hy=>by
  rcases Wd.mp hx with hx|hx
  .exact I.oa x hx y hy
  .exact h x hx y hy
 ob:=λx hx y hy=>by
  rw[<-QT]at hy;rcases Wd.mp hx with hx|hx
  .exact I.ob x hx y (VP hy)
  .exact (hb.drop ib).cut k x hx y hy
def Res(rk:Keyed->Nat)(a b res:List Keyed):Prop:=res.Perm (a++b)/\SrL rk res
def MI.VM(I:MI rk a b out ia ib)(f:SrL rk a)(e:SrL rk b)(h:∀x∈a.drop ia,∀y∈b.drop ib,rk x<=rk y):Res rk a b (out++a.drop ia++b.drop ib):=by
 constructor
 .refine ((I.pm.append_right _).append_right _).trans ?_
  rw[XS (List.take ia a)];have h1:(List.take ib b++List.drop ia a).Perm (List.drop ia a++List.take ib b):=Ui;refine((h1.append_left (List.take ia a)).append_right _).trans ?_;rw[<-XS,Wz,XS,Wz]
 .refine WU.mpr ⟨WU.mpr ⟨I.so,f.drop ia,I.oa⟩,e.drop ib,λx c y d=>?_⟩
  rcases Wd.mp c with c|c
  .exact I.ob x c y d
  .exact h x c y d
def MI.Vb(I:MI rk a b out ia ib)(f:SrL rk a)(e:SrL rk b)(h:∀x∈b.drop ib,∀y∈a.drop ia,rk x<=rk y):Res rk a b (out++b.drop ib++a.drop ia):=by
 constructor
 .refine ((I.pm.append_right _).append_right _).trans ?_
  rw[XS (List.take ia a),Wz];refine(Ui (l₁:=List.take ia a++b)).trans ?_;rw[<-XS];refine List.Perm.append_right _ ?_;refine Ui.trans ?_;rw[Wz]
 .refine WU.mpr ⟨WU.mpr ⟨I.so,e.drop ib,I.ob⟩,f.drop ia,λx c y d=>?_⟩
  rcases Wd.mp c with c|c
  .exact I.oa x c y d
  .exact h x c y d
end
section
variable{E:Value->Shared->Prop}
def SmS(st a:SortSt):Prop:=kindOf a=kindOf st/\arrOf a=arrOf st/\pendingOf a=pendingOf st/\failedOf a=failedOf st
def SmS.refl(st:SortSt):SmS st st:=⟨rfl,rfl,rfl,rfl⟩
def LI(rk:Keyed->Nat)(a b:Array Keyed)(n:Nat)(r:Option (Array Keyed))(out:Array Keyed)(d c:Nat):Prop:=match r with
 |some res=>Res rk a.toList b.toList res.toList
 |none=>MI rk a.toList b.toList out.toList d c/\d+1<a.size/\c<b.size/\n<=d+c
structure Tv(rk:Keyed->Nat)(ZO a b:Array Keyed):Prop where
 ma:∀x∈a,x∈ZO
 mb:∀x∈b,x∈ZO
 sa:SrL rk a.toList
 sb:SrL rk b.toList
 last:∀x∈b.toList,∀y∈a.toList.drop (a.size-1),rk x<=rk y
def abf{a:Array Keyed}(h:i<a.size):a[i]∈a.toList.drop i:=by
 rw[List.mem_drop_iff_getElem];exact⟨0,by simpa using h,by simp⟩
def drop_one{a:Array Keyed}(h:i<a.size):(a.toList.drop i).take 1=[a[i]]:=by
 rw[WT (by simpa using h)];simp
def eW{a:Array Keyed}(c:SrL rk a.toList){i:Nat}(h:i<a.size):∀y∈a.toList.drop i,rk a[i]<=rk y:=λy b=>by
 rw[WT (by simpa using h)]at b
 rcases X5.mp b with rfl|b
 .simp
 .have:=(c.drop i)
  rw[WT (by simpa using h)]at this
  have:=(Uq.mp this).1 y b;simpa using this
def ak(a:Array Keyed)(i:Nat):(a.extract i a.size).toList=a.toList.drop i:=by
 rw[Qn,Rp];exact Vi #[3]
def aj{Q:Keyed->SortSt->Prop}(hi:i<arr.size)(h:Q arr[i] st):wpS (model prog w) A E s (elem' arr i) Q st:=by
 rw[elem'_eq,Ws hi];exact Xs h
def yU(Z7:AM prog w A E s κ ZO rk){a b out:Array Keyed}{ia ib mg:Nat}(Z5:Tv rk ZO a b)(hk:kindOf st=κ)(n0:Nat)(h0:LI rk a b n0 none out ia ib)(ht:0<a.size+b.size)
  {Q:Option (Array Keyed)×Array Keyed×Nat×Nat×Nat×Nat->SortSt->Prop} (h:∀r out ia ib ac bc,LI rk a b (n0+1) r out ia ib->Q (r,out,ia,ib,ac,bc) st) :
  wpS (model prog w) A E s (forIn [:a.size+b.size] ((none,out,ia,ib,0,0):Option (Array Keyed)×Array Keyed×Nat×Nat×Nat×Nat) λx Zu=>do
    let Xg<-elem' b Zu.snd.snd.snd.fst
    let R5<-elem' a Zu.snd.snd.fst
    let VR<-lt' Xg R5
    match VR with
     |some Th=>
      if Th=true then do
       let Xg<-elem' b Zu.snd.snd.snd.fst
       if(Zu.snd.snd.snd.fst+1==b.size)=true then
         pure (ForInStep.done (some (Zu.snd.fst.push Xg++a.extract Zu.snd.snd.fst a.size++b.extract (Zu.snd.snd.snd.fst+1) b.size),Zu.snd.fst.push Xg,Zu.snd.snd.fst,Zu.snd.snd.snd.fst+1,0,Zu.snd.snd.snd.snd.snd+1))
        else
         if Zu.snd.snd.snd.snd.snd+1 ≥ mg then
          pure (ForInStep.done (none,Zu.snd.fst.push Xg,Zu.snd.snd.fst,Zu.snd.snd.snd.fst+1,0,Zu.snd.snd.snd.snd.snd+1))
         else
          pure (ForInStep.yield (none,Zu.snd.fst.push Xg,Zu.snd.snd.fst,Zu.snd.snd.snd.fst+1,0,Zu.snd.snd.snd.snd.snd+1))
      else do
       let Xg<-elem' a Zu.snd.snd.fst
       if(Zu.snd.snd.fst+1+1==a.size)=true then
         pure (ForInStep.done (some (Zu.snd.fst.push Xg++b.extract Zu.snd.snd.snd.fst b.size++a.extract (Zu.snd.snd.fst+1) a.size),Zu.snd.fst.push Xg,Zu.snd.snd.fst+1,Zu.snd.snd.snd.fst,Zu.snd.snd.snd.snd.fst+1,0))
        else
         if Zu.snd.snd.snd.snd.fst+1 ≥ mg then
          pure (ForInStep.done (none,Zu.snd.fst.push Xg,Zu.snd.snd.fst+1,Zu.snd.snd.snd.fst,Zu.snd.snd.snd.snd.fst+1,0))
         else
          pure (ForInStep.yield (none,Zu.snd.fst.push Xg,Zu.snd.snd.fst+1,Zu.snd.snd.snd.fst,Zu.snd.snd.snd.snd.fst+1,0))
     |x=>
      pure (ForInStep.done (some (Zu.snd.fst++a.extract Zu.snd.snd.fst a.size++b.extract Zu.snd.snd.snd.fst b.size),Zu.snd.fst,Zu.snd.snd.fst,Zu.snd.snd.snd.fst,Zu.snd.snd.snd.snd.fst,Zu.snd.snd.snd.snd.snd))) Q st:=by
 refine UJ (Uj (I:=λx c ZW=>st=ZW /\ ∃ out ia ib ac bc,c=(none,out,ia,ib,ac,bc)/\LI rk a b (n0+x) none out ia ib)
  (Q:=λc ZW=>st=ZW /\∃r out ia ib ac bc,c=(r,out,ia,ib,ac,bc)/\LI rk a b (n0+1) r out ia ib) ?_ ?_ ⟨rfl,out,ia,ib,0,0,rfl,h0⟩) ?_
 .rintro x c ZW _ hx ⟨rfl,out,ia,ib,ac,bc,rfl,I,Xw,YH,hn⟩
  dsimp only;have X4:ia<a.size:=by lia
  refine Y0 (aj YH (Y0 (aj X4 (Y0 (Z7 _ _ (Z5.mb _ (Vx YH)) (Z5.ma _ (Vx X4)) st _ hk ?_)))));by_cases hl:rk b[ib]<rk a[ia]
  .simp only [hl,QE,Uc]
   refine Y0 (aj YH ?_)
   have I2:=I.VN Z5.sb 1 (λx hx y hy=>by
    rw[drop_one YH]at hx;rw[WA.mp hx];exact Gz (Rg hl) (eW Z5.sa X4 y hy))
   rw[drop_one YH,<-Sq]at I2;by_cases he:ib+1=b.size
   .rw [YC (by simp[he])]
    refine Xs ⟨rfl,_,_,_,_,_,_,rfl,?_⟩;show Res rk _ _ (Array.toList _);rw[We,We,ak,ak];exact I2.VM Z5.sa Z5.sb λx _ y hy=>by rw[Ug (by rw[Xh];lia)]at hy;cases hy
   .rw [Yj (by simp[he])]
    have nx:LI rk a b (n0+(x+1)) none (out.push b[ib]) ia (ib+1):=⟨I2,Xw,by lia,by lia⟩
    split
    .exact Xs ⟨rfl,_,_,_,_,_,_,rfl,⟨nx.1,nx.2.1,nx.2.2.1,by have:=nx.2.2.2;lia⟩⟩
    .exact Xs ⟨rfl,_,_,_,_,_,rfl,nx⟩
  .simp only [hl,RX,XH,W6]
   refine Y0 (aj X4 ?_)
   have I2:=I.Vc Z5.sa 1 (λx hx y hy=>by
    rw[drop_one X4]at hx;rw[WA.mp hx];exact Gz (Nat.not_lt.mp hl) (eW Z5.sb YH y hy))
   rw[drop_one X4,<-Sq]at I2;by_cases he:ia+1+1=a.size
   .rw [YC (by simp[he])]
    refine Xs ⟨rfl,_,_,_,_,_,_,rfl,?_⟩;show Res rk _ _ (Array.toList _);rw[We,We,ak,ak];refine I2.Vb Z5.sa Z5.sb λx hx y hy=>Z5.last x (VP hx) y ?_;rw[show a.size-1=ia+1 by lia];exact hy
   .rw [Yj (by simp[he])]
    have nx:LI rk a b (n0+(x+1)) none (out.push a[ia]) (ia+1) ib:=⟨I2,by lia,YH,by lia⟩
    split
    .exact Xs ⟨rfl,_,_,_,_,_,_,rfl,⟨nx.1,nx.2.1,nx.2.2.1,by have:=nx.2.2.2;lia⟩⟩
    .exact Xs ⟨rfl,_,_,_,_,_,rfl,nx⟩
 .rintro c ZW ⟨rfl,out,ia,ib,ac,bc,rfl,I,Xw,YH,hn⟩
  exact⟨rfl,none,out,ia,ib,ac,bc,rfl,I,Xw,YH,by lia⟩
 .rintro c ZW ⟨rfl,r,out,ia,ib,ac,bc,rfl,hI⟩
  exact h r out ia ib ac bc hI
end
section
variable{E:Value->Shared->Prop}
def j7(a:Array Keyed)(i k:Nat):(a.extract i (i+k)).toList=(a.toList.drop i).take k:=by
 rw[Qn,Rp];congr 1;lia
def aB{a:Array Keyed}(h:i<a.size):Ii rk a i=rk a[i]:=by
 unfold Ii;rw[Ws h];rfl
def aei{a:Array Keyed}(h:SrL rk a.toList)(lo:Nat):Up (Ii rk a) lo a.size:=λi j _ c b=>by
 rw[aB (by lia),aB b]
 rcases Nat.lt_or_eq_of_le c with k|rfl
 .have:=SU.mp h i j (by simpa using(by lia:i<a.size)) (by simpa using b) k
  simpa using this
 .exact GB _
def gal(m:AM prog w A E s κ ZO rk)(B:kindOf st=κ){left:Bool}{key:Keyed}{a:Array Keyed}{base n b:Nat}{Q:Option Nat->SortSt->Prop}(f:key∈ZO)(l:∀x∈a,x∈ZO)(e:base+n<=a.size)(g:b<n)
  (d:SrL rk a.toList) (h:∀k,k<=n->(∀x∈(a.toList.drop base).take k,rk x<=rk key)->(∀x∈((a.toList.drop base).take n).drop k,rk key<=rk x)->Q (some k) st):wpS (model prog w) A E s (Ik left key a base n b) Q st:=by
 refine fK m B f l e g (λi j p q r=>aei d base i j p q (by lia)) λk ⟨h1,h2,h3⟩=>h k h1 (λx c=>?_) λx c=>?_
 .obtain ⟨i,hi,rfl⟩:=Rw.mp c
  have YJ:=hi;simp![WV,Vw,Xh]at YJ;have:=h2 i ()
  unfold Il at this;rw[aB (by omega:base+i<a.size)]at this
  simp![PM,PN,Array.getElem_toList];cases left with
  |true=>rw[YC rfl]at this;have:=GI this;omega
  |false=>rw[Yj GA]at this;simp![W9,T6]at this;omega
 .obtain ⟨i,hi,rfl⟩:=Rw.mp c
  have YJ:=hi;simp![WV,Vw,Xh]at YJ;have:=h3 (k+i) (by lia) ()
  unfold Il at this;rw[aB (by omega:base+(k+i)<a.size)]at this
  simp![PM,PN,Array.getElem_toList];cases left with
  |true=>rw[YC rfl]at this;have:=QC this;omega
  |false=>rw[Yj GA]at this;simp![Bool.not_eq_false',Xq]at this;omega
abbrev LoY(rk:Keyed->Nat)(a b:Array Keyed)(st:SortSt)(n:Nat)(c:Option (Array Keyed)×Array Keyed×Nat×Nat×Nat×Nat×Nat)(ZW:SortSt):Prop:=SmS st ZW /\∃out ia ib mg ac bc,c=(none,out,ia,ib,mg,ac,bc)/\LI rk a b n none out ia ib
abbrev LoD(rk:Keyed->Nat)(a b:Array Keyed)(st:SortSt)(n:Nat)(c:Option (Array Keyed)×Array Keyed×Nat×Nat×Nat×Nat×Nat)(ZW:SortSt):Prop:=SmS st ZW /\∃r out ia ib mg ac bc,c=(r,out,ia,ib,mg,ac,bc)/\LI rk a b n r out ia ib
abbrev LoS(rk:Keyed->Nat)(a b:Array Keyed)(st:SortSt)(n:Nat)(r:ForInStep (Option (Array Keyed)×Array Keyed×Nat×Nat×Nat×Nat×Nat))(ZW:SortSt):Prop:=match r with
 |.done c=>LoD rk a b st n c ZW
 |.yield c=>LoY rk a b st n c ZW
def yu(Z7:AM prog w A E s κ ZO rk){a b:Array Keyed}(Z5:Tv rk ZO a b)(hk:kindOf st=κ)(ha:0<a.size)(X:0<b.size)(hf:∀x∈a.toList,rk b[0]<=rk x)
  {Q:Array Keyed->SortSt->Prop} (h:∀res j,SmS st j->Res rk a.toList b.toList res.toList->Q res j) :
  wpS (model prog w) A E s (DE a b) Q st:=by
 rw[uS];extract_lets total done Ux;refine Y0 (Py (RM ⟨rfl,?_⟩));refine Y0 (aj X ?_);extract_lets out ia ib;have I0:MI rk a.toList b.toList (#[b[0]]:Array Keyed).toList 0 1:=by
  have I:MI rk a.toList b.toList [] 0 0:=⟨by simp,List.Pairwise.nil,λx d=>by(cases d),λx d=>by(cases d)⟩
  have:=I.VN Z5.sb 1 (λx d y f=>by
   rw[drop_one X]at d;rw[WA.mp d];exact hf y (VP f))
  rw[drop_one X]at this;exact this
 by_cases h1:1=b.size
 .rw [YC (by show(1==b.size)=true;simp[<-h1])]
  refine Xs (h _ st (SmS.refl st) ?_);show Res rk _ _ (Array.toList (#[b[0]]++a.extract 0 a.size++b.extract 1 b.size));rw[We,We,ak,ak];exact I0.VM Z5.sa Z5.sb λx _ y f=>by rw[Ug (by rw[Xh];lia)]at f;cases f
 .rw [Yj (by show ¬ ((1==b.size)=true);simpa using h1)]
  by_cases h2:0+1=a.size
  .rw [YC (by show(0+1==a.size)=true;simp[<-h2])]
   refine Xs (h _ st (SmS.refl st) ?_);show Res rk _ _ (Array.toList (#[b[0]]++b.extract 1 b.size++a.extract 0 a.size));rw[We,We,ak,ak];refine I0.Vb Z5.sa Z5.sb λx d y f=>Z5.last x (VP d) y ?_;rw[show a.size-1=0 by lia];exact f
  .rw [Yj (by show ¬ ((0+1==a.size)=true);simpa using h2)]
   refine Y0 (Po ?_);extract_lets mg0;refine Y0 (UJ (Uj (I:=λx c j=>SmS st j /\ ∃ out ia ib mg,c=(none,out,ia,ib,mg)/\LI rk a b (1+x) none out ia ib)
    (Q:=λc j=>SmS st j /\∃res out ia ib mg,c=(some res,out,ia,ib,mg)/\Res rk a.toList b.toList res.toList) ?_ ?_ ⟨SmS.refl st,#[b[0]],0,1,_,rfl,I0,by lia,by lia,by lia⟩) ?_)
   .rintro x c YI _ d ⟨G,Tf,V,U,R,rfl,Z⟩
    extract_lets;refine Y0 (yU Z7 Z5 (G.1.trans hk) (1+x) Z (by lia) λr out2 ia2 ib2 ac bc Uw=>?_)
    cases r with
    |some res=>exact Xs ⟨G,res,_,_,_,_,rfl,Uw⟩
    |none=>
     refine Y0 (Py (RM ⟨rfl,?_⟩));refine Y0 (UJ (Uj (I:=λ_=>LoY rk a b st (1+x+1))
      (Q:=LoD rk a b st (1+x+1)) ?_ ?_ ⟨G,_,_,_,_,_,_,rfl,Uw⟩) ?_)
     .rintro y c C _ f ⟨D,out,ia,ib,mg,ac,bc,rfl,B,Xw,F,hn⟩
      extract_lets;rename_i jp S;have Xf:∀(u:PUnit) (m:Nat),wpS (model prog w) A E s (jp u m) (LoS rk a b st (1+x+1)) C:=by
       intro u m;refine Y0 ?_;rw[c7];refine RW ?_;generalize Te:SortSt.mk' (kindOf C) (arrOf C) (pendingOf C) m (failedOf C)=O;have o:SmS st O:=by rw[<-Te];exact D
       have Yx:kindOf O=κ:=o.1.trans hk;refine Y0 (aj F ?_);have W:b[ib]∈ZO:=Z5.mb _ (Vx F);refine Y0 (gal Z7 Yx W Z5.ma (by show ia+(a.size-ia)<=a.size;omega) (by show 0<a.size-ia;omega) Z5.sa λk Vf Zk L=>?_)
       have L:∀ x∈a.toList.drop (ia+k),rk b[ib]<=rk x:=λx d=>L x (by
        rw[Vi (by rw[Vw,Xh];exact GB _),QT];exact d)
       dsimp -zeta only
       extract_lets X3 Uv P t;have Wb:∀(u:PUnit) (out:Array Keyed) (g:Nat),ia<=g->g+1<a.size->MI rk a.toList b.toList out.toList g ib->(∀x∈a.toList.drop g,rk b[ib]<=rk x)->wpS (model prog w) A E s (Uv u out g) (LoS rk a b st (1+x+1)) O:=by
        intro u Td g hle Zc I' K;refine Y0 (aj F ?_);extract_lets Tc;have I4:MI rk a.toList b.toList Tc.toList g (ib+1):=by
         have:=I'.VN Z5.sb 1 (λx d y f=>by
          rw[drop_one F]at d;rw[WA.mp d];exact K y f)
         rw[drop_one F]at this;show MI rk _ _ (Td.push b[ib]).toList _ _;rw[Sq];exact this
        by_cases h5:ib+1=b.size
        .rw [YC (by show(ib+1==b.size)=true;simp[h5])]
         refine Xs ⟨o,some _,_,_,_,_,_,_,rfl,?_⟩;show Res rk _ _ (Array.toList (Tc++a.extract g a.size++b.extract (ib+1) b.size));rw[We,We,ak,ak];exact I4.VM Z5.sa Z5.sb λx _ y f=>by rw[Ug (by rw[Xh];lia)]at f;cases f
        .rw [Yj (by show ¬ ((ib+1==b.size)=true);simpa using h5)]
         have H:g<a.size:=by lia
         refine Y0 (aj H ?_);have Y:a[g]∈ZO:=Z5.ma _ (Vx H);refine Y0 (gal Z7 Yx Y Z5.mb (by show ib+1+(b.size-(ib+1))<=b.size;omega) (by show 0<b.size-(ib+1);omega) Z5.sb λn Va Yt M=>?_)
         have M:∀ x∈b.toList.drop (ib+1+n),rk a[g]<=rk x:=λx d=>M x (by
          rw[Vi (by rw[Vw,Xh];exact GB _),QT];exact d)
         dsimp -zeta only
         extract_lets X2 T U_ N;have Ut:∀(u:PUnit) (out:Array Keyed) (z:Nat),ib<z->z<b.size->MI rk a.toList b.toList out.toList g z->(∀x∈b.toList.drop z,rk a[g]<=rk x)->wpS (model prog w) A E s (T u out z) (LoS rk a b st (1+x+1)) O:=by
          intro u Ta z hle' SH I6 J;refine Y0 (aj H ?_);extract_lets SG ia7;have I7:MI rk a.toList b.toList SG.toList (g+1) z:=by
           have:=I6.Vc Z5.sa 1 (λx d y f=>by
            rw[drop_one H]at d;rw[WA.mp d];exact J y f)
           rw[drop_one H]at this;show MI rk _ _ (Ta.push a[g]).toList _ _;rw[Sq];exact this
          by_cases h6:g+1+1=a.size
          .rw [YC (by show(g+1+1==a.size)=true;simp[h6])]
           refine Xs ⟨o,some _,_,_,_,_,_,_,rfl,?_⟩;show Res rk _ _ (Array.toList (SG++b.extract z b.size++a.extract (g+1) a.size));rw[We,We,ak,ak];refine I7.Vb Z5.sa Z5.sb λx d y f=>Z5.last x (VP d) y ?_;rw[show a.size-1=g+1 by omega];exact f
          .rw [Yj (by show ¬ ((g+1+1==a.size)=true);simpa using h6)]
           split
           .exact Xs ⟨o,none,_,_,_,_,_,_,rfl,I7,by lia,SH,by lia⟩
           .exact Xs ⟨o,_,_,_,_,_,_,rfl,I7,by omega,SH,by omega⟩
         by_cases WD:n > 0
         .rw [YC WD]
          have I5:MI rk a.toList b.toList U_.toList g N:=by
           have:=I4.VN Z5.sb n λx d y f=>Gz (Yt x d) (eW Z5.sa H y f);rw[<-j7,<-We]at this;exact this
          have e5:N=ib+1+n:=rfl;by_cases h7:N=b.size
          .rw [YC (by simp[h7])]
           refine Xs ⟨o,some _,_,_,_,_,_,_,rfl,?_⟩;show Res rk _ _ (Array.toList (U_++a.extract g a.size++b.extract N b.size));rw[We,We,ak,ak];exact I5.VM Z5.sa Z5.sb λx _ y f=>by rw[Ug (by rw[Xh];lia)]at f;cases f
          .rw [Yj (by simpa using h7)]
           have hnn':n<=b.size-(ib+1):=Va;exact Ut Unit.unit U_ N (by lia) () I5 (by rw[e5];exact M)
         .rw [Yj WD]
          have e0:n=0:=by lia
          rw[e0]at M;exact Ut Unit.unit Tc (ib+1) (by lia) (by lia) I4 M
       by_cases Us:k > 0
       .rw [YC Us]
        have I3:MI rk a.toList b.toList P.toList t ib:=by
         have:=B.Vc Z5.sa k λx d y f=>Gz (Zk x d) (eW Z5.sb F y f);rw[<-j7,<-We]at this;exact this
        have e3:t=ia+k:=rfl;by_cases h3:t+1=a.size
        .rw [YC (by simp[h3])]
         refine Xs ⟨o,some _,_,_,_,_,_,_,rfl,?_⟩;show Res rk _ _ (Array.toList (P++b.extract ib b.size++a.extract t a.size));rw[We,We,ak,ak];refine I3.Vb Z5.sa Z5.sb λx d y f=>Z5.last x (VP d) y ?_;rw[show a.size-1=t by omega];exact f
        .rw [Yj (by simpa using h3)]
         by_cases h4:t=a.size
         .rw [YC (by simp[h4])]
          refine Xs ⟨o,some _,_,_,_,_,_,_,rfl,?_⟩;show Res rk _ _ (Array.toList (P++a.extract t a.size++b.extract ib b.size));rw[We,We,ak,ak];exact I3.VM Z5.sa Z5.sb λx d y _=>by rw[Ug (by rw[Xh];lia)]at d;cases d
         .rw [Yj (by simpa using h4)]
          exact Wb Unit.unit P t (by lia) () I3 (by rw[e3];exact L)
       .rw [Yj Us]
        have e0:k=0:=by lia
        rw[e0]at L;exact Wb Unit.unit out ia (GB _) Xw B L
      by_cases hm:mg > 1
      .rw [YC hm];exact UJ (Xf Unit.unit S) λr j h=>by cases r<;>exact h
      .rw [Yj hm];exact UJ (Xf Unit.unit mg) λr j h=>by cases r<;>exact h
     .rintro c C ⟨D,out,ia,ib,mg,ac,bc,rfl,B⟩
      exact⟨D,none,_,_,_,_,_,_,rfl,B⟩
     .rintro c C ⟨D,r,out,ia,ib,mg,ac,bc,rfl,B⟩
      cases r with
      |some res=>exact Xs ⟨D,res,_,_,_,_,rfl,B⟩
      |none=>
       let⟨q0,q1,q2,q3⟩:=B;refine Y0 ?_;rw[c7];refine RW (Xs ⟨D,out,ia,ib,_,rfl,q0,q1,q2,?_⟩);lia
   .rintro c YI ⟨G,Tf,V,U,R,rfl,_,q1,q2,q3⟩
    have:max 0 total=a.size+b.size:=by show max 0 (a.size+b.size)=_;lia
    omega
   .rintro c YI ⟨G,res,_,_,_,_,rfl,hr⟩
    exact Xs (h res YI G hr)
end
def DC:Array Keyed->Array Keyed->StateT SortSt Sem (Array Keyed):=sortPriv% PySem.Builtin.mergeHi
def uR(a b:Array Keyed):DC a b=(do
 rule "list.sort.merge-hi"
 let total:=a.size+b.size
 let done (out:Array Keyed) (na nb:Nat):=a.extract 0 na++b.extract 0 nb++out.reverse
 let Ur (out:Array Keyed) (na nb:Nat):=b.extract 0 nb++a.extract 0 na++out.reverse
 let mut na:=a.size-1
 let mut nb:=b.size
 let mut out:Array Keyed:=#[<-elem' a na]
 if na==0 then return done out na nb
 if nb==1 then return Ur out na nb
 let mut YQ:=gallopOf (<- get)
 for _ in [0:total]do
  let mut X3:=0
  let mut X2:=0
  for _ in [0:total]do
   let some R4<-lt' (<- elem' b (nb-1)) (<- elem' a (na-1))|return done out na nb
   if R4 then
    na:=na-1;out:=out.push (<- elem' a na);X3:=X3+1;X2:=0
    if na==0 then return done out na nb
    if X3 ≥ YQ then break
   else
    nb:=nb-1;out:=out.push (<- elem' b nb);X2:=X2+1;X3:=0
    if nb==1 then return Ur out na nb
    if X2 ≥ YQ then break
  rule "list.sort.gallop"
  YQ:=YQ+1
  for _ in [0:total]do
   if YQ > 1 then YQ:=YQ-1
   Cj YQ
   let some at_<-Ik false (<- elem' b (nb-1)) a 0 na (na-1)|return done out na nb
   let k:=na-at_
   X3:=k
   if k > 0 then
    out:=out++(a.extract at_ na).reverse;na:=at_
    if na==0 then return done out na nb
   nb:=nb-1;out:=out.push (<- elem' b nb)
   if nb==1 then return Ur out na nb
   let some at_<-Ik true (<- elem' a (na-1)) b 0 nb (nb-1)|return done out na nb
   let k:=nb-at_
   X2:=k
   if k > 0 then
    out:=out++(b.extract at_ nb).reverse;nb:=at_
    if nb==1 then return Ur out na nb
    if nb==0 then return done out na nb
   na:=na-1;out:=out.push (<- elem' a na)
   if na==0 then return done out na nb
   if X3<7&&X2<7 then break
  YQ:=YQ+1
  Cj YQ
 unsupported "internal:list.sort.merge-bound"):=rfl
structure MH(rk:Keyed->Nat)(a b out:List Keyed)(na nb:Nat):Prop where
 pm:out.Perm (a.drop na++b.drop nb)
 so:SrL rk out.reverse
 oa:∀x∈out,∀y∈a.take na,rk y<=rk x
 ob:∀x∈out,∀y∈b.take nb,rk y<=rk x
section
variable{a b out:List Keyed}{na nb:Nat}
def SrL.take{l:List Keyed}(h:SrL rk l)(i:Nat):SrL rk (l.take i):=Qh (Qk i l) h
def di(l:List Keyed){k:Nat}(h:k<=n):l.drop k=(l.take n).drop k++l.drop n:=by
 rcases Nat.le_total n l.length with hn|hn
 .conv=>lhs;rw[<-Wz n l]
  rw[List.drop_append_of_le_length (by rw[WV];lia)]
 .rw [Vi hn,Ug hn,U9]
def d0{l:List Keyed}{k:Nat}(h:k<=n){x:Keyed}(a:x∈l.take k):x∈(l.take n).take k:=by
 rw[List.take_take,Nat.min_eq_left h];exact a
def MH.Vc(I:MH rk a b out na nb)(ha:SrL rk a){k:Nat}(hk:k<=na)(h:∀x∈(a.take na).drop k,∀y∈b.take nb,rk y<=rk x):MH rk a b (out++((a.take na).drop k).reverse) k nb where
 pm:=by
  rw[di a hk];refine Ui.trans ?_;rw[XS];exact(QU _).append I.pm
 so:=by
  rw[List.reverse_append,List.reverse_reverse];exact WU.mpr ⟨(ha.take na).drop k,I.so,λx hx y hy=>I.oa y (VQ.mp hy) x (VP hx)⟩
 oa:=λx hx y hy=>by
  rcases Wd.mp hx with hx|hx
  .exact I.oa x hx y (U1 (d0 hk hy))
  .exact (ha.take na).cut k y (d0 hk hy) x (VQ.mp hx)
 ob:=λx hx y hy=>by
  rcases Wd.mp hx with hx|hx
  .exact I.ob x hx y hy
  .exact h x (VQ.mp hx) y hy
def MH.VN(I:MH rk a b out na nb)(hb:SrL rk b){k:Nat}(hk:k<=nb)(h:∀x∈(b.take nb).drop k,∀y∈a.take na,rk y<=rk x):MH rk a b (out++((b.take nb).drop k).reverse) na k where
 pm:=by
  rw[di b hk];refine(I.pm.append (QU _)).trans ?_;rw[XS];exact Ro _ Ui
 so:=by
  rw[List.reverse_append,List.reverse_reverse];exact WU.mpr ⟨(hb.take nb).drop k,I.so,λx hx y hy=>I.ob y (VQ.mp hy) x (VP hx)⟩
 oa:=λx hx y hy=>by
  rcases Wd.mp hx with hx|hx
  .exact I.oa x hx y hy
  .exact h x (VQ.mp hx) y hy
 ob:=λx hx y hy=>by
  rcases Wd.mp hx with hx|hx
  .exact I.ob x hx y (U1 (d0 hk hy))
  .exact (hb.take nb).cut k y (d0 hk hy) x (VQ.mp hx)
def MH.VM(I:MH rk a b out na nb)(f:SrL rk a)(e:SrL rk b)(h:∀x∈a.take na,∀y∈b.take nb,rk x<=rk y):Res rk a b (a.take na++b.take nb++out.reverse):=by
 constructor
 .refine (((QU _).trans I.pm).append_left _).trans ?_
  rw[XS];refine(Ro _ ?_).trans (l₂:=List.take na a++(List.drop na a++b)) ?_
  .rw [<-XS]
   refine(List.perm_append_comm.append_right _).trans ?_;rw[XS,Wz]
  .rw [<-XS,Wz]
 .refine WU.mpr ⟨WU.mpr ⟨f.take na,e.take nb,h⟩,I.so,λx c y d=>?_⟩
  rcases Wd.mp c with c|c
  .exact I.oa y (VQ.mp d) x c
  .exact I.ob y (VQ.mp d) x c
def MH.Vb(I:MH rk a b out na nb)(f:SrL rk a)(e:SrL rk b)(h:∀x∈b.take nb,∀y∈a.take na,rk x<=rk y):Res rk a b (b.take nb++a.take na++out.reverse):=by
 constructor
 .refine (((QU _).trans I.pm).append_left _).trans ?_
  rw[XS,<-XS (List.take na a),Wz];refine(Ui).trans ?_;rw[XS];refine Ro _ (Ui.trans ?_);rw[Wz]
 .refine WU.mpr ⟨WU.mpr ⟨e.take nb,f.take na,h⟩,I.so,λx c y d=>?_⟩
  rcases Wd.mp c with c|c
  .exact I.ob y (VQ.mp d) x c
  .exact I.oa y (VQ.mp d) x c
end
section
variable{E:Value->Shared->Prop}
def LH(rk:Keyed->Nat)(a b:Array Keyed)(n:Nat)(r:Option (Array Keyed))(out:Array Keyed)(d c:Nat):Prop:=match r with
 |some res=>Res rk a.toList b.toList res.toList
 |none=>MH rk a.toList b.toList out.toList d c/\(0<d/\d<=a.size)/\(1<c/\c<=b.size)/\n+d+c<=a.size+b.size
def bF{a:Array Keyed}(h:n<a.size):(a.toList.take (n+1)).drop n=[a[n]]:=by
 rw[List.drop_take,WT (by simpa using h)];simp
def cZ{a:Array Keyed}(c:SrL rk a.toList){n:Nat}(h:n<a.size):∀y∈a.toList.take (n+1),rk y<=rk a[n]:=λy b=>by
 rw[<-Wz n (a.toList.take (n+1)),bF h]at b;rcases Wd.mp b with b|b
 .exact (c.take (n+1)).cut n y b a[n] (by rw[bF h];exact WA.mpr rfl)
 .rw [WA.mp b];exact GB _
def eV(a:Array Keyed)(n:Nat):(a.extract 0 n).toList=a.toList.take n:=by
 rw[Qn,Rp];simp
def aY(a:Array Keyed)(k n:Nat):(a.extract k n).toList=(a.toList.take n).drop k:=by
 rw[Qn,Rp,List.drop_take]
def cS{a b out:Array Keyed}{d c:Nat}(I:MH rk a.toList b.toList out.toList d c)(i:SrL rk a.toList)(g:SrL rk b.toList)(h:d=0\/c=0):Res rk a.toList b.toList (a.extract 0 d++b.extract 0 c++out.reverse).toList:=by
 rw[We,We,eV,eV,Qo];refine I.VM i g λx f y e=>?_;rcases h with rfl|rfl
 .rw [Ow]at f;cases f
 .rw [Ow]at e;cases e
def eI{a b out:Array Keyed}{c:Nat}(I:MH rk a.toList b.toList out.toList c 1)(h:SrL rk a.toList)(d:SrL rk b.toList)(i:0<b.size)(g:∀x∈a.toList,rk b[0]<=rk x):Res rk a.toList b.toList (b.extract 0 1++a.extract 0 c++out.reverse).toList:=by
 rw[We,We,eV,eV,Qo];refine I.Vb h d λx f y e=>?_;have:=cZ d i x f;exact Gz this (g y (U1 e))
def iw{a b out:Array Keyed}{c:Nat}(I:MH rk a.toList b.toList out.toList (n+1) c)(f:SrL rk a.toList)(h:n<a.size)(k:∀y∈b.toList.take c,rk y<=rk a[n]):MH rk a.toList b.toList (out.push a[n]).toList n c:=by
 have:=I.Vc f (VC n) (λx d y e=>by
  rw[bF h]at d;rw[WA.mp d];exact k y e)
 rw[bF h]at this;rw[Sq];exact this
def rf{a b out:Array Keyed}{c:Nat}(I:MH rk a.toList b.toList out.toList c (n+1))(f:SrL rk b.toList)(h:n<b.size)(k:∀y∈a.toList.take c,rk y<=rk b[n]):MH rk a.toList b.toList (out.push b[n]).toList c n:=by
 have:=I.VN f (VC n) (λx d y e=>by
  rw[bF h]at d;rw[WA.mp d];exact k y e)
 rw[bF h]at this;rw[Sq];exact this
abbrev HiY(rk:Keyed->Nat)(a b:Array Keyed)(st:SortSt)(n:Nat)(c:Option (Array Keyed)×Nat×Nat×Array Keyed×Nat×Nat×Nat)(ZW:SortSt):Prop:=SmS st ZW /\∃na nb out mg ac bc,c=(none,na,nb,out,mg,ac,bc)/\LH rk a b n none out na nb
abbrev HiD(rk:Keyed->Nat)(a b:Array Keyed)(st:SortSt)(n:Nat)(c:Option (Array Keyed)×Nat×Nat×Array Keyed×Nat×Nat×Nat)(ZW:SortSt):Prop:=SmS st ZW /\∃r na nb out mg ac bc,c=(r,na,nb,out,mg,ac,bc)/\LH rk a b n r out na nb
abbrev HiS(rk:Keyed->Nat)(a b:Array Keyed)(st:SortSt)(n:Nat)(r:ForInStep (Option (Array Keyed)×Nat×Nat×Array Keyed×Nat×Nat×Nat))(ZW:SortSt):Prop:=match r with
 |.done c=>HiD rk a b st n c ZW
 |.yield c=>HiY rk a b st n c ZW
def xi(Z7:AM prog w A E s κ ZO rk){a b:Array Keyed}(Z5:Tv rk ZO a b)(hk:kindOf st=κ)(ha:0<a.size)(X:0<b.size)(W:∀x∈a.toList,rk b[0]<=rk x)
  {Q:Array Keyed->SortSt->Prop} (h:∀res g,SmS st g->Res rk a.toList b.toList res.toList->Q res g) :
  wpS (model prog w) A E s (DC a b) Q st:=by
 rw[uR];extract_lets total done Ur na0 nb0;refine Y0 (Py (RM ⟨rfl,?_⟩));have F:a.size-1<a.size:=by omega
 refine Y0 (aj F ?_);have I0:MH rk a.toList b.toList (#[a[a.size-1]]:Array Keyed).toList (a.size-1) b.size:=by
  have I:MH rk a.toList b.toList (#[]:Array Keyed).toList (a.size-1+1) b.size:=⟨by simp;omega,List.Pairwise.nil,λx z=>by(cases z),λx z=>by(cases z)⟩
  exact iw I Z5.sa F λy o=>Z5.last y (U1 o) _ (abf F)
 extract_lets out0;by_cases h1:a.size-1=0
 .rw [YC (by show(a.size-1==0)=true;simp[h1])]
  exact Xs (h _ st (SmS.refl st) (cS I0 Z5.sa Z5.sb (.inl h1)))
 .rw [Yj (by show ¬ ((a.size-1==0)=true);simpa using h1)]
  by_cases h2:b.size=1
  .rw [YC (by show(b.size==1)=true;simp[h2])]
   have I1:MH rk a.toList b.toList (#[a[a.size-1]]:Array Keyed).toList (a.size-1) 1:=by rw[h2]at I0;exact I0
   have:=eI I1 Z5.sa Z5.sb X W;refine Xs (h _ st (SmS.refl st) ?_);show Res rk _ _ (b.extract 0 b.size++a.extract 0 (a.size-1)++Array.reverse #[a[a.size-1]]).toList;rw[h2];exact this
  .rw [Yj (by show ¬ ((b.size==1)=true);simpa using h2)]
   refine Y0 (Po ?_);extract_lets mg0;refine Y0 (UJ (Uj (I:=λx c g=>SmS st g /\ ∃ na nb out mg,c=(none,na,nb,out,mg)/\LH rk a b (1+x) none out na nb)
    (Q:=λc g=>SmS st g /\∃res na nb out mg,c=(some res,na,nb,out,mg)/\Res rk a.toList b.toList res.toList) ?_ ?_ ⟨SmS.refl st,a.size-1,b.size,#[a[a.size-1]],_,rfl,I0,⟨by lia,by lia⟩,⟨by lia,by lia⟩,by lia⟩) ?_)
   .rintro x c L _ z ⟨M,na1,nb1,Tf,mg1,rfl,hI1⟩
    have Wk:x < a.size+b.size:=z;extract_lets;refine Y0 (UJ (Uj (I:=λy c g=>L=g /\ ∃ na nb out ac C,c=(none,na,nb,out,ac,C)/\LH rk a b (1+x+y) none out na nb)
     (Q:=λc g=>L=g /\∃r na nb out ac C,c=(r,na,nb,out,ac,C)/\LH rk a b (1+x+1) r out na nb) ?_ ?_ ⟨rfl,_,_,_,_,_,rfl,hI1⟩) ?_)
    .rintro y c t _ o ⟨rfl,na,nb,out,ac,C,rfl,I,⟨N,U⟩,⟨T,V⟩,hn⟩
     obtain⟨na,rfl⟩:∃n,na=n+1:=⟨na-1,by omega⟩
     obtain⟨nb,rfl⟩:∃n,nb=n+1:=⟨nb-1,by omega⟩
     have f:na<a.size:=by lia
     have j:nb<b.size:=by lia
     extract_lets;refine Y0 (aj (i:=nb) j (Y0 (aj (i:=na) f (Y0 (Z7 _ _ (Z5.mb _ (Vx j)) (Z5.ma _ (Vx f)) L _ (M.1.trans hk) ?_)))))
     dsimp -zeta only
     by_cases F:rk b[nb]<rk a[na]
     .rw [YC (by simpa using F)]
      refine Y0 (aj (i:=na) f ?_);extract_lets WB ac3;have J:MH rk a.toList b.toList (out.push a[na]).toList na (nb+1):=iw I Z5.sa f λy o=>Gz (cZ Z5.sb j y o) (Rg F);by_cases B:na=0
      .rw [YC (by show(na==0)=true;simp[B])]
       exact Xs ⟨rfl,some _,_,_,_,_,_,rfl,cS J Z5.sa Z5.sb (.inl B)⟩
      .rw [Yj (by show ¬ ((na==0)=true);simpa using B)]
       split
       .exact Xs ⟨rfl,none,na,nb+1,_,_,_,rfl,J,⟨Nat.pos_of_ne_zero B,Rg f⟩,⟨T,V⟩,by lia⟩
       .exact Xs ⟨rfl,na,nb+1,_,_,_,rfl,J,⟨Nat.pos_of_ne_zero B,Rg f⟩,⟨T,V⟩,by lia⟩
     .rw [Yj (by simpa using F)]
      refine Y0 (aj (i:=nb) j ?_);extract_lets WB bc3;have J:MH rk a.toList b.toList (out.push b[nb]).toList (na+1) nb:=rf I Z5.sb j λy o=>Gz (cZ Z5.sa f y o) (Nat.not_lt.mp F);by_cases B:nb=1
      .rw [YC (by show(nb==1)=true;simp[B])]
       subst B;exact Xs ⟨rfl,some _,_,_,_,_,_,rfl,eI J Z5.sa Z5.sb X W⟩
      .rw [Yj (by show ¬ ((nb==1)=true);simpa using B)]
       have q:1<nb/\nb<=b.size:=by omega
       split
       .exact Xs ⟨rfl,none,na+1,nb,_,_,_,rfl,J,⟨N,U⟩,q,by lia⟩
       .exact Xs ⟨rfl,na+1,nb,_,_,_,rfl,J,⟨N,U⟩,q,by lia⟩
    .rintro c t ⟨rfl,na,nb,out,ac,C,rfl,I,⟨N,U⟩,⟨T,V⟩,hn⟩
     have:max 0 total=a.size+b.size:=by show max 0 (a.size+b.size)=_;lia
     exact⟨rfl,none,na,nb,out,ac,C,rfl,I,⟨N,U⟩,⟨T,V⟩,by lia⟩
    .rintro c t ⟨rfl,r,na2,nb2,out2,ac2,bc2,rfl,Uw⟩
     cases r with
     |some res=>exact Xs ⟨M,res,_,_,_,_,rfl,Uw⟩
     |none=>
      refine Y0 (Py (RM ⟨rfl,?_⟩));refine Y0 (UJ (Uj (I:=λ_=>HiY rk a b st (1+x+1))
       (Q:=HiD rk a b st (1+x+1)) ?_ ?_ ⟨M,_,_,_,_,_,_,rfl,Uw⟩) ?_)
      .rintro y c t _ o ⟨K,na,nb,out,mg,ac,C,rfl,H,⟨N,U⟩,⟨T,V⟩,hn⟩
       obtain⟨nb,rfl⟩:∃n,nb=n+1:=⟨nb-1,by omega⟩
       have j:nb<b.size:=by omega
       extract_lets;rename_i jp mg';have Xf:∀(u:PUnit) (m:Nat),wpS (model prog w) A E s (jp u m) (HiS rk a b st (1+x+1)) t:=by
        intro u m;refine Y0 ?_;rw[c7];refine RW ?_;generalize Te:SortSt.mk' (kindOf t) (arrOf t) (pendingOf t) m (failedOf t)=Z;have G:SmS st Z:=by rw[<-Te];exact K
        have Yx:kindOf Z=κ:=G.1.trans hk;refine Y0 (aj (i:=nb) j ?_);have hbi:b[nb]∈ZO:=Z5.mb _ (Vx j);refine Y0 (gal Z7 Yx hbi Z5.ma (by show 0+na<=a.size;lia) (by show na-1<na;omega) Z5.sa λk Vf R Zh=>?_)
        have Vf:k<=na:=Vf;have R:∀x∈a.toList.take k,rk x<=rk b[nb]:=R;have Zh:∀x∈(a.toList.take na).drop k,rk b[nb]<=rk x:=Zh
        dsimp -zeta only
        extract_lets k' X3 Uv WB na3;have e3:na3=k:=rfl;have ek:k'=na-k:=rfl;have Wb:∀(u:PUnit) (d:Nat) (out:Array Keyed),0<d->d<=na->MH rk a.toList b.toList out.toList d (nb+1)->(∀x∈a.toList.take d,rk x<=rk b[nb])->wpS (model prog w) A E s (Uv u d out) (HiS rk a b st (1+x+1)) Z:=by
         intro u d Td hp hle I' P;obtain⟨d,rfl⟩:∃n,d=n+1:=⟨d-1,by omega⟩
         have f:d<a.size:=by lia
         refine Y0 (aj (i:=nb) j ?_);have I4:MH rk a.toList b.toList (Td.push b[nb]).toList (d+1) nb:=rf I' Z5.sb j P;by_cases h5:nb=1
         .rw [YC (by show(nb==1)=true;simp[h5])]
          subst h5;exact Xs ⟨G,some _,_,_,_,_,_,_,rfl,eI I4 Z5.sa Z5.sb X W⟩
         .rw [Yj (by show ¬ ((nb==1)=true);simpa using h5)]
          refine Y0 (aj (i:=d) f ?_);have hai:a[d]∈ZO:=Z5.ma _ (Vx f);refine Y0 (gal Z7 Yx hai Z5.mb (by show 0+nb<=b.size;lia) (by show nb-1<nb;omega) Z5.sb λn Va S Yu=>?_)
          have Va:n<=nb:=Va;have S:∀x∈b.toList.take n,rk x<=rk a[d]:=S;have Yu:∀x∈(b.toList.take nb).drop n,rk a[d]<=rk x:=Yu
          dsimp -zeta only
          extract_lets;rename_i kk X2 jp3 U_ nb5;have Y:nb5=n:=rfl;have Ut:∀(u:PUnit) (D:Nat) (out:Array Keyed),1<D->D<=nb->MH rk a.toList b.toList out.toList (d+1) D->(∀x∈b.toList.take D,rk x<=rk a[d])->wpS (model prog w) A E s (jp3 u D out) (HiS rk a b st (1+x+1)) Z:=by
           intro u D Ta XX hle' I6 O;refine Y0 (aj (i:=d) f ?_);have I7:MH rk a.toList b.toList (Ta.push a[d]).toList d D:=iw I6 Z5.sa f O;by_cases h6:d=0
           .rw [YC (by show(d==0)=true;simp[h6])]
            exact Xs ⟨G,some _,_,_,_,_,_,_,rfl,cS I7 Z5.sa Z5.sb (.inl h6)⟩
           .rw [Yj (by show ¬ ((d==0)=true);simpa using h6)]
            split
            .exact Xs ⟨G,none,d,D,_,_,_,_,rfl,I7,⟨by lia,by lia⟩,⟨by lia,by lia⟩,by lia⟩
            .exact Xs ⟨G,d,D,_,_,_,_,rfl,I7,⟨by omega,by omega⟩,⟨by omega,by omega⟩,by omega⟩
          by_cases WD:nb-n > 0
          .rw [YC (by show nb-n > 0;exact WD)]
           have I5:MH rk a.toList b.toList U_.toList (d+1) n:=by
            have:=I4.VN Z5.sb Va λx z y o=>Gz (cZ Z5.sa f y o) (Yu x z);rw[<-aY,<-Qo,<-We]at this;exact this
           by_cases h7:n=1
           .rw [YC (by rw[Y];simp[h7])]
            subst h7;exact Xs ⟨G,some _,_,_,_,_,_,_,rfl,eI I5 Z5.sa Z5.sb X W⟩
           .rw [Yj (by rw[Y];simpa using h7)]
            by_cases h8:n=0
            .rw [YC (by rw[Y];simp[h8])]
             exact Xs ⟨G,some _,_,_,_,_,_,_,rfl,cS I5 Z5.sa Z5.sb (.inr h8)⟩
            .rw [Yj (by rw[Y];simpa using h8)]
             exact Ut Unit.unit n U_ (by lia) Va I5 S
          .rw [Yj (by show ¬ (nb-n > 0);exact WD)]
           have e0:n=nb:=by omega
           rw[e0]at S;exact Ut Unit.unit nb _ (by lia) (GB _) I4 S
        by_cases Us:na-k > 0
        .rw [YC (by rw[ek];exact Us)]
         have I3:MH rk a.toList b.toList WB.toList k (nb+1):=by
          have:=H.Vc Z5.sa Vf λx z y o=>Gz (cZ Z5.sb j y o) (Zh x z);rw[<-aY,<-Qo,<-We]at this;exact this
         by_cases h3:k=0
         .rw [YC (by rw[e3];simp[h3])]
          exact Xs ⟨G,some _,_,_,_,_,_,_,rfl,cS I3 Z5.sa Z5.sb (.inl h3)⟩
         .rw [Yj (by rw[e3];simpa using h3)]
          exact Wb Unit.unit k WB (by lia) Vf I3 R
        .rw [Yj (by rw[ek];exact Us)]
         have e0:k=na:=by omega
         rw[e0]at R;exact Wb Unit.unit na out N (GB _) H R
       by_cases hm:mg > 1
       .rw [YC hm];exact UJ (Xf Unit.unit mg') λr g h=>by cases r<;>exact h
       .rw [Yj hm];exact UJ (Xf Unit.unit mg) λr g h=>by cases r<;>exact h
      .rintro c t ⟨K,na,nb,out,mg,ac,C,rfl,H⟩
       exact⟨K,none,_,_,_,_,_,_,rfl,H⟩
      .rintro c t ⟨K,r,na,nb,out,mg,ac,C,rfl,H⟩
       cases r with
       |some res=>exact Xs ⟨K,res,_,_,_,_,rfl,H⟩
       |none=>
        let⟨q0,q1,q2,q3⟩:=H;refine Y0 ?_;rw[c7];refine RW (Xs ⟨K,na,nb,out,_,rfl,q0,q1,q2,?_⟩);lia
   .rintro c L ⟨M,na1,nb1,Tf,mg1,rfl,_,q1,q2,q3⟩
    have:max 0 total=a.size+b.size:=by show max 0 (a.size+b.size)=_;lia
    omega
   .rintro c L ⟨M,res,_,_,_,_,rfl,hr⟩
    exact Xs (h res L M hr)
end
def mP(s:Nat):∀(l:List Keyed) (n:Nat) (arr:Array Keyed),s+n+l.length<=arr.size->((l.zipIdx n).foldl (λa (p,j)=>a.setIfInBounds (s+j) p) arr).toList=arr.toList.take (s+n)++l++arr.toList.drop (s+n+l.length)
 |[],n,arr,h=>by simp
 |x::l,n,arr,h=>by
  rw[YZ]at h;rw[List.zipIdx_cons,Qy,mP s l (n+1) _ (by rw[PY];lia)]
  rw[Pz,YZ];have c:(arr.toList.set (s+n) x).take (s+(n+1))=arr.toList.take (s+n)++[x]:=by
   rw[<-OB,List.take_succ_eq_append_getElem (by simp;lia),List.take_set_of_le (GB _),List.getElem_set_self]
  have b:(arr.toList.set (s+n) x).drop (s+(n+1)+l.length)=arr.toList.drop (s+n+(l.length+1)):=by
   rw[List.drop_set_of_lt (by lia)];congr 1;lia
  rw[c,b];simp
def uX(i:Nat):mergeAt' i=(do
 let s<-get
 let(some (sa,na,power),some (sb,nb,_)):=((pendingOf s)[i]?,(pendingOf s)[i+1]?)|unsupported "internal:list.sort.pending"
 set (setPending s (((pendingOf s).setIfInBounds i (sa,na+nb,power)).eraseIdxIfInBounds (i+1)))
 let some k<-Ik false (<- elem' (arrOf s) sb) (arrOf s) sa na 0|return false
 let(sa,na):=(sa+k,na-k)
 if na==0 then return true
 let some nb<-Ik true (<- elem' (arrOf s) (sa+na-1)) (arrOf s) sb nb (nb-1)|return false
 if nb==0 then return true
 let x:=(arrOf s).extract sa sb
 let y:=(arrOf s).extract sb (sb+nb)
 let merged<-if na<=nb then DE x y else DC x y
 modify λs=>setArr s (merged.toList.zipIdx.foldl (λa (p,j)=>a.setIfInBounds (sa+j) p) (arrOf s))
 return (failedOf (<- get)).isNone):=rfl
section
def cJ(a:Array Keyed)(i:Nat):Ii rk a i=(a.toList[i]?.map rk).getD 0:=by
 unfold Ii;rw[WN]
def tW{a:Array Keyed}{l₁ l₂ SF : List Keyed}(h:a.toList=l₁ ++ l₂ ++ SF)(i:Nat):Ii rk a i=if i<l₁.length then(l₁[i]?.map rk).getD 0 else if i<l₁.length+l₂.length then(l₂[i-l₁.length]?.map rk).getD 0 else(SF[i-(l₁.length+l₂.length)]?.map rk).getD 0:=by
 rw[cJ,h];split
 .rw [XM (by rw[Z1];lia),XM (by assumption)]
 .split
  .rw [XM (by rw[Z1];assumption),Wc (by lia)]
  .rw [Wc (by rw[Z1];lia),Z1]
def yX{v:Array Keyed}{e p q:Nat}{a:List Keyed}(J:e<=arr.size)(N:lo<=p)(M:p<=m)(L:m<=q)(K:q<=e)(B:Up (Ii rk arr) lo m)(A:Up (Ii rk arr) m e)
  (H:∀i,lo<=i->i<p ->∀t,m<=t->t<e->Ii rk arr i<=Ii rk arr t) (G:∀t,lo<=t->t<m ->∀j,q<=j->j<e->Ii rk arr t<=Ii rk arr j)
  (o:Res rk ((arr.extract p m).toList) ((arr.extract m q).toList) a) (F:v.toList=arr.toList.take p++a++arr.toList.drop q):Up (Ii rk v) lo e:=by
 have E:a.length=q-p:=by
  rw[o.1.length_eq,Z1,Xh,Xh,QD,QD];lia
 have Ib:(arr.toList.take p).length=p:=by rw[WV,Xh];lia
 have r':∀i,Ii rk v i=if i<p then Ii rk arr i else if i<q then(a[i-p]?.map rk).getD 0 else Ii rk arr i:=λi=>by
  rw[tW F i,Ib,E,show p+(q-p)=q by lia]
  split
  .rw [Qv (by assumption),<-cJ]
  .split
   .rfl
   .rw [PD,show q+(i-q)=i by lia,<-cJ]
 have g:∀i,i<q-p ->∃t,p<=t/\t<q/\(a[i]?.map rk).getD 0=Ii rk arr t:=λi hi=>by
  have YJ:i<a.length:=by lia
  have c:=o.1.mem_iff.mp (Tj YJ);rw[aY,aY]at c;rw[Y9 YJ];rcases Wd.mp c with c|c
  .obtain ⟨j,b,r⟩:=Rw.mp c
   have s:=b;simp![Vw,WV,Xh]at s;refine⟨p+j,by lia,by lia,?_⟩
   rw[aB (by lia:p+j<arr.size),<-r]
   simp
  .obtain ⟨j,b,r⟩:=Rw.mp c
   have s:=b;simp![Vw,WV,Xh]at s;refine⟨m+j,by lia,by lia,?_⟩
   rw[aB (by lia:m+j<arr.size),<-r]
   simp
 intro i j hi u b;rw[r' i,r' j];by_cases n:i<p
 .rw [YC n]
  have d:∀t,p<=t->t<e->Ii rk arr i<=Ii rk arr t:=λt O I=>by
   by_cases h:t<m
   .exact B i t hi (by lia) h
   .exact H i hi n t (by lia) I
  by_cases y:j<p
  .rw [YC y];exact B i j hi u (by lia)
  .rw [Yj y]
   by_cases f:j<q
   .rw [YC f]
    let⟨t,h,D,l⟩:=g (j-p) (by lia)
    rw[l];exact d t h (by lia)
   .rw [Yj f];exact d j (by lia) b
 .rw [Yj n,Yj (by lia : ¬ j<p)]
  by_cases z:i<q
  .rw [YC z]
   by_cases f:j<q
   .rw [YC f]
    have x:i-p<a.length:=by lia
    have w:j-p<a.length:=by lia
    rw[Y9 x,Y9 w];rcases Nat.lt_or_eq_of_le u with k|k
    .exact SU.mp o.2 (i-p) (j-p) x w (by lia)
    .subst k;exact GB _
   .rw [Yj f]
    let⟨t,h,D,l⟩:=g (i-p) (by lia)
    rw[l];by_cases C:t<m
    .exact G t (by lia) C j (by lia) b
    .exact A t j (by lia) (by lia) b
  .rw [Yj z,Yj (by lia : ¬ j<q)]
   exact A i j (by lia) u b
end
section
variable{E:Value->Shared->Prop}
def d5{p q:Nat}{x:Keyed}(h:x∈(arr.extract p q).toList):∃t,p<=t/\t<q/\t<arr.size/\Ii rk arr t=rk x/\x∈arr:=by
 rw[aY]at h;let⟨j,a,e⟩:=Rw.mp h;have b:=a;simp![Vw,WV,Xh]at b;refine⟨p+j,by lia,by omega,by omega,?_,?_⟩
 .rw [aB (by omega:p+j<arr.size),<-e];simp
 .rw [<-e];simp
def pS{p q hi:Nat}(h:Up (Ii rk arr) lo hi)(d:lo<=p)(c:q<=hi)(b:hi<=arr.size):SrL rk (arr.extract p q).toList:=by
 rw[aY,SrL,SU];intro i j YJ a e;have a1:=YJ;have a2:=a;simp![Vw,WV,Xh]at a1 a2;have:=h (p+i) (p+j) (by lia) (by lia) (by lia)
 rw[aB (by lia:p+i<arr.size),aB (by lia:p+j<arr.size)]at this
 simpa using this
def zN{a:SortSt}{Q:PUnit->SortSt->Prop}(h:Q ⟨⟩ a):wpS (model prog w) A E s (set a:StateT SortSt Sem PUnit) Q st:=RW (f:=λ_=>a) h
def x3(U:AM prog w A E s κ ZO rk)(B:SB κ ZO st){b c p e q:Nat}(h1:(pendingOf st)[i]?=some (b,c,p))(h2:(pendingOf st)[i+1]?=some (b+c,e,q))(Z:0<c)(hnb:0<e)(hsz:b+c+e<=ZO.size)
  (H:Up (Ii rk (arrOf st)) b (b+c)) (G:Up (Ii rk (arrOf st)) (b+c) (b+c+e)) {Q:Bool->SortSt->Prop}
  (h:∀d,SB κ ZO d->(∀j,(j<b\/b+c+e<=j)->Ii rk (arrOf d) j=Ii rk (arrOf st) j)->Up (Ii rk (arrOf d)) b (b+c+e)->pendingOf d=((pendingOf st).setIfInBounds i (b,c+e,p)).eraseIdxIfInBounds (i+1)->Q true d) :
  wpS (model prog w) A E s (mergeAt' i) Q st:=by
 rw[uX];refine Y0 (Po ?_);rw[h1,h2]
 dsimp -zeta only
 have hs:=B.size;have D:∀x∈arrOf st,x∈ZO:=λx hx=>B.perm.mem_iff.mp hx;have XI:b+c<(arrOf st).size:=by lia
 refine Y0 (zN ?_);generalize S9:setPending st (((pendingOf st).setIfInBounds i (b,c+e,p)).eraseIdxIfInBounds (i+1))=F;have m:SB κ ZO F:=by rw[<-S9];exact⟨B.perm,B.failed,B.kind⟩
 have O:arrOf F=arrOf st:=by rw[<-S9]
 have ep:pendingOf F=((pendingOf st).setIfInBounds i (b,c+e,p)).eraseIdxIfInBounds (i+1):=by rw[<-S9]
 refine Y0 (aj XI ?_);refine Y0 (fK U m.kind (D _ (Vx XI)) D (by lia) Z H ?_);rintro k ⟨k1,k2,k3⟩
 dsimp -zeta only
 have kk:∀t,b<=t->t<b+k->Ii rk (arrOf st) t<=Ii rk (arrOf st) (b+c):=λt f g=>by
  have:=k2 (t-b) (by lia)
  unfold Il at this;rw[Yj GA,show b+(t-b)=t by lia,W9,T6]at this
  rw[aB XI];lia
 have kl:∀t,b+k<=t->t<b+c->rk (arrOf st)[b+c]<=Ii rk (arrOf st) t:=λt f g=>by
  have:=k3 (t-b) (by lia) (by lia)
  unfold Il at this;rw[Yj GA,show b+(t-b)=t by lia,Bool.not_eq_false',Xq]at this
  lia
 have SE:∀i,b<=i->i<b+k ->∀t,b+c<=t->t<b+c+e->Ii rk (arrOf st) i<=Ii rk (arrOf st) t:=λi i1 i2 t f g=>Gz (kk i i1 i2) (G _ t (GB _) f g);by_cases S:c-k=0
 .rw [YC (by simp[S])]
  refine Xs (h F m (λj _=>by rw[O]) ?_ ep)
  rw[O];intro x y K J I;by_cases P:y<b+c
  .exact H x y K J P
  .by_cases T:x<b+c
   .exact SE x K (by lia) y (by lia) I
   .exact G x y (by lia) J I
 .rw [Yj (by simpa using S)]
  have el:b+k+(c-k)-1=b+c-1:=by lia
  have R:b+k+(c-k)-1<(arrOf st).size:=by omega
  refine Y0 (aj R ?_);refine Y0 (fK U m.kind (D _ (Vx R)) D (by lia) () G ?_);rintro n ⟨n1,n2,n3⟩
  dsimp -zeta only
  have nn:∀j,b+c+n<=j->j<b+c+e->Ii rk (arrOf st) (b+c-1)<=Ii rk (arrOf st) j:=λj Y X=>by
   have:=n3 (j-(b+c)) (by lia) ()
   unfold Il at this;rw[YC rfl,show b+c+(j-(b+c))=j by lia,<-aB (rk:=rk) R,el]at this
   have:=QC this;lia
  have nm:∀j,b+c<=j->j<b+c+n->Ii rk (arrOf st) j<=Ii rk (arrOf st) (b+c-1):=λj Y X=>by
   have:=n2 (j-(b+c)) (by lia)
   unfold Il at this;rw[YC rfl,show b+c+(j-(b+c))=j by lia,<-aB (rk:=rk) R,el]at this
   have:=GI this;lia
  have SD:∀t,b<=t->t<b+c ->∀j,b+c+n<=j->j<b+c+e->Ii rk (arrOf st) t<=Ii rk (arrOf st) j:=λt f g j Y X=>Gz (H t _ f () ()) (nn j Y X)
  by_cases e2:n=0
  .rw [YC (by simp[e2])]
   refine Xs (h F m (λj _=>by rw[O]) ?_ ep)
   rw[O];intro x y K J I;by_cases P:y<b+c
   .exact H x y K J P
   .by_cases T:x<b+c
    .exact SD x K T y (by lia) I
    .exact G x y (by lia) J I
  .rw [Yj (by simpa using e2)]
   extract_lets x y jp;have sx:x.size=c-k:=by show((arrOf st).extract (b+k) (b+c)).size=_;rw[QD];omega
   have sy:y.size=n:=by show((arrOf st).extract (b+c) (b+c+n)).size=_;rw[QD];lia
   have M:0<x.size:=by lia
   have L:0<y.size:=by lia
   have Z5:Tv rk ZO x y:=by
    refine⟨λz o=>?_,λz o=>?_,pS H (by lia) (by lia) (by lia),pS G () (by lia) (by lia),λz o v hv=>?_⟩
    .obtain ⟨t,_,_,_,_,hm⟩:=d5 (rk:=rk) (T1.mpr o)
     exact D _ hm
    .obtain ⟨t,_,_,_,_,hm⟩:=d5 (rk:=rk) (T1.mpr o)
     exact D _ hm
    .obtain ⟨t,f,g,_,V,_⟩:=d5 (rk:=rk) o
     have Vj:x.size-1<x.size:=by omega
     have ev:v=x[x.size-1]:=by
      rw[WT (by rw[Xh];exact Vj),Ug (by rw[Xh];lia)]at hv
      rw[WA.mp hv];simp
     have:rk v=Ii rk (arrOf st) (b+c-1):=by
      rw[ev,aB (by lia:b+c-1<(arrOf st).size)]
      show rk (((arrOf st).extract (b+k) (b+c))[x.size-1])=_;rw[Array.getElem_extract];congr 2;lia
     rw[this,<-V];exact nm t f g
   have hf:∀z∈x.toList,rk y[0]<=rk z:=λz o=>by
    let⟨t,f,g,_,V,_⟩:=d5 (rk:=rk) o;have:=kl t f g;rw[V]at this;have e0:y[0]=(arrOf st)[b+c]:=by
     show((arrOf st).extract (b+c) (b+c+n))[0]=_;rw[Array.getElem_extract];rfl
    rw[e0];exact this
   have Xf:∀mg d,SmS F d->Res rk x.toList y.toList mg.toList->wpS (model prog w) A E s (jp mg) Q d:=by
    intro mg d l C;refine Y0 (RW (Y0 (Po ?_)));have X8:failedOf d=none:=l.2.2.2.trans m.failed;have u:arrOf d=arrOf st:=l.2.1.trans O;generalize N:List.foldl (λ(a:Array Keyed) (x:Keyed×Nat)=>a.setIfInBounds (b+k+x.snd) x.fst) (arrOf d) mg.toList.zipIdx=res;have W:mg.toList.length=(c-k)+n:=by
     rw[C.1.length_eq,Z1,Xh,Xh,sx,sy]
    have r:res.toList=(arrOf st).toList.take (b+k)++mg.toList++(arrOf st).toList.drop (b+c+n):=by
     have:=mP (b+k) mg.toList 0 (arrOf d) (by rw[u,W];omega)
     rw[Nat.add_zero,W,u,show b+k+(c-k+n)=b+c+n by omega]at this
     rw[<-N,u];exact this
    have R3:res.Perm (arrOf st):=by
     rw[Array.perm_iff_toList_perm,r];have S:(arrOf st).toList=(arrOf st).toList.take (b+k)++(x.toList++y.toList)++(arrOf st).toList.drop (b+c+n):=by
      have P:=di (arrOf st).toList (show b+c<=b+c+n by lia)
      have T:=di (arrOf st).toList (show b+k<=b+c by lia)
      show _=_++(((arrOf st).extract (b+k) (b+c)).toList++((arrOf st).extract (b+c) (b+c+n)).toList)++_;rw[aY,aY,XS,XS,<-P,<-T,Wz]
     conv=>rhs;rw[S]
     exact(C.1.append_left _).append_right _
    show wpS _ _ _ _ (pure (failedOf d).isNone) Q _;rw[X8];refine Xs (h _ ⟨R3.trans B.perm,X8,l.1.trans m.kind⟩ ?_ ?_ (l.2.2.1.trans ep))
    .intro j hj
     show Ii rk res j=_;have Ib:((arrOf st).toList.take (b+k)).length=b+k:=by rw[WV,Xh];omega
     rw[tW r j,Ib,W,show b+k+(c-k+n)=b+c+n by omega]
     split
     .rw [Qv (by assumption),<-cJ]
     .rw [Yj (by lia),PD,show b+c+n+(j-(b+c+n))=j by lia,<-cJ]
    .show Up (Ii rk res) b (b+c+e)
     exact yX (by lia) (by lia:b<=b+k) () (by omega:b+c<=b+c+n) (by lia) H G SE SD C r
   by_cases hc:c-k<=n
   .rw [YC hc]
    exact Y0 (yu U Z5 m.kind M L hf λres d l C=>Xf res d l C)
   .rw [Yj hc]
    exact Y0 (xi U Z5 m.kind M L hf λres d l C=>Xf res d l C)
end
def PdR(r:Nat->Nat):List (Nat×Nat×Nat)->Nat->Nat->Prop
 |[],lo,hi=>lo=hi
 |(s,n,_)::l,lo,hi=>s=lo/\0<n/\Up r lo (lo+n)/\PdR r l (lo+n) hi
section
variable{r r':Nat->Nat}
def PdR.le:∀{l:List (Nat×Nat×Nat)} {lo hi:Nat},PdR r l lo hi->lo<=hi
 |[],_,_,h=>by cases h;exact GB _
 |(s,n,p)::l,lo,hi,h=>by have:=h.2.2.2.le;lia
def PdR.app:∀{l f:List (Nat×Nat×Nat)} {lo hi:Nat},PdR r (l++f) lo hi ↔ ∃m,PdR r l lo m/\PdR r f m hi
 |[],f,lo,hi=>⟨λh=>⟨lo,rfl,h⟩,λ⟨m,h,k⟩=>by cases h;exact k⟩
 |(s,n,p)::l,f,lo,hi=>by
  rw[Rk];constructor
  .rintro ⟨a,b,c,d⟩
   let⟨m,g,JC⟩:=PdR.app.mp d;exact⟨m,⟨a,b,c,g⟩,JC⟩
  .rintro ⟨m,⟨a,b,c,d⟩,e⟩
   exact⟨a,b,c,PdR.app.mpr ⟨m,d,e⟩⟩
def PdR.snoc{l:List (Nat×Nat×Nat)}{hi p:Nat}(h:PdR r l lo hi)(b:0<n)(a:Up r hi (hi+n)):PdR r (l++[(hi,n,p)]) lo (hi+n):=
 PdR.app.mpr ⟨hi,h,rfl,b,a,rfl⟩
def PdR.same:∀{l:List (Nat×Nat×Nat)} {lo hi:Nat},PdR r l lo hi->(∀j,lo<=j->j<hi->r' j=r j)->PdR r' l lo hi
 |[],_,_,h,_=>h
 |(s,n,p)::l,lo,hi,⟨a,b,c,d⟩,e=>by
  have:=d.le;refine⟨a,b,λi j h1 h2 f=>?_,d.same λj h1 h2=>e j (by lia) h2⟩
  rw[e i h1 (by lia),e j (by lia) (by lia)]
  exact c i j h1 h2 f
def PdR.join{l₁ l₂ : List (Nat×Nat×Nat)}{s p c a q hi:Nat}(h:PdR r (l₁ ++ (s,n,p)::(c,a,q)::l₂) lo hi)(b:∀j,(j<s\/s+n+a<=j)->r' j=r j)(f:Up r' s (s+n+a)):PdR r' (l₁ ++ (s,n+a,p)::l₂) lo hi:=by
 let⟨m,h1,h2,u,t,o,l,k,g⟩:=PdR.app.mp h;subst h2;have i:=h1.le;refine PdR.app.mpr ⟨s,h1.same λj _ d=>b j (.inl d),rfl,by lia,by rw[<-OB];exact f,?_⟩
 rw[<-OB];exact g.same λj e _=>b j (.inr e)
def PdR.pair{l₁ l₂ : List (Nat×Nat×Nat)}{s p b a q hi:Nat}(h:PdR r (l₁ ++ (s,n,p)::(b,a,q)::l₂) lo hi):b=s+n/\0<n/\0<a/\s+n+a<=hi/\Up r s (s+n)/\Up r (s+n) (s+n+a):=by
 let⟨m,h1,h2,i,g,f,e,d,c⟩:=PdR.app.mp h;subst h2;exact⟨f,i,e,c.le,g,d⟩
def acr{l:List (Nat×Nat×Nat)}(h:i+1<l.length):∃x y,l[i]?=some x/\l[i+1]?=some y/\l=l.take i++x::y::l.drop (i+2)/\(l.set i (x.1,x.2.1+y.2.1,x.2.2)).eraseIdx (i+1)=l.take i++(x.1,x.2.1+y.2.1,x.2.2)::l.drop (i+2):=by
 have e:l=l.take i++l[i]::l[i+1]::l.drop (i+2):=by
  conv=>lhs;rw[<-Wz i l,WT (),WT (by lia:i+1<l.length)]
 refine⟨l[i],l[i+1],Y9 _,Y9 h,e,?_⟩;have lt:(l.take i).length=i:=by rw[WV];lia
 generalize l[i]=x at e ⊢;generalize l[i+1]=y at e ⊢;generalize l.take i=l₁ at e lt ⊢;generalize l.drop (i+2)=l₂ at e ⊢;subst e;subst lt;rw[Qi _ _ (GB _),Nat.sub_self,List.set_cons_zero,List.eraseIdx_append_of_length_le (by lia),show l₁.length+1-l₁.length=1 by lia]
 rfl
end
section
variable{E:Value->Shared->Prop}
structure Ys(κ:SortKind)(ZO : Array Keyed)(rk:Keyed->Nat)(lo:Nat)(st:SortSt):Prop where
 sb:SB κ ZO st
 pr:PdR (Ii rk (arrOf st)) (pendingOf st).toList 0 lo
def Ys.merge(r:AM prog w A E s κ ZO rk)(P:Ys κ ZO rk lo st)(x:lo<=ZO.size)(hi:i+1<(pendingOf st).size){Q:Bool->SortSt->Prop}
  (h:∀a,Ys κ ZO rk lo a->(∀j,lo<=j->Ii rk (arrOf a) j=Ii rk (arrOf st) j)->(pendingOf a).size+1=(pendingOf st).size->Q true a):wpS (model prog w) A E s (mergeAt' i) Q st:=by
 let⟨⟨d,na,p⟩,⟨sb,nb,q⟩,h1,h2,o,n⟩:=acr (l:=(pendingOf st).toList) (i:=i) (by rw[Xh];exact hi)
 have hp:=P.pr;rw[o]at hp;let⟨rfl,k,g,u,f,e⟩:=hp.pair;rw[WN]at h1 h2;refine x3 r P.sb h1 h2 k g (by lia) f e λa t ho m b=>?_
 have c:(pendingOf a).toList=(pendingOf st).toList.take i++(d,na+nb,p)::(pendingOf st).toList.drop (i+2):=by
  rw[b,<-n,Array.toList_eraseIdxIfInBounds,Pz]
 refine h a ⟨t,?_⟩ (λj v=>ho j (.inr (by lia))) ?_
 .rw [c];exact hp.join ho m
 .have:=TZ List.length c
  rw[Xh,Z1,YZ,WV,Vw,Xh]at this;lia
end
section
variable{E:Value->Shared->Prop}
def PdR.len{r:Nat->Nat}:∀{l:List (Nat×Nat×Nat)} {lo hi:Nat},PdR r l lo hi->lo+l.length<=hi
 |[],_,_,h=>by cases h;exact GB _
 |(s,n,p)::l,lo,hi,h=>by have:=h.2.2.2.len;have:=h.2.1;rw[YZ];lia
def PdR.modify{r:Nat->Nat}{f:Nat×Nat×Nat->Nat×Nat×Nat}(d:∀x,(f x).1=x.1/\(f x).2.1=x.2.1):∀{l:List (Nat×Nat×Nat)} {k lo hi:Nat},PdR r l lo hi->PdR r (l.modify k f) lo hi
 |[],k,_,_,h=>by cases k<;>exact h
 |(s,n,p)::l,0,lo,hi,h=>by
  have:=d (s,n,p);rw[List.modify_zero_cons];obtain⟨⟨a,b,c⟩,e⟩:∃y,f (s,n,p)=y:=⟨_,rfl⟩;rw[e]at this ⊢;let⟨rfl,rfl⟩:=this;exact h
 |(s,n,p)::l,k+1,lo,hi,h=>by
  rw[List.modify_succ_cons];exact⟨h.1,h.2.1,h.2.2.1,h.2.2.2.modify d⟩
def xS{Q:Unit->SortSt->Prop}(M:AM prog w A E s κ ZO rk)(B:SB κ ZO st)(hp:pendingOf st = #[])
  (h:∀d,SB κ ZO d->Up (Ii rk (arrOf d)) 0 ZO.size->Q Unit.unit d):wpS (model prog w) A E s sortRuns' Q st:=by
 rw[sortRuns'_eq];refine Y0 (Po ?_);rw[B.size];extract_lets size W lo0;have P0:Ys κ ZO rk 0 st:=⟨B,by rw[hp];rfl⟩
 refine Y0 (UJ (Uj (I:=λx c d => ∃ lo,c=(none,lo)/\Ys κ ZO rk lo d/\lo<=ZO.size/\(x<=lo\/lo=ZO.size))
  (Q:=λc d=>c=(none,ZO.size)/\Ys κ ZO rk ZO.size d) ?step ?fin ⟨0,rfl,P0,S_ _,.inl (GB _)⟩) ?post)
 case fin=>
  rintro c d ⟨lo,rfl,P,l1,l2⟩;have:max 0 size=ZO.size:=by show max 0 ZO.size=_;lia
  have:lo=ZO.size:=by lia
  subst this;exact⟨rfl,P⟩
 case step=>
  rintro x c d _ hx ⟨lo,rfl,P,l1,l2⟩
  dsimp -zeta only
  extract_lets lo' jp;by_cases hl:lo ≥ ZO.size
  .rw [YC hl]
   have:lo=ZO.size:=by lia
   subst this;exact Xs ⟨rfl,P⟩
  .rw [Yj hl]
   refine Y0 (wN (lo:=lo) M P.sb (by show 1<=ZO.size-lo;lia) (by show lo+(ZO.size-lo)<=_;lia) λm t L S YS Xv=>?_)
   have YS:m<=ZO.size-lo:=YS
   dsimp -zeta only
   extract_lets;have Xf:∀ (u:PUnit) (n:Nat) (z:SortSt),1<=n->lo+n<=ZO.size->Ys κ ZO rk lo z->Up (Ii rk (arrOf z)) lo (lo+n)->wpS (model prog w) A E s (jp u n) (λr d=>match r with
     |.done c'=>c'=(none,ZO.size)/\Ys κ ZO rk ZO.size d
     |.yield c'=>∃lo,c'=(none,lo)/\Ys κ ZO rk lo d/\lo<=ZO.size/\(x+1<=lo\/lo=ZO.size)) z:=by
    intro u n z n1 n2 H C;refine Y0 (Po ?_);extract_lets lo2 Uv;have Wb:∀ (u:PUnit) (k:SortSt),Ys κ ZO rk lo k->Up (Ii rk (arrOf k)) lo (lo+n)->wpS (model prog w) A E s (Uv u) (λr d=>match r with
      |.done c'=>c'=(none,ZO.size)/\Ys κ ZO rk ZO.size d
      |.yield c'=>∃lo,c'=(none,lo)/\Ys κ ZO rk lo d/\lo<=ZO.size/\(x+1<=lo\/lo=ZO.size)) k:=by
     intro u k o F;refine Y0 (RW (Xs ⟨lo+n,rfl,⟨⟨o.sb.perm,o.sb.failed,o.sb.kind⟩,?_⟩,n2,by lia⟩))
     show PdR (Ii rk (arrOf k)) ((pendingOf k).push (lo,n,0)).toList 0 (lo+n);rw[Sq];exact o.pr.snoc (by lia) F
    cases hb:(pendingOf z).back? with
    |none=>
     dsimp -zeta only
     exact UJ (Wb Unit.unit z H C) λr d h=>by cases r<;>exact h
    |some v=>
     let⟨s1,n1',pv⟩:=v
     dsimp -zeta only
     extract_lets X;refine Y0 (UJ (Uj (I:=λ_ c d=>c=(none,Unit.unit)/\Ys κ ZO rk lo d/\Up (Ii rk (arrOf d)) lo (lo+n)) (Q:=λc d=>c=(none,Unit.unit)/\Ys κ ZO rk lo d/\Up (Ii rk (arrOf d)) lo (lo+n)) ?_ (λ_ _ K=>K) ⟨rfl,H,C⟩) ?_)
     .rintro y c k _ _ ⟨rfl,o,F⟩
      refine Y0 (Po ?_);extract_lets p;split
      .rename_i f1 f2 N Z
       split
       .exact Xs ⟨rfl,o,F⟩
       .have R:(pendingOf k).size-2+1<(pendingOf k).size:=by
         by_cases c1:(pendingOf k).size > 1
         .omega
         .rw [Yj c1]at Z;cases Z
        refine Y0 (o.merge M l1 R λWj P5 J _=>?_);refine Xs ⟨rfl,P5,λi j h1 h2 h3=>?_⟩;rw[J i h1,J j (by lia)]
        exact F i j h1 h2 h3
      .exact Xs ⟨rfl,o,F⟩
     .rintro c k ⟨rfl,o,F⟩
      refine Y0 (RW ?_);refine UJ (Wb Unit.unit _ ⟨⟨o.sb.perm,o.sb.failed,o.sb.kind⟩,?_⟩ F) λr d h=>by cases r<;>exact h
      show PdR (Ii rk (arrOf k)) ((pendingOf k).modify ((pendingOf k).size-1) λx=>(x.fst,x.2.fst,X)).toList 0 lo;rw[Array.toList_modify];exact PdR.modify (f:=λx=>(x.fst,x.2.fst,X)) (λ_=>⟨rfl,rfl⟩) o.pr
   have g:Ys κ ZO rk lo t:=⟨L.sb,by rw[L.pend];exact P.pr.same λj _ O=>by unfold Ii;rw[L.out j (.inl O)]⟩
   by_cases Zc:m<W
   .rw [YC Zc]
    refine Y0 (Py (RM ⟨rfl,?_⟩));have U:m<=min (ZO.size-lo) W/\lo+min (ZO.size-lo) W<=ZO.size:=by omega
    refine Y0 (uZ (lo:=lo) M L.sb U.2 U.1 Xv λz V C=>?_);have H:Ys κ ZO rk lo z:=⟨V.sb,by rw[V.pend];exact g.pr.same λj _ O=>by unfold Ii;rw[V.out j (.inl O)]⟩
    exact UJ (Xf Unit.unit _ z (by lia) U.2 H C) λr d h=>by cases r<;>exact h
   .rw [Yj Zc]
    exact UJ (Xf Unit.unit m t S (by lia) g Xv) λr d h=>by cases r<;>exact h
 case post=>
  rintro c d ⟨rfl,P⟩;have hlen:=P.pr.len;rw[Xh]at hlen;refine Y0 (UJ (Uj (I:=λx c D=>c=(none,Unit.unit)/\Ys κ ZO rk ZO.size D/\(pendingOf D).size+x<=ZO.size\/c=(none,Unit.unit)/\Ys κ ZO rk ZO.size D/\(pendingOf D).size<=1) (Q:=λc D=>c=(none,Unit.unit)/\Ys κ ZO rk ZO.size D/\(pendingOf D).size<=1) ?_ ?_ (.inl ⟨rfl,P,by lia⟩)) ?_)
  .intro x c t _ hx K
   refine Y0 (Po ?_);by_cases h1:(pendingOf t).size<=1
   .rw [YC h1]
    rcases K with⟨rfl,g,_⟩|⟨rfl,g,_⟩<;>exact Xs ⟨rfl,g,h1⟩
   .rw [Yj h1]
    rcases K with⟨rfl,g,h2⟩|⟨rfl,g,h2⟩
    .extract_lets
     rename_i Y;have T:∀(c:Prop) [Decidable c] (a:Nat),(if c then a-1 else a)<=a:=λc _ a=>by split<;>lia
     have hi3:Y<=(pendingOf t).size-2:=T _ _;have hi:Y+1<(pendingOf t).size:=by omega
     refine Y0 (g.merge M (GB _) hi λz H _ hz=>?_);exact Xs (.inl ⟨rfl,H,by lia⟩)
    .omega
  .rintro c t (⟨rfl,g,h2⟩|⟨rfl,g,h2⟩)
   .have:max 0 size=ZO.size:=by show max 0 ZO.size=_;lia
    exact⟨rfl,g,by lia⟩
   .exact ⟨rfl,g,h2⟩
  .rintro c t ⟨rfl,g,h2⟩
   refine Xs (h t g.sb ?_);have G:=g.pr;rw[<-Xh]at h2;generalize(pendingOf t).toList=l at G h2
   match l,G,h2 with
   |[],G,_=>intro i j _ _ h3;have:0=ZO.size:=G;lia
   |[(a,n,p)],G,_=>
    let⟨_,_,q3,q4⟩:=G;have:0+n=ZO.size:=q4;rw[<-this];exact q3
end
open PySem PyProof.Rows PySem.W
def jq{f:α->β}{l g:List β}(h:l.Perm g):∀(D:List α),g=D.map f ->∃a:List α,a.Perm D/\l=a.map f:=by
 induction h with
 |nil=>intro D e;exact⟨[],by rw[List.map_eq_nil_iff.mp e.symm],rfl⟩
 |cons x _ ih=>
  intro D e;cases D with
  |nil=>cases e
  |cons d D=>
   cases e;let⟨a,p,q⟩:=ih D rfl;exact⟨d::a,p.cons d,by rw[q];rfl⟩
 |swap x y l=>
  intro D e;cases D with
  |nil=>cases e
  |cons d D=>
   cases D with
   |nil=>cases e
   |cons d' D=>cases e;exact⟨d'::d::D,.swap _ _ _,rfl⟩
 |trans _ _ c b=>
  intro D e;let⟨m,p2,i⟩:=b D e;let⟨n,k,j⟩:=c m i;exact⟨n,k.trans p2,j⟩
def refs(D:Y4):List Value:=D.map λd=>.ref d.2
def BZ(D:Y4):Prop:=D.Pairwise λx y=>Ah y.1 x.1=false
section
variable{E:Value->Shared->Prop}{D:Y4}
def IsT.keep{k:List Int}(x:IsT prog w h k b)(a:∀o,h.get? b=some o->h'.get? b=some o):IsT prog w h' k b:=
 let⟨o,ZV,n,f,e,d,c⟩:=x;⟨o,ZV,n,a o f,e,d,c⟩
def fA(D:Y4):(pairsOf (refs D)).toList=D.map λd=>((.ref d.2,.ref d.2):Keyed):=by
 rw[pairsOf_toList];unfold refs
 induction D with
 |nil=>rfl
 |cons d D ih=>rw[YT,Rm,ih];rfl
def pN:∀{D:Y4},(∀d∈D,IsT prog w s.heap d.1 d.2/\d.1≠[]) ->∃fs:List Value,KatTups s.heap (refs D) fs/\fs.length=D.length /\∀v∈fs,∃i t,v=.int i t
 |[],_=>⟨[],trivial,rfl,λv e=>by cases e⟩
 |d::D,h=>by
  let⟨fs,a,b,c⟩:=pN (D:=D) λd g=>h d (GC _ g);let⟨⟨o,ZV,n,m,k,j,f⟩,p⟩:=h d XZ;cases hk:d.1 with
  |nil=>exact absurd hk p
  |cons i r=>
   rw[hk]at f;generalize hl:ZV.toList=l at f;cases f with
   |cons h1 _=>
    let⟨t,rfl⟩:=Qj h1;refine⟨.int i t::fs,KatTups.cons m k j (by rw[<-WN,hl];rfl) a,by rw[YZ,b,YZ],λv e=>?_⟩
    rcases X5.mp e with rfl|e
    .exact ⟨i,t,rfl⟩
    .exact c v e
def wD(j:2<=D.length)(g:∀d∈D,IsT prog w s.heap d.1 d.2/\d.1≠[]){Q:SortKind->Shared->Prop}(h:Q (tuples' true) s):wpAny (model prog w) A (keyKind' (refs D).toArray) Q E s:=by
 let⟨fs,a,b,c⟩:=pN g;refine kat_kind (T:=.type "int") a (by lia) (λv f=>?_) #[1] (by rw[show(Value.type "int" != Value.type "tuple")=true by decide];exact h)
 let⟨i,t,rfl⟩:=c v f;exactλA Q E s' _ q=>ZP q
def ach{b:SortSt}(k:∀d∈D,IsT prog w s.heap d.1 d.2)(B:SB κ (pairsOf (refs D)) b)(g:Up (Ii (Ij D) (arrOf b)) 0 (pairsOf (refs D)).size):
  ∃a:Y4,a.Perm D/\BZ a/\(arrOf b).map (·.2)=(refs a).toArray:=by
 have h:(arrOf b).toList.Perm (D.map λd=>((.ref d.2,.ref d.2):Keyed)):=by
  rw[<-fA];exact B.perm.toList
 let⟨a,p,e⟩:=jq h D rfl;have f:∀i (hi:i<a.length),(arrOf b)[i]?=some (.ref a[i].2,.ref a[i].2):=λi hi=>by
  rw[<-WN,e,Wh,Y9 hi];rfl
 refine⟨a,p,?_,?_⟩
 .refine SU.mpr λi j hi c l=>?_
  have m:(pairsOf (refs D)).size=a.length:=by rw[pairsOf_size];unfold refs;rw[Zz,p.length_eq]
  have:=g i j (S_ _) (Rg l) (by lia)
  unfold Ii at this;rw[f i hi,f j c]at this;have this:Ij D (.ref a[i].2,.ref a[i].2)<=Ij D (.ref a[j].2,.ref a[j].2):=this;rw[su k (p.mem_iff.mp (Tj c)) (p.mem_iff.mp (Tj hi)) (.ref a[j].2) (.ref a[i].2)];exact WY (Nat.not_lt.mpr this)
 .apply Q4.mp
  rw[Array.toList_map,e,Uu]
  rfl
def vm{P:PySem.Fin->Shared->Prop}(M:A.units<cLine)(r:s.heap.get? a=some (seqObj "list" (refs D).toArray n))(F:∀d∈D,IsT prog w s.heap d.1 d.2/\d.1≠[])(N:D.length<100000)
  (h:∀g:Y4,g.Perm D->BZ g->P (.done (.ret .none)) {s with heap:=sortedHeap s.heap a (refs D) (refs g).toArray}) :
  wpAny (model prog w) A (Builtin.«list.sort» ⟨[.ref a],[]⟩) P E s:=by
 rw[list_sort_plain];have I:a<s.heap.objs.size:=Gy r;have f:(refs D).length=D.length:=by unfold refs;rw[Zz]
 refine ZB (listItems_at r rfl ?_);refine ZB (listUpdate_at r rfl ?_);obtain⟨G,K⟩:∃G,(s.heap.update a (Obj.mapSeq λ_=>#[])).get? a=some (seqObj "list" #[] G):=⟨_,get?_update_seq r (λ_=>#[])⟩;refine ZB (seqEpoch_at K rfl ?_);refine ZB (wpAny_newTuple ?_ (by rw[UB];show(refs D).toArray.toList.length<=_;rw[List.toList_toArray,f];lia))
 refine ZB (wpAny_newList ?_);refine VO ?_;have u:(((s.heap.update a (Obj.mapSeq λ_=>#[])).push (seqObj "tuple" (refs D).toArray 0)).push (seqObj "list" #[] 0)).get? a=some (seqObj "list" #[] G):=by
  rw[Heap.get?_push_ne _ _ _ (by rw[size_push',Heap.size_update];exact GF (Rv I)),Heap.get?_push_ne _ _ _ (by rw[Heap.size_update];exact GF I)]
  exact K
 show wpAny (model prog w) A _ P E {s with heap:=((s.heap.update a (Obj.mapSeq λ_=>#[])).push (seqObj "tuple" (refs D).toArray 0)).push (seqObj "list" #[] 0)}
 have k:∀d∈D,IsT prog w (((s.heap.update a (Obj.mapSeq λ_=>#[])).push (seqObj "tuple" (refs D).toArray 0)).push (seqObj "list" #[] 0)) d.1 d.2/\d.1≠[]:=λd j=>by
  refine⟨(F d j).1.keep λo e=>?_,(F d j).2⟩;have S:d.2≠a:=λq=>by
   let⟨o',ZV,c,H,B,V,U⟩:=(F d j).1;rw[q,r]at H;cases H;have B:Value.type "list" = Value.type "tuple":=B;exact absurd B #[1]
  exact Gx _ (Gx _ ((Rh _ _ (Ne.symm S)).trans e))
 generalize T:(((s.heap.update a (Obj.mapSeq λ_=>#[])).push (seqObj "tuple" (refs D).toArray 0)).push (seqObj "list" #[] 0))=y at u k ⊢;have t:∀g:Y4,g.Perm D->BZ g->P (.done (.ret .none)) {s with heap:=y.update a (Obj.mapSeq λ_=>(refs g).toArray)}:=λg p q=>by
  have:=h g p q;unfold sortedHeap at this;rw[T]at this;exact this
 dsimp only;have C:(refs D).toArray.size=D.length:=by rw[Xl,f]
 rw[C];by_cases h2:D.length<2
 .rw [YC h2,YC h2]
  refine ZB (ZP ?_);rw[StateT.run_pure];refine ZB (ZP ?_);dsimp only;refine ZB (seqEpoch_at u rfl ?_);refine ZB (listUpdate_at u rfl ?_ (hsz2:=by rw[Array.size_map];show(pairsOf (refs D)).size<=_;rw[pairsOf_size,UB,f];lia))
  simp![bne_self_eq_false,XH,W6];have e:Array.map (λx=>x.2) ((refs D).toArray.zip (refs D).toArray)=(refs D).toArray:=by
   apply Q4.mp;show(Array.map (λx:Keyed=>x.2) (pairsOf (refs D))).toList=_;rw[Array.toList_map,fA,Uu];rfl
  rw[show(arrOf (SortSt.mk' general' ((refs D).toArray.zip (refs D).toArray) #[] 7 none))=(refs D).toArray.zip (refs D).toArray from rfl,e];refine ZP (t D (.refl _) ?_)
  match D,h2 with
  |[],_=>exact .nil
  |[d],_=>exact P7 _ _
  |_::_::_,h2=>exact absurd h2 (by simp![YZ];lia)
 .rw [Yj h2,Yj h2]
  refine ZB (wD (s:={s with heap:=y}) (by lia) k ?_)
  have O:∀x∈pairsOf (refs D),∃d∈D,x=(.ref d.2,.ref d.2):=λx L=>by
   have:x∈(pairsOf (refs D)).toList:=T1.mpr L;rw[fA]at this;let⟨d,j,e⟩:=XY.mp this;exact⟨d,j,e.symm⟩
  have W:(pairsOf (refs D)).size=D.length:=by rw[pairsOf_size,f]
  refine ZB (Q1 (xS (s:={ s with heap:=y }) (ZO := pairsOf (refs D)) (st:=SortSt.mk' (tuples' true) ((refs D).toArray.zip (refs D).toArray) #[] 7 none) (Q:=λ_ z=>SB (tuples' true) (pairsOf (refs D)) z/\Up (Ii (Ij D) (arrOf z)) 0 (pairsOf (refs D)).size)
   (aea M (λd j=>(k d j).1) O) ⟨Array.Perm.refl _,rfl,rfl⟩ rfl λz a b=>⟨a,b⟩) ?_ λ_ _ e=>e)
  rintro⟨⟨⟩,z⟩ s' ⟨rfl,J,R⟩;let⟨g,p,q,e⟩:=ach (s:={s with heap:=y}) (λd j=>(k d j).1) J R
  dsimp only;rw[e];refine ZB (seqEpoch_at u rfl ?_);refine ZB (listUpdate_at u rfl ?_ (hsz2:=by show(refs g).toArray.size<=_;unfold refs;rw[Xl,Zz,p.length_eq,UB];lia))
  rw[J.failed];simp![bne_self_eq_false,XH,W6];exact ZP (t g p q)
end
section
variable{E:Value->Shared->Prop}{D:Y4}
def yn{r:Addr}{Q:Bool->Shared->Prop}(d:s.TypeIs (.ref r) "set")(h:Q false s):wpAny (model prog w) A (Builtin.List.listLengthHint (.ref r)) Q E s:=by
 unfold Builtin.List.listLengthHint;refine ZB (Qd d PySem.F.slot_set_len.lookup ?_);generalize a:("set.__len__" : String)=c
 wp_delta
 rw[show splitId c=some ("set","__len__")from by subst a;decide +kernel]
 subst a;refine ZB (P6 (T:="set") (b:=true) d (by rw[Ov];kernel_rfl) ?_)
 refine wpAny_ite_split (λf=>absurd f #[1]) (λ_=>?_)
 refine wpAny_ite_split (λ_=>?_) (λf=>absurd (by decide +kernel) f)
 refine ZB (wpAny_typeOf d ?_);exact ZP h
def vd{it Z6:Addr}{Q:Value->Shared->Prop}(a:SIt s.heap it Z6 slot i n ep)(h:Q (.ref it) s):wpAny (model prog w) A (pyIter (.ref it)) Q E s:=by
 refine PU a.typeIs jw (UA (b:=Builtin.«dict_keyiterator.__iter__») jw a.typeIs (entryFor_alias (id':="dict_keyiterator.__iter__") (by kernel_rfl) rfl (by decide +kernel) (by kernel_rfl)) ?_ (by unfold argsOk;kernel_rfl))
 show wpAny _ _ (ret (.ref it)) _ _ s;exact ZP ⟨_,rfl,"set_iterator",_,a.typeIs,bD.lookup,h⟩
def xc{o:Obj}{d:Array (Int×Value)}{t:SetTable}{Z:Z3}(r:A.handled=none){Z6 it:Addr}(C:Z6≠it)(P:Yy prog w o D d ep t Z):
  Walks prog w A it [it,Z6] [it] d.size (λi v=>∃e,(Ih w Z6 ep d)[i]?=some e/\v=e.2) (λi h=>∃slot,SIt h it Z6 slot i d.size ep/\SAt w t slot i/\h.get? Z6=some o) where
 sub:=λb f=>by simp at f;simp[f]
 frame:=λi h h' ⟨slot,⟨io,B,z,y⟩,a,b⟩ hk=>⟨slot,⟨io,hk it #[3] io B,z,y⟩,a,hk Z6 #[3] o b⟩
 item:=λi s Q E hi ⟨slot,a,b,c⟩ j=>by
  have g:(Ih w Z6 ep d).length=d.size:=by rw[(gj w Z6 ep d).length_eq,Xh]
  have k:(Ih w Z6 ep d)[i]?=some (Ih w Z6 ep d)[i]:=Y9 ()
  refine yg a c P b k λh' F a' b' sb=>?_;exact j _ h' s.toks ⟨_,k,rfl⟩ ⟨F,a',b',(sb.2 Z6 C).trans c⟩ λb o f e=>(sb.2 b λq=>f (by simp[q])).trans e
 done:=λs Q E ⟨slot,a,b,c⟩ j=>by
  have g:(Ih w Z6 ep d).length=d.size:=by rw[(gj w Z6 ep d).length_eq,Xh]
  refine xC r a c P b (Qg (by lia)) λh' u=>j h' s.toks λb o f e=>u b o (λq=>f (by simp[q])) e
 self:=λi s Q E ⟨slot,a,_,_⟩ j=>vd a j
def zv{o:Obj}{c:Array (Int×Value)}{t:SetTable}{Z:Z3}(P:Yy prog w o D c ep t Z)(Z6:Addr):
  KdlSrc prog w "set" Z6 Z6 c.size (λi v=>∃e,(Ih w Z6 ep c)[i]?=some e/\v=e.2) (λh=>h.get? Z6=some o) where
 type:=λ_ a=>⟨o,a,P.ex.1⟩
 there:=λ_ a=>⟨Gy a,Gy a⟩
 keep:=λ_ _ a hk=>hk Z6 (.inl rfl) o a
 notList:=by decide
 notTuple:=by decide
 hint:=λ_ _ _ _ a b=>yn ⟨o,a,P.ex.1⟩ b
 iter:=λ_ s d a=>⟨_,_,(λ_ _ b=>xv a P b),xc d (GF (Gy a)) P,⟨0,⟨_,GG _ rfl,rfl,rfl⟩,λ_=>vi P.tb,Gx _ a⟩⟩
def sortedHeap_at{xs out:Array Value}{vs:List Value}(d:h.get? a=some (seqObj "list" xs n)):∃c,(sortedHeap h a vs out).get? a=some (seqObj "list" out c):=by
 have j:a<h.objs.size:=Gy d;obtain⟨f,g⟩:∃f,(h.update a (Obj.mapSeq λ_=>#[])).get? a=some (seqObj "list" #[] f):=⟨_,get?_update_seq d (λ_=>#[])⟩;unfold sortedHeap;exact⟨_,get?_update_seq (Gx _ (Gx _ g)) _⟩
def sortedHeap_old{o:Obj}{out:Array Value}{vs:List Value}(c:b≠a)(e:h.get? b=some o):(sortedHeap h a vs out).get? b=some o:=by
 unfold sortedHeap;refine(Rh _ _ (Ne.symm c)).trans ?_;exact Gx _ (Gx _ ((Rh _ _ (Ne.symm c)).trans e))
def je{T:String}{r d:Addr}{P:Nat->Value->Prop}{u:Heap->Prop}{Q:Value->Shared->Prop}(K:KdlSrc prog w T r d n P u)(z:A.handled=none)(x:A.units+2<cLine)(F:u s.heap)(H:n<100000)
  (C:∀ vs:List Value,vs.length=n->(∀ (j:Nat) (v:Value),vs[j]? = some v->P j v) -> ∃ D:Y4,vs=refs D/\(∀ d∈D,IsT prog w s.heap d.1 d.2/\d.1≠[]) /\
   ∀(h1 h':Heap) (tk c:Nat) (a:Y4),a.Perm D->BZ a->(∀b o,s.heap.get? b=some o->h1.get? b=some o)->(∀b o,h1.get? b=some o->h'.get? b=some o)->h'.get? h1.objs.size=some (seqObj "list" (refs a).toArray c)->Q (.ref h1.objs.size) {s with heap:=h',toks:=tk}) :
  wpAny (model prog w) A (call (.builtin "sorted") [.ref r]) Q E s:=by
 refine Calls.call_function_entry kind_sorted plain_sorted entry_sorted (args_sorted1 _) ?_;unfold Builtin.«sorted»;refine ZB (m:=checkCount "sorted" 1 1 _) (ZP ?_);refine ZB (kdu_collect (A:=A.in1) K z F (by rw[UB];lia) λh' tk ZS hk t=>?_)
 have f:ZS.toList.length=n:=by rw[Xh];exact t.1
 let⟨D,e,k,g⟩:=C ZS.toList f (λj v e=>t.2 j v (by rw[<-WN];exact e))
 have y:D.length=n:=by rw[<-f,e];unfold refs;rw[Zz]
 refine ZB (wpAny_newList ?_ (by rw[f,UB];lia))
 rw[e];have h:(h'.push (seqObj "list" (refs D).toArray 0)).get? h'.objs.size=some (seqObj "list" (refs D).toArray 0):=GG _ rfl;have G:∀d∈D,IsT prog w (h'.push (seqObj "list" (refs D).toArray 0)) d.1 d.2/\d.1≠[]:=λd i=>⟨(k d i).1.keep λo q=>Gx _ (hk _ _ q),(k d i).2⟩;show wpAny _ _ _ _ _ {s with heap:=h'.push (seqObj "list" (refs D).toArray 0),toks:=tk}
 refine ZB (VO (UA slot_list_sort ⟨_,h,rfl⟩ entry_list_sort (vm (s:={s with heap:=h'.push (seqObj "list" (refs D).toArray 0),toks:=tk}) x h G (by lia) λa p q=>⟨_,rfl,?_⟩) (args_list_sort _)))
 let⟨c,B⟩:=sortedHeap_at (vs:=refs D) (out:=(refs a).toArray) h;refine ZP ⟨_,rfl,g h' _ tk c a p q hk (λb o l=>?_) B⟩;exact sortedHeap_old (GF (Gy l)) (Gx _ l)
end
open PySem
noncomputable section
set_option genInjectivity false in
inductive Z9 where
 |M (xs:List U)|ZG (Z4:List (List Int×U))|Zs (Z4:List (List Int×U))|dst (Z4:List (Str×U))|ins (c:Nat) (fs:List (Nat×U))
abbrev G:=List Z9
abbrev Su:=List (Option U)
inductive Out(α:Type) where
 |ok (a:α) (g:G)|exc (c:Nat) (fs:List U) (g:G)|ZU
noncomputable def Out.bind{d b:Type}(o:Out d)(k:d->G->Out b):Out b:=match o with
 |.ok a g=>k a g
 |.exc c fs g=>.exc c fs g
 |.ZU=>.ZU
noncomputable def Out.Yi{b:Type}(o:Out b):Out b:=match o with
 |.ok a g=>.ok a g
 |_=>.ZU
noncomputable def Out.bindB{c b:Type}(o:Out c)(k:c->G->Out b):Out b:=match o with
 |.ok a g=>k a g
 |_=>.ZU
set_option genInjectivity false in
inductive Fl where|nx (Y:Su)|rt (u:U)|bk (Y:Su)|ct (Y:Su)
set_option genInjectivity false in
inductive Iter where|M (id:Nat)|ZG (id:Nat)|seq (xs:List U)|YM (lo:Int) (n:Nat)
def Ak(x y:U):Option Bool:=match x with
 |.ZL=>match y with
  |.ZL=>some true
  |.bl _=>some false
  |.int _=>some false
  |.str _=>some false
  |_=>none
 |.bl a=>match y with
  |.ZL=>some false
  |.bl b=>some (a==b)
  |.int b=>some ((if a then 1 else 0)==b)
  |.str _=>some false
  |_=>none
 |.int a=>match y with
  |.ZL=>some false
  |.bl b=>some (a==(if b then 1 else 0))
  |.int b=>some (a==b)
  |.str _=>some false
  |_=>none
 |.str a=>match y with
  |.ZL=>some false
  |.bl _=>some false
  |.int _=>some false
  |.str b=>some (a==b)
  |_=>none
 |_=>none
def Aq:List U->List U->Option Bool
 |[],[]=>some true
 |x::xs,y::ys=>match Ak x y with
  |none=>none
  |some b=>match Aq xs ys with
   |none=>none
   |some c=>some (b&&c)
 |_,_=>none
def Io:U->U->Option Bool
 |.ZX xs,.ZX ys=>Aq xs ys
 |x,y=>Ak x y
def Cw:U->U->Bool
 |.int _,.int _=>true
 |.bl _,.bl _=>true
 |.str _,.str _=>true
 |.ZL,.ZL=>true
 |_,_=>false
def BO:Int:=18446744073709551616
def Am:Int:=115792089237316195423570985008687907853269984665640564039457584007913129639936
def Ip(op:Op)(i j:Int):Option U:=match op with
 |.add=>some (.int (i+j))
 |.sub=>some (.int (i-j))
 |.mul=>if(decide (-BO<i)&&decide (i<BO))||(decide (-BO<j)&&decide (j<BO))||(decide (-Am<i)&&decide (i<Am)&&decide (-Am<j)&&decide (j<Am))then some (.int (i*j))else none
 |.fdiv=>if 0<j then(if j<Am then some (.int (i / j))else none)
   else if j=0 then none else if -Am<j then some (.int (i.fdiv j))else none
 |.mod=>if 0<j then some (.int (i % j))else if j=0 then none else some (.int (i.fmod j))
 |.pow=>if 0<=j/\j<=1000/\i.natAbs<1000000 then some (.int (i ^ j.toNat))else none
def Iq(op:Op)(x y:U):Option U:=match x with
 |.int i=>match y with
  |.int j=>Ip op i j
  |_=>none
 |_=>none
def Ir:Op->U->U->Option U
 |.add,.int a,.int b=>some (.int (a+b))
 |.sub,.int a,.int b=>some (.int (a-b))
 |_,_,_=>none
def Iu(x:U):List U->Option Bool
 |[]=>some false
 |y::ys=>match Io y x with
  |none=>none
  |some b=>match Iu x ys with
   |none=>none
   |some c=>some (b||c)
noncomputable def items(u:U)(g:G):Option (List U):=match u with
 |.ZX xs=>some xs
 |.Zv xs=>some xs
 |.xn _ xs=>some xs
 |.ref n=>match g[n]? with
  |some (.M xs)=>some xs
  |_=>none
 |_=>none
def Au:U->Bool
 |.ZL=>true
 |_=>false
def intsOf:List U->Option (List Int)
 |[]=>some []
 |.int i::r=>(intsOf r).map (i :: ·)
 |_::_=>none
def keyOf(u:U):Option (List Int):=match u with
 |.ZX S=>intsOf S
 |_=>none
def AW(b:List (List Int×U))(k:List Int):Option U:=(b.find? λa=>decide (a.1=k)).map (·.2)
def dput(b:List (List Int×U))(k:List Int)(v:U):List (List Int×U):=
 if(b.any λa=>decide (a.1=k))=true then b.map (λa=>if a.1=k then(a.1,v)else a)else b++[(k,v)]
def Cv(a:List (List Int×U))(x:U):Option (List (List Int×U)):=match x with
 |.ZX [k,u]=>(keyOf k).map λks=>dput a ks u
 |_=>none
def dfold:List U->List (List Int×U)->Option (List (List Int×U))
 |[],Z4=>some Z4
 |x::r,Z4=>(Cv Z4 x).bind λk=>dfold r k
def BV(b:List (Str×U))(k:Str):Option U:=(b.find? λa=>decide (a.1=k)).map (·.2)
def DW(b:List (Str×U))(k:Str)(v:U):List (Str×U):=
 if(b.any λa=>decide (a.1=k))=true then b.map (λa=>if a.1=k then(a.1,v)else a)else b++[(k,v)]
def Iv(y:U)(g:G):Option (List (Str×U)):=match y with
 |.ref n=>match g[n]? with
  |some (.dst Z4)=>some Z4
  |_=>none
 |_=>none
noncomputable def YB(y:U)(g:G):Option (List (List Int×U)):=match y with
 |.ref n=>match g[n]? with
  |some (.ZG Z4)=>some Z4
  |some (.Zs Z4)=>some Z4
  |_=>none
 |_=>none
def AS(x y:U)(g:G):Option (Option U):=match YB y g with
 |some Z4=>(keyOf x).map (AW Z4)
 |none=>none
def A8(x y:U)(g:G):Option (List U×List U):=match x with
 |.ref n=>match y with
  |.ref m=>match g[n]? with
   |some (.M xs)=>match g[m]? with
    |some (.M ys)=>some (xs,ys)
    |_=>none
   |_=>none
  |_=>none
 |_=>none
def Iw(q:U->U->Option Bool):List U->List U->Option Bool
 |[],[]=>some true
 |x::xs,y::ys=>match q x y with
  |none=>none
  |some b=>match Iw q xs ys with
   |none=>none
   |some c=>some (b&&c)
 |_,_=>none
def BC:U->U->Option Bool
 |.ZX xs,.ZX ys=>Iw Io xs ys
 |x,y=>Ak x y
def Iy(xs a:List U):Option Bool:=if xs.length=a.length then Iw BC xs a else some false
def neT(x y:U):Option Bool:=match x with
 |.ZX xs=>match y with
  |.ZX ys=>(Iw Io xs ys).map (!·)
  |_=>none
 |_=>none
def Iz(k:List Int):Int:=reduceHash (Builtin.Tuple.tupleHashOf (k.map hashInt))
def A0:Int:=4238894112
def inD(x y:U)(g:G):Option Bool:=match x with
 |.ZL=>(YB y g).bind λZ4=>open Classical in if∀k∈Z4.map (·.1),Iz k≠A0 then some false else none
 |x=>(AS x y g).map Option.isSome
def IA(op:Cp)(x y:U)(g:G):Option Bool:=match op with
 |.eq=>match A8 x y g with
  |some p=>Iy p.1 p.2
  |none=>Io x y
 |.ne=>if Cw x y then(Ak x y).map (!·)else neT x y
 |.lt=>match x,y with|.int i,.int j=>some (decide (i<j))|_,_=>none
 |.le=>match x,y with|.int i,.int j=>some (decide (i<=j))|_,_=>none
 |.gt=>match x,y with|.int i,.int j=>some (decide (j<i))|_,_=>none
 |.ge=>match x,y with|.int i,.int j=>some (decide (j<=i))|_,_=>none
 |.V6=>if Au y then some (Au x)else none
 |.Vv=>if Au y then some (!Au x)else none
 |.W8=>match items y g with|some ys=>Iu x ys|none=>inD x y g
 |.V5=>match items y g with|some ys=>(Iu x ys).map (!·)|none=>(AS x y g).map λo=>!o.isSome
def IB(u:U)(g:G):Option Bool:=match u with
 |.ZL=>some false
 |.bl b=>some b
 |.int i=>some (i != 0)
 |.ZX xs=>some (!xs.isEmpty)
 |.Zv xs=>some (!xs.isEmpty)
 |.ref n=>match g[n]? with
  |some (.M xs)=>some (!xs.isEmpty)
  |_=>none
 |_=>none
def IC(xs:List U)(i:Int):Option U:=L2.atI xs i
noncomputable def lift{b:Type}(o:Option b)(g:G):Out b:=match o with
 |some a=>.ok a g
 |none=>.ZU
noncomputable def alloc(o:Z9)(g:G):Out U:=.ok (.ref g.length) (g++[o])
def Ac:Nat:=16777000
def Bl(op:Op)(x y:U)(g:G):Out U:=match A8 x y g with
 |some p=>match op with
  |.add=>if p.1.length+p.2.length<=Ac then alloc (.M (p.1++p.2)) g else .ZU
  |_=>.ZU
 |none=>lift (Iq op x y) g
def AL(x:U)(g:G):Option (Nat×List (Nat×U)):=match x with
 |.ref n=>match g[n]? with
  |some (.ins c fs)=>some (c,fs)
  |_=>none
 |_=>none
def Cg(j:Nat)(u:U):List (Nat×U)->List (Nat×U)
 |[]=>[(j,u)]
 |(i,x)::r=>if i=j then(i,u)::r else(i,x)::Cg j u r
def BN(j:Nat)(a:List Nat)(p:Nat×List (Nat×U)):Option U:=if a.contains p.1 then p.2.lookup j else none
def Bh(x:U)(j:Nat)(a:List Nat)(u:U)(g:G):Option G:=match x with
 |.ref n=>match g[n]? with
  |some (.ins c fs)=>if a.contains c/\fs.length<1000 then some (g.set n (.ins c (Cg j u fs)))else none
  |_=>none
 |_=>none
def Bz(j:Nat)(a:List (Nat×Nat×List (Nat ⊕ U)))(p:Nat×List (Nat×U)):Option (Nat×List (Nat ⊕ U)):=match p.2.lookup j with
 |none=>a.lookup p.1
 |some _=>none
def Cu(t:Ty):Option Bool:=match t with|.UW=>some true|_=>some false
def AD(t:Ty)(u:U)(g:G):Option Bool:=match u with
 |.ZL=>some false
 |.bl _=>match t with|.Vt=>some true|.Vs=>some true|.own _=>none|_=>some false
 |.int _=>match t with|.Vt=>some true|.own _=>none|_=>some false
 |.str _=>match t with|.UY=>some true|.own _=>none|_=>some false
 |.ZX _=>match t with|.UX=>some true|.own _=>none|_=>some false
 |.ref n=>match g[n]? with
  |some (.M _)=>Cu t
  |some (.ins c _)=>match t with|.own c'=>if c=c' then some true else none|_=>none
  |_=>none
 |_=>none
def A4(xs:List U)(lo hi:Option Int):List U:=(xs.drop (HT.sIx xs.length 0 lo)).take (HT.sIx xs.length xs.length hi-HT.sIx xs.length 0 lo)
def best(m:Bool)(a:Int)(r:List Int):Int:=r.foldl (λx y=>if m then(if y<x then y else x)else(if y > x then y else x)) a
def insI(a:Int):List Int->List Int
 |[]=>[a]
 |b::r=>if a<=b then a::b::r else b::insI a r
def sortI:List Int->List Int
 |[]=>[]
 |a::r=>insI a (sortI r)
def C6(S:List U)(g:G):Out U:=match S with
 |[u]=>match items u g with
  |some xs=>.ok (.int xs.length) g
  |none=>.ZU
 |_=>.ZU
def DO(S:List U)(g:G):Out U:=match S with
 |[u]=>match u with
  |.int i=>.ok (.int (if i<0 then -i else i)) g
  |_=>.ZU
 |_=>.ZU
def tupI(k:List Int):U:=.ZX (k.map .int)
def BK(S:List U)(g:G):Out U:=match S with
 |[u]=>match items u g with
  |some xs=>alloc (.M xs) g
  |none=>match YB u g with
   |some Z4=>alloc (.M (Z4.map λa=>tupI a.1)) g
   |none=>.ZU
 |_=>.ZU
def Bn(S:List U)(g:G):Option (List Int):=match S with
 |[.ref n]=>match g[n]? with
  |some (.M xs)=>intsOf xs
  |_=>none
 |_=>none
def ID(m:Bool)(S:List U)(g:G):Out U:=match intsOf S with
 |some ns=>match ns with
  |[a,b]=>.ok (.int (best m a [b])) g
  |[a,b,c]=>.ok (.int (best m a [b,c])) g
  |_=>.ZU
 |none=>match Bn S g with
  |some ns=>match ns with
   |a::r=>.ok (.int (best m a r)) g
   |[]=>.ZU
  |none=>.ZU
def Gg(S:List U)(g:G):Out U:=match Bn S g with
 |some ns=>.ok (.int ns.sum) g
 |none=>.ZU
def DR(S:List U)(g:G):Out U:=match S with
 |[u]=>match u with
  |.ZX xs=>.ok (.ZX xs) g
  |.xn c xs=>.ok (.xn c xs) g
  |.ref n=>match g[n]? with
   |some (.M xs)=>.ok (.ZX xs) g
   |_=>.ZU
  |_=>.ZU
 |_=>.ZU
def FE(g:G):List U->Option (List U)
 |[]=>some []
 |.ref n::r=>match g[n]? with
  |some (.M xs)=>(FE g r).map (xs ++ ·)
  |_=>none
 |_::_=>none
def Gw(S:List U)(g:G):Out U:=match S with
 |[.ref n,.ref m]=>match g[n]? with
  |some (.M (x::xs))=>match g[m]? with
   |some (.M [])=>match FE g (x::xs)with
    |some zs=>if zs.length<=Ac then alloc (.M zs) g else .ZU
    |none=>.ZU
   |_=>.ZU
  |_=>.ZU
 |_=>.ZU
def A9:List U->Option (List (List Int))
 |[]=>some []
 |u::r=>match keyOf u with
  |none=>none
  |some k=>match A9 r with
   |none=>none
   |some ks=>some (k::ks)
def AU(a:List Int):List (List Int)->List (List Int)
 |[]=>[a]
 |b::r=>if a=b then b::r else if Ah a b=true then a::b::r else b::AU a r
def IE:List (List Int)->List (List Int)
 |[]=>[]
 |a::r=>AU a (IE r)
def IF(ks:List (List Int)):Prop:=ks.length<=300/\(∀k∈ks,k≠[]) /\∀a∈ks,∀b∈ks,Iz a=Iz b->a=b
def BW(S:List U)(g:G):Out U:=match A9 S with
 |some ks=>open Classical in if IF ks then alloc (.M ((IE ks).map tupI)) g else .ZU
 |none=>.ZU
def CP(S:List U)(g:G):Out U:=match S with
 |[u]=>match u with
  |.ref n=>match g[n]? with
   |some (.M xs)=>BW xs g
   |_=>.ZU
  |.ZX xs=>BW xs g
  |.xn _ xs=>BW xs g
  |_=>.ZU
 |_=>.ZU
def DH(S:List U)(g:G):Out U:=match S with
 |[u]=>match YB u g with
  |some Z4=>open Classical in if Z4.length<100000/\(Z4.map (·.1)).Nodup /\∀k∈Z4.map (·.1),k≠[]then alloc (.M ((IE (Z4.map (·.1))).map tupI)) g else .ZU
  |none=>.ZU
 |_=>.ZU
def C1(S:List U)(g:G):Out U:=match Bn S g with
 |some ns=>if ns.length<64 then alloc (.M ((sortI ns).map U.int)) g else .ZU
 |none=>DH S g
def Gh(S:List U)(g:G):Out U:=match S with
 |[u]=>match YB u g with
  |some Z4=>open Classical in if Z4≠[] /\∀a∈Z4.map (·.1),∀b∈Z4.map (·.1),Iz a=Iz b->a=b then alloc (.ZG Z4) g else .ZU
  |none=>.ZU
 |_=>.ZU
def DT(u:U)(g:G):Option (List (List Int)):=match u with
 |.ref n=>match g[n]? with
  |some (.M S)=>A9 S
  |_=>none
 |_=>none
def Be(d:List (List Int)):PySem.PyData:=.list (d.map λr=>.tuple (r.map .int))
def BX(u:U)(g:G):Option PySem.PyData:=
 (DT u g).map Be
def C5(S:List U)(g:G):Out U:=match S with
 |[u]=>match BX u g with
  |some d=>open Classical in if d.showable=true/\d.shown.length<=PySem.sizeLine then .ok (.str d.shown) g else .ZU
  |none=>.ZU
 |_=>.ZU
def FK(S:List U)(g:G):Out U:=match S with
 |[u]=>match u with
  |.bl b=>.ok (.int (if b then 1 else 0)) g
  |_=>.ZU
 |_=>.ZU
def IG(b:Bi)(S:List U)(g:G):Out U:=match b with
 |.len=>C6 S g
 |.abs=>DO S g
 |.list=>BK S g
 |.mn=>ID true S g
 |.mx=>ID false S g
 |.Vu=>C1 S g
 |.sum=>Gg S g
 |.TV=>DR S g
 |.cat=>Gw S g
 |.sset=>CP S g
 |.dct=>Gh S g
 |.UZ=>C5 S g
 |.int=>FK S g
def IH(x:U)(g:G):Option Nat:=match x with
 |.ref n=>match g[n]? with
  |some (.M _)=>some n
  |_=>none
 |_=>none
def AH(n:Nat)(y:U)(g:G):Out U:=match g[n]? with
 |some (.M xs)=>if xs.length<Ac then .ok .ZL (g.set n (.M (xs++[y])))else .ZU
 |_=>.ZU
def Bs(n:Nat)(y:U)(g:G):Out U:=match IH y g with
 |some m=>match g[n]?,g[m]? with
  |some (.M xs),some (.M ys)=>if xs.length+ys.length<Ac then .ok .ZL (g.set n (.M (xs++ys)))else .ZU
  |_,_=>.ZU
 |none=>.ZU
def Fx(c:Bool)(n:Nat)(g:G):Out U:=match g[n]? with
 |some (.M xs)=>.ok .ZL (g.set n (.M (match c with|true=>[]|false=>xs.reverse)))
 |_=>.ZU
def Bb(n:Nat)(g:G):Out U:=match g[n]? with
 |some (.M xs)=>match xs[xs.length-1]? with
  |some y=>.ok y (g.set n (.M xs.dropLast))
  |none=>.ZU
 |_=>.ZU
def BM(n:Nat)(y:U)(g:G):Out U:=match y with
 |.int i=>match g[n]? with
  |some (.M xs)=>if 0<=i/\i<9223372036854775808 then match xs[i.toNat]? with
   |some u=>.ok u (g.set n (.M (xs.eraseIdx i.toNat)))
   |none=>.ZU
   else .ZU
  |_=>.ZU
 |_=>.ZU
def II(f:E->Su->G->Out U):List E->Su->G->Out (List U)
 |[],_,g=>.ok [] g
 |e::es,Y,g=>(f e Y g).bind λu g=>(II f es Y g).bind λS g=>.ok (u::S) g
def IJ(f:E->Su->G->Out U):Option E->Su->G->Out (Option Int)
 |none,_,g=>.ok none g
 |some e,Y,g=>(f e Y g).bind λu g=>match u with
  |.int i=>.ok (some i) g
  |_=>.ZU
def next(it:Iter)(i:Nat)(g:G):Option (Option U):=match it with
 |.M id=>match g[id]? with
  |some (.M xs)=>some xs[i]?
  |_=>none
 |.ZG id=>match g[id]? with
  |some (.Zs Z4)=>some ((Z4[i]?).map λa=>.ZX (a.1.map .int))
  |_=>none
 |.seq xs=>some xs[i]?
 |.YM lo n=>some (if i<n then some (.int (lo+i))else none)
def bindL:List Nat->List U->Su->Option Su
 |[],[],Y=>some Y
 |i::is,u::S,Y=>if i<Y.length then bindL is S (Y.set i (some u))else none
 |_,_,_=>none
def AK(t:Tg)(Y:Su):Bool:=match t with
 |.nm i=>match Y[i]? with|some none=>true|_=>false
 |.tp is=>is.all λi=>match Y[i]? with|some none=>true|_=>false
def Ae(t:Tg)(u:U)(Y:Su):Option Su:=match t with
 |.nm i=>if i<Y.length then some (Y.set i (some u))else none
 |.tp is=>match u with
  |.ZX S=>bindL is S Y
  |_=>none
def IK(t:Tg)(u:U)(g:G):U:=match t with
 |.nm _=>u
 |.tp _=>match u with
  |.ref n=>match g[n]? with
   |some (.M xs)=>.ZX xs
   |_=>u
  |_=>u
def pick(S:List U)(p:Nat ⊕ U):U:=match p with
 |.inl i=>S[i]?.getD .ZL
 |.inr u=>u
def perm(S:List U)(a:List (Nat ⊕ U)):List U:=a.map (pick S)
set_option genInjectivity false in
structure Z7 where
 ev:E->Su->G->Out U
 ts:E->Su->G->Out Bool
 ex:List Z6->Su->G->Out Fl
 wh:E->List Z6->Su->G->Out Fl
 fr:Tg->Iter->Nat->List Z6->Su->G->Out Fl
 cm:Iter->Nat->Tg->List E->List (Tg×E×List E)->E->List U->Su->G->Out (List U)
def IL(r:Z7)(e:E)(Y:Su)(g:G):Out Iter:=match e with
 |.Ym a=>(r.ev a Y g).bind λu g=>match u with
  |.int j=>if -1000000<j/\j<1000000 then .ok (.YM 0 j.toNat) g else .ZU
  |_=>.ZU
 |.Vr a b=>(r.ev a Y g).bind λu g=>(r.ev b Y g).bind λw g=>match u,w with
  |.int i,.int j=>if -1000000<i/\i<1000000 /\ -1000000<j/\j<1000000 then .ok (.YM i (j-i).toNat) g else .ZU
  |_,_=>.ZU
 |e=>(r.ev e Y g).bind λu g=>match u with
  |.ZX xs=>.ok (.seq xs) g
  |.xn _ xs=>.ok (.seq xs) g
  |.ref n=>match g[n]? with
   |some (.M _)=>.ok (.M n) g
   |some (.ZG Z4)=>.ok (.ZG n) (g.set n (.Zs Z4))
   |some (.Zs _)=>.ok (.ZG n) g
   |_=>.ZU
  |_=>.ZU
def IM(C:Nat->List U->G->Out U)(r:Z7)(e:E)(Y:Su)(g:G):Out U:=match e with
 |.L i=>match Y[i]? with
  |some (some u)=>.ok u g
  |_=>.ZU
 |.ZZ u=>.ok u g
 |.ZT op a b=>(r.ev a Y g).bind λx g=>(r.ev b Y g).bind λy g=>Bl op x y g
 |.cmp op a b=>(r.ev a Y g).bind λx g=>(r.ev b Y g).bind λy g=>match IA op x y g with
  |some c=>.ok (.bl c) g
  |none=>.ZU
 |.chain op d a b c=>(r.ev a Y g).bind λx g=>(r.ev b Y g).bind λy g=>match IA op x y g with
  |some true=>(r.ev c Y g).bind λz g=>match IA d y z g with
   |some c=>.ok (.bl c) g
   |none=>.ZU
  |some false=>.ok (.bl false) g
  |none=>.ZU
 |.and a b=>(r.ev a Y g).bind λx g=>match x with
  |.bl true=>r.ev b Y g
  |.bl false=>.ok (.bl false) g
  |_=>.ZU
 |.or a b=>(r.ev a Y g).bind λx g=>match x with
  |.bl true=>.ok (.bl true) g
  |.bl false=>r.ev b Y g
  |_=>.ZU
 |.not a=>(r.ev a Y g).bind λx g=>match IB x g with
  |some c=>.ok (.bl (!c)) g
  |none=>.ZU
 |.neg a=>(r.ev a Y g).bind λx g=>match x with
  |.int i=>.ok (.int (-i)) g
  |_=>.ZU
 |.ite c a b=>(r.ts c Y g).bind λk g=>if k then r.ev a Y g else r.ev b Y g
 |.ZX es=>(II r.ev es Y g).bind λS g=>if S.length<=Ac then .ok (.ZX S) g else .ZU
 |.M es=>(II r.ev es Y g).bind λS g=>if S.length<=Ac then alloc (.M S) g else .ZU
 |.idx a b=>(r.ev a Y g).bind λx g=>(r.ev b Y g).bind λy g=>match y with
  |.int i=>match items x g with
   |some xs=>lift (IC xs i) g
   |none=>.ZU
  |.ZX _=>lift ((AS y x g).bind id) g
  |.str k=>lift ((Iv x g).bind λZ4=>BV Z4 k) g
  |_=>.ZU
 |.XR a lo hi=>(r.ev a Y g).bind λx g=>(IJ r.ev lo Y g).bind λl g=>(IJ r.ev hi Y g).bind λh g=>match x with
  |.ZX xs=>if HT.sIx xs.length 0 l=0/\HT.sIx xs.length xs.length h=xs.length then .ZU else .ok (.ZX (A4 xs l h)) g
  |.Zv xs=>alloc (.M (A4 xs l h)) g
  |.ref n=>match g[n]? with
   |some (.M xs)=>alloc (.M (A4 xs l h)) g
   |_=>.ZU
  |_=>.ZU
 |.rev a=>(r.ev a Y g).bind λx g=>match x with
  |.ref n=>match g[n]? with
   |some (.M xs)=>alloc (.M xs.reverse) g
   |_=>.ZU
  |_=>.ZU
 |.call f es=>(II r.ev es Y g).Yi.bind λS g=>C f S g
 |.fld a j cs=>(r.ev a Y g).bind λx g=>lift ((AL x g).bind (BN j cs)) g
 |.make c f es ks pm=>(II r.ev es Y g).Yi.bind λS g=>(II r.ev ks Y g).Yi.bind λws g=>if S.length=es.length/\ws.length=ks.length then
   (C f (perm (.ref g.length::S++ws) pm) (g++[.ins c []])).bind λu g'=>if Au u then .ok (.ref g.length) g' else .ZU else .ZU
 |.Yw a j tb es ks=>(r.ev a Y g).Yi.bind λx g=>match(AL x g).bind (Bz j tb)with
  |some p=>(II r.ev es Y g).Yi.bind λS g=>(II r.ev ks Y g).Yi.bind λws g=>if S.length=es.length/\ws.length=ks.length then C p.1 (perm (x::S++ws) p.2) g else .ZU
  |none=>.ZU
 |.bi b es=>(II r.ev es Y g).bind λS g=>IG b S g
 |.Yv a t=>(r.ev a Y g).bind λx g=>match AD t x g with
  |some c=>.ok (.bl c) g
  |none=>.ZU
 |.V4 o v=>(r.ev o Y g).bind λx g=>match IH x g with
  |some n=>(r.ev v Y g).bind λy g=>BM n y g
  |none=>.ZU
 |.app o v=>(r.ev o Y g).bind λx g=>match IH x g with
  |some n=>(r.ev v Y g).bind λy g=>AH n y g
  |none=>.ZU
 |.ext o v=>(r.ev o Y g).bind λx g=>match IH x g with
  |some n=>(r.ev v Y g).bind λy g=>Bs n y g
  |none=>.ZU
 |.pop o=>(r.ev o Y g).bind λx g=>match IH x g with
  |some n=>Bb n g
  |none=>.ZU
 |.Ym _=>.ZU
 |.Vr _ _=>.ZU
 |.Wp=>alloc (.ZG []) g
 |.comp own fr gs elt=>match gs with
  |[]=>.ZU
  |(t,it,cs)::ZQ=>(IL r it Y g).bind λi g=>
    (r.cm i 0 t cs ZQ elt [] (List.replicate own none++fr.map λj=>(Y[j]?).getD none) g).bindB λS g=>
     if S.length<=Ac then alloc (.M S) g else .ZU
 |.pair k v=>(r.ev k Y g).bind λx g=>(r.ev v Y g).bind λy g=>match keyOf x with
  |some _=>.ok (.ZX [x,y]) g
  |none=>.ZU
 |.Wo own fr gs k v=>match gs with
  |[]=>.ZU
  |(t,it,cs)::ZQ=>(IL r it Y g).bind λi g=>
    (r.cm i 0 t cs ZQ (.pair k v) [] (List.replicate own none++fr.map λj=>(Y[j]?).getD none) g).bindB λS g=>match dfold S []with
     |some Z4=>alloc (.ZG Z4) g
     |none=>.ZU
def IP(r:Z7)(e:E)(Y:Su)(g:G):Out Bool:=match e with
 |.and a b=>(r.ts a Y g).bind λc g=>if c then r.ts b Y g else .ok false g
 |.or a b=>(r.ts a Y g).bind λc g=>if c then .ok true g else r.ts b Y g
 |.not a=>(r.ts a Y g).bind λc g=>.ok (!c) g
 |.ite c a b=>(r.ts c Y g).bind λk g=>if k then r.ts a Y g else r.ts b Y g
 |e=>(r.ev e Y g).bind λx g=>lift (IB x g) g
def Ea(n:Nat)(k:Int)(u:U)(Y:Su)(g:G):Out Fl:=match g[n]? with
 |some (.M xs)=>match L2.ixN xs.length k with
  |some j=>.ok (.nx Y) (g.set n (.M (xs.set j u)))
  |none=>.ZU
 |_=>.ZU
def Er(n:Nat)(S:List U)(u:U)(Y:Su)(g:G):Out Fl:=match g[n]? with
 |some (.ZG Z4)=>match intsOf S with
  |some k=>if Z4.length<Ac then .ok (.nx Y) (g.set n (.ZG (dput Z4 k u)))else .ZU
  |none=>.ZU
 |_=>.ZU
def IQ(n:Nat)(k:Str)(u:U)(Y:Su)(g:G):Out Fl:=match g[n]? with
 |some (.dst Z4)=>if Z4.length<Ac then .ok (.nx Y) (g.set n (.dst (DW Z4 k u)))else .ZU
 |_=>.ZU
def subAt(x y u:U)(Y:Su)(g:G):Out Fl:=match x with
 |.ref n=>match y with
  |.int k=>Ea n k u Y g
  |.ZX S=>Er n S u Y g
  |.str k=>IQ n k u Y g
  |_=>.ZU
 |_=>.ZU
def IS(r:Z7)(s:Z6)(Y:Su)(g:G):Out Fl:=match s with
 |.ret e=>(r.ev e Y g).bind λu g=>.ok (.rt u) g
 |.set t e=>(r.ev e Y g).bind λu g=>match Ae t (IK t u g) Y with
   |some ZR=>.ok (.nx ZR) g
   |none=>.ZU
 |.par i j a b=>(r.ev a Y g).bind λu g=>(r.ev b Y g).bind λw g=>
    if i<Y.length/\j<Y.length then .ok (.nx ((Y.set i (some u)).set j (some w))) g else .ZU
 |.sub o i e=>(r.ev e Y g).bind λu g=>(r.ev o Y g).bind λx g=>(r.ev i Y g).bind λy g=>subAt x y u Y g
 |.exp e=>(r.ev e Y g).bind λ_ g=>.ok (.nx Y) g
 |.Zx c a b=>(r.ts c Y g).bind λk g=>if k then r.ex a Y g else r.ex b Y g
 |.V3 c b=>r.wh c b Y g
 |.for t it b=>(IL r it Y g).bind λi g=>r.fr t i 0 b Y g
 |.never=>.ZU
 |.fset a j cs e=>(r.ev e Y g).bind λu g=>(r.ev a Y g).bind λx g=>match Bh x j cs u g with
  |some g'=>.ok (.nx Y) g'
  |none=>.ZU
def IT(r:Z7)(a:List Z6)(Y:Su)(g:G):Out Fl:=match a with
 |[]=>.ok (.nx Y) g
 |s::ZQ=>(IS r s Y g).bind λf g=>match f with
  |.nx ZR=>r.ex ZQ ZR g
  |f=>.ok f g
def IU(r:Z7)(c:E)(b:List Z6)(Y:Su)(g:G):Out Fl:=
 (r.ts c Y g).bind λk g=>if k then(r.ex b Y g).bind λf g=>match f with
  |.nx ZR=>r.wh c b ZR g
  |.ct ZR=>r.wh c b ZR g
  |.bk ZR=>.ok (.nx ZR) g
  |.rt u=>.ok (.rt u) g
 else .ok (.nx Y) g
def IV(r:Z7)(t:Tg)(it:Iter)(i:Nat)(b:List Z6)(Y:Su)(g:G):Out Fl:=match next it i g with
 |none=>.ZU
 |some none=>.ok (.nx Y) g
 |some (some u)=>match Ae t u Y with
  |none=>.ZU
  |some a=>(r.ex b a g).bind λf g=>match f with
   |.nx ZR=>r.fr t it (i+1) b ZR g
   |.ct ZR=>r.fr t it (i+1) b ZR g
   |.bk ZR=>.ok (.nx ZR) g
   |.rt u=>.ok (.rt u) g
def Aw(f:E->Su->G->Out Bool):List E->Su->G->Out Bool
 |[],_,g=>.ok true g
 |c::cs,Y,g=>(f c Y g).bind λk g=>if k then Aw f cs Y g else .ok false g
def IW(r:Z7)(it:Iter)(i:Nat)(t:Tg)(c:List E)(d:List (Tg×E×List E))(a:E)(b:List U)(Y:Su)(g:G):Out (List U):=match next it i g with
 |none=>.ZU
 |some none=>.ok b g
 |some (some u)=>if AK t Y then match Ae t u Y with
  |none=>.ZU
  |some e=>(Aw r.ts c e g).bindB λk g=>if k then
    match d with
    |[]=>(r.ev a e g).bindB λv g=>if b.length<Ac then r.cm it (i+1) t c d a (b++[v]) Y g else .ZU
    |(f,X7,l)::m=>(IL r X7 e g).bindB λj g=>(r.cm j 0 f l m a b e g).bindB λh g=>r.cm it (i+1) t c d a h Y g
   else r.cm it (i+1) t c d a b Y g
  else .ZU
def IX(C:Nat->List U->G->Out U):Nat->Z7
 |0=>⟨λ_ _ _=>.ZU,λ_ _ _=>.ZU,λ_ _ _=>.ZU,λ_ _ _ _=>.ZU,λ_ _ _ _ _ _=>.ZU,λ_ _ _ _ _ _ _ _ _=>.ZU⟩
 |n+1=>let r:=IX C n
  ⟨IM C r,IP r,IT r,IU r,IV r,IW r⟩
def BG(fu:Nat)(C:Nat->List U->G->Out U)(F:Fn)(S:List U)(g:G):Out U:=
 if S.length=F.np then
  ((IX C fu).ex F.body (S.map some++List.replicate (F.ns-S.length) none) g).bind λf g=>match f with
   |.rt u=>.ok u g
   |.nx _=>.ok .ZL g
   |_=>.ZU
 else .ZU
def Aa(J:List Fn)(fu:Nat):Nat->Nat->List U->G->Out U
 |0=>λ_ _ _=>.ZU
 |d+1=>λf S g=>match J[f]? with
  |some F=>BG fu (Aa J fu d) F S g
  |none=>.ZU
end
end
end PI
variable{g g':PI.G}{Q:PI.U->PI.G->Prop}{r:PI.Z7}{C:Nat->List PI.U->PI.G->PI.Out PI.U}{B:PI.Fl->Prop}{Z:PI.Z3}
namespace L2
open PySem PySem.Spec PyProof.Rows
section
variable{E:Value->Shared->Prop}
def mv{d:Addr}{o:Obj}{f:Array DictEntry}{Q:Value->Shared->Prop}(j:(d==sysModules)=false)(a:s.heap.get? d=some o)(g:o.ExactDict)(c:o.data=.dict f ep)
  (h:Q (.ref s.heap.objs.size) {s with heap:=s.heap.push {cls:=.type "dict_keyiterator",data:=.fields #[.ref d,.int 0 0,.int f.size 0,.int ep 0]}}):wpAny (model prog w) A (pyIter (.ref d)) Q E s:=by
 have t:s.TypeIs (.ref d) "dict":=⟨o,a,g.1⟩;refine PU t F.slot_dict_iter (UA F.slot_dict_iter t F.entry_dict_iter ?_ (F.args_dict_iter_1 _));unfold Builtin.«dict.__iter__»;refine ZB ?_;unfold Builtin.Dict.dictSlotNone;refine ZB (wpAny_notOrdered_dict t ?_);show wpAny _ _ (pure (Value.ref d)) _ _ s;refine ZP ?_;show wpAny _ _ (Builtin.Dict.showsAll d >>= _) _ _ s;unfold Builtin.Dict.showsAll;rw[j,Yj GA];refine ZB (ZP (ZB (QV a c (ZB (Om a c ?_)))));exact ZB (VS (ZP ⟨_,rfl,"dict_keyiterator",_,⟨_,GG _ rfl,rfl⟩,F.slot_dict_keyiterator_next.lookup,by simpa[rawInt]using h⟩))
def lT{it d:Addr}{g:Obj}{c:Array DictEntry}{e:DictEntry}{Q:Option Value->Shared->Prop}(a:s.heap.IsKeyIter it d i c.size ep)(k:s.heap.get? d=some g)(r:g.data=.dict c ep)(j:c[i]?=some e)
  (h:∀h',h'.IsKeyIter it d (i+1) c.size ep->Heap.SameBut it s.heap h'->Q (some e.key) {s with heap:=h'}):wpAny (model prog w) A (pyNext (.ref it)) Q E s:=by
 let⟨o,ho,t,f⟩:=id a;let⟨u,y⟩:=Uo.mp j;unfold pyNext;refine ZB (Q8 (Rb (name:=Str.ofString "__next__") a.typeIs Rc (UA Rc a.typeIs Pc ?_ (Q6 _))));refine ZB (ZP ?_);refine ZB ?_;refine ZB ?_
 (first|refine ZB (Ra a.typeIs (ZP ?_))|refine ZB (Rz a.typeIs (ZP ?_)))
 refine ZB (Px ho f ?_);rw[show Builtin.Dict_items.ownsTuple "dict_keyiterator" = false from by decide];rw[Yj GA]
 show wpAny _ _ (if(Value.ref d==Value.none)=true then _ else _) _ _ s;rw[Yj (show ¬ ((Value.ref d==Value.none)=true)from GA)]
 refine ZB (ZP (ZB (QV k r ?_)));rw[Yj #[3]];refine ZB (ZP (ZB (Om k r ?_)));rw[Yj #[3]];refine ZP ?_
 dsimp only;rw[Yj (show ¬ ((i:Int)<0)from by lia),QR,j];refine ZB ?_
 (first|refine ZB (Ra a.typeIs (ZP ?_))|refine ZB (Rz a.typeIs (ZP ?_)))
 refine ZB (wpAny_isOneOf_keyiter a.typeIs ?_);show wpAny _ _ (setField (.ref it) 1 (rawInt ((i:Int)+1)) >>= _) _ _ s;refine ZB (QS ho f #[3] ?_)
 have n:(s.heap.update it (Obj.mapFields (·.setIfInBounds 1 (rawInt ((i:Int)+1))))).IsKeyIter it d (i+1) c.size ep:=⟨_,Rn _ ho (QY (TX f _)),(PV ..).trans t,by rw[TX f];simp[rawInt]⟩
 refine ZB (VO (ZB (wpAny_isOneOf_keyiter (s:={s with heap:=s.heap.update it (Obj.mapFields (·.setIfInBounds 1 (rawInt ((i:Int)+1))))}) n.typeIs ?_)));show wpAny _ _ (pure e.key) _ _ _
 exact ZP (ZP ⟨_,rfl,ZP (h _ n (Sz ..))⟩)
def lS{it d:Addr}{g:Obj}{f:Array DictEntry}{Q:Option Value->Shared->Prop}(u:A.handled=none)(c:s.heap.IsKeyIter it d i f.size ep)(k:s.heap.get? d=some g)(r:g.data=.dict f ep)(t:f[i]?=none)
  (h:∀h',Heap.ExtBut it s.heap h'->Q none {s with heap:=h'}):wpAny (model prog w) A (pyNext (.ref it)) Q E s:=by
 let⟨o,ho,y,j⟩:=id c;unfold pyNext;refine ZB (Q8 (Rb (name:=Str.ofString "__next__") c.typeIs Rc (UA Rc c.typeIs Pc ?_ (Q6 _))));refine ZB (ZP ?_);refine ZB ?_;refine ZB ?_
 (first|refine ZB (Ra c.typeIs (ZP ?_))|refine ZB (Rz c.typeIs (ZP ?_)))
 refine ZB (Px ho j ?_);rw[show Builtin.Dict_items.ownsTuple "dict_keyiterator" = false from by decide];rw[Yj GA]
 show wpAny _ _ (if(Value.ref d==Value.none)=true then _ else _) _ _ s;rw[Yj (show ¬ ((Value.ref d==Value.none)=true)from GA)]
 refine ZB (ZP (ZB (QV k r ?_)));rw[Yj #[3]];refine ZB (ZP (ZB (Om k r ?_)));rw[Yj #[3]];refine ZP ?_
 dsimp only;rw[Yj (show ¬ ((i:Int)<0)from by lia),QR,t];refine ZB ?_
 (first|refine ZB (Ra c.typeIs (ZP ?_))|refine ZB (Rz c.typeIs (ZP ?_)))
 show wpAny _ _ (setField (.ref it) 0 .none >>= _) _ _ s;refine ZB (QS ho j #[3] ?_);show wpAny _ _ (newExc (.type "StopIteration") [] >>= _) _ _ _
 refine ZB ?_;delta newExc newTuple;try dsimp only;refine ZB (VS ?_ (by size_fits))
 refine ZB (m:=firstArgMember _ _) (Ou (a:=Value.none) (by first|rfl|(simp![firstArgMember];rfl)) (VS ?_ (by size_fits)));delta raiseNew;try dsimp only
 refine ZB (wpAny_handled ?_);rw[show A.in1.handled=none from u];refine ZB (ZP (wpAny_throw ?_));exact ZB (P6 (T:="StopIteration") (b:=true) ⟨_,GG _ rfl,rfl⟩ isSubtype_stop (ZP (h _ (((Sz ..).extBut.push _).push _))))
end
def Itd(a:Addr)(o:Obj)(c:List (List Key×V)):It:=
 ⟨λi H=>H a=some (.Zt o (.dT c))/\i<c.length,λi H x H'=>H'=H /\∃b k v,x=.ref b/\c[i]?=some (k,v)/\H b=some (.ZX (k.map Hl)),λi H=>H a=some (.Zt o (.dT c))/\c.length<=i⟩
def dtAt(z:ObjOk P w H h a (.dT Z4)):Z4.length<=sizeLine/\(a==sysModules)=false /\∃o es ep,h.get? a=some o/\o.ExactDict/\o.data=.dict es ep/\es.size=Z4.length /\
  ∀(i:Nat) (k:List Key) (v:V),Z4[i]?=some (k,v) ->∃(b:Addr) (e:DictEntry),es[i]?=some e/\e.key=.ref b/\H b=some (.ZX (k.map Hl)):=by
 let⟨d,hs,xs,c,o,es,ep,ho,m,s,f,_⟩:=z;have r:es.size=xs.length:=by rw[<-Xh,f,Zz]
 refine⟨d,hs,o,es,ep,ho,m,s,by rw[r,Qu c],λi k v hk=>?_⟩
 have key:∀{Z4:List (List Key×V)} {xs:List (List Key×Addr×Value)},Paired (λ(p:List Key×V) (q:List Key×Addr×Value)=>p.1=q.1/\H q.2.1=some (.ZX (p.1.map Hl))/\RelV p.2 q.2.2) Z4 xs ->∀(i:Nat) (k:List Key) (v:V),Z4[i]?=some (k,v) ->∃q:List Key×Addr×Value,xs[i]?=some q/\H q.2.1=some (.ZX (k.map Hl)):=by
  intro Z4 xs c
  induction c with
  |nil=>intro i k v z;simp at z
  |cons h1 _ ih=>
   intro i k v z;cases i with
   |zero=>simp at z;subst z;exact⟨_,by simp,h1.2.1⟩
   |succ j=>let⟨q,l,g⟩:=ih j k v (by simpa using z);exact⟨q,by simpa using l,g⟩
 let⟨q,n,t⟩:=key c i k v hk;refine⟨q.2.1,entryOfKey (tupleKind (AF P w)) q,?_,rfl,t⟩;rw[<-WN,f,Wh,n];rfl
def ig{o:Obj}(f:HOk P w H h)(e:H a=some (.Zt o (.dT Z4))):h.get? a=some o/\o.ExactDict/\(a==sysModules)=false /\∃es ep,o.data=.dict es ep/\es.size=Z4.length /\
  ∀(i:Nat) (k:List Key) (v:V),Z4[i]?=some (k,v) ->∃(b:Addr) (c:DictEntry),es[i]?=some c/\c.key=.ref b/\H b=some (.ZX (k.map Hl)):=by
 let⟨ho,z⟩:=f a _ e;let⟨_,hs,o',es,ep,d,r⟩:=dtAt z;rw[ho]at d;cases d;exact⟨ho,r.1,hs,es,ep,r.2⟩
def v5(a it:Addr)(o:Obj)(Q:List (List Key×V)):
  Turn P w K tg (Itd a o Q) [it] it (λi h=>∃es ep,o.data=.dict es ep/\h.IsKeyIter it a i es.size ep) where
 mem:=by simp
 obj:=λi h st b f=>by
  have e:b=it:=by simpa using f
  let⟨_,_,_,q,e1,_,d⟩:=st;subst e;exact⟨q,e1,λv z=>by rw[d]at z;cases z⟩
 keep:=λi h h' ⟨es,ep,hd,st⟩ k=>⟨es,ep,hd,st.at λo e=>k it #[3] o e⟩
 item:=by
  intro X y r A L i O s Y H E I j ⟨es,ep,hd,st⟩ ⟨J,M⟩;subst y r A;let⟨ho,S,_,es',Xo,g,T,hk⟩:=ig I.ZJ J;rw[hd]at g;cases g;obtain⟨⟨k,v⟩,R⟩:∃p,Q[i]?=some p:=⟨_,Y9 M⟩;let⟨b,W,u,t,f⟩:=hk i k v R;let⟨G,F,U,D,C,B⟩:=j it #[3]
  refine lT st ho hd u λh' N sb=>?_;have I1:Z0 X O Y H {s with heap:=h'}:=I.turned (t':=s.toks) (λb o f e=>(sb.2 b f).trans e) G F D C B
  let⟨q,e,c,d⟩:=id N;refine⟨W.key,rfl,eZ (s:={s with heap:=h'}) e c d #[1] ⟨.ref b,H,I1,?_,⟨rfl,b,k,v,rfl,R,f⟩,⟨es,ep,hd,N⟩,λb f=>(j b f).1⟩⟩
  rw[t];rfl
 done:=by
  intro X y r A L i O s Y H E I j ⟨es,ep,hd,st⟩ ⟨J,M⟩;subst y r A;let⟨ho,S,_,es',Xo,g,T,hk⟩:=ig I.ZJ J;rw[hd]at g;cases g;let⟨G,F,U,D,C,B⟩:=j it #[3]
  exact lS (I.ok.hd L) st ho hd (QQ (by lia)) λh' Z=>⟨rfl,I.turned (t':=s.toks) (λb o f e=>Z b o f e) G F D C B⟩
 self:=λ_ _ _ _ _ ⟨_,_,_,st⟩ h=>wpAny_pyIter_keyiter st h
def rIxD:R2:=λx y H Q=>∃a v,x=.ref a/\DGet H a y (some v)/\Q v H
def acj{Y:St}{y:V}{o:Option V}(I:Z0 X O Y H s)(g:DGet H a y o):s.TypeIs (.ref a) "dict":=by
 rcases g with⟨Z4,k,e,q⟩|⟨Z4,k,b,e,q⟩
 .exact let⟨_,_,_,_,dd⟩:=cX I.ZJ e;dd.typeIs
 .exact let⟨_,_,_,_,dd⟩:=cY I.ZJ e;dd.typeIs
def zS(f:X.A.units+1<cLine):IxR X rIxD:=by
 intro value slice O s Y H x y v u Q I d c ⟨a,z,e,g,q⟩ hs;subst e;obtain rfl:v=Value.ref a:=d;have hT:=acj I g;have b:wpAny (model X.prog X.w) X.A (subscripted slice false (.ref a) u) (λr s3=>wpAny (model X.prog X.w) X.A (letTemporaryGo value (.ref a) r >>= λ_=>pure r) (EP X O Y Q) X.xe s3) X.xe s:=by
  rw[hs];exact wpAny_operating (wL f I g c λj s3 i h=>ZB (wpAny_letTemporaryGo (ZP ⟨z,H,i,h,q⟩)))
 unfold subscriptTail;refine ZB ?_;rw[getitemInPython_of_ne hT.not_modules];refine ZB (Qd hT PySem.F.slot_dict_getitem.lookup ?_)
 (first|exact ZP (ZB b)|exact ZB (ZP (ZB b))|exact ZB b)
def Z0.freeze{Y:St}(I:Z0 X O Y H s)(e:H a=some (.dT Z4)):∃o,Z0 X O Y (upd H a (.Zt o (.dT Z4))) s:=by
 let⟨z,hs,xs,d,o,es,ep,ho,f,g,h,nd⟩:=I.ZJ a _ e;refine⟨o,I.write (x:=a) (e:=a) (h':=s.heap) (t':=s.toks) (by rw[e];trivial) (.inl rfl) (λ_ _ _ q=>q) ⟨o,ho⟩ ⟨ho,z,hs,xs,KT.keeps (H:=H) d λc ys b=>?_,o,es,ep,ho,f,g,h,nd⟩⟩
 rw[af (bZ b e (λz=>nomatch z))];exact b
def rP{Y:St}{o:Obj}{R:It->Hp->Prop}{E:Value->Shared->Prop}(I:Z0 X O Y H s)(e:H a=some (.Zt o (.dT Z4)))(q:R (Itd a o Z4) H):
  wpAny (model X.prog X.w) X.A (pyIter (.ref a)) (PIE X O Y tg R) E s:=by
 let⟨ho,d,hs,es,ep,c,g,hk⟩:=ig I.ZJ e;refine mv hs ho d c ⟨s.heap.objs.size,[s.heap.objs.size],_,_,H,rfl,I.kept (t':=s.toks) λb o e=>Gx _ e,v5 a _ o Z4,⟨es,ep,c,_,GG _ rfl,rfl,rfl⟩,λb f=>?_,q⟩;have e:b=s.heap.objs.size:=by simpa using f
 subst e;exact I.TR (GB _) (I.ZJ.fresh (GB _))
end L2
namespace L2
open PySem PySem.Spec PyProof.Rows
structure ZA(z TI TO i1 i2:Addr):Prop where
 TIz:TI≠z
 TOz:TO≠z
 i1z:i1≠z
 i2z:i2≠z
 TITO:TI≠TO
 TIi1:TI≠i1
 TIi2:TI≠i2
 TOi1:TO≠i1
 TOi2:TO≠i2
 i12:i1≠i2
end L2
namespace PI
noncomputable section
open PySem PySem.Spec PyProof.Rows L2
def SqF(K:GJ)(H:Hp)(a:Addr)(xs:List V):Prop:=
 (∃o,H a=some (.Zt o (.M xs))) \/
  ∃(o:Obj) (ZV:Array Value) (n:Nat),K.lookup a=some o/\o.cls=.type "list" /\ o.dict=none/\o.data=.seq ZV n/\ZV.size<=sizeLine/\ZH xs ZV.toList
def SqF.sq{xs:List V}(h:SqF K H a xs):SqL K H a xs:=by
 rcases h with h|h
 .exact .inl (.inr h)
 .exact .inr h
def SqU(_:GJ)(H:Hp)(a:Addr)(xs:List V):Prop:=H a=some (.ZX xs)
def SqU.sq{xs:List V}(h:SqU K H a xs):SqT K H a xs:=.of h
def SqC(K:GJ)(a:Addr)(xs:List V):Prop:=
 ∃(o:Obj) (ZV:Array Value) (n:Nat),K.lookup a=some o/\o.cls=.type "tuple" /\ o.data=.seq ZV n/\ZV.size<=sizeLine/\ZH xs ZV.toList
def SqC.sq{xs:List V}(h:SqC K a xs):SqT K H a xs:=.inr h
inductive RT(Z6:Addr->List V->Prop)(R:List V->Prop)(v:V):Prop
 |mk (a:Addr) (vs:List V) (e:v=.ref a) (s:Z6 a vs) (r:R vs)
inductive RC{α:Type}(p:α->Prop)(q:List α->Prop)(vs:List α):Prop
 |mk (v:α) (r:List α) (e:vs=v::r) (h:p v) (t:q r)
mutual
def RV(K:GJ)(ρ:List Addr)(H:Hp):U->V->Prop
 |.ZL,v=>v=.ZL
 |.bl b,v=>v=.bl b
 |.int i,v=>v=.int i
 |.str s,v=>v=.str s
 |.ZX S,v=>RT (SqU K H) (RVs K ρ H S) v
 |.Zv S,v=>RT (SqF K H) (RVs K ρ H S) v
 |.ref n,v=>∃a,v=.ref a/\ρ[n]?=some a
 |.xn _ S,v=>RT (SqC K) (RVs K ρ H S) v
def RVs(K:GJ)(ρ:List Addr)(H:Hp):List U->List V->Prop
 |[],vs=>vs=[]
 |u::S,vs=>RC (RV K ρ H u) (RVs K ρ H S) vs
end
structure ZI(K:GJ)(ρ:List Addr)(H:Hp)(ZN:List Addr)(H':Hp):Prop where
 ext:∀(n:Nat) (a:Addr),ρ[n]?=some a->ZN[n]?=some a
 new:∀(n:Nat) (a:Addr),ZN[n]?=some a->ρ[n]?=some a\/H a=none
 X1:∀a o,H a=some o->a ∉ ρ->H' a=some o
 live:∀a,H a≠none->H' a≠none
 ZX:∀a xs,SqU K H a xs->SqU K H' a xs
 Zv:∀a xs,SqF K H a xs->SqF K H' a xs
 Zt:∀a o u,H a=some (.Zt o u)->H' a=some (.Zt o u)
section
variable{Vq:List Addr}{XE:Hp}
def ZI.refl:ZI K ρ H ρ H:=⟨λ_ _ h=>h,λ_ _ h=>.inl h,λ_ _ h _=>h,λ_ h=>h,λ_ _ h=>h,λ_ _ h=>h,λ_ _ _ h=>h⟩
def ZI.trans(a:ZI K ρ H ZN H')(b:ZI K ZN H' Vq XE):ZI K ρ H Vq XE where
 ext:=λn x h=>b.ext n x (a.ext n x h)
 new:=λn x h=>by
  rcases b.new n x h with q|q
  .exact a.new n x q
  .refine .inr ?_
   cases e:H x with
   |none=>rfl
   |some o=>exact absurd q (a.live x (by rw[e];simp))
 X1:=λx o h hn=>b.X1 x o (a.X1 x o h hn) λhx=>by
  let⟨n,Zd⟩:=UC.mp hx;rcases a.new n x Zd with q|q
  .exact hn (UC.mpr ⟨n,q⟩)
  .rw [q]at h;cases h
 live:=λx h=>b.live x (a.live x h)
 ZX:=λx xs h=>b.ZX x xs (a.ZX x xs h)
 Zv:=λx xs h=>b.Zv x xs (a.Zv x xs h)
 Zt:=λx o u h=>b.Zt x o u (a.Zt x o u h)
mutual
def RV.mono(d:∀(n:Nat) (a:Addr),ρ[n]?=some a->ZN[n]?=some a)(b:∀a xs,SqU K H a xs->SqU K H' a xs)(c:∀a xs,SqF K H a xs->SqF K H' a xs):∀(u:U) (v:V),RV K ρ H u v->RV K ZN H' u v
 |.ZL,_,h=>h
 |.bl _,_,h=>h
 |.int _,_,h=>h
 |.str _,_,h=>h
 |.ZX S,v,h=>by
  let⟨a,vs,e,h1,h2⟩:=h;exact⟨a,vs,e,b _ _ h1,RVs.mono d b c S vs h2⟩
 |.Zv S,v,h=>by
  let⟨a,vs,e,h1,h2⟩:=h;exact⟨a,vs,e,c _ _ h1,RVs.mono d b c S vs h2⟩
 |.ref n,v,h=>by
  let⟨a,e,h1⟩:=h;exact⟨a,e,d _ _ h1⟩
 |.xn _ S,v,h=>by
  let⟨a,vs,e,h1,h2⟩:=h;exact⟨a,vs,e,h1,RVs.mono d b c S vs h2⟩
def RVs.mono(d:∀(n:Nat) (a:Addr),ρ[n]?=some a->ZN[n]?=some a)(b:∀a xs,SqU K H a xs->SqU K H' a xs)(c:∀a xs,SqF K H a xs->SqF K H' a xs):∀(S:List U) (vs:List V),RVs K ρ H S vs->RVs K ZN H' S vs
 |[],_,h=>h
 |u::S,vs,h=>by
  let⟨v,r,e,h1,h2⟩:=h;exact⟨v,r,e,RV.mono d b c u v h1,RVs.mono d b c S r h2⟩
end
def RV.step(s:ZI K ρ H ZN H')(u:U)(v:V)(h:RV K ρ H u v):RV K ZN H' u v:=RV.mono s.ext s.ZX s.Zv u v h
def RVs.step(s:ZI K ρ H ZN H')(S:List U)(vs:List V)(h:RVs K ρ H S vs):RVs K ZN H' S vs:=RVs.mono s.ext s.ZX s.Zv S vs h
def RVs.length:∀{S:List U} {vs:List V},RVs K ρ H S vs->S.length=vs.length
 |[],_,h=>by cases h;rfl
 |_::S,_,h=>by
  let⟨v,r,rfl,_,h2⟩:=h;simp[RVs.length h2]
def RVs.get:∀{S:List U} {vs:List V} {i:Nat} {u:U},RVs K ρ H S vs->S[i]?=some u ->∃v,vs[i]?=some v/\RV K ρ H u v
 |[],_,_,_,_,e=>by simp at e
 |x::S,_,0,u,h,e=>by
  let⟨v,r,rfl,h1,_⟩:=h;simp at e;subst e;exact⟨v,by simp,h1⟩
 |x::S,_,i+1,u,h,e=>by
  let⟨v,r,rfl,_,h2⟩:=h;let⟨w,b,a⟩:=RVs.get (i:=i) (u:=u) h2 (by simpa using e)
  exact⟨w,by simpa using b,a⟩
def RVs.none_of(h:RVs K ρ H S vs)(e:S[i]?=none):vs[i]?=none:=by
 have h1:=h.length;have h2:S.length<=i:=Ts.mp e;exact Ts.mpr (by lia)
def RVs.append:∀{S ws:List U} {vs xs:List V},RVs K ρ H S vs->RVs K ρ H ws xs->RVs K ρ H (S++ws) (vs++xs)
 |[],_,_,_,h,q=>by cases h;exact q
 |u::S,_,_,_,h,q=>by
  let⟨v,r,rfl,h1,h2⟩:=h;exact⟨v,r++_,rfl,h1,RVs.append h2 q⟩
def RVs.one(h:RV K ρ H u v):RVs K ρ H [u] [v]:=⟨v,[],rfl,h,rfl⟩
def RVs.drop:∀{S:List U} {vs:List V} (n:Nat),RVs K ρ H S vs->RVs K ρ H (S.drop n) (vs.drop n)
 |_,_,0,h=>h
 |[],_,_+1,h=>by cases h;rfl
 |u::S,_,n+1,h=>by
  let⟨v,r,rfl,h1,h2⟩:=h;exact RVs.drop n h2
def RVs.take:∀{S:List U} {vs:List V} (n:Nat),RVs K ρ H S vs->RVs K ρ H (S.take n) (vs.take n)
 |_,_,0,h=>by simp[RVs]
 |[],_,_+1,h=>by cases h;rfl
 |u::S,_,n+1,h=>by
  let⟨v,r,rfl,h1,h2⟩:=h;exact⟨v,r.take n,rfl,h1,RVs.take n h2⟩
def RVs.set{u:U}{v:V}(q:RV K ρ H u v):∀{S:List U} {vs:List V} (i:Nat),RVs K ρ H S vs->RVs K ρ H (S.set i u) (vs.set i v)
 |[],_,_,h=>by cases h;rfl
 |x::S,_,0,h=>by
  let⟨w,r,rfl,_,h2⟩:=h;exact⟨v,r,rfl,q,h2⟩
 |x::S,_,i+1,h=>by
  let⟨w,r,rfl,h1,h2⟩:=h;exact⟨w,r.set i v,rfl,h1,RVs.set q i h2⟩
def RVs.reverse:∀{S:List U} {vs:List V},RVs K ρ H S vs->RVs K ρ H S.reverse vs.reverse
 |[],_,h=>by cases h;rfl
 |u::S,_,h=>by
  let⟨v,r,rfl,h1,h2⟩:=h;rw[Ql,Ql];exact RVs.append (RVs.reverse h2) (.one h1)
def RVs.dropLast{S:List U}{vs:List V}(h:RVs K ρ H S vs):RVs K ρ H S.dropLast vs.dropLast:=by
 rw[List.dropLast_eq_take,List.dropLast_eq_take,h.length];exact h.take _
def RD(K:GJ)(ρ:List Addr)(H:Hp):List (List Int×U)->List (List Key×V)->Prop
 |[],ws=>ws=[]
 |(k,u)::r,ws=>∃v s,ws=(k.map Sum.inl,v)::s/\RV K ρ H u v/\RD K ρ H r s
def RD.mono(d:∀(n:Nat) (a:Addr),ρ[n]?=some a->ZN[n]?=some a)(b:∀a xs,SqU K H a xs->SqU K H' a xs)(c:∀a xs,SqF K H a xs->SqF K H' a xs):∀(S:List (List Int×U)) (vs:List (List Key×V)),RD K ρ H S vs->RD K ZN H' S vs
 |[],_,h=>h
 |(k,u)::S,vs,h=>by
  let⟨v,r,e,h1,h2⟩:=h;exact⟨v,r,e,RV.mono d b c u v h1,RD.mono d b c S r h2⟩
def RK(K:GJ)(ρ:List Addr)(H:Hp):List (Str×U)->List (Key×V)->Prop
 |[],ws=>ws=[]
 |(k,u)::r,ws=>∃v s,ws=(Sum.inr k,v)::s/\RV K ρ H u v/\RK K ρ H r s
def RK.mono(d:∀(n:Nat) (a:Addr),ρ[n]?=some a->ZN[n]?=some a)(b:∀a xs,SqU K H a xs->SqU K H' a xs)(c:∀a xs,SqF K H a xs->SqF K H' a xs):∀(S:List (Str×U)) (vs:List (Key×V)),RK K ρ H S vs->RK K ZN H' S vs
 |[],_,h=>h
 |(k,u)::S,vs,h=>by
  let⟨v,r,e,h1,h2⟩:=h;exact⟨v,r,e,RV.mono d b c u v h1,RK.mono d b c S r h2⟩
def lZ:∀(f a b:Nat),a<128 ^ f->b<128 ^ f->dig f a=dig f b->a=b
 |0,a,b,h1,h2,_=>by simp at h1 h2;lia
 |f+1,a,b,h1,h2,e=>by
  rw[Nat.pow_succ]at h1 h2;simp![dig]at e;split at e
  .split at e
   .lia
   .cases e
  .split at e
   .cases e
   .have d:a % 128=b % 128:=(List.cons.inj e).1
    have c:=lZ f (a / 128) (b / 128) (by lia) (by lia) (List.cons.inj e).2
    lia
def qP{a b:Nat}(d:a<Bk)(c:b<Bk)(e:Ao a=Ao b):a=b:=lZ 64 a b d c (by have:=TZ (λs:Str=>s.cps.toList) e;simpa[Ao]using this)
def RF(K:GJ)(ρ:List Addr)(H:Hp):List (Nat×U)->List (Str×V)->Prop
 |[],ws=>ws=[]
 |(j,u)::r,ws=>∃v s,ws=(Ao j,v)::s/\j<Bk/\RV K ρ H u v/\RF K ρ H r s
def RF.mono(d:∀(n:Nat) (a:Addr),ρ[n]?=some a->ZN[n]?=some a)(b:∀a xs,SqU K H a xs->SqU K H' a xs)(c:∀a xs,SqF K H a xs->SqF K H' a xs):∀(S:List (Nat×U)) (vs:List (Str×V)),RF K ρ H S vs->RF K ZN H' S vs
 |[],_,h=>h
 |(k,u)::S,vs,h=>by
  let⟨v,r,e,f,h1,h2⟩:=h;exact⟨v,r,e,f,RV.mono d b c u v h1,RF.mono d b c S r h2⟩
def RF.look{j:Nat}(a:j<Bk):∀{S:List (Nat×U)} {vs:List (Str×V)},RF K ρ H S vs->(S.lookup j=none/\vs.lookup (Ao j)=none) \/∃u v,S.lookup j=some u/\vs.lookup (Ao j)=some v/\RV K ρ H u v
 |[],_,h=>by cases h;exact .inl ⟨rfl,rfl⟩
 |(i,u)::S,_,h=>by
  let⟨v,r,rfl,b,h1,h2⟩:=h;rw[WM,WM];by_cases e:j=i
  .subst e
   rw[RG,RG];exact .inr ⟨u,v,rfl,rfl,h1⟩
  .have d:(j==i)=false:=beq_false_of_ne e
   have c:(Ao j==Ao i)=false:=beq_false_of_ne λz=>e (qP a b z);rw[d,c];exact RF.look a h2
def RF.put{j:Nat}{u:U}{v:V}(b:j<Bk)(a:RV K ρ H u v):∀{S:List (Nat×U)} {vs:List (Str×V)},RF K ρ H S vs->RF K ρ H (Cg j u S) (AB (Ao j) v vs)
 |[],_,h=>by cases h;exact⟨v,[],rfl,b,a,rfl⟩
 |(i,x)::S,_,h=>by
  let⟨w,r,rfl,c,h1,h2⟩:=h;unfold Cg AB;by_cases e:i=j
  .subst e
   rw[YC rfl,YC rfl];exact⟨v,r,rfl,c,a,h2⟩
  .rw [Yj e,Yj λz=>e (qP c b z)]
   exact⟨w,_,rfl,c,h1,RF.put b a h2⟩
def RF.length:∀{S:List (Nat×U)} {vs:List (Str×V)},RF K ρ H S vs->S.length=vs.length
 |[],_,h=>by cases h;rfl
 |(i,x)::S,_,h=>by
  let⟨w,r,rfl,a,h1,h2⟩:=h;simp[RF.length h2]
def RHO(K:GJ)(ρ:List Addr)(H:Hp):Z9->HO->Prop
 |.M S,o=>∃vs,o=.M vs/\RVs K ρ H S vs
 |.ZG Z4,o=>∃ws,o=.dT ws/\RD K ρ H Z4 ws
 |.Zs Z4,o=>∃ob ws,o=.Zt ob (.dT ws)/\RD K ρ H Z4 ws
 |.dst Z4,o=>∃ws,o=.dK ws/\RK K ρ H Z4 ws
 |.ins c S,o=>∃C dx vs,o=.ins C dx vs/\PySem.W.nsIn K mainGlobals (Ao c)=some (some (.ref C))/\RF K ρ H S vs
def RO(K:GJ)(ρ:List Addr)(H:Hp)(a:Addr)(o:Z9):Prop:=∃ho,H a=some ho/\RHO K ρ H o ho
def RHO.mono(f:∀(n:Nat) (a:Addr),ρ[n]?=some a->ZN[n]?=some a)(b:∀a xs,SqU K H a xs->SqU K H' a xs)(d:∀a xs,SqF K H a xs->SqF K H' a xs){o:Z9}{g:HO}(h:RHO K ρ H o g):RHO K ZN H' o g:=by
 cases o with
 |M S=>let⟨vs,e,r⟩:=h;exact⟨vs,e,RVs.mono f b d _ _ r⟩
 |ZG Z4=>let⟨ws,e,r⟩:=h;exact⟨ws,e,RD.mono f b d _ _ r⟩
 |Zs Z4=>let⟨ob,ws,e,r⟩:=h;exact⟨ob,ws,e,RD.mono f b d _ _ r⟩
 |dst Z4=>let⟨ws,e,r⟩:=h;exact⟨ws,e,RK.mono f b d _ _ r⟩
 |ins c S=>let⟨C,dx,vs,e,i,r⟩:=h;exact⟨C,dx,vs,e,i,RF.mono f b d _ _ r⟩
def RHO.step(s:ZI K ρ H ZN H'){o:Z9}{a:HO}(h:RHO K ρ H o a):RHO K ZN H' o a:=h.mono s.ext s.ZX s.Zv
def RO.step(s:ZI K ρ H ZN H'){a:Addr}{o:Z9}(e:∀b,H a=some b->H' a=some b)(h:RO K ρ H a o):RO K ZN H' a o:=
 let⟨b,c,r⟩:=h;⟨b,e b c,r.step s⟩
structure RH(K:GJ)(ρ:List Addr)(H:Hp)(g:G):Prop where
 len:ρ.length=g.length
 inj:∀(i j:Nat) (a:Addr),ρ[i]?=some a->ρ[j]?=some a->i=j
 obj:∀(n:Nat) (a:Addr) (o:Z9),ρ[n]?=some a->g[n]?=some o->RO K ρ H a o
def RH.at(h:RH K ρ H g){o:Z9}(e:g[n]?=some o):∃a,ρ[n]?=some a/\RO K ρ H a o:=by
 have c:n<g.length:=(YG.mp e).1;have b:n<ρ.length:=by rw[h.len];exact c
 exact⟨ρ[n],Y9 b,h.obj n ρ[n] _ (Y9 b) e⟩
def RH.M(h:RH K ρ H g){n:Nat}{S:List U}(e:g[n]?=some (.M S)):∃a vs,ρ[n]?=some a/\H a=some (.M vs)/\RVs K ρ H S vs:=by
 let⟨a,h1,ho,h2,vs,rfl,b⟩:=h.at e;exact⟨a,vs,h1,h2,b⟩
def RH.ZG(h:RH K ρ H g){n:Nat}{b:List (List Int×U)}(e:g[n]?=some (.ZG b)):∃a ws,ρ[n]?=some a/\H a=some (.dT ws)/\RD K ρ H b ws:=by
 let⟨a,h1,ho,h2,vs,rfl,c⟩:=h.at e;exact⟨a,vs,h1,h2,c⟩
def RH.Zs(h:RH K ρ H g){n:Nat}{c:List (List Int×U)}(e:g[n]?=some (.Zs c)):∃a b ws,ρ[n]?=some a/\H a=some (.Zt b (.dT ws))/\RD K ρ H c ws:=by
 let⟨a,h1,ho,h2,b,vs,rfl,d⟩:=h.at e;exact⟨a,b,vs,h1,h2,d⟩
def RH.dst(h:RH K ρ H g){n:Nat}{b:List (Str×U)}(e:g[n]?=some (.dst b)):∃a ws,ρ[n]?=some a/\H a=some (.dK ws)/\RK K ρ H b ws:=by
 let⟨a,h1,ho,h2,vs,rfl,c⟩:=h.at e;exact⟨a,vs,h1,h2,c⟩
def RH.ins(h:RH K ρ H g){n c:Nat}{b:List (Nat×U)}(e:g[n]?=some (.ins c b)):∃a C dx vs,ρ[n]?=some a/\H a=some (.ins C dx vs)/\PySem.W.nsIn K mainGlobals (Ao c)=some (some (.ref C))/\RF K ρ H b vs:=by
 let⟨a,h1,ho,h2,C,dx,vs,rfl,f,d⟩:=h.at e;exact⟨a,C,dx,vs,h1,h2,f,d⟩
def RH.there(h:RH K ρ H g)(e:ρ[n]?=some a):∃o,H a=some o:=by
 have b:n<ρ.length:=(YG.mp e).1;have c:n<g.length:=by rw[<-h.len];exact b
 let⟨ho,h1,_⟩:=h.obj n a g[n] e (Y9 c);exact⟨ho,h1⟩
def zX{p:Addr}{o:HO}{xs:List V}(h:SqU K H a xs)(b:a≠p):SqU K (upd H p o) a xs:=by
 unfold SqU;rw[af b];exact h
def yB{p:Addr}{o:HO}{xs:List V}(h:SqF K H a xs)(b:a≠p):SqF K (upd H p o) a xs:=by
 rcases h with⟨ob,h⟩|h
 .exact .inl ⟨ob,by rw[af b];exact h⟩
 .exact .inr h
def Bx:HO->Prop
 |.M _=>True
 |.dT _=>True
 |.dK _=>True
 |.ins _ _ _=>True
 |_=>False
def aP{p:Addr}{o:HO}{xs:List V}(h:SqU K H a xs)(c:H p=none \/∃b,H p=some b/\Bx b):SqU K (upd H p o) a xs:=
 zX h (by rintro rfl;rcases c with z|⟨ys,z,m⟩<;>· unfold SqU at h;rw[h]at z;cases z;try exact m)
def aM{p:Addr}{o:HO}{xs:List V}(h:SqF K H a xs)(c:H p=none \/∃b,H p=some b/\Bx b):SqF K (upd H p o) a xs:=by
 rcases h with⟨ob,h⟩|h
 .exact yB (.inl ⟨ob,h⟩) (by rintro rfl;rcases c with z|⟨ys,z,m⟩<;>· rw[h]at z;cases z;try exact m)
 .exact .inr h
def ZI.fresh{p:Addr}{o:HO}(hp:H p=none):ZI K ρ H ρ (upd H p o) where
 ext:=λ_ _ h=>h
 new:=λ_ _ h=>.inl h
 X1:=λa u h _=>by rw[af (aC h hp)];exact h
 live:=λa h=>by
  by_cases e:a=p
  .subst e;rw[upd_same];simp
  .rw [af e];exact h
 ZX:=λa xs h=>aP h (.inl hp)
 Zv:=λa xs h=>aM h (.inl hp)
 Zt:=λa ob u h=>by rw[af (aC h hp)];exact h
def RH.step_fresh{p:Addr}{o:HO}(h:RH K ρ H g)(hp:H p=none):RH K ρ (upd H p o) g where
 len:=h.len
 inj:=h.inj
 obj:=λn a ob h1 h2=>(h.obj n a ob h1 h2).step (ZI.fresh hp) λho e=>by rw[af (aC e hp)];exact e
def ZI.alloc{p:Addr}{ho:HO}(hp:H p=none):ZI K ρ H (ρ++[p]) (upd H p ho) where
 ext:=λn a h=>by rw[XM (YG.mp h).1];exact h
 new:=λn a h=>by
  by_cases hn:n<ρ.length
  .rw [XM hn]at h;exact .inl h
  .rw [Wc (by lia)]at h
   have:a=p:=by
    cases hk:n-ρ.length with
    |zero=>rw[hk]at h;simpa using h.symm
    |succ k=>rw[hk]at h;simp at h
   subst this;exact .inr hp
 X1:=λa u h _=>by rw[af (aC h hp)];exact h
 live:=(ZI.fresh (K:=K) (ρ:=ρ) hp).live
 ZX:=λa xs h=>aP h (.inl hp)
 Zv:=λa xs h=>aM h (.inl hp)
 Zt:=λa ob u h=>by rw[af (aC h hp)];exact h
def RH.S7{p:Addr}{ob:Z9}{ho:HO}(h:RH K ρ H g)(hp:H p=none)(r:RHO K ρ H ob ho):RH K (ρ++[p]) (upd H p ho) (g++[ob]) where
 len:=by simp[h.len]
 inj:=λi j a h1 h2=>by
  have key:∀k b,(ρ++[p])[k]?=some b->(k<ρ.length/\ρ[k]?=some b)\/(k=ρ.length/\b=p):=λk b e=>by
   by_cases hk:k<ρ.length
   .rw [XM hk]at e;exact .inl ⟨hk,e⟩
   .rw [Wc ()]at e
    cases hd:k-ρ.length with
    |zero=>rw[hd]at e;exact .inr ⟨by omega,by simpa using e.symm⟩
    |succ m=>rw[hd]at e;simp at e
  have noP:∀k,ρ[k]? ≠ some p:=λk e=>by
   let⟨o,ho⟩:=h.there e;rw[hp]at ho;cases ho
  rcases key i a h1 with⟨_,e1⟩|⟨e1,Y3⟩
  .rcases key j a h2 with⟨_,e2⟩|⟨e2,VI⟩
   .exact h.inj i j a e1 e2
   .subst VI;exact absurd e1 (noP i)
  .rcases key j a h2 with⟨_,e2⟩|⟨e2,VI⟩
   .subst Y3;exact absurd e2 (noP j)
   .lia
 obj:=λn a o h1 h2=>by
  by_cases hn:n<ρ.length
  .rw [XM hn]at h1
   rw[XM (by rw[<-h.len];exact hn)]at h2
   exact(h.obj n a o h1 h2).step (ZI.alloc hp) λho e=>by rw[af (aC e hp)];exact e
  .have hl:=h.len
   rw[Wc (by lia)]at h1
   rw[Wc (by lia)]at h2
   rw[<-hl]at h2;cases hd:n-ρ.length with
   |zero=>
    rw[hd]at h1 h2;have e1:a=p:=by simpa using h1.symm
    have e2:o=ob:=by simpa using h2.symm
    subst e1;subst e2;exact⟨ho,upd_same,r.step (ZI.alloc hp)⟩
   |succ m=>rw[hd]at h1;simp at h1
def RH.alloc{p:Addr}(h:RH K ρ H g)(a:H p=none)(r:RVs K ρ H S vs):RH K (ρ++[p]) (upd H p (.M vs)) (g++[.M S]):=h.S7 a ⟨vs,rfl,r⟩
def ZI.X0{x y:HO}(hn:ρ[n]?=some a)(ha:H a=some x)(hm:Bx x):ZI K ρ H ρ (upd H a y) where
 ext:=λ_ _ h=>h
 new:=λ_ _ h=>.inl h
 X1:=λb u h hb=>by
  have:b≠a:=λe=>hb (e ▸ UC.mpr ⟨n,hn⟩);rw[af this];exact h
 live:=λb h=>by
  by_cases e:b=a
  .subst e;rw[upd_same];simp
  .rw [af e];exact h
 ZX:=λb zs h=>aP h (.inr ⟨_,ha,hm⟩)
 Zv:=λb zs h=>aM h (.inr ⟨_,ha,hm⟩)
 Zt:=λb ob u h=>by rw[af (bZ h ha (by rintro rfl;exact hm))];exact h
def ZI.write{xs b:List V}(c:ρ[n]?=some a)(d:H a=some (.M xs)):ZI K ρ H ρ (upd H a (.M b)):=ZI.X0 c d trivial
def RH.X0{n:Nat}{a:Addr}{x y:HO}{ob:Z9}(h:RH K ρ H g)(hn:ρ[n]?=some a)(ha:H a=some x)(hm:Bx x)(r:RHO K ρ H ob y):RH K ρ (upd H a y) (g.set n ob) where
 len:=by simp[h.len]
 inj:=h.inj
 obj:=λm b o h1 h2=>by
  by_cases e:m=n
  .subst e
   rw[hn]at h1;cases h1;rw[Se (by rw[<-h.len];exact(YG.mp hn).1)]at h2
   cases h2;exact⟨y,upd_same,r.step (ZI.X0 hn ha hm)⟩
  .rw [Vm (Ne.symm e)]at h2
   have ne:b≠a:=λz=>e (h.inj m n a (z ▸ h1) hn);exact(h.obj m b o h1 h2).step (ZI.X0 hn ha hm) λho e1=>by rw[af ne];exact e1
def RH.write{xs b:List V}(h:RH K ρ H g)(c:ρ[n]?=some a)(d:H a=some (.M xs))(r:RVs K ρ H S b):RH K ρ (upd H a (.M b)) (g.set n (.M S)):=h.X0 c d trivial ⟨b,rfl,r⟩
structure RS(K:GJ)(ρ:List Addr)(H:Hp)(ZY:Su)(Y:L2.St):Prop where
 len:ZY.length=Y.length
 val:∀(i:Nat) (u:U),ZY[i]?=some (some u) ->∃v,Y[i]?=some (some v)/\RV K ρ H u v
def RS.step{a:Su}{Y:L2.St}(h:RS K ρ H a Y)(s:ZI K ρ H ZN H'):RS K ZN H' a Y:=
 ⟨h.len,λi u e=>let⟨v,b,r⟩:=h.val i u e;⟨v,b,RV.step s _ _ r⟩⟩
def RS.set{ZY:Su}{Y:L2.St}{i:Nat}{u:U}{v:V}(h:RS K ρ H ZY Y)(r:RV K ρ H u v):RS K ρ H (ZY.set i (some u)) (Y.set i (some v)) where
 len:=by simp[h.len]
 val:=λj w e=>by
  by_cases hj:j=i
  .subst hj
   have hl:j<ZY.length:=by
    have:=(YG.mp e).1;simpa using this
   rw[Se hl]at e;cases e;exact⟨v,by rw[Se (by rw[<-h.len];exact hl)],r⟩
  .rw [Vm (Ne.symm hj)]at e
   let⟨x,e1,e2⟩:=h.val j w e;exact⟨x,by rw[Vm (Ne.symm hj)];exact e1,e2⟩
end
abbrev XQ:=Nat->List V->Hp->Prop
section
variable(K:GJ)(W:XQ)
def post{b a:Type}(R:List Addr->Hp->b->a->Prop)(o:Out b)(ρ:List Addr)(H:Hp)(Q:a->Hp->Prop):Prop:=match o with
 |.ok u g=>∀v ZN H',ZI K ρ H ZN H'->RH K ZN H' g->R ZN H' u v->Q v H'
 |.exc c fs g=>∀vs ZN H',ZI K ρ H ZN H'->RH K ZN H' g->RVs K ZN H' fs vs->W c vs H'
 |.ZU=>False
def IY(o:Out Fl)(ρ:List Addr)(H:Hp)(D:Ends):Prop:=match o with
 |.ok (.nx a) g=>∀Y ZN H',ZI K ρ H ZN H'->RH K ZN H' g->RS K ZN H' a Y->D.nx Y H'
 |.ok (.bk a) g=>∀Y ZN H',ZI K ρ H ZN H'->RH K ZN H' g->RS K ZN H' a Y->D.bk Y H'
 |.ok (.ct a) g=>∀Y ZN H',ZI K ρ H ZN H'->RH K ZN H' g->RS K ZN H' a Y->D.ct Y H'
 |.ok (.rt u) g=>∀v ZN H',ZI K ρ H ZN H'->RH K ZN H' g->RV K ZN H' u v->D.rt v H'
 |.exc c fs g=>∀vs ZN H',ZI K ρ H ZN H'->RH K ZN H' g->RVs K ZN H' fs vs->W c vs H'
 |.ZU=>False
abbrev Yc{α:Type}:List Addr->Hp->α->α->Prop:=λ_ _ a b=>a=b
inductive tR{α β:Type}(R:List Addr->Hp->α->β->Prop)(f:Su->G->Out α)(Y:L2.St)(H:Hp)(Q:β->Hp->Prop):Prop
 |mk (ZY:Su) (ρ:List Addr) (g:G) (hs:RS K ρ H ZY Y) (hg:RH K ρ H g) (p:post K W R (f ZY g) ρ H Q)
abbrev tE(f:Su->G->Out U):TE:=tR K W (RV K) f
abbrev tT(f:Su->G->Out Bool):TT:=tR K W Yc f
abbrev XW(f:Su->G->Out (List U)):TA:=tR K W (RVs K) f
inductive PB{α β V9 V8:Type}(R:List Addr->Hp->α->β->Prop)(R':List Addr->Hp->V9->V8->Prop)(ρ:List Addr)(H:Hp)(k:α->G->Out V9)(Q:V8->Hp->Prop)(v:β)(H1:Hp):Prop
 |mk (ZK:List Addr) (u:α) (g1:G) (s:ZI K ρ H ZK H1) (h:RH K ZK H1 g1) (r:R ZK H1 u v) (p:post K W R' (k u g1) ZK H1 Q)
inductive PC{α β:Type}(R:List Addr->Hp->α->β->Prop)(ρ:List Addr)(H:Hp)(k:α->G->Out Fl)(D:Ends)(v:β)(H1:Hp):Prop
 |mk (ZK:List Addr) (u:α) (g1:G) (s:ZI K ρ H ZK H1) (h:RH K ZK H1 g1) (r:R ZK H1 u v) (p:IY K W (k u g1) ZK H1 D)
inductive Zi(f:Su->G->Out Fl)(D:Ends)(Y:L2.St)(H:Hp):Prop
 |mk (ZY:Su) (ρ:List Addr) (g:G) (hs:RS K ρ H ZY Y) (hg:RH K ρ H g) (p:IY K W (f ZY g) ρ H D)
end
section
variable{W:XQ}{V9 V8:Type}{R:List Addr->Hp->α->β->Prop}{R':List Addr->Hp->V9->V8->Prop}
def post.from{o:Out α}{Q:β->Hp->Prop}(h:post K W R o ρ H Q)(s:ZI K ρ H ZN H'):post K W R o ZN H' Q:=by
 cases o with
 |ok u g=>exactλv b H2 a=>h v b H2 (s.trans a)
 |exc c fs g=>exactλv b H2 a=>h v b H2 (s.trans a)
 |ZU=>exact h
def IY.from{o:Out Fl}{D:Ends}(h:IY K W o ρ H D)(s:ZI K ρ H ZN H'):IY K W o ZN H' D:=by
 cases o with
 |ok f g=>cases f<;>exactλv b H2 a=>h v b H2 (s.trans a)
 |exc c fs g=>exactλv b H2 a=>h v b H2 (s.trans a)
 |ZU=>exact h
def post.bind{o:Out α}{k:α->G->Out V9}{Q:V8->Hp->Prop}(h:post K W R' (o.bind k) ρ H Q):
  post K W R o ρ H (PB K W R R' ρ H k Q):=by
 cases o with
 |ok u g=>exactλv d H1 a h1 b=>⟨d,u,g,a,h1,b,post.from (o:=k u g) h a⟩
 |exc c fs g=>exact h
 |ZU=>exact h
def IY.bind{o:Out α}{k:α->G->Out Fl}{D:Ends}(h:IY K W (o.bind k) ρ H D):
  post K W R o ρ H (PC K W R ρ H k D):=by
 cases o with
 |ok u g=>exactλv d H1 a h1 b=>⟨d,u,g,a,h1,b,IY.from (o:=k u g) h a⟩
 |exc c fs g=>exact h
 |ZU=>exact h
def post.mono{o:Out α}{Q Q':β->Hp->Prop}(h:post K W R o ρ H Q)(q:∀v H1,Q v H1->Q' v H1):post K W R o ρ H Q':=by
 cases o with
 |ok u g=>exactλv d H1 a h1 b=>q _ _ (h v d H1 a h1 b)
 |exc c fs g=>exact h
 |ZU=>exact h
def post.Zb{u:α}{v:β}{Q:β->Hp->Prop}(h:post K W R (.ok u g) ρ H Q)(a:RH K ρ H g)(r:R ρ H u v):Q v H:=h v ρ H .refl a r
def post.lift{o:Option α}{g:G}{Q:β->Hp->Prop}(h:post K W R (lift o g) ρ H Q):∃u,o=some u/\post K W R (.ok u g) ρ H Q:=by
 cases o with
 |none=>exact h.elim
 |some u=>exact⟨u,rfl,h⟩
end
def _root_.L2.PE.imp{t t':TE}(h:PE X e t)(q:∀Y H Q,t' Y H Q->t Y H Q):PE X e t':=λO s Y H Q I h'=>h O s Y H Q I (q Y H Q h')
def _root_.L2.PT.imp{t t':TT}(h:PT X e t)(q:∀Y H Q,t' Y H Q->t Y H Q):PT X e t':=λO s Y H Q I h'=>h O s Y H Q I (q Y H Q h')
def _root_.L2.PW.imp{t t':TT}(h:PW X e t)(q:∀Y H Q,t' Y H Q->t Y H Q):PW X e t':=λa O s Y H Q I h'=>h a O s Y H Q I (q Y H Q h')
def _root_.L2.PA.imp{e:List Expr}{t t':TA}(h:PA X e t)(q:∀Y H Q,t' Y H Q->t Y H Q):PA X e t':=λpos O s Y H Q I h'=>h pos O s Y H Q I (q Y H Q h')
def _root_.L2.PS.imp{e:Stmt}{t t':TS}(h:PS X e t)(q:∀D Y H,t' D Y H->t D Y H):PS X e t':=λO s Y H Q I h'=>h O s Y H Q I (q Q Y H h')
def _root_.L2.PSs.imp{e:List Stmt}{t t':TS}(h:PSs X e t)(q:∀D Y H,t' D Y H->t D Y H):PSs X e t':=λO s Y H Q I h'=>h O s Y H Q I (q Q Y H h')
def _root_.L2.PE.ZU{X:Cx}{e:Expr}{K:GJ}{W:XQ}{f:Su->G->Out U}(h:∀Y g,f Y g=.ZU):PE X e (tE K W f):=λO s Y H Q I ⟨a,ρ,g,_,_,p⟩=>by rw[h]at p;exact p.elim
def _root_.L2.PT.ZU{X:Cx}{e:Expr}{K:GJ}{W:XQ}{f:Su->G->Out Bool}(h:∀Y g,f Y g=.ZU):PT X e (tT K W f):=λO s Y H Q I ⟨a,ρ,g,_,_,p⟩=>by rw[h]at p;exact p.elim
def _root_.L2.PSs.ZU{X:Cx}{e:List Stmt}{K:GJ}{W:XQ}{f:Su->G->Out Fl}(h:∀Y g,f Y g=.ZU):PSs X e (Zi K W f):=λO s Y H Q I ⟨a,ρ,g,_,_,p⟩=>by rw[h]at p;exact p.elim
def _root_.L2.PS.ZU{X:Cx}{e:Stmt}{K:GJ}{W:XQ}{f:Su->G->Out Fl}(h:∀Y g,f Y g=.ZU):PS X e (Zi K W f):=λO s Y H Q I ⟨a,ρ,g,_,_,p⟩=>by rw[h]at p;exact p.elim
section
variable{W W':XQ}
def bC{b d:Type}{R:List Addr->Hp->α->β->Prop}{e:List Addr->Hp->b->d->Prop}{o:Out α}{k:α->G->Out b}{Q:d->Hp->Prop}(h:post K W e (o.Yi.bind k) ρ H Q):
  post K W' R o ρ H (PB K W R e ρ H k Q):=by
 cases o with
 |ok u g=>exactλv i H1 a h1 f=>⟨i,u,g,a,h1,f,post.from (o:=k u g) h a⟩
 |exc c fs g=>exact h.elim
 |ZU=>exact h
end
section
def RV.flat{w:U}{x y:V}{b:Bool}(c:RV K ρ H u x)(a:RV K ρ H w y)(e:Ak u w=some b):C3 x=true/\C3 y=true/\HW x y=b:=by
 cases u<;>cases w<;>simp![Ak,Y2,reduceCtorEq]at e<;>(subst e;cases c;cases a;exact⟨rfl,rfl,rfl⟩)
def dq:∀{S ws:List U} {vs:List V} {b:Bool},RVs K ρ H S vs->RVs K ρ H ws vs->Aq S ws=some b->b=true
 |[],[],_,b,_,_,e=>by simpa[Aq]using e.symm
 |[],_::_,_,b,_,_,e=>by simp[Aq]at e
 |_::_,[],_,b,_,_,e=>by simp[Aq]at e
 |u::S,w::ws,_,b,h1,h2,e=>by
  let⟨v,r,rfl,j,i⟩:=h1;let⟨k,r',e',h,g⟩:=h2;cases e';simp![Aq]at e;cases a:Ak u w with
  |none=>simp[a]at e
  |some c=>
   cases f:Aq S ws with
   |none=>simp[a,f]at e
   |some d=>
    simp![a,f,Y2]at e;subst e;rw[dq i g f];have:c=true:=by
     cases u<;>cases w<;>simp![Ak,Y2,reduceCtorEq]at a<;>(subst a;cases j;cases h;try simp)
    simp[this]
def IZ:U->Bool
 |.ZL|.bl _|.int _|.str _=>true
 |_=>false
def l9{z:U}{b:Bool}(e:Ak u z=some b):IZ u=true:=by
 cases u<;>first|rfl|(cases z<;>cases e)
def adR{a:U}(c:RV K ρ H u v)(b:RV K ρ H a v)(e:IZ u=true)(d:IZ a=true):u=a:=by
 cases u<;>first|(cases e;done)|(cases c;cases a<;>first|(cases d;done)|(cases b<;>rfl))
def nD{a z c:U}{b h:Bool}(f:RV K ρ H u v)(d:RV K ρ H a v)(e:Ak u z=some b)(g:Ak a c=some h):u=a:=adR f d (l9 e) (l9 g)
def kZ:∀{S f zs:List U} {vs:List V} {b b':Bool},RVs K ρ H S vs->RVs K ρ H f vs->Aq S zs=some b->Aq f zs=some b'->S=f
 |[],_,_,_,_,_,h1,h2,_,_=>by
  cases h1;have:=h2.length;simp at this;exact this.symm
 |_::_,_,[],_,_,_,_,_,e,_=>by simp[Aq]at e
 |u::S,[],_,_,_,_,h1,h2,_,_=>by
  let⟨v,r,rfl,_,_⟩:=h1;cases h2
 |u::S,j::f,z::zs,_,b,b',h1,h2,e,e'=>by
  let⟨v,r,rfl,n,m⟩:=h1;let⟨o,r',q,l,k⟩:=h2;cases q;simp![Aq]at e e';cases g:Ak u z with
  |none=>simp[g]at e
  |some c=>
   cases h:Aq S zs with
   |none=>simp[g,h]at e
   |some d=>
    cases a:Ak j z with
    |none=>simp[a]at e'
    |some c'=>
     cases i:Aq f zs with
     |none=>simp[a,i]at e'
     |some d'=>rw[nD n l g a,kZ m k h i]
def dB{w:U}{b:Bool}(e:Io u w=some b):(∃S ws,u=.ZX S/\w=.ZX ws/\Aq S ws=some b)\/Ak u w=some b:=by
 cases u<;>cases w<;>first|exact .inr e|exact .inl ⟨_,_,rfl,rfl,e⟩
end
section
variable{Y:L2.St}
def zP{w:U}{x y:V}{v h:Value}{b:Bool}(g:RV K ρ H u x)(d:RV K ρ H w y)(f:RelV x v)(c:RelV y h)(e:Ak u w=some b):SeqAt.RcAt A s v h b:=by
 cases u with
 |ZL=>
  cases g;cases f;cases w<;>simp![Ak,Y2,reduceCtorEq]at e
  .subst e;cases d;cases c;exact SeqAt.RcAt.none_none
  .subst e;cases d;cases c;exact SeqAt.RcAt.none_bool _
  .subst e;cases d;let⟨t',rfl⟩:=c;exact SeqAt.RcAt.none_int _ _
  .subst e;cases d;let⟨t',rfl⟩:=c;exact SeqAt.RcAt.none_str _ _
 |bl a=>
  cases g;cases f;cases w<;>simp![Ak,Y2,reduceCtorEq]at e
  .subst e;cases d;cases c;exact SeqAt.RcAt.bool_none _
  .subst e;cases d;cases c;exact SeqAt.RcAt.bool_bool _ _
  .subst e;cases d;let⟨t',rfl⟩:=c;exact SeqAt.RcAt.bool_int _ _ _
  .subst e;cases d;let⟨t',rfl⟩:=c;exact SeqAt.RcAt.bool_str _ _ _
 |int a=>
  cases g;let⟨t,rfl⟩:=f;cases w<;>simp![Ak,Y2,reduceCtorEq]at e
  .subst e;cases d;cases c;exact SeqAt.RcAt.int_none _ _
  .subst e;cases d;cases c;exact SeqAt.RcAt.int_bool _ _ _
  .subst e;cases d;let⟨t',rfl⟩:=c;exact SeqAt.RcAt.int_int _ _ _ _
  .subst e;cases d;let⟨t',rfl⟩:=c;exact SeqAt.RcAt.int_str _ _ _ _
 |str a=>
  cases g;let⟨t,rfl⟩:=f;cases w<;>simp![Ak,Y2,reduceCtorEq]at e
  .subst e;cases d;cases c;exact SeqAt.RcAt.str_none _ _
  .subst e;cases d;cases c;exact SeqAt.RcAt.str_bool _ _ _
  .subst e;cases d;let⟨t',rfl⟩:=c;exact SeqAt.RcAt.str_int _ _ _ _
  .subst e;cases d;let⟨t',rfl⟩:=c;exact SeqAt.RcAt.str_str _ _ _ _
 |_=>simp[Ak]at e
def jK{K:GJ}{ρ:List Addr}:∀{S ws:List U} {xs ys:List V} {vs o:List Value} {b:Bool},RVs K ρ H S xs->RVs K ρ H ws ys->ZH xs vs->ZH ys o->Aq S ws=some b ->
  ∃e:Nat->Bool,vs.length=o.length/\(∀j (h1:j<vs.length) (h2:j<o.length),SeqAt.EqAt A s vs[j] o[j] (e j))/\(List.range vs.length).all e=b
 |[],[],_,_,_,_,b,h1,h2,g,a,e=>by
  cases h1;cases h2;cases g;cases a;simp![Aq,Y2]at e;subst e;exact⟨λ_=>true,rfl,λj h1=>absurd h1 #[3],rfl⟩
 |[],_::_,_,_,_,_,b,h1,h2,g,a,e=>by simp[Aq]at e
 |_::_,[],_,_,_,_,b,h1,h2,g,a,e=>by simp[Aq]at e
 |u::S,w::ws,_,_,_,_,b,h1,h2,g,a,e=>by
  let⟨x,xs,rfl,L,J⟩:=h1;let⟨y,ys,rfl,I,G⟩:=h2;cases g with
  |cons z g=>
  cases a with
  |cons t a=>
  simp![Aq]at e;cases k:Ak u w with
  |none=>simp[k]at e
  |some c=>
   cases r:Aq S ws with
   |none=>simp[k,r]at e
   |some d=>
    simp![k,r,Y2]at e;subst e;let⟨f,l,B,C⟩:=jK J G g a r;let⟨E,D,F⟩:=L.flat I k;refine⟨λj=>match j with|0=>c|j+1=>f j,by simp[l],λj h1 h2=>?_,?_⟩
    .cases j with
     |zero=>subst F;exact gM z t E D
     |succ j=>exact B j (by simpa using h1) (by simpa using h2)
    .subst C
     rw[YZ,Od,Q_,List.all_map]
     rfl
def rW{w:U}{x y:V}{v d:Value}{b:Bool}(I:Z0 X O Y H s)(q:A.units<cLine)(k:RV X.K ρ H u x)(i:RV X.K ρ H w y)(h:RelV x v)(g:RelV y d)(e:Io u w=some b):SeqAt.RcAt A s v d b:=by
 by_cases m:∃S ws,u=.ZX S/\w=.ZX ws
 .obtain ⟨S,ws,rfl,rfl⟩:=m
  let⟨a,xs,rfl,h1,h2⟩:=k;let⟨a',ys,rfl,B,z⟩:=i;cases h;cases g;let⟨ZV,o,p,_⟩:=I.tuple h1.sq;let⟨c,n,p2,_⟩:=I.tuple B.sq;let⟨f,l,r,t⟩:=jK (A:=A.in1) (s:=s) h2 z o n e;have:=SeqAt.RcAt.tuples (A:=A) (s:=s) (l:=a) (b:=a') (items:=ZV.toArray) (items2:=c.toArray) (e:=f) p p2 q (λj h1 h2=>by simpa using r j (by simpa using h1) (by simpa using h2))
  have C:((List.range (min ZV.toArray.size c.toArray.size)).all f&&ZV.toArray.size==c.toArray.size)=b:=by simp[<-l,t]
  rw[C]at this;exact this
 .have e':Ak u w=some b:=by
   cases u<;>cases w<;>first|exact e|exact absurd ⟨_,_,rfl,rfl⟩ m
  exact zP k i h g e'
def iz{w:U}{x y:V}{v h:Value}{b:Bool}(I:Z0 X O Y H s)(k:A.units<cLine)(g:RV X.K ρ H u x)(f:RV X.K ρ H w y)(d:RelV x v)(c:RelV y h)(e:Io u w=some b):SeqAt.EqAt A s v h b:=by
 by_cases i:∃S ws,u=.ZX S/\w=.ZX ws
 .have rc:=rW I k g f d c e
  let⟨S,ws,rfl,rfl⟩:=i;let⟨a,xs,rfl,h1,h2⟩:=g;let⟨a',ys,rfl,m,l⟩:=f;cases d;cases c;by_cases j:a=a'
  .subst j
   obtain rfl:=I.UO h1.sq m.sq;have:=dq h2 l e;subst this;exact Oh _
  .exact SeqAt.EqAt.of_refs j rc
 .have e':Ak u w=some b:=by
   cases u<;>cases w<;>first|exact e|exact absurd ⟨_,_,rfl,rfl⟩ i
  let⟨o,n,p⟩:=g.flat f e';subst p;exact gM d c o n
def xT{w:U}{y:V}{b:Bool}(I:Z0 X O Y H s)(d:RV X.K ρ H u y)(c:RV X.K ρ H w y)(e:Io u w=some b):b=true:=by
 rcases dB e with⟨S,ws,rfl,rfl,e⟩|e
 .obtain ⟨a,xs,rfl,i,h⟩:=d
  let⟨a',ys,q,g,f⟩:=c;cases q;obtain rfl:=I.UO i.sq g.sq;exact dq h f e
 .have:=dq (b:=b&&true) (RVs.one d) (RVs.one c) (by simp![Aq,e])
  simpa using this
def dS{ρ:List Addr}{q:U->U->Option Bool}(n:∀u w x y v m b,RV X.K ρ H u x->RV X.K ρ H w y->RelV x v->RelV y m->q u w=some b->SeqAt.EqAt A s v m b):∀{S ws:List U} {xs ys:List V} {ZV its':List Value} {b:Bool},RVs X.K ρ H S xs->RVs X.K ρ H ws ys->ZH xs ZV->ZH ys its'->Iw q S ws=some b ->
  ∃f:Nat->Bool,ZV.length=its'.length/\(∀j (h1:j<ZV.length) (h2:j<its'.length),SeqAt.EqAt A s ZV[j] its'[j] (f j))/\(List.range ZV.length).all f=b
 |[],[],_,_,_,_,b,h1,h2,g,a,e=>by
  cases h1;cases h2;cases g;cases a;simp![Iw,Y2]at e;subst e;exact⟨λ_=>true,rfl,λj h=>by simp at h,rfl⟩
 |[],_::_,_,_,_,_,_,_,_,_,_,e=>by simp[Iw]at e
 |_::_,[],_,_,_,_,_,_,_,_,_,e=>by simp[Iw]at e
 |u::S,w::ws,_,_,_,_,b,h1,h2,g,a,e=>by
  let⟨x,xs,rfl,D,C⟩:=h1;let⟨y,ys,rfl,B,z⟩:=h2;cases g with
  |cons p g=>
  cases a with
  |cons o a=>
  simp![Iw]at e;cases i:q u w with
  |none=>simp[i]at e
  |some c=>
   cases k:Iw q S ws with
   |none=>simp[i,k]at e
   |some d=>
    simp![i,k,Y2]at e;subst e;let⟨f,l,r,t⟩:=dS n C z g a k;refine⟨λj=>match j with|0=>c|j+1=>f j,by simp[l],λj h1 h2=>?_,?_⟩
    .cases j with
     |zero=>exact n u w x y _ _ c D B p o i
     |succ j=>exact r j (by simpa using h1) (by simpa using h2)
    .subst t
     rw[YZ,Od,Q_,List.all_map]
     rfl
def mD{ρ:List Addr}{q:U->U->Option Bool}(g:∀u w y b,RV X.K ρ H u y->RV X.K ρ H w y->q u w=some b->b=true):∀{S ws:List U} {xs:List V} {b:Bool},RVs X.K ρ H S xs->RVs X.K ρ H ws xs->Iw q S ws=some b->b=true
 |[],[],_,b,_,_,e=>by simpa[Iw]using e.symm
 |[],_::_,_,_,_,_,e=>by simp[Iw]at e
 |_::_,[],_,_,_,_,e=>by simp[Iw]at e
 |u::S,w::ws,_,b,h1,h2,e=>by
  let⟨x,xs,rfl,k,j⟩:=h1;let⟨y,ys,z,i,h⟩:=h2;cases z;simp![Iw]at e;cases a:q u w with
  |none=>simp[a]at e
  |some c=>
   cases f:Iw q S ws with
   |none=>simp[a,f]at e
   |some d=>
    simp![a,f,Y2]at e;rw[<-e,g u w _ c k i a,mD g j h f]
    rfl
def aaL{w:U}{x y:V}{v h:Value}{b:Bool}(I:Z0 X O Y H s)(D:A.units+1<cLine)(o:RV X.K ρ H u x)(n:RV X.K ρ H w y)(m:RelV x v)(k:RelV y h)(e:BC u w=some b):SeqAt.EqAt A s v h b:=by
 by_cases p:∃S ws,u=.ZX S/\w=.ZX ws
 .obtain ⟨S,ws,rfl,rfl⟩:=p
  let⟨a,xs,rfl,h1,h2⟩:=o;let⟨a',ys,rfl,t,r⟩:=n;cases m;cases k;have e:Iw Io S ws=some b:=e;by_cases q:a=a'
  .subst q
   obtain rfl:=I.UO h1.sq t.sq;have:=mD (λu w y b g d i=>xT I g d i) h2 r e;subst this;exact Oh _
  .refine SeqAt.EqAt.of_refs q ?_
   let⟨ZV,g,C,_⟩:=I.tuple h1.sq;let⟨c,d,p2,_⟩:=I.tuple t.sq;let⟨f,l,E,F⟩:=dS (A:=A.in1) (s:=s) (λu w x y v h b g d i B z=>iz (A:=A.in1) I D g d i B z) h2 r g d e;have:=SeqAt.RcAt.tuples (A:=A) (s:=s) (l:=a) (b:=a') (items:=ZV.toArray) (items2:=c.toArray) (e:=f) C p2 (by lia) (λj h1 h2=>by simpa using E j (by simpa using h1) (by simpa using h2))
   have M:((List.range (min ZV.toArray.size c.toArray.size)).all f&&ZV.toArray.size==c.toArray.size)=b:=by simp[<-l,F]
   rw[M]at this;exact this
 .have e':Ak u w=some b:=by
   cases u<;>cases w<;>first|exact e|exact absurd ⟨_,_,rfl,rfl⟩ p
  let⟨J,G,L⟩:=o.flat n e';subst L;exact gM m k J G
end
section
variable{W:XQ}
inductive OpX(X:Cx)(f:U->U->G->Option Bool)(x y:V)(H:Hp)(Q:VK):Prop
 |mk (ρ:List Addr) (g:G) (u w:U) (b:Bool) (hg:RH X.K ρ H g) (r1:RV X.K ρ H u x) (r2:RV X.K ρ H w y) (e:f u w g=some b) (q:Q (.bl b) H)
def abI(i:X.A.units<cLine):OpR X (compareOp .Eq) (OpX X λu w _=>Io u w):=by
 intro O s Y H x y v u Q I d c ⟨ρ,g,a,w,b,j,h,f,e,q⟩;exact rW I i h f d c e X.prog X.w X.xe _ ⟨.bl b,H,I,rfl,q⟩
def j6{x:U}{p:List U×List U}(e:A8 x y g=some p):∃n m,x=.ref n/\y=.ref m/\g[n]?=some (.M p.1)/\g[m]?=some (.M p.2):=by
 unfold A8 at e;split at e
 .split at e
  .split at e
   .split at e
    .rename_i h1 _ _ h2
     cases e;exact⟨_,_,rfl,rfl,h1,h2⟩
    .cases e
   .cases e
  .cases e
 .cases e
def aby(K:X.A.units+2<cLine):OpR X (compareOp .Eq) (OpX X λu w g=>(A8 u w g).bind λp=>Iy p.1 p.2):=by
 intro O s Y H x y v u Q I C B ⟨ρ,g,a,w,b,k,E,D,hl,q⟩;let⟨p,hl,e⟩:=WZ.mp hl;let⟨n,m,rfl,rfl,P,g2⟩:=j6 hl;let⟨a1,vs,T,S,r⟩:=k.M P;let⟨Z,ws,R,JC,o⟩:=k.M g2;let⟨V,rfl,z⟩:=E;rw[T]at z;cases z;let⟨U,rfl,z⟩:=D;rw[R]at z;cases z;cases C;cases B;let⟨ZV,d,h,_⟩:=I.list (.of S);let⟨i,c,p2,_⟩:=I.list (.of JC);unfold Iy at e;split at e
 case isFalse t=>
  cases e;refine SeqAt.eq_list_lengthsAt h.isList p2.isList ?_ (by lia) ⟨.bl false,H,I,rfl,q⟩
  rw[r.length,o.length,d.length,c.length]at t;simpa using t
 let⟨f,l,L,N⟩:=dS (A:=X.A.in1) (s:=s) (λu w x y v W b d c J G F=>aaL (A:=X.A.in1) I (by exact K) d c J G F) r o d c e
 refine SeqAt.eq_listAt (e:=f) h.isList p2.isList (by simp[l]) (by lia) (λj h1 h2=>by simpa using L j (by simpa using h1) (by simpa using h2)) ?_
 refine⟨.bl b,H,I,?_,q⟩;rw[<-N];simp![Xl]
 rfl
def cB{x:V}(h:RH K ρ H g)(b:RV K ρ H u x)(e:items u g=some S):∃a vs,x=.ref a/\(SqL K H a vs\/SqT K H a vs)/\RVs K ρ H S vs:=by
 cases u with
 |ZX xs=>let⟨a,vs,rfl,h1,h2⟩:=b;cases e;exact⟨a,vs,rfl,.inr h1.sq,h2⟩
 |Zv xs=>let⟨a,vs,rfl,h1,h2⟩:=b;cases e;exact⟨a,vs,rfl,.inl h1.sq,h2⟩
 |xn _ xs=>let⟨a,vs,rfl,h1,h2⟩:=b;cases e;exact⟨a,vs,rfl,.inr h1.sq,h2⟩
 |ref n=>
  let⟨a,rfl,c⟩:=b;simp![items]at e;cases eg:g[n]? with
  |none=>simp[eg]at e
  |some o=>
   cases o with
   |M xs=>
    simp![eg,Y2]at e;subst e;let⟨a',vs,h1,h2,d⟩:=h.M eg;rw[c]at h1;cases h1;exact⟨a,vs,rfl,.inl (.of h2),d⟩
   |ZG _=>simp[eg]at e
   |Zs _=>simp[eg]at e
   |dst _=>simp[eg]at e
   |ins _ _=>simp[eg]at e
 |_=>simp[items]at e
def zx{Y:L2.St}{w d:U}{y:V}{c j:Bool}(I:Z0 X O Y H s)(i:RV X.K ρ H w y)(h:RV X.K ρ H d y)(e:Io w u=some c)(b:Io d u=some j):c=j:=by
 have g:w=d:=by
  rcases dB e with⟨S,zs,rfl,rfl,e⟩|e
  .rcases dB b with⟨o,f,rfl,q,b⟩|b
   .cases q
    let⟨a,vs,rfl,n,m⟩:=i;let⟨a',p,q,l,k⟩:=h;cases q;obtain rfl:=I.UO n.sq l.sq;rw[kZ m k e b]
   .cases d<;>simp[Ak]at b
  .rcases dB b with⟨o,f,rfl,rfl,b⟩|b
   .cases w<;>simp[Ak]at e
   .exact nD i h e b
 subst g;rw[e]at b;exact WE b
def jf{a:Type}{e f:a->Bool}:∀{l:List a},(∀z∈l,e z=f z)->l.any e=l.any f
 |[],_=>rfl
 |x::l,h=>by rw[V7,V7,h x XZ,jf λz b=>h z (GC _ b)]
def cz{ρ:List Addr}{H:Hp}{O:List (Addr×Obj)}{Y:L2.St}{s:Shared}{A:Around}{u:U}{x:V}{v:Value}(I:Z0 X O Y H s)(B:A.units<cLine)(t:RV X.K ρ H u x)(r:RelV x v):
  ∀{S:List U} {vs:List V} {ZV:List Value} {b:Bool},RVs X.K ρ H S vs->ZH vs ZV->Iu u S=some b ->
   ∃e:Value->Bool,(∀y∈ZV,SeqAt.EqAt A s y v (e y))/\ZV.any e=b /\∀w y a c,RV X.K ρ H w y->RelV y a->a∈ZV->Io w u=some c->e a=c
 |[],_,_,b,h,q,e=>by
  cases h;cases q;simp![Iu,Y2]at e;subst e;exact⟨λ_=>false,λy m=>by simp at m,rfl,λ_ _ _ _ _ _ n=>by simp at n⟩
 |w::S,_,_,b,h,q,e=>by
  let⟨y,ys,rfl,p,J⟩:=h;cases q with
  |cons k q=>
  rename_i a ZV;simp![Iu]at e;cases i:Io w u with
  |none=>simp[i]at e
  |some c=>
   cases o:Iu u S with
   |none=>simp[i,o]at e
   |some d=>
    simp![i,o,Y2]at e;subst e;let⟨f,F,G,C⟩:=cz I B t r J q o;have m:SeqAt.EqAt A s a v c:=iz I B p t k r i;have same:∀z∈ZV,(if z=a then c else f z)=f z:=λz l=>by
     by_cases g:z=a
     .subst g
      rw[YC rfl];exact(C w y _ c p k l i).symm
     .rw [Yj g]
    refine⟨λz=>if z=a then c else f z,λz l=>?_,?_,λE D j c' h1 h2 n e'=>?_⟩
    .by_cases g:z=a
     .subst g;simpa using m
     .rcases X5.mp l with h|h
      .exact absurd h g
      .simpa [g]using F z h
    .rw [V7,jf same,G]
     simp
    .by_cases g:j=a
     .subst g
      obtain rfl:=h2.inj k;simpa using(zx I p h1 i e')
     .rcases X5.mp n with h|h
      .exact absurd h g
      .simpa [g]using C E D j c' h1 h2 h e'
def acY(n:X.A.units+1<cLine):OpR X (compareOp .In) (OpX X λu w g=>(items w g).bind (Iu u)):=by
 intro O s Y H x y v u Q I l o ⟨ρ,g,a,w,b,z,m,r,k,q⟩;let⟨S,k,e⟩:=WZ.mp k;let⟨p,vs,rfl,c,rs⟩:=cB z r k;cases o;rcases c with c|c
 .obtain ⟨ZV,d,pl,t⟩:=I.list c
  let⟨f,i,j,_⟩:=cz (A:=X.A.in1) I (by exact n) m l rs d e
  exact SeqAt.in_listAt f pl.isList (λw h=>i w (by simpa using h)) ⟨.bl b,H,I,by rw[show ZV.toArray.any f=ZV.any f by simp,j];rfl,q⟩
 .obtain ⟨ZV,d,pl,t⟩:=I.tuple c
  let⟨f,i,j,_⟩:=cz (A:=X.A.in1) I (by exact n) m l rs d e
  exact SeqAt.in_tupleAt f pl (λw h=>i w (by simpa using h)) ⟨.bl b,H,I,by rw[show ZV.toArray.any f=ZV.any f by simp,j];rfl,q⟩
def zg(m:X.A.units+1<cLine):OpR X (compareOp .NotIn) (OpX X λu w g=>(items w g).bind λS=>(Iu u S).map (!·)):=by
 intro O s Y H x y v u Q I k n ⟨ρ,g,a,w,D,t,l,o,C,q⟩;let⟨S,z,B⟩:=WZ.mp C;let⟨b,e,rfl⟩:=Wa.mp B;let⟨p,vs,rfl,c,rs⟩:=cB t o z;cases n;rcases c with c|c
 .obtain ⟨ZV,d,pl,r⟩:=I.list c
  let⟨f,i,j,_⟩:=cz (A:=X.A.in1) I (by exact m) l k rs d e
  exact SeqAt.notIn_listAt f pl.isList (λw h=>i w (by simpa using h)) ⟨.bl (!b),H,I,by rw[show ZV.toArray.any f=ZV.any f by simp,j];rfl,q⟩
 .obtain ⟨ZV,d,pl,r⟩:=I.tuple c
  let⟨f,i,j,_⟩:=cz (A:=X.A.in1) I (by exact m) l k rs d e
  exact SeqAt.notIn_tupleAt f pl (λw h=>i w (by simpa using h)) ⟨.bl (!b),H,I,by rw[show ZV.toArray.any f=ZV.any f by simp,j];rfl,q⟩
end
open PySem PySem.Spec PyProof.Rows L2 PySem.W
def dh{c a:Type}{Z5:Model}{h:Heap}{f:c->a->Sem (ForInStep a)}{g:a->c->a}(I:List c->a->Prop)(d:∀x r b,I (x::r) b->Looks Z5 h (f x b) (.yield (g b x))/\I r (g b x)):∀(l:List c) (b:a),I l b->Looks Z5 h (forIn l b f) (l.foldl g b)
 |[],b,_=>by rw[List.forIn_nil];exact .now
 |x::l,b,hi=>by
  rw[Pj];exact(d x l b hi).1.andThen (dh I d l _ (d x l b hi).2)
def AJ(b:List (Str×Value))(x:Str×Value):List (Str×Value):=if(b.lookup x.1).isNone=true then b++[x]else b
def aQ{a:Type}{n:Str}:∀{b c:List (Str×a)},(b++c).lookup n=match b.lookup n with|some v=>some v|none=>c.lookup n
 |[],c=>rfl
 |(m,v)::b,c=>by
  rw[Rk,WM,WM];cases n==m with
  |true=>rfl
  |false=>exact aQ
def iK{n:Str}{b:List (Str×Value)}{x:Str×Value}:(AJ b x).lookup n=(b++[x]).lookup n:=by
 unfold AJ;split
 .rfl
 .rename_i h
  rw[aQ];cases e:b.lookup n with
  |some v=>rfl
  |none=>
   let⟨m,v⟩:=x;simp![WM,List.lookup_nil];cases q:n==m with
   |false=>rfl
   |true=>rw[eq_of_beq q]at e;rw[e]at h;exact absurd rfl h
def df{n:Str}:∀{l b:List (Str×Value)},(l.foldl AJ b).lookup n=(b++l).lookup n
 |[],b=>by simp
 |x::l,b=>by
  rw[Qy,df,aQ,iK,<-aQ,XS]
  rfl
def ju{a:Type}{n:Str}:∀{l:List (Str×a)},(l.map (·.1)).contains n=false->l.lookup n=none
 |[],_=>rfl
 |(m,v)::l,h=>by
  rw[YT,PF,U7]at h;rw[WM,h.1];exact ju h.2
def fD{a:Type}{n:Str}:∀{l:List (Str×a)},(l.map (·.1)).contains n=true->(l.lookup n).isSome=true
 |[],h=>by cases h
 |(m,v)::l,h=>by
  rw[YT,PF,TL]at h;rw[WM];cases q:n==m with
  |true=>rfl
  |false=>
   rcases h with h|h
   .rw [q]at h;cases h
   .exact fD h
def cF{a:Type}:∀{ns:List Str} {S:List a},(ns.zip S).map (·.1)=ns.take S.length
 |[],_=>by simp
 |_::_,[]=>by simp
 |n::ns,u::S=>by simp[cF (ns:=ns) (S:=S)]
def vt{K:Frag}{Z5:Model}{ns ks:List Str}{S:List Value}{kw:List (Str×Value)}{c:Option (Array Value)}{kd:Str->Value}(X:K.In h)
  (J:fd.params.posonlyargs=[]) (I:fd.params.args.map (·.arg)=ns) (H:fd.params.vararg=none) (G:fd.params.kwonlyargs.map (·.arg)=ks) (F:fd.params.kwarg=none)
  (E:Looks Z5 h (seqItems? fd.defaults) c) (k:(c.getD #[]).toList.length<=ns.length) (W:S.length<=ns.length) (R:∀p∈kw,(ns.contains p.1||ks.contains p.1)=true) (D:Cq (ns.take S.length) (kw.map (·.1))=true)
  (A:∀n∈ns.take (ns.length-(c.getD #[]).toList.length),(ns.take S.length++kw.map (·.1)).contains n=true)
  (B:∀n∈ks,(ns.take S.length++kw.map (·.1)).contains n=false ->∃d,fd.kwdefaults=.ref d/\nsIn K d n=some (some (kd n))) :
  Looks Z5 h (bindArgs fd ⟨S,kw⟩) ((ns++ks).filterMap λn=>((ns.zip S++(kw++((ns.drop (ns.length-(c.getD #[]).toList.length)).zip (c.getD #[]).toList++ks.map λn=>(n,kd n)))).lookup n).map (n,·)):=by
 unfold bindArgs;simp![J,I,H,G,F,QK,SR,Option.isSome_none,XH,W6];have P:∀(l:List (Str×Value)) (b:List (Str×Value)×List (Str×Value)),l.foldl (λb x=>(b.1++[x],b.2)) b=(b.1++l,b.2):=by
  intro l
  induction l with
  |nil=>intro b;simp
  |cons x l ih=>intro b;rw[Qy,ih];simp
 refine Looks.andThen (a:=(ns.zip S++kw,[])) ?l1 ?V
 case l1=>
  have:=P kw (ns.zip S,[]);rw[<-this];refine dh (g:=λ(b:List (Str×Value)×List (Str×Value)) x=>(b.1++[x],b.2)) (λr b=>(∀p∈r,(ns.contains p.1||ks.contains p.1)=true)/\Cq (b.1.map (·.1)) (r.map (·.1))=true) ?_ kw _ ⟨R,by rw[cF];exact D⟩
  rintro x r b ⟨o,f⟩;rw[YT,Cq,Yb,W9]at f;refine⟨?_,λp y=>o p (GC _ y),by rw[SM];exact f.2⟩
  rw[YC (o x XZ),ju f.1];exact .now
 refine E.andThen ?_;have C : ¬ S.length > ns.length:=by lia
 generalize Y:(c.getD #[]).toList=ds at *;have O:List.drop (ds.length-ns.length) ds=ds:=by rw[Nat.sub_eq_zero_of_le k,Ox]
 simp![WY C,QJ,XH,W6,O];have N:List.filter (λn=>((ns.zip S++kw).lookup n).isNone) (ns.take (ns.length-ds.length))=[]:=by
  rw[Qa];intro x w;have:=fD (l:=ns.zip S++kw) (n:=x) (by rw[SM,cF];exact A x w)
  cases q:(ns.zip S++kw).lookup x with
  |none=>rw[q]at this;cases this
  |some v=>simp
 simp![N,List.isEmpty_nil,Bool.not_true,XH,W6];have M:∀(l:List Str) (b:List (Str×Value)×List Str),l.foldl (λ(b:List (Str×Value)×List Str) n=>(AJ b.1 (n,kd n),b.2)) b=((l.map λn=>(n,kd n)).foldl AJ b.1,b.2):=by
  intro l
  induction l with
  |nil=>intro b;rfl
  |cons x l ih=>intro b;rw[Qy,ih];rfl
 refine Looks.andThen (a:=List.foldl AJ (ns.zip S++kw) ((ns.drop (ns.length-ds.length)).zip ds)) ?u ?U
 case u=>
  refine dh (g:=AJ) (λ_ _=>True) ?_ _ _ trivial;rintro x r b -;refine⟨?_,trivial⟩;unfold AJ;split
  .exact .now
  .exact .now
 refine Looks.andThen (a:=((ks.map λn=>(n,kd n)).foldl AJ (List.foldl AJ (ns.zip S++kw) ((ns.drop (ns.length-ds.length)).zip ds)),[])) ?t ?T
 case t=>
  have:=M ks (List.foldl AJ (ns.zip S++kw) ((ns.drop (ns.length-ds.length)).zip ds),[]);rw[<-this];refine dh (g:=λ(b:List (Str×Value)×List Str) n=>(AJ b.1 (n,kd n),b.2)) (λr b=>∀n∈r,(b.1.lookup n).isNone=true ->∃d,fd.kwdefaults=.ref d/\nsIn K d n=some (some (kd n))) ?_ ks _ ?_
  .intro x r b q
   refine⟨?_,λn j hi=>?_⟩
   .dsimp only [AJ]
    split
    .rename_i hi
     let⟨d,Q,JC⟩:=q x XZ hi;rw[Q];exact(looks_nsIn X JC).andThen .now
    .exact .now
   .refine q n (GC _ j) ?_
    have:=iK (n:=n) (b:=b.1) (x:=(x,kd x));dsimp only at hi;rw[this,aQ]at hi;cases e:b.1.lookup n with
    |none=>rfl
    |some v=>rw[e]at hi;cases hi
  .intro n j hi
   refine B n j ?_;dsimp only at hi;rw[df,aQ]at hi;cases e:(ns.zip S++kw).lookup n with
   |some v=>rw[e]at hi;cases hi
   |none=>
    rw[Bool.eq_false_iff];intro z;have:=fD (l:=ns.zip S++kw) (n:=n) (by rw[SM,cF];exact z)
    rw[e]at this;cases this
 simp![List.isEmpty_nil,Bool.not_true,XH,W6];have L:∀n,(List.foldl AJ (List.foldl AJ (ns.zip S++kw) ((ns.drop (ns.length-ds.length)).zip ds)) (ks.map λn=>(n,kd n))).lookup n=(ns.zip S++(kw++((ns.drop (ns.length-ds.length)).zip ds++ks.map λn=>(n,kd n)))).lookup n:=λn=>by
  rw[df,aQ,df,<-aQ];simp![XS]
 simp![L];exact .now
inductive F2{α β:Type}(R:α->β->Prop):List α->List β->Prop
 |nil:F2 R [] []
 |cons {a:α} {b:β} {l:List α} {m:List β}:R a b->F2 R l m->F2 R (a::l) (b::m)
section
variable{R:α->β->Prop}
def PR(R:α->β->Prop)(p:Str×α)(q:Str×β):Prop:=p.1=q.1/\R p.2 q.2
def F2.zip{l:List α}{m:List β}(h:F2 R l m):∀ns:List Str,F2 (PR R) (ns.zip l) (ns.zip m):=by
 induction h with
 |nil=>intro ns;cases ns<;>exact .nil
 |cons r _ ih=>
  intro ns;cases ns with
  |nil=>exact .nil
  |cons n ns=>exact .cons ⟨rfl,r⟩ (ih ns)
def F2.append{l b:List α}{m a:List β}(h:F2 R l m)(h':F2 R b a):F2 R (l++b) (m++a):=by
 induction h with
 |nil=>exact h'
 |cons r _ ih=>exact .cons r ih
def F2.lookup{l:List (Str×α)}{m:List (Str×β)}(h:F2 (PR R) l m)(n:Str):(l.lookup n=none/\m.lookup n=none) \/∃a b,l.lookup n=some a/\m.lookup n=some b/\R a b:=by
 induction h with
 |nil=>exact .inl ⟨rfl,rfl⟩
 |@cons a b l m r _ ih=>
  let⟨c,a⟩:=a;let⟨d,b⟩:=b;let⟨e,r⟩:=r;dsimp only at e r;subst e;rw[WM,WM];cases q:n==c with
  |true=>exact .inr ⟨a,b,rfl,rfl,r⟩
  |false=>exact ih
def F2.filterMap{f:Str->Option α}{c:Str->Option β}(h:∀n,(f n=none/\c n=none) \/∃a b,f n=some a/\c n=some b/\R a b):∀ns:List Str,F2 R (ns.filterMap f) (ns.filterMap c)
 |[]=>.nil
 |n::ns=>by
  rw[VJ,VJ];rcases h n with⟨a,b⟩|⟨x,y,a,b,r⟩
  .rw [a,b];exact F2.filterMap h ns
  .rw [a,b];exact .cons r (F2.filterMap h ns)
end
def dy{R:α->β->Prop}{ns ks kw:List Str}{dd:List (Str×α)}{d:List (Str×β)}{S b:List α}{c a:List β}(g:F2 (PR R) dd d)(f:F2 R S c)(e:F2 R b a):F2 R (place ns ks kw dd S b) (place ns ks kw d c a):=
 F2.filterMap (λn=>((f.zip ns).append ((e.zip kw).append g)).lookup n) _
def jj{a:Type}{f:Str->Option a}:∀{ps:List Str},(ps.filterMap f).length=ps.length->(ps.filterMap λn=>(f n).map (n,·))=ps.zip (ps.filterMap f)
 |[],_=>rfl
 |n::ps,h=>by
  rw[VJ]at h ⊢;rw[VJ];cases e:f n with
  |none=>
   rw[e]at h;have:=List.length_filterMap_le f ps;simp![YZ]at h;lia
  |some v=>
   rw[e]at h;simp![Vg,Rm];rw[jj (by simpa using h)]
def fB{S:List U}:∀{l pre post:List U},S=pre++(l++post)->F2 (λp u=>pick S p=u) ((List.range' pre.length l.length).map Sum.inl) l
 |[],_,_,_=>.nil
 |x::l,pre,post,e=>by
  rw[YZ,List.range'_succ,YT];refine .cons ?_ ?_
  .show S[pre.length]?.getD U.ZL=x
   rw[e,Rk,Wc (GB _)];simp
  .have:=fB (l:=l) (pre:=pre++[x]) (post:=post) (S:=S) (by rw[e];simp)
   simpa using this
def i9{F:KF}{d:Nat}{kw:List Str}{a:List U}(f:S.length=d)(g:a.length=kw.length):perm (S++a) (Ci F d kw)=place F.ns F.ks kw F.dd S a:=by
 have c:∀{l:List (Nat ⊕ U)} {m:List U},F2 (λp u=>pick (S++a) p=u) l m->l.map (pick (S++a))=m:=λ{l m} h=>by
  induction h with
  |nil=>rfl
  |cons r _ ih=>rw[YT,r,ih]
 refine c (dy ?_ ?_ ?_)
 .have:∀l:List (Str×U),F2 (PR λp u=>pick (S++a) p=u) (l.map λp=>(p.1,Sum.inr p.2)) l:=by
   intro l
   induction l with
   |nil=>exact .nil
   |cons x l ih=>exact .cons ⟨rfl,rfl⟩ ih
  exact this _
 .have:=fB (S:=S++a) (l:=S) (pre:=[]) (post:=a) #[3]
  rw[f]at this;exact this
 .have:=fB (S:=S++a) (l:=a) (pre:=S) (post:=[]) #[3]
  rw[f,g]at this;exact this
def F2.vals{S:List Value}(h:ZH vs S):F2 RelV vs S:=by
 induction h with
 |nil=>exact .nil
 |cons r _ ih=>exact .cons r ih
def F2.toVals{S:List Value}(h:F2 RelV vs S):ZH vs S:=by
 induction h with
 |nil=>exact .nil
 |cons r _ ih=>exact .cons r ih
def F2.Ue{K:Frag}{ρ:List Addr}{H:Hp}:∀{S:List U} {vs:List V},RVs K ρ H S vs->F2 (RV K ρ H) S vs
 |[],_,h=>by cases h;exact .nil
 |u::S,_,h=>by let⟨v,r,rfl,h1,h2⟩:=h;exact .cons h1 (F2.Ue h2)
def F2.SA{K:Frag}(h:F2 (RV K ρ H) S vs):RVs K ρ H S vs:=by
 induction h with
 |nil=>rfl
 |cons r _ ih=>exact⟨_,_,rfl,r,ih⟩
structure Xd(K:Frag)(fd:FuncData)(F:KF)(nd:Nat)(Zo:List (Str×V))(dd:List (Str×Value)):Prop where
 h1:fd.params.posonlyargs=[]
 h2:fd.params.args.map (·.arg)=F.ns
 h3:fd.params.vararg=none
 h4:fd.params.kwonlyargs.map (·.arg)=F.ks
 h5:fd.params.kwarg=none
 ds:∃(XD:List Value) (kd:Str->Value),(∀(Z5:Model) (h:Heap),K.In h ->∃od:Option (Array Value),(od.getD #[]).toList=XD/\Looks Z5 h (seqItems? fd.defaults) od)/\XD.length=nd/\nd<=F.ns.length /\
  (∀n∈F.ks,∃d,fd.kwdefaults=.ref d/\nsIn K d n=some (some (kd n)))/\dd=(F.ns.drop (F.ns.length-nd)).zip XD++F.ks.map λn=>(n,kd n)
 rel:F2 (PR RelV) Zo dd
 urel:F2 (PR λu v=>∀ρ H,RV K ρ H u v) F.dd Zo
def Xd.binds{K:Frag}{F:KF}{i d:Nat}{dd:List (Str×Value)}{kw:List Str}(a:Xd K fd F i Zo dd)(j:B2 F i d kw=true)(y:F.ns++F.ks≠[]):
  UL K fd (F.ns++F.ks) kw (λS ws=>if S.length=d/\ws.length=kw.length then place F.ns F.ks kw dd S ws else[]) (λvs zs=>if vs.length=d/\zs.length=kw.length then place F.ns F.ks kw Zo vs zs else[]):=by
 refine⟨λs S ws X f=>?_,λ{vs S zs ws} h g=>?_⟩
 .split at f
  .rename_i v
   let⟨c,k⟩:=v;rw[YC ⟨c,k⟩];simp![B2,Yb,Xq,Wy]at j;let⟨⟨⟨m,l⟩,s3⟩,s4⟩:=j;let⟨C,kd,Z7,l1,t,r,o⟩:=a.ds;have e:(kw.zip ws).map (·.1)=kw:=by rw[cF,k,Qr]
   intro Z5 A E Q q;let⟨B,JN,z⟩:=Z7 Z5 s.heap X;have:=vt (Z5:=Z5) (S:=S) (kw:=kw.zip ws) (kd:=kd) X a.h1 a.h2 a.h3 a.h4 a.h5 z (by rw[JN,l1];exact t) (by rw[c];exact m)
    (λp u=>by have:=l p.1 (by rw[<-e];exact List.mem_map_of_mem u);simpa using this) (by rw[c,e];exact s3) (λn b=>by rw[JN,l1]at b;rw[c,e];exact s4 n b) (λn b _=>r n b)
   refine this.here ?_;rw[JN,l1,<-o];rw[jj (by exact f)]
   exact q
  .exact absurd (RE.mp f.symm) y
 .have x:=h.length
  have w:=g.length;rw[x,w];split
  .exact (dy a.rel (.vals h) (.vals g)).toVals
  .exact .nil
open PySem PySem.Spec PyProof.Rows L2
section
def bq{a b:List Int}:(a.map (Sum.inl:Int->Key)=b.map Sum.inl)↔a=b:=
 ⟨λh=>(List.map_inj_right (λx y e=>Sum.inl.inj e)).mp h,λh=>by rw[h]⟩
def RD.val(k:List Int):∀{Z4:List (List Int×U)} {ws:List (List Key×V)},RD K ρ H Z4 ws->(AZ ws (k.map Sum.inl)).isSome=(AW Z4 k).isSome
 |[],_,h=>by cases h;rfl
 |(k',u)::r,_,h=>by
  let⟨v,s,rfl,h1,h2⟩:=h;by_cases e:k'=k
  .rw [bH (bq.mpr e)]
   simp[AW,Um,e]
  .rw [bJ (λz=>e (bq.mp z)),RD.val k h2]
   simp[AW,Um,e]
def RD.got(k:List Int){u:U}:∀{Z4:List (List Int×U)} {ws:List (List Key×V)},RD K ρ H Z4 ws->AW Z4 k=some u ->∃v,AZ ws (k.map Sum.inl)=some v/\RV K ρ H u v
 |[],_,h,e=>by cases e
 |(k',a)::r,_,h,e=>by
  let⟨v,s,rfl,h1,h2⟩:=h;by_cases z:k'=k
  .rw [bH (bq.mpr z)]
   simp[AW,Um,z]at e;subst e;exact⟨v,rfl,h1⟩
  .rw [bJ (λy=>z (bq.mp y))]
   exact RD.got k h2 (by simpa[AW,Um,z]using e)
def RD.at:∀{Z4:List (List Int×U)} {ws:List (List Key×V)} {i:Nat} {k:List Int} {u:U},RD K ρ H Z4 ws->Z4[i]?=some (k,u) ->∃v,ws[i]?=some (k.map Sum.inl,v)/\RV K ρ H u v
 |[],_,_,_,_,_,e=>by simp at e
 |(k',a)::r,_,0,k,u,h,e=>by
  let⟨v,s,rfl,h1,h2⟩:=h;simp at e;let⟨rfl,rfl⟩:=e;exact⟨v,by simp,h1⟩
 |(k',a)::r,_,i+1,k,u,h,e=>by
  let⟨v,s,rfl,h1,h2⟩:=h;let⟨x,c,b⟩:=RD.at (i:=i) h2 (by simpa using e)
  exact⟨x,by simpa using c,b⟩
def RD.any(k:List Int):∀{Z4:List (List Int×U)} {ws:List (List Key×V)},RD K ρ H Z4 ws->(ws.any λa=>decide (a.1=k.map Sum.inl))=Z4.any λa=>decide (a.1=k)
 |[],_,h=>by cases h;rfl
 |(k',u)::r,_,h=>by
  let⟨v,s,rfl,h1,h2⟩:=h;rw[V7,V7,RD.any k h2];congr 1;exact P8.mpr bq
def RD.len:∀{Z4:List (List Int×U)} {ws:List (List Key×V)},RD K ρ H Z4 ws->Z4.length=ws.length
 |[],_,h=>by cases h;rfl
 |(k',u)::r,_,h=>by
  let⟨v,s,rfl,h1,h2⟩:=h;simp[RD.len h2]
def RD.snoc{k:List Int}{u:U}{v:V}(q:RV K ρ H u v):∀{Z4:List (List Int×U)} {ws:List (List Key×V)},RD K ρ H Z4 ws->RD K ρ H (Z4++[(k,u)]) (ws++[(k.map Sum.inl,v)])
 |[],_,h=>by cases h;exact⟨v,[],rfl,q,rfl⟩
 |(k',a)::r,_,h=>by
  let⟨w,s,rfl,h1,h2⟩:=h;exact⟨w,_,rfl,h1,RD.snoc q h2⟩
def RD.Xi{k:List Int}{u:U}{v:V}(q:RV K ρ H u v):∀{Z4:List (List Int×U)} {ws:List (List Key×V)},RD K ρ H Z4 ws ->
  RD K ρ H (Z4.map λa=>if a.1=k then(a.1,u)else a) (ws.map λa=>if a.1=k.map Sum.inl then(a.1,v)else a)
 |[],_,h=>by cases h;rfl
 |(k',b)::r,_,h=>by
  let⟨w,s,rfl,h1,h2⟩:=h;rw[YT,YT];by_cases e:k'=k
  .rw [YC e,YC (bq.mpr e)];exact⟨v,_,rfl,q,RD.Xi q h2⟩
  .rw [Yj e,Yj (λz=>e (bq.mp z))];exact⟨w,_,rfl,h1,RD.Xi q h2⟩
def RD.put{k:List Int}(q:RV K ρ H u v){b:List (List Int×U)}{a:List (List Key×V)}(h:RD K ρ H b a):RD K ρ H (dput b k u) (putK a (k.map Sum.inl) v):=by
 unfold dput putK;rw[h.any k];split
 .exact h.Xi q
 .exact h.snoc q
def RK.len:∀{Z4:List (Str×U)} {ws:List (Key×V)},RK K ρ H Z4 ws->Z4.length=ws.length
 |[],_,h=>by cases h;rfl
 |(k',u)::r,_,h=>by
  let⟨v,s,rfl,h1,h2⟩:=h;simp[RK.len h2]
def RK.got(k:Str){u:U}:∀{Z4:List (Str×U)} {ws:List (Key×V)},RK K ρ H Z4 ws->BV Z4 k=some u ->∃v,AZ ws (Sum.inr k)=some v/\RV K ρ H u v
 |[],_,h,e=>by cases e
 |(k',a)::r,_,h,e=>by
  let⟨v,s,rfl,h1,h2⟩:=h;by_cases z:k'=k
  .rw [bH (TZ Sum.inr z)]
   simp[BV,Um,z]at e;subst e;exact⟨v,rfl,h1⟩
  .rw [bJ (λy=>z (Oo y))]
   exact RK.got k h2 (by simpa[BV,Um,z]using e)
def RK.any(k:Str):∀{Z4:List (Str×U)} {ws:List (Key×V)},RK K ρ H Z4 ws->(ws.any λa=>decide (a.1=Sum.inr k))=Z4.any λa=>decide (a.1=k)
 |[],_,h=>by cases h;rfl
 |(k',u)::r,_,h=>by
  let⟨v,s,rfl,h1,h2⟩:=h;rw[V7,V7,RK.any k h2];congr 1;exact P8.mpr ⟨Oo,TZ Sum.inr⟩
def RK.snoc{k:Str}{u:U}{v:V}(q:RV K ρ H u v):∀{Z4:List (Str×U)} {ws:List (Key×V)},RK K ρ H Z4 ws->RK K ρ H (Z4++[(k,u)]) (ws++[(Sum.inr k,v)])
 |[],_,h=>by cases h;exact⟨v,[],rfl,q,rfl⟩
 |(k',a)::r,_,h=>by
  let⟨w,s,rfl,h1,h2⟩:=h;exact⟨w,_,rfl,h1,RK.snoc q h2⟩
def RK.Xi{k:Str}{u:U}{v:V}(q:RV K ρ H u v):∀{Z4:List (Str×U)} {ws:List (Key×V)},RK K ρ H Z4 ws ->
  RK K ρ H (Z4.map λa=>if a.1=k then(a.1,u)else a) (ws.map λa=>if a.1=Sum.inr k then(a.1,v)else a)
 |[],_,h=>by cases h;rfl
 |(k',b)::r,_,h=>by
  let⟨w,s,rfl,h1,h2⟩:=h;rw[YT,YT];by_cases e:k'=k
  .rw [YC e,YC (TZ Sum.inr e)];exact⟨v,_,rfl,q,RK.Xi q h2⟩
  .rw [Yj e,Yj (λz=>e (Oo z))];exact⟨w,_,rfl,h1,RK.Xi q h2⟩
def RK.put{k:Str}(q:RV K ρ H u v){b:List (Str×U)}{a:List (Key×V)}(h:RK K ρ H b a):RK K ρ H (DW b k u) (putK a (Sum.inr k) v):=by
 unfold DW putK;rw[h.any k];split
 .exact h.Xi q
 .exact h.snoc q
def ack{c:V}{b:List (Str×U)}(i:RH K ρ H g)(h:RV K ρ H y c)(e:Iv y g=some b):∃n a ws,y=.ref n/\g[n]?=some (.dst b)/\ρ[n]?=some a/\c=.ref a/\H a=some (.dK ws)/\RK K ρ H b ws:=by
 cases y with
 |ref n=>
  simp![Iv]at e;cases eg:g[n]? with
  |none=>rw[eg]at e;cases e
  |some ob=>
   cases ob with
   |dst k=>
    rw[eg]at e;cases e;let⟨a,ws,d,j,rk⟩:=i.dst eg;let⟨a',rfl,f⟩:=h;rw[d]at f;cases f;exact⟨n,_,ws,rfl,eg,d,rfl,j,rk⟩
   |_=>rw[eg]at e;cases e
 |_=>cases e
def dv:∀{S:List U} {ns:List Int} {vs:List V},intsOf S=some ns->RVs K ρ H S vs->vs=ns.map V.int
 |[],_,_,e,h=>by cases e;cases h;rfl
 |u::S,ns,vs,e,h=>by
  let⟨v,r,rfl,h1,h2⟩:=h;cases u with
  |int i=>
   simp![intsOf]at e;let⟨m,a,rfl⟩:=Wa.mp e;cases h1;rw[dv a h2];rfl
  |_=>cases e
def gQ{x:U}{k:List Int}(e:keyOf x=some k)(r:RV K ρ H x v):∃b,v=.ref b/\H b=some (.ZX ((k.map Sum.inl).map Hl)):=by
 cases x with
 |ZX S=>
  let⟨a,vs,rfl,h1,h2⟩:=r;refine⟨a,rfl,?_⟩;rw[show H a=some (.ZX vs)from h1,dv e h2,Uu]
  rfl
 |_=>cases e
def gI{K:GJ}{ρ:List Addr}{H:Hp}:∀{Z4:List (List Int×U)} {ws:List (List Key×V)},RD K ρ H Z4 ws->ws.map (·.1)=Z4.map λa=>a.1.map Sum.inl
 |[],ws,h=>by cases h;rfl
 |(k,u)::r,ws,⟨v,s,e,_,h⟩=>by subst e;rw[YT,YT,gI h]
def ie{h:V}{j:List (List Int×U)}(i:RH K ρ H g)(k:RV K ρ H y h)(b:YB y g=some j):∃a ws,h=.ref a/\Rd H a (.dT ws)/\RD K ρ H j ws:=by
 cases y with
 |ref n=>
  simp![YB]at b;cases eg:g[n]? with
  |none=>rw[eg]at b;cases b
  |some ob=>
   let⟨a',rfl,c⟩:=k;cases ob with
   |ZG l=>
    rw[eg]at b;cases b;let⟨a,ws,e,f,d⟩:=i.ZG eg;rw[e]at c;cases c;exact⟨_,ws,rfl,.inl f,d⟩
   |Zs l=>
    rw[eg]at b;cases b;let⟨a,ob,ws,e,f,d⟩:=i.Zs eg;rw[e]at c;cases c;exact⟨_,ws,rfl,.inr ⟨ob,f⟩,d⟩
   |_=>rw[eg]at b;cases b
 |_=>cases b
def gm{x:U}{h f:V}{o:Option U}(m:RH K ρ H g)(l:RV K ρ H x h)(j:RV K ρ H y f)(e:AS x y g=some o):∃a c,f=.ref a/\DGet H a h c/\c.isSome=o.isSome /\∀u,o=some u ->∃v,c=some v/\RV K ρ H u v:=by
 unfold AS at e;cases d:YB y g with
 |none=>rw[d]at e;cases e
 |some Z4=>
  rw[d]at e;let⟨k,q,rfl⟩:=Wa.mp e;let⟨a,ws,rfl,p,i⟩:=ie m j d;let⟨b,rfl,n⟩:=gQ q l;exact⟨a,_,rfl,.inr ⟨ws,_,b,p,rfl,n,rfl⟩,i.val k,λu z=>i.got k z⟩
end
section
def aa8(d:X.A.units+1<cLine):OpR X (compareOp .In) (λy x H Q=>∃a o,x=.ref a/\DGet H a y o/\Q (.bl o.isSome) H):=by
 intro O s Y H y x v u Q I b c ⟨a,o,e,g,q⟩;subst e;obtain rfl:u=Value.ref a:=c;exact d_in d I g b λs3 f=>⟨.bl o.isSome,H,f,rfl,q⟩
def zG(d:X.A.units+1<cLine):OpR X (compareOp .NotIn) (λy x H Q=>∃a o,x=.ref a/\DGet H a y o/\Q (.bl (!o.isSome)) H):=by
 intro O s Y H y x v u Q I b c ⟨a,o,e,g,q⟩;subst e;obtain rfl:u=Value.ref a:=c;exact aah d I g b λs3 f=>⟨.bl (!o.isSome),H,f,rfl,q⟩
def gY{r c:R2}(h:OpR X f r)(h':OpR X f c):OpR X f (λx y H Q=>r x y H Q\/c x y H Q):=λO s Y H x y v u Q I b a q=>
 q.elim (λq=>h O s Y H x y v u Q I b a q) λq=>h' O s Y H x y v u Q I b a q
def adb{Y:L2.St}{k:List Key}{r:Value}{E:Value->Shared->Prop}{Q:Unit->Shared->Prop}(m:X.A.units+1<cLine)(I:L2.Z0 X O Y H s)(e:H a=some (.dT Z4))(i:H b=some (.ZX (k.map Hl)))(l:Z4.length<sizeLine)(j:RelV v r)
  (h:∀s',L2.Z0 X O Y (upd H a (.dT (putK Z4 k v))) s'->Q Unit.unit s'):wpAny (model X.prog X.w) X.A (dictSet a (.ref b) r) Q E s:=by
 let⟨z,n,xs,d,dd⟩:=tH I.ZJ e;refine wpAny_dictSet_heap (hsz:=by rw[<-Qu d];exact z) (by exact Nat.lt_of_succ_lt m) (bS I.ZJ i) dd λh' u hs=>h _ ?_
 let⟨q,es,ep,f,h2,t,p,_,o⟩:=u;refine gD I (by rw[e];exact True.intro) hs ⟨q,f⟩ ⟨by have:=ft Z4 k v;lia,n,_,(d.put k i j).keeps λc ys g=>?_,q,es,ep,f,h2,t,p,o⟩
 rw[af (bZ g e (λz=>nomatch z))];exact g
def Gi:CF:=λo i v H Q=>∃a H',o=.ref a/\DPut H a i v H'/\Q H'
def set_dict(h:X.A.units+1<cLine):Cd X Gi:=by
 intro O s Y H o i v f k u Q I c d b ⟨a,H',e,g,q⟩;subst e;obtain rfl:f=Value.ref a:=c;exact wV h I g d b λs4 j=>⟨H',j,q⟩
def yP{r d:CF}(h:Cd X r)(h':Cd X d):Cd X (λo i v H Q=>r o i v H Q\/d o i v H Q):=λO s Y H o i v e f u Q I b c a q=>
 q.elim (λq=>h O s Y H o i v e f u Q I b c a q) λq=>h' O s Y H o i v e f u Q I b c a q
end
def insI_perm(a:Int):∀r:List Int,(insI a r).Perm (a::r)
 |[]=>.refl _
 |b::r=>by
  simp![insI];split
  .exact .refl _
  .exact ((insI_perm a r).cons b).trans (.swap a b r)
def sortI_perm:∀r:List Int,(sortI r).Perm r
 |[]=>.refl _
 |a::r=>(insI_perm a _).trans ((sortI_perm r).cons a)
def zj{b:Int}(a:Int):∀{r:List Int},b<=a->(∀x∈r,b<=x) ->∀x∈insI a r,b<=x:=λ{r} h h' x c=>by
 rcases X5.mp ((insI_perm a r).mem_iff.mp c)with rfl|z
 .exact h
 .exact h' x z
def kB(a:Int):∀{r:List Int},r.Pairwise (· <= ·)->(insI a r).Pairwise (· <= ·)
 |[],_=>by simp[insI]
 |b::r,h=>by
  let⟨h1,h2⟩:=Uq.mp h;simp![insI];split
  .rename_i c
   exact Uq.mpr ⟨λx d=>by rcases X5.mp d with rfl|z;exact c;exact Int.le_trans c (h1 x z),h⟩
  .exact Uq.mpr ⟨zj a (by lia) h1,kB a h2⟩
def jy:∀r:List Int,(sortI r).Pairwise (· <= ·)
 |[]=>.nil
 |a::r=>kB a (jy r)
def wg{a b:List Int}(c:a.Perm b)(e:a.Pairwise (· <= ·))(d:b.Pairwise (· <= ·)):a=b:=
 c.eq_of_pairwise (λx y _ _ h1 h2=>Int.le_antisymm h1 h2) e d
def jZ:∀{ns:List Int} {S:List Value},ZH (ns.map V.int) S->IntsAre S ns
 |[],S,h=>by cases h;exact .nil
 |n::ns,S,h=>by
  cases h with
  |cons r t=>
   let⟨k,rfl⟩:=r;exact .cons n k (jZ t)
def yd:∀{ns:List Int} {S:List Value},IntsAre S ns->ZH (ns.map V.int) S:=λh=>fN h
section
def yi:CallR X (.builtin "sorted") (λxs H Q=>∃(p:Addr) (ns:List Int),xs=[.ref p]/\H p=some (.M (ns.map V.int))/\ns.length<64 /\∀l,H l=none->Q (.ref l) (upd H l (.M ((sortI ns).map V.int)))):=by
 intro O s Y H xs S Q I r ⟨p,ns,e,hp,hl,q⟩;subst e;let⟨u,rfl,d⟩:=Oq r;cases d;let⟨ZV,f,pl,z⟩:=I.list (SqL.of hp);have hi:=jZ f;refine sorted_ints pl.isList hi (by rw[hi.length];exact hl) λout a y t o=>?_
 let⟨c,j⟩:=sortedAll_at s.heap ZV out;have k:a=sortI ns:=wg (t.trans (sortI_perm ns).symm) o (jy ns);subst k;have g:H (s.heap.objs.size+1)=none:=I.ZJ.fresh (VC _);refine⟨.ref (s.heap.objs.size+1),_,I.laid (t':=s.toks) (λ_ _=>sortedAll_old) (VC _) (show ObjOk X.prog X.w _ _ _ (.M ((sortI ns).map V.int))from⟨?_,out.toList,c,yd y,?_⟩),rfl,q _ g⟩
 .rw [Zz,(sortI_perm ns).length_eq]
  exact Gz (Rg hl) #[1]
 .exact j
end
section
def aat(F:X.A.units+2<cLine):OpR X (compareOp .NotEq) (λx y H Q=>∃ρ S ws b,RV X.K ρ H (.ZX S) x/\RV X.K ρ H (.ZX ws) y/\Iw Io S ws=some b/\Q (.bl (!b)) H):=by
 intro O s Y H x y v u Q I i h ⟨ρ,S,ws,b,m,k,e,q⟩;let⟨a,xs,rfl,h1,h2⟩:=m;let⟨a',ys,rfl,C,B⟩:=k;cases i;cases h;let⟨ZV,g,r,_⟩:=I.tuple h1.sq;let⟨c,d,p2,_⟩:=I.tuple C.sq;let⟨f,l,t,z⟩:=dS (A:=X.A.in1) (s:=s) (λu w x y v E b g d p o n=>iz (A:=X.A.in1) I (show X.A.units+1<cLine by lia) g d p o n) h2 B g d e
 refine SeqAt.RcNeAt.tuples (A:=X.A) (s:=s) (l:=a) (b:=a') (items:=ZV.toArray) (items2:=c.toArray) (e:=f) r p2 (by lia) (λj h1 h2=>by simpa using t j (by simpa using h1) (by simpa using h2)) X.prog X.w X.xe _ ⟨.bl (!b),H,I,?_,q⟩
 have D:((List.range (min ZV.toArray.size c.toArray.size)).all f&&ZV.toArray.size==c.toArray.size)=b:=by simp[<-l,z]
 rw[D]
 rfl
end
section
variable{E:Value->Shared->Prop}
def uN{Q:Int->Shared->Prop}(h:Q A0 {s with toks:=s.toks+1}):wpAny (model prog w) A (pyHash .none) Q E s:=by
 unfold pyHash;refine ZB ?_;rw[cRoomFor,Yj (by exact GA)];refine ZP ?_
 refine ZB (Qd (Oy s) F.slot_NoneType_hash.lookup ?_);show wpAny _ _ (if(some (Value.builtin "NoneType.__hash__")==some Value.none)=true then _ else _) Q E s
 rw[Yj (by rw[beq_builtin_none];exact GA)]
 refine ZB (Qd (Oy s) F.slot_NoneType_hash.lookup ?_);show wpAny _ _ (callSpecialIfBoundUnlessNone? .none "__hash__" _ >>= _) Q E s;refine ZB (wpAny_callSpecialIfBoundUnlessNone?_slot (Oy s) F.slot_NoneType_hash
  (UA F.slot_NoneType_hash (Oy s) F.entry_NoneType_hash
   (show wpAny _ _ (do ret (<- mkInt A0)) _ _ s from wpAny_ret_mkInt ?_) (F.args_NoneType_hash_1 _)))
 show wpAny _ _ (if(decide (-(2:Int) ^ 63<=A0)&&decide (A0<2 ^ 63))=true then _ else _) Q E _
 rw[YC #[1]]
 exact ZP h
def uG{d:Addr}{o:Obj}{a:Array DictEntry}{ep}{Q:Option Value->Shared->Prop}(c:s.heap.get? d=some o)(g:o.data=.dict a ep)(f:∀e∈a.toList,e.hash≠A0)(h:Q none {s with toks:=s.toks+1}):wpAny (model prog w) A (dictGet d .none) Q E s:=by
 have pl:placesWithHash a.size (λi=>a[i]?.map (·.hash)) A0=[]:=by
  unfold placesWithHash;rw[Qa];intro i _ z;have z:((a[i]?.map (·.hash))==some A0)=true:=z;cases e:a[i]? with
  |none=>rw[e]at z;simp at z
  |some x=>
   rw[e]at z;exact f x (T1.mpr (Array.mem_of_getElem? e)) (by simpa using z)
 unfold dictGet
 try with_reducible refine VO ?_
 refine ZB (uN (ZB ?_));unfold dictFind
 try with_reducible refine VO ?_
 refine ZB (QV (s:={s with toks:=s.toks+1}) c g ?_)
 dsimp only;rw[pl,YC #[2]]
 unfold dictWalkPlain;exact ZP (ZP h)
def aaf{d:Addr}{o:Obj}{es:Array DictEntry}{ep}{Q:Value->Shared->Prop}(td:s.TypeIs (.ref d) "dict")(ho:s.heap.get? d=some o)(hd:o.data=.dict es ep)(hm:(d==sysModules)=false)(hh:∀e∈es.toList,e.hash≠A0)(h:Q (.bool false) {s with toks:=s.toks+1}):
  wpAny (model prog w) A (compareOp .In .none (.ref d)) Q E s:=by
 show wpAny _ _ (do return .bool (<- contains (.ref d) .none)) Q E s
 refine ZB ?_;unfold contains
 try with_reducible refine VO ?_
 refine ZB (Qd td slot_dict_contains.lookup ?_);show wpAny _ _ (if(some (Value.builtin "dict.__contains__")==some Value.none)=true then _ else _) _ E s
 rw[Yj (by rw[beq_builtin_none];exact GA)]
 refine ZB (wpAny_callSpecialUnlessNone?_slot (name:=Str.ofString "__contains__") td slot_dict_contains
  (UA slot_dict_contains td entry_dict_contains ?_ (args_dict_contains _ _)))
 show wpAny _ _ (dictGet d .none >>= _) _ _ s;refine ZB (uG ho hd hh ?_);show wpAny _ _ (Builtin.Dict.pendingKey? d .none >>= _) _ _ _;exact ZB (wpAny_pendingKey_other hm (ZP ⟨_,rfl,TB (ZP h)⟩))
end
section
def ab5{x:U}{b:Bool}(e:inD x y g=some b):(x=.ZL /\∃Z4,YB y g=some Z4/\(∀k∈Z4.map (·.1),Iz k≠A0)/\b=false)\/(AS x y g).map Option.isSome=some b:=by
 cases x with
 |ZL=>
  let⟨Z4,a,e⟩:=WZ.mp e;by_cases h:∀k∈Z4.map (·.1),Iz k≠A0
  .rw [YC h]at e;exact .inl ⟨rfl,Z4,a,h,(WE e).symm⟩
  .rw [Yj h]at e;cases e
 |_=>exact .inr e
def rInN:R2:=λy x H Q=>∃(a:Addr) (ws:List (List Key×V)) (ks:List (List Int)),y=.ZL/\x=.ref a/\Rd H a (.dT ws)/\ws.map (·.1)=ks.map (λk=>k.map Sum.inl)/\(∀k∈ks,Iz k≠A0)/\Q (.bl false) H
def abM:OpR X (compareOp .In) rInN:=by
 intro O s Y H y x v u Q I i j ⟨a,ws,ks,D,C,c,h,n,q⟩;subst D;subst C;obtain rfl:u=Value.ref a:=j;obtain rfl:v=Value.none:=i;let⟨h1,h2,ys,l,o,es,ep,g,t,r,f,p⟩:=(show ObjOk X.prog X.w H s.heap a (.dT ws)from c.ok I.ZJ);have A:ys.map (·.1)=ks.map (λk=>k.map (Sum.inl:Int->Key)):=by
  rw[<-h];clear h1 f p h q c
  induction l with
  |nil=>rfl
  |cons z _ ih=>rw[YT,YT,ih,z.1]
 refine aaf ⟨o,g,t.1⟩ g r h2 (λe d z=>?_) ⟨.bl false,H,I.tok _,rfl,q⟩;rw[f]at d;let⟨y,m,rfl⟩:=XY.mp d;have b:y.1∈ys.map (·.1):=XY.mpr ⟨y,m,rfl⟩;rw[A]at b;let⟨k,hk,B⟩:=XY.mp b;refine n k hk (Eq.trans ?_ z);show reduceHash (Builtin.Tuple.tupleHashOf (k.map hashInt))=reduceHash (Builtin.Tuple.tupleHashOf (y.1.map (AF X.prog X.w).hash));rw[<-B,Uu];rfl
end
section
variable{W:XQ}{Y:L2.St}
def lN{h:Heap}:∀{is:List Int} {ZV:List Value},ZH (is.map V.int) ZV->ReadsAll h ZV (is.map PyData.int) []
 |[],_,r=>by cases r;exact .nil
 |i::is,_,r=>by
  cases r with
  |cons b a=>
   let⟨t,rfl⟩:=b;exact .cons (as:=[]) (.int i t) (lN a)
def ad6(I:Z0 X O Y H s)(h:RH X.K ρ H g){x:V}{v:Value}(e:g[n]?=some (.M S))(r:RV X.K ρ H (.ref n) x)(c:RelV x v):∃(a:Addr) (vs:List V) (ZV:List Value),ρ[n]?=some a/\v=.ref a/\RVs X.K ρ H S vs/\ZH vs ZV/\s.heap.IsList a ZV.toArray:=by
 let⟨a,vs,b,j,i⟩:=h.M e;let⟨a',rfl,z⟩:=r;rw[b]at z;cases z;cases c;let⟨ZV,d,f,_⟩:=I.list (.of j);exact⟨a,vs,ZV,b,rfl,i,d,f.isList⟩
def fY{K:GJ}:∀{xs:List U} {ks:List (List Int)} {vs:List V},A9 xs=some ks->RVs K ρ H xs vs ->∃D:List (List Int×Addr),vs=(D.map λd=>V.ref d.2)/\D.map (·.1)=ks /\∀d∈D,H d.2=some (.ZX (d.1.map V.int))
 |[],ks,vs,h,r=>by cases h;exact⟨[],r,rfl,λd f=>by cases f⟩
 |u::xs,ks,vs,h,⟨v,r,e,j,rs⟩=>by
  simp![A9]at h;cases g:keyOf u with
  |none=>rw[g]at h;cases h
  |some k=>
   rw[g]at h;cases i:A9 xs with
   |none=>rw[i]at h;cases h
   |some o=>
    rw[i]at h;cases h;let⟨D,a,b,c⟩:=fY i rs;cases u with
    |ZX S=>
     let⟨p,ws,rfl,l,n⟩:=j;have hi:intsOf S=some k:=g;have m:ws=k.map V.int:=dv hi n;subst m;refine⟨(k,p)::D,by rw[e,a];rfl,by rw[YT,b],λd f=>?_⟩
     rcases X5.mp f with rfl|f
     .exact l
     .exact c d f
    |_=>cases g
def lb(I:Z0 X O Y H s):∀{D:List (List Int×Addr)} {ZV:List Value},(∀d∈D,H d.2=some (.ZX (d.1.map V.int)))->ZH (D.map λd=>V.ref d.2) ZV ->∃as,ReadsAll s.heap ZV ((D.map (·.1)).map λr=>PyData.tuple (r.map .int)) as
 |[],_,_,q=>by cases q;exact⟨[],.nil⟩
 |d::D,ZV,h,q=>by
  cases q with
  |cons b a=>
   cases b;let⟨it,i,⟨o,g,f,m,c⟩,_⟩:=I.tuple (.of (h d XZ));let⟨as,z⟩:=lb I (λe j=>h e (GC _ j)) a;exact⟨_,.cons (.tuple g f c (lN i)) z⟩
def wJ(d:List (List Int)):(Be d).hasDict=false:=by
 have h1:∀r:List Int,PyData.hasDictAll (r.map PyData.int)=false:=λr=>by induction r with|nil=>rfl|cons i r ih=>simp[PyData.hasDictAll,PyData.hasDict,ih]
 have h2:∀d:List (List Int),PyData.hasDictAll (d.map λr=>PyData.tuple (r.map .int))=false:=λd=>by induction d with|nil=>rfl|cons r d ih=>simp[PyData.hasDictAll,PyData.hasDict,ih,h1]
 simp![Be,PyData.hasDict,h2]
def wO(d:List (List Int)):(Be d).depth<=2:=by
 have h1:∀r:List Int,PyData.depthAll (r.map PyData.int)=0:=λr=>by induction r with|nil=>rfl|cons i r ih=>simp[PyData.depthAll,PyData.depth,ih]
 have h2:∀d:List (List Int),PyData.depthAll (d.map λr=>PyData.tuple (r.map .int))<=1:=λd=>by
  induction d with
  |nil=>exact S_ _
  |cons r d ih=>simp![YT,PyData.depthAll,PyData.depth,h1];lia
 have:=h2 d;simp![Be,PyData.depth];lia
def wY(I:Z0 X O Y H s)(k:RH X.K ρ H g){d:PyData}{x:V}{v:Value}(e:BX u g=some d)(r:RV X.K ρ H u x)(c:RelV x v):∃a as,v=.ref a/\Reads s.heap (.ref a) d as/\d.hasDict=false/\d.depth<=2:=by
   unfold BX at e;let⟨ks,b,rfl⟩:=Wa.mp e;clear e;cases u<;>first|(cases b;done)|skip
   rename_i n;unfold DT at b;cases q:g[n]? with
   |none=>simp![q]at b;cases b
   |some o=>
     simp![q]at b;cases o<;>first|(cases b;done)|skip
     let⟨a,vs,ZV,_,rfl,p,f,o,j,i,m,h⟩:=ad6 I k q r c;let⟨D,rfl,rfl,l⟩:=fY b p;let⟨as,z⟩:=lb I l f;exact⟨a,_,rfl,.list j i h z,wJ _,wO _⟩
inductive Sy(X:Cx)(xs:List V)(H:Hp)(Q:VK):Prop
 |mk (ρ:List Addr) (g:G) (u:U) (x:V) (d:PyData) (e:xs=[x]) (hg:RH X.K ρ H g) (r:RV X.K ρ H u x) (er:BX u g=some d) (h1:d.showable=true) (h2:d.shown.length<=sizeLine) (q:Q (.str d.shown) H)
def call_rpr(b:X.A.guards=some [])(j:X.A.units+64<cLine):CallR X (.builtin "repr") (Sy X):=by
 intro O s Y H xs S Q I rs ⟨ρ,g,u,x,d,e,f,r,i,h1,h2,q⟩;subst e;let⟨v,rfl,c⟩:=Oq rs;let⟨a,m,rfl,z,h,l⟩:=wY I f i r c;exact repr_of_reads' (d:=d) z h1 (λy=>by rw[h]at y;cases y) b (by lia) (λ_ _ e=>e) (λh' t tk k=>⟨.str d.shown,H,I.kept k,⟨_,rfl⟩,q⟩) h2
def imp_rpr(ρ:List Addr)(H:Hp)(g:G)(S:List U)(xs:List V)(Q:VK)(c:RH X.K ρ H g)(a:RVs X.K ρ H S xs)(p:post X.K W (RV X.K) (IG .UZ S g) ρ H Q):Sy X xs H Q:=by
 match S,a with
 |[u],a=>
  let⟨x,r',rfl,f,e⟩:=a;cases e;simp![IG,C5]at p;cases b:BX u g with
  |none=>simp![b]at p;exact p.elim
  |some d=>
   simp![b]at p;by_cases hk:d.showable=true/\d.shown.length<=sizeLine
   .rw [YC hk]at p
    exact⟨ρ,g,u,x,d,rfl,c,f,b,hk.1,hk.2,post.Zb p c rfl⟩
   .rw [Yj hk]at p;exact p.elim
 |[],a=>exact p.elim
 |_::_::_,a=>exact p.elim
def rInt:List V->Hp->VK->Prop:=λxs H Q=>∃b:Bool,xs=[.bl b]/\Q (.int (if b then 1 else 0)) H
def call_int1:CallR X (.type "int") rInt:=by
 intro O s Y H xs S Q I rs ⟨b,e,q⟩;subst e;let⟨v,rfl,a⟩:=Oq rs;cases a;exact call_int_bool ⟨.int (if b then 1 else 0),H,I.tok _,⟨_,rfl⟩,q⟩
def imp_int1(ρ:List Addr)(H:Hp)(g:G)(S:List U)(xs:List V)(Q:VK)(c:RH X.K ρ H g)(a:RVs X.K ρ H S xs)(p:post X.K W (RV X.K) (IG .int S g) ρ H Q):rInt xs H Q:=by
 match S,a with
 |[u],a=>
  let⟨x,r',rfl,b,e⟩:=a;cases e;simp![IG,FK]at p;cases u<;>first|exact p.elim|skip
  cases b;exact⟨_,rfl,post.Zb p c rfl⟩
 |[],a=>exact p.elim
 |_::_::_,a=>exact p.elim
end
section
variable{W:XQ}{a b c:Expr}{a' b' c':E}
def one{R:List Addr->Hp->α->β->Prop}{f:Su->G->Out U}{k:Su->U->G->Out α}{Y:L2.St}{H:Hp}{Q:β->Hp->Prop}
  (e:tR X.K W R (λa g=>(f a g).bind λx g=>k a x g) Y H Q)
  (b:∀a ρ H g u x,RS X.K ρ H a Y->RH X.K ρ H g->RV X.K ρ H u x->post X.K W R (k a u g) ρ H Q->Q2 x H):tE X.K W f Y H Q2:=by
 let⟨a,ρ,g,hs,h,p⟩:=e;exact⟨a,ρ,g,hs,h,(post.bind p).mono λx H1 ⟨i,u,g1,s1,h1,c,d⟩=>b a i H1 g1 u x (hs.step s1) h1 c d⟩
def oneN{j:XQ}{R:List Addr->Hp->α->β->Prop}{f:Su->G->Out U}{k:Su->U->G->Out α}{Y:L2.St}{H:Hp}{Q:β->Hp->Prop}
  (e:tR X.K W R (λa g=>(f a g).Yi.bind λx g=>k a x g) Y H Q)
  (b:∀a ρ H g u x,RS X.K ρ H a Y->RH X.K ρ H g->RV X.K ρ H u x->post X.K W R (k a u g) ρ H Q->Q2 x H):tE X.K j f Y H Q2:=by
 let⟨a,ρ,g,hs,h,p⟩:=e;exact⟨a,ρ,g,hs,h,(bC p).mono λx H1 ⟨i,u,g1,s1,h1,c,d⟩=>b a i H1 g1 u x (hs.step s1) h1 c d⟩
def two{R:List Addr->Hp->α->β->Prop}{f h:Su->G->Out U}{k:Su->U->U->G->Out α}{Y:L2.St}{H:Hp}{Q:β->Hp->Prop}{c:V->V->Hp->Prop}
  (j:tR X.K W R (λa g=>(f a g).bind λx g=>(h a g).bind λy g=>k a x y g) Y H Q)
  (b:∀a ρ H g u w x y,RS X.K ρ H a Y->RH X.K ρ H g->RV X.K ρ H u x->RV X.K ρ H w y->post X.K W R (k a u w g) ρ H Q->c x y H) :
  tE X.K W f Y H λx H1=>tE X.K W h Y H1 λy H2=>c x y H2:=by
 let⟨a,ρ,g,hs,l,p⟩:=j;refine⟨a,ρ,g,hs,l,(post.bind p).mono λx H1 ⟨n,u,g1,s1,h1,e,i⟩=>?_⟩;refine⟨a,n,g1,hs.step s1,h1,(post.bind i).mono λy H2 ⟨m,w,g2,s2,h2,d,p2⟩=>?_⟩;exact b a m H2 g2 u w x y ((hs.step s1).step s2) h2 (RV.step s2 _ _ e) d p2
def aaC(d:X.N[i]?=some x)(a:Vis X.env.scope x)(c:(x==("__debug__" : Str))=false)(k:(x==("__classdict__" : Str))=false):PE X (.Name x pos) (tE X.K W (IM C r (.L i))):=by
 refine(aaW d a c k).imp ?_;rintro Y H Q ⟨j,ρ,g,hs,b,p⟩
 delta IM at p;dsimp only at p
 cases e:j[i]? with
 |none=>simp[e]at p;exact p.elim
 |some o=>
  cases o with
  |none=>simp[e]at p;exact p.elim
  |some u=>
   simp![e]at p;let⟨v,h,f⟩:=hs.val i u e;exact⟨v,h,post.Zb p b f⟩
def cO(h:PE X e (Ho v))(a:∀ρ H,RV X.K ρ H u v):PE X e (tE X.K W (IM C r (.ZZ u))):=
 h.imp λY H Q ⟨c,ρ,g,hs,b,p⟩=>post.Zb (u:=u) p b (a ρ H)
def bU{o:Operator}{c:R2}(l:OpR X (binaryOp o) c)
  (imp:∀u w z x y ρ (H:Hp) Q,RV X.K ρ H u x->RV X.K ρ H w y->Iq op u w=some z->(∀v,RV X.K ρ H z v->Q v H)->c x y H Q)
  (d:∀u w x y ρ (H:Hp) g p Q,RH X.K ρ H g->RV X.K ρ H u x->RV X.K ρ H w y->A8 u w g=some p->post X.K W (RV X.K) (Bl op u w g) ρ H Q->c x y H Q)
  (n:PE X a (tE X.K W (r.ev a'))) (m:PE X b (tE X.K W (r.ev b'))):PE X (.BinOp a o b pos) (tE X.K W (IM C r (.ZT op a' b'))):=by
 refine(adC l n m).imp λY H Q k=>two k λs ρ H g u w x y hs h f c p=>?_;cases i:A8 u w g with
 |some q=>exact d u w x y ρ H g q Q h f c i p
 |none=>
  have p:post X.K W (RV X.K) (Bl op u w g) ρ H Q:=p;unfold Bl at p;rw[i]at p;let⟨z,e,p⟩:=post.lift p;exact imp u w z x y ρ H Q f c e λv j=>post.Zb p h j
def cP(h:op ≠ .add){a:R2}(u w:U)(x y:V)(ρ:List Addr)(H:Hp)(g:G)(q:List U×List U)(Q:VK)(_:RH X.K ρ H g)(_:RV X.K ρ H u x)(_:RV X.K ρ H w y)(b:A8 u w g=some q)(p:post X.K W (RV X.K) (Bl op u w g) ρ H Q):a x y H Q:=by
 unfold Bl at p;rw[b]at p;cases op<;>first|exact absurd rfl h|exact p.elim
def gX{r c:R2}(h:OpR X f r)(h':OpR X f c):OpR X f λx y H Q=>r x y H Q\/c x y H Q:=λO s Y H x y v u Q I b a q=>q.elim (h O s Y H x y v u Q I b a) (h' O s Y H x y v u Q I b a)
def ab0(u w:U)(x y:V)(ρ:List Addr)(H:Hp)(g:G)(q:List U×List U)(Q:VK)(a:RH X.K ρ H g)(h:RV X.K ρ H u x)(f:RV X.K ρ H w y)(b:A8 u w g=some q)(p:post X.K W (RV X.K) (Bl .add u w g) ρ H Q):rCat x y H Q:=by
 unfold Bl at p;rw[b]at p;dsimp only at p;split at p
 .rename_i i
  let⟨n,m,rfl,rfl,j,g2⟩:=j6 b;let⟨A,vs,r,o,d⟩:=a.M j;let⟨t,ws,k,JC,c⟩:=a.M g2;let⟨v,rfl,z⟩:=h;rw[r]at z;cases z;let⟨s,rfl,z⟩:=f;rw[k]at z;cases z;refine⟨A,t,vs,ws,rfl,rfl,o,JC,by rw[<-d.length,<-c.length,UB];unfold Ac at i;lia,λl e=>?_⟩
  exact p (.ref l) _ _ (ZI.alloc e) (a.alloc e (d.append c)) ⟨l,rfl,by rw[<-a.len];simp⟩
 .exact p.elim
def bP{g:Int->Int->Int}{a:Int->Int->Prop}(h:∀u w z,Iq op u w=some z ->∃i j,u=.int i/\w=.int j/\z=.int (g i j)/\a i j)(u w z:U)(x y:V)(ρ:List Addr)(H:Hp)(Q:VK)(c:RV K ρ H u x)(b:RV K ρ H w y)
  (e:Iq op u w=some z) (q:∀v,RV K ρ H z v->Q v H):HG a (λi j=>.int (g i j)) x y H Q:=by
 let⟨i,j,rfl,rfl,rfl,d⟩:=h u w z e;cases c;cases b;exact⟨i,j,rfl,rfl,d,q _ rfl⟩
def nt{g:Int->Int->V}(h:OpR X f (HH g)):OpR X f (HG (λ_ _=>True) g):=λO s Y H x y v u Q I b a ⟨i,j,d,c,_,q⟩=>h O s Y H x y v u Q I b a ⟨i,j,d,c,q⟩
def log2_small(h:n<115792089237316195423570985008687907853269984665640564039457584007913129639936):n.log2<9000:=by
 by_cases a:n=0
 .subst a;decide
 .exact GD ((Nat.log2_lt a).mpr (show n<2 ^ 256 from h)) #[1]
def yM:OpR X (binaryOp .FloorDiv) (HG (λi j=>j≠0 /\ -Am<j/\j<Am) λi j=>.int (i.fdiv j)):=opI λi j _ _ _ _ _ a q=>
 floordiv_int a.1 q (.inl (PyProof.noPylong_of_log2 (log2_small (by have:=a.2;unfold Am at this;omega))))
def zW:OpR X (binaryOp .Mult) (HG (λi j=>CMul i j\/((-Am<i/\i<Am) /\ -Am<j/\j<Am)) λi j=>.int (i*j)):=opI λi j _ _ _ _ _ a q=>by
 rcases a with a|⟨⟨h1,h2⟩,h3,h4⟩
 .exact mul_int q a.ok
 .unfold Am at h1 h2 h3 h4
  exact mul_int q (IntMulOk.of_bits (Gz (intBits_le (k:=256) (show i.natAbs<115792089237316195423570985008687907853269984665640564039457584007913129639936 by omega)) #[1]) (Gz (intBits_le (k:=256) (show j.natAbs<115792089237316195423570985008687907853269984665640564039457584007913129639936 by omega)) #[1]))
def bL{w z:U}(e:Iq op u w=some z):∃i j,u=.int i/\w=.int j:=by
 cases u<;>first|(cases op<;>cases e<;>done)|skip
 cases w<;>first|(cases op<;>cases e<;>done)|skip
 exact⟨_,_,rfl,rfl⟩
def x5{o:Operator}(A:(op=.add/\o = .Add)\/(op=.sub/\o = .Sub)\/(op=.mul/\o = .Mult)\/(op=.fdiv/\o = .FloorDiv)\/(op=.mod/\o = .Mod)\/(op=.pow/\o = .Pow))
  (d:PE X a (tE X.K W (r.ev a'))) (c:PE X b (tE X.K W (r.ev b'))):PE X (.BinOp a o b pos) (tE X.K W (IM C r (.ZT op a' b'))):=by
 rcases A with⟨rfl,rfl⟩|⟨rfl,rfl⟩|⟨rfl,rfl⟩|⟨rfl,rfl⟩|⟨rfl,rfl⟩|⟨rfl,rfl⟩
 .exact bU (gX (nt eS) ace) (λu w z x y ρ H Q t k e q => .inl (bP (λu w z e=>by
   let⟨i,j,rfl,rfl⟩:=bL e;cases e;exact⟨_,_,rfl,rfl,rfl,trivial⟩) u w z x y ρ H Q t k e q)) (λu w x y ρ H g q Q D t k E p=>.inr (ab0 u w x y ρ H g q Q D t k E p)) d c
 .exact bU (nt eU) (bP λu w z e=>by
   let⟨i,j,rfl,rfl⟩:=bL e;cases e
   exact⟨_,_,rfl,rfl,rfl,trivial⟩) (cP #[3]) d c
 .refine bU zW (bP λu w z e=>?_) (cP #[3]) d c
  let⟨i,j,rfl,rfl⟩:=bL e;simp![Iq,Ip,Pd,Y2]at e;let⟨h,rfl⟩:=e;refine⟨_,_,rfl,rfl,rfl,?_⟩;rw[TL,TL,Yb,Yb,Yb,Yb,Yb]at h;unfold CMul;rw[show((2:Int) ^ 64)=BO from rfl];rcases h with(⟨h1,h2⟩|⟨h1,h2⟩)|⟨⟨⟨h1,h2⟩,h3⟩,h4⟩
  .exact .inl (.inl ⟨GI h1,GI h2⟩)
  .exact .inl (.inr ⟨GI h1,GI h2⟩)
  .exact .inr ⟨⟨GI h1,GI h2⟩,GI h3,GI h4⟩
 .refine bU yM (bP λu w z e=>?_) (cP #[3]) d c
  let⟨i,j,rfl,rfl⟩:=bL e;simp![Iq,Ip]at e;refine⟨i,j,rfl,rfl,?_⟩;by_cases f:0<j
  .rw [YC f]at e
   have B:i / j=i.fdiv j:=(Int.fdiv_eq_ediv_of_nonneg i (by lia)).symm
   by_cases h1:j<Am
   .rw [YC h1]at e
    rw[<-B];exact⟨(WE e).symm,by lia,by unfold Am;lia,h1⟩
   .rw [Yj h1]at e;cases e
  .rw [Yj f]at e
   by_cases h1:j=0
   .rw [YC h1]at e;cases e
   .rw [Yj h1]at e
    by_cases h2 : -Am<j
    .rw [YC h2]at e
     exact⟨(WE e).symm,h1,h2,by unfold Am;omega⟩
    .rw [Yj h2]at e;cases e
 .refine bU yN (bP λu w z e=>?_) (cP #[3]) d c
  let⟨i,j,rfl,rfl⟩:=bL e;simp![Iq,Ip]at e;refine⟨i,j,rfl,rfl,?_⟩;by_cases f:0<j
  .rw [YC f]at e
   have B:i % j=i.fmod j:=(Int.fmod_eq_emod_of_nonneg i ()).symm
   rw[<-B];exact⟨(WE e).symm,by omega⟩
  .rw [Yj f]at e
   by_cases h1:j=0
   .rw [YC h1]at e;cases e
   .rw [Yj h1]at e
    exact⟨(WE e).symm,h1⟩
 .exact bU aaz (bP λu w z e=>by
   let⟨i,j,rfl,rfl⟩:=bL e;simp![Iq,Ip,Pd,Y2]at e;let⟨h,rfl⟩:=e;refine⟨_,_,rfl,rfl,rfl,?_⟩;unfold FZ
   omega) (cP #[3]) d c
def aaB(e:PE X a (tE X.K W (r.ev a'))):PE X (.UnaryOp .USub a pos) (tE X.K W (IM C r (.neg a'))):=by
 refine(tj qR e).imp λY H Q c=>one c λf ρ H g u x hs d b p=>?_;cases u<;>simp![]at p<;>first|exact p.elim|skip
 cases b;exact⟨_,rfl,post.Zb p d rfl⟩
def Bt(X:Cx)(op:Cp)(o:CmpOp):Prop:=∃a,OpR X (compareOp o) a /\∀ρ (H:Hp) g u w x y b Q,RH X.K ρ H g->RV X.K ρ H u x->RV X.K ρ H w y->IA op u w g=some b->Q (V.bl b) H->a x y H Q
def du{op:Cp}{o:CmpOp}{f:Int->Int->Bool}(d:OpR X (compareOp o) (HH λi j=>.bl (f i j)))(h:∀u w g b,IA op u w g=some b ->∃i j,u=.int i/\w=.int j/\b=f i j):Bt X op o:=
 ⟨_,d,λρ H g u w x y b Q k c a e q=>by
  let⟨i,j,rfl,rfl,rfl⟩:=h u w g b e;cases c;cases a;exact⟨i,j,rfl,rfl,q⟩⟩
def fO{x:V}(h:RV K ρ H u x):Au u=decide (x=.ZL):=by
 cases u with
 |ZX S=>let⟨a,vs,rfl,_⟩:=h;rfl
 |Zv S=>let⟨a,vs,rfl,_⟩:=h;rfl
 |ref S=>let⟨a,rfl,_⟩:=h;rfl
 |xn _ S=>let⟨a,vs,rfl,_⟩:=h;rfl
 |_=>cases h;rfl
def eN{f:Int->Int->Bool}{w:U}{b:Bool}(e:(match u,w with|.int i,.int j=>some (f i j)|_,_=>none)=some b):∃i j,u=.int i/\w=.int j/\b=f i j:=by
 cases u<;>first|(cases e;done)|skip
 cases w<;>first|(cases e;done)|skip
 exact⟨_,_,rfl,rfl,(WE e).symm⟩
def vz{w:U}(h:Cw u w=true):(u=.ZL/\w=.ZL)\/(∃a b,u=.bl a/\w=.bl b)\/(∃a b,u=.int a/\w=.int b) \/∃a b,u=.str a/\w=.str b:=by
 cases u<;>cases w<;>first|(cases h;done)|exact .inl ⟨rfl,rfl⟩|exact .inr (.inl ⟨_,_,rfl,rfl⟩)|exact .inr (.inr (.inl ⟨_,_,rfl,rfl⟩))|exact .inr (.inr (.inr ⟨_,_,rfl,rfl⟩))
def ad7(s:X.A.units+2<cLine)(op:Cp)(o:CmpOp)(h:(op=.eq/\o = .Eq)\/(op=.ne/\o = .NotEq)\/(op=.lt/\o = .Lt)\/(op=.le/\o = .LtE)\/(op=.gt/\o = .Gt)\/(op=.ge/\o = .GtE)\/(op=.V6/\o = .Is)\/(op=.Vv/\o = .IsNot)\/(op=.W8/\o = .In)\/(op=.V5/\o = .NotIn)):Bt X op o:=by
 rcases h with⟨rfl,rfl⟩|⟨rfl,rfl⟩|⟨rfl,rfl⟩|⟨rfl,rfl⟩|⟨rfl,rfl⟩|⟨rfl,rfl⟩|⟨rfl,rfl⟩|⟨rfl,rfl⟩|⟨rfl,rfl⟩|⟨rfl,rfl⟩
 .refine ⟨_,gX (abI (by lia)) (aby s),λρ H g u w x y b Q i f d e q=>?_⟩
  simp![IA]at e;cases n:A8 u w g with
  |none=>
   rw[n]at e;exact .inl ⟨ρ,g,u,w,b,i,f,d,e,q⟩
  |some p=>rw[n]at e;exact .inr ⟨ρ,g,u,w,b,i,f,d,WZ.mpr ⟨p,n,e⟩,q⟩
 .refine ⟨_,gX aej (aat s),λρ H g u w x y b Q i f d e q=>?_⟩
  cases hs:Cw u w with
  |false=>
   simp![IA,hs,XH,W6]at e;cases u<;>first|(cases e;done)|skip
   cases w<;>first|(cases e;done)|skip
   let⟨c,z,rfl⟩:=Wa.mp e;exact .inr ⟨ρ,_,_,c,f,d,z,q⟩
  |true=>
  refine .inl ?_;rcases vz hs with⟨rfl,rfl⟩|⟨a,c,rfl,rfl⟩|⟨a,c,rfl,rfl⟩|⟨a,c,rfl,rfl⟩<;>simp![IA,Cw,Uc,Ak,Vg,Y2]at e<;>subst e<;>cases f<;>cases d<;>refine⟨rfl,?_⟩<;>
   first|exact q|(rw[lh];exact q)|(rw[qo];exact q)|(rw[lX];exact q)|simpa using q
 .exact du adq λu w g b e=>eN e
 .exact du adK λu w g b e=>eN e
 .exact du ac9 λu w g b e=>eN e
 .exact du adg λu w g b e=>eN e
 .refine ⟨_,abe,λρ H g u w x y b Q i f d e q=>?_⟩
  cases w<;>simp![IA,Au,Uc,XH,W6,Y2,reduceCtorEq]at e
  cases d;subst e;refine⟨rfl,?_⟩;rw[<-fO f];cases u<;>exact q
 .refine ⟨_,zR,λρ H g u w x y b Q i f d e q=>?_⟩
  cases w<;>simp![IA,Au,Uc,XH,W6,Y2,reduceCtorEq]at e
  cases d;subst e;refine⟨rfl,?_⟩;rw[<-fO f];cases u<;>exact q
 .refine ⟨_,gY (acY (by lia)) (gY (aa8 ()) abM),λρ H g u w x y b Q i f d e q=>?_⟩
  simp![IA]at e;cases j:items w g with
  |none=>
   simp![j]at e;refine .inr ?_;rcases ab5 e with⟨rfl,Z4,v,hk,rfl⟩|e
   .obtain ⟨a,ws,rfl,t,d⟩:=ie i d v
    cases f;exact .inr ⟨a,ws,Z4.map (·.1),rfl,rfl,t,by rw[gI d,Uu];rfl,hk,q⟩
   let⟨o,m,rfl⟩:=Wa.mp e;let⟨a,k,l,r,es,_⟩:=gm i f d m;exact .inl ⟨a,k,l,r,by rw[es];exact q⟩
  |some S=>simp![j]at e;exact .inl ⟨ρ,g,u,w,b,i,f,d,WZ.mpr ⟨S,j,e⟩,q⟩
 .refine ⟨_,gY (zg ()) (zG ()),λρ H g u w x y b Q i f d e q=>?_⟩
  simp![IA]at e;cases j:items w g with
  |none=>
   simp![j]at e;let⟨o,m,rfl⟩:=Wa.mp e;let⟨a,k,l,r,es,_⟩:=gm i f d m;exact .inr ⟨a,k,l,r,by rw[es];exact q⟩
  |some S=>
   simp![j]at e;exact .inl ⟨ρ,g,u,w,b,i,f,d,WZ.mpr ⟨S,j,e⟩,q⟩
def abS{op:Cp}{o:CmpOp}(c:Bt X op o)(j:behindInMarks o b=false)(m:PE X a (tE X.K W (r.ev a')))(l:PE X b (tE X.K W (r.ev b'))):PE X (.Compare a [o] [b] pos) (tE X.K W (IM C r (.cmp op a' b'))):=by
 let⟨d,c,imp⟩:=c;refine(aap c m l j).imp λY H Q i=>two i λn ρ H g u w x y hs f h d p=>?_;cases e:IA op u w g with
 |none=>simp![e]at p;exact p.elim
 |some k=>simp![e]at p;exact imp ρ H g u w x y k Q f h d e (post.Zb p f rfl)
def aaU{op:Cp}{o:CmpOp}(h:Bt X op o)(m:behindInMarks o b=false)(q:PE X a (tE X.K W (r.ev a')))(n:PE X b (tE X.K W (r.ev b'))):PT X (.Compare a [o] [b] pos) (tT X.K W (λY g=>(IM C r (.cmp op a' b') Y g).bind λx g=>lift (IB x g) g)):=by
 let⟨i,h,imp⟩:=h;refine(zK h q n m).imp λY H Q l=>?_;have s:tR X.K W Yc (λd g=>(r.ev a' d g).bind λx g=>(r.ev b' d g).bind λy g=>match IA op x y g with|some c=>Out.ok c g|none=>.ZU) Y H Q:=by
  let⟨d,ρ,g,hs,f,p⟩:=l;refine⟨d,ρ,g,hs,f,?_⟩;have e:((IM C r (.cmp op a' b') d g).bind λx g=>lift (IB x g) g)=((r.ev a' d g).bind λx g=>(r.ev b' d g).bind λy g=>match IA op x y g with|some c=>Out.ok c g|none=>.ZU):=by
   delta IM;dsimp only
   cases r.ev a' d g with
   |ok x g1=>
    simp![Out.bind];cases r.ev b' d g1 with
    |ok y g2=>simp![Out.bind];cases IA op x y g2<;>rfl
    |exc _ _ _=>rfl
    |ZU=>rfl
   |exc _ _ _=>rfl
   |ZU=>rfl
  have p2:=p
  change post X.K W Yc ((IM C r (.cmp op a' b') d g).bind λx g=>lift (IB x g) g) ρ H Q at p2
  rw[e]at p2;exact p2
 refine two s λd ρ H g u w x y hs f j i p=>?_;cases e:IA op u w g with
 |none=>simp![e]at p;exact p.elim
 |some k=>simp![e]at p;exact imp ρ H g u w x y k _ f j i e ⟨k,rfl,post.Zb p f rfl⟩
end
section
variable{W:XQ}{a b c:Expr}{a' b' c':E}{ZQ:List Expr}
def okE{Q:VK}(p:post X.K W (RV X.K) (.ok u g) ρ H Q)(a:RH X.K ρ H g)(r:RV X.K ρ H u v):Q v H:=post.Zb p a r
def jD{op i:Cp}{a j:R2}
  (d:∀ρ (H:Hp) g u w x y b Q,RH X.K ρ H g->RV X.K ρ H u x->RV X.K ρ H w y->IA op u w g=some b->Q (V.bl b) H->a x y H Q)
  (c:∀ρ (H:Hp) g u w x y b Q,RH X.K ρ H g->RV X.K ρ H u x->RV X.K ρ H w y->IA i u w g=some b->Q (V.bl b) H->j x y H Q) (Y:L2.St) (H:Hp) (Q:VK) (o:tE X.K W (IM C r (.chain op i a' b' c')) Y H Q) :
  DI a j (tE X.K W (r.ev a')) (tE X.K W (r.ev b')) (tE X.K W (r.ev c')) Y H Q:=by
 refine two o λs ρ H g u w x y hs f m a p=>?_;cases e:IA op u w g with
 |none=>simp![e]at p;exact p.elim
 |some k=>
  refine d ρ H g u w x y k _ f m a e ⟨k,rfl,?_⟩;cases k with
  |false=>simp![e]at p;exact a9 (okE p f rfl)
  |true=>
   simp![e]at p;refine ba ?_;refine⟨s,ρ,g,hs,f,(post.bind p).mono λv H2 ⟨q,z,g2,s2,h2,l,p2⟩=>?_⟩;cases h:IA i w z g2 with
   |none=>simp![h]at p2;exact p2.elim
   |some n=>simp![h]at p2;exact c q H2 g2 w z y v n Q h2 (RV.step s2 _ _ a) l h (okE p2 h2 rfl)
def xr{op g:Cp}{o o':CmpOp}(e:Bt X op o)(f:Bt X g o')(h:lastMarks [o,o'] [b,c]=false)(k:PE X a (tE X.K W (r.ev a')))(j:PE X b (tE X.K W (r.ev b')))(i:PE X c (tE X.K W (r.ev c'))):
  PE X (.Compare a [o,o'] [b,c] pos) (tE X.K W (IM C r (.chain op g a' b' c'))):=by
 let⟨m,e,imp⟩:=e;let⟨l,f,d⟩:=f;exact(xR e f k j i h).imp (jD imp d)
def yj{f:Su->G->Out U}(i:∀Y g u g',f Y g=.ok u g' ->∃c,u=.bl c)(Y:L2.St)(H:Hp)(Q:Bool->Hp->Prop)(e:tT X.K W (λY g=>(f Y g).bind λx g=>lift (IB x g) g) Y H Q):tE X.K W f Y H (λx H1=>∃c,x=.bl c/\Q c H1):=by
 let⟨a,ρ,g,hs,h,p⟩:=e;refine⟨a,ρ,g,hs,h,?_⟩;have hk:=i a g
 change post X.K W Yc ((f a g).bind λx g=>lift (IB x g) g) ρ H Q at p
 revert p hk;cases f a g with
 |ok u g1=>
  intro hk p;let⟨c,rfl⟩:=hk u g1 rfl;intro v j H1 b h1 d;cases d;exact⟨c,rfl,p c j H1 b h1 rfl⟩
 |exc c fs g1=>exactλ_ p=>p
 |ZU=>exactλ_ p=>p
def yq{op a:Cp}(Y:Su)(g:G)(u:U)(g':G)(h:IM C r (.chain op a a' b' c') Y g=.ok u g'):∃c,u=.bl c:=by
 delta IM at h;dsimp only at h
 revert h;cases r.ev a' Y g with
 |ok x g1=>
  simp![Out.bind];cases r.ev b' Y g1 with
  |ok y g2=>
   simp![Out.bind];cases IA op x y g2 with
   |none=>intro h;cases h
   |some k=>
    cases k with
    |false=>intro h;cases h;exact⟨_,rfl⟩
    |true=>
     simp![];cases r.ev c' Y g2 with
     |ok z g3=>
      simp![Out.bind];cases IA a y z g3 with
      |none=>intro h;cases h
      |some k=>intro h;cases h;exact⟨_,rfl⟩
     |exc _ _ _=>intro h;cases h
     |ZU=>intro h;cases h
  |exc _ _ _=>intro h;cases h
  |ZU=>intro h;cases h
 |exc _ _ _=>intro h;cases h
 |ZU=>intro h;cases h
def xB{op h:Cp}{o o':CmpOp}(e:Bt X op o)(f:Bt X h o')(j:lastMarks [o,o'] [b,c]=false)(m:PE X a (tE X.K W (r.ev a')))(l:PE X b (tE X.K W (r.ev b')))(k:PE X c (tE X.K W (r.ev c'))):
  PT X (.Compare a [o,o'] [b,c] pos) (tT X.K W (λY g=>(IM C r (.chain op h a' b' c') Y g).bind λx g=>lift (IB x g) g)):=by
 let⟨p,e,imp⟩:=e;let⟨n,f,d⟩:=f;exact(yr e f m l k j).imp λY H Q i=>jD imp d Y H _ (yj yq Y H Q i)
def ab4(h:PE X a (tE X.K W (r.ev a')))(f:PE X (.BoolOp .And (b::ZQ) pos) (tE X.K W (r.ev b'))):PE X (.BoolOp .And (a::b::ZQ) pos) (tE X.K W (IM C r (.and a' b'))):=by
 refine(acS h f).imp λY H Q e=>one e λi ρ H g u x hs c d p=>?_;cases u with
 |bl k=>
  cases d;refine⟨k,rfl,?_⟩;cases k with
  |true=>exact ba ⟨i,ρ,g,hs,c,p⟩
  |false=>exact a9 (okE p c rfl)
 |_=>exact p.elim
def adi(h:PE X a (tE X.K W (r.ev a')))(f:PE X (.BoolOp .Or (b::ZQ) pos) (tE X.K W (r.ev b'))):PE X (.BoolOp .Or (a::b::ZQ) pos) (tE X.K W (IM C r (.or a' b'))):=by
 refine(aeb h f).imp λY H Q e=>one e λi ρ H g u x hs c d p=>?_;cases u with
 |bl k=>
  cases d;refine⟨k,rfl,?_⟩;cases k with
  |true=>exact ba (okE p c rfl)
  |false=>exact a9 ⟨i,ρ,g,hs,c,p⟩
 |_=>exact p.elim
def oJ{x:V}{k:Bool}(j:RH X.K ρ H g)(d:RV X.K ρ H u x)(e:IB u g=some k):C8 X.K x H k:=by
 have c:∀{S:List U} {vs:List V},RVs X.K ρ H S vs->(!S.isEmpty) = !vs.isEmpty:=λ{S vs} h=>by
  cases S with
  |nil=>cases h;rfl
  |cons u S=>let⟨v,r,rfl,_⟩:=h;rfl
 cases u with
 |ZL=>cases d;cases e;rfl
 |bl b=>cases d;cases e;rfl
 |int i=>cases d;cases e;rfl
 |str s=>simp[IB]at e
 |ZX S=>let⟨a,vs,rfl,h1,h2⟩:=d;cases e;exact .inr (.inl ⟨vs,h1.sq,c h2⟩)
 |Zv S=>let⟨a,vs,rfl,h1,h2⟩:=d;cases e;exact .inl ⟨vs,h1.sq,c h2⟩
 |ref n=>
  let⟨a,rfl,f⟩:=d;simp![IB]at e;cases eg:g[n]? with
  |none=>simp[eg]at e
  |some o=>
   cases o with
   |M xs=>
    simp![eg,Y2]at e;subst e;let⟨a',vs,h1,h2,l⟩:=j.M eg;rw[f]at h1;cases h1;exact .inl ⟨vs,.of h2,c l⟩
   |ZG _=>simp[eg]at e
   |Zs _=>simp[eg]at e
   |dst _=>simp[eg]at e
   |ins _ _=>simp[eg]at e
 |xn _ _=>simp[IB]at e
def aa7(m:PE X a (tE X.K W (r.ev a'))):PE X (.UnaryOp .Not a pos) (tE X.K W (IM C r (.not a'))):=by
 intro O s Y H Q I l;have n:tE X.K W (r.ev a') Y H (λx H1=>∃k,C8 X.K x H1 k/\Q (.bl (!k)) H1):=one l λw ρ H g u x hs d c p=>by
  cases e:IB u g with
  |none=>simp![e]at p;exact p.elim
  |some k=>simp![e]at p;exact⟨k,oJ d c e,okE p d rfl⟩
 refine UnaryOp_ (thn (m O s Y H _ I n) ?_);rintro v h ⟨x,H1,q,c,k,f,j⟩;exact not_of (thn (qw O h Y H1 x v (λb H2=>Q (.bl (!b)) H2) q c ⟨k,f,j⟩) λb t ⟨H2,o,i⟩=>⟨.bl (!b),H2,o,rfl,i⟩)
def xI(ha:PE X a (tE X.K W (r.ev a')))(he:∀whole,isTrue a X.env whole=(do let v<-whole;standAt a.pos;holding [v] (truthy v))):PT X a (tT X.K W (λY g=>(r.ev a' Y g).bind λx g=>lift (IB x g) g)):=by
 refine(ya ha he).imp λY H Q hp=>one (k:=λ_ x g=>lift (IB x g) g) hp λZY ρ H g u x hs hg r1 p=>?_;let⟨k,e,p⟩:=post.lift p;exact⟨k,oJ hg r1 e,post.Zb p hg rfl⟩
def aay(h:PT X a (tT X.K W (r.ts a')))(f:PW X (.BoolOp .And (b::ZQ) pos) (tT X.K W (r.ts b'))):PW X (.BoolOp .And (a::b::ZQ) pos) (tT X.K W (IP r (.and a' b'))):=by
 refine(acF h f).imp ?_;rintro Y H Q ⟨d,ρ,g,hs,e,p⟩;refine⟨d,ρ,g,hs,e,(post.bind (R:=Yc) p).mono λk H1 ⟨j,k',g1,s1,h1,i,c⟩=>?_⟩;subst i;cases k' with
 |true=>exact ba ⟨d,j,g1,hs.step s1,h1,c⟩
 |false=>exact a9 (post.Zb c h1 rfl)
def aec(h:PT X a (tT X.K W (r.ts a')))(f:PW X (.BoolOp .Or (b::ZQ) pos) (tT X.K W (r.ts b'))):PW X (.BoolOp .Or (a::b::ZQ) pos) (tT X.K W (IP r (.or a' b'))):=by
 refine(adV h f).imp ?_;rintro Y H Q ⟨d,ρ,g,hs,e,p⟩;refine⟨d,ρ,g,hs,e,(post.bind (R:=Yc) p).mono λk H1 ⟨j,k',g1,s1,h1,i,c⟩=>?_⟩;subst i;cases k' with
 |true=>exact ba (post.Zb c h1 rfl)
 |false=>exact a9 ⟨d,j,g1,hs.step s1,h1,c⟩
def acb(d:PT X a (tT X.K W (r.ts a'))):PT X (.UnaryOp .Not a pos) (tT X.K W (IP r (.not a'))):=by
 refine(acy d).imp ?_;rintro Y H Q ⟨f,ρ,g,hs,c,p⟩;refine⟨f,ρ,g,hs,c,(post.bind (R:=Yc) p).mono λk H1 ⟨h,k',g1,s1,h1,e,b⟩=>?_⟩;subst e;exact post.Zb b h1 rfl
def nv:PA X [] (XW X.K W (II r.ev [])):=bQ.imp λY H Q ⟨b,ρ,g,hs,a,p⟩=>post.Zb (R:=RVs X.K) (u:=[]) p a rfl
def kP(i:PE X a (tE X.K W (r.ev a')))(e:PA X es (XW X.K W (II r.ev es')))(b:starEach (a::es) X.env=(false,eval a X.env)::starEach es X.env):PA X (a::es) (XW X.K W (II r.ev (a'::es'))):=by
 refine(aW i e b).imp λY H Q f=>one f λj ρ H g u x b h c p=>?_;refine⟨j,ρ,g,b,h,(post.bind p).mono λxs H1 ⟨k,S,g1,s1,h1,rs,d⟩=>?_⟩;exact post.Zb (R:=RVs X.K) d h1 ⟨x,xs,rfl,RV.step s1 _ _ c,rs⟩
def szl(a:RVs X.K ρ H S vs)(h:S.length<=Ac):vs.length<=sizeLine:=by
 rw[<-a.length,UB];unfold Ac at h;lia
def acd{k:Nat}(h:PA X es (XW X.K W (II r.ev es'))):PE X (.Tuple es k pos) (tE X.K W (IM C r (.ZX es'))):=by
 refine(aaA h).imp ?_;rintro Y H Q ⟨e,ρ,g,hs,d,p⟩;refine⟨e,ρ,g,hs,d,(post.bind (R:=RVs X.K) p).mono λxs H1 ⟨f,S,g1,s1,h1,rs,a⟩=>?_⟩;by_cases c:S.length<=Ac
 .rw [YC c]at a
  refine⟨szl rs c,λq b=>?_⟩;exact a _ f _ (ZI.fresh b) (h1.step_fresh b) ⟨q,xs,rfl,upd_same,RVs.step (ZI.fresh b) _ _ rs⟩
 .rw [Yj c]at a;exact a.elim
def aO{xs:List V}{Q:VK}(p:post X.K W (RV X.K) (alloc (.M S) g) ρ H Q)(b:RH X.K ρ H g)(c:RVs X.K ρ H S xs)(q:Addr)(a:H q=none):Q (.ref q) (upd H q (.M xs)):=by
 refine p (.ref q) (ρ++[q]) _ (ZI.alloc a) (b.alloc a c) ⟨q,rfl,?_⟩;rw[<-b.len];simp
def ab7(h:PA X es (XW X.K W (II r.ev es'))):PE X (.List es pos) (tE X.K W (IM C r (.M es'))):=by
 refine(acz h).imp ?_;rintro Y H Q ⟨e,ρ,g,hs,d,p⟩;refine⟨e,ρ,g,hs,d,(post.bind (R:=RVs X.K) p).mono λxs H1 ⟨f,S,g1,s1,h1,rs,a⟩=>?_⟩;by_cases b:S.length<=Ac
 .rw [YC b]at a
  exact⟨szl rs b,λq c=>aO a h1 rs q c⟩
 .rw [Yj b]at a;exact a.elim
def zt{i:Int}(a:RVs X.K ρ H S vs)(e:IC S i=some u):∃v,atI vs i=some v/\RV X.K ρ H u v:=by
 unfold IC atI at e;unfold atI;rw[<-a.length];cases b:ixN S.length i with
 |none=>simp[b]at e
 |some j=>
  rw[b]at e;let⟨v,h1,h2⟩:=a.get (show S[j]?=some u from e);exact⟨v,h1,h2⟩
def aas(D:X.A.units+1<cLine)(s:PE X a (tE X.K W (r.ev a')))(F:PE X b (tE X.K W (r.ev b')))(B:DG b):PE X (.Subscript a b pos) (tE X.K W (IM C r (.idx a' b'))):=by
 refine(adw ((aaj.or ac5).or (zS D)) s F B).imp λY H Q E=>two E λJ ρ H g u w x y B c m l p=>?_;cases w with
 |int i=>
  cases l;cases e:items u g with
  |none=>simp![e]at p;exact p.elim
  |some S=>
   simp![e]at p;let⟨z,j,p⟩:=post.lift p;let⟨q,vs,rfl,h,rs⟩:=cB c m e;let⟨v,ev,f⟩:=zt rs j;rcases h with h|h
   .exact .inl (.inl ⟨q,vs,i,v,rfl,rfl,h,ev,okE p c f⟩)
   .exact .inl (.inr ⟨q,vs,i,v,rfl,rfl,h,ev,okE p c f⟩)
 |ZX S=>
  let⟨z,j,p⟩:=post.lift p;let⟨o,t,d⟩:=WZ.mp j;let⟨q,I,rfl,G,_,got⟩:=gm c l m t;let⟨v,rfl,f⟩:=got z d;exact .inr ⟨q,v,rfl,G,okE p c f⟩
 |str k=>
  let⟨z,j,p2⟩:=post.lift p;clear p;let⟨Z4,t,d⟩:=WZ.mp j;let⟨n,q,ws,rfl,_,_,rfl,s,rk⟩:=ack c m t;let⟨v,ev,f⟩:=rk.got k d;cases l;exact .inr ⟨q,v,rfl,by rw[<-ev];exact DGet.k (k:=Sum.inr k) s,okE p2 c f⟩
 |_=>exact p.elim
def da{K:GJ}{ρ:List Addr}{H:Hp}:∀ns:List Int,RVs K ρ H (ns.map U.int) (ns.map V.int)
 |[]=>rfl
 |n::ns=>⟨.int n,ns.map V.int,rfl,rfl,da ns⟩
def se_bi{b:Bi}{f:Str}{c:Pos}{a:List V->Hp->VK->Prop}(h:PE X (.Call (.Name f c) (e::es) [] pos) (HP a (XW X.K W (II r.ev es'))))
  (imp:∀ρ H g S xs Q,RH X.K ρ H g->RVs X.K ρ H S xs->post X.K W (RV X.K) (IG b S g) ρ H Q->a xs H Q):PE X (.Call (.Name f c) (e::es) [] pos) (tE X.K W (IM C r (.bi b es'))):=by
 refine h.imp ?_;rintro Y H Q ⟨j,ρ,g,hs,i,p⟩;exact⟨j,ρ,g,hs,i,(post.bind (R:=RVs X.K) p).mono λxs H1 ⟨k,S,g1,s1,h1,rs,d⟩=>imp k H1 g1 S xs Q h1 rs d⟩
def imp_len(ρ:List Addr)(H:Hp)(g:G)(S:List U)(xs:List V)(Q:VK)(b:RH X.K ρ H g)(a:RVs X.K ρ H S xs)(p:post X.K W (RV X.K) (IG .len S g) ρ H Q):
  ∃p ys,xs=[.ref p]/\(SqL X.K H p ys\/SqT X.K H p ys)/\Q (.int ys.length) H:=by
 match S,a with
 |[u],a=>
  let⟨x,r',rfl,d,e⟩:=a;cases e;simp![IG,C6,BK]at p;cases e:items u g with
  |none=>simp![e]at p;exact p.elim
  |some zs=>
   simp![e]at p;let⟨q,vs,rfl,f,c⟩:=cB b d e;exact⟨q,vs,rfl,f,by rw[<-c.length];exact okE p b rfl⟩
 |[],_=>exact p.elim
 |_::_::_,_=>exact p.elim
def imp_abs(ρ:List Addr)(H:Hp)(g:G)(S:List U)(xs:List V)(Q:VK)(c:RH X.K ρ H g)(a:RVs X.K ρ H S xs)(p:post X.K W (RV X.K) (IG .abs S g) ρ H Q):
  ∃i,xs=[.int i]/\Q (.int (if i<0 then -i else i)) H:=by
 match S,a with
 |[u],a=>
  let⟨x,r',rfl,b,e⟩:=a;cases e;cases u with
  |int i=>cases b;exact⟨i,rfl,okE p c rfl⟩
  |_=>exact p.elim
 |[],_=>exact p.elim
 |_::_::_,_=>exact p.elim
def wU{xs:List V}(j:RH X.K ρ H g)(b:RVs X.K ρ H S xs)(e:Bn S g=some ns):∃p,xs=[.ref p]/\H p=some (.M (ns.map V.int)):=by
 match S,b with
 |[],_=>cases e
 |_::_::_,_=>unfold Bn at e;split at e<;>first|cases e|(rename_i h;cases h)
 |[u],b=>
  let⟨x,r',rfl,f,e'⟩:=b;cases e';cases u with
  |ref n=>
   simp![Bn]at e;cases eg:g[n]? with
   |none=>rw[eg]at e;cases e
   |some ob=>
    cases ob with
    |M S=>
     rw[eg]at e;let⟨a,vs,i,k,d⟩:=j.M eg;let⟨a',rfl,c⟩:=f;rw[i]at c;cases c;exact⟨a,rfl,by rw[k,dv e d]⟩
    |_=>rw[eg]at e;cases e
  |_=>cases e
def zE:PE X (.Dict [] [] pos) (tE X.K W (IM C r .Wp)):=by
 refine(yv).imp ?_;rintro Y H Q ⟨c,ρ,g,hs,b,p⟩ q a;refine p (.ref q) (ρ++[q]) _ (ZI.alloc a) (b.S7 a ⟨[],rfl,rfl⟩) ⟨q,rfl,?_⟩;rw[<-b.len];simp
end
def fX(a:List Int):∀{r:List (List Int)} {x:List Int},x∈AU a r↔x=a\/x∈r
 |[],x=>by simp[AU]
 |b::r,x=>by
  unfold AU;split
  .rename_i e;subst e;simp
  .split
   .simp
   .rw [X5,fX a,X5]
    constructor
    .rintro (h|h|h)
     .exact .inr (.inl h)
     .exact .inl h
     .exact .inr (.inr h)
    .rintro (h|h|h)
     .exact .inr (.inl h)
     .exact .inl h
     .exact .inr (.inr h)
def bz:∀{l:List (List Int)} {x:List Int},x∈IE l↔x∈l
 |[],x=>Yq
 |a::l,x=>by
  show x∈AU a (IE l)↔_;rw[fX,bz,X5]
def kL(a:List Int):∀{r:List (List Int)},r.Pairwise (λx y=>Ah x y=true)->(AU a r).Pairwise λx y=>Ah x y=true
 |[],_=>by simp[AU]
 |b::r,h=>by
  let⟨h1,h2⟩:=Uq.mp h;unfold AU;split
  .exact h
  .rename_i f
   split
   .rename_i d
    refine Uq.mpr ⟨λx c=>?_,h⟩;rcases X5.mp c with rfl|c
    .exact d
    .exact cL d (h1 x c)
   .rename_i d
    refine Uq.mpr ⟨λx c=>?_,kL a h2⟩;rcases(fX a).mp c with rfl|c
    .cases e:Ah b x with
     |true=>rfl
     |false=>exact absurd (cH (by simpa using d) e) f
    .exact h1 x c
def bA:∀l:List (List Int),(IE l).Pairwise λx y=>Ah x y=true
 |[]=>.nil
 |a::l=>kL a (bA l)
def qC:∀{a:List (List Int)},a.Pairwise (λx y=>Ah x y=true)->a.Nodup:=λh=>h.imp λ{x y} hl e=>by rw[e,cI]at hl;cases hl
def acZ{ks l:List (List Int)}(a:l.Nodup)(h:∀x,x∈l↔x∈ks):l.length=(IE ks).length:=
 ((Pu a (qC (bA ks))).mpr λx=>(h x).trans bz.symm).length_eq
def lI(a:List Int):∀r:List (List Int),(AU a r).length<=r.length+1
 |[]=>GB _
 |b::r=>by
  unfold AU;split
  .exact VC _
  .split
   .exact GB _
   .rw [YZ,YZ];exact P1 (lI a r)
def il:∀ks:List (List Int),(IE ks).length<=ks.length
 |[]=>GB _
 |a::ks=>Gz (lI a (IE ks)) (P1 (il ks))
def dD:∀{a b:List (List Int)},a.Pairwise (λx y=>Ah x y=true)->b.Pairwise (λx y=>Ah x y=true)->(∀x,x∈a↔x∈b)->a=b
 |[],[],_,_,_=>rfl
 |[],y::b,_,_,h=>absurd ((h y).mpr XZ) #[3]
 |x::a,[],_,_,h=>absurd ((h x).mp XZ) #[3]
 |x::a,y::b,u,t,h=>by
  let⟨g,A⟩:=Uq.mp u;let⟨f,w⟩:=Uq.mp t;have e:x=y:=by
   rcases X5.mp ((h x).mp XZ)with e|k
   .exact e
   .rcases X5.mp ((h y).mpr XZ)with e|j
    .exact e.symm
    .have:=cL (f x k) (g y j)
     rw[cI]at this;cases this
  subst e;have d:∀{l:List (List Int)},(∀z∈l,Ah x z=true)->x ∉ l:=λr o=>by have:=r x o;rw[cI]at this;cases this
  rw[dD A w λz=>?_];constructor
  .intro c
   rcases X5.mp ((h z).mp (GC _ c))with e|q
   .subst e;exact absurd c (d g)
   .exact q
  .intro c
   rcases X5.mp ((h z).mpr (GC _ c))with e|q
   .subst e;exact absurd c (d f)
   .exact q
section
def items_int{P:Program}{w:World}:∀{k:List Int} {S:List Value},ZH (k.map V.int) S->ItemsAre (intKind P w) k S
 |[],S,h=>by cases h;exact .nil
 |i::k,S,h=>by
  cases h with
  |cons r t=>
   let⟨u,rfl⟩:=r;exact .cons (intKind_is _ _ _ _) (items_int t)
def gR{k:List Int}(a:HOk P w H h)(e:H b=some (.ZX (k.map V.int))):IsT P w h k b:=by
 let⟨_,ZV,r,o,ho,d,n,c⟩:=a b _ e;exact⟨o,ZV.toArray,n,ho,d,c,items_int r⟩
def TupD(H:Hp)(D:Y4):Prop:=∀d∈D,H d.2=some (.ZX (d.1.map V.int))/\d.1≠[]
def DZ(X:Cx):List V->Hp->VK->Prop:=λxs H Q=>∃(p:Addr) (a:Y4),xs=[.ref p]/\(SqL X.K H p (a.map λd=>V.ref d.2)\/SqT X.K H p (a.map λd=>V.ref d.2))/\TupD H a/\a.length<=300/\(∀d∈a,∀e∈a,Iz d.1=Iz e.1->d.1=e.1) /\
 ∀(Z6:Addr) (D:Y4),H Z6=none->(∀d∈D,d∈a)->(∀d∈a,∃e∈D,e.1=d.1)->(D.map (·.1)).Nodup->Q (.ref Z6) (upd H Z6 (.ext (SInv X.prog X.w Z6 D)))
def SInv.XO{Z6:Addr}{D:Y4}(b a:Heap)(i:SInv P w Z6 D b)(k:∀o,b.get? Z6=some o->a.get? Z6=some o):SInv P w Z6 D a:=
 let⟨o,es,ep,t,Z,ho,r⟩:=i;⟨o,es,ep,t,Z,k o ho,r⟩
def xa(B:X.calm=true)(z:X.A.units+3<cLine):CallR X (.type "set") (DZ X):=by
 intro O s Y H xs S Q I r ⟨p,c,e,hp,hT,hn,E,q⟩;subst e;let⟨u,rfl,y⟩:=Oq r;cases y;obtain⟨ZV,f,pl⟩:∃ZV:List Value,ZH (c.map λd=>V.ref d.2) ZV/\(s.heap.IsList p ZV.toArray\/s.heap.IsTuple p ZV.toArray):=by
  rcases hp with hp|hp
  .obtain ⟨ZV,f,pl,_⟩:=I.list hp;exact⟨ZV,f,.inl pl.isList⟩
  .obtain ⟨ZV,f,pl,_⟩:=I.tuple hp;exact⟨ZV,f,.inr pl⟩
 have g:ZV.length=c.length:=by rw[<-f.length,Zz]
 let key:Nat->List Int×Addr:=λi=>(c[i]?).getD ([],0)
 have hk:∀i,i<c.length->key i∈c/\c[i]?=some (key i):=λi hi=>by
  have e:c[i]?=some c[i]:=Y9 hi;have m:key i=c[i]:=by show(c[i]?).getD _=_;rw[e];rfl
  rw[m];exact⟨Tj hi,e⟩
 have D:∀d∈c,∃i,i<c.length/\d=key i:=λd hd=>by
  let⟨i,hi,e⟩:=Qs hd;exact⟨i,hi,by rw[<-e];have:=(hk i hi).2;rw[Y9 hi]at this;exact WE this⟩
 refine vY (key:=key) pl (I.ok.hd B) z (λi v k=>?_) (λi hi=>?_) (λi j hi h e=>?_) (by rw[Xl,g];exact hn) λh' tk l F=>?_
 .rw [List.getElem?_toArray]at k
  have hi:i<c.length:=by rw[<-g];exact(YG.mp k).1
  let⟨G,n,m⟩:=f.get (i:=i) (x:=V.ref (key i).2) (by rw[Wh,(hk i hi).2];rfl)
  rw[k]at n;cases n;exact m
 .rw [Xl,g]at hi
  exact gR I.ZJ (hT _ (hk i hi).1).1
 .rw [Xl,g]at hi h
  exact E _ (hk i hi).1 _ (hk j h).1 e
 .have C:ZV.toArray.size=c.length:=by rw[Xl,g]
  rw [C] at l;refine ⟨.ref s.heap.objs.size,_,I.laid (t':=tk) F (GB _) (show ObjOk X.prog X.w _ h' _ (.ext (SInv X.prog X.w s.heap.objs.size (dd key c.length))) from ⟨l,?_,λh1 h2 a b=>SInv.XO h1 h2 a b⟩),rfl,
   q _ (dd key c.length) (I.ZJ.fresh (GB _)) (λd hd=>?_) (λd hd=>?_) (sm key _)⟩
  .obtain ⟨o,es,ep,t,Z,ho,_⟩:=l;exact⟨o,ho⟩
  .obtain ⟨j,h,e⟩:=cR key _ d hd
   rw[e];exact(hk j h).1
  .obtain ⟨i,hi,e⟩:=D d hd
   rw[e];exact nh key _ i hi
def DJ(X:Cx):List V->Hp->VK->Prop:=λxs H Q=>∃(Z6:Addr) (D:Y4),xs=[.ref Z6]/\H Z6=some (.ext (SInv X.prog X.w Z6 D))/\TupD H D/\D.length<100000 /\
 ∀(l:Addr) (a:Y4),H l=none->a.Perm D->BZ a->Q (.ref l) (upd H l (.M (a.map λd=>V.ref d.2)))
def dw:∀D:Y4,ZH (D.map λd=>V.ref d.2) (refs D)
 |[]=>.nil
 |d::D=>.cons rfl (dw D)
def wR(z:X.calm=true)(y:X.A.units+2<cLine):CallR X (.builtin "sorted") (DJ X):=by
 intro O s Y H xs S Q I r ⟨Z6,D,e,B,hT,hn,q⟩;subst e;let⟨u,rfl,m⟩:=Oq r;cases m;let⟨⟨o,es,ep,t,Z,ho,P⟩,_,_⟩:=I.ZJ Z6 _ B;have j:es.size=D.length:=by rw[P.tb.len,P.len]
 refine je (zv P Z6) (I.ok.hd z) y ho (by lia) λvs J x=>?_
 have pm:(Ih X.w Z6 ep es).Perm (D.map λd=>(Zm X.prog X.w d.1,Value.ref d.2)):=by
  refine(gj X.w Z6 ep es).trans ?_;rw[P.tb.he];exact P.pm
 let⟨g,b,F⟩:=jq pm D rfl;have C:vs=refs g:=by
  apply List.ext_getElem?;intro i;rcases Qp i vs.length with hi|hi
  .obtain ⟨e,a,E⟩:=x i vs[i] (Y9 hi)
   rw[Y9 hi,E];unfold refs;rw[F,Wh]at a;rw[Wh];cases k:g[i]? with
   |none=>rw[k]at a;cases a
   |some d=>rw[k]at a;cases a;rfl
  .rw [Qg hi,Qg]
   unfold refs;rw[Zz,b.length_eq];lia
 refine⟨g,C,λd hd=>?_,λh1 h' tk c f h n v p G=>?_⟩
 .have:=hT d (b.mem_iff.mp hd)
  exact⟨gR I.ZJ this.1,this.2⟩
 .have l:Z0 X O Y H {s with heap:=h1,toks:=tk}:=I.kept v
  refine⟨.ref h1.objs.size,_,l.laid (t':=tk) p (GB _) (show ObjOk X.prog X.w _ h' _ (.M (f.map λd=>V.ref d.2))from⟨?_,refs f,c,dw f,G⟩),rfl,q _ f (l.ZJ.fresh (GB _)) (h.trans b) n⟩;rw[Zz,(h.trans b).length_eq,UB];lia
end
section
variable{W:XQ}{a:Expr}{a':E}{p p2 Sx:Pos}
def dO{K:GJ}{ρ:List Addr}{H:Hp}:∀{D:Y4},(∀d∈D,H d.2=some (.ZX (d.1.map V.int)))->RVs K ρ H ((D.map (·.1)).map tupI) (D.map λd=>V.ref d.2)
 |[],_=>rfl
 |d::D,h=>⟨_,_,rfl,⟨d.2,_,rfl,h d XZ,da _⟩,dO λd a=>h d (GC _ a)⟩
def gp{Q:VK}(I:RH X.K ρ H g)(F:RVs X.K ρ H xs vs)(J:SqL X.K H b vs\/SqT X.K H b vs)(q:post X.K W (RV X.K) (BW xs g) ρ H Q):
  DZ X [.ref b] H λx H2=>DJ X [x] H2 Q:=by
 simp![BW]at q;cases u:A9 xs with
 |none=>simp![u]at q;exact q.elim
 |some ks=>
  simp![u]at q;by_cases A:IF ks
  .rw [YC A]at q
   let⟨h1,C,L⟩:=A;let⟨E,M,v,s⟩:=fY u F;subst M;have j:∀d∈E,d.1∈ks:=λd a=>by rw[<-v];exact XY.mpr ⟨d,a,rfl⟩
   refine⟨b,E,rfl,J,λd a=>⟨s d a,C _ (j d a)⟩,by rw[<-Zz (f:=λd:List Int×Addr=>d.1),v];exact h1,λd a e r=>L _ (j d a) _ (j e r),λZ6 D t n T i=>?_⟩
   have P:∀d∈D,d.2≠Z6:=λd a z=>by have:=s d (n d a);rw[z,t]at this;cases this
   have k:∀d∈D,upd H Z6 (.ext (SInv X.prog X.w Z6 D)) d.2=some (.ZX (d.1.map V.int)):=λd a=>by rw[af (P d a)];exact s d (n d a)
   have mem:∀x,x∈D.map (·.1)↔x∈ks:=λx=>by
    constructor
    .intro m
     let⟨d,a,rfl⟩:=XY.mp m;exact j d (n d a)
    .intro m
     rw[<-v]at m;let⟨d,a,rfl⟩:=XY.mp m;let⟨e,r,N⟩:=T d a;exact XY.mpr ⟨e,r,N⟩
   have same:∀c:Y4,c.Perm D->BZ c->c.map (·.1)=IE ks:=λc h p=>by
    refine dD ?_ (bA ks) λx=>((h.map _).mem_iff.trans (mem x)).trans bz.symm;have nd:(c.map (·.1)).Nodup:=(h.map _).nodup_iff.mpr i;refine Sf.mpr ?_;have S:=Sf.mp nd;exact(p.and S).imp λ{x y} ⟨JN,G⟩=>by
     cases hl:Ah x.1 y.1 with
     |true=>rfl
     |false=>exact absurd (cH hl JN) G
   refine⟨Z6,D,rfl,upd_same,λd a=>⟨k d a,C _ (j d (n d a))⟩,?_,λl c hl h p=>?_⟩
   .have:=(acZ (ks:=ks) i mem)
    have:=il ks;rw[Zz]at *;lia
   .have O:=same c h p
    have st:ZI X.K ρ H ρ (upd H Z6 (.ext (SInv X.prog X.w Z6 D))):=ZI.fresh t;have B:=q.from st;have R:=I.step_fresh t (o:=.ext (SInv X.prog X.w Z6 D));rw[<-O]at B;exact aO B R (dO λd a=>k d (h.mem_iff.mp a)) l hl
  .rw [Yj A]at q;exact q.elim
def xh(ρ:List Addr)(H:Hp)(g:G)(S:List U)(xs:List V)(Q:VK)(d:RH X.K ρ H g)(f:RVs X.K ρ H S xs)(q:post X.K W (RV X.K) (IG .sset S g) ρ H Q):
  DZ X xs H λx H2=>DJ X [x] H2 Q:=by
 match S,f with
 |[u],f=>
  let⟨x,r',rfl,h,e⟩:=f;cases e;simp![IG,CP]at q;cases u with
  |ref n=>
   simp only at q;cases eg:g[n]? with
   |none=>simp![eg]at q;exact q.elim
   |some o=>
    cases o with
    |M ys=>
     simp![eg]at q;let⟨b,vs,i,k,a⟩:=d.M eg;let⟨b',rfl,j⟩:=h;rw[j]at i;cases i;exact gp d a (.inl (.of k)) q
    |_=>simp![eg]at q;exact q.elim
  |ZX ys=>let⟨b,vs,rfl,h1,a⟩:=h;exact gp d a (.inr h1.sq) q
  |xn c ys=>let⟨b,vs,rfl,h1,a⟩:=h;exact gp d a (.inr h1.sq) q
  |_=>exact q.elim
 |[],_=>exact q.elim
 |u::_::_,_=>exact q.elim
def zy(j:X.calm=true)(o:X.A.units+3<cLine)(f:Gl X "sorted")(t:X.mg "sorted" = none)(d:Gl X "set")(z:X.mg "set" = none)(u:PE X a (tE X.K W (r.ev a')))(c:starEach [a] X.env=(false,eval a X.env)::starEach [] X.env):
  PE X (.Call (.Name "sorted" p) [.Call (.Name "set" p2) [a] [] Sx] [] pos) (tE X.K W (IM C r (.bi .sset [a']))):=by
 have h1:=pe_callTy (p:=p2) (pos:=Sx) (xa j o) d z #[2] (kP u nv c) #[1] #[1] c #[2]
 have h2:=pe_callB (p:=p) (pos:=pos) (wR j (by lia)) f t #[2] (aW h1 bQ) #[1] #[1]
 refine h2.imp ?_;rintro Y H Q ⟨w,ρ,g,c,f,q⟩;exact⟨w,ρ,g,c,f,(post.bind (R:=RVs X.K) q).mono λxs H1 ⟨y,S,g1,s1,h1,rs,k⟩=>xh y H1 g1 S xs Q h1 rs k⟩
end
open PySem PySem.Spec PyProof.Rows L2 PySem.W
section
def wX{o:Obj}{f:Array DictEntry}(r:A.handled=none){d it:Addr}(u:d≠it)(k:o.data=.dict f ep):
  Walks prog w A it [it,d] [it] f.size (λi v=>∃e,f[i]?=some e/\v=e.key) (λi h=>h.IsKeyIter it d i f.size ep/\h.get? d=some o) where
 sub:=λb c=>by simp at c;simp[c]
 frame:=λi h h' ⟨a,b⟩ hk=>⟨a.at λo e=>hk it #[3] o e,hk d #[3] o b⟩
 item:=λi s Q E hi ⟨a,b⟩ g=>by
  have j:f[i]?=some f[i]:=Ws hi;refine lT a b k j λh' a' sb=>?_;exact g _ h' s.toks ⟨_,j,rfl⟩ ⟨a',(sb.2 d u).trans b⟩ λb o c e=>(sb.2 b λq=>c (by simp[q])).trans e
 done:=λs Q E ⟨a,b⟩ g=>lS r a b k (QQ (GB _)) λh' t=>g h' s.toks λb o c e=>t b o (λq=>c (by simp[q])) e
 self:=λi s Q E ⟨a,_⟩ g=>wpAny_pyIter_keyiter a g
def kK{o:Obj}{f:Array DictEntry}{d:Addr}(j:(d==sysModules)=false)(b:o.ExactDict)(g:o.data=.dict f ep):
  KdlSrc prog w "dict" d d f.size (λi v=>∃e,f[i]?=some e/\v=e.key) (λh=>h.get? d=some o) where
 type:=λ_ a=>⟨o,a,b.1⟩
 there:=λ_ a=>⟨Gy a,Gy a⟩
 keep:=λ_ _ a hk=>hk d (.inl rfl) o a
 notList:=by decide
 notTuple:=by decide
 hint:=λ_ _ _ _ a c=>kdl_hint_dict ⟨o,a,b.1⟩ c
 iter:=λ_ s k a=>⟨_,_,(λ_ _ c=>mv j a b g c),wX k (GF (Gy a)) g,⟨⟨_,GG _ rfl,rfl,rfl⟩,Gx _ a⟩⟩
end
section
variable{W:XQ}
def pV:∀k:List Int,(k.map (Sum.inl:Int->Key)).map Hl=k.map V.int
 |[]=>rfl
 |i::k=>by rw[YT,YT,YT,pV k];rfl
def DKs(H:Hp)(a:Addr)(ks:List (List Int)):Prop:=∃ws,Rd H a (.dT ws)/\ws.map (·.1)=ks.map λk=>k.map Sum.inl
def D7(H:Hp)(D:Y4):Prop:=∀d∈D,H d.2=some (.ZX (d.1.map V.int))
def mr{ks:List (List Int)}(ok:HOk P w H h)(z:DKs H a ks):∃o es ep,ks.length<=sizeLine/\(a==sysModules)=false/\h.get? a=some o/\o.ExactDict/\o.data=.dict es ep/\es.size=ks.length /\
  ∀vs:List Value,vs.length=es.size->(∀(j:Nat) (v:Value),vs[j]?=some v ->∃e,es[j]?=some e/\v=e.key) ->∃D:Y4,vs=refs D/\D.map (·.1)=ks/\D7 H D:=by
 let⟨ws,u,r⟩:=z;let⟨h1,h2,o,es,ep,C,B,A,p,y⟩:=dtAt (u.ok ok);have n:ws.length=ks.length:=by rw[<-Zz (f:=(·.1)),r,Zz]
 refine⟨o,es,ep,by rw[<-n];exact h1,h2,C,B,A,by rw[p,n],λvs m hs=>?_⟩
 rw[p]at m;clear u h1 p;have c:∀(j:Nat) (v:Value),vs[j]?=some v ->∃b k,v=.ref b/\ks[j]?=some k/\H b=some (.ZX (k.map V.int)):=λj v e=>by
  let⟨Q,t,s⟩:=hs j v e;have J:j<ws.length:=by rw[<-m];exact(YG.mp e).1
  obtain⟨⟨x,I⟩,G⟩:∃q,ws[j]?=some q:=⟨_,Y9 J⟩;let⟨b,K,F,M,L⟩:=y j x I G;rw[t]at F;cases F;have l:(ws.map (·.1))[j]?=some x:=by rw[Wh,G];rfl
  rw[r,Wh]at l;cases E:ks[j]? with
  |none=>rw[E]at l;cases l
  |some k=>
   rw[E]at l;cases l;exact⟨b,k,s.trans M,rfl,by rw[<-pV];exact L⟩
 have g:vs.length=ks.length:=by rw[m,n]
 clear m hs y r n A B C
 induction vs generalizing ks with
 |nil=>
  cases ks with
  |nil=>exact⟨[],rfl,rfl,λd i=>nomatch i⟩
  |cons _ _=>cases g
 |cons v vs ih=>
  cases ks with
  |nil=>cases g
  |cons k ks=>
   let⟨b,k',rfl,t,s⟩:=c 0 v rfl;cases t;let⟨D,O,JC,N⟩:=ih (λj v e=>c (j+1) v e) (by simpa using g)
   refine⟨(k,b)::D,by rw[O];rfl,by rw[YT,JC],λd i=>?_⟩
   rcases X5.mp i with rfl|i
   .exact s
   .exact N d i
def Ft(X:Cx):List V->Hp->VK->Prop:=λxs H Q=>∃(a:Addr) (ks:List (List Int)),xs=[.ref a]/\DKs H a ks /\
 ∀(l:Addr) (D:Y4),H l=none->D.map (·.1)=ks->D7 H D->Q (.ref l) (upd H l (.M (D.map λd=>V.ref d.2)))
def call_listD(h:X.calm=true):CallR X (.type "list") (Ft X):=by
 intro O s Y H xs S Q I r ⟨a,ks,e,z,q⟩;subst e;let⟨u,rfl,g⟩:=Oq r;cases g;let⟨o,es,ep,h1,h2,p,n,m,l,k⟩:=mr I.ZJ z;refine kdl_call (kK h2 n m) (I.ok.hd h) p (by rw[l];exact h1) λh' tk ZS c hk i b=>?_
 let⟨D,y,JC,x⟩:=k ZS.toList (by rw[Xh];exact b.1) λj v e=>b.2 j v (by rw[<-WN];exact e)
 have t:ZS=(refs D).toArray:=by rw[<-y]
 subst t;refine⟨.ref s.heap.objs.size,_,I.laid (t':=tk) hk (GB _) (show ObjOk X.prog X.w _ h' _ (.M (D.map λd=>V.ref d.2))from⟨?_,refs D,c,dw D,i⟩),rfl,q _ D (I.ZJ.fresh (GB _)) JC x⟩;rw[Zz,<-Zz (f:=(·.1)),JC];exact h1
def DM(X:Cx):List V->Hp->VK->Prop:=λxs H Q=>∃(a:Addr) (ks:List (List Int)),xs=[.ref a]/\DKs H a ks/\ks.length<100000/\(∀k∈ks,k≠[]) /\
 ∀(l:Addr) (D:Y4),H l=none->(D.map (·.1)).Perm ks->BZ D->D7 H D->Q (.ref l) (upd H l (.M (D.map λd=>V.ref d.2)))
def w4(x:X.calm=true)(t:X.A.units+2<cLine):CallR X (.builtin "sorted") (DM X):=by
 intro O s Y H xs S Q I r ⟨a,ks,e,z,hn,G,q⟩;subst e;let⟨u,rfl,k⟩:=Oq r;cases k;let⟨o,es,ep,h1,h2,E,C,B,K,y⟩:=mr I.ZJ z;refine je (kK h2 C B) (I.ok.hd x) t E (by lia) λvs v p=>?_
 let⟨D,F,JC,h⟩:=y vs v p;refine⟨D,F,λd hd=>⟨gR I.ZJ (h d hd),G _ (by rw[<-JC];exact XY.mpr ⟨d,hd,rfl⟩)⟩,λi h' tk c b g l n m J=>?_⟩
 have j:Z0 X O Y H {s with heap:=i,toks:=tk}:=I.kept n
 refine⟨.ref i.objs.size,_,j.laid (t':=tk) m (GB _) (show ObjOk X.prog X.w _ h' _ (.M (b.map λd=>V.ref d.2))from⟨?_,refs b,c,dw b,J⟩),rfl,q _ b (j.ZJ.fresh (GB _)) (by rw[<-JC];exact g.map _) l λd hd=>h d (g.mem_iff.mp hd)⟩
 rw[Zz,g.length_eq,<-Zz (f:=(·.1)),JC];exact h1
def nQ{x:V}{b:List (List Int×U)}(f:RH K ρ H g)(d:RV K ρ H u x)(e:YB u g=some b):∃a,x=.ref a/\DKs H a (b.map (·.1)):=by
 let⟨a,ws,rfl,h,c⟩:=ie f d e;exact⟨_,rfl,ws,h,by rw[gI c,Uu];rfl⟩
def imp_list(ρ:List Addr)(H:Hp)(g:G)(S:List U)(xs:List V)(Q:VK)(b:RH X.K ρ H g)(c:RVs X.K ρ H S xs)(p:post X.K W (RV X.K) (IG .list S g) ρ H Q):
  (∃p ys,xs=[.ref p]/\(SqL X.K H p ys\/SqT X.K H p ys) /\∀l,H l=none->Q (.ref l) (upd H l (.M ys)))\/Ft X xs H Q:=by
 match S,c with
 |[u],c=>
  let⟨x,r',rfl,h,e⟩:=c;cases e;simp![IG,BK]at p;cases e:items u g with
  |none=>
   simp![e]at p;cases f:YB u g with
   |none=>simp![f]at p;exact p.elim
   |some Z4=>
    simp![f]at p;let⟨a,rfl,z⟩:=nQ b h f;refine .inr ⟨a,_,rfl,z,λl D d m k=>aO p b ?_ l d⟩;have:=dO (K:=X.K) (ρ:=ρ) k;rw[m,Uu]at this;exact this
  |some zs=>
   simp![e]at p;let⟨q,vs,rfl,j,i⟩:=cB b h e;exact .inl ⟨q,vs,rfl,j,λl d=>aO p b i l d⟩
 |[],_=>exact p.elim
 |_::_::_,_=>exact p.elim
def imp_srt(ρ:List Addr)(H:Hp)(g:G)(S:List U)(xs:List V)(Q:VK)(f:RH X.K ρ H g)(d:RVs X.K ρ H S xs)(p:post X.K W (RV X.K) (IG .Vu S g) ρ H Q):
  (∃(p:Addr) (ns:List Int),xs=[.ref p]/\H p=some (.M (ns.map V.int))/\ns.length<64 /\∀l,H l=none->Q (.ref l) (upd H l (.M ((sortI ns).map V.int))))\/DM X xs H Q:=by
 simp![IG,C1]at p;cases c:Bn S g with
 |none=>
  simp![c,DH]at p
  match S,d with
  |[u],d=>
   let⟨x,r',rfl,m,e⟩:=d;cases e;simp only at p;cases i:YB u g with
   |none=>simp![i]at p;exact p.elim
   |some Z4=>
    simp![i]at p;by_cases hk:Z4.length<100000/\(Z4.map (·.1)).Nodup /\∀k∈Z4.map (·.1),k≠[]
    .rw [YC hk]at p
     let⟨a,rfl,z⟩:=nQ f m i;refine .inr ⟨a,_,rfl,z,by rw[Zz];exact hk.1,hk.2.2,λl D b j n c=>aO p f ?_ l b⟩
     have s:D.map (·.1)=IE (Z4.map (·.1)):=by
      refine dD ?_ (bA _) λx=>j.mem_iff.trans bz.symm;have nd:(D.map (·.1)).Nodup:=j.nodup_iff.mpr hk.2.1;refine Sf.mpr ?_;have t:=Sf.mp nd;exact(List.Pairwise.and n t).imp λ{x y} ⟨JN,o⟩=>by
       cases b:Ah x.1 y.1 with
       |true=>rfl
       |false=>exact absurd (cH b JN) o
     rw[<-s];exact dO c
    .rw [Yj hk]at p;exact p.elim
  |[],_=>exact p.elim
  |_::_::_,_=>exact p.elim
 |some ns=>
  simp![c]at p;let⟨q,rfl,r⟩:=wU f d c;by_cases b:ns.length<64
  .rw [YC b]at p
   exact .inl ⟨q,ns,rfl,r,b,λl h=>aO p f (da _) l h⟩
  .rw [Yj b]at p;exact p.elim
def call_srtX(b:X.calm=true)(a:X.A.units+2<cLine):CallR X (.builtin "sorted") (λxs H Q=>(∃(p:Addr) (ns:List Int),xs=[.ref p]/\H p=some (.M (ns.map V.int))/\ns.length<64 /\∀l,H l=none->Q (.ref l) (upd H l (.M ((sortI ns).map V.int))))\/DM X xs H Q):=yi.or (w4 b a)
end
open PySem PySem.Spec PyProof.Rows L2
section
variable{W:XQ}{p2:Pos}{a b c:Expr}{a' b' c':E}{lo hi:Option Expr}{lo' YJ:Option E}
abbrev Cz(K:GJ)(W:XQ)(f:Su->G->Out (Option Int)):TO:=tR K W Yc f
def z8:PO X none (Cz X.K W (IJ r.ev none)):=λO s Y H Q I ⟨b,ρ,g,hs,a,p⟩=>y2 O s Y H Q I (post.Zb (R:=Yc) p a rfl)
def ze(h:PE X e (tE X.K W (r.ev e'))):PO X (some e) (Cz X.K W (IJ r.ev (some e'))):=λO s Y H Q I b=>by
 refine zQ h O s Y H Q I (one (k:=λ_ u g=>match u with|.int i=>Out.ok (some i) g|_=>.ZU) b λd ρ H g u x hs c a p=>?_)
 cases u with
 |int i=>cases a;exact⟨i,rfl,post.Zb (R:=Yc) p c rfl⟩
 |_=>exact p.elim
def gu{l h:Option Int}(a:RVs X.K ρ H S vs):RVs X.K ρ H (A4 S l h) (BE vs l h):=by
 unfold A4 BE;rw[a.length];exact(a.drop _).take _
def aaH(y:PE X a (tE X.K W (r.ev a')))(t:PO X lo (Cz X.K W (IJ r.ev lo')))(v:PO X hi (Cz X.K W (IJ r.ev YJ))):PE X (.Subscript a (.Slice lo hi none p2) pos) (tE X.K W (IM C r (.XR a' lo' YJ))):=by
 refine(xN (zd.or acN) y t v).imp ?_;rintro Y H Q ⟨i,ρ,g,hs,w,p⟩;refine⟨i,ρ,g,hs,w,(post.bind p).mono λx H1 ⟨D,u,g1,s1,h1,m,s⟩=>?_⟩;refine⟨i,D,g1,hs.step s1,h1,(post.bind (R:=Yc) s).mono λl H2 ⟨B,G,g2,s2,h2,A,p2⟩=>?_⟩;subst A;refine⟨i,B,g2,(hs.step s1).step s2,h2,(post.bind (R:=Yc) p2).mono λh H3 ⟨E,h',g3,s3,h3,z,b⟩=>?_⟩;subst z;have e:=RV.step s3 _ _ (RV.step s2 _ _ m);cases u with
 |ZX S=>
  let⟨q,vs,rfl,d,c⟩:=e;refine .inr ⟨q,vs,rfl,d.sq,?_⟩;simp![]at b;rw[c.length]at b;split at b
  .exact b.elim
  .rename_i f
   refine⟨f,λk hk=>?_⟩;exact b _ E _ (ZI.fresh hk) (h3.step_fresh hk) ⟨k,_,rfl,upd_same,RVs.step (ZI.fresh hk) _ _ (gu c)⟩
 |Zv S=>
  let⟨q,vs,rfl,d,c⟩:=e;exact .inl ⟨q,vs,rfl,d.sq,λk hk=>aO b h3 (gu c) k hk⟩
 |ref n=>
  let⟨q,rfl,f⟩:=e;simp![]at b;cases eg:g3[n]? with
  |none=>simp![eg]at b;exact b.elim
  |some o=>
   cases o with
   |M S=>
    simp![eg]at b;let⟨F,vs,d,c,j⟩:=h3.M eg;rw[f]at d;cases d;exact .inl ⟨q,vs,rfl,.of c,λk hk=>aO b h3 (gu j) k hk⟩
   |ZG _=>simp![eg]at b;exact b.elim
   |Zs _=>simp![eg]at b;exact b.elim
   |dst _=>simp![eg]at b;exact b.elim
   |ins _ _=>simp![eg]at b;exact b.elim
 |_=>exact b.elim
def aaD{k:Nat}{P N:Pos}(ha:PE X a (tE X.K W (r.ev a'))):PE X (.Subscript a (.Slice none none (some (.UnaryOp .USub (.Constant (.int 1) k P) N)) p2) pos) (tE X.K W (IM C r (.rev a'))):=by
 intro O s Y H Q I V;have XX:tE X.K W (r.ev a') Y H (λx H1=>∃q vs,x=.ref q/\H1 q=some (.M vs) /\∀k,H1 k=none->Q (.ref k) (upd H1 k (.M vs.reverse))):=one V λZY ρ H g u x hs B d p=>by
  cases u with
  |ref n=>
   let⟨q,rfl,Z⟩:=d;simp![]at p;cases eg:g[n]? with
   |none=>simp![eg]at p;exact p.elim
   |some o=>
    cases o with
    |M S=>
     simp![eg]at p;let⟨q',vs,w,F,E⟩:=B.M eg;rw[Z]at w;cases w;exact⟨q,vs,rfl,F,λk hk=>aO p B E.reverse k hk⟩
    |ZG _=>simp![eg]at p;exact p.elim
    |Zs _=>simp![eg]at p;exact p.elim
    |dst _=>simp![eg]at p;exact p.elim
    |ins _ _=>simp![eg]at p;exact p.elim
  |_=>exact p.elim
 refine Subscript_ (thn (ha O s Y H _ I XX) ?_);rintro v G ⟨x,H1,I1,d,L⟩;let⟨q,vs,rfl,U,f⟩:=L;cases d;refine wpAny_Slice ?_;rw[evalPart_none];refine ZP (ZP ?_);rw[evalPart_some];refine thn (tj qR p0 O G Y H1 (λx H2=>x=.int (-1)/\H2=H1) I1 ⟨1,rfl,rfl,rfl⟩) ?_;rintro D c ⟨z,H2,I2,J,ez,eh⟩;subst ez;subst eh;let⟨t,rfl⟩:=J;have j:L2.Z0 X O Y H2 {c with heap:=c.heap.push {cls:=.type "slice",data:=.fields #[.none,.none,.int (-1) t]}}:=I2.kept (t':=c.toks) λb ob q=>Gx _ q
 let⟨ZV,n,y,ho,R⟩:=j.M U;have A:Heap.IsList (c.heap.push {cls:=.type "slice",data:=.fields #[.none,.none,.int (-1) t]}) q ZV.toArray:=⟨_,ho,rfl,n,rfl⟩;have hlen:=y.length;refine tail_any (ops:=[.ref q,.ref c.heap.objs.size]) (T:="list") A.typeIs slot_list_getitem.lookup ?_ (by with_unfolding_all rfl)
 refine wpAny_getItem_list_slice A (Heap.IsSliceOf.new ..) .none .none (.int (-1) t) #[3] ?_ (by rw[Xl];omega)
 rw[PySem.W.krv_pick];have hf:=j.ZJ.fresh (GB _);refine⟨.ref _,_,j.laid (t':=c.toks) (o:=.M vs.reverse) (λb ob q=>Gx _ q) (GB _) ?_,rfl,f _ hf⟩;exact⟨by rw[Pm];exact R,ZV.reverse,0,y.reverse,GG _ rfl⟩
def tyName:Ty->String
 |.Vt=>"int"|.Vs=>"bool"|.UY=>"str"|.UX=>"tuple"|.UW=>"list"|.own _=>"?"
noncomputable def Ty.isB(t:Ty):Bool:=match t with|.own _=>false|_=>true
def aaK{x:V}{t:Ty}{k:Bool}{Y:L2.St}{v:Value}{Q:VK}(I:L2.Z0 X O Y H s)(B:RH X.K ρ H g)(f:RV X.K ρ H u x)(d:RelV x v)
  (c:t.isB=true) (e:AD t u g=some k) (q:Q (.bl k) H):wpAny (model X.prog X.w) X.A (call (.builtin "isinstance") [v,.type (tyName t)]) (EP X O Y Q) X.xe s:=by
 have a:∀tk,EP X O Y Q (.bool k) {s with toks:=tk}:=λtk=>⟨.bl k,H,I.tok tk,rfl,q⟩
 have j:∀{p:Addr} {S:List U} {vs:List V},SqT X.K H p vs->AD t (.ZX S) g=some k->wpAny (model X.prog X.w) X.A (call (.builtin "isinstance") [.ref p,.type (tyName t)]) (EP X O Y Q) X.xe s:=λ{p S vs} h e=>by
  let⟨ZV,_,⟨o,h1,h2,_⟩,_⟩:=I.tuple h;cases t<;>first|(cases c;done)|(simp![AD,Y2,reduceCtorEq]at e;subst e;exact Qe PySem.W.kitx_tuple I.YR ⟨o,h1,h2⟩ rfl (λz=>nomatch z) a)
 have l:∀{p:Addr} {vs:List V},SqL X.K H p vs->Cu t=some k->wpAny (model X.prog X.w) X.A (call (.builtin "isinstance") [.ref p,.type (tyName t)]) (EP X O Y Q) X.xe s:=λ{p vs} h e=>by
  let⟨ZV,_,⟨o,n,h1,h2,_⟩,_⟩:=I.list h;cases t<;>first|(cases c;done)|(simp![Cu,Y2,reduceCtorEq]at e;subst e;exact Qe PySem.W.kitx_list I.YR ⟨o,h1,h2⟩ rfl (λz=>nomatch z) a)
 cases u with
 |ZL=>cases f;cases d;cases t<;>first|(cases c;done)|(simp![AD,Y2,reduceCtorEq]at e;subst e;exact Qe PySem.W.kitx_none I.YR True.intro rfl (λz=>nomatch z) a)
 |bl b=>cases f;cases d;cases t<;>first|(cases c;done)|(simp![AD,Y2,reduceCtorEq]at e;subst e;exact Qe PySem.W.kitx_bool I.YR True.intro rfl (λz=>nomatch z) a)
 |int i=>cases f;let⟨tk,rfl⟩:=d;cases t<;>first|(cases c;done)|(simp![AD,Y2,reduceCtorEq]at e;subst e;exact Qe PySem.W.kitx_int I.YR True.intro rfl (λz=>nomatch z) a)
 |str z=>cases f;let⟨tk,rfl⟩:=d;cases t<;>first|(cases c;done)|(simp![AD,Y2,reduceCtorEq]at e;subst e;exact Qe PySem.W.kitx_str I.YR True.intro rfl (λz=>nomatch z) a)
 |ZX S=>let⟨p,vs,rfl,h1,h2⟩:=f;cases d;exact j h1.sq e
 |Zv S=>simp[AD]at e
 |ref n=>
  let⟨p,rfl,y⟩:=f;cases d;simp![AD]at e;cases eg:g[n]? with
  |none=>simp![eg]at e;cases e
  |some o=>
   cases o with
   |M S=>
    simp![eg]at e;let⟨D,vs,m,r,C⟩:=B.M eg;rw[y]at m;cases m;exact l (.of r) e
   |ZG _=>simp![eg]at e;cases e
   |Zs _=>simp![eg]at e;cases e
   |dst _=>simp![eg]at e;cases e
   |ins _ _=>simp![eg]at e;cases t<;>first|(cases c;done)|cases e
 |xn _ _=>simp[AD]at e
def acq{t:Ty}{c:Str}{B A:Pos}(L:t.isB=true)(R:c=Str.ofString (tyName t))(w:Gl X c)(N:X.mg c=none)(P:bootBuiltins c=some (.type (tyName t)))(E:c ≠ "__name__")(M:(c==("__debug__" : Str))=false)
  (d:Gl X "isinstance") (F:X.mg "isinstance" = none) (J:PE X a (tE X.K W (r.ev a'))) (o:∀es,starEach (a::es) X.env=(false,eval a X.env)::starEach es X.env) :
  PE X (.Call (.Name "isinstance" B) [a,.Name c A] [] pos) (tE X.K W (IM C r (.Yv a' t))):=by
 have G:CallR X (.builtin "isinstance") (λxs H Q=>∃x ρ g u k,xs=[x,.ty (tyName t)]/\RH X.K ρ H g/\RV X.K ρ H u x/\AD t u g=some k/\Q (.bl k) H):=by
  intro O s Y H xs S Q I rs ⟨x,ρ,g,u,k,e,d,j,f,q⟩;subst e;cases rs with
  |cons z rs=>
   cases rs with
   |cons y rs=>
    cases rs;cases y;exact aaK I d j z L f q
 refine(pe_callB G d F #[2] (aW J (aW (aai (v:=.ty (tyName t)) w N P rfl E M) bQ rfl) (o _)) #[1] #[1] (o _) rfl).imp λY H Q D=>?_
 refine one D λT ρ H g u x o d j p=>?_;cases f:AD t u g with
 |none=>simp![f]at p;exact p.elim
 |some k=>simp![f]at p;exact⟨x,ρ,g,u,k,rfl,d,j,f,okE p d rfl⟩
def b6{x:V}(f:RH X.K ρ H g)(e:RV X.K ρ H (.ref n) x)(h:g[n]?=some (.M S)):∃q vs,x=.ref q/\ρ[n]?=some q/\H q=some (.M vs)/\RVs X.K ρ H S vs:=by
 let⟨q,rfl,b⟩:=e;let⟨i,vs,a,d,c⟩:=f.M h;rw[b]at a;cases a;exact⟨q,vs,rfl,b,d,c⟩
def gC{x:U}(e:IH x g=some n):x=.ref n /\∃S,g[n]?=some (.M S):=by
 cases x<;>simp![IH,reduceCtorEq]at e
 rename_i m;cases eg:g[m]? with
 |none=>simp[eg]at e
 |some o=>
  cases o with
  |M S=>simp![eg,Y2]at e;subst e;exact⟨rfl,S,eg⟩
  |ZG _=>simp[eg]at e
  |Zs _=>simp[eg]at e
  |dst _=>simp[eg]at e
  |ins _ _=>simp[eg]at e
def gW{o:Expr}{name:Str}{e:String}{i:V->List V->Hp->VK->Prop}{f:Nat->U->G->Out U}(c:Slot "list" name e)(L:typeOf (.builtin e)=pure (.type "method_descriptor"))(s:MtR X e i)
  (imp:∀ρ H g n q y v Q,RH X.K ρ H g->ρ[n]?=some q->RV X.K ρ H y v->post X.K W (RV X.K) (f n y g) ρ H Q->i (.ref q) [v] H Q)
  (t:PE X o (tE X.K W (r.ev o'))) (B:PE X a (tE X.K W (r.ev a'))) (J:attributeBase o name X.env (eval o X.env)=eval o X.env) (I:(apos.endLine==Y_.line)=true)
  (b:∀ es,starEach (a :: es) X.env=(false,eval a X.env) :: starEach es X.env):PE X (.Call (.Attribute o name apos) [a] [] Y_) (tE X.K W (λY g=>(r.ev o' Y g).bind λx g=>match IH x g with
  |some n=>(r.ev a' Y g).bind λy g=>f n y g
  |none=>.ZU)):=by
 refine(ad8 (T:="list") P9 c L s t (aW B bQ (b _)) J (by rw[b];rfl) I (b _) rfl).imp ?_;rintro Y H Q ⟨j,ρ,g,b,A,p⟩
 refine⟨j,ρ,g,b,A,(post.bind p).mono λx H1 ⟨E,u,g1,s1,h1,m,d⟩=>?_⟩;cases h:IH u g1 with
 |none=>simp![h]at d;exact d.elim
 |some n=>
  simp![h]at d;let⟨rfl,S,C⟩:=gC h;let⟨q,vs,rfl,z,k,M⟩:=b6 h1 m C;refine⟨.inl ⟨rfl,vs,.of k⟩,j,E,g1,b.step s1,h1,(post.bind d).mono λy H2 ⟨D,w,g2,s2,h2,l,p2⟩=>?_⟩;exact imp D H2 g2 n q w y Q h2 (s2.ext _ _ z) l p2
def cN{q:Addr}(e:RH X.K ρ H g)(d:ρ[n]?=some q)(f:g[n]?=some (.M S)):∃vs,H q=some (.M vs)/\RVs X.K ρ H S vs:=by
 let⟨h,vs,a,c,b⟩:=e.M f;rw[d]at a;cases a;exact⟨vs,c,b⟩
def aa2{o:Expr}(i:PE X o (tE X.K W (r.ev o')))(k:PE X a (tE X.K W (r.ev a')))(m:attributeBase o "append" X.env (eval o X.env)=eval o X.env)(l:(apos.endLine==Y_.line)=true)
  (h:∀es,starEach (a::es) X.env=(false,eval a X.env)::starEach es X.env):PE X (.Call (.Attribute o "append" apos) [a] [] Y_) (tE X.K W (IM C r (.app o' a'))):=by
 refine gW PySem.F.slot_list_append PySem.F.type_list_append jm (λρ H g n q y v Q e c f p=>?_) i k m l h;simp![AH]at p;cases eg:g[n]? with
 |none=>simp![eg]at p;exact p.elim
 |some o=>
  cases o with
  |M S=>
   simp![eg]at p;let⟨vs,b,d⟩:=cN e c eg;split at p
   .rename_i j
    exact⟨q,vs,v,rfl,rfl,b,by rw[<-d.length,UB];unfold Ac at j;lia,p _ ρ _ (ZI.write c b) (e.write c b (d.append (.one f))) rfl⟩
   .exact p.elim
  |ZG _=>simp![eg]at p;exact p.elim
  |Zs _=>simp![eg]at p;exact p.elim
  |dst _=>simp![eg]at p;exact p.elim
  |ins _ _=>simp![eg]at p;exact p.elim
def aav{o:Expr}(t:PE X o (tE X.K W (r.ev o')))(w:PE X a (tE X.K W (r.ev a')))(z:attributeBase o "extend" X.env (eval o X.env)=eval o X.env)(x:(apos.endLine==Y_.line)=true)
  (s:∀es,starEach (a::es) X.env=(false,eval a X.env)::starEach es X.env):PE X (.Call (.Attribute o "extend" apos) [a] [] Y_) (tE X.K W (IM C r (.ext o' a'))):=by
 refine gW PySem.F.slot_list_extend PySem.F.type_list_extend wC (λρ H g n q y v Q d c k p=>?_) t w z x s;simp![Bs]at p;cases e:IH y g with
 |none=>simp![e]at p;exact p.elim
 |some m=>
  simp![e]at p;let⟨rfl,zs,i⟩:=gC e;let⟨l,ws,rfl,A,j,f⟩:=b6 d k i;cases eg:g[n]? with
  |none=>simp![eg]at p;exact p.elim
  |some o=>
   cases o with
   |M S=>
    simp![eg,i]at p;let⟨vs,b,h⟩:=cN d c eg;split at p
    .rename_i u
     exact⟨q,l,vs,ws,rfl,rfl,b,j,by rw[<-h.length,<-f.length,UB];unfold Ac at u;lia,p _ ρ _ (ZI.write c b) (d.write c b (h.append f)) rfl⟩
    .exact p.elim
   |ZG _=>simp![eg]at p;exact p.elim
   |Zs _=>simp![eg]at p;exact p.elim
   |dst _=>simp![eg]at p;exact p.elim
   |ins _ _=>simp![eg]at p;exact p.elim
def acT{o:Expr}(l:PE X o (tE X.K W (r.ev o')))(s:attributeBase o "pop" X.env (eval o X.env)=eval o X.env)(m:(apos.endLine==Y_.line)=true):
  PE X (.Call (.Attribute o "pop" apos) [] [] Y_) (tE X.K W (IM C r (.pop o'))):=by
 refine(abj (T:="list") P9 PySem.F.slot_list_pop PySem.F.type_list_pop abJ l s m).imp λY H Q k=>one k λt ρ H g u x hs f j p=>?_;cases e:IH u g with
 |none=>simp![e]at p;exact p.elim
 |some n=>
  simp![e]at p;let⟨rfl,S,h⟩:=gC e;let⟨q,vs,rfl,c,a,b⟩:=b6 f j h;refine⟨.inl ⟨rfl,vs,.of a⟩,?_⟩;simp![Bb,h]at p;cases d:S[S.length-1]? with
  |none=>simp![d]at p;exact p.elim
  |some y=>
   simp![d]at p;let⟨v,ev,i⟩:=b.get d;exact⟨q,vs,v,rfl,rfl,a,by rw[<-b.length];exact ev,p _ ρ _ (ZI.write c a) (f.write c a b.dropLast) (RV.step (ZI.write c a) _ _ i)⟩
def adI{i:Int}(a:0<=i)(h:i.toNat<n):seqIndex? i n=some i.toNat:=by
 unfold seqIndex?;have h1 : ¬ i<0:=by lia
 have h2:(decide (0<=i)&&decide (i<n))=true:=by rw[Vo a,Vo (by lia)];rfl
 simp![h1,W6,h2,Uc]
def zh{o:Expr}(A:PE X o (tE X.K W (r.ev o')))(B:PE X a (tE X.K W (r.ev a')))(G:attributeBase o "pop" X.env (eval o X.env)=eval o X.env)(E:(apos.endLine==Y_.line)=true)
  (z:∀es,starEach (a::es) X.env=(false,eval a X.env)::starEach es X.env):PE X (.Call (.Attribute o "pop" apos) [a] [] Y_) (tE X.K W (IM C r (.V4 o' a'))):=by
 refine gW PySem.F.slot_list_pop PySem.F.type_list_pop yc (λρ H g n q y v Q k d u p=>?_) A B G E z;unfold BM at p;cases y with
 |int i=>
  cases eg:g[n]? with
  |none=>simp![eg]at p;exact p.elim
  |some o=>
   cases o with
   |M S=>
    simp![eg]at p;by_cases hi:0<=i/\i<9223372036854775808
    .rw [YC hi]at p
     let⟨vs,c,f⟩:=cN k d eg;cases j:S[i.toNat]? with
     |none=>simp![j]at p;exact p.elim
     |some y=>
      simp![j]at p;let⟨t,ev,w⟩:=f.get j;cases u;have D:i.toNat<vs.length:=(YG.mp ev).1;refine⟨q,vs,i,i.toNat,t,rfl,rfl,c,Int.le_trans #[1] hi.1,hi.2,?_,ev,p _ ρ _ (ZI.write d c) (k.write d c (by rw[UR,UR];exact(f.take _).append (f.drop _))) (RV.step (ZI.write d c) _ _ w)⟩
      exact adI hi.1 D
    .rw [Yj hi]at p;exact p.elim
   |ZG _=>simp![eg]at p;exact p.elim
   |Zs _=>simp![eg]at p;exact p.elim
   |dst _=>simp![eg]at p;exact p.elim
   |ins _ _=>simp![eg]at p;exact p.elim
 |_=>exact p.elim
def imp_tupl(ρ:List Addr)(H:Hp)(g:G)(S:List U)(xs:List V)(Q:VK)(f:RH X.K ρ H g)(b:RVs X.K ρ H S xs)(p:post X.K W (RV X.K) (IG .TV S g) ρ H Q):
  ∃p ys,xs=[.ref p]/\((SqL X.K H p ys /\∀l,H l=none->Q (.ref l) (upd H l (.ZX ys)))\/(SqT X.K H p ys/\Q (.ref p) H)):=by
 match S,b with
 |[],b=>exact p.elim
 |_::_::_,b=>exact p.elim
 |[u],b=>
  let⟨x,r',rfl,d,e⟩:=b;cases e;simp![IG,DR]at p;cases u with
  |ZX ys=>have h:=d;let⟨a,vs,rfl,h1,h2⟩:=d;exact⟨a,vs,rfl,.inr ⟨h1.sq,post.Zb p f h⟩⟩
  |xn c ys=>have h:=d;let⟨a,vs,rfl,h1,h2⟩:=d;exact⟨a,vs,rfl,.inr ⟨h1.sq,post.Zb p f h⟩⟩
  |ref n=>
   cases eg:g[n]? with
   |none=>simp![eg]at p;exact p.elim
   |some o=>
    cases o with
    |M ys=>
     simp![eg]at p;let⟨q,vs,rfl,m,k,j⟩:=b6 f d eg;exact⟨q,vs,rfl,.inl ⟨.of k,λl i=>p (.ref l) ρ _ (ZI.fresh i) (f.step_fresh i) ⟨l,vs,rfl,upd_same,RVs.step (ZI.fresh i) _ _ j⟩⟩⟩
    |ZG _=>simp![eg]at p;exact p.elim
    |Zs _=>simp![eg]at p;exact p.elim
    |dst _=>simp![eg]at p;exact p.elim
    |ins _ _=>simp![eg]at p;exact p.elim
  |_=>exact p.elim
end
section
variable(K:GJ)
inductive tG(t:Tg)(v:V)(Y:L2.St)(H:Hp)(Q:L2.St->Hp->Prop):Prop
 |mk (ZY:Su) (ρ:List Addr) (g:G) (u:U) (XU:Su) (hs:RS K ρ H ZY Y) (hg:RH K ρ H g) (r:RV K ρ H u v) (e:Ae t (IK t u g) ZY=some XU) (q:∀ZR,RS K ρ H XU ZR->Q ZR H)
inductive Ub(is:List Nat)(vs:List V)(Y:L2.St)(H:Hp)(Q:L2.St->Hp->Prop):Prop
 |mk (ZY:Su) (ρ:List Addr) (S:List U) (XU:Su) (hs:RS K ρ H ZY Y) (r:RVs K ρ H S vs) (e:bindL is S ZY=some XU) (q:∀ZR,RS K ρ H XU ZR->Q ZR H)
def RI(ρ:List Addr)(H:Hp)(i:Iter)(b:It):Prop:=match i with
 |.M n=>∃a,ρ[n]?=some a/\b=Itl K a
 |.ZG n=>∃a o ws,ρ[n]?=some a/\H a=some (.Zt o (.dT ws))/\b=Itd a o ws
 |.seq S=>∃a vs,(SqU K H a vs\/SqC K a vs)/\RVs K ρ H S vs/\b=Itt K a
 |.YM lo n=>b=Itr lo n
abbrev tI(W:XQ)(f:Su->G->Out Iter):TI:=tR K W (RI K) f
end
def RI.step{K:GJ}{ρ c:List Addr}{H e:Hp}{i:Iter}{d:It}(s:ZI K ρ H c e)(h:RI K ρ H i d):RI K c e i d:=by
 cases i with
 |M n=>let⟨a,h1,h2⟩:=h;exact⟨a,s.ext _ _ h1,h2⟩
 |ZG n=>let⟨a,o,ws,h1,h2,b⟩:=h;exact⟨a,o,ws,s.ext _ _ h1,s.Zt _ _ _ h2,b⟩
 |seq S=>let⟨a,vs,h1,h2,b⟩:=h;exact⟨a,vs,h1.imp_left (s.ZX _ _),RVs.step s _ _ h2,b⟩
 |YM lo n=>exact h
section
variable{W:XQ}{p2:Pos}{a b c:Expr}{a' b' c':E}{t:Tg}
def jg{t:Tg}{Y a:Su}(h:Ae t u Y=some a):Ae t (IK t u g) Y=some a:=by
 cases t with
 |nm i=>exact h
 |tp is=>
  cases u with
  |ref n=>simp[Ae]at h
  |_=>exact h
def Gr(K:GJ)(n:Nat)(t:WJ):TG:=λv Y H Q=>∃a xs,v=.ref a/\SqL K H a xs/\xs.length=n/\t xs Y H Q
def y8{k:Nat}{t:WJ}(w:X.calm=true)(h:PGs X es t)
  (p:(assignEach es X.env).length=n) (z:(assignEach es X.env).findIdx? (·.1)=none):PG X (.Tuple es k pos) (Gr X.K n t):=by
 intro O s Y H v u Q I r f;let⟨a,xs,y,l,q,f⟩:=f;subst y;cases r;let⟨ZV,g,⟨o,m,e,A,i,d⟩,C⟩:=I.list l;have x:s.heap.IsList a ZV.toArray:=⟨o,e,A,m,d⟩;rw[assign_Tuple];refine ZB (S8 ?_);unfold unpack;have c:(assignEach es X.env).length=ZV.toArray.size:=by simp[p,<-q,g.length]
 rw[c,z];refine ZB (VO (PySem.W.kun_itemsOf (I.ok.hd w) x λh' j=>?_));have B:Z0 X O Y H {s with heap:=h'}:=I.kept (t':=s.toks) λb o e=>j b o (GF (Gy e)) e
 exact h O _ Y H xs _ Q B (by simpa using g) f
def adk(d:X.N.Nodup)(hi:X.N[i]?=some x)(b:Loc X.env.scope x)(c:X.fn x=true\/X.env.scope.names.lookup x=some .local):PG X (.Name x pos) (tG X.K (.nm i)):=by
 intro O s Y H v u Q I a ⟨j,ρ,g,w,k,hs,h,f,e,q⟩;refine lz d hi b c O s Y H v u Q I a ?_;simp![IK,Ae]at e;split at e
 .cases e;exact q _ (hs.set f)
 .cases e
def sgs_nil:PGs X [] (Ub X.K []):=by
 intro O s Y H vs S Q I a ⟨c,ρ,ws,d,hs,b,e,q⟩;refine yC O s Y H vs S Q I a ?_;cases ws with
 |nil=>cases b;cases e;exact⟨rfl,q _ hs⟩
 |cons _ _=>cases e
def yh{is:List Nat}(j:X.N.Nodup)(hi:X.N[i]?=some x)(f:Loc X.env.scope x)(g:X.fn x=true\/X.env.scope.names.lookup x=some .local)(h:PGs X ts (Ub X.K is)):PGs X (.Name x pos::ts) (Ub X.K (i::is)):=by
 intro O s Y H vs S Q I b ⟨m,ρ,ws,l,hs,k,e,q⟩;refine xW (lz j hi f g) h rfl O s Y H vs S Q I b ?_;cases ws with
 |nil=>cases e
 |cons w ws=>
  let⟨v,a,rfl,d,c⟩:=k;simp![bindL]at e;split at e
  .exact ⟨v,a,rfl,_,ρ,ws,l,hs.set d,c,e,q⟩
  .cases e
def fM:∀{is:List Nat} {S:List U} {Y ZR:Su},bindL is S Y=some ZR->S.length=is.length
 |[],[],_,_,_=>rfl
 |_::is,_::S,_,_,e=>by
  simp![bindL]at e;split at e
  .simp [fM e]
  .cases e
 |[],_::_,_,_,e=>by simp[bindL]at e
 |_::_,[],_,_,e=>by simp[bindL]at e
def ady{is:List Nat}{k:Nat}(j:X.calm=true)(h:PGs X ts (Ub X.K is))(i:(assignEach ts X.env).length=is.length)(l:(assignEach ts X.env).findIdx? (·.1)=none):PG X (.Tuple ts k pos) (tG X.K (.tp is)):=by
 intro O s Y H v u Q I f ⟨c,ρ,g,w,d,hs,r,m,e,q⟩;cases w with
 |ZX S=>
  refine aaG j h i l O s Y H v u Q I f ?_;let⟨a,vs,rfl,h1,h2⟩:=m;have e':bindL is S c=some d:=e;exact⟨a,vs,rfl,h1.sq,by rw[<-h2.length];exact fM e',c,ρ,S,d,hs,h2,e',q⟩
 |ref n=>
  simp![IK]at e;cases eg:g[n]? with
  |none=>simp[eg,Ae]at e
  |some o=>
   cases o with
   |M xs=>
    refine y8 j h i l O s Y H v u Q I f ?_;let⟨a,vs,p,t,h2⟩:=r.M eg;let⟨a',rfl,b⟩:=m;rw[p]at b;cases b;have e':bindL is xs c=some d:=by simpa[eg,Ae]using e
    exact⟨a,vs,rfl,.of t,by rw[<-h2.length];exact fM e',c,ρ,xs,d,hs,h2,e',q⟩
   |_=>simp[eg,Ae]at e
 |_=>simp[IK,Ae]at e
def abq{l:Expr}{m:E}(G:PE X l (tE X.K W (r.ev m))):PI X tg l (tI X.K W (λY g=>(r.ev m Y g).bind λu g=>match u with
  |.ZX xs=>Out.ok (Iter.seq xs) g
  |.xn _ xs=>Out.ok (Iter.seq xs) g
  |.ref n=>match g[n]? with
   |some (.M _)=>.ok (.M n) g
   |some (.ZG Z4)=>.ok (.ZG n) (g.set n (.Zs Z4))
   |some (.Zs _)=>.ok (.ZG n) g
   |_=>.ZU
  |_=>.ZU)):=by
 intro O s Y H R I F;have J:tE X.K W (r.ev m) Y H (λx H1=>(∃a,x=.ref a/\(∃xs,SqL X.K H1 a xs)/\R (Itl X.K a) H1)\/(∃a,x=.ref a/\(∃xs,SqT X.K H1 a xs)/\R (Itt X.K a) H1)\/(∃a ws,x=.ref a/\H1 a=some (.dT ws) /\∀o,R (Itd a o ws) (upd H1 a (.Zt o (.dT ws)))) \/∃a o ws,x=.ref a/\H1 a=some (.Zt o (.dT ws))/\R (Itd a o ws) H1):=by
  refine one (R:=RI X.K) F λP ρ H g u x hs j c p=>?_;cases u with
  |ZX S=>let⟨a,vs,rfl,h1,h2⟩:=c;exact .inr (.inl ⟨a,rfl,⟨vs,h1.sq⟩,post.Zb (R:=RI X.K) p j ⟨a,vs,.inl h1,h2,rfl⟩⟩)
  |xn _ S=>let⟨a,vs,rfl,h1,h2⟩:=c;exact .inr (.inl ⟨a,rfl,⟨vs,h1.sq⟩,post.Zb (R:=RI X.K) p j ⟨a,vs,.inr h1,h2,rfl⟩⟩)
  |ref n=>
   simp![]at p;cases eg:g[n]? with
   |none=>simp![eg]at p;exact p.elim
   |some o=>
    cases o with
    |M S=>
     simp![eg]at p;let⟨q,vs,rfl,i,z,N⟩:=b6 j c eg;exact .inl ⟨q,rfl,⟨vs,.of z⟩,post.Zb (R:=RI X.K) p j ⟨q,i,rfl⟩⟩
    |ZG Z4=>
     simp![eg]at p;let⟨q,ws,i,d,y⟩:=j.ZG eg;let⟨C,rfl,k⟩:=c;rw[i]at k;cases k;refine .inr (.inr (.inl ⟨q,ws,rfl,d,λo=>?_⟩));exact p _ ρ _ (ZI.X0 i d trivial) (j.X0 i d trivial ⟨o,ws,rfl,y⟩) ⟨q,o,ws,i,upd_same,rfl⟩
    |Zs Z4=>
     simp![eg]at p;let⟨q,o,ws,i,d,y⟩:=j.Zs eg;let⟨C,rfl,k⟩:=c;rw[i]at k;cases k;exact .inr (.inr (.inr ⟨q,o,ws,rfl,d,post.Zb (R:=RI X.K) p j ⟨q,o,ws,i,d,rfl⟩⟩))
    |dst _=>simp![eg]at p;exact p.elim
    |ins _ _=>simp![eg]at p;exact p.elim
  |_=>exact p.elim
 refine thn (G O s Y H _ I J) ?_;rintro v h ⟨x,H1,f,c,B⟩;rcases B with⟨a,e,⟨xs,t⟩,q⟩|⟨a,e,⟨xs,t⟩,q⟩|⟨a,ws,e,d,q⟩|⟨a,o,ws,e,d,q⟩
 .subst e
  cases c;let⟨ZV,A,p,D⟩:=f.list t;refine wpAny_pyIter_list p.isList ?_;refine⟨h.heap.objs.size,[h.heap.objs.size],_,_,H1,rfl,f.kept (t':=h.toks) λb o e=>Gx _ e,v7 a _,⟨_,GG _ rfl,rfl,rfl⟩,λb w=>?_,q⟩;have e:b=h.heap.objs.size:=by simpa using w
  subst e;exact f.TR (GB _) (f.ZJ.fresh (GB _))
 .subst e
  cases c;let⟨ZV,A,p,D⟩:=f.tuple t;refine wpAny_pyIter_tuple (show h.heap.IsTuple a ZV.toArray from p) ?_;refine⟨h.heap.objs.size,[h.heap.objs.size],_,_,H1,rfl,f.kept (t':=h.toks) λb o e=>Gx _ e,vk a _,⟨_,GG _ rfl,rfl,rfl⟩,λb w=>?_,q⟩;have e:b=h.heap.objs.size:=by simpa using w
  subst e;exact f.TR (GB _) (f.ZJ.fresh (GB _))
 .subst e
  cases c;let⟨o,L⟩:=f.freeze d;exact rP L upd_same (q o)
 .subst e
  cases c;exact rP f d q
def PI.imp{a:Expr}{t t':TI}(h:PI X tg a t)(q:∀Y H Q,t' Y H Q->t Y H Q):PI X tg a t':=λO s Y H Q I h'=>h O s Y H Q I (q Y H Q h')
def zb{p:Pos}(c:Gl X "range")(f:X.mg "range" = none)(h:PE X a (tE X.K W (r.ev a')))(b:∀es,starEach (a::es) X.env=(false,eval a X.env)::starEach es X.env):
  PI X tg (.Call (.Name "range" p) [a] [] pos) (tI X.K W (IL r (.Ym a'))):=by
 refine PI.imp (wu c f (aW h bQ (b _)) (b _)) λY H R e=>one (R:=RI X.K) e λk ρ H g u x b c d p=>?_;cases u with
 |int j=>
  cases d;simp![]at p;split at p
  .rename_i i
   exact⟨j,rfl,by lia,by lia,post.Zb (R:=RI X.K) p c rfl⟩
  .exact p.elim
 |_=>exact p.elim
def ml{it:Iter}{d:It}(c:RH X.K ρ H g)(b:RI X.K ρ H it d)(e:next it i g=some none):d.stop i H:=by
 cases it with
 |M n=>
  let⟨a,h1,rfl⟩:=b;simp![next]at e;cases eg:g[n]? with
  |none=>simp[eg]at e
  |some o=>
   cases o with
   |M S=>
    simp![eg,Y2]at e;let⟨vs,m,l⟩:=cN c h1 eg;exact⟨vs,.of m,Ts.mp (l.none_of e)⟩
   |ZG _=>simp[eg]at e
   |Zs _=>simp[eg]at e
   |dst _=>simp[eg]at e
   |ins _ _=>simp[eg]at e
 |ZG n=>
  let⟨a,o,ws,h1,h2,rfl⟩:=b;simp![next]at e;cases eg:g[n]? with
  |none=>simp[eg]at e
  |some ob=>
   cases ob with
   |Zs Z4=>
    let⟨a',o',k,f,j,p⟩:=c.Zs eg;rw[h1]at f;cases f;rw[h2]at j;cases j;simp![eg,Y2,Option.map_eq_none_iff]at e;exact⟨h2,by rw[<-p.len];exact Ts.mp e⟩
   |_=>simp[eg]at e
 |seq S=>
  let⟨a,vs,h1,h2,rfl⟩:=b;simp![next,Y2]at e;exact⟨vs,h1.elim SqU.sq SqC.sq,Ts.mp (h2.none_of e)⟩
 |YM lo n=>
  cases b;simp![next,Y2]at e;split at e
  .cases e
  .rename_i h;exact Nat.le_of_not_lt h
def sF{it:Iter}{p:It}(m:RH X.K ρ H g)(l:RI X.K ρ H it p)(e:next it i g=some (some u)):p.go i H /\∀x H',p.yld i H x H'->ZI X.K ρ H ρ H'/\RH X.K ρ H' g/\RV X.K ρ H' u x:=by
 have c:∀{x:V} {H':Hp},H'=H->RV X.K ρ H u x->ZI X.K ρ H ρ H'/\RH X.K ρ H' g/\RV X.K ρ H' u x:=λe r=>by subst e;exact⟨.refl,m,r⟩
 cases it with
 |M n=>
  let⟨a,h1,rfl⟩:=l;simp![next]at e;cases eg:g[n]? with
  |none=>simp[eg]at e
  |some o=>
   cases o with
   |M S=>
    simp![eg,Y2]at e;let⟨vs,q,A⟩:=cN m h1 eg;let⟨v,d,j⟩:=A.get e;refine⟨⟨vs,v,.of q,d⟩,λx H' ⟨h1,h2⟩=>c h1 ?_⟩;have:=h2 vs (.of q);rw[d]at this;cases this;exact j
   |ZG _=>simp[eg]at e
   |Zs _=>simp[eg]at e
   |dst _=>simp[eg]at e
   |ins _ _=>simp[eg]at e
 |ZG n=>
  let⟨a,o,ws,h1,h2,rfl⟩:=l;simp![next]at e;cases eg:g[n]? with
  |none=>simp[eg]at e
  |some ob=>
   cases ob with
   |Zs Z4=>
    let⟨a',o',y,f,w,B⟩:=m.Zs eg;rw[h1]at f;cases f;rw[h2]at w;cases w;simp![eg,Y2]at e;let⟨⟨k,z⟩,D,C⟩:=Wa.mp e;let⟨v,d,j⟩:=B.at D;refine⟨⟨h2,(YG.mp d).1⟩,λx H' ⟨h3,b,k',E,ex,t,s⟩=>c h3 ?_⟩;rw[d]at t;cases t;subst ex;subst C;exact⟨b,k.map V.int,rfl,by rw[Uu]at s;exact s,da k⟩
   |_=>simp[eg]at e
 |seq S=>
  let⟨a,vs,h1,h2,rfl⟩:=l;simp![next,Y2]at e;let⟨v,d,j⟩:=h2.get e;have f:SqT X.K H a vs:=h1.elim SqU.sq SqC.sq;refine⟨⟨vs,v,f,d⟩,λx H' ⟨h3,h4⟩=>c h3 ?_⟩;have:=h4 vs f;rw[d]at this;cases this;exact j
 |YM lo n=>
  cases l;simp![next,Y2]at e;split at e
  .rename_i h
   cases e;exact⟨h,λx H' ⟨h1,h2⟩=>c h1 h2⟩
  .cases e
variable{st:Stmt}{ZQ:List Stmt}{s':Z6}{ZD:List Z6}
def abE:PSs X [] (Zi X.K W (IT r [])):=zZ.imp λD Y H ⟨b,ρ,g,hs,a,p⟩=>p Y ρ H .refl a hs
def aac(i:PS X st (Zi X.K W (IS r s')))(b:PSs X ZQ (Zi X.K W (r.ex ZD))):PSs X (st::ZQ) (Zi X.K W (IT r (s'::ZD))):=by
 refine(xt i b).imp λD Y H ⟨d,ρ,g,hs,h,p⟩=>⟨d,ρ,g,hs,h,?_⟩;revert p;simp![IT];cases IS r s' d g with
 |ok f g1=>
  cases f with
  |nx a=>exactλp l j H2 e b k=>⟨a,j,g1,k,b,IY.from (o:=r.ex ZD a g1) p e⟩
  |rt u=>exactλp=>p
  |bk a=>exactλp=>p
  |ct a=>exactλp=>p
 |exc c fs g1=>exactλp=>p
 |ZU=>exactλp=>p
def fc{f:Su->G->Out U}{k:Su->U->G->Out Fl}{Y:L2.St}{H:Hp}{D:Ends}
  (e:Zi X.K W (λa g=>(f a g).bind λx g=>k a x g) D Y H)
  (b:∀a ρ H g u x,RS X.K ρ H a Y->RH X.K ρ H g->RV X.K ρ H u x->IY X.K W (k a u g) ρ H D->Q2 x H):tE X.K W f Y H Q2:=by
 let⟨a,ρ,g,hs,h,p⟩:=e;exact⟨a,ρ,g,hs,h,(IY.bind p).mono λx H1 ⟨i,u,g1,s1,h1,c,d⟩=>b a i H1 g1 u x (hs.step s1) h1 c d⟩
def abH(h:PE X e (tE X.K W (r.ev e'))):PS X (.Return (some e) pos) (Zi X.K W (IS r (.ret e'))):=
 (acn h).imp λD Y H b=>fc b λd ρ H g u x hs c a p=>p x ρ H .refl c a
def acA(h:PE X e (tE X.K W (r.ev e')))(a:swapsWith e none pos.line X.env=pure false):PS X (.Expr e pos) (Zi X.K W (IS r (.exp e'))):=
 (yQ h a).imp λD Y H b=>fc b λf ρ H g u x a c d p=>p _ ρ H .refl c a
def acg{a:Su}{Y:L2.St}{D:Ends}(f:RS X.K ρ H a Y)(c:RH X.K ρ H g)(d:RV X.K ρ H u v)(p:IY X.K W (match Ae t (IK t u g) a with|some ZR=>Out.ok (.nx ZR) g|none=>.ZU) ρ H D):tG X.K t v Y H D.nx:=by
 cases e:Ae t (IK t u g) a with
 |none=>simp![e]at p;exact p.elim
 |some h=>simp![e]at p;exact⟨a,ρ,g,u,h,f,c,d,e,λZR b=>p ZR ρ H .refl c b⟩
def nZ(h:PE X e (tE X.K W (r.ev e')))(b:PG X tg (tG X.K t))(a:swapsWithSole [tg] e pos.line X.env=pure false)(d:swappedStores [tg] e X.env=pure none)(i:(assignEach [tg] X.env).map (·.2)=[assign tg X.env]):
  PS X (.Assign [tg] e pos) (Zi X.K W (IS r (.set t e'))):=
 (qa h b a d i).imp λD Y H f=>fc f λj ρ H g u x a b c p=>acg a b c p
def ab9{a:Pos}(m:X.N.Nodup)(hi:X.N[i]?=some x)(f:Loc X.env.scope x)(l:X.fn x=true\/X.env.scope.names.lookup x=some .local)(h:PE X e (tE X.K W (r.ev e')))(b:swapsWith e (some (.Name x a)) pos.line X.env=pure false):
  PS X (.Assign [.Name x a] e pos) (Zi X.K W (IS r (.set (.nm i) e'))):=
 (acu m hi f h b l).imp λD Y H j=>fc j λn ρ H g u x b k d p=>by
  simp![IK,Ae]at p;by_cases c:i<n.length
  .rw [YC c]at p;exact p _ ρ H .refl k (b.set d)
  .rw [Yj c]at p;exact p.elim
def acV{y:Str}{e d f:Pos}{kt k2 W2}(z:X.calm=true)(C:X.N.Nodup)(hi:X.N[i]?=some x)(s:X.N[j]?=some y)(G:i≠j)
  (o:X.env.scope.names.lookup x=some .local) (n:X.env.scope.names.lookup y=some .local) (B:PE X a (tE X.K W (r.ev a'))) (A:PE X b (tE X.K W (r.ev b'))) (c:∀es,starEach (a::es) X.env=(false,eval a X.env)::starEach es X.env) (I:∀es,starEach (b::es) X.env=(false,eval b X.env)::starEach es X.env)
  (q:swappedStores [.Tuple [.Name x e,.Name y d] kt f] (.Tuple [a,b] k2 W2) X.env=pure (some [x,y])) :
  PS X (.Assign [.Tuple [.Name x e,.Name y d] kt f] (.Tuple [a,b] k2 W2) pos) (Zi X.K W (IS r (.par i j a' b'))):=by
 refine(acE z C hi s G o n (aW B (aW A bQ (I _)) (c _)) q rfl).imp ?_;rintro D Y H ⟨h,ρ,g,hs,t,p⟩;refine⟨h,ρ,g,hs,t,(IY.bind p).mono λv H1 ⟨F,u,g1,s1,h1,l,m⟩=>?_⟩;refine⟨h,F,g1,hs.step s1,h1,(IY.bind m).mono λw H2 ⟨E,u2,g2,s2,h2,k,p2⟩=>?_⟩;split at p2
 .exact ⟨v,w,rfl,p2 _ E H2 .refl h2 ((((hs.step s1).step s2).set (RV.step s2 _ _ l)).set k)⟩
 .exact p2.elim
def acC{o i:Expr}{i':E}{Xc:Pos}(hu:X.A.units+1<cLine)(h:PE X e (tE X.K W (r.ev e')))(ho:PE X o (tE X.K W (r.ev o')))(hi:PE X i (tE X.K W (r.ev i')))(hs:swapsWithSole [.Subscript o i Xc] e pos.line X.env=pure false)(hw:swappedStores [.Subscript o i Xc] e X.env=pure none)
  (ha:∀ v,assign (.Subscript o i Xc) X.env v=(do
   let ov<-holding [v] (eval o X.env)
   let iv<-holding [v,ov] (eval i X.env)
   standAt Xc
   holding [v,ov,iv] (setItem ov iv v)
   release [v,ov,iv] [])):PS X (.Assign [.Subscript o i Xc] e pos) (Zi X.K W (IS r (.sub o' i' e'))):=by
 refine(qa h (abv ho hi (yP set_list (set_dict hu)) ha) hs hw rfl).imp ?_;rintro D Y H ⟨ZY,ρ,g,hs,hg,p⟩;refine⟨ZY,ρ,g,hs,hg,(IY.bind p).mono λv H1 ⟨ZK,u,g1,s1,h1,r1,p1⟩=>?_⟩;refine⟨ZY,ZK,g1,hs.step s1,h1,(IY.bind p1).mono λw H2 ⟨Zn,u2,g2,s2,h2,r2,p2⟩=>?_⟩;refine⟨ZY,Zn,g2,(hs.step s1).step s2,h2,(IY.bind p2).mono λz H3 ⟨U8,u3,g3,s3,h3,r3,p3⟩=>?_⟩;cases u2 with
 |ref n=>
  cases u3 with
  |int k=>
   cases r3;simp![subAt,Ea]at p3;cases eg:g3[n]? with
   |none=>simp![eg]at p3;exact p3.elim
   |some ob=>
    cases ob with
    |M S=>
     simp![eg]at p3;let⟨q,vs,rfl,hn,t2,t3⟩:=b6 h3 (RV.step s3 _ _ r2) eg;cases ej:ixN S.length k with
     |none=>simp![ej]at p3;exact p3.elim
     |some j=>
      simp![ej]at p3;have rv:=RV.step s3 _ _ (RV.step s2 _ _ r1);exact .inl ⟨q,vs,k,j,rfl,rfl,t2,by rw[<-t3.length];exact ej,p3 _ U8 _ (ZI.write hn t2) (h3.write hn t2 (t3.set rv j)) ((((hs.step s1).step s2).step s3).step (ZI.write hn t2))⟩
    |ZG _=>simp![eg]at p3;exact p3.elim
    |Zs _=>simp![eg]at p3;exact p3.elim
    |dst _=>simp![eg]at p3;exact p3.elim
    |ins _ _=>simp![eg]at p3;exact p3.elim
  |ZX S=>
   simp![subAt,Er]at p3;cases eg:g3[n]? with
   |none=>simp![eg]at p3;exact p3.elim
   |some ob=>
    cases ob with
    |ZG Z4=>
     simp![eg]at p3;cases ek:intsOf S with
     |none=>simp![ek]at p3;exact p3.elim
     |some k=>
      simp![ek]at p3;by_cases hl:Z4.length<Ac
      .rw [YC hl]at p3
       let⟨q,ws,hn,ha,rd⟩:=h3.ZG eg;let⟨q',rfl,Zd⟩:=RV.step s3 _ _ r2;rw[hn]at Zd;cases Zd;let⟨b,rfl,hb⟩:=gQ (x:=.ZX S) (k:=k) ek r3;have rv:=RV.step s3 _ _ (RV.step s2 _ _ r1);refine .inr ⟨q,_,rfl,DPut.t ha hb ?_,p3 _ U8 _ (ZI.X0 hn ha trivial) (h3.X0 hn ha trivial ⟨_,rfl,rd.put rv⟩) ((((hs.step s1).step s2).step s3).step (ZI.X0 hn ha trivial))⟩;rw[<-rd.len,UB];unfold Ac at hl;lia
      .rw [Yj hl]at p3;exact p3.elim
    |M _=>simp![eg]at p3;exact p3.elim
    |Zs _=>simp![eg]at p3;exact p3.elim
    |dst _=>simp![eg]at p3;exact p3.elim
    |ins _ _=>simp![eg]at p3;exact p3.elim
  |str k=>
   simp![subAt,IQ]at p3;cases eg:g3[n]? with
   |none=>simp![eg]at p3;exact p3.elim
   |some ob=>
    cases ob with
    |dst Z4=>
     simp![eg]at p3;by_cases hl:Z4.length<Ac
     .rw [YC hl]at p3
      let⟨q,ws,hn,ha,rk⟩:=h3.dst eg;let⟨q',rfl,Zd⟩:=RV.step s3 _ _ r2;rw[hn]at Zd;cases Zd;cases r3;have rv:=RV.step s3 _ _ (RV.step s2 _ _ r1);refine .inr ⟨q,_,rfl,DPut.k (k:=Sum.inr k) ha ?_,p3 _ U8 _ (ZI.X0 hn ha trivial) (h3.X0 hn ha trivial ⟨_,rfl,rk.put rv⟩) ((((hs.step s1).step s2).step s3).step (ZI.X0 hn ha trivial))⟩;rw[<-rk.len,UB];unfold Ac at hl;lia
     .rw [Yj hl]at p3;exact p3.elim
    |_=>simp![eg]at p3;exact p3.elim
  |_=>exact False.elim p3
 |_=>exact False.elim p3
def ac6{as e:List Stmt}{a h:List Z6}(j:PT X c (tT X.K W (r.ts c')))(m:PSs X as (Zi X.K W (r.ex a)))(l:PSs X e (Zi X.K W (r.ex h))):PS X (.If c as e pos) (Zi X.K W (IS r (.Zx c' a h))):=by
 refine(adQ j m l).imp ?_;rintro D Y H ⟨b,ρ,g,hs,i,p⟩;refine⟨b,ρ,g,hs,i,(IY.bind (R:=Yc) p).mono λk H1 ⟨f,k',g1,s1,h1,n,d⟩=>?_⟩;subst n;cases k' with
 |true=>exact ba ⟨b,f,g1,hs.step s1,h1,d⟩
 |false=>exact a9 ⟨b,f,g1,hs.step s1,h1,d⟩
def rD{o:Out Fl}{k:Su->G->Out Fl}{D:Ends}{N:L2.St->Hp->Prop}
  (p:IY X.K W (o.bind λf g=>match f with|.nx ZR=>k ZR g|.ct ZR=>k ZR g|.bk ZR=>.ok (.nx ZR) g|.rt u=>.ok (.rt u) g) ρ H D)
  (b:∀a d Y ZN H',ZI X.K ρ H ZN H'->RH X.K ZN H' d->RS X.K ZN H' a Y->IY X.K W (k a d) ZN H' D->N Y H'):IY X.K W o ρ H {D with nx:=N,ct:=N,bk:=D.nx}:=by
 cases o with
 |ok f g=>
  cases f with
  |nx a=>exactλY ZN H' s h hs=>b a g Y ZN H' s h hs (IY.from (o:=k a g) p s)
  |ct a=>exactλY ZN H' s h hs=>b a g Y ZN H' s h hs (IY.from (o:=k a g) p s)
  |bk a=>exact p
  |rt u=>exact p
 |exc c fs g=>exact p
 |ZU=>exact p
def abZ{B:List Stmt}{a:List Z6}{n:Nat}(z:PassesOwn (model X.prog X.w) X.A X.env X.xe)(L:∀n,PT X c (tT X.K W ((IX C n).ts c')))(M:∀n,PSs X B (Zi X.K W ((IX C n).ex a))):
  PS X (.While c B [] pos) (Zi X.K W (IS (IX C n) (.V3 c' a))):=by
 intro O s Y H D I G;have o:∀m Y H,Zi X.K W ((IX C m).wh c' a) D Y H ->∃l,m=l+1:=λm Y H ⟨q,ρ,g,_,_,p⟩=>by
  cases m with
  |zero=>exact p.elim
  |succ l=>exact⟨l,rfl⟩
 refine wpAny_While (codeAny_whileLoop (λn s'=>∃ZR H',L2.Z0 X O ZR H' s'/\Zi X.K W ((IX C n).wh c' a) D ZR H') ?_ n ⟨Y,H,I,G⟩);rintro n e ⟨d,H1,S,u⟩;let⟨m,rfl⟩:=o n d H1 u;let⟨q,ρ,g,hs,J,p⟩:=u;refine Rq z (thn (L m O e d H1 (λb H2=>if b=true then Zi X.K W ((IX C m).ex a) {D with nx:=λZR H'=>Zi X.K W ((IX C m).wh c' a) D ZR H',ct:=λZR H'=>Zi X.K W ((IX C m).wh c' a) D ZR H',bk:=D.nx} d H2 else D.nx d H2) S ?_) λb x ⟨H2,F,i⟩=>?_)
 .refine ⟨q,ρ,g,hs,J,(IY.bind (R:=Yc) p).mono λk H1 ⟨E,k',g1,e,h1,N,y⟩=>?_⟩
  subst N;cases k' with
  |true=>exact ba ⟨q,E,g1,hs.step e,h1,rD (k:=λZR g=>(IX C m).wh c' a ZR g) y λQ g2 Y ZN H' x h2 P p2=>⟨Q,ZN,g2,P,h2,p2⟩⟩
  |false=>exact a9 (y _ E _ .refl h1 (hs.step e))
 .cases b with
  |true=>
   rw[YC rfl]at i;rw[YC rfl];refine Rq z (thn (M m O x d H2 _ F i) λf s3 h=>?_);cases f with
   |next=>
    let⟨r,H3,t,j⟩:=h;exact⟨m,Ri _,r,H3,t,j⟩
   |cont=>
    let⟨r,H3,t,j⟩:=h;exact⟨m,Ri _,r,H3,t,j⟩
   |brk=>exact h
   |ret v=>exact h
  |false=>
   rw[Yj GA]at i;rw[Yj GA];exact Of ⟨d,H2,F,i⟩
end
section
variable{YN:List Addr}{H0:Hp}{D:Addr}{JN o2:HO}
def ZI.VG(s:ZI K YN H0 ρ H)(h0:H0 D=none)(hD:H D=some JN)(hm:Bx JN):ZI K YN H0 ρ (upd H D o2) where
 ext:=s.ext
 new:=s.new
 X1:=λa o h hn=>by rw[af (aC h h0)];exact s.X1 a o h hn
 live:=λa h=>by
  by_cases e:a=D
  .subst e;rw[upd_same];simp
  .rw [af e];exact s.live a h
 ZX:=λa xs h=>aP (s.ZX a xs h) (.inr ⟨_,hD,hm⟩)
 Zv:=λa xs h=>aM (s.Zv a xs h) (.inr ⟨_,hD,hm⟩)
 Zt:=λa ob u h=>by rw[af (bZ (s.Zt a ob u h) hD (by rintro rfl;exact hm))];exact s.Zt a ob u h
def RV.VG(b:H D=some JN)(a:Bx JN)(h:RV K ρ H u v):RV K ρ (upd H D o2) u v:=RV.mono (λ_ _ e=>e) (λ_ _ h=>aP h (.inr ⟨_,b,a⟩)) (λ_ _ h=>aM h (.inr ⟨_,b,a⟩)) u v h
def RVs.VG(b:H D=some JN)(a:Bx JN){u:List U}{v:List V}(h:RVs K ρ H u v):RVs K ρ (upd H D o2) u v:=RVs.mono (λ_ _ e=>e) (λ_ _ h=>aP h (.inr ⟨_,b,a⟩)) (λ_ _ h=>aM h (.inr ⟨_,b,a⟩)) u v h
def RH.VG(h:RH K ρ H g)(hD:H D=some JN)(hm:Bx JN)(hn:D ∉ ρ):RH K ρ (upd H D o2) g where
 len:=h.len
 inj:=h.inj
 obj:=λn a o h1 h2=>by
  have q:=h.obj n a o h1 h2;have ne:a≠D:=λe=>hn (e ▸ UC.mpr ⟨n,h1⟩);let⟨ho,e,r⟩:=q;exact⟨ho,by rw[af ne];exact e,r.mono (λ_ _ e=>e) (λ_ _ h=>aP h (.inr ⟨_,hD,hm⟩)) (λ_ _ h=>aM h (.inr ⟨_,hD,hm⟩))⟩
def RH.named{p:Z9}(h:RH K ρ H g)(w:H D=some JN)(v:D ∉ ρ)(r:RHO K ρ H p JN):RH K (ρ++[D]) H (g++[p]):=by
 have t:∀(n:Nat) (a:Addr),ρ[n]?=some a->(ρ++[D])[n]?=some a:=λn a e=>by rw[XM (YG.mp e).1];exact e
 have c:∀k b,(ρ++[D])[k]?=some b->(k<ρ.length/\ρ[k]?=some b)\/(k=ρ.length/\b=D):=λk b e=>by
  by_cases hk:k<ρ.length
  .rw [XM hk]at e;exact .inl ⟨hk,e⟩
  .rw [Wc ()]at e
   cases hd:k-ρ.length with
   |zero=>rw[hd]at e;exact .inr ⟨by omega,by simpa using e.symm⟩
   |succ m=>rw[hd]at e;simp at e
 have l:∀k:Nat,ρ[k]? ≠ some D:=λk e=>v (UC.mpr ⟨k,e⟩);refine⟨by simp[h.len],λi j a h1 h2=>?_,λn a o h1 h2=>?_⟩
 .rcases c i a h1 with⟨_,f⟩|⟨f,s⟩
  .rcases c j a h2 with⟨_,d⟩|⟨d,u⟩
   .exact h.inj i j a f d
   .subst u;exact absurd f (l i)
  .rcases c j a h2 with⟨_,d⟩|⟨d,u⟩
   .subst s;exact absurd d (l j)
   .lia
 .rcases c n a h1 with⟨hl,f⟩|⟨f,s⟩
  .rw [XM (by rw[<-h.len];exact hl)]at h2
   have q:=h.obj n a o f h2;let⟨ho,e,r'⟩:=q;exact⟨ho,e,r'.mono t (λ_ _ h=>h) (λ_ _ h=>h)⟩
  .subst s
   rw[Wc (by rw[<-h.len];lia),<-h.len,f]at h2
   have d:o=p:=by simpa using h2.symm
   subst d;exact⟨_,w,r.mono t (λ_ _ h=>h) (λ_ _ h=>h)⟩
def ZI.named(s:ZI K YN H0 ρ H)(h0:H0 D=none):ZI K YN H0 (ρ++[D]) H where
 ext:=λn a h=>by have:=s.ext n a h;rw[XM (YG.mp this).1];exact this
 new:=λn a h=>by
  by_cases hk:n<ρ.length
  .rw [XM hk]at h;exact s.new n a h
  .rw [Wc ()]at h
   cases hd:n-ρ.length with
   |zero=>
    rw[hd]at h;have e:a=D:=by simpa using h.symm
    subst e;exact .inr h0
   |succ m=>rw[hd]at h;simp at h
 X1:=s.X1
 live:=s.live
 ZX:=s.ZX
 Zv:=s.Zv
 Zt:=s.Zt
def fw(s:ZI K ρ H ZN H')(a:D ∉ ρ)(c:H D=some JN):D ∉ ZN:=λb=>by
 let⟨n,e⟩:=UC.mp b;rcases s.new n D e with q|q
 .exact a (UC.mpr ⟨n,q⟩)
 .rw [c]at q;cases q
def RS.unbind{t:Tg}{b l:Su}{Y:L2.St}(m:AK t b=true)(d:Ae t u b=some l)(h:RS K ρ H l Y):RS K ρ H b Y:=by
 have one:∀(i:Nat) (w:U) (a:Su),(match a[i]? with|some none=>true|_=>false)=true ->∀(j:Nat) (z:U),a[j]?=some (some z)->(a.set i (some w))[j]?=some (some z):=λi w a hi j z e=>by
  by_cases g:j=i
  .subst g;rw[e]at hi;cases hi
  .rw [Vm (Ne.symm g)];exact e
 cases t with
 |nm i=>
  simp![Ae]at d;split at d
  .cases d
   exact⟨by have:=h.len;simpa using this,λj z e=>h.val j z (one i u b m j z e)⟩
  .cases d
 |tp is=>
  cases u with
  |ZX S=>
   have p:bindL is S b=some l:=d;have all:∀(is:List Nat) (S:List U) (a f:Su),(∀i∈is,∀z,b[i]? ≠ some (some z))->(∀(j:Nat) (z:U),b[j]?=some (some z)->a[j]?=some (some z))->bindL is S a=some f->f.length=a.length /\∀(j:Nat) (z:U),b[j]?=some (some z)->f[j]?=some (some z):=λis=>by
    induction is with
    |nil=>
     intro S a f _ c e;cases S with
     |nil=>cases e;exact⟨rfl,c⟩
     |cons _ _=>cases e
    |cons i is ih=>
     intro S a f hi c e;cases S with
     |nil=>cases e
     |cons w S=>
      simp![bindL]at e;split at e
      .obtain ⟨h1,h2⟩:=ih S _ f (λk hk=>hi k (GC _ hk)) (λj z n=>by
        have g:j≠i:=λq=>hi i XZ z (q ▸ n);rw[Vm (Ne.symm g)];exact c j z n) e
       exact⟨by rw[h1];simp,h2⟩
      .cases e
   have hi:∀i∈is,∀z,b[i]? ≠ some (some z):=λi o z e=>by
    have:=Wy.mp m i o;rw[e]at this;cases this
   let⟨h1,h2⟩:=all is S b l hi (λ_ _ e=>e) p;exact⟨by rw[<-h1];exact h.len,λj z e=>h.val j z (h2 j z e)⟩
  |_=>simp[Ae]at d
def dR{o:Out α}{k:α->G->Out β}{b:β}(h:o.bindB k=.ok b g'):∃a c,o=.ok a c/\k a c=.ok b g':=by
 cases o with
 |ok a c=>exact⟨a,c,rfl,h⟩
 |exc _ _ _=>cases h
 |ZU=>cases h
end
section
abbrev S6(ifs:List Expr)(env:Env):Sem Bool:=forIn ifs true λc r=>if r=true then do let ok<-isTrue c env (eval c env);pure (ForInStep.yield ok)else pure (ForInStep.yield r)
def js{env:Env}{Z5:Model}{A:Around}{E:Value->Shared->Prop}{Q:Bool->Shared->Prop}{s:Shared}(h:Q false s):∀ifs:List Expr,wpAny Z5 A (forIn ifs false λc r=>if r=true then do let ok<-isTrue c env (eval c env);pure (ForInStep.yield ok)else pure (ForInStep.yield r)) Q E s
 |[]=>ZP h
 |c::cs=>by
  simp![Pj,XH,W6];exact ZB (ZP (js h cs))
def PTs(X:Cx)(a:List Expr)(f:Su->G->Out Bool):Prop:=
 ∀(O:List (Addr×Obj)) (s:Shared) (Y:L2.St) (H:Hp) (Q:Bool->Hp->Prop),L2.Z0 X O Y H s->tT X.K Yp f Y H Q->wpAny (model X.prog X.w) X.A (S6 a X.env) (TP X O Y Q) X.xe s
where Yp:XQ:=λ_ _ _=>False
def zp:PTs X [] (Aw r.ts []):=λO s Y H Q I ⟨b,ρ,g,hs,a,p⟩=>ZP ⟨H,I,post.Zb (R:=Yc) p a rfl⟩
def xw{c:Expr}{f:E}{d:List Expr}{a:List E}(l:PT X c (tT X.K PTs.Yp (r.ts f)))(o:PTs X d (Aw r.ts a)):PTs X (c::d) (Aw r.ts (f::a)):=by
 intro O s Y H Q I ⟨h,ρ,g,hs,j,p⟩;unfold S6;simp![Pj,Uc];refine ZB (ZB (thn (l O s Y H (λk H1=>if k=true then tT X.K PTs.Yp (Aw r.ts a) Y H1 Q else Q false H1) I ⟨h,ρ,g,hs,j,(post.bind (R:=Yc) p).mono λk H1 ⟨n,k',g1,s1,h1,m,e⟩=>?_⟩) λk s1 ⟨H1,i,b⟩=>?_))
 .subst m
  cases k' with
  |true=>exact ba ⟨h,n,g1,hs.step s1,h1,e⟩
  |false=>exact a9 (post.Zb (R:=Yc) e h1 rfl)
 .cases k with
  |true=>rw[YC rfl]at b;exact ZP (o O s1 Y H1 Q i b)
  |false=>rw[Yj GA]at b;exact ZP (js ⟨H1,i,b⟩ d)
structure Mon(K:GJ)(ρ:List Addr)(H:Hp)(ZN:List Addr)(H':Hp):Prop where
 ext:∀(n:Nat) (a:Addr),ρ[n]?=some a->ZN[n]?=some a
 ZX:∀a xs,SqU K H a xs->SqU K H' a xs
 Zv:∀a xs,SqF K H a xs->SqF K H' a xs
 Zt:∀a o u,H a=some (.Zt o u)->H' a=some (.Zt o u)
def ZI.mon(s:ZI K ρ H ZN H'):Mon K ρ H ZN H':=⟨s.ext,s.ZX,s.Zv,s.Zt⟩
def Mon.trans{d:List Addr}{c:Hp}(a:Mon K ρ H ZN H')(b:Mon K ZN H' d c):Mon K ρ H d c:=⟨λn x h=>b.ext n x (a.ext n x h),λx xs h=>b.ZX x xs (a.ZX x xs h),λx xs h=>b.Zv x xs (a.Zv x xs h),λx o u h=>b.Zt x o u (a.Zt x o u h)⟩
def RI.mon{i:Iter}{c:It}(s:Mon K ρ H ZN H')(h:RI K ρ H i c):RI K ZN H' i c:=by
 cases i with
 |M n=>let⟨a,h1,h2⟩:=h;exact⟨a,s.ext _ _ h1,h2⟩
 |ZG n=>let⟨a,o,ws,h1,h2,b⟩:=h;exact⟨a,o,ws,s.ext _ _ h1,s.Zt _ _ _ h2,b⟩
 |seq S=>let⟨a,vs,h1,h2,b⟩:=h;exact⟨a,vs,h1.imp_left (s.ZX _ _),RVs.mono s.ext s.ZX s.Zv _ _ h2,b⟩
 |YM lo n=>exact h
def Bq(X:Cx)(C:Nat->List U->G->Out U):List Comprehension->List (Tg×E×List E)->Prop
 |[],[]=>True
 |g::r,(t,Zp,cs)::r'=>g.is_async=0/\PG X g.target (tG X.K t)/\(∀n,PTs X g.ifs (Aw (IX C n).ts cs))/\(∀n,PI X g.target g.iter (tI X.K PTs.Yp (IL (IX C n) Zp)))/\(∀x,foldedSetIterable g.iter X.env x=pure x)/\Bq X C r r'
 |_,_=>False
set_option genInjectivity false in
inductive CK where|M (elt:Expr)|ZG (k v:Expr)
noncomputable def CK.exp(c:CK)(gens:List Comprehension)(scope:Scope)(pos:Pos):Expr:=match c with
 |.M elt=>.ListComp elt gens scope pos
 |.ZG k v=>.DictComp k v gens scope pos
noncomputable def CK.emit(c:CK)(ZS:Value)(env:Env):Sem Unit:=match c with
 |.M elt=>(do let _<-call (.builtin "list.append") [ZS,<-eval elt env])
 | .ZG k v=>(do
   let kv<-eval k env
   let vv<-holding [kv] (eval v env)
   match ZS with
   |.ref d=>do
    standAt {k.pos with endLine:=v.pos.endLine,endCol:=v.pos.endCol}
    holding [kv,vv] (dictSet d kv vv)
   |_=>unsupported "internal:dictcomp")
noncomputable def CK.new(c:CK):Sem Value:=match c with
 |.M _=>newList []
 |.ZG _ _=>newDict
noncomputable def CK.obj(c:CK):Obj:=match c with
 |.M _=>{cls:=.type "list",dict:=none,data:=.seq ([]:List Value).toArray}
 |.ZG _ _=>{cls:=.type "dict",data:=.dict #[]}
noncomputable def CK.Wx(c:CK):HO:=match c with
 |.M _=>.M []
 |.ZG _ _=>.dT []
noncomputable def CK.ho(K:GJ)(ρ:List Addr)(H:Hp)(c:CK)(a:List U)(o:HO):Prop:=match c with
 |.M _=>∃vs,o=.M vs/\RVs K ρ H a vs
 |.ZG _ _=>∃Z4 ws,o=.dT ws/\dfold a []=some Z4/\RD K ρ H Z4 ws
def CK.ho.mut{c:CK}{o:HO}(h:CK.ho K ρ H c ZS o):Bx o:=by
 cases c with
 |M e=>let⟨vs,rfl,_⟩:=h;trivial
 |ZG k v=>let⟨_,ws,rfl,_⟩:=h;trivial
def CK.ho.mono{K:GJ}{ρ l:List Addr}{H b:Hp}{c:CK}{j:List U}{o:HO}(h:CK.ho K ρ H c j o)(i:∀(n:Nat) (a:Addr),ρ[n]?=some a->l[n]?=some a)(f:∀a xs,SqU K H a xs->SqU K b a xs)(g:∀a xs,SqF K H a xs->SqF K b a xs):CK.ho K l b c j o:=by
 cases c with
 |M e=>let⟨vs,e,r⟩:=h;exact⟨vs,e,RVs.mono i f g _ _ r⟩
 |ZG k v=>let⟨Z4,ws,e,d,r⟩:=h;exact⟨Z4,ws,e,d,RD.mono i f g _ _ r⟩
def CK.ho.step{c:CK}{o:HO}(s:ZI K ρ H ZN H')(h:CK.ho K ρ H c ZS o):CK.ho K ZN H' c ZS o:=h.mono s.ext s.ZX s.Zv
def CK.ho0{c:CK}:CK.ho K ρ H c [] c.Wx:=by
 cases c with
 |M e=>exact⟨[],rfl,rfl⟩
 |ZG k v=>exact⟨[],[],rfl,rfl,rfl⟩
def CK.R1{Z5:Model}{E:Value->Shared->Prop}{Q:Value->Shared->Prop}{c:CK}(h:Q (.ref s.heap.objs.size) {s with heap:=s.heap.push c.obj}):wpAny Z5 A c.new Q E s:=by
 cases c with
 |M e=>exact VS h
 |ZG k v=>exact VS h
def CK.R0(c:CK)(h:Heap)(a:sysModules<h.objs.size):ObjOk P w H (h.push c.obj) h.objs.size c.Wx:=by
 cases c with
 |M e=>exact⟨S_ _,[],0,.nil,GG _ rfl⟩
 |ZG k v=>exact kE h a
inductive RR(X:Cx)(c:CK)(D:Addr)(O:List (Addr×Obj))(YN:List Addr)(H0:Hp)(Ww:List Addr)(Hs:Hp)(ZY:Su)(S:List U)(g':G)(r:Result)(s':Shared):Prop
 |mk (f:∃f,r=.ok f) (ZR:L2.St) (H':Hp) (ZN:List Addr) (Yk:HO) (I:L2.Z0 X O ZR H' s') (sp:ZI X.K YN H0 ZN H') (hg:RH X.K ZN H' g') (hs:RS X.K ZN H' ZY ZR) (hD:H' D=some Yk) (hn:D ∉ ZN) (rv:CK.ho X.K ZN H' c S Yk) (mo:Mon X.K Ww Hs ZN H')
def u0{c:CK}{k:Nat}{g:Comprehension}{it ZS:Value}(hk:gens[k]?=some g)(ha:g.is_async=0):
  compTurn (c.exp gens scope pos) k it ZS env=(do
   standAt g.iter.pos
   match<-pyNext it with
   |none=>pure (.done .next)
   |some v=>
    letOwnedTupleGo g.target it v
    assign g.target env v
    let ok<-S6 g.ifs env
    if ok then
     match gens[k+1]? with
     |some g'=>
      let x<-eval g'.iter env
      standAt g'.iter.pos
      let x<-if g'.is_async != 0 then foldedIterable g'.iter x else foldedSetIterable g'.iter env x
      let _<-runOwn (.compStart (c.exp gens scope pos) (k+1) (<- holding [x] (if g'.is_async != 0 then asyncIter x else pyIter x)) ZS env) env
     |none=>c.emit ZS env
    again (.compLoop (c.exp gens scope pos) k it ZS env)):=by
 cases c with
 |M elt=>unfold compTurn;simp![CK.exp,hk,ha];rfl
 |ZG kx vx=>unfold compTurn;simp![CK.exp,hk,ha];rfl
end
section
variable{R:Result->Shared->Prop}
def iJ{c:CK}{k:Nat}{g:Comprehension}{it ZS:Value}(hk:gens[k]?=some g)(ha:g.is_async=0)
  (h0:codeAny (model prog w) A (.compLoop (c.exp gens scope pos) k it ZS env) R s)
  (h:wpAny (model prog w) A (pyIter it) (λZp s'=>codeAny (model prog w) A (.compLoop (c.exp gens scope pos) k Zp ZS env) R s')
   (notedBy (model prog w) A env λx s'=>R (.error x) s') s) :
  codeAny (model prog w) A (.compStart (c.exp gens scope pos) k it ZS env) R s:=by
 refine Oi ?_;have key:(model prog w).den (.compStart (c.exp gens scope pos) k it ZS env)=(compStart (c.exp gens scope pos) k it ZS env).onRaise (λx=>do noteFrame x env;standAt theWindowsPlace):=by cases c<;>rfl
 have ku:A.under (.compStart (c.exp gens scope pos) k it ZS env)=A:=by cases c<;>rfl
 rw[key,ku];refine wpAny_notedAt ?_;unfold compStart;have hc:(clausesOf (c.exp gens scope pos))[k]?=some g:=by cases c<;>exact hk
 simp![hc,ha,Option.elim];show wpAny _ _ (ask >>= _) _ _ s;refine ZB (T3 (wpAny_ite ?_));split
 .first
   |exact ZB (ZP (ZP (And.intro rfl h0)))
   |exact ZP (And.intro rfl h0)
 .first
   |exact ZB (RM (ZB (S8 (ZB (Q1 h (λZp s' h'=>ZP (And.intro rfl h')) λ_ _ x=>x)))))
   |(refine ZB (RM ?_);show wpAny _ _ (standAt g.iter.pos >>= _) _ _ s;exact ZB (S8 (ZB (Q1 h (λZp s' h'=>ZP (And.intro rfl h')) λ_ _ x=>x))))
end
section
def noE{t:Sem α}{Q:α->Shared->Prop}{E:Value->Shared->Prop}(a:X.xe=λ_ _=>False)(h:wpAny (model X.prog X.w) X.A t Q X.xe s):wpAny (model X.prog X.w) X.A t Q E s:=
 Q1 h (λ_ _ q=>q) λe s' z=>by rw[a]at z;exact z.elim
def CQ(X:Cx)(C:Nat->List U->G->Out U)(c:CK)(f:E):Prop:=
 ∀(n:Nat) (O:List (Addr×Obj)) (s:Shared) (d:Su) (Y:L2.St) (H:Hp) (ρ:List Addr) (b:G) (ZS:List U) (o:HO) (v:U) (g2:G) (D:Addr),(IX C n).ev f d b=.ok v g2->ZS.length<Ac->L2.Z0 X O Y H s->RS X.K ρ H d Y->RH X.K ρ H b->H D=some o->D ∉ ρ->CK.ho X.K ρ H c ZS o ->
  wpAny (model X.prog X.w) X.A (c.emit (.ref D) X.env) (λ_ e=>∃a H1 o2,L2.Z0 X O Y (upd H1 D o2) e/\ZI X.K ρ H a H1/\RH X.K a H1 g2/\H1 D=some o/\CK.ho X.K a (upd H1 D o2) c (ZS++[v]) o2) X.xe s
def jY{b:Expr}(y:∀n,PE X b (tE X.K PTs.Yp ((IX C n).ev Zj))):CQ X C (.M b) Zj:=by
 intro n O s t Y H ρ m ZS o v g2 D r j I hs k l i ⟨vs,p,g⟩;subst p;refine ZB (thn (y n O s Y H (λx H1=>∃a,ZI X.K ρ H a H1/\RH X.K a H1 g2/\RV X.K a H1 v x) I ⟨t,ρ,m,hs,k,by rw[r];exactλv a H1 c h1 d=>⟨a,c,h1,d⟩⟩) ?_);rintro u c ⟨x,H1,A,d,a,e,w,h⟩
 have f:H1 D=some (.M vs):=e.X1 D _ l i;refine ZB (thn (jm O c Y H1 (.ref D) [x] (.ref D) [u] (λ_ H2=>H2=upd H1 D (.M (vs++[x]))) A rfl (.cons d .nil) ⟨D,vs,x,rfl,rfl,f,by rw[<-g.length,UB];unfold Ac at j;omega,rfl⟩) ?_);rintro u2 E ⟨B,H2,z,F,q⟩
 subst q;exact ZP ⟨a,H1,_,z,e,w,f,_,rfl,((RVs.step e _ _ g).append (.one h)).VG f trivial⟩
def jo:∀{xs ys:List U} {a Z4:List (List Int×U)},dfold xs a=some Z4->dfold (xs++ys) a=dfold ys Z4
 |[],_,_,_,e=>by cases e;rfl
 |x::xs,ys,a,Z4,e=>by
  simp![Rk,dfold]at e ⊢;let⟨b,h1,h2⟩:=WZ.mp e;rw[h1];exact jo h2
def xp{a:List (List Int×U)}{k:List Int}:(dput a k u).length<=a.length+1:=by
 unfold dput;split<;>simp
def vU{b a:List (List Int×U)}{x:U}(e:Cv b x=some a):a.length<=b.length+1:=by
 unfold Cv at e;split at e
 .obtain ⟨ks,_,rfl⟩:=Wa.mp e;exact xp
 .cases e
def jn:∀{xs:List U} {a Z4:List (List Int×U)},dfold xs a=some Z4->Z4.length<=a.length+xs.length
 |[],_,_,e=>by cases e;simp
 |x::xs,a,Z4,e=>by
  simp![dfold]at e;let⟨b,h1,h2⟩:=WZ.mp e;have:=vU h1;have:=jn h2;simp![YZ];lia
def yy{J B:Expr}{p m:E}(V:X.A.units+1<cLine)(hk:∀n,PE X J (tE X.K PTs.Yp ((IX C n).ev p)))(U:∀n,PE X B (tE X.K PTs.Yp ((IX C n).ev m))):CQ X C (.ZG J B) (.pair p m):=by
 intro n O s f Y H ρ z ZS o v g2 D N Z I hs hg hD W ⟨Z4,ws,eo,M,G⟩;subst eo;cases n with
 |zero=>cases N
 |succ n=>
  have a:(((IX C n).ev p f z).bind λx g=>((IX C n).ev m f g).bind λy g=>match keyOf x with|some _=>.ok (.ZX [x,y]) g|none=>.ZU)=Out.ok v g2:=N
  cases q:(IX C n).ev p f z with
  |exc _ _ _=>rw[q]at a;cases a
  |ZU=>rw[q]at a;cases a
  |ok L ga=>
   rw[q]at a;cases ev:(IX C n).ev m f ga with
   |exc _ _ _=>simp![Out.bind,ev]at a;cases a
   |ZU=>simp![Out.bind,ev]at a;cases a
   |ok F gb=>
    simp![Out.bind,ev]at a;cases d:keyOf L with
    |none=>rw[d]at a;cases a
    |some T=>
     rw[d]at a;cases a;refine ZB (thn (hk n O s Y H (λx H1=>∃c,ZI X.K ρ H c H1/\RH X.K c H1 ga/\RV X.K c H1 L x) I ⟨f,ρ,z,hs,hg,by rw[q];exactλv c H1 j h1 k=>⟨c,j,h1,k⟩⟩) ?_);rintro u j ⟨x,H1,I1,k,c,P,Yo,R⟩
     refine ZB (VO (thn (U n O j Y H1 (λx H2=>∃l,ZI X.K c H1 l H2/\RH X.K l H2 g2/\RV X.K l H2 F x) I1 ⟨f,c,ga,hs.step P,Yo,by rw[ev];exactλv c H1 j h1 k=>⟨c,j,h1,k⟩⟩) ?_));rintro w s2 ⟨y,H2,I2,S,l,i,t,Q⟩
     let⟨b,rfl,hb⟩:=gQ d (RV.step i _ _ R);obtain rfl:u=Value.ref b:=k;have sp:=P.trans i;have r:H2 D=some (.dT ws):=sp.X1 D _ hD W;refine ZB (S8 (VO (adb V I2 r hb ?_ S λs3 I3=>⟨l,H2,_,I3,sp,t,r,dput Z4 T F,_,rfl,?_,?_⟩)))
     .have:=jn M;rw[<-G.len,UB];unfold Ac at Z;simp at this;lia
     .rw [jo M];simp![dfold,Cv,d,Vg,Rj]
     .exact RD.mono (λ_ _ e=>e) (λ_ _ h=>aP h (.inr ⟨_,r,trivial⟩)) (λ_ _ h=>aM h (.inr ⟨_,r,trivial⟩)) _ _ ((G.mono sp.ext sp.ZX sp.Zv).put Q)
abbrev postC(c:Code)(R:Result->Shared->Prop)(N:Shared->Prop):PySem.Fin->Shared->Prop:=λfin s'=>match fin with|.done f=>R (.ok f) s'|.again c'=>c'=c/\N s'
inductive LpI(X:Cx)(f:Nat->Tg->List E->List (Tg×E×List E)->E->List U->Su->G->Out (List U))(t:Tg)(cs:List E)(ZD:List (Tg×E×List E))(Zj:E)(ZY:Su)(S:List U)(g':G)(O:List (Addr×Obj))(tn:Nat->Heap->Prop)(fp:List Addr)(Yn:Iter)(Z8:It)(YN:List Addr)(H0:Hp)(D:Addr)(c:CK)(Ww:List Addr)(Hs:Hp)(s:Shared):Prop
 |mk (i:Nat) (ZS:List U) (vs:HO) (Y:L2.St) (H:Hp) (ρ:List Addr) (g0:G) (eq:f i t cs ZD Zj ZS ZY g0=.ok S g') (I:L2.Z0 X O Y H s) (st:tn i s.heap) (hf:∀b∈fp,H b=none) (hs:RS X.K ρ H ZY Y) (XT:RH X.K ρ H g0) (ri:RI X.K ρ H Yn Z8) (sp:ZI X.K YN H0 ρ H) (hD:H D=some vs) (hn:D ∉ ρ) (rv:CK.ho X.K ρ H c ZS vs) (mo:Mon X.K Ww Hs ρ H)
def lD(hc:X.calm=true)(WR:X.xe=λ_ _=>False){c:CK}{Zj:E}{scope:Scope}{pos:Pos}{D:Addr}{k:Nat}{t:Tg}{YN Ww:List Addr}{H0 Hs:Hp}
  {it:Addr} {fp:List Addr} {tn:Nat->Heap->Prop} {Z8:It} {Yn:Iter} {O:List (Addr×Obj)} {ZY:Su} {S:List U} {g':G}
  (hk:gens[k]?=some gc) (ha:gc.is_async=0) (hg:PG X gc.target (tG X.K t)) (VF:∀n,PTs X gc.ifs (Aw (IX C n).ts cs)) (T:Turn X.prog X.w X.K gc.target Z8 fp it tn) (ZC:∀b∈fp,∀H':Hp,H' b=none->AY X O H' b) (h0:H0 D=none)
  (inner:∀ (n:Nat) (W5:List (Addr×Obj)) (s:Shared) (ZM:Su) (Y:L2.St) (H:Hp) (ρ:List Addr) (g1:G) (ZS:List U) (vs:HO) (i:Nat) (N:Shared->Prop) (E:Value->Shared->Prop),
   (match ZD with
    |[]=>((IX C n).ev Zj ZM g1).bindB λv g=>if ZS.length<Ac then(IX C n).cm Yn (i+1) t cs ZD Zj (ZS++[v]) ZY g else .ZU
    |(t2,X7,Xu)::Xe=>(IL (IX C n) X7 ZM g1).bindB λj g=>((IX C n).cm j 0 t2 Xu Xe Zj ZS ZM g).bindB λYr g=>(IX C n).cm Yn (i+1) t cs ZD Zj Yr ZY g)=.ok S g' ->
   L2.Z0 X W5 Y H s->RS X.K ρ H ZM Y->RH X.K ρ H g1->ZI X.K YN H0 ρ H->H D=some vs->D ∉ ρ->CK.ho X.K ρ H c ZS vs ->
   (∀s' ZR H' ZN g2 Yr VE,(IX C n).cm Yn (i+1) t cs ZD Zj Yr ZY g2=.ok S g'->L2.Z0 X W5 ZR H' s'->RS X.K ZN H' ZM ZR->RH X.K ZN H' g2->ZI X.K YN H0 ZN H'->Mon X.K ρ H ZN H'->H' D=some VE->D ∉ ZN->CK.ho X.K ZN H' c Yr VE->N s') ->
   wpAny (model X.prog X.w) X.A (match gens[k+1]? with
     | some g'=>(do
      let x<-eval g'.iter X.env
      standAt g'.iter.pos
      if(g'.is_async != 0)=true then do
        let x<-foldedIterable g'.iter x
        let y<-holding [x] (if(g'.is_async != 0)=true then asyncIter x else pyIter x)
        let _<-runOwn (.compStart (c.exp gens scope pos) (k+1) y (.ref D) X.env) X.env
        again (.compLoop (c.exp gens scope pos) k (.ref it) (.ref D) X.env)
       else do
        let x<-foldedSetIterable g'.iter X.env x
        let y<-holding [x] (if(g'.is_async != 0)=true then asyncIter x else pyIter x)
        let _<-runOwn (.compStart (c.exp gens scope pos) (k+1) y (.ref D) X.env) X.env
        again (.compLoop (c.exp gens scope pos) k (.ref it) (.ref D) X.env))
     | none=>(do
      c.emit (.ref D) X.env
      again (.compLoop (c.exp gens scope pos) k (.ref it) (.ref D) X.env))) (postC (.compLoop (c.exp gens scope pos) k (.ref it) (.ref D) X.env) (RR X c D O YN H0 Ww Hs ZY S g') N) E s)
  (n:Nat) (s:Shared) (i:Nat) (ZS:List U) (vs:HO) (Y:L2.St) (H:Hp) (ρ:List Addr) (g0:G) (eq:(IX C n).cm Yn i t cs ZD Zj ZS ZY g0=.ok S g') (I:L2.Z0 X O Y H s) (st:tn i s.heap) (hf:∀b∈fp,H b=none)
  (hs:RS X.K ρ H ZY Y) (XT:RH X.K ρ H g0) (ri:RI X.K ρ H Yn Z8) (sp:ZI X.K YN H0 ρ H) (hD:H D=some vs) (hn:D ∉ ρ) (rv:CK.ho X.K ρ H c ZS vs) (mo:Mon X.K Ww Hs ρ H) :
  codeAny (model X.prog X.w) X.A (.compLoop (c.exp gens scope pos) k (.ref it) (.ref D) X.env) (RR X c D O YN H0 Ww Hs ZY S g') s:=by
 refine codeAny_loop (by cases c<;>rfl) (λn s=>LpI X ((IX C n).cm Yn) t cs ZD Zj ZY S g' O tn fp Yn Z8 YN H0 D c Ww Hs s) ?_ n ⟨i,ZS,vs,Y,H,ρ,g0,eq,I,st,hf,hs,XT,ri,sp,hD,hn,rv,mo⟩
 clear eq I st hf hs XT ri sp hD hn rv mo;rintro n s ⟨i,ZS,vs,Y,H,ρ,g0,eq,I,st,hf,hs,XT,ri,sp,hD,hn,rv,mo⟩;cases n with
 |zero=>cases eq
 |succ n=>
  have Xr:IW (IX C n) Yn i t cs ZD Zj ZS ZY g0=.ok S g':=eq;clear eq;simp![IW]at Xr;have key:(model X.prog X.w).den (.compLoop (c.exp gens scope pos) k (.ref it) (.ref D) X.env)=(compTurn (c.exp gens scope pos) k (.ref it) (.ref D) X.env).onRaise (λx=>do noteFrame x X.env;theTreesLotGoes x):=by cases c<;>rfl
  have ku:X.A.under (.compLoop (c.exp gens scope pos) k (.ref it) (.ref D) X.env)=X.A:=by cases c<;>rfl
  rw[key,ku];refine wpAny_noted ?_;rw[u0 hk ha];refine ZB (S8 (ZB ?_));have stat:∀{H':Hp},(∀b∈fp,H' b=none) ->∀b∈fp,AY X O H' b:=λh b hb=>ZC b hb _ (h b hb);cases en:next Yn i g0 with
  |none=>simp![en]at Xr;cases Xr
  |some o=>
   cases o with
   |none=>
    simp![en]at Xr;cases Xr;refine thn (T.done X rfl rfl rfl hc i O s Y H _ I (stat hf) st (ml XT ri en)) ?_;rintro r s1 ⟨hr,I1⟩;subst hr;exact ZP ⟨⟨_,rfl⟩,Y,H,ρ,vs,I1,sp,XT,hs,hD,hn,rv,mo⟩
   |some u=>
    simp![en]at Xr;let⟨go,yl⟩:=sF XT ri en;refine thn (T.item X rfl rfl rfl hc i O s Y H _ I (stat hf) st go) ?_;rintro r s1 ⟨u',hr,h4⟩;subst hr;refine ZB (thn h4 ?_);rintro _ s5 ⟨x,H5,I5,r5,y5,Wj,fr5⟩;let⟨WQ,hgg5,rx⟩:=yl x H5 y5;replace hs:=hs.step WQ;replace XT:=hgg5;replace ri:=ri.step WQ;replace sp:=sp.trans WQ;replace hD:=WQ.X1 D _ hD hn;replace rv:=rv.step WQ;replace mo:=mo.trans WQ.mon;have I5':=I5.pinned (stat fr5) (T.obj _ _ Wj);split at Xr
    .rename_i Vn
     cases eb:Ae t u ZY with
     |none=>simp![eb]at Xr;cases Xr
     |some ZM=>
      simp![eb]at Xr;let⟨kk,g1,e1,e2⟩:=dR Xr;refine ZB (noE WR (thn (hg _ s5 Y H5 x u' (λZR H'=>H'=H5/\RS X.K ρ H5 ZM ZR) I5' r5 ⟨ZY,ρ,g0,u,ZM,hs,XT,rx,jg eb,λZR h=>⟨rfl,h⟩⟩) ?_));rintro _ s6 ⟨UN,H6,I6,eh,Ul⟩;subst eh;refine ZB (noE WR (thn (VF n _ s6 UN H6 (λk' H'=>k'=kk /\∃ZK,ZI X.K ρ H6 ZK H'/\RH X.K ZK H' g1) I6 ⟨ZM,ρ,g0,Ul,XT,by rw[e1];exactλv ZK H1 s1 h1 e=>⟨e.symm,ZK,s1,h1⟩⟩) ?_));rintro k' s7 ⟨H7,I7,ek,ZK,Zg,Yo⟩
      subst ek;have back:∀(s':Shared) (ZR:L2.St) (H':Hp) (ZN:List Addr) (g2:G) (Yr:List U) (VE:HO),(IX C n).cm Yn (i+1) t cs ZD Zj Yr ZY g2=.ok S g'->L2.Z0 X (O++Cr fp s5.heap) ZR H' s'->RS X.K ZN H' ZM ZR->RH X.K ZN H' g2->ZI X.K YN H0 ZN H'->Mon X.K ZK H7 ZN H'->H' D=some VE->D ∉ ZN->CK.ho X.K ZN H' c Yr VE ->
        ∃m,m<n+1/\LpI X ((IX C m).cm Yn) t cs ZD Zj ZY S g' O tn fp Yn Z8 YN H0 D c Ww Hs s':=λs' ZR H' ZN g2 Yr VE q1 q2 q3 q4 q5 q6 q7 q8 q9=>by
       refine⟨n,Ri _,i+1,Yr,VE,ZR,H',ZN,g2,q1,q2.TQ,T.keep _ _ _ Wj λb hb o e=>(q2.pin (b,o) (Vy _ (Vy _ (dj hb e)))).1,λb hb=>?_,RS.unbind Vn eb q3,q4,(ri.step Zg).mon q6,q5,q7,q8,q9,(mo.trans Zg.mon).trans q6⟩;let⟨o,e,d⟩:=T.obj _ _ Wj b hb;exact(q2.pin (b,o) (Vy _ (Vy _ (dj hb e)))).2.1
      have hD7:H7 D=some vs:=Zg.X1 D _ hD hn;have hn7:D ∉ ZK:=fw Zg hn hD;have rv7:=rv.step Zg;cases k' with
      |false=>
       simp![XH,W6]at e2 ⊢;exact ZP ⟨rfl,back s7 UN H7 ZK g1 ZS vs e2 I7 (Ul.step Zg) Yo (sp.trans Zg) ⟨λ_ _ h=>h,λ_ _ h=>h,λ_ _ h=>h,λ_ _ _ h=>h⟩ hD7 hn7 rv7⟩
      |true=>
       simp![Uc]at e2 ⊢;exact inner n _ s7 ZM UN H7 ZK g1 ZS vs i _ _ e2 I7 (Ul.step Zg) Yo (sp.trans Zg) hD7 hn7 rv7 back
    .cases Xr
def wc(hc:X.calm=true)(WR:X.xe=λ_ _=>False){c:CK}(hem:CQ X C c Zj){D:Addr}:
  ∀(ZQ:List Comprehension) (ZD:List (Tg×E×List E)) (k:Nat) (gc:Comprehension) (t:Tg) (cs:List E),gens[k]?=some gc->gens.drop (k+1)=ZQ->gc.is_async=0->PG X gc.target (tG X.K t) ->
   (∀n,PTs X gc.ifs (Aw (IX C n).ts cs))->Bq X C ZQ ZD ->
   ∀(n:Nat) (O:List (Addr×Obj)) (s:Shared) (it:Addr) (fp:List Addr) (tn:Nat->Heap->Prop) (Q:It) (Yn:Iter) (i:Nat) (ZS:List U) (vs:HO) (ZY:Su) (Y:L2.St) (H:Hp) (ρ YN:List Addr) (H0:Hp) (P:G) (S:List U) (g':G),
    Turn X.prog X.w X.K gc.target Q fp it tn->(IX C n).cm Yn i t cs ZD Zj ZS ZY P=.ok S g'->L2.Z0 X O Y H s->tn i s.heap->(∀b∈fp,AY X O H b)->RS X.K ρ H ZY Y->RH X.K ρ H P->RI X.K ρ H Yn Q ->
    ZI X.K YN H0 ρ H->H0 D=none->H D=some vs->D ∉ ρ->CK.ho X.K ρ H c ZS vs ->
    codeAny (model X.prog X.w) X.A (.compLoop (c.exp gens scope pos) k (.ref it) (.ref D) X.env) (RR X c D O YN H0 ρ H ZY S g') s:=by
 intro ZQ
 induction ZQ with
 |nil=>
  intro ZD k gc t cs hk Tu ha J VF u n O s it fp tn Q Yn i ZS vs ZY Y H ρ YN H0 P S g' T M I st W hs XT ri sp Z y o B;have Zk:gens[k+1]?=none:=by
   have:=TZ List.length Tu;rw[Vw]at this;exact Ts.mpr (by simp at this;omega)
  cases ZD with
  |cons _ _=>exact False.elim u
  |nil=>
   refine lD hc WR hk ha J VF T (λb L H' h=>⟨h,(W b L).2⟩) Z ?_ n s i ZS vs Y H ρ P M I st (λb L=>(W b L).1) hs XT ri sp y o B ⟨λ_ _ h=>h,λ_ _ h=>h,λ_ _ h=>h,λ_ _ _ h=>h⟩;intro n W5 s ZM Y H ρ g1 ZS vs i N E M I hs J sp y o B a;let⟨v,g2,e1,e2⟩:=dR M;rw[Zk];split at e2
   .rename_i hl
    refine ZB (noE WR (thn (hem n W5 s ZM Y H ρ g1 ZS vs v g2 D e1 hl I hs J y o B) ?_));rintro _ s2 ⟨g,H1,o2,I2,d,Yo,F,rv2⟩;have Yt:D ∉ g:=fw d o y;have hm:=B.mut;refine ZP ⟨rfl,?_⟩;refine a s2 Y _ g g2 (ZS++[v]) o2 e2 I2 ?_ (Yo.VG F hm Yt) ((sp.trans d).VG Z F hm) (d.mon.trans ⟨λ_ _ h=>h,λ_ _ h=>aP h (.inr ⟨_,F,hm⟩),λ_ _ h=>aM h (.inr ⟨_,F,hm⟩),λ_ _ _ h=>by rw[af (bZ h F (by rintro rfl;exact hm))];exact h⟩) upd_same Yt rv2
    exact⟨hs.len,λj z e=>let⟨w,w1,w2⟩:=(hs.step d).val j z e;⟨w,w1,w2.VG F hm⟩⟩
   .cases e2
 |cons gn ZQ ih=>
  intro ZD k gc t cs hk Tu ha J VF u n O s it fp tn Q Yn i ZS vs ZY Y H ρ YN H0 P S g' T M I st W hs XT ri sp Z y o B;have Zk:gens[k+1]?=some gn:=by
   have:=TZ (λl=>l[0]?) Tu;simpa[PD]using this
  have RZ:gens.drop (k+1+1)=ZQ:=by
   rw[<-QT,Tu];rfl
  cases ZD with
  |nil=>exact False.elim u
  |cons q2 Xe=>
   let⟨t2,X7,Xu⟩:=q2;let⟨a2,pg2,R,pi2,RY,V⟩:=u;refine lD hc WR hk ha J VF T (λb L H' h=>⟨h,(W b L).2⟩) Z ?_ n s i ZS vs Y H ρ P M I st (λb L=>(W b L).1) hs XT ri sp y o B ⟨λ_ _ h=>h,λ_ _ h=>h,λ_ _ h=>h,λ_ _ _ h=>h⟩;intro n W5 s ZM Y H ρ g1 ZS vs i N E M I hs J sp y o B a;let⟨j,g3,e1,e2⟩:=dR M;let⟨Yr,g4,e3,e4⟩:=dR e2;rw[Zk];refine ZB (noE WR (thn (pi2 n W5 s Y H (λQ H1=>∃g,ZI X.K ρ H g H1/\RH X.K g H1 g3/\RI X.K g H1 j Q) I ⟨ZM,ρ,g1,hs,J,by rw[e1];exactλv g H1 s1 h1 r1=>⟨g,s1,h1,r1⟩⟩) λv s1 h1=>ZB (S8 ?_)))
   rw[a2];rw[Yj #[1]]
   refine ZB (Ou (RY v) (ZB (VO ?_)));rw[Yj #[1]]
   refine noE WR (thn h1 λVl s2 h2=>?_);let⟨ita,fp2,tn2,J2,H2,e,I2,T2,Zw,f2,g,d,Yo,Wv⟩:=h2;subst e;have F:H2 D=some vs:=d.X1 D _ y o;have Yt:D ∉ g:=fw d o y;have loop:=ih Xe (k+1) gn t2 Xu Zk RZ a2 pg2 R V n W5 s2 ita fp2 tn2 J2 j 0 ZS vs ZM Y H2 g YN H0 g3 Yr g4 T2 e3 I2 Zw f2 (hs.step d) Yo Wv (sp.trans d) Z F Yt (B.step d);refine ZB (wpAny_runOwn (Ru (iJ Zk a2 loop (T2.self _ 0 s2 _ _ Zw loop)) λr s3 hr=>?_));let⟨⟨f,rfl⟩,ZR,H',ZN,Yk,I3,sp3,U6,YO,hD3,Xy,rv3,mo3⟩:=hr;exact ZP ⟨rfl,a s3 ZR H' ZN g4 Yr Yk e4 I3 YO U6 sp3 (d.mon.trans mo3) hD3 Xy rv3⟩
end
def I8(cells:List (Str×Addr)):List (Str×NameKind)->List (Str×Addr)->List (Str×Addr)
 |[],ZS=>ZS
 |(x,k)::r,ZS=>if k==.free then(match cells.lookup x with|some c=>I8 cells r ((x,c)::ZS)|none=>I8 cells r ZS)else I8 cells r ZS
def fE{scope:Scope}(h:∀x∈scope.names,x.2=.free ->∃c,env.cells.lookup x.1=some c):closureFor scope env=pure (I8 env.cells scope.names []):=by
 have all:∀(names:List (Str×NameKind)) (ZS:List (Str×Addr)),(∀x∈names,x.2=.free ->∃c,env.cells.lookup x.1=some c) ->
   (forIn names ZS λ(x:Str×NameKind) (cs:List (Str×Addr))=>match x with|(name,kind)=>if(kind==NameKind.free)=true then do let c<-cellOf env name;pure (ForInStep.yield ((name,c)::cs))else pure (ForInStep.yield cs):Sem (List (Str×Addr)))=pure (I8 env.cells names ZS):=λnames=>by
  induction names with
  |nil=>intro ZS _;rfl
  |cons p r ih=>
   intro ZS hp;let⟨x,k⟩:=p;simp![Pj,I8];by_cases hk:k=.free
   .subst hk
    let⟨c,hc⟩:=hp (x,.free) XZ rfl;have hco:cellOf env x=pure c:=by unfold cellOf;simp only at hc;rw[hc]
    simp![RG,Uc,hco,hc];exact ih _ λy hy=>hp y (GC _ hy)
   .have hb:(k==NameKind.free)=false:=by simpa using hk
    simp![hb,XH,W6];exact ih _ λy hy=>hp y (GC _ hy)
 unfold closureFor;show((forIn scope.names [] λ(x:Str×NameKind) (cs:List (Str×Addr))=>match x with|(name,kind)=>if(kind==NameKind.free)=true then do let c<-cellOf env name;pure (ForInStep.yield ((name,c)::cs))else pure (ForInStep.yield cs):Sem (List (Str×Addr))) >>= λs=>pure s)=_
 rw[all scope.names [] h]
 rfl
def br{cells:List (Str×Addr)}:∀(names:List (Str×NameKind)) (ZS:List (Str×Addr)),(∀x c,ZS.lookup x=some c->cells.lookup x=some c) ->∀x c,(I8 cells names ZS).lookup x=some c->cells.lookup x=some c
 |[],_,h=>h
 |(y,k)::r,ZS,h=>by
  unfold I8;split
  .split
   .rename_i c b
    refine br r _ λx d e=>?_;rw[WM]at e;split at e
    .rename_i a
     cases e;rw[eq_of_beq a];exact b
    .exact h x d e
   .exact br r _ h
  .exact br r _ h
def dJ{cells:List (Str×Addr)}{x:Str}:∀(names:List (Str×NameKind)) (ZS:List (Str×Addr)),(ZS.lookup x).isSome=true->((I8 cells names ZS).lookup x).isSome=true
 |[],_,h=>h
 |(y,k)::r,ZS,h=>by
  unfold I8;split
  .split
   .refine dJ r _ ?_
    rw[WM];split
    .rfl
    .exact h
   .exact dJ r _ h
  .exact dJ r _ h
def cK{cells:List (Str×Addr)}{x:Str}{c:Addr}(a:cells.lookup x=some c):∀(names:List (Str×NameKind)) (ZS:List (Str×Addr)),(x,NameKind.free)∈names->((I8 cells names ZS).lookup x).isSome=true
 |(y,k)::r,ZS,h=>by
  unfold I8;rcases X5.mp h with e|h
  .cases e
   simp![RG,Uc,a];exact dJ r _ #[3]
  .split
   .split
    .exact cK a r _ h
    .exact cK a r _ h
   .exact cK a r _ h
def bV:∀(names:List (Str×NameKind)) (n:Nat) (ZS:List (Str×Addr)),cellsFrom n names ZS=cellsFrom n names []++ZS
 |[],_,_=>rfl
 |(x,k)::r,n,ZS=>by
  unfold cellsFrom;split
  .rw [bV r (n+1) ((x,n)::ZS),bV r (n+1) [(x,n)],XS];rfl
  .exact bV r n ZS
def a6{x:Str}{c:Addr}:∀(names:List (Str×NameKind)) (n:Nat),(x,c)∈cellsFrom n names []->(x,NameKind.cell)∈names/\n<=c
 |[],_,h=>nomatch h
 |(y,k)::r,n,h=>by
  unfold cellsFrom at h;split at h
  .rename_i hk
   rw[bV,Wd]at h;rcases h with h|h
   .exact ⟨.tail _ (a6 r _ h).1,PX (a6 r _ h).2⟩
   .cases WA.mp h;rw[eq_of_beq hk];exact⟨.head _,GB _⟩
  .exact ⟨.tail _ (a6 r _ h).1,(a6 r _ h).2⟩
def cV{c:Addr}(h:(cellsFrom n names cl).lookup x=some c):(cellsFrom n names []).lookup x=some c\/((cellsFrom n names []).lookup x=none/\cl.lookup x=some c):=by
 rw[bV,List.lookup_append]at h;cases e:(cellsFrom n names []).lookup x with
 |some d=>rw[e]at h;exact .inl h
 |none=>rw[e]at h;exact .inr ⟨rfl,h⟩
def aa3{c:Addr}(h:cl.lookup x=some c)(a:(x,NameKind.cell) ∉ names):(cellsFrom n names cl).lookup x=some c:=by
 rw[bV,List.lookup_append];cases e:(cellsFrom n names []).lookup x with
 |some d=>exact absurd (a6 _ _ (VL e)).1 a
 |none=>exact h
def gT{c:Addr}(h:(cellsFrom n names (I8 cells names [])).lookup x=some c):cells.lookup x=some c\/n<=c:=by
 rcases cV h with z|⟨_,z⟩
 .exact .inr (a6 _ _ (VL z)).2
 .exact .inl (br names [] (λx c h=>by cases h) x c z)
def rM(h:Heap)(names:List (Str×NameKind))(o:Obj):CellsOk (pushCells (h.push o) names) (h.objs.size+1) (cellsFrom (h.objs.size+1) names []):=by
 have:=cellsFrom_ok names (h.push o) (h.objs.size+1) [] ⟨λ_ _ a=>(nomatch a),List.Pairwise.nil⟩ (by rw[RA];exact GB _)
 rwa[RA]at this
def xq{Z5:Model}{E:Value->Shared->Prop}{d:Addr}{qual:Str}{Q:Env->Shared->Prop}
  (h:Q {scope,locals:=s.heap.objs.size,globals:=d,cells:=cellsFrom (s.heap.objs.size+1) scope.names cl,qual:=qual,func:=none,code:=env.code,frame:=env.frame,builtins:=env.builtins} {s with heap:=pushCells (s.heap.push {cls:=.type "dict",data:=.dict #[]}) scope.names}) :
  wpAny Z5 A (newFunctionEnv scope d cl [] qual none .none (some env)) Q E s:=by
 simp![newFunctionEnv,Option.isSome_some,Uc];refine ZB (wpAny_alloc ?_);refine ZB (wpAny_layCells _ (λname a cells=>by cases c:a==NameKind.cell<;>simp[c]) _ _ _ _ ?_)
 rw[show({s with heap:=s.heap.push {cls:=.type "dict",data:=.dict #[]}}:Shared).heap.objs.size=s.heap.objs.size+1 from RA ..]
 exact ZB (ZP (ZP h))
def Ag(X:Cx)(O:List (Addr×Obj))(scope:Scope)(a:Shared)(d:Hp)(b:List Addr)(c:List Str):Cx:=
 {X with env:=compEnvC scope (cellsFrom (a.heap.objs.size+1) scope.names (I8 X.env.cells scope.names [])) a.heap.objs.size X.env,N:=c,Ze:=a,UU:=d,outer:=X.stack,stack:=X.stack,ex:=b,fn:=λx=>scope.names.lookup x==some .cell,pn:=X.pn++O,xe:=λ_ _=>False}
section
variable{s3 s4:Shared}{Y:L2.St}{H3:Hp}{own fr:List Str}
structure Wu(X:Cx)(scope:Scope)(own fr:List Str)(Zq:List Nat):Prop where
 kind:scope.kind=.function
 names:∀x∈scope.names,x.2=.local->scope.names.lookup x.1=some .local
 cells:∀x∈scope.names,x.2=.cell->scope.names.lookup x.1=some .cell
 frees:∀x∈scope.names,x.2=.free->X.env.kindOf x.1=some .cell
 loc:∀x∈own,scope.names.lookup x=some .local\/scope.names.lookup x=some .cell
 nd:(own++fr).Nodup
 frs:∀x∈fr,scope.names.lookup x=some .free
 ix:Zq.length=fr.length /\∀(j:Nat) (x:Str) (i:Nat),fr[j]?=some x->Zq[j]?=some i->X.N[i]?=some x
def fh{a:Type}{x:Str}{k:a}:∀{l:List (Str×a)},l.lookup x=some k->(x,k)∈l
 |[],h=>by cases h
 |(y,z)::r,h=>by
  rw[WM]at h;split at h
  .rename_i b;cases h;rw[eq_of_beq b];exact XZ
  .exact GC _ (fh h)
def c9{env:Env}{x:Str}:∀{names:List (Str×NameKind)},(names.map λ(n,k)=>if(k==NameKind.free&&env.scope.kind==.function&&env.kindOf n==some .cell)then(n,NameKind.cell)else(n,k)).lookup x =
  (names.lookup x).map λk=>if(k==NameKind.free&&env.scope.kind==.function&&env.kindOf x==some .cell)then NameKind.cell else k
 |[]=>rfl
 |(n,k)::r=>by
  have ih:=@c9 env x r;rw[YT,WM (as:=r)];show List.lookup x ((if(k==NameKind.free&&env.scope.kind==.function&&env.kindOf n==some .cell)=true then(n,NameKind.cell)else(n,k))::_)=_
  cases b:x==n with
  |true=>
   obtain rfl:=eq_of_beq b;by_cases a:(k==NameKind.free&&env.scope.kind==.function&&env.kindOf x==some .cell)=true
   .rw [YC a,WM,b]
    simp![Vg];rw[YC a]
   .rw [Yj a,WM,b]
    simp![Vg];rw[Yj a]
  |false=>
   by_cases a:(k==NameKind.free&&env.scope.kind==.function&&env.kindOf n==some .cell)=true
   .rw [YC a,WM,b];exact ih
   .rw [Yj a,WM,b];exact ih
def aar(Z6:Wu X scope own fr Zq)(I:L2.Z0 X O Y H3 s3)(j:∀b∈fp,AY X O H3 b)(t:∀b∈fp,b<s3.heap.objs.size):(Ag X O scope s3 H3 fp (own++fr)).Ok:=by
 have sub:=br (cells:=X.env.cells) scope.names [] (λx c h=>by cases h)
 have C:(Ag X O scope s3 H3 fp (own++fr)).env.scope.kind=.function:=Z6.kind;have g:∀x c,X.env.cells.lookup x=some c->c<s3.heap.objs.size:=λx c h=>let⟨_,_,ho,_⟩:=I.cell x c h;Gy ho
 have w:=rM s3.heap scope.names {cls:=.type "dict",data:=.dict #[]};refine⟨I.ok.mod,C,I.ok.glob,I.ok.blt,GB _,λx y c h1 h2=>?_,λx d=>?_,λx c h1 h2=>?_,I.ok.hd,I.ok.frames,.inl rfl,λb a=>⟨GF (t b a),λx c h=>?_⟩,λb o e=>I.bs b o e,Gz I.ok.WK I.sz,λb o e a=>?_,λb a r=>?_,I.stack,I.SQ⟩
 .have WG:∀{z},(cellsFrom (s3.heap.objs.size+1) scope.names []).lookup z=some c->s3.heap.objs.size<c:=λh=>(a6 _ _ (VL h)).2
  rcases cV h1 with z|⟨_,z⟩<;>rcases cV h2 with f|⟨_,f⟩
  .exact name_of_addr w.apart (VL z) (VL f)
  .exact absurd (QN (WG z) (g _ _ (sub _ _ f))) (Rx _)
  .exact absurd (QN (WG f) (g _ _ (sub _ _ z))) (Rx _)
  .exact I.ok.inj x y c (sub x c z) (sub y c f)
 .
  have B:(Ag X O scope s3 H3 fp (own++fr)).env.kindOf x=(scope.names.lookup x).map λk=>if(k==NameKind.free&&X.env.scope.kind==.function&&X.env.kindOf x==some .cell)then NameKind.cell else k:=c9
  rw[B]at d;cases hl:scope.names.lookup x with
  |none=>rw[hl]at d;rcases d with h|h<;>cases h
  |some k=>
   rw[hl]at d;have hm:=fh hl;refine Ry.mp (RP _ _ _ ?_);cases k with
   |free=>
    let⟨c,u⟩:=I.ok.has x (.inl (Z6.frees _ hm rfl));exact .inr (cK u scope.names [] hm)
   |cell=>exact .inl hl
   |«local»=>rcases d with h|h<;>simp at h
   |globalExplicit=>rcases d with h|h<;>simp at h
   |globalImplicit=>rcases d with h|h<;>simp at h
 .have A:scope.names.lookup x=some .cell:=eq_of_beq h1
  rcases cV h2 with z|⟨z,_⟩
  .exact PX (a6 _ _ (VL z)).2
  .have:=RP scope.names (s3.heap.objs.size+1) [] (.inl A)
   rw[z]at this;cases this
 .rcases gT h with z|z
  .exact (j b a).2.2.2.2.1 x c z
  .exact QH (GD (Rv (t b a)) z)
 .rcases (j b a).2.2.2.1 with z|z
  .exact I.ok.Yi b o e z
  .exact absurd (GD (show b<X.base.objs.size from Gy e) (Gz I.ok.WK z)) (Rx _)
 .rcases X5.mp (I.US b r)with z|z
  .exact (j b a).2.1 z
  .exact (j b a).2.2.1 z
def getD_none{o:Option (Option α)}{v:α}(h:o.getD none=some v):o=some (some v):=by
 cases o with
 |none=>cases h
 |some w=>cases h;rfl
def xm(Z6:Wu X scope own fr Zq)(I:L2.Z0 X O Y H3 s3)(H:∀b∈fp,AY X O H3 b)(M:∀b∈fp,b<s3.heap.objs.size){f:Heap}{tk:Nat}{y:Str->Option Value}(g:f.Ns s3.heap.objs.size y)(kept:∀b o,s3.heap.get? b=some o->f.get? b=some o)(K:∀x c,(x,c)∈cellsFrom (s3.heap.objs.size+1) scope.names [] ->∃v,f.IsCell c v):
  L2.Z0 (Ag X O scope s3 H3 fp (own++fr)) [] (List.replicate own.length none++Zq.map λj=>(Y[j]?).getD none) H3 {s3 with heap:=f,toks:=tk}:=by
 have sub:=br (cells:=X.env.cells) scope.names [] (λx c h=>by cases h)
 refine⟨aar Z6 I H M,rfl,I.bare,Un.kept kept,⟨y,g,λi x v J a S=>?_⟩,λx c h=>?_,I.ZJ.fresh (GB _),λx c h=>(gT h).elim (I.W7 x c) λz=>I.ZJ.fresh (PX z),λp F=>?_,I.ZJ.kept kept,?_⟩
 .
  have s:(own++fr)[i]?=some x:=J;by_cases hi:i<own.length
  .rw [XM (by simpa using hi),RB,YC hi]at a
   cases a
  .rw [Wc (by simpa using hi),Qf,Wh]at a
   rw[Wc (by lia)]at s
   cases r:Zq[i-own.length]? with
   |none=>rw[r]at a;cases a
   |some k=>
    rw[r]at a;have N:=getD_none (WE a);have hN:=Z6.ix.2 _ x k s r;have w:=Z6.frs x (W_ s);have hm:=fh w;have t:=Z6.frees _ hm rfl;let⟨m,R,G⟩:=I.loc;let⟨u,C,lk⟩:=G k x v hN N (.inr (.inl t));refine⟨u,C,?_⟩;rcases lk with⟨hk,_⟩|⟨_,c,A,Q⟩
    .rw [t]at hk;cases hk
    .have P:(Ag X O scope s3 H3 fp (own++fr)).env.kindOf x=some .cell:=by
      have:=@c9 X.env x scope.names;show List.lookup x _=_;refine this.trans ?_;rw[w];have hk:=I.ok.kind;simp[hk,t]
     let⟨c',B⟩:=Ry.mp (cK A scope.names [] hm);have:=sub x c' B;rw[A]at this;cases this;let⟨o,ho,l⟩:=Q;exact .inr ⟨.inl P,c,aa3 B (λz=>by have:=Z6.cells _ z rfl;rw[w]at this;cases this),o,kept c o ho,l⟩
 .rcases cV h with z|⟨_,z⟩
  .exact K x c (VL z)
  .obtain ⟨v,o,ho,l⟩:=I.cell x c (sub x c z)
   exact⟨v,o,kept c o ho,l⟩
 .have L:p∈X.pn++O:=by
   have:p∈(X.pn++O)++[]:=F;simpa using this
  let⟨e,n,E,D,d⟩:=I.pin p L;refine⟨kept _ _ e,n,GF (Gy e),λz=>?_,d⟩;rcases X5.mp (I.US p.1 z)with q|q
  .exact E q
  .exact D q
 .show (List.replicate own.length none++Zq.map λj=>(Y[j]?).getD none).length=(own++fr).length
  simp[Z6.ix.1]
def zl{b:Su}(h:RS K ρ H b Y):RS K ρ H (List.replicate n none++Zq.map λj=>(b[j]?).getD none) (List.replicate n none++Zq.map λj=>(Y[j]?).getD none):=by
 refine⟨by simp,λi u e=>?_⟩
 by_cases hi:i<n
 .rw [XM (by simpa using hi),RB,YC hi]at e
  cases e
 .rw [Wc (by simpa using hi),Qf,Wh]at e
  rw[Wc (by simpa using hi),Qf,Wh]
  cases a:Zq[i-n]? with
  |none=>rw[a]at e;cases e
  |some k=>
   rw[a]at e;let⟨v,d,c⟩:=h.val k u (getD_none (WE e));exact⟨v,by simp[d],c⟩
end
section
variable{own fr:List Str}
def fH(hc:X.calm=true)(Z6:Wu X scope own fr Zq){t:Tg}{c:CK}{n:Nat}(ha:gc.is_async=0)
  (F:∀ O s3 H3 fp,PG (Ag X O scope s3 H3 fp (own++fr)) gc.target (tG X.K t)/\(∀ n,PTs (Ag X O scope s3 H3 fp (own++fr)) gc.ifs (Aw (IX C n).ts cs))/\Bq (Ag X O scope s3 H3 fp (own++fr)) C ZQ ZD /\
   CQ (Ag X O scope s3 H3 fp (own++fr)) C c Zj)
  {O:List (Addr×Obj)} {a:Shared} {Y:L2.St} {u:Hp} {H:List Addr} {g1:G} {ZY:Su} {it:Addr} {fp:List Addr} {V:Nat->Heap->Prop} {Z8:It} {iI:Iter} {S:List U} {g2:G} {E:Value->Shared->Prop} {P:Value->Addr->Result->Shared->Prop}
  (I2:L2.Z0 X O Y u a) (T:Turn X.prog X.w X.K gc.target Z8 fp it V) (Zw:V 0 a.heap) (f2:∀b∈fp,AY X O u b) (hs:RS X.K H u ZY Y) (Yo:RH X.K H u g1) (Wv:RI X.K H u iI Z8)
  (VD:(IX C n).cm iI 0 t cs ZD Zj [] (List.replicate own.length none++Zq.map λj=>(ZY[j]?).getD none) g1=.ok S g2)
  (fin:∀ (D R:Addr) (s':Shared) (H':Hp) (ZN:List Addr) (W:HO) (m:Str->Option Value) (f:Flow),L2.Z0 X O Y H' s'->ZI X.K H u ZN H'->RH X.K ZN H' g2->u D=none->H' D=some W->D ∉ ZN->CK.ho X.K ZN H' c S W->s'.heap.Ns R m->R≠X.env.locals->(∀ x c,X.env.cells.lookup x=some c->c≠R) ->
   (∀(Q:Shared) (Xn:L2.St) (XE:Hp) (h':Heap),L2.Z0 X O Xn XE Q->(∀b,H' b=none->b<s'.heap.objs.size->XE b=none)->Heap.SameBut R Q.heap h'->L2.Z0 X O Xn XE {Q with heap:=h'})->P (.ref D) R (.ok f) s') :
  wpAny (model X.prog X.w) X.A c.new (λZS M => wpAny (model X.prog X.w) X.A (newFunctionEnv scope X.env.globals (I8 X.env.cells scope.names []) [] X.env.qual none .none (some X.env)) (λSw L =>
    codeAny (model X.prog X.w) X.A (.compStart (c.exp (gc::ZQ) scope pos) 0 (.ref it) ZS {Sw with scope:=relabel scope X.env}) (P ZS Sw.locals) L) E M) E a:=by
 refine CK.R1 (xq ?_);dsimp only;have N:=rM (a.heap.push c.obj) scope.names {cls:=.type "dict",data:=.dict #[]};have Sv:=(Heap.Ns.new (a.heap.push c.obj) (.type "dict")).keeps (pushCells_keeps scope.names _);have kept:∀b o,(a.heap.push c.obj).get? b=some o->(pushCells ((a.heap.push c.obj).push {cls:=.type "dict",data:=.dict #[]}) scope.names).get? b=some o:=λb o e=>pushCells_keeps _ _ b o (Gx _ e);generalize pushCells ((a.heap.push c.obj).push {cls:=.type "dict",data:=.dict #[]}) scope.names=Ss at N Sv kept ⊢;have I:u a.heap.objs.size=none:=I2.ZJ.fresh (GB _);have B:L2.Z0 X O Y (upd u a.heap.objs.size c.Wx) {a with heap:=a.heap.push c.obj}:=I2.laid (t':=a.toks) (λb ob q=>Gx _ q) (GB _) (c.R0 _ I2.WG)
 have below:∀b∈fp,b<a.heap.objs.size:=λb d=>let⟨o,e,_⟩:=T.obj _ _ Zw b d;Gy e
 have y:∀b∈fp,AY X O (upd u a.heap.objs.size c.Wx) b:=λb d=>⟨by rw[af (GF (below b d))];exact(f2 b d).1,(f2 b d).2⟩
 have hsz:(a.heap.push c.obj).objs.size=a.heap.objs.size+1:=RA _ _;have X8:∀b∈fp,b<(a.heap.push c.obj).objs.size:=λb d=>by rw[hsz];exact Rv (below b d)
 have I4:=xm (tk:=a.toks) Z6 B y X8 Sv kept λx c h=>⟨_,(N.empty x c h).1⟩;let⟨pg,pts,go,S5⟩:=F O {a with heap:=a.heap.push c.obj} (upd u a.heap.objs.size c.Wx) fp
 have RU:∀b o,a.heap.get? b=some o->Ss.get? b=some o:=λb o e=>kept b o (Gx _ e);have YX:V 0 Ss:=T.keep _ _ _ Zw λb _ o e=>RU b o e;have hn:a.heap.objs.size ∉ H:=λhm=>by
  let⟨k,e⟩:=UC.mp hm;let⟨o,ho⟩:=Yo.there e;rw[I]at ho;cases ho
 have sub:=br (cells:=X.env.cells) scope.names [] (λx c h=>by cases h)
 have f4:∀b∈fp,AY (Ag X O scope {a with heap:=a.heap.push c.obj} (upd u a.heap.objs.size c.Wx) fp (own++fr)) [] (upd u a.heap.objs.size c.Wx) b:=λb d=>by
  refine⟨(y b d).1,GF (X8 b d),λz=>?_,.inl d,λx c h=>(gT h).elim ((y b d).2.2.2.2.1 x c) λz=>QH (GD (Rv (X8 b d)) z),λp hp=>(y b d).2.2.2.2.2 p ?_⟩
  .rcases X5.mp (B.US b z)with q|q
   .exact (y b d).2.1 q
   .exact (y b d).2.2.1 q
  .have:p∈(X.pn++O)++[]:=hp
   simpa using this
 have loop:=wc (X:=Ag X O scope {a with heap:=a.heap.push c.obj} (upd u a.heap.objs.size c.Wx) fp (own++fr)) (C:=C) hc rfl S5 (c:=c) (gens:=gc::ZQ) (scope:=scope) (pos:=pos) (D:=a.heap.objs.size) ZQ ZD 0 gc t cs rfl rfl ha pg pts go n [] _ it fp V Z8 iI 0 [] c.Wx _ _ _ H H u g1 S g2 T VD I4 YX f4 (zl (hs.step (ZI.fresh I))) (Yo.step_fresh I) (Wv.step (ZI.fresh I)) (ZI.fresh I) I upd_same hn CK.ho0
 refine Ru (iJ (k:=0) (g:=gc) rfl ha loop (T.self _ 0 _ _ _ YX loop)) λr s' hr=>?_;let⟨⟨f,rfl⟩,ZR,H',ZN,W,J,Z,hg5,hs5,hD5,hn5,rv5,_⟩:=hr;have chk:∀b∈fp,(b∈X.ex\/X.Ze.heap.objs.size<=b)/\b≠X.env.locals/\(∀x c,X.env.cells.lookup x=some c->c≠b) /\∀p∈X.pn++O,p.1≠b:=λb d=>⟨(y b d).2.2.2.1,(y b d).2.1,(y b d).2.2.2.2.1,(y b d).2.2.2.2.2⟩;have I6:L2.Z0 X O Y H' s':=B.Sl (ch:=fp) J.os J.base J.ZJ J.bare chk;let⟨m',VB,_⟩:=J.loc;refine fin a.heap.objs.size _ s' H' ZN W m' f I6 Z hg5 I hD5 hn5 rv5 VB (QH B.lt) (λx c h=>by let⟨v,o,ho,hd⟩:=B.cell x c h;exact GF (Gy ho)) λQ Xn XE h' I7 hH XI=>?_
 have hCn:XE (a.heap.push c.obj).objs.size=none:=hH _ J.free J.lt;refine I7.turned (t':=Q.toks) (it:=(a.heap.push c.obj).objs.size) (λb o d e=>(XI.2 b d).trans e) hCn ?_ (.inr ?_) (λx c h=>?_) λp hp=>?_
 .exact QH B.lt
 .exact B.sz
 .obtain ⟨v,o,ho,hd⟩:=B.cell x c h
  exact GF (Gy ho)
 .exact GF (Gy (B.pin p hp).1)
def yH(y:X.calm=true)(Z6:Wu X scope own fr Zq){t:Tg}{l:Expr}{n:Nat}(z:gc.is_async=0)
  (hi:PI X gc.target gc.iter (tI X.K PTs.Yp (IL (IX C n) Zp))) (V:∀x,foldedSetIterable gc.iter X.env x=pure x)
  (k:∀ O s3 H3 fp,PG (Ag X O scope s3 H3 fp (own++fr)) gc.target (tG X.K t)/\(∀ n,PTs (Ag X O scope s3 H3 fp (own++fr)) gc.ifs (Aw (IX C n).ts cs))/\Bq (Ag X O scope s3 H3 fp (own++fr)) C ZQ ZD /\
   ∀n,PE (Ag X O scope s3 H3 fp (own++fr)) l (tE X.K PTs.Yp ((IX C n).ev Zj))) :
  PE X (.ListComp l (gc::ZQ) scope pos) (tE X.K PTs.Yp (IM C (IX C n) (.comp own.length Zq ((t,Zp,cs)::ZD) Zj))):=by
 intro O s Y H Q I ⟨o,ρ,g,hs,w,p⟩;rw[eval_ListComp];let⟨tg,iter,ifs,W⟩:=gc;obtain rfl:W=0:=z;refine Qx (use:=none) rfl V (fE λx u hk=>I.ok.has x.1 (.inl (Z6.frees x u hk))) Z6.kind Z6.names ?_;refine thn (hi O s Y H _ I ⟨o,ρ,g,hs,w,post.bind p⟩) λv s1 h1=>thn h1 λVl s2 h2=>?_;let⟨it,fp,tn,Z8,H2,e,I2,T,F,B,ZK,r,A,G,L,P,i⟩:=h2;subst e;revert i;cases R:(IX C n).cm r 0 t cs ZD Zj [] (List.replicate own.length none++Zq.map λj=>(o[j]?).getD none) A with
 |exc c fs g2=>intro i;exact False.elim i
 |ZU=>intro i;exact False.elim i
 |ok S g2=>
  intro i;simp![Out.bindB]at i;split at i
  .refine fH (c:=.M l) y Z6 rfl (λO s3 H3 fp=>let⟨a,b,c,d⟩:=k O s3 H3 fp;⟨a,b,c,jY d⟩) I2 T F B (hs.step G) L P R λD Cc s' H' ZN Yk m f I' Z q U4 T_ J ⟨vs,E,T9⟩ U _ _ XO=>?_
   subst E;refine⟨m,U,λh' N=>?_⟩;refine⟨.ref D,H',XO s' Y H' h' I' (λ_ h _=>h) N,rfl,?_⟩;refine i (.ref D) (ZN++[D]) H' (Z.named U4) (q.named T_ J ⟨_,rfl,T9⟩) ⟨D,rfl,?_⟩;rw[<-q.len];simp
  .exact False.elim i
def y4(k v gens scope pos):eval (.DictComp k v gens scope pos) env=comprehension (.DictComp k v gens scope pos) scope env (firstIterPos gens pos) newDict (firstAsync gens) (firstIter gens env):=rfl
def xY(G:X.calm=true)(B:X.A.units+1<cLine)(Z6:Wu X scope own fr Zq){t:Tg}{q l:Expr}{r o:E}{n:Nat}(J:gc.is_async=0)
  (hi:PI X gc.target gc.iter (tI X.K PTs.Yp (IL (IX C n) Zp))) (VA:∀x,foldedSetIterable gc.iter X.env x=pure x)
  (k:∀ O s3 H3 fp,PG (Ag X O scope s3 H3 fp (own++fr)) gc.target (tG X.K t)/\(∀ n,PTs (Ag X O scope s3 H3 fp (own++fr)) gc.ifs (Aw (IX C n).ts cs))/\Bq (Ag X O scope s3 H3 fp (own++fr)) C ZQ ZD /\
   (∀n,PE (Ag X O scope s3 H3 fp (own++fr)) q (tE X.K PTs.Yp ((IX C n).ev r))) /\∀n,PE (Ag X O scope s3 H3 fp (own++fr)) l (tE X.K PTs.Yp ((IX C n).ev o))) :
  PE X (.DictComp q l (gc::ZQ) scope pos) (tE X.K PTs.Yp (IM C (IX C n) (.Wo own.length Zq ((t,Zp,cs)::ZD) r o))):=by
 intro O s Y H Q I ⟨u,ρ,g,hs,F,p⟩;rw[y4];let⟨tg,iter,ifs,Ua⟩:=gc;obtain rfl:Ua=0:=J;refine Qx (use:=none) rfl VA (fE λx z hk=>I.ok.has x.1 (.inl (Z6.frees x z hk))) Z6.kind Z6.names ?_;refine thn (hi O s Y H _ I ⟨u,ρ,g,hs,F,post.bind p⟩) λv s1 h1=>thn h1 λVl s2 h2=>?_;let⟨it,fp,tn,Z8,H2,e,I2,T,R,M,ZK,y,L,U,W,Wv,i⟩:=h2;subst e;revert i;cases VD:(IX C n).cm y 0 t cs ZD (.pair r o) [] (List.replicate own.length none++Zq.map λj=>(u[j]?).getD none) L with
 |exc c fs g2=>intro i;exact False.elim i
 |ZU=>intro i;exact False.elim i
 |ok S g2=>
  intro i;simp![Out.bindB]at i;refine fH (c:=.ZG q l) G Z6 rfl (λO s3 H3 fp=>let⟨a,b,c,d,e⟩:=k O s3 H3 fp;⟨a,b,c,yy (X:=Ag X O scope s3 H3 fp (own++fr)) B d e⟩) I2 T R M (hs.step U) W Wv VD ?_;rintro D Cc s' H' ZN Yk m f I' U5 w U4 T_ V ⟨Z4,ws,N,P,T9⟩ VB _ _ XO
  subst N;rw[P]at i;refine⟨m,VB,λh' Z=>?_⟩;refine⟨.ref D,H',XO s' Y H' h' I' (λ_ h _=>h) Z,rfl,?_⟩;refine i (.ref D) (ZN++[D]) H' (U5.named U4) (w.named T_ V ⟨_,rfl,T9⟩) ⟨D,rfl,?_⟩;rw[<-w.len];simp
def bind_assoc{c:Type}(o:Out α)(k:α->G->Out β)(b:β->G->Out c):(o.bind k).bind b=o.bind λa g=>(k a g).bind b:=by
 cases o<;>rfl
def vP(hc:X.calm=true)(Z6:Wu X scope own fr Zq){t:Tg}{elt:Expr}{Xc py:Pos}{n:Nat}{y:Str}(ha:gc.is_async=0)
  (hi:PI X gc.target gc.iter (tI X.K PTs.Yp (IL (IX C n) Zp))) (VA:∀x,foldedSetIterable gc.iter X.env x=pure x)
  (inner:∀ O s3 H3 fp,PG (Ag X O scope s3 H3 fp (own++fr)) gc.target (tG X.K t)/\(∀ n,PTs (Ag X O scope s3 H3 fp (own++fr)) gc.ifs (Aw (IX C n).ts cs))/\Bq (Ag X O scope s3 H3 fp (own++fr)) C ZQ ZD /\
   ∀n,PE (Ag X O scope s3 H3 fp (own++fr)) elt (tE X.K PTs.Yp ((IX C n).ev Zj)))
  (hN:X.N.Nodup) (hiy:X.N[i]?=some y) (hy:X.env.scope.names.lookup y=some .local) (T8:swapsWith (.ListComp elt (gc::ZQ) scope pos) (some (.Name y py)) Xc.line X.env=pure true) :
  PS X (.Assign [.Name y py] (.ListComp elt (gc::ZQ) scope pos) Xc) (Zi X.K PTs.Yp (IS (IX C (n+1)) (.set (.nm i) (.comp own.length Zq ((t,Zp,cs)::ZD) Zj)))):=by
 intro O s Y H Dd I ⟨ZY,ρ,g,hs,hg,p⟩;have p':IY X.K PTs.Yp ((IL (IX C n) Zp ZY g).bind λa g=>(((IX C n).cm a 0 t cs ZD Zj [] (List.replicate own.length none++Zq.map λj=>(ZY[j]?).getD none) g).bindB λS g=>if S.length<=Ac then PI.alloc (.M S) g else .ZU).bind λu g=>match Ae (.nm i) u ZY with|some ZR=>Out.ok (.nx ZR) g|none=>.ZU) ρ H Dd:=by
  have e:IS (IX C (n+1)) (.set (.nm i) (.comp own.length Zq ((t,Zp,cs)::ZD) Zj)) ZY g=_:=rfl;rw[<-bind_assoc];exact p
 rw[exec_Assign_Name_used _ _ _ _ T8];refine ZB (S8 (ZB ?_));let⟨tg,iter,ifs,Ua⟩:=gc;obtain rfl:Ua=0:=ha;show wpAny _ _ (do let _<-comprehension (.ListComp elt (⟨tg,iter,ifs,0⟩::ZQ) scope pos) scope X.env _ (newList []) false (eval iter X.env) (some (assign (.Name y py) X.env))) _ _ s
 refine ZB (thn (Qx (use:=some (assign (.Name y py) X.env)) (Q:=λ_ s'=>SP X O Dd .next s') rfl VA (fE λx hx hk=>I.ok.has x.1 (.inl (Z6.frees x hx hk))) Z6.kind Z6.names ?_) λ_ s' hq=>ZP (ZP hq));refine thn (hi O s Y H _ I ⟨ZY,ρ,g,hs,hg,IY.bind p'⟩) λv s1 h1=>thn h1 λVl s2 h2=>?_;let⟨it,fp,tn,Z8,H2,e,I2,T,Zw,f2,ZK,iI,g1,Zg,Yo,Wv,p1⟩:=h2;subst e;revert p1;cases VD:(IX C n).cm iI 0 t cs ZD Zj [] (List.replicate own.length none++Zq.map λj=>(ZY[j]?).getD none) g1 with
 |exc c fs g2=>intro p1;exact False.elim p1
 |ZU=>intro p1;exact False.elim p1
 |ok S g2=>
  intro p1;simp![Out.bindB]at p1;split at p1
  .refine fH (c:=.M elt) hc Z6 rfl (λO s3 H3 fp=>let⟨a,b,c,d⟩:=inner O s3 H3 fp;⟨a,b,c,jY d⟩) I2 T Zw f2 (hs.step Zg) Yo Wv VD λD Cc s' H' ZN Yk m f I' U5 WS U4 T_ Zd ⟨vs,eo,T9⟩ VB nl nc XO=>?_
   subst eo;show wpAny _ _ (assign (.Name y py) X.env (.ref D)) _ _ s';refine wpAny_assign_Name (jF (v:=.ref D) I' hN hiy (.inl hy) rfl (λs3 I3 ⟨a,XI,ha⟩=>?_) (.inr hy));have Y7:Cc≠a:=by
    rcases ha with rfl|ha
    .exact nl
    .exact Ne.symm (nc y a ha)
   refine⟨m,VB.sameBut XI Y7,λh' YO=>⟨_,H',XO s3 _ H' h' I3 (λ_ h _=>h) YO,?_⟩⟩;simp![PI.alloc,Out.bind,IK,Ae]at p1;by_cases hl:i<ZY.length
   .simp only [hl,Uc]at p1
    refine p1 _ (ZN++[D]) H' (U5.named U4) (WS.named T_ Zd ⟨_,rfl,T9⟩) ((hs.step (Zg.trans (U5.named U4))).set (u:=.ref g2.length) (v:=.ref D) ?_);refine⟨D,rfl,?_⟩;rw[<-WS.len];simp
   .simp only [hl,W6]at p1
    exact False.elim p1
  .exact False.elim p1
end
section
variable{W:XQ}
inductive DOk(X:Cx)(W:XQ)(r:Z7):List (Option Expr)->List Expr->List Str->List E->Prop
 |nil:DOk X W r [] [] [] []
 |cons {k a b ks e es kk e' es'}:PE X e (tE X.K W (r.ev e'))->DOk X W r ks es kk es'->DOk X W r (some (.Constant (.str k) a b)::ks) (e::es) (k::kk) (e'::es')
end
abbrev W0:XQ:=PTs.Yp
inductive FrI(X:Cx)(W:XQ)(it:Iter)(Z8:It)(D:Ends)(f:Su->G->Out Fl)(Y:L2.St)(H:Hp):Prop
 |mk (ZY:Su) (ρ:List Addr) (g:G) (hs:RS X.K ρ H ZY Y) (hg:RH X.K ρ H g) (ri:RI X.K ρ H it Z8) (p:IY X.K W (f ZY g) ρ H D)
section
variable{W:XQ}{p2:Pos}{a b c:Expr}{a' b' c':E}{t:Tg}
def aaR{a:Expr}{z:List Stmt}{e:List Z6}{n:Nat}(N:PassesOwn (model X.prog X.w) X.A X.env X.xe)(P:X.calm=true)(hi:PI X tg a (tI X.K W (IL (IX C n) Zp)))(d:PG X tg (tG X.K t))(Q:∀n,PSs X z (Zi X.K W ((IX C n).ex e)))
  (c:∀x,foldedSetIterable a X.env x=pure x):PS X (.For tg a z [] pos) (Zi X.K W (IS (IX C n) (.for t Zp e))):=by
 have Z:PSs X z (λD Y H=>∃m,Zi X.K W ((IX C m).ex e) D Y H):=λO s Y H D I ⟨m,h⟩=>Q m O s Y H D I h;refine(acv N P hi d Z c).imp ?_;rintro D Y H ⟨f,ρ,g,c,d,p⟩;refine⟨f,ρ,g,c,d,(IY.bind (R:=RI X.K) p).mono λF H1 ⟨V,it,g1,s1,h1,j,M⟩=>?_⟩;refine⟨λi m Y H=>FrI X W it F D ((IX C m).fr t it i e) Y H,⟨n,f,V,g1,c.step s1,h1,j,M⟩,?_⟩;rintro i m Y H ⟨f,ρ,g,c,d,j,p⟩;cases m with
 |zero=>exact p.elim
 |succ m=>
  have b:IY X.K W (IV (IX C m) t it i e f g) ρ H D:=p;simp![IV]at b;cases r:next it i g with
  |none=>simp![r]at b;exact b.elim
  |some o=>
   cases o with
   |none=>simp![r]at b;exact .inl ⟨ml d j r,b _ ρ H .refl d c⟩
   |some u=>
    simp![r]at b;let⟨T,G⟩:=sF d j r;refine .inr ⟨T,λZR H'=>FrI X W it F D ((IX C m).fr t it (i+1) e) ZR H',λZR H' q=>⟨m,Ri _,q⟩,λx H' y=>?_⟩;let⟨B,l,J⟩:=G x H' y;cases v:Ae t u f with
    |none=>simp![v]at b;exact b.elim
    |some E=>
     simp![v]at b;refine⟨f,ρ,g,u,E,c.step B,l,J,jg v,λXn YL=>⟨m,E,ρ,g,YL,l,?_⟩⟩;exact rD (k:=λZR g=>(IX C m).fr t it (i+1) e ZR g) (IY.from b B) λXm U Y ZN H' s3 S YO L=>⟨Xm,ZN,U,YO,S,(j.step B).step s3,L⟩
inductive T7(K:GJ)(Wf:XK->XQ)(J:List Fn)(d i np:Nat)(vs:List V)(H:Hp)(Q:VK)(E:XK):Prop
 |mk (fu:Nat) (ρ:List Addr) (g:G) (S:List U) (hg:RH K ρ H g) (r:RVs K ρ H S vs) (l:S.length=np) (p:post K (Wf E) (RV K) (Aa J fu d i S g) ρ H Q)
abbrev WO(K:GJ)(J:List Fn)(d i np:Nat):Sp:=T7 K (λ_=>W0) J d i np
def jA{J:List Fn}{fu:Nat}{np:Nat}{Q:VK}(a:∀F,J[i]?=some F->F.np=np){W:XQ}(p:post K W (RV K) (Aa J fu d i S g) ρ H Q):S.length=np:=by
 cases d with
 |zero=>exact p.elim
 |succ d=>
  simp![Aa]at p;cases e:J[i]? with
  |none=>simp![e]at p;exact p.elim
  |some F=>
   simp![e,BG]at p;split at p
   .rename_i h;rw[h,a F e]
   .exact p.elim
def aam{J:List Fn}{fu k:Nat}{f:Addr}{p:Pos}{Wf:XK->XQ}{E0:XK}(F:YE X.prog X.w X.K X.mg X.base CX k f fd ps (T7 X.K Wf J d i ps.length))(e:A5 CX X E0)(v:∀F,J[i]?=some F->F.np=ps.length)
  (h:Y8 k X.A) (b:Gl X x) (j:X.mg x=some (.ref f)) (l:PySem.W.keepIn X.K (.ref f)=true) (m:Binds X.K fd ps []) (u:(x==("__debug__" : Str))=false) (n:PA X (a::es) (XW X.K W0 (II r.ev es')))
  (s:starEach (a::es) X.env=(false,eval a X.env)::starEach es X.env) (t:(backTo pos (starEach es X.env)).any (·.1)=false) :
  PE X (.Call (.Name x p) (a::es) [] pos) (tE X.K (Wf E0) (IM (Aa J fu d) r (.call i es'))):=by
 refine(yW F h b j l m .nil e n u s t).imp ?_;rintro Y H Q ⟨o,ρ,g,hs,b,p⟩;refine⟨o,ρ,g,hs,b,(bC (R:=RVs X.K) p).mono λvs H1 ⟨q,S,g1,s1,h1,rs,c⟩=>?_⟩;exact⟨fu,q,g1,S,h1,by rw[U9];exact rs,jA v c,c⟩
def xP{J:List Fn}{fu k:Nat}{f:Addr}{p:Pos}{Wf:XK->XQ}{E0:XK}(F:YE X.prog X.w X.K X.mg X.base CX k f fd ps (T7 X.K Wf J d i ps.length))(c:A5 CX X E0)(n:∀F,J[i]?=some F->F.np=ps.length)
  (e:Y8 k X.A) (a:Gl X x) (h:X.mg x=some (.ref f)) (j:PySem.W.keepIn X.K (.ref f)=true) (l:Binds X.K fd ps []) (m:(x==("__debug__" : Str))=false) :
  PE X (.Call (.Name x p) [] [] pos) (tE X.K (Wf E0) (IM (Aa J fu d) r (.call i []))):=by
 refine(xK F e a h j l .nil c m).imp ?_;rintro Y H Q ⟨o,ρ,g,hs,a,p⟩;have b:post X.K (Wf E0) (RV X.K) (Aa J fu d i [] g) ρ H Q:=p;exact⟨fu,ρ,g,[],a,rfl,jA n b,b⟩
end
structure S3(K:GJ)(C:Addr):Prop where
 ne:PySem.W.findIn K (.ref C) "__ne__" = some (some (.builtin "object.__ne__"))
 ob:PySem.W.mroIn K C (.type "object")=some true
 ci:(PySem.W.clsIn K C).isSome=true
 ty:PySem.W.typeIn K (.ref C)=some (.type "type")
 ca:PySem.W.findIn K (.ref C) "__class__" = some (some (.builtin "object.__class__"))
 sg:PySem.W.specialIn K (.builtin "object.__class__") "__get__" = some (some (.builtin "getset_descriptor.__get__"))
 tk:PySem.W.takesIn K (.builtin "object.__class__")=some true
def ixOf_get(h:AN N x=some i):N[i]?=some x:=by
 let⟨h1,h2,_⟩:=List.findIdx?_eq_some_iff_getElem.mp h;rw[Y9 h1];exact TZ some (eq_of_beq h2)
def oM(h:GL e=some x):∃p,e = .Name x p:=by
 cases e with
 |Name y p=>cases h;exact⟨p,rfl⟩
 |_=>cases h
def jN{c:Str×List Expr}(h:CU e=some c):∃p q,e = .Call (.Name c.1 p) c.2 [] q:=by
 cases e with
 |Call f es kws q=>
  cases kws with
  |nil=>
   let⟨n,a,rfl⟩:=Wa.mp h;let⟨p,rfl⟩:=oM a;exact⟨p,q,rfl⟩
  |cons _ _=>cases h
 |_=>cases h
def wF{a:Expr}(h:setArg es=some a):isStar a=false /\∃p pos,es=[.Call (.Name "set" p) [a] [] pos]:=by
 cases es with
 |nil=>cases h
 |cons e es=>cases es with
  |cons _ _=>cases h
  |nil=>
   let⟨c,g,h2⟩:=WZ.mp h;clear h;let⟨p,q,rfl⟩:=jN g;let⟨n,f⟩:=c;have h:=h2;dsimp only at h;by_cases d:n = "set"
   .rw [YC d]at h
    subst d;cases f with
    |nil=>cases h
    |cons b f=>cases f with
     |cons _ _=>cases h
     |nil=>
      cases hs:isStar b with
      |true=>
       have h:GK (!isStar b) (some b)=some a:=h;rw[hs]at h;cases h
      |false=>
       have h:GK (!isStar b) (some b)=some a:=h;rw[hs]at h;cases h;exact⟨hs,p,q,rfl⟩
   .rw [Yj d]at h;cases h
open PySem PySem.Spec PyProof.Rows L2 PySem.W
def star_ne{a:Expr}(h:isStar a=false)(b:List Expr):starEach (a::b) env=(false,eval a env)::starEach b env:=by
 cases a<;>first|rfl|cases h
def bI{env:Env}{pos:Pos}:∀{es:List Expr},es.any isStar=false->(backTo pos (starEach es env)).any (·.1)=false
 |[],_=>rfl
 |a::es,h=>by
  rw[V7,U7]at h;rw[star_ne h.1];show(false||(backTo pos (starEach es env)).any (·.1))=false;rw[bI h.2]
  rfl
section
def eA{env:Env}:∀{kws:List Keyword},kwOk kws=true->(backToKw pos (keywordEach kws env)).all (·.1.isSome)=true/\(backToKw pos (keywordEach kws env)).filterMap (·.1)=AE kws/\(backToKw pos (keywordEach kws env)).any (·.1.isNone)=false
 |[],_=>⟨rfl,rfl,rfl⟩
 |⟨nm,e,kp⟩::kws,h=>by
  unfold kwOk at h;rw[Q_,Yb]at h;let⟨a,b,c⟩:=eA (env:=env) (kws:=kws) h.2;cases nm with
  |none=>cases h.1
  |some n=>
   refine⟨?_,?_,?_⟩
   .show (true&&_)=true
    rw[Qw];exact a
   .show n::_=n::_
    exact TZ (n :: ·) b
   .show (false||_)=false
    rw[Oz];exact c
def hJ:∀{kws:List Keyword},kwOk kws=true->(AE kws).length=kws.length
 |[],_=>rfl
 |⟨nm,e,kp⟩::kws,h=>by
  unfold kwOk at h;rw[Q_,Yb]at h;cases nm with
  |none=>cases h.1
  |some n=>
   show(AE kws).length+1=kws.length+1;rw[hJ h.2]
def _root_.L2.PK.imp{t t':TA}(h:PK X kws t)(q:∀Y H Q,t' Y H Q->t Y H Q):PK X kws t':=λp O s Y H Q I a=>h p O s Y H Q I (q Y H Q a)
end
section
variable{k:Nat}{f C:Addr}{ks:List Str}{sp:Sp}{E:XK}{m:Str}{p:Pos}{o:Expr}{t tk:TA}{g:List Value->List Value->List Value}
def jE{Y:L2.St}{Q:VK}{S a:List Value}{d:List V}(Z5:Mk X.K C f)(F:YE X.prog X.w X.K X.mg X.base CX k f fd ps sp)(q:Y8 (k+1) X.A)(l:UL X.K fd ps ks g gV)
  (p:A5 CX X E) (I:Z0 X O Y H s) (r:ZH vs S) (m:ZH d a)
  (h:∀x dx,H x=none->H dx=none->dx≠x->sp (gV (.ref x::vs) d) (upd (upd H dx (.own x)) x (.ins C dx [])) (λv H2=>v=.ZL/\Q (.ref x) H2) E) :
  wpAny (model X.prog X.w) X.A (call (.ref C) S (ks.zip a)) (EP X O Y Q) X.xe s:=by
 have j:=h (s.heap.objs.size+1) s.heap.objs.size (I.ZJ.fresh (VC _)) (I.ZJ.fresh (GB _)) (GF (Ri _));have c:=Z0.made (C:=C) I;have i:ZH (gV (.ref (s.heap.objs.size+1)::vs) d) (g (.ref (s.heap.objs.size+1)::S) a):=l.rel (.cons rfl r) m;have t:(g (.ref (s.heap.objs.size+1)::S) a).length=ps.length:=by rw[<-i.length];exact F.len _ _ _ _ j
 refine OE (xu (f:=f) I.YR Z5.makes Z5.init (V0.mp Z5.fn) (Ru (F.run _ X.stack _ _ ⟨.ref (s.heap.objs.size+1)::S,ks.zip a⟩ _ _ _ E (q.make C S (ks.zip a)) (c.Tp.make C S (ks.zip a)) (l.to _ _ a c.YR t) i j) λr s' b=>?_));cases r with
 |error e=>exact p O Y _ _ e s' c b
 |ok fl=>
  cases fl with
  |ret u=>
   let⟨v,H',z,n,y,o⟩:=c.after b;subst y;exact⟨n,⟨.ref (s.heap.objs.size+1),H',z,rfl,o⟩⟩
  |next=>exact False.elim b
  |brk=>exact False.elim b
  |cont=>exact False.elim b
def Ga(C:Addr)(sp:Sp)(a:List V->List V->List V)(E:XK)(t tk:TA):TE:=λY H Q=>t Y H λvs H1=>tk Y H1 λzs H2=>∀x dx,H2 x=none->H2 dx=none->dx≠x ->
 sp (a (.ref x::vs) zs) (upd (upd H2 dx (.own x)) x (.ins C dx [])) (λv H3=>v=.ZL/\Q (.ref x) H3) E
def wI(Z5:Mk X.K C f)(F:YE X.prog X.w X.K X.mg X.base CX k f fd ps sp)(j:Y8 (k+1) X.A)(B:Gl X x)(z:X.mg x=some (.ref C))(l:UL X.K fd ps ks g gV)(i:A5 CX X E)
  (D:PA X es t) (J:es=[] ->∀Y H Q,t Y H Q->Q [] H) (n:PK X kws tk) (o:(backToKw pos (keywordEach kws X.env)).all (·.1.isSome)=true) (m:(backToKw pos (keywordEach kws X.env)).filterMap (·.1)=ks)
  (G:(x==("__debug__" : Str))=false) (b:es.any isStar=false) (u:(backToKw pos (keywordEach kws X.env)).any (·.1.isNone)=false) :
  PE X (.Call (.Name x p) es kws pos) (Ga C sp gV E t tk):=by
 intro O s Y H Q I h;refine RN (eC I B z ?_ G);cases es with
 |cons e es=>
  rw[V7,U7]at b;refine PySem.W.callWith_KW (h₀:=X.base) I.ok.mod.VZ Z5.kp o (thn (D pos O s Y H _ I h) λS y ⟨vs,H1,L,r,q⟩=>?_) ?_ (star_ne b.1 _)
  .refine thn (n pos O y Y H1 _ L q) λws v ⟨zs,H2,a,c,d⟩=>⟨a.YR,?_⟩
   rw[m];exact jE Z5 F j l i a r c d
  .rw [star_ne b.1]
   show((false||(backTo pos (starEach es X.env)).any (·.1))||_)=false;rw[bI b.2,u]
   rfl
 |nil=>
  have q:=J rfl Y H _ h;refine PySem.W.callWith_KW0 (h₀:=X.base) I.ok.mod.VZ Z5.kp o ?_ (by show(false||_)=false;rw[u];rfl)
  refine thn (n pos O s Y H _ I q) λws v ⟨zs,H2,a,c,d⟩=>⟨a.YR,?_⟩;rw[m];exact jE Z5 F j l i a .nil c d
def F8(X:Cx)(CX:XN)(k:Nat)(m:Str)(ks:List Str)(E:XK)(b:TE)(t tk:TA):TE:=λY H Q=>b Y H λx H1=>∃(a C dx:Addr) (fs:List (Str×V)) (f:Addr) (fd:FuncData) (ps:List Str) (sp:Sp) (g:List Value->List Value->List Value) (gV:List V->List V->List V),
 x=.ref a/\H1 a=some (.ins C dx fs)/\fs.lookup m=none/\Yh X.K C/\UM X.K C m f/\YE X.prog X.w X.K X.mg X.base CX k f fd ps sp/\UL X.K fd ps ks g gV/\t Y H1 λvs H2=>tk Y H2 λzs H3=>sp (gV (x::vs) zs) H3 Q E
def wH(he:PE X o ta)(hr:Y8 k X.A)(hx:A5 CX X E)(ha:PA X es t)(Wt:es=[] ->∀Y H Q,t Y H Q->Q [] H)(YF:PK X kws tk)(X9:(backToKw pos (keywordEach kws X.env)).all (·.1.isSome)=true)(Yd:(backToKw pos (keywordEach kws X.env)).filterMap (·.1)=ks)
  (ZC:es.any isStar=false) (WH:(backToKw pos (keywordEach kws X.env)).any (·.1.isNone)=false)
  (ht:eval (.Call (.Attribute o m apos) es kws pos) X.env=(do
   let ov<-eval o X.env
   standAt apos.atName
   let(f,first)<-holding [ov] (getMethod ov m pl)
   callWith pos f first (backTo pos (starEach es X.env)) (backToKw pos (keywordEach kws X.env)))) :
  PE X (.Call (.Attribute o m apos) es kws pos) (F8 X CX k m ks E ta t tk):=by
 intro O s Y H Q I h;refine PySem.W.methodCall_KW (pl:=pl) (thn (he O s Y H _ I h) λu s1 hz=>?_) ht;let⟨x,H1,I1,rx,a,C,dx,fs,f,fd,ps,sp,g,gV,ex,ea,l,c,hm,F,hb,q⟩:=hz;subst ex;obtain rfl:u=Value.ref a:=rx;refine vG I1 ea c hm l ?_;cases es with
 |cons e es=>
  rw[V7,U7]at ZC;refine PySem.W.callWith_KW (first:=[.ref a]) (h₀:=X.base) I.ok.mod.VZ hm.kp X9 (thn (ha pos O s1 Y H1 _ I1 q) λS s2 ⟨vs,H2,I2,r,q2⟩=>?_) ?_ (star_ne ZC.1 _)
  .refine thn (YF pos O s2 Y H2 _ I2 q2) λws s3 ⟨zs,H3,I3,rz,q3⟩=>⟨I3.YR,?_⟩
   rw[Yd];exact lB (S:=.ref a::S) (vs:=.ref a::vs) F hr hb hx I3 (.cons rfl r) rz q3
  .rw [star_ne ZC.1]
   show((false||(backTo pos (starEach es X.env)).any (·.1))||_)=false;rw[bI ZC.2,WH]
   rfl
 |nil=>
  have q:=Wt rfl Y H1 _ q;refine PySem.W.callWith_KW0 (first:=[.ref a]) (h₀:=X.base) I.ok.mod.VZ hm.kp X9 ?_ (by show(false||_)=false;rw[WH];rfl)
  refine thn (YF pos O s1 Y H1 _ I1 q) λws s3 ⟨zs,H3,I3,rz,q3⟩=>⟨I3.YR,?_⟩;rw[Yd];exact lB (S:=[.ref a]) (vs:=[.ref a]) F hr hb hx I3 (.cons rfl .nil) rz q3
end
section
variable{W:XQ}{p:Pos}{J:List Fn}{fu k nd:Nat}{m:Str}{f:Addr}{F:KF}{dd:List (Str×Value)}{X_:List E}
def qL{K:Frag}(a:Xd K fd F nd Zo dd)(ρ:List Addr)(H:Hp):F2 (PR (RV K ρ H)) F.dd Zo:=by
 have:=a.urel;revert this;generalize F.dd=l1;generalize Zo=b;intro this
 induction this with
 |nil=>exact .nil
 |cons r _ ih=>exact .cons ⟨r.1,r.2 _ _⟩ ih
def t5{np:Nat}{K:Frag}{W:XQ}{Q:VK}(c:∀a,J[i]?=some a->a.np=np)(p:post K W (RV K) (Aa J fu d i S g) ρ H Q):S.length=np:=by
 cases d with
 |zero=>exact p.elim
 |succ d=>
  simp![Aa]at p;cases e:J[i]? with
  |none=>rw[e]at p;exact p.elim
  |some a=>
   rw[e]at p;simp![BG]at p;split at p
   .rename_i b;rw[b];exact c a e
   .exact p.elim
def jz{x:U}{q:Nat×List (Nat×U)}(e:AL x g=some q):∃n,x=.ref n/\g[n]?=some (.ins q.1 q.2):=by
 unfold AL at e;split at e
 .split at e
  .rename_i h;cases e;exact⟨_,rfl,h⟩
  .cases e
 .cases e
def z6{C:Addr}(Z5:Mk X.K C f)(hC:nsIn X.K mainGlobals (Ao c)=some (some (.ref C))){Wf:XK->XQ}{E0:XK}(Z9:YE X.prog X.w X.K X.mg X.base CX k f fd (F.ns++F.ks) (T7 X.K Wf J d i (F.ns++F.ks).length))(hx:A5 CX X E0)(Xb:∀M,J[i]?=some M->M.np=(F.ns++F.ks).length)(L:Xd X.K fd F nd Zo dd)(Y7:F.ns++F.ks≠[])
  (Xj:B2 F nd (es'.length+1) (AE kws)=true) (E:kwOk kws=true) (V_:es'.length=es.length) (U3:X_.length=kws.length) (hr:Y8 (k+1) X.A) (h:Gl X x) (hm:X.mg x=some (.ref C)) (YU:(x==("__debug__" : Str))=false)
  (s:PA X es (XW X.K W0 (II r.ev es'))) (q:PK X kws (XW X.K W0 (II r.ev X_))) (ZC:es.any isStar=false) :
  PE X (.Call (.Name x p) es kws pos) (tE X.K (Wf E0) (IM (Aa J fu d) r (.make c i es' X_ (Ci F (es'.length+1) (AE kws))))):=by
 let⟨Z,W,T⟩:=eA (pos:=pos) (env:=X.env) E;refine(wI Z5 Z9 hr h hm (L.binds Xj Y7) hx s (λe Y H Q ⟨t,ρ,g,hs,h,p⟩=>by subst e;cases es' with|nil=>exact post.Zb (R:=RVs X.K) (u:=[]) p h rfl|cons=>cases V_) q Z W YU ZC T).imp ?_;rintro Y H Q ⟨t,ρ,g,hs,h,p⟩
 refine⟨t,ρ,g,hs,h,(bC (R:=RVs X.K) p).mono λvs H1 ⟨ZK,S,g1,s1,h1,rs,P⟩=>?_⟩;refine⟨t,ZK,g1,hs.step s1,h1,(bC (R:=RVs X.K) P).mono λzs H2 ⟨m,ws,g2,s2,h2,y,p2⟩=>?_⟩;intro a dx s j b;split at p2
 .rename_i hc
  let⟨D,c2⟩:=hc;have G:ws.length=(AE kws).length:=by rw[c2,U3,hJ E]
  have l:(upd H2 dx (.own a)) a=none:=by rw[af (Ne.symm b)];exact s
  have st:ZI X.K m H2 (m++[a]) (upd (upd H2 dx (.own a)) a (.ins C dx [])):=(ZI.fresh j).trans (ZI.alloc l);have N:RH X.K (m++[a]) (upd (upd H2 dx (.own a)) a (.ins C dx [])) (g2++[.ins c []]):=(h2.step_fresh j).S7 l ⟨C,dx,[],rfl,hC,rfl⟩;have I:=RVs.step st _ _ (RVs.step s2 _ _ rs);have n:=RVs.step st _ _ y;have z:RV X.K (m++[a]) (upd (upd H2 dx (.own a)) a (.ins C dx [])) (.ref g2.length) (.ref a):=⟨a,rfl,by rw[<-h2.len];simp⟩
  have hv:(V.ref a::vs).length=es'.length+1/\zs.length=(AE kws).length:=⟨by rw[YZ,<-I.length,D],by rw[<-y.length];exact G⟩
  have e1:(U.ref g2.length::S).length=es'.length+1:=by rw[YZ,D]
  rw[show(U.ref g2.length::S++ws)=(U.ref g2.length::S)++ws from rfl,i9 (S:=U.ref g2.length::S) e1 G]at p2;have B:post X.K (Wf E0) (RV X.K) (Aa J fu d i (place F.ns F.ks (AE kws) F.dd (U.ref g2.length::S) ws) (g2++[.ins c []])) (m++[a]) (upd (upd H2 dx (.own a)) a (.ins C dx [])) (λv H3=>v=.ZL/\Q (.ref a) H3):=by
   refine(post.bind (R:=RV X.K) (p2.from st)).mono ?_;rintro v H3 ⟨U8,u,g3,s3,h3,O,o⟩;split at o
   .rename_i hu
    have e:=fO O;rw[hu]at e;exact⟨GI e.symm,post.Zb o h3 (RV.step s3 _ _ z)⟩
   .exact o.elim
  refine⟨fu,_,_,_,N,?_,t5 Xb B,B⟩;dsimp only;rw[YC hv];exact(dy (qL L _ _) (F2.cons z (.Ue I)) (.Ue n)).SA
 .exact p2.elim
def MtOk(CX:XN)(Wf:XK->XQ)(X:Cx)(J:List Fn)(d k:Nat)(m:Str)(np:Nat)(kw:List Str)(b:List (Nat×Nat×List (Nat ⊕ U))):Prop:=∀c i pm,b.lookup c=some (i,pm) ->∃C f fd F nd Zo dd,nsIn X.K mainGlobals (Ao c)=some (some (.ref C))/\Yh X.K C/\UM X.K C m f/\Xd X.K fd F nd Zo dd/\F.ns++F.ks≠[] /\
 B2 F nd (np+1) kw=true/\pm=Ci F (np+1) kw/\YE X.prog X.w X.K X.mg X.base CX k f fd (F.ns++F.ks) (T7 X.K Wf J d i (F.ns++F.ks).length) /\∀a,J[i]?=some a->a.np=(F.ns++F.ks).length
def zO{o:Expr}(ho:PE X o (tE X.K W0 (r.ev o')))(hj:j<Bk)(hm:Ao j=m){Wf:XK->XQ}{E0:XK}(hx:A5 CX X E0)(hM:MtOk CX Wf X J d k m es'.length (AE kws) tb)(YF:kwOk kws=true)(V_:es'.length=es.length)(U3:X_.length=kws.length)(hr:Y8 k X.A)
  (ha:PA X es (XW X.K W0 (II r.ev es'))) (hka:PK X kws (XW X.K W0 (II r.ev X_))) (ZC:es.any isStar=false)
  (ht:eval (.Call (.Attribute o m apos) es kws pos) X.env=(do
   let ov<-eval o X.env
   standAt apos.atName
   let(f,first)<-holding [ov] (getMethod ov m pl)
   callWith pos f first (backTo pos (starEach es X.env)) (backToKw pos (keywordEach kws X.env)))) :
  PE X (.Call (.Attribute o m apos) es kws pos) (tE X.K (Wf E0) (IM (Aa J fu d) r (.Yw o' j tb es' X_))):=by
 let⟨k1,k2,k3⟩:=eA (pos:=pos) (env:=X.env) YF;refine(wH ho hr hx ha (λe Y H Q ⟨ZY,ρ,g,hs,hg,p⟩=>by subst e;cases es' with|nil=>exact post.Zb (R:=RVs X.K) (u:=[]) p hg rfl|cons=>cases V_) hka k1 k2 ZC k3 ht).imp λY H Q hp=>oneN hp λZY ρ H g u x hs hg r1 p=>?_
 cases ei:AL u g with
 |none=>rw[ei]at p;exact p.elim
 |some q=>
  rw[ei]at p;simp![Rj]at p;let⟨n,rfl,eg⟩:=jz ei;let⟨a,C,dx,fs,c1,c2,c3,c4⟩:=hg.ins eg;let⟨a',rfl,z⟩:=r1;rw[c1]at z;cases z;unfold Bz at p;rcases c4.look hj with⟨l1,l2⟩|⟨u,v,l1,_,_⟩
  .rw [l1]at p
   dsimp only at p;cases et:tb.lookup q.1 with
   |none=>rw[et]at p;exact p.elim
   |some ip=>
    let⟨i,pm⟩:=ip;rw[et]at p;dsimp only at p;let⟨C',f,fd,F,nd,Zo,dd,m1,m2,m3,KO,Y7,Xj,rfl,Z9,Xb⟩:=hM q.1 i pm et;rw[c3]at m1;cases m1;refine⟨a,C,dx,fs,f,fd,_,_,_,_,rfl,c2,by rw[<-hm];exact l2,m2,m3,Z9,KO.binds Xj Y7,ZY,ρ,g,hs,hg,(bC (R:=RVs X.K) p).mono λvs H1 ⟨ZK,S,g1,s1,h1,rs,p1⟩=>?_⟩
    refine⟨ZY,ZK,g1,hs.step s1,h1,(bC (R:=RVs X.K) p1).mono λzs H2 ⟨Zn,ws,g2,s2,h2,rz,p2⟩=>?_⟩;split at p2
    .rename_i hc
     let⟨c1',Vz⟩:=hc;have Vz:ws.length=(AE kws).length:=by rw[Vz,U3,hJ YF]
     have T5:=RVs.step s2 _ _ rs;have rx:RV X.K Zn H2 (.ref n) (.ref a):=⟨a,rfl,s2.ext _ _ (s1.ext _ _ c1)⟩;have hv:(V.ref a::vs).length=es'.length+1/\zs.length=(AE kws).length:=⟨by rw[YZ,<-T5.length,c1'],by rw[<-rz.length];exact Vz⟩
     have e1:(U.ref n::S).length=es'.length+1:=by rw[YZ,c1']
     rw[show(U.ref n::S++ws)=(U.ref n::S)++ws from rfl,i9 (S:=U.ref n::S) e1 Vz]at p2;refine⟨fu,Zn,g2,_,h2,?_,t5 Xb p2,p2⟩
     try dsimp only
     rw[YC hv];exact(dy (qL KO _ _) (F2.cons rx (.Ue T5)) (.Ue rz)).SA
    .exact p2.elim
  .rw [l1]at p;exact p.elim
def CD(K:Frag)(f:Str)(a:List Nat):Prop:=∀c,a.contains c=true ->∃C,nsIn K mainGlobals (Ao c)=some (some (.ref C))/\Yh K C/\NoAttr K C f
def abi{h:List Nat}(A:PE X e (tE X.K W (r.ev e')))(D:attributeBase e m X.env (eval e X.env)=eval e X.env)(y:j<Bk)(t:Ao j=m)(E:CD X.K m h):PE X (.Attribute e m pos) (tE X.K W (IM C r (.fld e' j h))):=by
 refine(aaQ A D).imp λY H Q s=>one s λN ρ H g u x hs d k p=>?_;let⟨w,b,l⟩:=post.lift p;clear p;cases c:AL u g with
 |none=>rw[c]at b;cases b
 |some q=>
  rw[c]at b;simp![Rj,BN]at b;split at b
  .rename_i B
   let⟨n,rfl,F⟩:=jz c;let⟨a,C,dx,fs,M,L,J,I⟩:=d.ins F;let⟨a',rfl,z⟩:=k;rw[M]at z;cases z;let⟨C',f,JC,G⟩:=E q.1 B;rw[J]at f;cases f;rcases I.look y with⟨l1,_⟩|⟨u,v,l1,o,i⟩
   .rw [l1]at b;cases b
   .rw [l1]at b;cases b
    exact⟨a,C,dx,fs,v,rfl,L,JC,G,by rw[<-t];exact o,post.Zb l d i⟩
  .cases b
def zz{o:Expr}{i:List Nat}{d:Pos}(I:PE X o (tE X.K W (r.ev o')))(N:PE X e (tE X.K W (r.ev e')))(f:swapsWith e (some (.Attribute o m d)) pos.line X.env=pure false)(L:j<Bk)(J:Ao j=m)(O:CD X.K m i):PS X (.Assign [.Attribute o m d] e pos) (Zi X.K W (IS r (.fset o' j i e'))):=by
 refine(acK I N f).imp ?_;rintro D Y H ⟨B,ρ,g,f,M,p⟩;refine⟨B,ρ,g,f,M,(IY.bind (R:=RV X.K) p).mono λy H1 ⟨S,u,g1,s1,h1,E,G⟩=>?_⟩;refine⟨B,S,g1,f.step s1,h1,(IY.bind (R:=RV X.K) G).mono λx H2 ⟨q,w,g2,s2,h2,F,p2⟩=>?_⟩;have h:=RV.step s2 _ _ E;cases b:Bh w j i u g2 with
 |none=>rw[b]at p2;exact p2.elim
 |some g'=>
  rw[b]at p2;unfold Bh at b;split at b
  .split at b
   .rename_i n c fs P
    split at b
    .rename_i s
     cases b;let⟨a,C,dx,fs',l,k,A,v⟩:=h2.ins P;let⟨a',rfl,z⟩:=F;rw[l]at z;cases z;let⟨C',t,JC,Q⟩:=O c s.1;rw[A]at t;cases t;refine⟨a,C,dx,fs',rfl,k,JC,Q,by rw[<-v.length];exact s.2,?_⟩
     have st:ZI X.K q H2 q (upd H2 a (.ins C dx (AB m y fs'))):=ZI.X0 l k trivial;refine p2 Y q _ st (h2.X0 l k trivial ⟨C,dx,_,rfl,A,?_⟩) (((f.step s1).step s2).step st);rw[<-J];exact v.put L h
    .cases b
   .cases b
  .cases b
end
def zo(c:es.any isStar=false)(d:kwOk kws=true)(e:es.length+kws.length+1<30):methodCallForm (es.length+kws.length) (backTo pos (starEach es env)) (backToKw pos (keywordEach kws env))=true:=by
 unfold methodCallForm;let⟨a,_,_⟩:=eA (pos:=pos) (env:=env) d;have h1:(backTo pos (starEach es env)).all (!·.1)=true:=by
  have:=bI (env:=env) (pos:=pos) c;rw[List.any_eq_false]at this;rw[Wy];intro x b;simpa using this x b
 rw[h1,a,Qw,Qw,Xq];split<;>lia
def wG{o:Expr}{m:Str}{ap cp:Pos}(hb:∀w,attributeBase o m env w=w)(ZC:es.any isStar=false)(YF:kwOk kws=true)(hn:es.length+kws.length+1<30)(YK:(ap.endLine==cp.line)=true):
  eval (.Call (.Attribute o m ap) es kws cp) env=(do
   let ov<-eval o env
   standAt ap.atName
   let(f,first)<-holding [ov] (getMethod ov m (do return (<- importBound o env).getD true))
   callWith cp f first (backTo cp (starEach es env)) (backToKw cp (keywordEach kws env))):=by
 have hf:=zo (env:=env) (pos:=cp) ZC YF hn;show (do
  let ov<-attributeBase o m env (eval o env)
  standAt ap.atName
  methodCall o m ap cp env ov (es.length+kws.length) (backTo cp (starEach es env)) (backToKw cp (keywordEach kws env)))=_
 rw[hb];unfold methodCall calleeOf methodCallPos;rw[hf];simp![Uc,YK,Bool.or_true,pure_bind]
def base_of{o:Expr}{m:Str}(h:Ck o=false)(w:Sem Value):attributeBase o m env w=w:=by
 cases o with
 |Call f es ks p=>
  cases es with
  |nil=>cases h
  |cons _ _=>cases f<;>rfl
 |_=>rfl
open PySem PySem.Spec PyProof.Rows L2
structure Zl(T:Tab)(J:List Fn)(d:Nat)(X:Cx)(sc:Scope)(N:List Str):Prop where
 hF:∀(i:Nat) (x:Str),T.J[i]?=some x->(x==("__debug__" : Str))=false ->∃f fd ps,X.mg x=some (.ref f)/\PySem.W.keepIn X.K (.ref f)=true/\Binds X.K fd ps []/\YE X.prog X.w X.K X.mg X.base XA (2*d+2) f fd ps (WO X.K J d i ps.length) /\∀F,J[i]?=some F->F.np=ps.length
 cs:∀x u,T.cs.lookup x=some u ->∃v val,X.mg x=some val/\RelV v val /\∀ρ H,RV X.K ρ H u v
 bt:∀x∈T.bt,X.mg x=none
 hK:∀(y:Str) (i:Nat) (F:KF) (nd:Nat),T.kf.lookup y=some (i,F,nd) ->∃f fd Zo dd,X.mg y=some (.ref f)/\PySem.W.keepIn X.K (.ref f)=true/\Xd X.K fd F nd Zo dd/\F.ns++F.ks≠[]/\YE X.prog X.w X.K X.mg X.base XA (2*d+2) f fd (F.ns++F.ks) (WO X.K J d i (F.ns++F.ks).length) /\∀F',J[i]?=some F'->F'.np=(F.ns++F.ks).length
 hC:∀(y:Str) (c i:Nat) (F:KF) (nd:Nat),T.cl.lookup y=some (c,i,F,nd) ->∃C f fd Zo dd,X.mg y=some (.ref C)/\Mk X.K C f/\PySem.W.nsIn X.K mainGlobals (Ao c)=some (some (.ref C))/\Xd X.K fd F nd Zo dd/\F.ns++F.ks≠[]/\YE X.prog X.w X.K X.mg X.base XA (2*d+2) f fd (F.ns++F.ks) (WO X.K J d i (F.ns++F.ks).length) /\∀F',J[i]?=some F'->F'.np=(F.ns++F.ks).length
 hT:∀(m:Str) (l:List (Nat×Nat×KF×Nat)),T.mt.lookup m=some l ->∀c i F nd,(c,i,F,nd)∈l ->∃C f fd Zo dd,PySem.W.nsIn X.K mainGlobals (Ao c)=some (some (.ref C))/\Yh X.K C/\UM X.K C m f/\Xd X.K fd F nd Zo dd/\F.ns++F.ks≠[]/\YE X.prog X.w X.K X.mg X.base XA (2*d+2) f fd (F.ns++F.ks) (WO X.K J d i (F.ns++F.ks).length) /\∀F',J[i]?=some F'->F'.np=(F.ns++F.ks).length
 hA:(∀(f:Str) (cs:List Nat),T.fl.lookup f=some cs->CD X.K f cs) /\∀p∈T.ow,∃C,X.mg p.1=some (.ref C)/\PySem.W.nsIn X.K mainGlobals (Ao p.2)=some (some (.ref C))/\Yh X.K C/\S3 X.K C
 room:Y8 (2*d+3) X.A
 hN:X.N=N
 Xa:X.env.scope=sc
 nd:N.Nodup
 calm:X.calm=true
 xe:X.xe=λ_ _=>False
def Fp:Expr->Bool
 |.BoolOp ..=>true
 |_=>false
def Good(X:Cx)(C:Nat->List U->G->Out U)(e:Expr)(a:E):Prop:=
 (∀n,PE X e (tE X.K W0 ((IX C n).ev a)))/\(∀n,PT X e (tT X.K W0 ((IX C n).ts a)))/\(Fp e=true ->∀n,PW X e (tT X.K W0 ((IX C n).ts a)))
section
variable{T:Tab}{J:List Fn}{fu:Nat}{sc:Scope}
def qN{r:α}{P:Prop}(h:(none:Option α)=some r):P:=by cases h
def qB{o:Option α}{f:α->Option β}{r:β}{P:Prop}(h:o.bind f=some r)(k:∀a,o=some a->f a=some r->P):P:=by
 cases o with
 |none=>cases h
 |some a=>exact k a rfl h
def qM{o:Option α}{f:α->β}{r:β}{P:Prop}(h:o.map f=some r)(k:∀a,o=some a->f a=r->P):P:=by
 cases o with
 |none=>cases h
 |some a=>exact k a rfl (WE h)
def qI{c:Bool}{x:Option α}{r:α}{P:Prop}(h:GK c x=some r)(k:c=true->x=some r->P):P:=by
 cases c with
 |false=>cases h
 |true=>exact k rfl h
def qE{c:Prop}[Decidable c]{x y:Option α}{r:α}{P:Prop}(h:(if c then x else y)=some r)(d:c->x=some r->P)(b:y=some r->P):P:=by
 by_cases a:c
 .rw [YC a]at h;exact d a h
 .rw [Yj a]at h;exact b h
def aU{l:List α}(h:Ba l=true):l=[]:=by
 cases l with
 |nil=>rfl
 |cons _ _=>cases h
def gx{k:E->E}{r:E}{P:Prop}(h:CB ce k es=some r)(K:∀a a',es=[a]->ce a=some a'->k a'=r->P):P:=by
 cases es with
 |nil=>cases h
 |cons a es=>cases es with
  |nil=>exact qM h λa' h1 h2=>K a a' rfl h1 h2
  |cons _ _=>cases h
def aE{b:Bool}(h:(!b)=true):b=false:=by cases b with
 |false=>rfl
 |true=>cases h
def Good.plain(pe:∀n,PE X e (tE X.K W0 (IM C (IX C n) e')))(he:∀whole,isTrue e X.env whole=(do let v<-whole;standAt e.pos;holding [v] (truthy v)))
  (VF:∀r Y g,IP r e' Y g=(r.ev e' Y g).bind λx g=>lift (IB x g) g) (hb:Fp e=false):Good X C e e':=by
 have pe':∀n,PE X e (tE X.K W0 ((IX C n).ev e')):=λn=>by
  cases n with
  |zero=>exact PE.ZU λ_ _=>rfl
  |succ n=>exact pe n
 refine⟨pe',λn=>?_,λh=>?_⟩
 .cases n with
  |zero=>exact PT.ZU λ_ _=>rfl
  |succ n=>
   have:((IX C (n+1)).ts e')=λY g=>((IX C n).ev e' Y g).bind λx g=>lift (IB x g) g:=by funext Y g;exact VF _ _ _
   rw[this];exact xI (pe' n) he
 .rw [hb]at h;cases h
def bw{f:Expr->Option E}(d:∀e e',f e=some e'->Good X C e e'):∀{es:List Expr} {es':List E},es.any isStar=false->Ab (es.map f)=some es' ->∀n,PA X es (XW X.K W0 (II (IX C n).ev es'))
 |[],_,_,h=>λn=>by cases h;exact nv
 |a::es,es',hs,h=>λn=>by
  rw[V7,U7]at hs;rw[YT]at h;cases c:f a with
  |none=>rw[c]at h;cases h
  |some a'=>
   rw[c]at h;simp![Ab]at h;cases b:Ab (es.map f)with
   |none=>rw[b]at h;cases h
   |some r'=>
    rw[b]at h;cases h;exact kP ((d a a' c).1 n) (bw d hs.2 b n) (star_ne hs.1 _)
def gJ{f:Expr->Option E}(i:∀e e',f e=some e'->Good X C e e'):∀{kws:List Keyword} {X_:List E},Ab (kws.map λk=>f k.value)=some X_ ->∀n,PK X kws (XW X.K W0 (II (IX C n).ev X_))
 |[],_,h=>λn=>by cases h;exact abB.imp λY H Q ⟨j,ρ,g,hs,b,p⟩=>post.Zb (R:=RVs X.K) (u:=[]) p b rfl
 |⟨nm,a,kp⟩::kws,X_,h=>λn=>by
  rw[YT]at h;cases d:f a with
  |none=>rw[d]at h;cases h
  |some a'=>
   rw[d]at h;simp![Ab]at h;cases c:Ab (kws.map λk=>f k.value)with
   |none=>rw[c]at h;cases h
   |some r'=>
    rw[c]at h;cases h;refine(zT ((i a a' d).1 n) (gJ i c n)).imp λY H Q o=>one o λj ρ H g u x hs b l p=>?_;refine⟨j,ρ,g,hs,b,(post.bind p).mono λxs H1 ⟨q,S,g1,s1,h1,rs,m⟩=>?_⟩;exact post.Zb (R:=RVs X.K) m h1 ⟨x,xs,rfl,RV.step s1 _ _ l,rs⟩
def aad{o:Operator}{o':Op}(h:DX o=some o'):(o'=.add/\o = .Add)\/(o'=.sub/\o = .Sub)\/(o'=.mul/\o = .Mult)\/(o'=.fdiv/\o = .FloorDiv)\/(o'=.mod/\o = .Mod)\/(o'=.pow/\o = .Pow):=by
 cases o<;>simp![DX,reduceCtorEq,Y2]at h<;>subst h<;>simp
def Zl.S2(a:Zl T J d X sc N):Y8 (2*d+2) X.A:=⟨a.room.hd,by have:=a.room.dp;lia,by have:=a.room.un;lia,a.room.gd⟩
def Zl.units(a:Zl T J d X sc N):X.A.units+2<cLine:=by have:=a.room.units;lia
def bO(a:Zl T J d X sc N){o:CmpOp}{o':Cp}(h:CJ o=some o'):Bt X o' o:=by
 refine ad7 a.units o' o ?_;cases o<;>simp![CJ,reduceCtorEq,Y2]at h<;>subst h<;>simp
def kG{b:Expr}{o:CmpOp}(h:CV b=false):behindInMarks o b=false:=by
 cases b<;>first|rfl|cases h
def Zl.gl(a:Zl T J d X sc N)(h:sc.names.lookup x=some .globalImplicit):Gl X x:=by
 show X.env.scope.names.lookup x=_;rw[a.Xa];exact h
def gB(h:CI x=true):(x==("__debug__" : Str))=false/\(x==("__classdict__" : Str))=false/\x ≠ "__name__":=by
 unfold CI at h;simp![Yb,W9]at h;exact⟨h.1.1,h.1.2,λe=>by have:=h.2;rw[e]at this;simp at this⟩
def za{t:Ty}(h:Dj x=some t):x=Str.ofString (tyName t)/\bootBuiltins x=some (.type (tyName t))/\x ≠ "__name__" /\ (x==("__debug__" : Str))=false:=by
 unfold Dj at h;split at h
 .rename_i e;cases h;subst e;exact⟨rfl,by rfl,by decide,by decide⟩
 split at h
 .rename_i e;cases h;subst e;exact⟨rfl,by rfl,by decide,by decide⟩
 split at h
 .rename_i e;cases h;subst e;exact⟨rfl,by rfl,by decide,by decide⟩
 split at h
 .rename_i e;cases h;subst e;exact⟨rfl,by rfl,by decide,by decide⟩
 split at h
 .rename_i e;cases h;subst e;exact⟨rfl,by rfl,by decide,by decide⟩
 .cases h
def ve{b:Expr}(h:Co b=false):DG b:=by
 cases b<;>first|exactλ_ _=>rfl|cases h
section
variable{a:Expr}{a':E}{p:Pos}
def abK{b:Bi}{f:Str}(c:GO f=some b)(t:X.calm=true)(u:X.A.units+64<cLine)(o:X.A.guards=some [])(g:Gl X f)(d:X.mg f=none)(j:PA X (a::es) (XW X.K W0 (II r.ev es')))(k:(a::es).any isStar=false):
  PE X (.Call (.Name f p) (a::es) [] pos) (tE X.K W0 (IM C r (.bi b es'))):=by
 rw[V7,U7]at k;have h1:=star_ne (env:=X.env) k.1 es;have h2:=bI (env:=X.env) (pos:=pos) k.2;unfold GO at c;split at c
 .rename_i e;subst e;cases c;exact se_bi (pe_callB call_len_seq g d PySem.boot_len j #[1] #[1] h1 h2) imp_len
 split at c
 .rename_i e;subst e;cases c;exact se_bi (pe_callB call_abs g d #[2] j #[1] #[1] h1 h2) imp_abs
 split at c
 .rename_i e;subst e;cases c;exact se_bi (pe_callTy (call_list_of.or (call_listD t)) g d #[2] j #[1] #[1] h1 h2) imp_list
 split at c
 .rename_i e;subst e;cases c;exact se_bi (pe_callB (call_srtX t (by lia)) g d #[2] j #[1] #[1] h1 h2) imp_srt
 split at c
 .rename_i e;subst e;cases c;exact se_bi (pe_callTy call_tuple_of g d #[2] j #[1] #[1] h1 h2) imp_tupl
 split at c
 .rename_i e;subst e;cases c;exact se_bi (pe_callB (call_rpr o u) g d #[2] j #[1] #[1] h1 h2) imp_rpr
 split at c
 .rename_i e;subst e;cases c;exact se_bi (pe_callTy call_int1 g d #[2] j #[1] #[1] h1 h2) imp_int1
 cases c
end
def cg{d c:Type}{f:d->Option c}:∀{l:List d} {r:List c},Ab (l.map f)=some r->r.length=l.length
 |[],_,h=>by cases h;rfl
 |a::l,r,h=>by
  rw[YT]at h;cases e:f a with
  |none=>rw[e]at h;cases h
  |some b=>
   rw[e]at h;let⟨r',g,rfl⟩:=Wa.mp h;simp[cg g]
def d8{f:Str}(h:BU f=true):Ao (Bm f)=f/\Bm f<Bk:=by
 unfold BU at h;rw[Yb,Xq,Xq]at h;exact h
def kc(g:Zl T J d X sc N)(r:∀e b,ce e=some b->Good X (Aa J fu d) e b){f:Str}{b:E}(h:Cy T sc ce f es kws=some b)(p pos:Pos):Good X (Aa J fu d) (.Call (.Name f p) es kws pos) b:=by
 refine qI h λk h=>qB h λes' o h=>qB h λX_ m h=>?_;simp![Yb,W9,V0]at k;let⟨⟨⟨D,l⟩,B⟩,z⟩:=k;let⟨h1,h2,G⟩:=gB D;have hl:=cg o;cases a:T.kf.lookup f with
 |some q=>
  rw[a]at h;exact qN h
 |none=>
  rw[a]at h;refine qB h λq A h=>qI h λj h=>?_;let⟨c,i,F,nd⟩:=q;cases h;let⟨C,H,fd,Zo,dd,y,x,w,v,u,t,s⟩:=g.hC _ _ _ _ _ A;dsimp only at j ⊢;rw[<-hl]at j ⊢;exact .plain (λn=>z6 x w t eY s v u j z hl (cg m) g.room (g.gl B) y h1 (bw r l o n) (gJ r m n) l) (λ_=>rfl) (λ_ _ _=>rfl) rfl
def iU{i g:Type}{f:Nat×i->Nat×g}(j:∀e,(f e).1=e.1){c:Nat}{b:g}:∀{l:List (Nat×i)},(l.map f).lookup c=some b ->∃a,(c,a)∈l/\b=(f (c,a)).2
 |[],h=>by cases h
 |(d,a)::l,h=>by
  rw[YT,show f (d,a)=((f (d,a)).1,(f (d,a)).2)from rfl,WM,j]at h;cases q:c==d with
  |true=>
   rw[q]at h;cases h;cases eq_of_beq q;exact⟨a,XZ,rfl⟩
  |false=>
   rw[q]at h;let⟨a',h1,h2⟩:=iU j h;exact⟨a',GC _ h1,h2⟩
def ky(p:Zl T J d X sc N)(x:∀e b,ce e=some b->Good X (Aa J fu d) e b){o:Expr}{s r:Pos}(O:Ck o=false)(I:Good X (Aa J fu d) o o'){m:Str}{b:E}(h:DN T ce o' m s r es kws=some b):Good X (Aa J fu d) (.Call (.Attribute o m s) es kws r) b:=by
 refine qI h λq h=>qB h λes' w h=>qB h λX_ u h=>qB h λl K h=>qI h λP h=>?_;simp![Yb,W9,Xq]at q;let⟨⟨⟨⟨Q,g⟩,v⟩,a⟩,M⟩:=q;let⟨h1,h2⟩:=d8 Q;cases h;have j:=cg w;refine .plain (λn=>zO (CX:=XA) (Wf:=λ_=>W0) (E0:=λ_ _ _=>False) (k:=2*d+2) (I.1 n) h2 h1 eY (λc i pm R=>?_) v j (cg u) p.S2 (bw x g w n) (gJ x u n) g (wG (base_of O) g v a M)) (λ_=>rfl) (λ_ _ _=>rfl) rfl;let⟨⟨S,F,nd⟩,t,L⟩:=iU (f:=λe:Nat×Nat×KF×Nat=>(e.1,e.2.1,Ci e.2.2.1 (es.length+1) (AE kws))) (λ_=>rfl) R;cases L;let⟨C,f,fd,Zo,dd,H,G,D,B,A,z,y⟩:=p.hT _ _ K _ _ _ _ t;refine⟨C,f,fd,F,nd,Zo,dd,H,G,D,B,A,?_,by rw[j],z,y⟩
 rw[j];exact Wy.mp P _ t
def ff{a:Expr}(h:[a].any isStar=false):isStar a=false:=by simpa using h
def f9{b:Bool}(h:BS b sc x=true):L2.Loc sc x/\(b=false->sc.names.lookup x=some .local):=by
 unfold BS at h;simp![TL,Yb,V0]at h;rcases h with h|⟨h1,h2⟩
 .exact ⟨.inl h,λ_=>h⟩
 .exact ⟨.inr h2,λe=>by rw[e]at h1;cases h1⟩
def dC{b:Bool}(h:BQ b sc N x=some i):N[i]?=some x/\BS b sc x=true:=by
 unfold BQ at h;split at h
 .rename_i a;exact⟨ixOf_get h,a⟩
 .cases h
def x8{b:Bool}(h:BQ b sc N x=some i):N[i]?=some x/\L2.Loc sc x/\(b=false->sc.names.lookup x=some .local):=⟨(dC h).1,f9 (dC h).2⟩
def Zl.Sr(a:Zl T J d X sc N)(h:L2.Loc sc x):L2.Loc X.env.scope x:=by rw[a.Xa];exact h
def Zl.fnX(a:Zl T J d X sc N){b:Bool}(c:b=true ->∀x,X.fn x=true){x:Str}(h:b=false->sc.names.lookup x=some .local):X.fn x=true\/X.env.scope.names.lookup x=some .local:=by
 rw[a.Xa];cases b with
 |true=>exact .inl (c rfl x)
 |false=>exact .inr (h rfl)
def Zl.T4(a:Zl T J d X sc N):X.N.Nodup:=by rw[a.hN];exact a.nd
def Zl.own(a:Zl T J d X sc N):PassesOwn (model X.prog X.w) X.A X.env X.xe:=by rw[a.xe];exact PassesOwn.never
def jl(f:Zl T J d X sc N){b:Bool}{c:Scope}(g:∀x,BS b c x=true->L2.Loc X.env.scope x/\(X.fn x=true\/X.env.scope.names.lookup x=some .local)){t:Tg}(h:Bj b c N tg=some t):PG X tg (tG X.K t):=by
 unfold Bj at h;split at h
 .cases e:BQ b c N ‹Str› with
  |none=>rw[e]at h;cases h
  |some i=>
   rw[e]at h;cases h;let⟨h1,h2⟩:=dC e;exact adk f.T4 (by rw[f.hN];exact h1) (g _ h2).1 (g _ h2).2
 .rename_i ts k p
  cases e:Ab (ts.map (B5 b c N))with
  |none=>rw[e]at h;cases h
  |some is=>
   rw[e]at h;cases h;have all:∀(ts:List Expr) (is:List Nat),Ab (ts.map (B5 b c N))=some is->PGs X ts (Ub X.K is)/\(assignEach ts X.env).length=is.length/\(assignEach ts X.env).findIdx? (·.1)=none:=λts=>by
    induction ts with
    |nil=>intro is e;cases e;exact⟨sgs_nil,rfl,rfl⟩
    |cons a ts ih=>
     intro is e;rw[YT]at e;cases j:B5 b c N a with
     |none=>rw[j]at e;cases e
     |some i=>
      rw[j]at e;simp![Ab]at e;cases o:Ab (ts.map (B5 b c N))with
      |none=>rw[o]at e;cases e
      |some n=>
       rw[o]at e;cases e;let⟨m,p2,l⟩:=ih n o;cases a<;>simp![B5,reduceCtorEq]at j
       let⟨h1,h2⟩:=dC j;refine⟨yh f.T4 (by rw[f.hN];exact h1) (g _ h2).1 (g _ h2).2 m,?_,?_⟩
       .show (assignEach ts X.env).length+1=_
        rw[p2];rfl
       .show List.findIdx? (·.1) ((false,_)::assignEach ts X.env)=none
        rw[List.findIdx?_cons];simp[l]
   let⟨m,p2,l⟩:=all ts is e;exact ady f.calm m p2 l
 .cases h
def dU(a:Zl T J d X sc N){b:Bool}(c:b=true ->∀x,X.fn x=true){t:Tg}(h:Bj b sc N tg=some t):PG X tg (tG X.K t):=jl a (λ_ z=>⟨a.Sr (f9 z).1,a.fnX c (f9 z).2⟩) h
def y7{a:Shared}{c:Hp}{b:List Str}(h:BS true scope x=true):L2.Loc (Ag X O scope a c fp b).env.scope x/\((Ag X O scope a c fp b).fn x=true\/(Ag X O scope a c fp b).env.scope.names.lookup x=some .local):=by
 have e:(Ag X O scope a c fp b).env.scope.names.lookup x=_:=c9;simp![BS,TL,Qw,V0]at h;rcases h with h|h
 .rw [h]at e;exact⟨.inl e,.inr e⟩
 .rw [h]at e;exact⟨.inr e,.inl (V0.mpr h)⟩
def yJ(h:CO e'=true):IL r e'=(λY g=>(r.ev e' Y g).bind λu g=>match u with
  |.ZX xs=>Out.ok (Iter.seq xs) g
  |.xn _ xs=>Out.ok (Iter.seq xs) g
  |.ref n=>match g[n]? with
   |some (.M _)=>.ok (.M n) g
   |some (.ZG Z4)=>.ok (.ZG n) (g.set n (.Zs Z4))
   |some (.Zs _)=>.ok (.ZG n) g
   |_=>.ZU
  |_=>.ZU):=by
 cases e'<;>first|rfl|cases h
def xf(j:Zl T J d X sc N){f:Expr->Option E}(k:∀e e',f e=some e'->Good X (Aa J fu d) e e'){it:Expr}(h:DP T sc f it=some Zp):(∀n,PI X tg it (tI X.K W0 (IL (IX (Aa J fu d) n) Zp))) /\∀x,foldedSetIterable it X.env x=pure x:=by
 have val:GN f it=some Zp->(∀n,PI X tg it (tI X.K W0 (IL (IX (Aa J fu d) n) Zp))) /\∀x,foldedSetIterable it X.env x=pure x:=λh=>qI h λhs h=>qB h λe' m h=>qI h λl h=>by
  cases h;have hs:=aE hs;exact⟨λn=>by rw[yJ l];exact abq ((k it Zp m).1 n),λx=>by cases it<;>first|rfl|cases hs⟩
 unfold DP at h;cases g:CU it with
 |none=>rw[g]at h;exact val h
 |some c=>
  rw[g]at h;refine qE h (λi h=>?_) val;let⟨p,q,rfl⟩:=jN g;let⟨n,es⟩:=c;have i:n = "range":=i;subst i;refine qI h λg h=>?_;simp![Yb,W9,V0]at g;let⟨⟨h1,h2⟩,r⟩:=g;have hm:=j.bt _ (S1.mp h1);cases es with
  |nil=>cases h
  |cons a es=>
   cases es with
   |nil=>
    refine qM h λa' o e=>?_;subst e;exact⟨λn=>zb (j.gl h2) hm ((k _ _ o).1 n) (star_ne (ff r)),λx=>rfl⟩
   |cons b es=>
    exact qN h
def bG(a:Zl T J d X sc N){f:Expr->Option E}(b:∀e e',f e=some e'->Good X (Aa J fu d) e e'){it:Expr}(h:CS T sc f tg it=some Zp):(∀n,PI X tg it (tI X.K W0 (IL (IX (Aa J fu d) n) Zp))) /\∀x,foldedSetIterable it X.env x=pure x:=by
 exact xf a b h
def vo(h:env.scope=sc):relabel scope env=Bg scope sc:=by subst h;rfl
def Zl.comp(a:Zl T J d X sc N){b c:List Str}(f:(b++c).Nodup)(O:List (Addr×Obj))(e:Shared)(h:Hp)(g:List Addr):Zl T J d (Ag X O scope e h g (b++c)) (Bg scope sc) (b++c):=
 ⟨a.hF,a.cs,a.bt,a.hK,a.hC,a.hT,a.hA,a.room,rfl,vo a.Xa,f,a.calm,rfl⟩
def gG{f:Expr->Option E}(d:∀e e',f e=some e'->Good X C e e'):∀{es:List Expr} {es':List E},Ab (es.map f)=some es' ->∀n,PTs X es (Aw (IX C n).ts es')
 |[],_,h=>λn=>by cases h;exact zp
 |a::es,es',h=>λn=>by
  rw[YT]at h;cases c:f a with
  |none=>rw[c]at h;cases h
  |some a'=>
   rw[c]at h;simp![Ab]at h;cases b:Ab (es.map f)with
   |none=>rw[b]at h;cases h
   |some r'=>
    rw[b]at h;cases h;exact xw ((d a a' c).2.1 n) (gG d b n)
def ko(c:Zl T J d X sc N){f:Expr->Option E}(i:∀e e',f e=some e'->Good X (Aa J fu d) e e'):∀{gs:List Comprehension} {a:List (Tg×E×List E)},DQ T sc N f gs=some a->Bq X (Aa J fu d) gs a
 |[],_,h=>by cases h;trivial
 |g::gs,a,h=>qI h λl h=>qB h λt j h=>qB h λit b h=>qB h λcs m h=>qM h λr' k e=>by
  subst e;exact⟨eq_of_beq l,dU c (λe=>by cases e) j,gG i m,(bG c i b).1,(bG c i b).2,ko c i k⟩
def wa(o:Zl T J d X sc N){a:List Str}(h:DD scope sc a (freeOf scope)=true)(q:Ab ((freeOf scope).map (AN N))=some Zq):Wu X scope a (freeOf scope) Zq:=by
 unfold DD at h;simp![Yb,V0,Wy,TL,bne_iff_ne,Xq]at h;let⟨⟨⟨⟨⟨⟨h1,h2⟩,w⟩,v⟩,u⟩,t⟩,s⟩:=h;refine⟨h1,λx b c=>(h2 x b).resolve_left λz=>z c,λx b c=>(w x b).resolve_left λz=>z c,λx b c=>?_,u,t,s,?_⟩
 .show X.env.scope.names.lookup x.1=_
  rw[o.Xa];exact(v x b).resolve_left λz=>z c
 .have all:∀(l:List Str) (r:List Nat),Ab (l.map (AN N))=some r->r.length=l.length /\∀(j:Nat) (x:Str) (i:Nat),l[j]?=some x->r[j]?=some i->N[i]?=some x:=λl=>by
   induction l with
   |nil=>intro r e;cases e;exact⟨rfl,λj x i e=>by simp at e⟩
   |cons y l ih=>
    intro r e;rw[YT]at e;cases g:AN N y with
    |none=>rw[g]at e;cases e
    |some k=>
     rw[g]at e;simp![Ab]at e;cases f:Ab (l.map (AN N))with
     |none=>rw[f]at e;cases e
     |some r'=>
      rw[f]at e;cases e;let⟨p,p2⟩:=ih r' f;refine⟨by simp[p],λj x i n m=>?_⟩
      cases j with
      |zero=>simp at n m;subst n;subst m;exact ixOf_get g
      |succ j=>exact p2 j x i (by simpa using n) (by simpa using m)
  rw[o.hN];exact all _ _ q
def yf(a:Zl T J d X sc N)(h:FN T sc N x=some e'):Good X (Aa J fu d) (.Name x pos) e':=by
 refine qI h λg h=>qB h λk hk h=>?_;let⟨h1,h2,o⟩:=gB g;have L:(k=.local\/k=.cell\/k=.free)->(AN N x).map E.L=some e'->Good X (Aa J fu d) (.Name x pos) e':=λm h=>qM h λi j e=>by
  subst e;refine .plain (λn=>aaC (by rw[a.hN];exact ixOf_get j) ?_ h1 h2) (λ_=>rfl) (λ_ _ _=>rfl) rfl
  show X.env.scope.names.lookup x=_\/_;rw[a.Xa];rcases m with rfl|rfl|rfl
  .exact .inl hk
  .exact .inr (.inl hk)
  .exact .inr (.inr hk)
 cases k with
 |«local»=>exact L (.inl rfl) h
 |cell=>exact L (.inr (.inl rfl)) h
 |free=>exact L (.inr (.inr rfl)) h
 |globalImplicit=>
  refine qM h λu l e=>?_;subst e;let⟨v,val,f,c,b⟩:=a.cs x u l;exact .plain (λn=>cO (zF (a.gl hk) f c h1) b) (λ_=>rfl) (λ_ _ _=>rfl) rfl
 |globalExplicit=>exact qN h
def yG{v:Const}{k:Nat}(h:GP v=some e'):Good X C (.Constant v k pos) e':=by
 cases v with
 |int i=>cases h;exact .plain (λn=>cO p0 λ_ _=>rfl) (λ_=>rfl) (λ_ _ _=>rfl) rfl
 |bool b=>cases h;exact .plain (λn=>cO adU λ_ _=>rfl) (λ_=>rfl) (λ_ _ _=>rfl) rfl
 |none=>cases h;exact .plain (λn=>cO abl λ_ _=>rfl) (λ_=>rfl) (λ_ _ _=>rfl) rfl
 |str s=>cases h;exact .plain (λn=>cO acH λ_ _=>rfl) (λ_=>rfl) (λ_ _ _=>rfl) rfl
 |_=>exact qN h
section
variable(ok:Zl T J d X sc N)(ih:∀e e',ce e=some e'->Good X (Aa J fu d) e e')
include ok in
def xG(c:∀e e',ce e=some e'->Good X (Aa J fu d) e e'){a b:Expr}{o:CmpOp}(h:FC ce a o b=some e'):Good X (Aa J fu d) (.Compare a [o] [b] pos) e':=by
 refine qI h λi h=>qB h λo' ho h=>qB h λa' g h=>qM h λb' f e=>?_;subst e;have hm:=kG (o:=o) (aE i);refine⟨λn=>?_,λn=>?_,λh=>by cases h⟩
 .cases n with
  |zero=>exact PE.ZU λ_ _=>rfl
  |succ n=>exact abS (C:=Aa J fu d) (bO ok ho) hm ((c _ _ g).1 n) ((c _ _ f).1 n)
 .cases n with
  |zero=>exact PT.ZU λ_ _=>rfl
  |succ n=>
   cases n with
   |zero=>exact PT.ZU λ_ _=>rfl
   |succ n=>exact aaU (C:=Aa J fu d) (bO ok ho) hm ((c _ _ g).1 n) ((c _ _ f).1 n)
include ok in
def xM(f:∀e e',ce e=some e'->Good X (Aa J fu d) e e'){a b c:Expr}{o q:CmpOp}(h:Fw ce a o q b c=some e'):Good X (Aa J fu d) (.Compare a [o,q] [b,c] pos) e':=by
 refine qI h λl h=>qB h λo' ho h=>qB h λm g h=>qB h λa' k h=>qB h λb' j h=>qM h λc' i e=>?_;subst e;have hm:=kG (o:=q) (aE l);refine⟨λn=>?_,λn=>?_,λh=>by cases h⟩
 .cases n with
  |zero=>exact PE.ZU λ_ _=>rfl
  |succ n=>exact xr (C:=Aa J fu d) (bO ok ho) (bO ok g) hm ((f _ _ k).1 n) ((f _ _ j).1 n) ((f _ _ i).1 n)
 .cases n with
  |zero=>exact PT.ZU λ_ _=>rfl
  |succ n=>
   cases n with
   |zero=>exact PT.ZU λ_ _=>rfl
   |succ n=>exact xB (C:=Aa J fu d) (bO ok ho) (bO ok g) hm ((f _ _ k).1 n) ((f _ _ j).1 n) ((f _ _ i).1 n)
include ok in
def aao(j:∀e e',ce e=some e'->Good X (Aa J fu d) e e'){a:Expr}{f:List CmpOp}{g:List Expr}(h:GR ce a f g=some e'):Good X (Aa J fu d) (.Compare a f g pos) e':=by
 cases f with
 |nil=>exact qN h
 |cons o f=>cases g with
  |nil=>exact qN h
  |cons b g=>cases f with
   |nil=>
    refine qI h λi h2=>?_;cases aU i;exact xG ok j h2
   |cons q f=>cases g with
    |nil=>exact qN h
    |cons c g=>
     refine qI h λi h2=>?_;rw[Yb]at i;cases aU i.1;cases aU i.2;exact xM ok j h2
def yD(c:∀e e',ce e=some e'->Good X (Aa J fu d) e e'){o:BoolOp}(h:GS ce o es pos=some e'):Good X (Aa J fu d) (.BoolOp o es pos) e':=by
 cases es with
 |nil=>exact qN h
 |cons a es=>cases es with
  |nil=>
   let⟨k,g2,l⟩:=c _ _ h;have f:∀n,PW X (.BoolOp o [a] pos) (tT X.K W0 ((IX (Aa J fu d) n).ts e')):=λn=>by
    cases o with
    |And=>exact zJ (g2 n)
    |Or=>exact ab2 (g2 n)
   exact⟨λn=>acB (k n),λn=>(f n).pt,λ_ n=>f n⟩
  |cons b ZQ=>cases o with
   |And=>
    refine qB h λa' i h=>qM h λb' g e=>?_;subst e;have f:∀n,PW X (.BoolOp .And (a::b::ZQ) pos) (tT X.K W0 ((IX (Aa J fu d) n).ts (.and a' b'))):=λn=>by
     cases n with
     |zero=>exactλj O s Y H Q I ⟨_,_,_,_,_,p⟩=>p.elim
     |succ n=>exact aay ((c _ _ i).2.1 n) ((c _ _ g).2.2 rfl n)
    refine⟨λn=>?_,λn=>(f n).pt,λ_ n=>f n⟩;cases n with
    |zero=>exact PE.ZU λ_ _=>rfl
    |succ n=>exact ab4 (C:=Aa J fu d) ((c _ _ i).1 n) ((c _ _ g).1 n)
   |Or=>
    refine qB h λa' i h=>qM h λb' g e=>?_;subst e;have f:∀n,PW X (.BoolOp .Or (a::b::ZQ) pos) (tT X.K W0 ((IX (Aa J fu d) n).ts (.or a' b'))):=λn=>by
     cases n with
     |zero=>exactλj O s Y H Q I ⟨_,_,_,_,_,p⟩=>p.elim
     |succ n=>exact aec ((c _ _ i).2.1 n) ((c _ _ g).2.2 rfl n)
    refine⟨λn=>?_,λn=>(f n).pt,λ_ n=>f n⟩;cases n with
    |zero=>exact PE.ZU λ_ _=>rfl
    |succ n=>exact adi (C:=Aa J fu d) ((c _ _ i).1 n) ((c _ _ g).1 n)
def abu(c:∀e e',ce e=some e'->Good X (Aa J fu d) e e'){o:UnaryOp}{a:Expr}(h:GU ce o a=some e'):Good X (Aa J fu d) (.UnaryOp o a pos) e':=by
 cases o with
 |Not=>
  refine qM h λa' b e=>?_;subst e;refine⟨λn=>?_,λn=>?_,λh=>by cases h⟩
  .cases n with
   |zero=>exact PE.ZU λ_ _=>rfl
   |succ n=>exact aa7 (C:=Aa J fu d) ((c _ _ b).1 n)
  .cases n with
   |zero=>exact PT.ZU λ_ _=>rfl
   |succ n=>exact acb ((c _ _ b).2.1 n)
 |USub=>
  refine qM h λa' b e=>?_;subst e;exact .plain (λn=>aaB ((c _ _ b).1 n)) (λ_=>rfl) (λ_ _ _=>rfl) rfl
 |_=>exact qN h
def zA(h:GW e=true):∃k p q,e = .UnaryOp .USub (.Constant (.int 1) k p) q:=by
 cases e with
 |UnaryOp o a q=>cases o with
  |USub=>cases a with
   |Constant v k p=>cases v with
    |int i=>cases eq_of_beq (show(i==1)=true from h);exact⟨k,p,q,rfl⟩
    |_=>cases h
   |_=>cases h
  |_=>cases h
 |_=>cases h
def k9{o:Option α}(h:Ep o=true):o=none:=by
 cases o with
 |none=>rfl
 |some _=>cases h
def lx(b:∀e e',ce e=some e'->Good X (Aa J fu d) e e'){lo:Option Expr}{a:Option E}(h:Eg ce lo=some a)(n:Nat):PO X lo (Cz X.K W0 (IJ (IX (Aa J fu d) n).ev a)):=by
 cases lo with
 |none=>cases h;exact z8
 |some l=>exact qM h λf c e=>by subst e;exact ze ((b _ _ c).1 n)
def zw(m:X.A.units+2<cLine)(c:∀e e',ce e=some e'->Good X (Aa J fu d) e e'){a s:Expr}(h:Ew ce a s=some e'):Good X (Aa J fu d) (.Subscript a s pos) e':=by
 unfold Ew at h;cases b:Co s with
 |true=>
  rw[b]at h;cases s with
  |Slice lo hi st p=>cases st with
   |none=>
    refine qB h λa' f h=>qB h λl i h=>qM h λh' j e=>?_;subst e;exact .plain (λn=>aaH ((c _ _ f).1 n) (lx c i n) (lx c j n)) (λ_=>rfl) (λ_ _ _=>rfl) rfl
   |some st=>
    refine qI h λg h=>qM h λa' f e=>?_;subst e;rw[Yb,Yb]at g;cases k9 g.1.1;cases k9 g.1.2;let⟨_,_,_,rfl⟩:=zA g.2;exact .plain (λn=>aaD ((c _ _ f).1 n)) (λ_=>rfl) (λ_ _ _=>rfl) rfl
  |_=>exact qN h
 |false=>
  rw[b]at h;refine qB h λa' f h=>qM h λb' k e=>?_;subst e;exact .plain (λn=>aas () ((c _ _ f).1 n) ((c _ _ k).1 n) (ve b)) (λ_=>rfl) (λ_ _ _=>rfl) rfl
include ok in
def nH(i:∀e e',ce e=some e'->Good X (Aa J fu d) e e'){f:Str}{p:Pos}(m:sc.names.lookup f=some .globalImplicit)(j:X.mg f=none)(g:es.any isStar=false)(h:GZ ce f es=some e'):Good X (Aa J fu d) (.Call (.Name f p) es [] pos) e':=by
 refine qB h λb c h=>qI h λl h=>qM h λes' k e=>?_;subst e;cases es with
 |nil=>cases l
 |cons a es=>
  unfold Fv at c;exact .plain (λn=>abK c ok.calm ok.room.units ok.room.gd (ok.gl m) j (bw i g k n) g) (λ_=>rfl) (λ_ _ _=>rfl) rfl
include ok in
def yR(m:∀e e',ce e=some e'->Good X (Aa J fu d) e e'){p:Pos}(v:sc.names.lookup ("isinstance" : Str)=some .globalImplicit)(q:X.mg "isinstance" = none)(f:es.any isStar=false)(h:GY T sc ce es=some e'):Good X (Aa J fu d) (.Call (.Name "isinstance" p) es [] pos) e':=by
 cases es with
 |nil=>exact qN h
 |cons a es=>cases es with
  |nil=>exact qN h
  |cons t es=>
   refine qI h λr h1=>qB h1 λg w h2=>?_;cases aU r;refine qB h2 λtn o h=>qB h λty b h=>qB h λa' s h=>qI h λc u=>?_;let⟨p2,rfl⟩:=oM o;simp![Yb,V0]at c;cases u;let⟨l,k,j,i⟩:=za b;rw[V7,U7]at f;exact .plain (λn=>acq (by unfold Dj at b;revert b;(repeat' split)<;>(intro b;cases b)<;>rfl) l (ok.gl c.2) (ok.bt tn (S1.mp c.1)) k j i (ok.gl v) q ((m _ _ s).1 n) (star_ne f.1)) (λ_=>rfl) (λ_ _ _=>rfl) rfl
include ok in
def zi(b:∀e e',ce e=some e'->Good X (Aa J fu d) e e'){f:Str}{p:Pos}(g:sc.names.lookup f=some .globalImplicit)(c:X.mg f=none)(k:es.any isStar=false)(h:Dw T sc ce f es=some e'):Good X (Aa J fu d) (.Call (.Name f p) es [] pos) e':=by
 refine qE h (λj h=>by subst j;exact yR ok b g c k h) λh=>?_
 refine qE h (λj h=>?_) (nH ok b g c k);cases l:setArg es with
 |none=>rw[l]at h;exact nH ok b g c k h
 |some a=>
  rw[l]at h;refine qI h λm h=>qM h λa' o e=>?_;subst j;subst e;simp![Yb,V0]at m;let⟨i,p2,q,rfl⟩:=wF l;exact .plain (λn=>zy ok.calm (by have:=ok.room.units;lia) (ok.gl g) c (ok.gl m.2) (ok.bt _ (S1.mp m.1)) ((b _ _ o).1 n) (star_ne i _)) (λ_=>rfl) (λ_ _ _=>rfl) rfl
include ok in
def zq(b:∀e e',ce e=some e'->Good X (Aa J fu d) e e'){f:Str}{p:Pos}(h:G2 T sc ce f es=some e'):Good X (Aa J fu d) (.Call (.Name f p) es [] pos) e':=by
 refine qI h λs h=>?_;simp![Yb,W9,V0]at s;let⟨⟨u,c⟩,g⟩:=s;let⟨h1,h2,v⟩:=gB u;cases hi:AN T.J f with
 |some i=>
  rw[hi]at h;refine qM h λes' t e=>?_;subst e;let⟨w,fd,ps,r,q,o,m,l⟩:=ok.hF i f (ixOf_get hi) h1;refine .plain (λn=>?_) (λ_=>rfl) (λ_ _ _=>rfl) rfl;cases es with
  |nil=>cases t;exact xP m eY l ok.S2 (ok.gl g) r q o h1
  |cons a es=>
   have k:=c;rw[V7,U7]at k;exact aam m eY l ok.S2 (ok.gl g) r q o h1 (bw b c t n) (star_ne k.1 _) (bI k.2)
 |none=>
  rw[hi]at h;cases j:T.bt.contains f with
  |true=>
   have h:(match T.bt.contains f with|true=>Dw T sc ce f es|false=>Cy T sc ce f es [])=some e':=h
   rw[j]at h;exact zi ok b g (ok.bt f (S1.mp j)) c h
  |false=>
   have h:(match T.bt.contains f with|true=>Dw T sc ce f es|false=>Cy T sc ce f es [])=some e':=h
   rw[j]at h;exact kc ok b h _ _
include ok in
def acf(k:∀e e',ce e=some e'->Good X (Aa J fu d) e e'){o:Expr}{m:Str}{r q:Pos}(j:Ck o=false)(c:Good X (Aa J fu d) o o')(p:(r.endLine==q.line)=true)(l:es.any isStar=false)(h:G3 T ce o' m r q es=some e'):Good X (Aa J fu d) (.Call (.Attribute o m r) es [] q) e':=by
 refine qE h (λf h=>?_) λh=>?_
 .subst f
  refine gx h λa a' i g e=>?_;subst i;subst e;exact .plain (λn=>aa2 (c.1 n) ((k _ _ g).1 n) (base_of j _) p (star_ne (ff l))) (λ_=>rfl) (λ_ _ _=>rfl) rfl
 refine qE h (λf h=>?_) λh=>?_
 .subst f
  refine gx h λa a' i g e=>?_;subst i;subst e;exact .plain (λn=>aav (c.1 n) ((k _ _ g).1 n) (base_of j _) p (star_ne (ff l))) (λ_=>rfl) (λ_ _ _=>rfl) rfl
 refine qE h (λf s=>?_) λh=>?_
 .subst f
  cases es with
  |nil=>
   cases s;exact .plain (λn=>acT (c.1 n) (base_of j _) p) (λ_=>rfl) (λ_ _ _=>rfl) rfl
  |cons b es=>
   refine gx s λa a' i g e=>?_;rw[i]at l ⊢;subst e;exact .plain (λn=>zh (c.1 n) ((k _ _ g).1 n) (base_of j _) p (star_ne (ff l))) (λ_=>rfl) (λ_ _ _=>rfl) rfl
 exact ky ok k j c h
include ok in
def aaa(a:∀e e',ce e=some e'->Good X (Aa J fu d) e e'){fn:Expr}(h:G4 T sc ce fn es kws pos=some e'):Good X (Aa J fu d) (.Call fn es kws pos) e':=by
 cases fn with
 |Name f p=>cases kws with
  |nil=>exact zq ok a h
  |cons k kws=>exact kc ok a h _ _
 |Attribute o m ap=>
  refine qI h λb h=>qB h λo' ho h=>?_;have b:=aE b;cases kws with
  |nil=>
   refine qI h λc h=>?_;rw[Yb]at c;exact acf ok a b (a _ _ ho) c.1 (aE c.2) h
  |cons k kws=>exact ky ok a b (a _ _ ho) h
 |_=>exact qN h
def aae(f:∀e e',ce e=some e'->Good X (Aa J fu d) e e'){a:List (Option Expr)}{vs:List Expr}(h:G6 ce a vs=some e'):Good X (Aa J fu d) (.Dict a vs pos) e':=by
 cases a with
 |nil=>
  refine qI h λb h=>?_;cases aU b;cases h;exact .plain (λn=>zE) (λ_=>rfl) (λ_ _ _=>rfl) rfl
 |cons c a=>
  exact qN h
include ok in
def gz(i:∀e e',ce e=some e'->Good X (Aa J fu d) e e'){j:Expr->Option E}{g:Comprehension}{q:List Nat×List (Tg×E×List E)}
  (a:∀{k:Cx},Zl T J d k (Bg scope sc) (ownOf (g::ZQ)++freeOf scope) ->∀e e',j e=some e'->Good k (Aa J fu d) e e') (h:Eu T sc ce N j g ZQ scope=some q) :
  ∃t Zp cs ZD Zq,q=(Zq,(t,Zp,cs)::ZD)/\Wu X scope (ownOf (g::ZQ)) (freeOf scope) Zq/\g.is_async=0/\(∀n,PI X g.target g.iter (tI X.K W0 (IL (IX (Aa J fu d) n) Zp)))/\(∀x,foldedSetIterable g.iter X.env x=pure x) /\
   ∀O s3 H3 fp,Zl T J d (Ag X O scope s3 H3 fp (ownOf (g::ZQ)++freeOf scope)) (Bg scope sc) (ownOf (g::ZQ)++freeOf scope)/\PG (Ag X O scope s3 H3 fp (ownOf (g::ZQ)++freeOf scope)) g.target (tG X.K t)/\(∀n,PTs (Ag X O scope s3 H3 fp (ownOf (g::ZQ)++freeOf scope)) g.ifs (Aw (IX (Aa J fu d) n).ts cs)) /\
    Bq (Ag X O scope s3 H3 fp (ownOf (g::ZQ)++freeOf scope)) (Aa J fu d) ZQ ZD:=by
 refine qI h λf h=>qB h λZp b h=>qB h λt l h=>qB h λcs m h=>qB h λZD o h=>qM h λZq p e=>?_;rw[Yb,V0]at f;have Z6:=wa ok f.1 p;refine⟨t,Zp,cs,ZD,Zq,e.symm,Z6,f.2,(bG ok i b).1,(bG ok i b).2,λO s3 H3 fp=>?_⟩;have c:=ok.comp (scope:=scope) Z6.nd O s3 H3 fp;exact⟨c,jl c (λ_=>y7) l,gG (a c) m,ko c (a c) o⟩
end
def aD:∀(m:Nat) {X:Cx} {sc:Scope} {N:List Str} (ok:Zl T J d X sc N) (e:Expr) (e':E),Al T sc N m e=some e'->Good X (Aa J fu d) e e'
 |0,_,_,_,_,_,_,h=>by cases h
 |m+1,X,sc,N,ok,e,e',h=>by
  have ih:=aD m ok;cases e with
  |Name x p=>exact yf ok h
  |Constant v k p=>exact yG h
  |BinOp a o b p=>
   refine qB h λo' ho h=>qB h λa' i h=>qM h λb' B e=>?_;subst e;exact .plain (λn=>x5 (aad ho) ((ih _ _ i).1 n) ((ih _ _ B).1 n)) (λ_=>rfl) (λ_ _ _=>rfl) rfl
  |Compare a os bs p=>exact aao ok ih h
  |BoolOp o es p=>exact yD ih h
  |UnaryOp o a p=>exact abu ih h
  |Tuple es k p=>
   refine qI h λhs h=>qM h λa' i e=>?_;subst e;exact .plain (λn=>acd (bw ih (aE hs) i n)) (λ_=>rfl) (λ_ _ _=>rfl) rfl
  |List es p=>
   refine qI h λhs h=>qM h λa' i e=>?_;subst e;exact .plain (λn=>ab7 (bw ih (aE hs) i n)) (λ_=>rfl) (λ_ _ _=>rfl) rfl
  |Subscript a s p=>exact zw ok.units ih h
  |Call fn es kws cp=>exact aaa ok ih h
  |Attribute o f p=>
   refine qB h λcs C h=>qB h λo' ho h=>qI h λl h=>?_;cases h;rw[Yb]at l;let⟨y,w⟩:=d8 l.1;exact .plain (λn=>abi ((ih _ _ ho).1 n) (base_of (aE l.2) _) w y (ok.hA.1 _ _ C)) (λ_=>rfl) (λ_ _ _=>rfl) rfl
  |Dict keys vs p=>exact aae ih h
  |ListComp elt gs scope p=>cases gs with
   |nil=>exact qN h
   |cons g ZQ=>
    refine qB h λq j h=>qM h λZj A e=>?_;subst e;let⟨t,Zp,cs,ZD,Zq,rfl,Z6,h1,h2,r,c⟩:=gz (fu:=fu) ok ih (λu=>aD m u) j;exact .plain (λn=>yH ok.calm Z6 h1 (h2 n) r λO s3 H3 fp=>⟨(c O s3 H3 fp).2.1,(c O s3 H3 fp).2.2.1,(c O s3 H3 fp).2.2.2,(aD m (c O s3 H3 fp).1 _ _ A).1⟩) (λ_=>rfl) (λ_ _ _=>rfl) rfl
  |DictComp G D gs scope p=>cases gs with
   |nil=>exact qN h
   |cons g ZQ=>
    refine qB h λq j h=>qB h λk' hk h=>qM h λF z e=>?_;subst e;let⟨t,Zp,cs,ZD,Zq,rfl,Z6,h1,h2,r,c⟩:=gz (fu:=fu) ok ih (λu=>aD m u) j;exact .plain (λn=>xY ok.calm (by have:=ok.units;lia) Z6 h1 (h2 n) r λO s3 H3 fp=>⟨(c O s3 H3 fp).2.1,(c O s3 H3 fp).2.2.1,(c O s3 H3 fp).2.2.2,(aD m (c O s3 H3 fp).1 _ _ hk).1,(aD m (c O s3 H3 fp).1 _ _ z).1⟩) (λ_=>rfl) (λ_ _ _=>rfl) rfl
  |_=>exact qN h
def u6(c:Zl T J d X sc N){a:Expr}{g:Comprehension}(h:Al T sc N (m+1) (.ListComp a (g::ZQ) scope pos)=some e'):
  ∃t Zp cs ZD Zj Zq,e'=.comp (ownOf (g::ZQ)).length Zq ((t,Zp,cs)::ZD) Zj/\Wu X scope (ownOf (g::ZQ)) (freeOf scope) Zq/\g.is_async=0/\(∀n,PI X g.target g.iter (tI X.K W0 (IL (IX (Aa J fu d) n) Zp)))/\(∀x,foldedSetIterable g.iter X.env x=pure x) /\
   ∀O s3 H3 fp,PG (Ag X O scope s3 H3 fp (ownOf (g::ZQ)++freeOf scope)) g.target (tG X.K t)/\(∀n,PTs (Ag X O scope s3 H3 fp (ownOf (g::ZQ)++freeOf scope)) g.ifs (Aw (IX (Aa J fu d) n).ts cs)) /\
    Bq (Ag X O scope s3 H3 fp (ownOf (g::ZQ)++freeOf scope)) (Aa J fu d) ZQ ZD /\∀n,PE (Ag X O scope s3 H3 fp (ownOf (g::ZQ)++freeOf scope)) a (tE X.K W0 ((IX (Aa J fu d) n).ev Zj)):=by
 refine qB h λq f h=>qM h λZj i e=>?_;let⟨t,Zp,cs,ZD,Zq,rfl,Z6,h1,h2,j,b⟩:=gz (fu:=fu) c (aD m c) (λk=>aD m k) f;exact⟨t,Zp,cs,ZD,Zj,Zq,e.symm,Z6,h1,h2,j,λO s3 H3 fp=>⟨(b O s3 H3 fp).2.1,(b O s3 H3 fp).2.2.1,(b O s3 H3 fp).2.2.2,(aD m (b O s3 H3 fp).1 _ _ i).1⟩⟩
end
section
variable{T:Tab}{J:List Fn}{fu:Nat}{sc:Scope}
def i0{t:Option Expr}{l:Nat}(h:B0 e=false):swapsWith e t l env=pure false:=by
 cases e<;>first|rfl|cases h
def ur{t:Expr}{l:Nat}(h:B0 e=false):swapsWithSole [t] e l env=pure false:=by
 cases e<;>first|rfl|cases h
def iE{k:Nat}{p:Pos}{l:Nat}:swapsWithSole [.Tuple ts k p] e l env=pure false:=by
 cases e<;>rfl
def bM{f:Stmt->Option Z6}(e:∀s s',f s=some s' ->∀n,PS X s (Zi X.K W0 (IS (IX (Aa J fu d) n) s'))):∀{ss:List Stmt} {a:List Z6},Ab (ss.map f)=some a ->∀n,PSs X ss (Zi X.K W0 ((IX (Aa J fu d) n).ex a))
 |[],_,h=>λn=>by
  cases h;cases n with
  |zero=>exact PSs.ZU λ_ _=>rfl
  |succ n=>exact abE (r:=IX (Aa J fu d) n)
 |s::ss,a,h=>λn=>by
  rw[YT]at h;cases c:f s with
  |none=>rw[c]at h;cases h
  |some s'=>
   rw[c]at h;simp![Ab]at h;cases b:Ab (ss.map f)with
   |none=>rw[b]at h;cases h
   |some r'=>
    rw[b]at h;cases h;cases n with
    |zero=>exact PSs.ZU λ_ _=>rfl
    |succ n=>exact aac (e s s' c n) (bM e b n)
def uM{c i:Pos}{a b:Expr}{d e:Nat}(g:foldedForSure 8 a=true)(f:foldedForSure 8 b=true):swappedStores [.Tuple ts d c] (.Tuple [a,b] e i) env=pure none:=by
 have h:[a,b].all (foldedForSure 8)=true:=by simp[g,f]
 unfold swappedStores;simp![h,Uc];split
 .rfl
 .split
  .rfl
  .split<;>rfl
def vg{y:Str}{c e g w:Pos}{a b:Expr}{i o:Nat}(k:Zl T J d X sc N)(q:X.env.blockKind=.function)(h:Ct sc x y c e a b=true):
  swappedStores [.Tuple [.Name x c,.Name y e] i g] (.Tuple [a,b] o w) X.env=pure (some [x,y]):=by
 unfold Ct at h;simp![Yb,W9,V0]at h;let⟨⟨⟨⟨⟨⟨⟨h1,h2⟩,v⟩,l⟩,u⟩,t⟩,s⟩,r⟩:=h;have n:X.env.kindOf x=some .local:=by show X.env.scope.names.lookup x=_;rw[k.Xa];exact h1
 have m:X.env.kindOf y=some .local:=by show X.env.scope.names.lookup y=_;rw[k.Xa];exact h2
 have nd:[x,y].eraseDups.length=2:=by
  have : ¬ (y==x)=true:=by intro z;rw[V0]at z;subst z;simp at v
  simp[List.eraseDups_cons,this]
 have A:([.Tuple [.Name x c,.Name y e] i g]:List Expr)=[.Tuple [.Name x c,.Name y e] i g]:=rfl;unfold swappedStores;simp[q,n,m,l,nd,s,r];have j:∀z:Expr,isStar z=false -> ¬ ((match z with|.Starred value pos=>true|x=>false)=true):=λz p=>by cases z<;>first|exact GA|cases p
 rw[Yj (λz=>z.elim (j a u) (j b t))];have f:(Expr.Name x c).pos=c:=rfl;rw[f];simp![VJ,List.filterMap_nil,n,m,l,true_and,and_self,Uc];simp[nd]
def vc{o i:Expr}{Xc:Pos}(h:Co i=false)(v:Value):assign (.Subscript o i Xc) env v=(do
   let ov<-holding [v] (eval o env)
   let iv<-holding [v,ov] (eval i env)
   standAt Xc
   holding [v,ov,iv] (setItem ov iv v)
   release [v,ov,iv] []):=by
 cases i<;>first|rfl|cases h
def j3{l:List α}{p:α×α}(h:DU l=some p):l=[p.1,p.2]:=by
 cases l with
 |nil=>cases h
 |cons a l=>cases l with
  |nil=>cases h
  |cons b l=>cases l with
   |nil=>cases h;rfl
   |cons _ _=>cases h
def gO{x:Str×Pos}(h:G7 e=some x):e = .Name x.1 x.2:=by
 cases e with
 |Name y p=>cases h;rfl
 |_=>cases h
def z5{q:List Expr×Nat×Pos}(h:G8 e=some q):e = .Tuple q.1 q.2.1 q.2.2:=by
 cases e with
 |Tuple es k p=>cases h;rfl
 |_=>cases h
section
variable{cE:Expr->Option E}
def vD(b:Zl T J d X sc N)(B:X.env.blockKind=.function)(F:∀x,X.fn x=true)(g:∀e e',cE e=some e'->Good X (Aa J fu d) e e'){o:Nat}{l:Pos}{e:Expr}{r:Z6}(h:CN T sc N cE ts o l e=some r)(n:Nat):PS X (.Assign [.Tuple ts o l] e pos) (Zi X.K W0 (IS (IX (Aa J fu d) n) r)):=by
 refine qB h λq A h=>qB h λt c h=>qB h λx z h=>qB h λy w h=>qB h λa D h=>?_;cases z5 A;cases j3 c;rw[gO z,gO w]at h ⊢;rw[j3 D]at h ⊢;cases hp:Ct sc x.1 y.1 x.2 y.2 a.1 a.2 with
 |true=>
  rw[hp]at h;refine qB h λi hi h=>qB h λj p h=>qB h λa' h1 h=>qM h λb' h2 e=>?_;subst e;have k:=hp;unfold Ct at k;simp![Yb,W9,V0]at k;let⟨⟨⟨⟨⟨⟨⟨v,p2⟩,m⟩,I⟩,u⟩,s⟩,H⟩,G⟩:=k;refine acV b.calm b.T4 (by rw[b.hN];exact ixOf_get hi) (by rw[b.hN];exact ixOf_get p) ?_ (by rw[b.Xa];exact v) (by rw[b.Xa];exact p2) ((g _ _ h1).1 n) ((g _ _ h2).1 n) (star_ne u) (star_ne s) (vg b B hp)
  intro E;subst E;have:=(ixOf_get hi).symm.trans (ixOf_get p);rw[WE this]at m;simp at m
 |false=>
  rw[hp]at h;refine qI h λf h=>qB h λt c h=>qM h λe' C e=>?_;subst e;rw[Yb]at f;exact nZ ((g _ _ C).1 n) (dU b (λ_=>F) c) iE (uM f.1 f.2) rfl
end
def wM(a:Zl T J d X sc N)(y:X.env.blockKind=.function)(A:∀x,X.fn x=true){x:Str}{c:Pos}{r:Z6}(h:Fu sc N (Al T sc N m) x c e=some r)(n:Nat):PS X (.Assign [.Name x c] e pos) (Zi X.K W0 (IS (IX (Aa J fu d) n) r)):=by
 refine qI h λf h=>qB h λi hi h=>qM h λe' o e=>?_;subst e;let⟨h1,h2,D⟩:=x8 hi;have plain:B0 e=false->PS X (.Assign [.Name x c] e pos) (Zi X.K W0 (IS (IX (Aa J fu d) n) (.set (.nm i) e'))):=λf=>ab9 a.T4 (by rw[a.hN];exact h1) (a.Sr h2) (.inl (A _)) ((aD m a _ _ o).1 n) (i0 f)
 cases e with
 |ListComp elt gs scope p=>cases gs with
  |nil=>cases f
  |cons g ZQ=>
   have q:Et sc x c scope p=true:=f;cases m with
   |zero=>cases o
   |succ m=>
    let⟨t,Zp,cs,ZD,Zj,Zq,rfl,C,z,j,B,b⟩:=u6 a o;unfold Et at q;rw[Yb,Yb,V0,V0]at q;let⟨⟨w,v⟩,u⟩:=q;have s:X.env.scope.names.lookup x=some .local:=by rw[a.Xa];exact w
    have l:X.env.kindOf x=some .local:=s;cases n with
    |zero=>exact PS.ZU λ_ _=>rfl
    |succ n=>
     refine vP a.calm C z (j n) B b a.T4 (by rw[a.hN];exact h1) s ?_
     show(pure (X.env.blockKind==.function&&X.env.kindOf x==some .local&&c.line==p.line&&!(scope.names.any λ(n,k)=>n==x&&(k==.local||k==.cell))):Sem Bool)=pure true;rw[y,l,v,u];simp
 |_=>exact plain (aE f)
def vH(c:Zl T J d X sc N)(q:X.env.blockKind=.function)(l:∀x,X.fn x=true){t:Expr}{j:Z6}(h:Fm T sc N (Al T sc N m) t e=some j)(n:Nat):PS X (.Assign [t] e pos) (Zi X.K W0 (IS (IX (Aa J fu d) n) j)):=by
 have b:=aD (fu:=fu) m c;cases t with
 |Name x A=>exact wM c q l h n
 |Tuple ts k p=>
  cases a:CT e with
  |true=>
   have h:(match CT e with|true=>CN T sc N (Al T sc N m) ts k p e|false=>(Bj true sc N (.Tuple ts k p)).bind λt=>(Al T sc N m e).map (Z6.set t))=some j:=h
   rw[a]at h;exact vD c q l b h n
  |false=>
   have h:(match CT e with|true=>CN T sc N (Al T sc N m) ts k p e|false=>(Bj true sc N (.Tuple ts k p)).bind λt=>(Al T sc N m e).map (Z6.set t))=some j:=h
   rw[a]at h;refine qB h λt v h=>qM h λe' g y=>?_;subst y;refine nZ ((b _ _ g).1 n) (dU c (λ_=>l) v) iE ?_ rfl;revert a;cases e<;>first|exactλ_=>rfl|exactλh2=>nomatch h2
 |Subscript o i p=>
  refine qI h λa h=>qB h λo' ho h=>qB h λB hi h=>qM h λe' g e=>?_;subst e;rw[Yb]at a;exact acC (by have:=c.units;lia) ((b _ _ g).1 n) ((b _ _ ho).1 n) ((b _ _ hi).1 n) (ur (aE a.2)) rfl (vc (aE a.1))
 |Attribute o f p=>
  refine qB h λx u h=>qB h λcs z h=>qB h λo' ho h=>qB h λe' g h=>qI h λw h=>?_;cases h;cases gO u;let⟨s,r⟩:=d8 w;exact zz ((b _ _ ho).1 n) ((b _ _ g).1 n) (by unfold swapsWith;cases e<;>rfl) r s (c.hA.1 _ _ z)
 |_=>exact qN h
def jW(f:Zl T J d X sc N)(u:X.env.blockKind=.function)(s:∀x,X.fn x=true):∀m st q,BB T sc N m st=some q ->∀n,PS X st (Zi X.K W0 (IS (IX (Aa J fu d) n) q))
 |0,_,_,h=>by cases h
 |m+1,st,q,h=>λn=>by
  have ih:=jW f u s m;have g:=aD (fu:=fu) m f;cases st with
  |Return o p=>cases o with
   |none=>exact qN h
   |some e=>exact qM h λa' l e=>by subst e;exact abH ((g _ _ l).1 n)
  |Assign ts e p=>cases ts with
   |nil=>exact qN h
   |cons t r=>
    refine qI h λi h=>?_;cases aU i;exact vH f u s h n
  |Expr e p=>exact qI h λj h=>qM h λa' l e=>by subst e;exact acA ((g _ _ l).1 n) (i0 (aE j))
  |If c a b p=>exact qB h λc' j h=>qB h λa' l h=>qM h λb' k e=>by subst e;exact ac6 ((g _ _ j).2.1 n) (bM ih l n) (bM ih k n)
  |While c b o p=>
   refine qI h λi h=>qB h λc' j h=>qM h λb' k e=>?_;subst e;cases aU i;exact abZ f.own (λn=>(g _ _ j).2.1 n) (λn=>bM ih k n)
  |For tg it b o p=>
   refine qI h λi h=>qB h λt v h=>qB h λZp hi h=>qM h λb' k e=>?_;subst e;cases aU i;exact aaR f.own f.calm ((bG f g hi).1 n) (dU f (λ_=>s) v) (λn=>bM ih k n) (bG (fu:=fu) f g hi).2
  |Raise a b p=>cases h;exact PS.ZU λ_ _=>rfl
  |_=>exact qN h
end
set_option genInjectivity false in
structure FI where
 x:Str
 st:Stmt
 N:List Str
 ps:List Str
 cm:Option (Str×Str)
 kf:Option (KF×Nat)
structure S0(K:GJ)(x qual:Str)(st:Stmt)(f:Addr)(fd:FuncData):Prop where
 ex:∃(Jt:Value) (od:Option Addr) (dV Hl doc pm:Value) (an:Option Addr) (YA ct:Value) (VU:Array (Option Value)),
  fd=PySem.W.fnOf x qual (Cm st) (Cn st) (Bf st) dV Hl doc pm an YA ct/\K.lookup f=some ⟨Jt,od,.func fd,VU⟩/\PySem.W.codeIn K YA qual=true
 kp:PySem.W.keepIn K (.ref f)=true
noncomputable def FI.nm(fi:FI):Str:=match fi.cm with|none=>fi.x|some c=>c.2
noncomputable def FI.tn(fi:FI):Str:=if fi.cm.isSome||fi.kf.isSome then "__debug__" else fi.x
def FAt(K:GJ)(a:Str->Option Value)(fi:FI)(f:Addr):Prop:=match fi.cm with
 |none=>a fi.x=some (.ref f)
 |some c=>∃C,a c.1=some (.ref C)/\PySem.W.nsIn K mainGlobals c.1=some (some (.ref C))/\Yh K C/\UM K C c.2 f/\(c.2 = "__init__" -> Mk K C f)
structure FOk(T:Tab)(K:GJ)(mg:Str->Option Value)(fi:FI)(F:Fn):Prop where
 sc:TM fi.N fi.ps (Bf fi.st)
 np:F.np=fi.ps.length
 ns:F.ns=fi.N.length
 body:∃m,Ab ((Cn fi.st).map (BB T (Bf fi.st) fi.N m))=some F.body
 obj:∃f fd,FAt K mg fi f/\S0 K fi.nm fi.x fi.st f fd/\(fi.kf=none->Binds K fd fi.ps []) /\∀F nd,fi.kf=some (F,nd)->fi.ps=F.ns++F.ks/\F.ns++F.ks≠[] /\∃Zo dd,Xd K fd F nd Zo dd
def AllOk(T:Tab)(K:GJ)(a:Str->Option Value):List FI->List Fn->Prop
 |[],[]=>True
 |fi::r,F::s=>FOk T K a fi F/\AllOk T K a r s
 |_,_=>False
section
variable{T:Tab}
def AllOk.get:∀{a:List FI} {J:List Fn} {i:Nat} {fi:FI},AllOk T K mg a J->a[i]?=some fi ->∃F,J[i]?=some F/\FOk T K mg fi F
 |[],_,_,_,_,e=>by simp at e
 |_::_,[],_,_,h,_=>False.elim h
 |_::_,F::_,0,_,h,e=>by simp at e;subst e;exact⟨F,rfl,h.1⟩
 |_::r,_::s,i+1,fi,h,e=>by
  let⟨F,c,b⟩:=AllOk.get (i:=i) (fi:=fi) h.2 (by simpa using e)
  exact⟨F,by simpa using c,b⟩
structure So(T:Tab)(K:GJ)(mg:Str->Option Value)(YW:List FI)(J:List Fn):Prop where
 names:T.J=YW.map FI.tn
 all:AllOk T K mg YW J
 cs:∀x u,T.cs.lookup x=some u ->∃v val,mg x=some val/\RelV v val /\∀ρ H,RV K ρ H u v
 bt:∀x∈T.bt,mg x=none
 kfs:∀(y:Str) (i:Nat) (F:KF) (nd:Nat),T.kf.lookup y=some (i,F,nd) ->∃fi,YW[i]?=some fi/\fi.x=y/\fi.cm=none/\fi.kf=some (F,nd)
 cls:∀(y:Str) (c i:Nat) (F:KF) (nd:Nat),T.cl.lookup y=some (c,i,F,nd)->Ao c=y /\∃fi,YW[i]?=some fi/\fi.cm=some (y,("__init__" : Str))/\fi.kf=some (F,nd)
 mts:∀(m:Str) (l:List (Nat×Nat×KF×Nat)),T.mt.lookup m=some l ->∀c i F nd,(c,i,F,nd)∈l ->∃fi,YW[i]?=some fi/\fi.cm=some (Ao c,m)/\fi.kf=some (F,nd)
 fls:(∀(f:Str) (cs:List Nat),T.fl.lookup f=some cs->CD K f cs) /\∀p∈T.ow,∃C,mg p.1=some (.ref C)/\PySem.W.nsIn K mainGlobals (Ao p.2)=some (some (.ref C))/\Yh K C/\S3 K C
def xD(hn:n=N.length)(h:RVs K ρ H S vs)(hl:S.length<=N.length):RS K ρ H (S.map some++List.replicate (n-S.length) none) (L2.start N vs) where
 len:=by unfold L2.start;simp[h.length,hn]
 val:=λi u e=>by
  subst hn;unfold L2.start;by_cases hi:i<S.length
  .rw [XM (by simpa using hi),Wh]at e
   rw[XM (by rw[Zz,<-h.length];exact hi),Wh]
   cases eu:S[i]? with
   |none=>rw[eu]at e;cases e
   |some w=>
    rw[eu]at e;cases e;let⟨v,e1,e2⟩:=h.get eu;exact⟨v,by rw[e1];rfl,e2⟩
  .rw [Wc (by simpa using hi),RB]at e
   split at e<;>cases e
def abb(h:env.scope.kind=.function):env.blockKind=.function:=by
 unfold Env.blockKind;rw[h]
 rfl
def yF{W:XQ}{o:Out Fl}{Q:VK}(p:post K W (RV K) (o.bind λf g=>match f with|.rt u=>.ok u g|.nx _=>.ok .ZL g|_=>.ZU) ρ H Q):IY K W o ρ H {nx:=λ_ H'=>Q .ZL H',rt:=Q}:=by
 revert p;cases o with
 |ok fl g1=>
  cases fl with
  |nx a=>exactλp Y ZN H' s h hs=>p .ZL ZN H' s h rfl
  |rt u=>exactλp=>p
  |bk a=>exactλp=>p.elim
  |ct a=>exactλp=>p.elim
 |exc c fs g1=>exactλp=>p
 |ZU=>exactλp=>p
def m9{X:List FI}{J:List Fn}(G:So T K mg X J):∀(d i:Nat) (fi:FI),X[i]?=some fi ->∀f fd,S0 K fi.nm fi.x fi.st f fd->YE P w K mg base XA (2*d+2) f fd fi.ps (WO K J d i fi.ps.length)
 |0,i,fi,_,f,fd,_=>⟨λvs H Q E ⟨_,ρ,g,S,_,_,_,p⟩=>p.elim,λA n s H args S vs Q E _ _ _ _ ⟨_,ρ,g,S,_,_,_,p⟩=>p.elim⟩
 |d+1,i,fi,hi,f,fd,F=>by
  let⟨Fi,ei,Z9⟩:=G.all.get hi;let⟨m,hb⟩:=Z9.body;have Yl:fi.ps.length<=fi.N.length:=by have:=TZ List.length Z9.sc.pre;rw[WV]at this;lia
  have b:∀j a,X[j]?=some a ->∃f fd,FAt K mg a f/\PySem.W.keepIn K (.ref f)=true/\(a.kf=none->Binds K fd a.ps [])/\(∀F nd,a.kf=some (F,nd)->a.ps=F.ns++F.ks/\F.ns++F.ks≠[] /\∃Zo dd,Xd K fd F nd Zo dd)/\YE P w K mg base XA (2*d+2) f fd a.ps (WO K J d j a.ps.length) /\∀F,J[j]?=some F->F.np=a.ps.length:=λj a q=>by
   let⟨Fj,ej',Oj⟩:=G.all.get q;let⟨f',r,m1,z,I,v⟩:=Oj.obj;exact⟨f',r,m1,z.kp,I,v,m9 G d j a q f' r z,λL e=>by rw[ej']at e;cases e;exact Oj.np⟩
  have RQ:∀j x,T.J[j]?=some x->(x==("__debug__" : Str))=false ->∃f fd a,FI.x a=x/\mg x=some (.ref f)/\PySem.W.keepIn K (.ref f)=true/\Binds K fd a.ps []/\YE P w K mg base XA (2*d+2) f fd a.ps (WO K J d j a.ps.length) /\∀F,J[j]?=some F->F.np=a.ps.length:=λj x o Y=>by
   rw[G.names,Wh]at o;cases q:X[j]? with
   |none=>rw[q]at o;cases o
   |some a=>
    rw[q]at o;have o:a.tn=x:=by simpa using o
    unfold FI.tn at o;let⟨f',r,m1,z,I,v,t,D⟩:=b j a q;cases u:a.cm with
    |some c=>rw[u]at o;subst o;cases Y
    |none=>
     cases hk:a.kf with
     |some c=>rw[u,hk]at o;subst o;cases Y
     |none=>
      rw[u,hk]at o;have o:a.x=x:=o;subst o;have U2:mg a.x=some (.ref f'):=by unfold FAt at m1;rw[u]at m1;exact m1
      exact⟨f',r,a,rfl,U2,z,I hk,t,D⟩
  have Z:∀(CX:XN) V A n s H E,Y8 (2*d+3) (A.deeper (envOfC fi.x (Bf fi.st) s.heap.objs.size f V))->Zl T J d (Ce CX P w K mg base fi.N fi.x (Bf fi.st) f V A n s H E).nox (Bf fi.st) fi.N:=λCX V A n s H E hr=>by
   refine⟨λj x o Y=>?_,G.cs,G.bt,λy j F nd hy=>?_,λy c j F nd hy=>?_,λmm l M c j F nd Yz=>?_,G.fls,hr,rfl,rfl,Z9.sc.nd,rfl,rfl⟩
   .obtain ⟨f',r,a,_,a1,a2,a3,a4,a5⟩:=RQ j x o Y
    exact⟨f',r,a.ps,a1,a2,a3,a4,a5⟩
   .obtain ⟨a,q,rfl,u,hk⟩:=G.kfs y j F nd hy
    let⟨f',r,m1,z,I,v,t,D⟩:=b j a q;let⟨B,U,Zo,dd,R⟩:=v F nd hk;have U2:mg a.x=some (.ref f'):=by unfold FAt at m1;rw[u]at m1;exact m1
    rw[B]at t;exact⟨f',r,Zo,dd,U2,z,R,U,t,λL e=>by rw[D L e,B]⟩
   .obtain ⟨hn,a,q,u,hk⟩:=G.cls y c j F nd hy
    let⟨f',r,m1,z,I,v,t,D⟩:=b j a q;let⟨B,U,Zo,dd,R⟩:=v F nd hk;unfold FAt at m1;rw[u]at m1;let⟨C,c1,c2,c3,c4,c5⟩:=m1;rw[B]at t;exact⟨C,f',r,Zo,dd,c1,c5 rfl,by rw[hn];exact c2,R,U,t,λL e=>by rw[D L e,B]⟩
   .obtain ⟨a,q,u,hk⟩:=G.mts mm l M c j F nd Yz
    let⟨f',r,m1,z,I,v,t,D⟩:=b j a q;let⟨B,U,Zo,dd,R⟩:=v F nd hk;unfold FAt at m1;rw[u]at m1;let⟨C,c1,c2,c3,c4,c5⟩:=m1;rw[B]at t;exact⟨C,f',r,Zo,dd,c2,c3,c4,R,U,t,λL e=>by rw[D L e,B]⟩
  have O:YE P w K mg base XA (2*(d+1)+2) f fd fi.ps (WO K J (d+1) i fi.ps.length):=by
   let⟨Jt,od,dV,Hl,doc,pm,an,V,ct,VU,rfl,lk,W4⟩:=F.ex;refine adf (k:=2*d+3) lk W4 Z9.sc (λvs H Q E ⟨_,ρ,g,S,_,rs,M,_⟩=>by rw[<-rs.length];exact M) λA n s H vs Q E hr h=>?_
   let⟨fu,ρ,g,S,hg,rs,M,p⟩:=h;simp![Aa,ei,BG]at p;rw[YC (by rw[M,Z9.np])]at p
   refine⟨Zi K W0 ((IX (Aa J fu d) fu).ex Fi.body),PSs.nox ?_,_,ρ,g,xD Z9.ns rs (by lia),hg,yF p⟩
   exact bM (jW (Z XA V A n s H E hr) (abb Z9.sc.kind) (λ_=>rfl) m) hb fu
  exact O
def acL{xs:List V}(b:C7 H)(h:SqL K H a xs):SqF K H a xs:=by
 rcases h with(h|h)|h
 .rcases b a with z|⟨o,ys,z⟩
  .rw [h]at z;cases z
  .rw [h]at z;cases z
 .exact .inl h
 .exact .inr h
def kJ{ρ:List Addr}{H:Hp}:∀ns:List Int,RVs K ρ H (ns.map U.int) (ns.map V.int)
 |[]=>rfl
 |n::ns=>⟨.int n,ns.map V.int,rfl,rfl,kJ ns⟩
def aa5{J:List Fn}{E:XK}(c:C7 H)(b:SqL K H a (ns.map V.int)){fu:Nat}(h:Aa J fu d i [.Zv (ns.map U.int)] []=.ok (.bl true) g'):
  WO K J d i 1 [.ref a] H (λv _=>v=.bl true) E:=by
 refine⟨fu,[],[],[.Zv (ns.map U.int)],⟨rfl,λi j a e=>by simp at e,λn a o e=>by simp at e⟩,⟨_,_,rfl,⟨a,_,rfl,acL c b,kJ ns⟩,rfl⟩,rfl,?_⟩
 rw[h];exactλv ZN H' _ _ r=>r
end
open PySem PySem.Spec PyProof.Rows L2 PySem.W
def jS{b c:Type}{f g:b->Option c}:∀{l:List b},(∀x∈l,f x=g x)->l.filterMap f=l.filterMap g
 |[],_=>rfl
 |a::l,h=>by rw[VJ,VJ,h a (.head _),jS λx d=>h x (.tail _ d)]
def vE:∀{ps:List Str} {S:List α},ps.Nodup->S.length=ps.length->(ps.filterMap λn=>((ps.zip S).lookup n).map (n,·))=ps.zip S:=by
 intro ps
 induction ps with
 |nil=>intro S _ _;cases S<;>rfl
 |cons p ps ih=>
  intro S nd a;cases S with
  |nil=>simp at a
  |cons u S=>
   have c:p ∉ ps:=(Rr.mp nd).1;rw[VJ];simp![Rm,WM,RG,Vg];congr 1;refine(jS λx b=>?_).trans (ih (Rr.mp nd).2 (by simpa using a))
   have:(x==p)=false:=by
    rw[Rf];rintro rfl;exact c b
   simp![this]
def lW{b:Type}:∀{ps:List Str} {S:List b},S.length=ps.length ->∀x∈ps,((ps.zip S).lookup x).isNone=false
 |[],_,_,x,a=>by simp at a
 |p::ps,[],hl,_,_=>by simp at hl
 |p::ps,u::S,hl,x,a=>by
  simp![Rm,WM];cases e:x==p with
  |true=>rfl
  |false=>
   rcases X5.mp a with rfl|h
   .simp at e
   .exact lW (by simpa using hl) x h
def vn{S:List Value}(k:fd.params.posonlyargs=[])(j:fd.params.args.map (·.arg)=ps)(i:fd.params.vararg=none)(h:fd.params.kwonlyargs=[])(g:fd.params.kwarg=none)
  (f:fd.defaults=.none) (b:ps.Nodup) (a:S.length=ps.length):bindArgs fd ⟨S,[]⟩=pure (ps.zip S):=by
 unfold bindArgs;have e:(List.filter (λn=>((ps.zip S).lookup n).isNone) ps)=[]:=by
  rw[Qa];intro x c;rw[lW a x c];decide
 have l:=vE b a;have hs:seqItems? Value.none=pure none:=rfl;have d : ¬ S.length > ps.length:=by lia
 simp![k,j,i,h,g,f,QK,SR,U9,List.forIn_nil,pure_bind,hs,PZ,List.length_nil,Nat.zero_sub,List.drop_nil,Oe,Qr,e,List.drop_length,List.zip_nil_right,List.isEmpty_nil,Bool.not_true,XH,W6,WY d,QJ,l]
def l7{b:Addr}{o:Obj}:∀{l:List Obj} {n:Nat},(Ca n l).lookup b=some o->n<=b/\l[b-n]?=some o/\o.data ≠ .freed
 |[],_,e=>by cases e
 |x::l,n,e=>by
  have ZQ:(Ca (n+1) l).lookup b=some o->n<=b/\(x::l)[b-n]?=some o/\o.data ≠ .freed:=λe=>by
   let⟨h1,h2,c⟩:=l7 e;let⟨k,rfl⟩:=Nat.exists_eq_add_of_le h1;rw[P_]at h2;refine⟨Gz (VC n) h1,?_,c⟩;rw[show n+1+k-n=k+1 by lia,QG]
   exact h2
  unfold Ca at e;split at e
  .exact ZQ e
  .rename_i a
   rw[WM]at e;split at e
   .rename_i z
    cases e;have:=eq_of_beq z;subst this;exact⟨GB _,by rw[Nat.sub_self];rfl,a⟩
   .exact ZQ e
def y9(h:Heap):(AX h).In h:=λb o e=>by
 let⟨_,h2,a⟩:=l7 e;rw[Oe,WN]at h2;unfold Heap.get?;rw[h2];split
 .rename_i q;cases q;exact absurd rfl a
 .rfl
def x9{i:Scope}(h:DF N ps i=true):TM N ps i:=by
 simp![DF,Yb,W9,Xq,Wy,TL]at h;let⟨⟨⟨⟨⟨⟨a,b⟩,c⟩,d⟩,e⟩,f⟩,g⟩:=h;exact⟨a,b,c,d,e,f,g⟩
def BY(fd:FuncData)(b:List Stmt):Stmt:=.FunctionDef fd.name fd.params b [] none [] fd.scope none fd.name ⟨0,0,0,0⟩
def mJ{v:Value}(h:Ek v=true):v=.none:=by cases v<;>first|rfl|cases h
def I9:U->V
 |.int i=>.int i
 |.bl b=>.bl b
 |.str s=>.str s
 |_=>.ZL
def qm{K:Frag}{a:Value}(h:D4 u a=true):RelV (I9 u) a /\∀ρ H,RV K ρ H u (I9 u):=by
 cases u with
 |int i=>cases a with
  |int j _=>cases GI h;exact⟨⟨_,rfl⟩,λ_ _=>rfl⟩
  |_=>cases h
 |ZL=>cases mJ h;exact⟨rfl,λ_ _=>rfl⟩
 |bl b=>cases a with
  |bool c=>cases eq_of_beq h;exact⟨rfl,λ_ _=>rfl⟩
  |_=>cases h
 |str s=>cases a with
  |str t _=>cases GI h;exact⟨⟨_,rfl⟩,λ_ _=>rfl⟩
  |_=>cases h
 |_=>cases h
def mq{K:Frag}:∀{S:List U} {e:List Value},Cs S e=true->ZH (S.map I9) e /\∀ρ H,RVs K ρ H S (S.map I9)
 |[],[],_=>⟨.nil,λ_ _=>rfl⟩
 |[],_::_,h=>by cases h
 |_::_,[],h=>by cases h
 |u::S,v::vs,h=>by
  rw[Cs,Yb]at h;let⟨a,b⟩:=qm (K:=K) h.1;let⟨c,d⟩:=mq (K:=K) h.2;exact⟨.cons a c,λρ H=>⟨_,_,rfl,b ρ H,d ρ H⟩⟩
def aag{K:Frag}{f:Value}(h:Hb K u f=true):∃v,RelV v f /\∀ρ H,RV K ρ H u v:=by
 cases u with
 |xn c S=>cases f with
  |ref a=>
   have h:D9 K S (.ref a)=true:=h;simp![D9]at h;cases ho:K.lookup a with
   |none=>rw[ho]at h;cases h
   |some o=>
    rw[ho]at h;have h:(decide (o.cls=.type "tuple")&&Ha S o.data)=true:=h;rw[Yb,Xq]at h;let⟨cl,r,d,k⟩:=o;let⟨h1,h⟩:=h;cases(show cl=.type "tuple" from h1);cases d with
    |seq ZV n=>
     have h:(decide (ZV.size<=1000)&&Cs S ZV.toList)=true:=h;rw[Yb,Xq]at h;let⟨j,g⟩:=mq (K:=K) h.2;exact⟨.ref _,rfl,λρ H=>⟨_,_,rfl,⟨_,ZV,n,ho,rfl,rfl,Gz h.1 #[1],j⟩,g ρ H⟩⟩
    |_=>cases h
  |_=>cases h
 |_=>cases h
def lR{K:Frag}{c:Value}(e:Dp K u c=true):∃v,RelV v c /\∀ρ H,RV K ρ H u v:=by
 unfold Dp at e;rw[TL]at e;rcases e with e|e
 .obtain ⟨a,b⟩:=qm (K:=K) e;exact⟨_,a,b⟩
 .exact aag e
def lH{K:Frag}:∀{ns:List Str} {dd:List (Str×U)} {e:List Value},dd.map (·.1)=ns->CY K (dd.map (·.2)) e=true ->∃Zo,F2 (PR RelV) Zo (ns.zip e)/\F2 (PR λu v=>∀ρ H,RV K ρ H u v) dd Zo
 |_,[],[],h,_=>by subst h;exact⟨[],.nil,.nil⟩
 |_,[],_::_,_,h=>by cases h
 |_,_::_,[],_,h=>by cases h
 |_,(n,u)::dd,v::vs,h,q=>by
  subst h;rw[YT,CY,Yb]at q;let⟨w,a,b⟩:=lR q.1;let⟨Zo,c,d⟩:=lH (dd:=dd) rfl q.2;exact⟨(n,w)::Zo,.cons ⟨rfl,a⟩ c,.cons ⟨rfl,b⟩ d⟩
def adB{K:Frag}{v:Value}{d:List Value}(h:D6 K v=some d)(Z5:Model)(c:Heap)(X:K.In c):∃a:Option (Array Value),(a.getD #[]).toList=d/\Looks Z5 c (seqItems? v) a:=by
 unfold D6 at h;split at h
 .cases h;exact⟨none,rfl,.of_pure rfl⟩
 .split at h
  .rename_i ZV _ _ ho
   cases h;exact⟨some ZV,rfl,λA Q E s k q=>Ot (k _ _ (X _ _ ho)) rfl q⟩
  .cases h
 .cases h
def adO{K:Frag}{v:Value}{n:Str}{u:Value}(h:BH K v n=some u):∃d,v=.ref d/\nsIn K d n=some (some u):=by
 unfold BH at h;split at h
 .split at h
  .rename_i q;cases h;exact⟨_,rfl,q⟩
  .cases h
 .cases h
def kg{f e:Type}:∀{l d:List f} {m c:List e},l.length=m.length->(l++d).zip (m++c)=l.zip m++d.zip c
 |[],_,[],_,_=>rfl
 |[],_,_::_,_,h=>by simp at h
 |_::_,_,[],_,h=>by simp at h
 |a::l,d,b::m,c,h=>by simp[kg (l:=l) (m:=m) (by simpa using h)]
def adJ{K:Frag}{F:KF}{d:Nat}(h:Hc K fd F d=true):∃Zo dd,Xd K fd F d Zo dd:=by
 simp![Hc,Yb,Xq,RJ,PJ,Wy]at h;let⟨⟨⟨⟨⟨⟨⟨⟨o,p2⟩,m⟩,k⟩,j⟩,i⟩,g⟩,f⟩,b⟩:=h;split at b
 .rename_i t s
  rw[Yb,Xq]at b;let⟨l1,q⟩:=b;let⟨Zo,c,r⟩:=lH (K:=K) f q;refine⟨Zo,_,o,p2,m,k,j,⟨t,λn=>(BH K fd.kwdefaults n).getD .none,λZ5 h X=>adB s Z5 h X,l1,i,λn p=>?_,rfl⟩,?_,r⟩
  .have:=g n p
   cases e:BH K fd.kwdefaults n with
   |none=>rw[e]at this;cases this
   |some u=>exact adO (by show _=some (Option.getD _ _);rw[e];rfl)
  .rw [kg (by rw[Vw,l1];omega)]at c
   have:F.ks.zip (F.ks.map λn=>(BH K fd.kwdefaults n).getD .none)=F.ks.map λn=>(n,(BH K fd.kwdefaults n).getD .none):=by
    generalize F.ks=l
    induction l with
    |nil=>rfl
    |cons a l ih=>simp[ih]
   rw[this]at c;exact c
 .cases b
def adz{K:Frag}(X:K.In h)(G:h.Ns mainGlobals mg)(e:Hd K (x,u)=true):∃v c,mg x=some c/\RelV v c /\∀ρ H,RV K ρ H u v:=by
 unfold Hd at e;split at e
 .rename_i c d
  have f:mg x=some c:=mg_of X G d;let⟨v,a,b⟩:=lR e;exact⟨v,c,f,a,b⟩
 .cases e
def hX{K:Frag}{C:Addr}(h:CH K C=true):Yh K C:=by
 simp![CH,Yb,V0]at h;let⟨⟨⟨a,b⟩,c⟩,d⟩:=h;exact⟨a,b,c,d⟩
def B3(T:Tab)(K:Frag)(i:Inf):Option Fn:=mkF T (i,BF K i)
def xg{T:Tab}{i:Inf}{o:Option (Scope×List Stmt)}{F:Fn}(h:mkF T (i,o)=some F):∃r,o=some r/\(Ab (r.2.map (BB T r.1 i.N 60))).map (λb'=>(⟨i.ps.length,i.N.length,b'⟩:Fn))=some F:=by
 cases o with
 |none=>cases h
 |some r=>exact⟨r,rfl,h⟩
def nq{K:Frag}(X:K.In h)(G:h.Ns mainGlobals mg){i:Inf}{fi:FI}(k:fi.x=i.x)(l:fi.cm=i.cm)(e:Ei K i=some a):FAt K mg fi a:=by
 unfold FAt;rw[l,k];unfold Ei at e;split at e
 .rename_i b
  try rw[b]
  split at e
  .rename_i h1;cases e;exact mg_of X G h1
  .cases e
 .rename_i c b
  try rw[b]
  split at e
  .rename_i C h1
   split at e
   .rename_i a' h2
    split at e
    .rename_i d
     cases e;simp![Yb,TL,W9,T6]at d;let⟨⟨⟨o,f⟩,n⟩,m⟩:=d;refine⟨C,mg_of X G h1,h1,hX o,⟨h2,f,n⟩,λhi=>?_⟩;rcases m with z|⟨j,g⟩
     .exact absurd hi z
     .rw [hi]at h2;exact⟨j,h2,f,g⟩
    .cases e
   .cases e
  .cases e
def Plain(K:Frag)(a:Str->Option Value)(i:Inf)(fi:FI):Prop:=
 i.kf=none ->
 i.cm=none ->∀f fd,a fi.x=some (.ref f)->S0 K fi.nm fi.x fi.st f fd ->∀S:List Value,S.length=i.ps.length->bindArgs fd ⟨S,[]⟩=pure (i.ps.zip S)
def zL{T:Tab}{K:Frag}{i:Inf}{F:Fn}(X:K.In h)(G:h.Ns mainGlobals mg)(e:B3 T K i=some F):
  ∃fi:FI,fi.x=i.x/\fi.ps=i.ps/\fi.cm=i.cm /\
  fi.kf=i.kf /\
  FOk T K mg fi F/\Plain K mg i fi:=by
 unfold B3 at e;let⟨r,c,e⟩:=xg e;unfold BF at c;split at c
 .rename_i a h1
  split at c
  .rename_i Jt E fd v h2
   split at c
   .rename_i b I
    split at c
    .rename_i p
     cases c;simp![Yb]at p;let⟨⟨⟨⟨t,W⟩,j⟩,V⟩,U⟩:=p;have sc:=x9 W;simp![FJ,Yb,Xq,V0,RJ]at t;let⟨⟨⟨⟨Q,JC⟩,P⟩,O⟩,M⟩:=t;let⟨b',Z,rfl⟩:=Wa.mp e;have Wr:i.ps.Nodup:=by rw[<-sc.pre];exact sc.nd.sublist (Qk _ _)
     have m:fd=fnOf i.nm i.x (Cm (BY fd b)) (Cn (BY fd b)) (Bf (BY fd b)) fd.defaults fd.kwdefaults fd.doc fd.pyModule fd.annotations fd.code fd.closureTuple:=by
      let⟨n,q,pa,bo,w,gl,cl,de,kw,dc,pm,Y,cd,R,bu⟩:=fd;simp![BY,Cm,Cn,Bf]at *;subst Q;subst JC;subst P;subst O;subst M;subst I
      rfl
     have u:i.kf=none ->∀S:List Value,S.length=i.ps.length->bindArgs fd ⟨S,[]⟩=pure (i.ps.zip S):=λd S k=>by
      unfold El at j;rw[d]at j;simp![FL,Yb,Xq,RJ,PJ]at j;let⟨⟨⟨⟨⟨C,p2⟩,B⟩,A⟩,z⟩,y⟩:=j;exact vn C p2 B A z (mJ y) Wr k
     have XG:(⟨i.x,BY fd b,i.N,i.ps,i.cm,i.kf⟩:FI).nm=i.nm:=rfl;refine⟨⟨i.x,BY fd b,i.N,i.ps,i.cm,i.kf⟩,rfl,rfl,rfl,rfl,⟨sc,rfl,rfl,⟨60,Z⟩,a,fd,nq X G rfl rfl h1,⟨⟨Jt,E,fd.defaults,fd.kwdefaults,fd.doc,fd.pyModule,fd.annotations,fd.code,fd.closureTuple,v,by rw[XG];exact m,h2,V⟩,U⟩,λd=>.all λS k=>u d S k,λF nd d=>?_⟩,λd o f XF l J S k=>?_⟩
     .have d:i.kf=some (F,nd):=d
      unfold El at j;rw[d]at j;simp![Yb,Xq,W9,List.isEmpty_eq_false_iff]at j;let⟨⟨s,g2⟩,L⟩:=j;exact⟨s,by rw[<-s];exact g2,adJ L⟩
     .have g:FAt K mg ⟨i.x,BY fd b,i.N,i.ps,i.cm,i.kf⟩ a:=nq X G rfl rfl h1
      unfold FAt at g;dsimp only at g;rw[o]at g;have l:mg i.x=some (.ref f):=l;rw[show mg i.x=some (.ref a)from g]at l;cases l;let⟨H,D,dV,Hl,doc,pm,Y,YA,R,VU,_,lk,_⟩:=J.ex;rw[h2]at lk;cases lk;exact u d S k
    .cases c
   .cases c
  .cases c
 .cases c
def aeg{K:Frag}{f:Str}{a:List Nat}(h:He K (f,a)=true):CD K f a:=λc b=>by
 have:=Wy.mp h c (S1.mp b);dsimp only at this;split at this
 .rename_i C h1
  rw[Yb,V0]at this;exact⟨C,h1,hX this.1,this.2⟩
 .cases this
def adT{K:Frag}(X:K.In h)(G:h.Ns mainGlobals mg){p:Str×Nat}(e:Hg K p=true):∃C,mg p.1=some (.ref C)/\nsIn K mainGlobals (Ao p.2)=some (some (.ref C))/\Yh K C/\S3 K C:=by
 unfold Hg at e;split at e
 .rename_i C a
  simp![Yb,Xq,Hf,V0]at e;let⟨⟨j,i⟩,⟨⟨⟨⟨⟨⟨JN,o2⟩,g⟩,f⟩,d⟩,c⟩,b⟩⟩:=e;exact⟨C,mg_of X G a,by rw[j];exact a,hX i,⟨JN,o2,g,f,d,c,b⟩⟩
 .cases e
noncomputable def Inf.tn(i:Inf):Str:=if i.cm.isSome||i.kf.isSome then "__debug__" else i.x
def allFrom(T:Tab)(K:Frag)(is:List Inf):Option (List Fn):=if Hi T K&&T.cs.all (Hd K)&&T.fl.all (He K)&&is.all (λi=>i.cm.all λc=>BU c.1)&&T.ow.all (Hg K)then Ab (is.map (B3 T K))else none
def ke{T:Tab}{K:Frag}{h:Heap}{f:Str->Option Value}(X:K.In h)(G:h.Ns mainGlobals f):∀{is:List Inf} {J:List Fn},Ab (is.map (B3 T K))=some J ->
  ∃d:List FI,d.map FI.tn=is.map Inf.tn/\AllOk T K f d J /\∀(j:Nat) (i:Inf),is[j]?=some i ->∃fi,d[j]?=some fi/\fi.x=i.x/\fi.ps=i.ps/\fi.cm=i.cm /\
   fi.kf=i.kf /\
   Plain K f i fi
 |[],J,e=>by cases e;exact⟨[],rfl,trivial,λj i h=>by simp at h⟩
 |i::is,J,e=>by
  rw[YT]at e;cases q:B3 T K i with
  |none=>rw[q]at e;cases e
  |some F=>
   rw[q]at e;let⟨r,e',rfl⟩:=Wa.mp e;let⟨d,a,b,c⟩:=ke X G e';let⟨fi,m,p,l,g,o,n⟩:=zL X G q;refine⟨fi::d,by simp[a,FI.tn,Inf.tn,m,l,g],⟨o,b⟩,λj k h=>?_⟩
   cases j with
   |zero=>simp at h;subst h;exact⟨fi,rfl,m,p,l,g,n⟩
   |succ j=>exact c j k (by simpa using h)
def mem_zipIdx'{p:Inf×Nat}(h:p∈is.zipIdx):is[p.2]?=some p.1:=by
 let⟨i,k⟩:=p;have:=List.mem_zipIdx h;simp![UG,Oe]at this;exact YG.mpr ⟨by omega,this.2.2.symm⟩
def Fs(T:Tab)(is:List Inf)(J:List Fn)(h:Heap):Prop:=∃K:Frag,K.In h/\allFrom T K is=some J
def we{T:Tab}{ms:List Str}{J:List Fn}{K:Frag}(E:T.J=is.map Inf.tn)(H:T.kf=Dq is)(M:T.cl=Dz is)(Q:T.mt=CZ is ms)(X:K.In h)(e:allFrom T K is=some J)(G:h.Ns mainGlobals mg):
  ∃z:List FI,So T K mg z J /\∀(j:Nat) (i:Inf),is[j]?=some i ->∃fi,z[j]?=some fi/\fi.x=i.x/\fi.ps=i.ps/\fi.cm=i.cm /\
   fi.kf=i.kf /\
   Plain K mg i fi:=by
 unfold allFrom at e;split at e
 .rename_i r
  simp![Yb]at r;let⟨⟨⟨⟨r,N⟩,P⟩,O⟩,A⟩:=r;unfold Hi at r;let⟨z,a,b,c⟩:=ke X G e;have nm:∀i∈is,∀cm,i.cm=some cm->Ao (Bm cm.1)=cm.1:=λi hi cm I=>by
   have:=Wy.mp O i hi;rw[I]at this;exact(d8 this).1
  refine⟨z,⟨E.trans a.symm,b,λx u h=>adz X G (Wy.mp N (x,u) (Pa h)),λx D=>?_,λy i F nd o=>?_,λy cc i F nd o=>?_,λm l C cc i F nd L=>?_,⟨λf cs h=>aeg (Wy.mp P (f,cs) (Pa h)),λp g=>adT X G (Wy.mp A p g)⟩⟩,c⟩
  .have:=Wy.mp r x D
   cases q:nsIn K mainGlobals x with
   |none=>rw[q]at this;cases this
   |some v=>
    cases v with
    |some v=>rw[q]at this;cases this
    |none=>exact mg_none_of X G q
  .rw [H]at o
   let⟨p,g,d⟩:=Rl.mp (Pa o);split at d
   .rename_i k h1 h2
    cases d;let⟨fi,w,B,_,t,s,_⟩:=c _ _ (mem_zipIdx' g);exact⟨fi,w,B,t.trans h1,s.trans h2⟩
   .cases d
  .rw [M]at o
   let⟨p,g,d⟩:=Rl.mp (Pa o);split at d
   .rename_i cm k h1 h2
    split at d
    .rename_i hi
     cases d;have n:=mem_zipIdx' g;let⟨fi,w,B,_,t,s,_⟩:=c _ _ n;refine⟨nm _ (W_ n) _ h1,fi,w,?_,s.trans h2⟩;rw[t,h1,<-hi]
    .cases d
   .cases d
  .rw [Q]at C
   let⟨R,S,d⟩:=XY.mp (Pa C);cases d;let⟨p,g,d⟩:=Rl.mp L;split at d
   .rename_i cm k h1 h2
    split at d
    .rename_i hi
     cases d;have n:=mem_zipIdx' g;let⟨fi,w,B,_,t,s,_⟩:=c _ _ n;refine⟨fi,w,?_,s.trans h2⟩;rw[t,h1,nm _ (W_ n) _ h1,<-hi]
    .cases d
   .cases d
 .cases e
def ad2{l:OpenLaw}{q:Program}{loose:List Str}{XP:(Str->Option Value)->Heap->Prop}{y:DefRec}{T:Tab}{ms:List Str}{J:List Fn}
  (L:l.most=some 63) (t:y.params.defaults=[]) (I:Y8 (2*d+2) callerA) (XG:T.J=is.map Inf.tn) (M:T.kf=Dq is) (Xz:T.cl=Dz is) (VH:T.mt=CZ is ms) (hi:is[i]?=some ⟨y.name,N,[x],none,none⟩)
  (SY:∀ns:List Int,ns.length<=63 ->∃fu g',Aa J fu d i [.Zv (ns.map U.int)] []=.ok (.bl true) g') :
  WalkO q loose XP (λ_ h=>Fs T is J h) l.row.toRowW y [] (λf vs=>PySem.call f vs):=by
 refine Att.attach_call L t λw Ze Zy mg mb C o pm cd doc a vs ns G Z_ ho hd W4 r Tn j c O=>?_;let⟨K,F,V⟩:=Z_;let⟨YW,PG,Q⟩:=we XG M Xz VH F V G.T.g;let⟨B,D,Z,Y,W,e6,X⟩:=Q i _ hi;let⟨Fi,ei,Z9⟩:=PG.all.get D;let⟨f,fd,m1,A,m3⟩:=Z9.obj;unfold FAt at m1;rw[W]at m1;have E:mg B.x=some (.ref f):=m1;have m1:=E;rw[Z,r]at m1;cases m1;refine xo (CX:=XA) (k:=2*d+2) (x:=x) (fd:=fd) (sp:=WO K J d i 1) F G.T.g G.T.b G.T.builtins G.T.nolimit O Tn j (Gz c #[1]) I (λbase kb nb=>?_) (λs u=>?_) (λH S R=>?_) λH e s' z=>z
 .have:=m9 (P:=l.prog) (w:=w) (base:=base) PG d i B D C fd A
  rw[Y]at this;exact this
 .exact .of_eq (X rfl rfl C fd E A [u] rfl)
 .obtain ⟨fu,g',e⟩:=SY ns c
  exact aa5 S R e
open PySem PySem.Spec PyProof.Rows L2 PySem.W PySem.Calls
noncomputable section
def zV(p:Program)(w:World)(N:Nat):openEnds treeTable p w N=endsF p w N:=by
 unfold openEnds fencedOpening topFrom endsF Hj;rw[Fast.te10274390034422433532,Fast.te14364793385576792824,Fast.te1435165496053646825,Fast.te14289696077712309145,Fast.te14082659384304107361]
 rfl
def Bw(p:Program):DefRec:=match p.main.body.getD (p.main.body.length-1) (.Pass ⟨0,0,0,0⟩)with
 |.FunctionDef n a b _ _ _ sc _ _ ps=>⟨n,a,b,sc,ps⟩
 |_=>⟨"",Cm (.Pass ⟨0,0,0,0⟩),[],Bf (.Pass ⟨0,0,0,0⟩),⟨0,0,0,0⟩⟩
def abd{c:Type}{o:Option α}{f:α->β}{g:α->c}{a:β}{b:c}(h:o.map (λs=>(f s,g s))=some (a,b)):o.map f=some a:=by
 cases o with
 |none=>cases h
 |some s=>cases h;rfl
def aax{c:Type}{o:Option α}{f:α->β}{g:α->c}{a:β}{b:c}(h:o.map (λs=>(f s,g s))=some (a,b)):o.map g=some b:=by
 cases o with
 |none=>cases h
 |some s=>cases h;rfl
def kO{d c:Type}{f:d->Option c}:∀{l m:List d} {a b:List c},Ab (l.map f)=some a->Ab (m.map f)=some b->Ab ((l++m).map f)=some (a++b)
 |[],m,a,b,h1,h2=>by cases h1;exact h2
 |x::l,m,a,b,h1,h2=>by
  rw[YT]at h1;rw[Rk,YT];cases e:f x with
  |none=>rw[e]at h1;cases h1
  |some y=>
   rw[e]at h1;cases hl:Ab (l.map f)with
   |none=>simp![Ab,hl]at h1;cases h1
   |some ys=>
    have ih:=kO hl h2;simp![Ab,hl]at h1;simp![Ab,ih];cases h1
    rfl
def dm{f:α->Option β}{l:List α}{m:List β}{k:Nat}(b:Ab ((l.take k).map f)=some (m.take k))(a:Ab (((l.drop k).take c).map f)=some ((m.drop k).take c)):Ab ((l.take (k+c)).map f)=some (m.take (k+c)):=by
 rw[Q9,Q9];exact kO b a
def yb{o:Option Shared}{k:Nat}(a:o.map (λs=>(is.take k).map (BF (AX s.heap)))=some (rs.take k))(b:o.map (λs=>((is.drop k).take c).map (BF (AX s.heap)))=some ((rs.drop k).take c)):o.map (λs=>(is.take (k+c)).map (BF (AX s.heap)))=some (rs.take (k+c)):=by
 cases o with
 |none=>cases a
 |some s=>
  simp![Vg,Y2]at a b ⊢;rw[Q9,Q9,SM,a,b]
def abQ{o:Option Shared}{f:Shared->β}{b:β}{T:Tab}{J:List Fn}{k:Nat}(a:o.map (λs=>Ed T (AX s.heap) is)=some true)(d:o.map f=some b)
  (c:o.map (λs=>(is.take k).map (BF (AX s.heap)))=some (rs.take k)) (h:Ab (((is.zip rs).take k).map (mkF T))=some (J.take k)) (e:is.length<=k) (j:J.length<=k) (g:rs.length<=k):o.map (λs=>(f s,allFrom T (AX s.heap) is))=some (b,some J):=by
 rw[Vi (Gz (List.length_zip ▸ Nat.min_le_left _ _) e),Vi j]at h;rw[Vi e,Vi g]at c;cases o with
 |none=>cases a
 |some s=>
  simp![Vg,Y2,OA]at a d c ⊢;refine⟨d,?_⟩;unfold allFrom;unfold Ed at a;rw[YC a,<-h];congr 1;rw[<-c];generalize is=l
  induction l with
  |nil=>rfl
  |cons i l ih=>rw[YT,YT,Rm,YT,ih,B3]
def abt{l:OpenLaw}{T:Tab}{ms:List Str}{J:List Fn}{loose C:List Str}{N:Nat}
  (a:Fast.tw9446332074065402090 l=true)
  (m:∀w,(endsF l.prog w N).map (λs=>(Fast.tw4187177175401517315 (lastOf l.prog) loose (importedModules l.prog.main.body) (λ_=>true) true s,allFrom T (AX s.heap) is))=some (openGood (lastOf l.prog) loose,some J))
  (u:defOf (lastOf l.prog) l.name=some (Bw l.prog,[])) (t:l.prog.theDef l.name=some ((Bw l.prog).params,(Bw l.prog).body,(Bw l.prog).scope)) (p:kwWritten? (Bw l.prog).params.kwonlyargs (Bw l.prog).params.kw_defaults=some [])
  (o:(Bw l.prog).params.defaults=[])
  (ok:(chainsOk (lastOf l.prog)&&opensWell l.prog&&(frees l.row.toRowW&&l.row.within.isEmpty))=true) (n:l.prog.bare) (g:l.row.toRowW.promised)
  (k:l.most=some 63) (j:Y8 (2*d+2) callerA) (y:T.J=is.map Inf.tn) (b:T.kf=Dq is) (v:T.cl=Dz is) (z:T.mt=CZ is ms) (hi:is[i]?=some ⟨(Bw l.prog).name,C,[x],none,none⟩)
  (A:∀ns:List Int,ns.length<=63 ->∃fu g',Aa J fu d i [.Zv (ns.map U.int)] []=.ok (.bl true) g'):l.Holds:=by
 have sd:l.wellSaid=true:=by rw[Fast.te9446332074065402090];exact a
 refine holds_law sd λB=>?_;refine holds_open (r:=l.row) (q:=lastOf l.prog) (loose:=loose) (Xt:=λ_=>true) (XP:=λ_ _=>True) (Yf:=λs=>allFrom T (AX s.heap) is) (Ya:=λ_=>some J) (YP:=λ_ h=>Fs T is J h) (N:=N) (d:=Bw l.prog) (kwd:=[]) ?_
  (λw s e=>⟨AX s.heap,y9 _,e⟩) (λw h h' ⟨K,f,c⟩ b=>⟨K,f.keeps b,c⟩) (λ_ _=>trivial) (λ_ _ _ _ _=>trivial) u t p (λs _=>recFacts_nil rfl) (by simp[OpenLaw.row]) B ok n g (ad2 k o j y b v z hi A)
 intro w;have:=m w;rw[<-zV,<-Fast.te4187177175401517315]at this;exact this
end
end
end PI
section
open PySem PySem.W PyProof.Rows
def ZE.all(w:World):(PI.endsF PySem.Challenge.rw_braemantle_k23_mesh_triangles.prog w 20000).map (λs=>(Fast.tw4187177175401517315 (PI.lastOf PySem.Challenge.rw_braemantle_k23_mesh_triangles.prog) ZE.loose (PySem.importedModules #[0]) (λ_=>true) true s,PI.allFrom ZE.T (PI.AX s.heap) ZE.A2))=some (openGood (PI.lastOf PySem.Challenge.rw_braemantle_k23_mesh_triangles.prog) ZE.loose,some ZE.J):=PI.abQ (k:=47) (PI.aax (ZE.SS w)) (PI.abd (ZE.SS w)) (PI.yb (k:=26) (c:=21) (ZE.chk1 w) (ZE.chk2 w)) (PI.dm (k:=46) (c:=1) (PI.dm (k:=39) (c:=7) (PI.dm (k:=27) (c:=12) (PI.dm (k:=16) (c:=11) (ZE.part0) ZE.part1) ZE.part2) ZE.part3) ZE.part4) #[1] #[1] #[1]
end
variable{W:PI.XQ}{Wf:L2.XK->PI.XQ}
namespace PI
noncomputable section
noncomputable def Out.le{a:Type}(o o':Out a):Prop:=o=.ZU\/o=o'
def Out.le.rfl{o:Out α}:o.le o:=.inr (Eq.refl _)
def Out.le.bot{o:Out α}:(Out.ZU:Out α).le o:=.inl (Eq.refl _)
def Out.le.trans{a b c:Out α}(h:a.le b)(k:b.le c):a.le c:=by
 rcases h with rfl|rfl
 .exact .bot
 .exact k
def aq{o o':Out α}{k b:α->G->Out β}(h:o.le o')(d:∀a g,(k a g).le (b a g)):(o.bind k).le (o'.bind b):=by
 rcases h with rfl|rfl
 .exact .bot
 .cases o with
  |ok a g=>exact d a g
  |exc c fs g=>exact .rfl
  |ZU=>exact .bot
def aS{o o':Out α}{k b:α->G->Out β}(h:o.le o')(d:∀a g,(k a g).le (b a g)):(o.bindB k).le (o'.bindB b):=by
 rcases h with rfl|rfl
 .exact .bot
 .cases o with
  |ok a g=>exact d a g
  |exc c fs g=>exact .rfl
  |ZU=>exact .bot
def bK{o o':Out α}(h:o.le o'):o.Yi.le o'.Yi:=by
 rcases h with rfl|rfl
 .exact .bot
 .exact .rfl
abbrev CC:=Nat->List U->G->Out U
structure Z7.le(r r':Z7):Prop where
 ev:∀e Y g,(r.ev e Y g).le (r'.ev e Y g)
 ts:∀e Y g,(r.ts e Y g).le (r'.ts e Y g)
 ex:∀e Y g,(r.ex e Y g).le (r'.ex e Y g)
 wh:∀e b Y g,(r.wh e b Y g).le (r'.wh e b Y g)
 fr:∀t it i b Y g,(r.fr t it i b Y g).le (r'.fr t it i b Y g)
 cm:∀it i t cs ZQ elt ZS Y g,(r.cm it i t cs ZQ elt ZS Y g).le (r'.cm it i t cs ZQ elt ZS Y g)
section
variable{C C':CC}{r':Z7}
def a0{f a:E->Su->G->Out U}(h:∀e Y g,(f e Y g).le (a e Y g)):∀es Y g,(II f es Y g).le (II a es Y g)
 |[],_,_=>.rfl
 |e::es,Y,g=>aq (h e Y g) λ_ _=>aq (a0 h es _ _) λ_ _=>.rfl
def qz{f a:E->Su->G->Out U}(h:∀e Y g,(f e Y g).le (a e Y g)):∀e Y g,(IJ f e Y g).le (IJ a e Y g)
 |none,_,_=>.rfl
 |some e,Y,g=>aq (h e Y g) λ_ _=>.rfl
def d9{f a:E->Su->G->Out Bool}(h:∀e Y g,(f e Y g).le (a e Y g)):∀es Y g,(Aw f es Y g).le (Aw a es Y g)
 |[],_,_=>.rfl
 |e::es,Y,g=>aq (h e Y g) λk _=>by
  cases k
  .exact .rfl
  .exact d9 h es _ _
local macro_rules|`(tactic|sleep 8)=>do
 let a<-("Out.le.rfl Out.le.bot Z7.le.ev Z7.le.ts Z7.le.ex Z7.le.wh Z7.le.fr Z7.le.cm a0 qz d9 aq aS".splitOn " ").toArray.mapM fun s=>`(tactic|apply $(Lean.mkIdent s.toName))
 `(tactic|(repeat first $[|$a:tactic]*|assumption|intro _|split))
def cM(h:r.le r')(e:E)(Y:Su)(g:G):(IL r e Y g).le (IL r' e Y g):=by
 cases e<;>(delta IL;dsimp only)<;>sleep 8
def gZ(b:∀f S g,(C f S g).le (C' f S g))(h:r.le r')(e:E)(Y:Su)(g:G):(IM C r e Y g).le (IM C' r' e Y g):=by
 cases e with
 |call f es=>exact aq (bK (a0 h.ev _ _ _)) λS g=>b f S g
 |make c f es ks pm=>
  refine aq (bK (a0 h.ev _ _ _)) λS g=>aq (bK (a0 h.ev _ _ _)) λws g=>?_;split
  .exact aq (b _ _ _) λu g=>.rfl
  .exact .rfl
 |Yw a j tb es ks=>
  refine aq (bK (h.ev _ _ _)) λx g=>?_;split
  .refine aq (bK (a0 h.ev _ _ _)) λS g=>aq (bK (a0 h.ev _ _ _)) λws g=>?_
   split
   .exact b _ _ _
   .exact .rfl
  .exact .rfl
 |comp own fr gs elt=>
  cases gs with
  |nil=>exact .rfl
  |cons t ZQ=>
   let⟨t,it,cs⟩:=t;exact aq (cM h _ _ _) λi g=>aS (h.cm _ _ _ _ _ _ _ _ _) λ_ _=>.rfl
 |Wo own fr gs k v=>
  cases gs with
  |nil=>exact .rfl
  |cons t ZQ=>
   let⟨t,it,cs⟩:=t;exact aq (cM h _ _ _) λi g=>aS (h.cm _ _ _ _ _ _ _ _ _) λ_ _=>.rfl
 |_=>delta IM;dsimp only;sleep 8
def hG(h:r.le r')(e:E)(Y:Su)(g:G):(IP r e Y g).le (IP r' e Y g):=by
 cases e<;>(delta IP;dsimp only)<;>sleep 8
def nA(h:r.le r')(s:Z6)(Y:Su)(g:G):(IS r s Y g).le (IS r' s Y g):=by
 cases s with
 |«for» t it b=>exact aq (cM h _ _ _) λi g=>h.fr _ _ _ _ _ _
 |_=>delta IS;dsimp only;sleep 8
def hV(h:r.le r')(a:List Z6)(Y:Su)(g:G):(IT r a Y g).le (IT r' a Y g):=by
 cases a with
 |nil=>exact .rfl
 |cons s ZQ=>exact aq (nA h _ _ _) λf g=>by cases f<;>sleep 8
def hZ(h:r.le r')(c:E)(b:List Z6)(Y:Su)(g:G):(IU r c b Y g).le (IU r' c b Y g):=by
 unfold IU;sleep 8
def gL(h:r.le r')(t:Tg)(it:Iter)(i:Nat)(b:List Z6)(Y:Su)(g:G):(IV r t it i b Y g).le (IV r' t it i b Y g):=by
 unfold IV;sleep 8
def hE(h:r.le r')(it:Iter)(i:Nat)(t:Tg)(c:List E)(b:List (Tg×E×List E))(a:E)(d:List U)(Y:Su)(g:G):(IW r it i t c b a d Y g).le (IW r' it i t c b a d Y g):=by
 unfold IW;split
 .sleep 8
 .sleep 8
 .split
  .split
   .sleep 8
   .refine aS (d9 h.ts _ _ _) λk g=>?_
    split
    .cases b with
     |nil=>exact aS (h.ev _ _ _) λv g=>by sleep 8
     |cons t b=>
      let⟨e,X7,f⟩:=t;exact aS (cM h _ _ _) λj g=>aS (h.cm _ _ _ _ _ _ _ _ _) λ_ _=>h.cm _ _ _ _ _ _ _ _ _
    .sleep 8
  .sleep 8
def az(a:∀f S g,(C f S g).le (C' f S g)):∀{m n:Nat},m<=n->(IX C m).le (IX C' n)
 |0,n,_=>⟨λ_ _ _=>.bot,λ_ _ _=>.bot,λ_ _ _=>.bot,λ_ _ _ _=>.bot,λ_ _ _ _ _ _=>.bot,λ_ _ _ _ _ _ _ _ _=>.bot⟩
 |m+1,0,h=>absurd h (by lia)
 |m+1,n+1,h=>by
  have ih:=az a (m:=m) (n:=n) (by lia)
  exact⟨gZ a ih,hG ih,hV ih,hZ ih,gL ih,hE ih⟩
def aal(a:∀f S g,(C f S g).le (C' f S g))(h:m<=n)(F:Fn)(S:List U)(g:G):(BG m C F S g).le (BG n C' F S g):=by
 unfold BG;split
 .exact aq ((az a h).ex _ _ _) λf g=>.rfl
 .exact .rfl
def fV{J:List Fn}{m n:Nat}(h:m<=n):∀(d f:Nat) (S:List U) (g:G),(Aa J m d f S g).le (Aa J n d f S g)
 |0,_,_,_=>.rfl
 |d+1,f,S,g=>by
  simp![Aa];split
  .exact aal (fV h d) h _ _ _
  .exact .rfl
end
abbrev XP:=Nat->List U->G->Prop
def holds{b:Type}(o:Out b)(X:XP)(Q:b->G->Prop):Prop:=match o with
 |.ok a g=>Q a g
 |.exc c fs g=>X c fs g
 |.ZU=>False
def wp{a:Type}(f:Nat->Out a)(X:XP)(Q:a->G->Prop):Prop:=∃n,holds (f n) X Q
def Ap{a:Type}(f:Nat->Out a):Prop:=∀m n,m<=n->(f m).le (f n)
section
variable{f f':Nat->Out α}{k k':Nat->α->G->Out β}{X:XP}{Q:α->G->Prop}{R:β->G->Prop}
def dI{o o':Out α}(h:o.le o')(q:holds o X Q):holds o' X Q:=by
 rcases h with rfl|rfl
 .exact q.elim
 .exact q
def fG{o:Out α}{k:α->G->Out β}:holds (o.bind k) X R↔holds o X λa g=>holds (k a g) X R:=by cases o<;>exact Yq
def iM{o:Out α}{k:α->G->Out β}:holds (o.bindB k) X R↔holds o (λ_ _ _=>False) λa g=>holds (k a g) X R:=by cases o<;>exact Yq
def fI{o:Out α}{Q':α->G->Prop}(h:∀a g,Q a g->Q' a g)(q:holds o X Q):holds o X Q':=by
 cases o with
 |ok a g=>exact h a g q
 |exc c fs g=>exact q
 |ZU=>exact q
def wp_mono{Q':α->G->Prop}(q:wp f X Q)(h:∀a g,Q a g->Q' a g):wp f X Q':=let⟨n,z⟩:=q;⟨n,fI h z⟩
def aa{o:Out α}:wp (λ_=>o) X Q↔holds o X Q:=⟨λ⟨_,h⟩=>h,λh=>⟨0,h⟩⟩
def wp_bind(d:Ap f)(b:∀a g,Ap λn=>k n a g):wp (λn=>(f n).bind (k n)) X R↔wp f X λa g=>wp (λn=>k n a g) X R:=by
 constructor
 .rintro ⟨n,h⟩
  rw[fG]at h;exact⟨n,fI (λa g q=>⟨n,q⟩) h⟩
 .rintro ⟨n,h⟩
  cases e:f n with
  |ok a g=>
   rw[e]at h;let⟨m,h⟩:=h;refine⟨max n m,?_⟩;rw[fG];have h1:f (max n m)=.ok a g:=by
    rcases d n (max n m) (Nat.le_max_left _ _)with z|z
    .rw [e]at z;cases z
    .rw [<-z,e]
   rw[h1];show holds (k (max n m) a g) X R;exact dI (b a g m (max n m) (Nat.le_max_right _ _)) h
  |exc c fs g=>rw[e]at h;exact⟨n,by rw[fG,e];exact h⟩
  |ZU=>rw[e]at h;exact h.elim
def aA(d:Ap f)(b:∀a g,Ap λn=>k n a g):wp (λn=>(f n).bindB (k n)) X R↔wp f (λ_ _ _=>False) λa g=>wp (λn=>k n a g) X R:=by
 constructor
 .rintro ⟨n,h⟩
  rw[iM]at h;exact⟨n,fI (λa g q=>⟨n,q⟩) h⟩
 .rintro ⟨n,h⟩
  cases e:f n with
  |ok a g=>
   rw[e]at h;let⟨m,h⟩:=h;refine⟨max n m,?_⟩;rw[iM];have h1:f (max n m)=.ok a g:=by
    rcases d n (max n m) (Nat.le_max_left _ _)with z|z
    .rw [e]at z;cases z
    .rw [<-z,e]
   rw[h1];show holds (k (max n m) a g) X R;exact dI (b a g m (max n m) (Nat.le_max_right _ _)) h
  |exc c fs g=>rw[e]at h;exact h.elim
  |ZU=>rw[e]at h;exact h.elim
def bW(h:∀n,∃m,(f n).le (f' m))(h':∀n,∃m,(f' n).le (f m)):wp f X Q↔wp f' X Q:=
 ⟨λ⟨n,q⟩=>let⟨m,z⟩:=h n;⟨m,dI z q⟩,λ⟨n,q⟩=>let⟨m,z⟩:=h' n;⟨m,dI z q⟩⟩
end
section
variable(J:List Fn)(d:Nat)
abbrev cA(n:Nat):CC:=Aa J n d
abbrev lv(n:Nat):Z7:=IX (Aa J n d) n
def Ja(f:Nat)(S:List U)(g:G)(X:XP)(Q:U->G->Prop):Prop:=wp (λn=>Aa J n d f S g) X Q
def Jb(e:E)(Y:Su)(g:G)(X:XP)(Q:U->G->Prop):Prop:=wp (λn=>(lv J d n).ev e Y g) X Q
def Jc(e:E)(Y:Su)(g:G)(X:XP)(Q:Bool->G->Prop):Prop:=wp (λn=>(lv J d n).ts e Y g) X Q
def An(a:List E)(Y:Su)(g:G)(X:XP)(Q:List U->G->Prop):Prop:=wp (λn=>II (lv J d n).ev a Y g) X Q
def Jd(e:Option E)(Y:Su)(g:G)(X:XP)(Q:Option Int->G->Prop):Prop:=wp (λn=>IJ (lv J d n).ev e Y g) X Q
def Je(a:List E)(Y:Su)(g:G)(X:XP)(Q:Bool->G->Prop):Prop:=wp (λn=>Aw (lv J d n).ts a Y g) X Q
def Jf(e:E)(Y:Su)(g:G)(X:XP)(Q:Iter->G->Prop):Prop:=wp (λn=>IL (lv J d n) e Y g) X Q
def Jg(s:Z6)(Y:Su)(g:G)(X:XP)(Q:Fl->G->Prop):Prop:=wp (λn=>IS (lv J d n) s Y g) X Q
def wpS(a:List Z6)(Y:Su)(g:G)(X:XP)(Q:Fl->G->Prop):Prop:=wp (λn=>(lv J d n).ex a Y g) X Q
def Jh(c:E)(b:List Z6)(Y:Su)(g:G)(X:XP)(Q:Fl->G->Prop):Prop:=wp (λn=>(lv J d n).wh c b Y g) X Q
def Ji(t:Tg)(it:Iter)(i:Nat)(b:List Z6)(Y:Su)(g:G)(X:XP)(Q:Fl->G->Prop):Prop:=wp (λn=>(lv J d n).fr t it i b Y g) X Q
def Jj(it:Iter)(i:Nat)(t:Tg)(b:List E)(e:List (Tg×E×List E))(a:E)(c:List U)(Y:Su)(g:G)(X:XP)(Q:List U->G->Prop):Prop:=wp (λn=>(lv J d n).cm it i t b e a c Y g) X Q
end
section
variable{J:List Fn}{X:XP}{Y:Su}
def a7(h:m<=n)(f:Nat)(S:List U)(g:G):(cA J d m f S g).le (cA J d n f S g):=fV h d f S g
def aI(h:m<=n):(lv J d m).le (lv J d n):=az (a7 h) h
def mC(f:Nat)(S:List U)(g:G):Ap λn=>Aa J n d f S g:=λ_ _ h=>fV h d f S g
def mE(e:E)(Y:Su)(g:G):Ap λn=>(lv J d n).ev e Y g:=λ_ _ h=>(aI h).ev _ _ _
def mT(e:E)(Y:Su)(g:G):Ap λn=>(lv J d n).ts e Y g:=λ_ _ h=>(aI h).ts _ _ _
def mEs(e:List E)(Y:Su)(g:G):Ap λn=>II (lv J d n).ev e Y g:=λ_ _ h=>a0 (aI h).ev _ _ _
def mO(e:Option E)(Y:Su)(g:G):Ap λn=>IJ (lv J d n).ev e Y g:=λ_ _ h=>qz (aI h).ev _ _ _
def mA(e:List E)(Y:Su)(g:G):Ap λn=>Aw (lv J d n).ts e Y g:=λ_ _ h=>d9 (aI h).ts _ _ _
def mI(e:E)(Y:Su)(g:G):Ap λn=>IL (lv J d n) e Y g:=λ_ _ h=>cM (aI h) _ _ _
def m1(e:Z6)(Y:Su)(g:G):Ap λn=>IS (lv J d n) e Y g:=λ_ _ h=>nA (aI h) _ _ _
def mS(e:List Z6)(Y:Su)(g:G):Ap λn=>(lv J d n).ex e Y g:=λ_ _ h=>(aI h).ex _ _ _
def mW(e:E)(b:List Z6)(Y:Su)(g:G):Ap λn=>(lv J d n).wh e b Y g:=λ_ _ h=>(aI h).wh _ _ _ _
def mF(t:Tg)(it:Iter)(i:Nat)(b:List Z6)(Y:Su)(g:G):Ap λn=>(lv J d n).fr t it i b Y g:=λ_ _ h=>(aI h).fr _ _ _ _ _ _
def mM(it:Iter)(i:Nat)(t:Tg)(b:List E)(e:List (Tg×E×List E))(a:E)(c:List U)(Y:Su)(g:G):Ap λn=>(lv J d n).cm it i t b e a c Y g:=λ_ _ h=>(aI h).cm _ _ _ _ _ _ _ _ _
def mK(o:Out α):Ap λ_=>o:=λ_ _ _=>.rfl
def mB{f:Nat->Out α}{k:Nat->α->G->Out β}(h:Ap f)(b:∀a g,Ap λn=>k n a g):Ap λn=>(f n).bind (k n):=λm n z=>aq (h m n z) λa g=>b a g m n z
def mBB{f:Nat->Out α}{k:Nat->α->G->Out β}(h:Ap f)(b:∀a g,Ap λn=>k n a g):Ap λn=>(f n).bindB (k n):=λm n z=>aS (h m n z) λa g=>b a g m n z
def ai{e:E}:Jb J d e Y g X Q↔wp (λn=>IM (cA J d n) (lv J d n) e Y g) X Q:=
 bW (λn=>match n with
  |0=>⟨0,.bot⟩
  |n+1=>⟨n+1,gZ (C:=cA J d (n+1)) (λ_ _ _=>.rfl) (az (λ_ _ _=>.rfl) (VC n)) e Y g⟩) λn=>⟨n+1,gZ (C:=cA J d n) (C':=cA J d (n+1)) (a7 (VC n)) (az (a7 (VC n)) (GB n)) e Y g⟩
def eP{e:E}{Q:Bool->G->Prop}:Jc J d e Y g X Q↔wp (λn=>IP (lv J d n) e Y g) X Q:=
 bW (λn=>match n with
  |0=>⟨0,.bot⟩
  |n+1=>⟨n+1,hG (az (λ_ _ _=>.rfl) (VC n)) e Y g⟩) λn=>⟨n+1,hG (az (a7 (VC n)) (GB n)) e Y g⟩
def qe{e:List Z6}{Q:Fl->G->Prop}:wpS J d e Y g X Q↔wp (λn=>IT (lv J d n) e Y g) X Q:=
 bW (λn=>match n with
  |0=>⟨0,.bot⟩
  |n+1=>⟨n+1,hV (az (λ_ _ _=>.rfl) (VC n)) e Y g⟩) λn=>⟨n+1,hV (az (a7 (VC n)) (GB n)) e Y g⟩
def abX{c:E}{b:List Z6}{Q:Fl->G->Prop}:Jh J d c b Y g X Q↔wp (λn=>IU (lv J d n) c b Y g) X Q:=
 bW (λn=>match n with
  |0=>⟨0,.bot⟩
  |n+1=>⟨n+1,hZ (az (λ_ _ _=>.rfl) (VC n)) c b Y g⟩) λn=>⟨n+1,hZ (az (a7 (VC n)) (GB n)) c b Y g⟩
def acs{t:Tg}{it:Iter}{b:List Z6}{Q:Fl->G->Prop}:Ji J d t it i b Y g X Q↔wp (λn=>IV (lv J d n) t it i b Y g) X Q:=
 bW (λn=>match n with
  |0=>⟨0,.bot⟩
  |n+1=>⟨n+1,gL (az (λ_ _ _=>.rfl) (VC n)) t it i b Y g⟩) λn=>⟨n+1,gL (az (a7 (VC n)) (GB n)) t it i b Y g⟩
def ac1{it:Iter}{t:Tg}{a:List (Tg×E×List E)}{Q:List U->G->Prop}:Jj J d it i t cs a elt ZS Y g X Q↔wp (λn=>IW (lv J d n) it i t cs a elt ZS Y g) X Q:=
 bW (λn=>match n with
  |0=>⟨0,.bot⟩
  |n+1=>⟨n+1,hE (az (λ_ _ _=>.rfl) (VC n)) it i t cs a elt ZS Y g⟩) λn=>⟨n+1,hE (az (a7 (VC n)) (GB n)) it i t cs a elt ZS Y g⟩
end
local macro_rules|`(tactic|sleep 9)=>do
 let a<-("mE mT mEs mO mA mI mS mC mW mF mM mK mB mBB".splitOn " ").toArray.mapM fun s=>`(tactic|apply $(Lean.mkIdent s.toName))
 `(tactic|(intros;repeat first $[|$a:tactic]*|intro _))
def wp_congr{f:Nat->Out α}{X:XP}{Q Q':α->G->Prop}(h:∀a g,Q a g↔Q' a g):wp f X Q↔wp f X Q':=⟨λq=>wp_mono q λa g=>(h a g).1,λq=>wp_mono q λa g=>(h a g).2⟩
inductive Lk{α:Sort u}(a:α):Type
 |mk:Lk a
@[reducible] def lk{b:Sort u}(a:b):Lk a:=.mk
def Jk{b:Type}(o:Option b){Q:b->Prop}(_:Lk Q):Prop:=match o with
 |some a=>Q a
 |none=>False
def Jl(k:Bool){A B:Prop}(_:Lk A)(_:Lk B):Prop:=match k with
 |true=>A
 |false=>B
def Jm(f:Fl){A:Su->Prop}{B:Fl->Prop}(_:Lk A)(_:Lk B):Prop:=match f with
 |.nx Y=>A Y
 |f=>B f
def Jn(f:Fl){A:Su->Prop}{B:Fl->Prop}(_:Lk A)(_:Lk B):Prop:=match f with
 |.nx Y=>A Y
 |.ct Y=>A Y
 |.bk Y=>B (.nx Y)
 |.rt u=>B (.rt u)
def Jo(f:Fl){Q:U->Prop}(_:Lk Q):Prop:=match f with
 |.rt u=>Q u
 |.nx _=>Q .ZL
 |_=>False
def eB{a:α}{Q:α->Prop}:Jk (some a) (lk Q)=Q a:=propext Yq
def iA{A B:Prop}:Jl true (lk A) (lk B)=A:=propext Yq
def bh_f{A B:Prop}:Jl false (lk A) (lk B)=B:=propext Yq
def ae{k:Bool}{A B:Prop}(h:k=true->A)(h':k=false->B):Jl k (lk A) (lk B):=by cases k;exact h' rfl;exact h rfl
def bX{k:Bool}{A B:Prop}:(if k=true then A else B)↔Jl k (lk A) (lk B):=by cases k<;>simp[Jl]
def adx{Y:Su}{A:Su->Prop}:Jm (.nx Y) (lk A) (lk B)=A Y:=propext Yq
def adu{A:Su->Prop}:Jm (.rt u) (lk A) (lk B)=B (.rt u):=propext Yq
def adM{Y:Su}{A:Su->Prop}:Jm (.bk Y) (lk A) (lk B)=B (.bk Y):=propext Yq
def adS{Y:Su}{A:Su->Prop}:Jm (.ct Y) (lk A) (lk B)=B (.ct Y):=propext Yq
def sL{Y:Su}{A:Su->Prop}:Jn (.nx Y) (lk A) (lk B)=A Y:=propext Yq
def tO{A:Su->Prop}:Jn (.rt u) (lk A) (lk B)=B (.rt u):=propext Yq
def adY{Y:Su}{A:Su->Prop}:Jn (.bk Y) (lk A) (lk B)=B (.nx Y):=propext Yq
def adG{Y:Su}{A:Su->Prop}:Jn (.ct Y) (lk A) (lk B)=A Y:=propext Yq
def si{Q:U->Prop}:Jo (.rt u) (lk Q)=Q u:=propext Yq
def adH{Y:Su}{Q:U->Prop}:Jo (.nx Y) (lk Q)=Q .ZL:=propext Yq
def aK{o:Option α}{Q:α->Prop}:(∃a,o=some a/\Q a)↔Jk o (lk Q):=by
 cases o with
 |none=>exact⟨λ⟨_,e,_⟩=>(by cases e),λh=>h.elim⟩
 |some a=>exact⟨λ⟨_,e,h⟩=>(by cases e;exact h),λh=>⟨a,rfl,h⟩⟩
def hk{a:Type}(o:Out a)(X:XP){Q:a->G->Prop}(_:Lk Q):Prop:=holds o X Q
def tX{a:α}{X:XP}{Q:α->G->Prop}:hk (.ok a g) X (lk Q)=Q a g:=propext Yq
def acR{a:List U}{X:XP}{Q:α->G->Prop}:hk (.exc c a g) X (lk Q)=X c a g:=propext Yq
section
variable{J:List Fn}{X:XP}{Y:Su}
def Jp(J:List Fn)(d f:Nat)(S:List U)(g:G)(X:XP){Q:U->G->Prop}(_:Lk Q):Prop:=Ja J d f S g X Q
def Jq(J:List Fn)(d:Nat)(it:Iter)(i:Nat)(t:Tg)(b:List E)(e:List (Tg×E×List E))(a:E)(c:List U)(Y:Su)(g:G)(X:XP){Q:List U->G->Prop}(_:Lk Q):Prop:=Jj J d it i t b e a c Y g X Q
def Jr(J:List Fn)(d:Nat)(t:Tg)(it:Iter)(i:Nat)(b:List Z6)(Y:Su)(g:G)(X:XP){Q:Fl->G->Prop}(_:Lk Q):Prop:=Ji J d t it i b Y g X Q
def Js(J:List Fn)(d:Nat)(c:E)(b:List Z6)(Y:Su)(g:G)(X:XP){Q:Fl->G->Prop}(_:Lk Q):Prop:=Jh J d c b Y g X Q
def Cf(x:U)(l h:Option Int)(g:G):Out U:=match x with
  |.ZX xs=>if HT.sIx xs.length 0 l=0/\HT.sIx xs.length xs.length h=xs.length then .ZU else .ok (.ZX (A4 xs l h)) g
  |.Zv xs=>alloc (.M (A4 xs l h)) g
  |.ref n=>match g[n]? with
   |some (.M xs)=>alloc (.M (A4 xs l h)) g
   |_=>.ZU
  |_=>.ZU
def Bc(n:Nat):Bool:=@decide (n<=Ac) (Classical.propDecidable _)
def gi(h:n<=16777000):Bc n=true:=by unfold Bc;exact @decide_eq_true _ (Classical.propDecidable _) h
def jQ:Bc n=true↔n<=Ac:=by unfold Bc;exact @decide_eq_true_iff _ (Classical.propDecidable _)
def Cb(x:U)(g:G):Option (List U):=match x with
 |.ref n=>match g[n]? with
  |some (.M xs)=>some xs
  |_=>none
 |_=>none
def vR{o:Option α}{Q:α->G->Prop}:holds (lift o g) X Q ↔ ∃a,o=some a/\Q a g:=by
 cases o with
 |none=>exact⟨λh=>h.elim,λ⟨_,e,_⟩=>by cases e⟩
 |some a=>exact⟨λh=>⟨a,rfl,h⟩,λ⟨b,e,h⟩=>by cases e;exact h⟩
def cG{o:Option α}{Q:α->G->Prop}:holds (lift o g) X Q↔Jk o (lk λa=>Q a g):=by cases o<;>exact Yq
def gy{o:Option Bool}:holds (match o with|some c=>Out.ok (U.bl c) g|none=>.ZU) X Q↔Jk o (lk λc=>Q (.bl c) g):=by cases o<;>exact Yq
def dF{o:Option α}{Q Q':α->Prop}(h:∀a,Q a↔Q' a):Jk o (lk Q)↔Jk o (lk Q'):=by
 cases o with
 |none=>exact Yq
 |some a=>exact h a
def optN{o:Option Nat}{f:Nat->Nat->Out α}{Q:α->G->Prop}:wp (λn=>match o with|some k=>f n k|none=>.ZU) X Q↔Jk o (lk λk=>wp (λn=>f n k) X Q):=by
 cases o with
 |none=>exact aa
 |some a=>exact Yq
def rB:holds (if n<=Ac then Out.ok u g' else .ZU) X Q↔Jl (Bc n) (lk (Q u g')) (lk False):=by
 rw[<-bX];by_cases h:n<=Ac
 .rw [YC h,YC (jQ.mpr h)];exact Yq
 .rw [Yj h,Yj (λz=>h (jQ.mp z))];exact Yq
def ob(op:Op)(x y:U)(g:G)(X:XP){Q:U->G->Prop}(_:Lk Q):Prop:=holds (Bl op x y g) X Q
def ui{i:Int}{X:XP}:ob op (.int i) y g X (lk Q)=Jk (Iq op (.int i) y) (lk λz=>Q z g):=propext (by
 unfold ob;refine Iff.trans (?_:_↔holds (lift (Iq op (.int i) y) g) X Q) cG;exact Yq)
def nU{a:List U}{X:XP}(d:g[n]?=some (.M xs))(c:g[m]?=some (.M a))(b:xs.length+a.length<=Ac)(h:Q (.ref g.length) (g++[.M (xs++a)])):ob .add (.ref n) (.ref m) g X (lk Q):=by
 unfold ob Bl A8;simp![d,c];rw[YC b];exact h
section
def qS:Jb J d (.L i) Y g X Q↔Jk Y[i]? (lk λo=>Jk o (lk λu=>Q u g)):=by
 rw[ai];delta IM;simp![aa];cases Y[i]? with
 |none=>exact Yq
 |some o=>cases o<;>exact Yq
def rg:Jb J d (.ZZ u) Y g X Q↔Q u g:=by rw[ai];delta IM;simp![aa];rfl
def sP{a b:E}:Jb J d (.ZT op a b) Y g X Q↔Jb J d a Y g X λx g=>Jb J d b Y g X λy g=>ob op x y g X (lk Q):=by
 rw[ai];delta IM;dsimp only;refine(wp_bind (by sleep 9) (by sleep 9)).trans (wp_congr λ_ _=>?_);refine(wp_bind (by sleep 9) (by sleep 9)).trans (wp_congr λ_ _=>?_);exact aa
def ads{a:E}{b:List Nat}:Jb J d (.fld a j b) Y g X Q↔Jb J d a Y g X λx g=>Jk ((AL x g).bind (BN j b)) <| lk λz=>Q z g:=by
 rw[ai];delta IM;dsimp only;refine(wp_bind (by sleep 9) (by sleep 9)).trans (wp_congr λ_ _=>?_);exact aa.trans cG
abbrev nX:XP:=λ_ _ _=>False
def fQ{o:Out α}{k:α->G->Out β}:o.Yi.bind k=o.bindB k:=by cases o<;>rfl
def acP{f:Nat}{a ks:List E}:Jb J d (.make c f a ks pm) Y g X Q↔An J d a Y g nX λS g=>An J d ks Y g nX λws g=>S.length=a.length/\ws.length=ks.length/\Jp J d f (perm (.ref g.length::S++ws) pm) (g++[.ins c []]) X (lk λu g'=>Au u=true/\Q (.ref g.length) g'):=by
 rw[ai];delta IM;dsimp only;simp![fQ];have e:∀(S ws:List U) (g:G),Ap λn=>if S.length=a.length/\ws.length=ks.length then(Aa J n d f (perm (.ref g.length::S++ws) pm) (g++[.ins c []])).bind λu g'=>if Au u then Out.ok (U.ref g.length) g' else .ZU else .ZU:=λS ws g=>by
  split
  .exact mB (mC _ _ _) λ_ _=>mK _
  .exact mK _
 refine(aA (mEs _ _ _) λS g=>mBB (mEs _ _ _) λws g=>e S ws g).trans (wp_congr λS g=>?_);refine(aA (mEs _ _ _) λws g=>e S ws g).trans (wp_congr λws g=>?_);split
 .rename_i h
  refine Iff.trans ((wp_bind (k:=λ_ u g'=>if Au u=true then Out.ok (U.ref (List.length g)) g' else Out.ZU) (mC _ _ _) λ_ _=>mK _).trans (wp_congr λu g'=>aa.trans ?_)) ⟨λq=>⟨h.1,h.2,q⟩,λq=>q.2.2⟩
  split
  .rename_i b;exact⟨λq=>⟨b,q⟩,λq=>q.2⟩
  .rename_i b;exact⟨λq=>q.elim,λq=>(b q.1).elim⟩
 .rename_i h;exact⟨λ⟨_,q⟩=>q.elim,λq=>(h ⟨q.1,q.2.1⟩).elim⟩
def acI{a:E}{b ks:List E}:Jb J d (.Yw a j tb b ks) Y g X Q↔Jb J d a Y g nX λx g=>Jk ((AL x g).bind (Bz j tb)) <| lk λp=>An J d b Y g nX λS g=>An J d ks Y g nX λws g=>S.length=b.length/\ws.length=ks.length/\Jp J d p.1 (perm (x::S++ws) p.2) g X (lk Q):=by
 rw[ai];delta IM;dsimp only;simp![fQ];have c:∀(x:U) (p:Nat×List (Nat ⊕ U)) (S ws:List U) (g:G),Ap λn=>if S.length=b.length/\ws.length=ks.length then Aa J n d p.1 (perm (x::S++ws) p.2) g else .ZU:=λx p S ws g=>by
  split
  .exact mC _ _ _
  .exact mK _
 have e:∀(x:U) (g:G) (o:Option (Nat×List (Nat ⊕ U))),Ap λn=>match o with
   |some p=>(II (lv J d n).ev b Y g).bindB λS g=>(II (lv J d n).ev ks Y g).bindB λws g=>if S.length=b.length/\ws.length=ks.length then Aa J n d p.1 (perm (x::S++ws) p.2) g else .ZU
   |none=>.ZU:=λx g o=>by
  cases o with
  |none=>exact mK _
  |some p=>exact mBB (mEs _ _ _) λS g=>mBB (mEs _ _ _) λws g=>c x p S ws g
 refine(aA (mE _ _ _) λx g=>e x g _).trans (wp_congr λx g=>?_);cases(AL x g).bind (Bz j tb)with
 |none=>exact aa
 |some p=>
  refine(aA (mEs _ _ _) λS g=>mBB (mEs _ _ _) λws g=>c x p S ws g).trans (wp_congr λS g=>?_);refine(aA (mEs _ _ _) λws g=>c x p S ws g).trans (wp_congr λws g=>?_);split
  .rename_i h;exact⟨λq=>⟨h.1,h.2,q⟩,λq=>q.2.2⟩
  .rename_i h;exact⟨λ⟨_,q⟩=>q.elim,λq=>(h ⟨q.1,q.2.1⟩).elim⟩
def adn{op:Cp}{a b:E}:Jb J d (.cmp op a b) Y g X Q↔Jb J d a Y g X λx g=>Jb J d b Y g X λy g=>Jk (IA op x y g) <| lk λz=>Q (.bl z) g:=by
 rw[ai];delta IM;dsimp only;refine(wp_bind (by sleep 9) (by sleep 9)).trans (wp_congr λ_ _=>?_);refine(wp_bind (by sleep 9) (by sleep 9)).trans (wp_congr λ_ _=>?_);exact aa.trans gy
def yK{op e:Cp}{a b c:E}:Jb J d (.chain op e a b c) Y g X Q↔Jb J d a Y g X λx g=>Jb J d b Y g X λy g=>Jk (IA op x y g) <| lk λz=>Jl z (lk (Jb J d c Y g X λw g=>Jk (IA e y w g) <| lk λz=>Q (.bl z) g)) (lk (Q (.bl false) g)):=by
 rw[ai];delta IM;dsimp only;refine(wp_bind (by sleep 9) (by intro x g;refine mB (mE _ _ _) λy g=>?_;generalize IA op x y g=o;cases o with|none=>exact mK _|some z=>cases z;exact mK _;exact mB (mE _ _ _) λ_ _=>mK _)).trans (wp_congr λx g=>?_)
 refine(wp_bind (by sleep 9) (by intro y g;generalize IA op x y g=o;cases o with|none=>exact mK _|some z=>cases z;exact mK _;exact mB (mE _ _ _) λ_ _=>mK _)).trans (wp_congr λy g=>?_)
 generalize IA op x y g=o;cases o with
 |none=>exact aa
 |some z=>
  cases z
  .exact aa
  .exact (wp_bind (by sleep 9) (by sleep 9)).trans (wp_congr λ_ _=>aa.trans gy)
def ac7{a b:E}:Jb J d (.and a b) Y g X Q↔Jb J d a Y g X λx g=>Jk (match x with|.bl z=>some z|_=>none) <| lk λz=>Jl z (lk (Jb J d b Y g X Q)) (lk (Q (.bl false) g)):=by
 rw[ai];delta IM;dsimp only;refine(wp_bind (by sleep 9) (by intro x g;cases x with|bl b=>cases b;exact mK _;exact mE _ _ _|_=>exact mK _)).trans (wp_congr λx g=>?_)
 cases x with
 |bl z=>cases z;exact aa;exact Yq
 |_=>exact aa
def e_or{a b:E}:Jb J d (.or a b) Y g X Q↔Jb J d a Y g X λx g=>Jk (match x with|.bl z=>some z|_=>none) <| lk λz=>Jl z (lk (Q (.bl true) g)) (lk (Jb J d b Y g X Q)):=by
 rw[ai];delta IM;dsimp only;refine(wp_bind (by sleep 9) (by intro x g;cases x with|bl b=>cases b;exact mE _ _ _;exact mK _|_=>exact mK _)).trans (wp_congr λx g=>?_)
 cases x with
 |bl z=>cases z;exact Yq;exact aa
 |_=>exact aa
def aee{a:E}:Jb J d (.not a) Y g X Q↔Jb J d a Y g X λx g=>Jk (IB x g) <| lk λc=>Q (.bl !c) g:=by
 rw[ai];delta IM;dsimp only;refine(wp_bind (by sleep 9) (by sleep 9)).trans (wp_congr λx g=>aa.trans ?_)
 cases IB x g<;>exact Yq
def ad4{a:E}:Jb J d (.neg a) Y g X Q↔Jb J d a Y g X λx g=>Jk (match x with|.int i=>some i|_=>none) <| lk λi=>Q (.int (-i)) g:=by
 rw[ai];delta IM;dsimp only;refine(wp_bind (by sleep 9) (by sleep 9)).trans (wp_congr λx g=>aa.trans ?_)
 cases x<;>exact Yq
def tw{a:List E}:Jb J d (.ZX a) Y g X Q↔An J d a Y g X λS g=>Jl (Bc S.length) (lk (Q (.ZX S) g)) (lk False):=by
 rw[ai];delta IM;dsimp only;exact(wp_bind (by sleep 9) (by sleep 9)).trans (wp_congr λx g=>aa.trans rB)
def ado{a:List E}:Jb J d (.M a) Y g X Q↔An J d a Y g X λS g=>Jl (Bc S.length) (lk (Q (.ref g.length) (g++[.M S]))) (lk False):=by
 rw[ai];delta IM;dsimp only;exact(wp_bind (by sleep 9) (by sleep 9)).trans (wp_congr λx g=>aa.trans rB)
def sv{a b:E}:Jb J d (.idx a b) Y g X Q↔Jb J d a Y g X λx g=>Jb J d b Y g X λy g=>match y with|.ZX S=>Jk ((AS (.ZX S) x g).bind id) <| lk λz=>Q z g|.str k=>Jk ((Iv x g).bind λZ4=>BV Z4 k) <| lk λz=>Q z g|y=>Jk (match y with|.int i=>some i|_=>none) <| lk λi=>Jk (items x g) <| lk λxs=>Jk (IC xs i) <| lk λz=>Q z g:=by
 rw[ai];delta IM;dsimp only;refine(wp_bind (by sleep 9) (by sleep 9)).trans (wp_congr λx g=>(wp_bind (by sleep 9) (by sleep 9)).trans (wp_congr λy g=>aa.trans ?_))
 cases y with
 |int i=>
  show holds (match items x g with|some xs=>lift (IC xs i) g|none=>.ZU) X Q↔Jk (items x g) (lk λxs=>Jk (IC xs i) (lk λz=>Q z g))
  cases items x g with
  |none=>exact Yq
  |some xs=>exact cG
 |ZX S=>exact cG
 |str k=>exact cG
 |_=>exact Yq
def adZ{a:E}{lo hi:Option E}:Jb J d (.XR a lo hi) Y g X Q↔Jb J d a Y g X λx g=>Jd J d lo Y g X λl g=>Jd J d hi Y g X λh g=>hk (Cf x l h g) X (lk Q):=by
 rw[ai];delta IM;dsimp only;refine(wp_bind (by sleep 9) (by sleep 9)).trans (wp_congr λ_ _=>?_);refine(wp_bind (by sleep 9) (by sleep 9)).trans (wp_congr λ_ _=>?_);refine(wp_bind (by sleep 9) (by sleep 9)).trans (wp_congr λ_ _=>?_);exact aa
def adW{a:E}:Jb J d (.rev a) Y g X Q↔Jb J d a Y g X λx g=>Jk (Cb x g) <| lk λxs=>Q (.ref g.length) (g++[.M xs.reverse]):=by
 rw[ai];delta IM;dsimp only;refine(wp_bind (by sleep 9) (by sleep 9)).trans (wp_congr λx g=>aa.trans ?_)
 cases x with
 |ref n=>
  dsimp only[Cb];cases g[n]? with
  |none=>exact Yq
  |some o=>cases o<;>exact Yq
 |_=>exact Yq
def aaN{f:Nat}{a:List E}:Jb J d (.call f a) Y g X Q↔An J d a Y g nX λS g=>Jp J d f S g X (lk Q):=by
 rw[ai];delta IM;dsimp only;simp![fQ];exact aA (mEs _ _ _) λ_ _=>mC _ _ _
def e_bi{b:Bi}{a:List E}:Jb J d (.bi b a) Y g X Q↔An J d a Y g X λS g=>hk (IG b S g) X (lk Q):=by
 rw[ai];delta IM;dsimp only;exact(wp_bind (by sleep 9) (by sleep 9)).trans (wp_congr λx g=>aa)
def aa4:Jb J d .Wp Y g X Q↔Q (.ref g.length) (g++[.ZG []]):=by
 rw[ai];delta IM;dsimp only;exact aa
def ad0{a:E}{t:Ty}:Jb J d (.Yv a t) Y g X Q↔Jb J d a Y g X λx g=>Jk (AD t x g) <| lk λc=>Q (.bl c) g:=by
 rw[ai];delta IM;dsimp only;exact(wp_bind (by sleep 9) (by sleep 9)).trans (wp_congr λx g=>aa.trans gy)
def mN{o:Option Nat}{f:Nat->Nat->Out α}(h:∀k,Ap λn=>f n k):Ap λn=>(match o with|some k=>f n k|none=>.ZU:Out α):=by
 cases o with
 |none=>exact mK _
 |some k=>exact h k
def adX{o v:E}:Jb J d (.app o v) Y g X Q↔Jb J d o Y g X λx g=>Jk (IH x g) <| lk λk=>Jb J d v Y g X λy g=>hk (AH k y g) X (lk Q):=by
 rw[ai];delta IM;dsimp only;refine(wp_bind (by sleep 9) (by intro x g;exact mN λk=>mB (mE _ _ _) λ_ _=>mK _)).trans (wp_congr λx g=>optN.trans (dF λk=>?_))
 refine(wp_bind (by sleep 9) (by sleep 9)).trans (wp_congr λ_ _=>?_);exact aa
def aau{o v:E}:Jb J d (.V4 o v) Y g X Q↔Jb J d o Y g X λx g=>Jk (IH x g) <| lk λk=>Jb J d v Y g X λy g=>hk (BM k y g) X (lk Q):=by
 rw[ai];delta IM;dsimp only;refine(wp_bind (by sleep 9) (by intro x g;exact mN λk=>mB (mE _ _ _) λ_ _=>mK _)).trans (wp_congr λx g=>optN.trans (dF λk=>?_))
 refine(wp_bind (by sleep 9) (by sleep 9)).trans (wp_congr λ_ _=>?_);exact aa
def adh{o v:E}:Jb J d (.ext o v) Y g X Q↔Jb J d o Y g X λx g=>Jk (IH x g) <| lk λk=>Jb J d v Y g X λy g=>hk (Bs k y g) X (lk Q):=by
 rw[ai];delta IM;dsimp only;refine(wp_bind (by sleep 9) (by intro x g;exact mN λk=>mB (mE _ _ _) λ_ _=>mK _)).trans (wp_congr λx g=>optN.trans (dF λk=>?_))
 refine(wp_bind (by sleep 9) (by sleep 9)).trans (wp_congr λ_ _=>?_);exact aa
def ad9{o:E}:Jb J d (.pop o) Y g X Q↔Jb J d o Y g X λx g=>Jk (IH x g) <| lk λk=>hk (Bb k g) X (lk Q):=by
 rw[ai];delta IM;dsimp only;exact(wp_bind (by sleep 9) (by intro x g;exact mN λk=>mK _)).trans (wp_congr λx g=>optN.trans (dF λk=>aa))
def acx{a:Nat}{b:List Nat}{t:Tg}{it:E}{c:List (Tg×E×List E)}{k v:E}:Jb J d (.Wo a b ((t,it,cs)::c) k v) Y g X Q ↔
  Jf J d it Y g X λi g=>Jq J d i 0 t cs c (.pair k v) [] (List.replicate a none++b.map λj=>(Y[j]?).getD none) g (λ_ _ _=>False) (lk λS g=>Jk (dfold S []) <| lk λZ4=>Q (.ref g.length) (g++[.ZG Z4])):=by
 rw[ai];delta IM;dsimp only;refine(wp_bind (by sleep 9) (by sleep 9)).trans (wp_congr λx g=>(aA (by sleep 9) (by sleep 9)).trans (wp_congr λS g=>aa.trans ?_))
 cases dfold S []<;>exact Yq
def aci{k v:E}:Jb J d (.pair k v) Y g X Q↔Jb J d k Y g X λx g=>Jb J d v Y g X λy g=>Jk (keyOf x) <| lk λ_=>Q (.ZX [x,y]) g:=by
 rw[ai];delta IM;dsimp only;refine(wp_bind (by sleep 9) (by sleep 9)).trans (wp_congr λx g=>(wp_bind (by sleep 9) (by sleep 9)).trans (wp_congr λy g=>aa.trans ?_))
 cases keyOf x<;>exact Yq
def abp{a:Nat}{b:List Nat}{t:Tg}{it:E}{c:List (Tg×E×List E)}:Jb J d (.comp a b ((t,it,cs)::c) elt) Y g X Q ↔
  Jf J d it Y g X λi g=>Jq J d i 0 t cs c elt [] (List.replicate a none++b.map λj=>(Y[j]?).getD none) g (λ_ _ _=>False) (lk λS g=>S.length<=Ac/\Q (.ref g.length) (g++[.M S])):=by
 rw[ai];delta IM;dsimp only;refine(wp_bind (by sleep 9) (by sleep 9)).trans (wp_congr λx g=>(aA (by sleep 9) (by sleep 9)).trans (wp_congr λS g=>aa.trans ?_))
 split
 .rename_i h;exact⟨λq=>⟨h,q⟩,λq=>q.2⟩
 .rename_i h;exact⟨λq=>q.elim,λq=>h q.1⟩
end
def nJ{Q:List U->G->Prop}:An J d [] Y g X Q↔Q [] g:=by unfold An;simp![II,aa];rfl
def kQ{e:E}{a:List E}{Q:List U->G->Prop}:An J d (e::a) Y g X Q↔Jb J d e Y g X λu g=>An J d a Y g X λS g=>Q (u::S) g:=by
 unfold An;simp![II];refine(wp_bind (by sleep 9) (by sleep 9)).trans (wp_congr λ_ _=>?_);refine(wp_bind (by sleep 9) (by sleep 9)).trans (wp_congr λ_ _=>?_);exact aa
def qK{Q:Option Int->G->Prop}:Jd J d none Y g X Q↔Q none g:=by unfold Jd;simp![IJ,aa];rfl
def abR{e:E}{Q:Option Int->G->Prop}:Jd J d (some e) Y g X Q↔Jb J d e Y g X λu g=>∃i,u=.int i/\Q (some i) g:=by
 unfold Jd;simp![IJ];refine(wp_bind (by sleep 9) (by sleep 9)).trans (wp_congr λx g=>aa.trans ?_)
 cases x with
 |int a=>exact⟨λh=>⟨a,rfl,h⟩,λ⟨b,e,h⟩=>by cases e;exact h⟩
 |_=>exact⟨λh=>h.elim,λ⟨_,e,_⟩=>by cases e⟩
section
variable{Q:Bool->G->Prop}
def ac8{a b:E}:Jc J d (.and a b) Y g X Q↔Jc J d a Y g X λk g=>if k then Jc J d b Y g X Q else Q false g:=by
 rw[eP];delta IP;dsimp only;refine(wp_bind (by sleep 9) (by intro k g;cases k;exact mK _;exact mT _ _ _)).trans (wp_congr λx g=>?_)
 cases x
 .exact aa
 .exact Yq
theorem T_or{a b:E}:Jc J d (.or a b) Y g X Q↔Jc J d a Y g X λk g=>if k then Q true g else Jc J d b Y g X Q:=by
 rw[eP];delta IP;dsimp only;refine(wp_bind (by sleep 9) (by intro k g;cases k;exact mT _ _ _;exact mK _)).trans (wp_congr λx g=>?_)
 cases x
 .exact Yq
 .exact aa
def adD{a:E}:Jc J d (.not a) Y g X Q↔Jc J d a Y g X λk g=>Q (!k) g:=by
 rw[eP];delta IP;dsimp only;refine(wp_bind (by sleep 9) (by sleep 9)).trans (wp_congr λ_ _=>?_);exact aa
def plainT:E->Bool
 |.and _ _=>false|.or _ _=>false|.not _=>false|.ite _ _ _=>false|_=>true
theorem T_e{e:E}(h:plainT e=true):Jc J d e Y g X Q↔Jb J d e Y g X λx g=>∃c,IB x g=some c/\Q c g:=by
 rw[eP];have:(λn=>IP (lv J d n) e Y g)=λn=>((lv J d n).ev e Y g).bind λx g=>lift (IB x g) g:=by
  funext n;cases e<;>first|rfl|cases h
 rw[this];refine(wp_bind (by sleep 9) (by sleep 9)).trans (wp_congr λ_ _=>?_);exact aa.trans vR
def iq:Je J d [] Y g X Q↔Q true g:=by unfold Je;simp![Aw,aa];rfl
def aaX{c:E}:Je J d (c::cs) Y g X Q↔Jc J d c Y g X λk g=>if k then Je J d cs Y g X Q else Q false g:=by
 unfold Je;simp![Aw];refine(wp_bind (by sleep 9) (by intro k g;cases k;exact mK _;exact mA _ _ _)).trans (wp_congr λx g=>?_)
 cases x
 .exact aa
 .exact Yq
end
section
variable{Q:Iter->G->Prop}
def aaV{a:E}:Jf J d (.Ym a) Y g X Q↔Jb J d a Y g X λu g=>∃j,u=.int j/\(-1000000<j/\j<1000000)/\Q (.YM 0 j.toNat) g:=by
 unfold Jf;delta IL;dsimp only;refine(wp_bind (by sleep 9) (by sleep 9)).trans (wp_congr λx g=>aa.trans ?_)
 cases x with
 |int a=>
  simp![];split
  .rename_i h;exact⟨λq=>⟨a,rfl,h,q⟩,λ⟨b,e,_,q⟩=>by cases e;exact q⟩
  .rename_i h;exact⟨λq=>q.elim,λ⟨b,e,h',q⟩=>by cases e;exact h h'⟩
 |_=>exact⟨λh=>h.elim,λ⟨_,e,_⟩=>by cases e⟩
def abG{a b:E}:Jf J d (.Vr a b) Y g X Q↔Jb J d a Y g X λu g=>Jb J d b Y g X λw g=>∃i j,u=.int i/\w=.int j/\(-1000000<i/\i<1000000 /\ -1000000<j/\j<1000000)/\Q (.YM i (j-i).toNat) g:=by
 unfold Jf;delta IL;dsimp only;refine(wp_bind (by sleep 9) (by sleep 9)).trans (wp_congr λx g=>(wp_bind (by sleep 9) (by sleep 9)).trans (wp_congr λy g=>aa.trans ?_))
 cases x with
 |int a=>
  cases y with
  |int b=>
   simp![];split
   .rename_i h;exact⟨λq=>⟨a,b,rfl,rfl,h,q⟩,λ⟨_,_,e,e',_,q⟩=>by cases e;cases e';exact q⟩
   .rename_i h;exact⟨λq=>q.elim,λ⟨_,_,e,e',h',q⟩=>by cases e;cases e';exact h h'⟩
  |_=>exact⟨λh=>h.elim,λ⟨_,_,_,e,_⟩=>by cases e⟩
 |_=>exact⟨λh=>h.elim,λ⟨_,_,e,_⟩=>by cases e⟩
theorem I_e{e:E}(h:CO e=true):Jf J d e Y g X Q ↔ Jb J d e Y g X λu g=>holds (match u with
  |.ZX xs=>.ok (.seq xs) g
  |.xn _ xs=>.ok (.seq xs) g
  |.ref n=>match g[n]? with
   |some (.M _)=>.ok (.M n) g
   |some (.ZG Z4)=>.ok (.ZG n) (g.set n (.Zs Z4))
   |some (.Zs _)=>.ok (.ZG n) g
   |_=>.ZU
  |_=>.ZU) X Q:=by
 unfold Jf;have:(λn=>IL (lv J d n) e Y g)=λn=>((lv J d n).ev e Y g).bind λu g=>match u with
  |.ZX xs=>.ok (.seq xs) g
  |.xn _ xs=>.ok (.seq xs) g
  |.ref n=>match g[n]? with
   |some (.M _)=>.ok (.M n) g
   |some (.ZG Z4)=>.ok (.ZG n) (g.set n (.Zs Z4))
   |some (.Zs _)=>.ok (.ZG n) g
   |_=>.ZU
  |_=>.ZU:=by
  funext n;cases e<;>first|rfl|cases h
 rw[this];refine(wp_bind (by sleep 9) (by sleep 9)).trans (wp_congr λ_ _=>?_);exact aa
end
section
variable{Q:Fl->G->Prop}
def qX:wpS J d [] Y g X Q↔Q (.nx Y) g:=by rw[qe];simp![IT,aa];rfl
def abg{s:Z6}{a:List Z6}:wpS J d (s::a) Y g X Q↔Jg J d s Y g X λf g=>match f with|.nx ZR=>wpS J d a ZR g X Q|f=>Q f g:=by
 rw[qe];simp![IT];refine(wp_bind (by exact m1 _ _ _) (by intro f g;cases f;exact mS _ _ _;exact mK _;exact mK _;exact mK _)).trans (wp_congr λx g=>?_)
 cases x<;>first|exact Yq|exact aa
def adE{e:E}:Jg J d (.ret e) Y g X Q↔Jb J d e Y g X λu g=>Q (.rt u) g:=by
 unfold Jg;delta IS;dsimp only;exact(wp_bind (by sleep 9) (by sleep 9)).trans (wp_congr λx g=>aa)
def adF{t:Tg}{e:E}:Jg J d (.set t e) Y g X Q↔Jb J d e Y g X λu g=>∃ZR,Ae t (IK t u g) Y=some ZR/\Q (.nx ZR) g:=by
 unfold Jg;delta IS;dsimp only;refine(wp_bind (by sleep 9) (by sleep 9)).trans (wp_congr λx g=>aa.trans ?_)
 cases Ae t (IK t x g) Y with
 |none=>exact⟨λh=>h.elim,λ⟨_,e,_⟩=>by cases e⟩
 |some a=>exact⟨λh=>⟨a,rfl,h⟩,λ⟨b,e,h⟩=>by cases e;exact h⟩
def ada{a b:E}:Jg J d (.par i j a b) Y g X Q↔Jb J d a Y g X λu g=>Jb J d b Y g X λw g=>(i<Y.length/\j<Y.length)/\Q (.nx ((Y.set i (some u)).set j (some w))) g:=by
 unfold Jg;delta IS;dsimp only;refine(wp_bind (by sleep 9) (by sleep 9)).trans (wp_congr λx g=>(wp_bind (by sleep 9) (by sleep 9)).trans (wp_congr λy g=>aa.trans ?_))
 split
 .rename_i h;exact⟨λq=>⟨h,q⟩,λq=>q.2⟩
 .rename_i h;exact⟨λq=>q.elim,λq=>h q.1⟩
def aba{a e:E}{c:List Nat}:Jg J d (.fset a j c e) Y g X Q↔Jb J d e Y g X λu g=>Jb J d a Y g X λx g=>∃g',Bh x j c u g=some g'/\Q (.nx Y) g':=by
 unfold Jg;delta IS;dsimp only;refine(wp_bind (by sleep 9) (by sleep 9)).trans (wp_congr λu g=>(wp_bind (by sleep 9) (by sleep 9)).trans (wp_congr λx g=>aa.trans ?_))
 cases Bh x j c u g with
 |none=>exact⟨λh=>h.elim,λ⟨_,e,_⟩=>by cases e⟩
 |some a=>exact⟨λh=>⟨a,rfl,h⟩,λ⟨b,e,h⟩=>by cases e;exact h⟩
def adl{o i e:E}:Jg J d (.sub o i e) Y g X Q↔Jb J d e Y g X λu g=>Jb J d o Y g X λx g=>Jb J d i Y g X λy g=>holds (subAt x y u Y g) X Q:=by
 unfold Jg;delta IS;dsimp only;refine(wp_bind (by sleep 9) (by sleep 9)).trans (wp_congr λ_ _=>?_);refine(wp_bind (by sleep 9) (by sleep 9)).trans (wp_congr λ_ _=>?_);refine(wp_bind (by sleep 9) (by sleep 9)).trans (wp_congr λ_ _=>?_);exact aa
def adm{e:E}:Jg J d (.exp e) Y g X Q↔Jb J d e Y g X λ_ g=>Q (.nx Y) g:=by
 unfold Jg;delta IS;dsimp only;exact(wp_bind (by sleep 9) (by sleep 9)).trans (wp_congr λx g=>aa)
def adt{c:E}{a b:List Z6}:Jg J d (.Zx c a b) Y g X Q↔Jc J d c Y g X λk g=>if k then wpS J d a Y g X Q else wpS J d b Y g X Q:=by
 unfold Jg;delta IS;dsimp only;refine(wp_bind (by sleep 9) (by intro k g;cases k;exact mS _ _ _;exact mS _ _ _)).trans (wp_congr λx g=>?_)
 cases x<;>exact Yq
def adj{t:Tg}{it:E}{b:List Z6}:Jg J d (.for t it b) Y g X Q↔Jf J d it Y g X λi g=>Ji J d t i 0 b Y g X Q:=by
 unfold Jg;delta IS;dsimp only;exact wp_bind (by sleep 9) (by sleep 9)
def acO{c:E}{b:List Z6}:Jh J d c b Y g X Q↔Jc J d c Y g X λk g=>if k then wpS J d b Y g X λf g=>(match f with
  |.nx ZR=>Jh J d c b ZR g X Q
  |.ct ZR=>Jh J d c b ZR g X Q
  |.bk ZR=>Q (.nx ZR) g
  |.rt u=>Q (.rt u) g)else Q (.nx Y) g:=by
 rw[abX];simp![IU];refine(wp_bind (mT _ _ _) λk g=>by cases k;exact mK _;refine mB (mS _ _ _) λf g=>?_;cases f;exact mW _ _ _ _;exact mK _;exact mK _;exact mW _ _ _ _).trans (wp_congr λx g=>?_)
 cases x
 .exact aa
 .simp only [Uc]
  refine(wp_bind (by sleep 9) (by intro f g;cases f;exact mW _ _ _ _;exact mK _;exact mK _;exact mW _ _ _ _)).trans (wp_congr λf g=>?_)
  cases f<;>first|exact Yq|exact aa
def hY{t:Tg}{it:Iter}{b:List Z6}:Ji J d t it i b Y g X Q ↔ ∃o,next it i g=some o/\match o with
  |none=>Q (.nx Y) g
  |some u=>∃a,Ae t u Y=some a/\wpS J d b a g X λf g=>match f with
   |.nx ZR=>Ji J d t it (i+1) b ZR g X Q
   |.ct ZR=>Ji J d t it (i+1) b ZR g X Q
   |.bk ZR=>Q (.nx ZR) g
   |.rt u=>Q (.rt u) g:=by
 rw[acs];simp![IV];cases next it i g with
 |none=>simp![aa];exact⟨λh=>h.elim,λ⟨_,e,_⟩=>by cases e⟩
 |some o=>
  cases o with
  |none=>simp![aa];exact⟨λh=>⟨none,rfl,h⟩,λ⟨o,e,h⟩=>by cases e;exact h⟩
  |some u=>
   simp![];cases c:Ae t u Y with
   |none=>simp![aa];exact⟨λh=>h.elim,λ⟨_,e,h⟩=>by cases e;let⟨_,e,_⟩:=h;rw[c]at e;cases e⟩
   |some a=>
    simp![];refine(wp_bind (by sleep 9) (by intro f g;cases f;exact mF _ _ _ _ _ _;exact mK _;exact mK _;exact mF _ _ _ _ _ _)).trans ?_
    refine Iff.trans (wp_congr (Q':=λf g=>match f with
       |.nx ZR=>Ji J d t it (i+1) b ZR g X Q
       |.ct ZR=>Ji J d t it (i+1) b ZR g X Q
       |.bk ZR=>Q (.nx ZR) g
       |.rt u=>Q (.rt u) g) λf g=>?_) ?_
    .cases f<;>first|exact Yq|exact aa
    exact⟨λh=>⟨some u,rfl,a,c,h⟩,λ⟨o,e,h⟩=>by cases e;let⟨j,e,h⟩:=h;rw[c]at e;cases e;exact h⟩
end
def aZ{it:Iter}{t:Tg}{c:List (Tg×E×List E)}{Q:List U->G->Prop}:Jj J d it i t cs c elt ZS Y g X Q ↔ ∃o,next it i g=some o/\match o with
  |none=>Q ZS g
  |some u=>AK t Y=true /\∃a,Ae t u Y=some a/\Je J d cs a g (λ_ _ _=>False) λk g=>if k then
    match c with
    |[]=>Jb J d elt a g (λ_ _ _=>False) λv g=>ZS.length<Ac/\Jj J d it (i+1) t cs c elt (ZS++[v]) Y g X Q
    |(t2,X7,Xu)::Xe=>Jf J d X7 a g (λ_ _ _=>False) λj g=>Jj J d j 0 t2 Xu Xe elt ZS a g (λ_ _ _=>False) λy g=>Jj J d it (i+1) t cs c elt y Y g X Q
   else Jj J d it (i+1) t cs c elt ZS Y g X Q:=by
 rw[ac1];simp![IW];cases next it i g with
 |none=>simp![aa];exact⟨λh=>h.elim,λ⟨_,e,_⟩=>by cases e⟩
 |some o=>
  cases o with
  |none=>simp![aa];exact⟨λh=>⟨none,rfl,h⟩,λ⟨o,e,h⟩=>by cases e;exact h⟩
  |some u=>
   simp![];by_cases w:AK t Y=true
   .simp only [w,Uc]
    cases r:Ae t u Y with
    |none=>simp![aa];exact⟨λh=>h.elim,λ⟨_,e,h⟩=>by cases e;let⟨_,_,e,_⟩:=h;rw[r]at e;cases e⟩
    |some a=>
     simp![];refine Iff.trans ?_ ⟨λh=>⟨some u,rfl,trivial,a,r,h⟩,λ⟨o,e,h⟩=>by cases e;let⟨_,z,e,h⟩:=h;rw[r]at e;cases e;exact h⟩
     cases c with
     |nil=>
      refine(aA (by sleep 9) (by intro k g;cases k;exact mM _ _ _ _ _ _ _ _ _;refine mBB (mE _ _ _) λv g=>?_;by_cases h:ZS.length<Ac;simp![h,Uc];exact mM _ _ _ _ _ _ _ _ _;simp![h,W6];exact mK _)).trans (wp_congr λk g=>?_)
      cases k
      .exact Yq
      .refine Iff.trans (aA (by sleep 9) (by intro v g;by_cases h:ZS.length<Ac;simp![h,Uc];exact mM _ _ _ _ _ _ _ _ _;simp![h,W6];exact mK _)) (wp_congr λv g=>?_)
       by_cases h:ZS.length<Ac
       .simp only [h,Uc];exact⟨λq=>⟨trivial,q⟩,λq=>q.2⟩
       .simp only [h,W6];exact⟨λ⟨_,q⟩=>q.elim,λq=>q.1.elim⟩
     |cons t2 Xe=>
      let⟨t2,X7,Xu⟩:=t2;refine(aA (by sleep 9) (by intro k g;cases k;exact mM _ _ _ _ _ _ _ _ _;exact mBB (mI _ _ _) λ_ _=>mBB (mM _ _ _ _ _ _ _ _ _) λ_ _=>mM _ _ _ _ _ _ _ _ _)).trans (wp_congr λk g=>?_)
      cases k
      .exact Yq
      .refine Iff.trans (aA (by sleep 9) (by sleep 9)) (wp_congr λj g=>?_)
       exact aA (by sleep 9) (by sleep 9)
   .have f:AK t Y=false:=by cases h:AK t Y;rfl;exact absurd h w
    simp![f];exact⟨λ⟨_,h⟩=>h.elim,λ⟨_,e,h⟩=>by cases e;exact absurd h.1 #[3]⟩
def ac4{f:Nat}{F:Fn}(b:J[f]?=some F)(a:S.length=F.np):Ja J (d+1) f S g X Q↔wpS J d F.body (S.map some++List.replicate (F.ns-S.length) none) g X λc g=>match c with
  |.rt u=>Q u g
  |.nx _=>Q .ZL g
  |_=>False:=by
 unfold Ja;simp![Aa,b,BG,a,Uc];refine(wp_bind (f:=λn=>(lv J d n).ex F.body (S.map some++List.replicate (F.ns-F.np) none) g) (mS _ _ _) (by sleep 9)).trans (wp_congr λx g=>aa.trans ?_)
 cases x<;>exact Yq
def zC{f:Nat}(h:Ja J d f S g (λ_ _ _=>False) Q):∃fu u g',Aa J fu d f S g=.ok u g'/\Q u g':=by
 let⟨n,h⟩:=h;have h:holds (Aa J n d f S g) (λ_ _ _=>False) Q:=h;revert h;cases e:Aa J n d f S g with
 |ok u g'=>exactλh=>⟨n,u,g',e,h⟩
 |exc c fs g=>exactλh=>h.elim
 |ZU=>exactλh=>h.elim
end
section
variable{J:List Fn}{X:XP}{Y ZR:Su}
def ph{c:E}{b:List Z6}{Q:Fl->G->Prop}:Jg J d (.V3 c b) Y g X Q↔Js J d c b Y g X (lk Q):=Yq
def abr{t:Tg}{it:E}{b:List Z6}{Q:Fl->G->Prop}:Jg J d (.for t it b) Y g X Q↔Jf J d it Y g X λi g=>Jr J d t i 0 b Y g X (lk Q):=adj
def acU{e:E}{Q:Option Int->G->Prop}:Jd J d (some e) Y g X Q↔Jb J d e Y g X λu g=>Jk (match u with|.int i=>some i|_=>none) <| lk λi=>Q (some i) g:=abR.trans (wp_congr λx g=>by
 cases x with
 |int z=>exact⟨λ⟨_,e,h⟩=>(by cases e;exact h),λh=>⟨z,rfl,h⟩⟩
 |_=>exact⟨λ⟨_,e,h⟩=>(by cases e),λh=>h.elim⟩)
section
def zk{a e:E}{b:List Nat}{Q:Fl->G->Prop}:Jg J d (.fset a j b e) Y g X Q↔Jb J d e Y g X λu g=>Jb J d a Y g X λx g=>Jk (Bh x j b u g) <| lk λg'=>Q (.nx Y) g':=by simp![aba,aK]
end
section
variable{Q:Bool->G->Prop}
def aeh{a b:E}:Jc J d (.and a b) Y g X Q↔Jc J d a Y g X λk g=>Jl k (lk (Jc J d b Y g X Q)) (lk (Q false g)):=ac8.trans (wp_congr λk g=>bX)
def t_or{a b:E}:Jc J d (.or a b) Y g X Q↔Jc J d a Y g X λk g=>Jl k (lk (Q true g)) (lk (Jc J d b Y g X Q)):=T_or.trans (wp_congr λk g=>bX)
def t_e{e:E}(h:plainT e=true):Jc J d e Y g X Q↔Jb J d e Y g X λx g=>Jk (IB x g) <| lk λc=>Q c g:=(T_e h).trans (wp_congr λx g=>aK)
def abx{c:E}:Je J d (c::cs) Y g X Q↔Jc J d c Y g X λk g=>Jl k (lk (Je J d cs Y g X Q)) (lk (Q false g)):=aaX.trans (wp_congr λk g=>bX)
end
section
variable{Q:Iter->G->Prop}
def Aj(j:Int):Bool:=@decide (-1000000<j/\j<1000000) (Classical.propDecidable _)
def aG{j:Int}(h : -1000000<j)(h':j<1000000):Aj j=true:=by unfold Aj;exact @decide_eq_true _ (Classical.propDecidable _) ⟨h,h'⟩
def abV{a:E}:Jf J d (.Ym a) Y g X Q↔Jb J d a Y g X λu g=>Jk (match u with|.int i=>some i|_=>none) <| lk λj=>Jl (Aj j) (lk (Q (.YM 0 j.toNat) g)) (lk False):=aaV.trans (wp_congr λu g=>by
 cases u with
 |int i=>
  show _↔Jl (Aj i) (lk _) (lk _);by_cases h : -1000000<i/\i<1000000
  .rw [show Aj i=true by unfold Aj;exact @decide_eq_true _ (Classical.propDecidable _) h]
   exact⟨λ⟨_,e,_,q⟩=>(by cases e;exact q),λq=>⟨i,rfl,h,q⟩⟩
  .rw [show Aj i=false by unfold Aj;exact @decide_eq_false _ (Classical.propDecidable _) h]
   exact⟨λ⟨_,e,q,_⟩=>(by cases e;exact h q),λq=>q.elim⟩
 |_=>exact⟨λ⟨_,e,h⟩=>(by cases e),λh=>h.elim⟩)
def abD{a b:E}:Jf J d (.Vr a b) Y g X Q↔Jb J d a Y g X λu g=>Jb J d b Y g X λw g=>Jk (match u with|.int i=>some i|_=>none) <| lk λi=>Jk (match w with|.int i=>some i|_=>none) <| lk λj=>Jl (Aj i&&Aj j) (lk (Q (.YM i (j-i).toNat) g)) (lk False):=abG.trans (wp_congr λu g=>wp_congr λw g=>by
 cases u with
 |int i=>
  cases w with
  |int j=>
   show _↔Jl (Aj i&&Aj j) (lk _) (lk _);by_cases h:(Aj i&&Aj j)=true
   .rw [h]
    have h':=h;simp![Aj,Yb,Xq]at h';exact⟨λ⟨_,_,e,e',_,q⟩=>(by cases e;cases e';exact q),λq=>⟨i,j,rfl,rfl,⟨h'.1.1,h'.1.2,h'.2.1,h'.2.2⟩,q⟩⟩
   .rw [Bool.not_eq_true]at h
    rw[h];exact⟨λ⟨_,_,e,e',q,_⟩=>by cases e;cases e';simp[Aj,q]at h,λq=>q.elim⟩
  |_=>exact⟨λ⟨_,_,e,e',h⟩=>(by cases e'),λh=>h.elim⟩
 |_=>exact⟨λ⟨_,_,e,h⟩=>(by cases e),λh=>h.elim⟩)
def BI(u:U)(g:G):Option (Iter×G):=match u with
 |.ZX xs=>some (.seq xs,g)
 |.xn _ xs=>some (.seq xs,g)
 |.ref n=>match g[n]? with
  |some (.M _)=>some (.M n,g)
  |some (.ZG Z4)=>some (.ZG n,g.set n (.Zs Z4))
  |some (.Zs _)=>some (.ZG n,g)
  |_=>none
 |_=>none
def i_e{e:E}(h:CO e=true):Jf J d e Y g X Q↔Jb J d e Y g X λu g=>Jk (BI u g) <| lk λp=>Q p.1 p.2:=(I_e h).trans (wp_congr λu g=>by
 cases u with
 |ref n=>
  simp![BI];cases g[n]? with
  |none=>exact Yq
  |some o=>cases o<;>exact Yq
 |_=>exact Yq)
end
section
variable{Q:Fl->G->Prop}
def acJ{s:Z6}{a:List Z6}:wpS J d (s::a) Y g X Q↔Jg J d s Y g X λf g=>Jm f (lk (λZR=>wpS J d a ZR g X Q)) (lk λf=>Q f g):=abg.trans (wp_congr λf g=>by cases f<;>exact Yq)
def aaY{t:Tg}{e:E}:Jg J d (.set t e) Y g X Q↔Jb J d e Y g X λu g=>Jk (Ae t (IK t u g) Y) <| lk λZR=>Q (.nx ZR) g:=adF.trans (wp_congr λx g=>aK)
def aaS{a b:E}:Jg J d (.par i j a b) Y g X Q↔Jb J d a Y g X λu g=>Jb J d b Y g X λw g=>Jl (decide (i<Y.length)&&decide (j<Y.length)) (lk (Q (.nx ((Y.set i (some u)).set j (some w))) g)) (lk False):=ada.trans (wp_congr λx g=>wp_congr λy g=>by
 by_cases h:i<Y.length<;>by_cases k:j<Y.length<;>simp[h,k,Jl])
def abo{o i e:E}:Jg J d (.sub o i e) Y g X Q↔Jb J d e Y g X λu g=>Jb J d o Y g X λx g=>Jb J d i Y g X λy g=>hk (subAt x y u Y g) X (lk Q):=adl
def abP{c:E}{a b:List Z6}:Jg J d (.Zx c a b) Y g X Q↔Jc J d c Y g X λk g=>Jl k (lk (wpS J d a Y g X Q)) (lk (wpS J d b Y g X Q)):=adt.trans (wp_congr λk g=>bX)
def ab1{c:E}{b:List Z6}:Jh J d c b Y g X Q↔Jc J d c Y g X λk g=>Jl k (lk (wpS J d b Y g X λf g=>Jn f (lk (λZR=>Jh J d c b ZR g X Q)) (lk λf=>Q f g))) (lk (Q (.nx Y) g)):=acO.trans (wp_congr λk g=>bX.trans (by
 cases k
 .exact Yq
 .exact wp_congr λf g=>by cases f<;>exact Yq))
def qb{f:Nat}{F:Fn}{Q:U->G->Prop}(b:J[f]?=some F)(a:S.length=F.np):Ja J (d+1) f S g X Q↔wpS J d F.body (S.map some++List.replicate (F.ns-S.length) none) g X λc g=>Jo c <| lk λu=>Q u g:=(ac4 b a).trans (wp_congr λf g=>by cases f<;>exact Yq)
def b8{t:Tg}{it:Iter}{b:List Z6}(S:List U)(a:Nat->Su->G->Prop)
  (c:∀k Y g,a k Y g->next it k g=some S[k]?)
  (j:∀k u Y g,S[k]?=some u->a k Y g->Jk (Ae t u Y) (lk λm=>wpS J d b m g X λf g=>Jn f (lk (λZR=>a (k+1) ZR g)) (lk λf=>Q f g)))
  (l:∀Y g,a S.length Y g->Q (.nx Y) g):∀(n i:Nat) (Y:Su) (g:G),i+n=S.length->a i Y g->Ji J d t it i b Y g X Q
 |0,i,Y,g,e,h=>by
  have e:i=S.length:=by lia
  subst e;rw[hY];exact⟨none,by rw[c _ _ _ h];simp,l _ _ h⟩
 |n+1,i,Y,g,e,h=>by
  have hi:i<S.length:=by lia
  rw[hY];let⟨m,o,w⟩:=aK.2 (j i S[i] Y g (Y9 hi) h);refine⟨some S[i],by rw[c _ _ _ h,Y9 hi],m,o,wp_mono w λf g q=>?_⟩
  cases f with
  |nx ZR=>exact b8 S a c j l n (i+1) ZR g (by lia) q
  |ct ZR=>exact b8 S a c j l n (i+1) ZR g () q
  |bk ZR=>exact q
  |rt u=>exact q
def ir{c:E}{b:List Z6}(e:Nat->Su->G->Prop)
  (i:∀n Y g,e n Y g->Jc J d c Y g X λk g=>Jl k (lk (wpS J d b Y g X λf g=>Jn f (lk (λZR=>∃m,m<n/\e m ZR g)) (lk λf=>Q f g))) (lk (Q (.nx Y) g))):∀(n:Nat) (Y:Su) (g:G),e n Y g->Jh J d c b Y g X Q:=by
 intro n
 induction n using Nat.strongRecOn with
 |_ n ih=>
  intro Y g h;rw[ab1];refine wp_mono (i n Y g h) λk g q=>?_;cases k
  .exact q
  .refine wp_mono q λf g q=>?_
   cases f with
   |nx ZR=>let⟨m,a,q⟩:=q;exact ih m a _ _ q
   |ct ZR=>let⟨m,a,q⟩:=q;exact ih m a _ _ q
   |bk ZR=>exact q
   |rt u=>exact q
end
def Jt{b:Type}(o:Option b){A:Prop}{Q:b->Prop}(_:Lk A)(_:Lk Q):Prop:=match o with
 |none=>A
 |some a=>Q a
def oc_n{A:Prop}{Q:α->Prop}:Jt none (lk A) (lk Q)=A:=propext Yq
def oc_s{a:α}{A:Prop}{Q:α->Prop}:Jt (some a) (lk A) (lk Q)=Q a:=propext Yq
def a8{t:Tg}{b:List Z6}{Q:Fl->G->Prop}:Jr J d t (.seq xs) i b Y g X (lk Q)↔Jt xs[i]? (lk (Q (.nx Y) g)) (lk λu=>Jk (Ae t u Y) (lk λc=>wpS J d b c g X λf g=>Jn f (lk λZR=>Jr J d t (.seq xs) (i+1) b ZR g X (lk Q)) (lk λf=>Q f g))):=by
 refine Iff.trans hY ?_;constructor
 .rintro ⟨o,e,h⟩
  cases e;cases a:xs[i]? with
  |none=>rw[a]at h;exact h
  |some u=>
   rw[a]at h;let⟨c,j,h⟩:=h;refine aK.1 ⟨c,j,wp_mono h λf g q=>?_⟩;cases f<;>exact q
 .intro h
  refine⟨xs[i]?,rfl,?_⟩;cases a:xs[i]? with
  |none=>rw[a]at h;exact h
  |some u=>
   rw[a]at h;let⟨c,j,h⟩:=aK.2 h;refine⟨c,j,wp_mono h λf g q=>?_⟩;cases f<;>exact q
end
def AI(f:E->Su->Option U):List E->Su->Option (List U)
 |[],_=>some []
 |e::es,Y=>match f e Y with
  |some u=>match AI f es Y with
   |some S=>some (u::S)
   |none=>none
  |none=>none
def By(x y:Option U):Option U:=match x with
 |some (.int i)=>match y with
  |some (.int j)=>some (.int (i+j))
  |_=>none
 |_=>none
def BD(x y:Option U):Option U:=match x with
 |some (.int i)=>match y with
  |some (.int j)=>some (.int (i-j))
  |_=>none
 |_=>none
def tupP(x:Option (List U)):Option U:=match x with
 |some S=>match Nat.ble S.length 1000 with
  |true=>some (.ZX S)
  |false=>none
 |none=>none
def Ju(x:Option U)(k:Int):Option U:=match x with
 |some (.ZX xs)=>IC xs k
 |_=>none
def Dk(o:Option (Option U)):Option U:=match o with
 |some o=>o
 |none=>none
def Jv:Nat->E->Su->Option U
 |0,_,_=>none
 |n+1,e,Y=>match e with
  |.L i=>Dk Y[i]?
  |.ZZ u=>some u
  |.ZX es=>tupP (AI (Jv n) es Y)
  |.ZT .add a b=>By (Jv n a Y) (Jv n b Y)
  |.ZT .sub a b=>BD (Jv n a Y) (Jv n b Y)
  |.idx a (.ZZ (.int k))=>Ju (Jv n a Y) k
  |_=>none
section
variable{J:List Fn}{X:XP}{Y:Su}
def pEs{f:E->Su->Option U}(a:∀e u (Q:U->G->Prop),f e Y=some u->(Jb J d e Y g X Q↔Q u g)):∀(es:List E) (S:List U) (Q:List U->G->Prop),AI f es Y=some S->(An J d es Y g X Q↔Q S g)
 |[],S,Q,h=>by cases h;exact nJ
 |e::es,S,Q,h=>by
  cases he:f e Y with
  |none=>simp![AI,he]at h;cases h
  |some u=>
   cases hs:AI f es Y with
   |none=>simp![AI,he,hs]at h;cases h
   |some b=>
    simp![AI,he,hs]at h;cases h;exact kQ.trans ((a e u _ he).trans (pEs a es b _ hs))
def tP{f:Option U->Option U->Option U}{a b:E}{x y:Option U}{u:U}{Q:U->G->Prop}(h:∀u (Q:U->G->Prop),x=some u->(Jb J d a Y g X Q↔Q u g))(e:∀u (Q:U->G->Prop),y=some u->(Jb J d b Y g X Q↔Q u g))(c:f x y=some u)(k:∀u,f x y=some u ->∃i j,x=some (.int i)/\y=some (.int j)/\Iq op (.int i) (.int j)=some u):Jb J d (.ZT op a b) Y g X Q↔Q u g:=by
 let⟨i,j,n,m,l⟩:=k u c;refine sP.trans ((h _ _ n).trans ((e _ _ m).trans ?_));rw[ui,l,eB]
def pE:∀(n:Nat) (e:E) (u:U) (Q:U->G->Prop),Jv n e Y=some u->(Jb J d e Y g X Q↔Q u g)
 |0,_,_,_,h=>by cases h
 |n+1,e,u,Q,h=>by
  have ih:=pE n;cases e with
  |L i=>
   have h:Dk Y[i]?=some u:=h;refine qS.trans ?_;cases hs:Y[i]? with
   |none=>rw[hs]at h;cases h
   |some o=>rw[hs]at h;have h:o=some u:=h;subst h;exact Yq
  |ZZ v=>cases(show some v=some u from h);exact rg
  |ZX es=>
   have h:tupP (AI (Jv n) es Y)=some u:=h;cases hs:AI (Jv n) es Y with
   |none=>rw[hs]at h;cases h
   |some S=>
    rw[hs]at h;simp![tupP]at h;cases c:Nat.ble S.length 1000 with
    |true=>
     rw[c]at h;cases h;refine tw.trans ((pEs (λe u Q h=>ih e u Q h) es S _ hs).trans ?_);rw[gi (by have:=Nat.le_of_ble_eq_true c;lia),iA]
    |false=>rw[c]at h;cases h
  |ZT op a b=>
   cases op with
   |add=>
    have h:By (Jv n a Y) (Jv n b Y)=some u:=h;refine tP (f:=By) (λu Q h=>ih a u Q h) (λu Q h=>ih b u Q h) h λu h=>?_;unfold By at h;split at h
    .split at h
     .cases h;exact⟨_,_,‹_›,‹_›,rfl⟩
     .cases h
    .cases h
   |sub=>
    have h:BD (Jv n a Y) (Jv n b Y)=some u:=h;refine tP (f:=BD) (λu Q h=>ih a u Q h) (λu Q h=>ih b u Q h) h λu h=>?_;unfold BD at h;split at h
    .split at h
     .cases h;exact⟨_,_,‹_›,‹_›,rfl⟩
     .cases h
    .cases h
   |_=>exact nomatch (show none=some u from h)
  |idx a b=>
   cases b with
   |ZZ v=>
    cases v with
    |int k=>
     have h:Ju (Jv n a Y) k=some u:=h;cases j:Jv n a Y with
     |none=>rw[j]at h;cases h
     |some x=>
      rw[j]at h;refine sv.trans ((ih a x _ j).trans (rg.trans ?_));cases x with
      |ZX xs=>
       have h:IC xs k=some u:=h;show Jk (IC xs k) (lk _)↔_;rw[h,eB]
      |_=>cases h
    |_=>exact nomatch (show none=some u from h)
   |_=>exact nomatch (show none=some u from h)
  |_=>exact nomatch (show none=some u from h)
def Jw(J:List Fn)(d:Nat)(e:E)(Y:Su)(g:G)(X:XP)(Q:U->G->Prop):Prop:=Jb J d e Y g X Q
def Jx(J:List Fn)(d:Nat)(a:List E)(Y:Su)(g:G)(X:XP)(Q:List U->G->Prop):Prop:=An J d a Y g X Q
def p_E{e:E}:Jb J d e Y g X Q=Jt (Jv 8 e Y) (lk (Jw J d e Y g X Q)) (lk λu=>Q u g):=propext (by
 cases h:Jv 8 e Y with
 |none=>exact Yq
 |some u=>exact pE 8 e u Q h)
def p_Es{a:List E}{Q:List U->G->Prop}:An J d a Y g X Q=Jt (AI (Jv 8) a Y) (lk (Jx J d a Y g X Q)) (lk λS=>Q S g):=propext (by
 cases h:AI (Jv 8) a Y with
 |none=>exact Yq
 |some S=>exact pEs (λe u Q h=>pE 8 e u Q h) a S Q h)
def kT{a:Nat}{b:List Nat}{t:Tg}{it:E}{c:List (Tg×E×List E)}{k v:E}:Jw J d (.Wo a b ((t,it,cs)::c) k v) Y g X Q↔Jf J d it Y g X λi g=>Jq J d i 0 t cs c (.pair k v) [] (List.replicate a none++b.map λj=>(Y[j]?).getD none) g (λ_ _ _=>False) (lk λS g=>Jk (dfold S []) <| lk λZ4=>Q (.ref g.length) (g++[.ZG Z4])):=acx
def lr{k v:E}:Jw J d (.pair k v) Y g X Q↔Jb J d k Y g X λx g=>Jb J d v Y g X λy g=>Jk (keyOf x) <| lk λ_=>Q (.ZX [x,y]) g:=aci
def lE{a:Nat}{b:List Nat}{t:Tg}{it:E}{c:List (Tg×E×List E)}:Jw J d (.comp a b ((t,it,cs)::c) elt) Y g X Q↔Jf J d it Y g X λi g=>Jq J d i 0 t cs c elt [] (List.replicate a none++b.map λj=>(Y[j]?).getD none) g (λ_ _ _=>False) (lk λS g=>S.length<=Ac/\Q (.ref g.length) (g++[.M S])):=abp
def lY:Jw J d .Wp Y g X Q↔Q (.ref g.length) (g++[.ZG []]):=aa4
def abT:Jw J d (.L i) Y g X Q↔Jk Y[i]? (lk λo=>Jk o (lk λu=>Q u g)):=qS
end
section
variable{Y:Su}
def rG{f:E->Su->Option U}:AI f [] Y=some []:=rfl
def qv{f:E->Su->Option U}{e:E}{a:List E}:AI f (e::a) Y=match f e Y with
  |some u=>match AI f a Y with
   |some S=>some (u::S)
   |none=>none
  |none=>none:=rfl
def sf:Jv (n+1) (.L i) Y=Dk Y[i]?:=rfl
def tJ:Jv (n+1) (.ZZ u) Y=some u:=rfl
def tF{a:List E}:Jv (n+1) (.ZX a) Y=tupP (AI (Jv n) a Y):=rfl
def qU{a b:E}:Jv (n+1) (.ZT .add a b) Y=By (Jv n a Y) (Jv n b Y):=rfl
def rO{a b:E}:Jv (n+1) (.ZT .sub a b) Y=BD (Jv n a Y) (Jv n b Y):=rfl
def uc{a:E}{k:Int}:Jv (n+1) (.idx a (.ZZ (.int k))) Y=Ju (Jv n a Y) k:=rfl
def oi{o:Option U}:Dk (some o)=o:=rfl
def pY{a:U}:tupP (some [a])=some (.ZX [a]):=rfl
def nk{a b:U}:tupP (some [a,b])=some (.ZX [a,b]):=rfl
def pz{a b c:U}:tupP (some [a,b,c])=some (.ZX [a,b,c]):=rfl
def pT{a b c d:U}:tupP (some [a,b,c,d])=some (.ZX [a,b,c,d]):=rfl
def nG{a b c d e:U}:tupP (some [a,b,c,d,e])=some (.ZX [a,b,c,d,e]):=rfl
def oy{a b c d e f:U}:tupP (some [a,b,c,d,e,f])=some (.ZX [a,b,c,d,e,f]):=rfl
def pA{a b c d e f g:U}:tupP (some [a,b,c,d,e,f,g])=some (.ZX [a,b,c,d,e,f,g]):=rfl
def oz{a b c d e f g h:U}:tupP (some [a,b,c,d,e,f,g,h])=some (.ZX [a,b,c,d,e,f,g,h]):=rfl
def oe:tupP none=none:=rfl
def nM{i j:Int}:By (some (.int i)) (some (.int j))=some (.int (i+j)):=rfl
def qc{i j:Int}:BD (some (.int i)) (some (.int j))=some (.int (i-j)):=rfl
def oj{y:Option U}:By none y=none:=rfl
def pL{y:Option U}:BD none y=none:=rfl
def nB{i:Int}:By (some (.int i)) none=none:=rfl
def ou{i:Int}:BD (some (.int i)) none=none:=rfl
def pf{y:Option U}:By (some (.ref i)) y=none:=rfl
def rL{k:Int}:Ju (some (.ZX xs)) k=IC xs k:=rfl
def rJ{k:Int}:Ju (some (.ref n)) k=none:=rfl
def se{k:Int}:Ju (some (.Zv xs)) k=none:=rfl
def tM{k:Int}:Ju (some (.xn c xs)) k=none:=rfl
def qZ{k:Int}:Ju none k=none:=rfl
def tS{a b:E}:Jv (n+1) (.ZT .mul a b) Y=none:=rfl
def om{a b:E}:Jv (n+1) (.ZT .fdiv a b) Y=none:=rfl
def rF{a b:E}:Jv (n+1) (.ZT .mod a b) Y=none:=rfl
def sZ{a b:E}:Jv (n+1) (.ZT .pow a b) Y=none:=rfl
def sY{o:Cp}{a b:E}:Jv (n+1) (.cmp o a b) Y=none:=rfl
def me{o q:Cp}{a b c:E}:Jv (n+1) (.chain o q a b c) Y=none:=rfl
def tV{a b:E}:Jv (n+1) (.and a b) Y=none:=rfl
def q_or{a b:E}:Jv (n+1) (.or a b) Y=none:=rfl
def sV{a:E}:Jv (n+1) (.not a) Y=none:=rfl
def rY{a:E}:Jv (n+1) (.neg a) Y=none:=rfl
def t9{c a b:E}:Jv (n+1) (.ite c a b) Y=none:=rfl
def rX{a:List E}:Jv (n+1) (.M a) Y=none:=rfl
def rR{a:E}{lo hi:Option E}:Jv (n+1) (.XR a lo hi) Y=none:=rfl
def sW{a:E}:Jv (n+1) (.rev a) Y=none:=rfl
def oO{f:Nat}{a:List E}:Jv (n+1) (.call f a) Y=none:=rfl
def t8{a:E}{b:List Nat}:Jv (n+1) (.fld a j b) Y=none:=rfl
def nO{f:Nat}{a ks:List E}:Jv (n+1) (.make c f a ks pm) Y=none:=rfl
def pd{a:E}{b ks:List E}:Jv (n+1) (.Yw a j tb b ks) Y=none:=rfl
def q_bi{b:Bi}{a:List E}:Jv (n+1) (.bi b a) Y=none:=rfl
def sQ{a:E}{t:Ty}:Jv (n+1) (.Yv a t) Y=none:=rfl
def sH{o v:E}:Jv (n+1) (.app o v) Y=none:=rfl
def mX{o v:E}:Jv (n+1) (.V4 o v) Y=none:=rfl
def s9{o v:E}:Jv (n+1) (.ext o v) Y=none:=rfl
def rE{o:E}:Jv (n+1) (.pop o) Y=none:=rfl
def nF  : Jv (n+1) .Wp Y=none:=rfl
def pU{a:List Nat}{e:E}:Jv (n+1) (.comp m a gs e) Y=none:=rfl
def pK{k v:E}:Jv (n+1) (.pair k v) Y=none:=rfl
def pQ{a:List Nat}{k v:E}:Jv (n+1) (.Wo m a gs k v) Y=none:=rfl
def tK{a:E}:Jv (n+1) (.idx a (.L i)) Y=none:=rfl
def tD{a:E}{f:Nat}{b:List E}:Jv (n+1) (.idx a (.call f b)) Y=none:=rfl
def sC{a:E}{b:List E}:Jv (n+1) (.idx a (.ZX b)) Y=none:=rfl
def rp{a b c:E}{o:Op}:Jv (n+1) (.idx a (.ZT o b c)) Y=none:=rfl
def r8{a:E}{s:PySem.Str}:Jv (n+1) (.idx a (.ZZ (.str s))) Y=none:=rfl
def r9{a b c:E}:Jv (n+1) (.idx a (.idx b c)) Y=none:=rfl
def sr{a b:E}:Jv (n+1) (.idx a (.neg b)) Y=none:=rfl
end
section
variable{J:List Fn}{X:XP}{Y:Su}{QF:Fl->G->Prop}{QB:Bool->G->Prop}{QI:Iter->G->Prop}{QL:List U->G->Prop}{QO:Option Int->G->Prop}{cp:Cp}{cq:Cp}{a:E}{b:E}{c:E}{e:E}{it:E}{o:E}{v:E}{k:Nat}{f:Nat}{cc:Nat}{cs:List Nat}{es:List E}{ks:List E}{p:Nat×List (Nat ⊕ U)}{x:U}{w:U}{ws:List U}{lo:Option E}{hi:Option E}{l:Option Int}{h:Option Int}{t:Tg}{ty:Ty}{z:Bool}{n:Int}{s:Z6}{ss:List Z6}{A:List Z6}{B:List Z6}{ao:Op}{st:Su}{bb:Bi}{X7:Iter}{pq:Iter×G}{g2:G}{nn:Nat}{ces:List E}{os:Option U}
def KV{b:Type}(g:G)(Q:b->G->Prop)(a:b):Prop:=Q a g
theorem KV_s{Q:α->G->Prop}{a:α}:Jk (some a) (lk (KV g Q))=Q a g:=propext Yq
theorem KV_c{Q:α->G->Prop}{a:α}{A:Prop}:Jt (some a) (lk A) (lk (KV g Q))=Q a g:=propext Yq
theorem KV_n{Q:α->G->Prop}{A:Prop}:Jt none (lk A) (lk (KV g Q))=A:=propext Yq
def uj{Q:α->G->Prop}{a:α}:KV g Q a=Q a g:=propext Yq
def k_E  : Jb J d e Y g X Q=Jt (Jv 8 e Y) (lk (Jw J d e Y g X Q)) (lk (KV g Q)):=p_E
def uh  : An J d es Y g X QL=Jt (AI (Jv 8) es Y) (lk (Jx J d es Y g X QL)) (lk (KV g QL)):=p_Es
def KB(g:G)(Q:U->G->Prop)(z:Bool):Prop:=Q (.bl z) g
theorem KB_s  : Jk (some z) (lk (KB g Q))=(Q (.bl z) g):=propext Yq
theorem KB_a  : KB g Q z=(Q (.bl z) g):=propext Yq
def Kl2(u:U)(a:List U->G->Prop)(S:List U)(g:G):Prop:=a (u::S) g
def tB  : Kl2 u QL S g=(QL (u::S) g):=propext Yq
def Kl1(J:List Fn)(d:Nat)(a:List E)(Y:Su)(X:XP)(b:List U->G->Prop)(u:U)(g:G):Prop:=An J d a Y g X (Kl2 u b)
def rN  : Kl1 J d es Y X QL u g=(An J d es Y g X (Kl2 u QL)):=propext Yq
def abh  : Jx J d [] Y g X QL↔QL [] g:=nJ
def lQ  : Jx J d (e::es) Y g X QL↔Jb J d e Y g X (Kl1 J d es Y X QL):=kQ
def DL(op:Op)(x:U)(X:XP)(Q:U->G->Prop)(y:U)(g:G):Prop:=ob op x y g X (lk Q)
def k7  : DL op x X Q y g=(ob op x y g X (lk Q)):=propext Yq
def FH(J:List Fn)(d:Nat)(op:Op)(b:E)(Y:Su)(X:XP)(Q:U->G->Prop)(x:U)(g:G):Prop:=Jb J d b Y g X (DL op x X Q)
def lu  : FH J d op b Y X Q x g=(Jb J d b Y g X (DL op x X Q)):=propext Yq
def sR  : Jw J d (.ZT op a b) Y g X Q↔Jb J d a Y g X (FH J d op b Y X Q):=sP
def ob_k{i:Int}{X:XP}:ob op (.int i) y g X (lk Q)=Jk (Iq op (.int i) y) (lk (KV g Q)):=ui
def B9(a:Cp)(x:U)(Q:U->G->Prop)(y:U)(g:G):Prop:=Jk (IA a x y g) (lk (KB g Q))
def mj  : B9 cp x Q y g=(Jk (IA cp x y g) (lk (KB g Q))):=propext Yq
def FA(J:List Fn)(d:Nat)(a:Cp)(b:E)(Y:Su)(X:XP)(Q:U->G->Prop)(x:U)(g:G):Prop:=Jb J d b Y g X (B9 a x Q)
def ll  : FA J d cp b Y X Q x g=(Jb J d b Y g X (B9 cp x Q)):=propext Yq
def uf  : Jw J d (.cmp cp a b) Y g X Q↔Jb J d a Y g X (FA J d cp b Y X Q):=adn
def Dx(J:List Fn)(d:Nat)(a:Cp)(y:U)(c:E)(Y:Su)(g:G)(X:XP)(Q:U->G->Prop)(z:Bool):Prop:=Jl z (lk (Jb J d c Y g X (B9 a y Q))) (lk (Q (.bl false) g))
def abL  : Jk (some z) (lk (Dx J d cq y c Y g X Q))=(Jl z (lk (Jb J d c Y g X (B9 cq y Q))) (lk (Q (.bl false) g))):=propext Yq
def oZ  : Dx J d cq y c Y g X Q z=(Jl z (lk (Jb J d c Y g X (B9 cq y Q))) (lk (Q (.bl false) g))):=propext Yq
def Es(J:List Fn)(d:Nat)(b:Cp)(a:Cp)(x:U)(c:E)(Y:Su)(X:XP)(Q:U->G->Prop)(y:U)(g:G):Prop:=Jk (IA b x y g) (lk (Dx J d a y c Y g X Q))
def qy  : Es J d cp cq x c Y X Q y g=(Jk (IA cp x y g) (lk (Dx J d cq y c Y g X Q))):=propext Yq
def Kch1(J:List Fn)(d:Nat)(e:Cp)(a:Cp)(b:E)(c:E)(Y:Su)(X:XP)(Q:U->G->Prop)(x:U)(g:G):Prop:=Jb J d b Y g X (Es J d e a x c Y X Q)
def qi  : Kch1 J d cp cq b c Y X Q x g=(Jb J d b Y g X (Es J d cp cq x c Y X Q)):=propext Yq
def l8  : Jw J d (.chain cp cq a b c) Y g X Q↔Jb J d a Y g X (Kch1 J d cp cq b c Y X Q):=yK
def Kand(J:List Fn)(d:Nat)(b:E)(Y:Su)(X:XP)(Q:U->G->Prop)(x:U)(g:G):Prop:=Jk (match x with|.bl z=>some z|_=>none) <| lk λz=>Jl z (lk (Jb J d b Y g X Q)) (lk (Q (.bl false) g))
def mV{J:List Fn}{b:E}{Y:Su}{X:XP}{z:Bool}:Kand J d b Y X Q (.bl z) g=Jl z (lk (Jb J d b Y g X Q)) (lk (Q (.bl false) g)):=propext Yq
def qT  : Jw J d (.and a b) Y g X Q↔Jb J d a Y g X (Kand J d b Y X Q):=ac7
def Kor(J:List Fn)(d:Nat)(b:E)(Y:Su)(X:XP)(Q:U->G->Prop)(x:U)(g:G):Prop:=Jk (match x with|.bl z=>some z|_=>none) <| lk λz=>Jl z (lk (Q (.bl true) g)) (lk (Jb J d b Y g X Q))
def sM{J:List Fn}{b:E}{Y:Su}{X:XP}{z:Bool}:Kor J d b Y X Q (.bl z) g=Jl z (lk (Q (.bl true) g)) (lk (Jb J d b Y g X Q)):=propext Yq
def k_or  : Jw J d (.or a b) Y g X Q↔Jb J d a Y g X (Kor J d b Y X Q):=e_or
def Knt(g:G)(Q:U->G->Prop)(z:Bool):Prop:=Q (.bl !z) g
def adN  : Jk (some z) (lk (Knt g Q))=(Q (.bl !z) g):=propext Yq
def tU  : Knt g Q z=(Q (.bl !z) g):=propext Yq
def Knot(Q:U->G->Prop)(x:U)(g:G):Prop:=Jk (IB x g) (lk (Knt g Q))
def qh  : Knot Q x g=(Jk (IB x g) (lk (Knt g Q))):=propext Yq
def rV  : Jw J d (.not a) Y g X Q↔Jb J d a Y g X (Knot Q):=aee
def Kneg(Q:U->G->Prop)(x:U)(g:G):Prop:=Jk (match x with|.int i=>some i|_=>none) <| lk λi=>Q (.int (-i)) g
def qF{i:Int}:Kneg Q (.int i) g=Q (.int (-i)) g:=propext Yq
def tN  : Jw J d (.neg a) Y g X Q↔Jb J d a Y g X (Kneg Q):=ad4
def FQ(Q:U->G->Prop)(S:List U)(g:G):Prop:=Jl (Bc S.length) (lk (Q (.ZX S) g)) (lk False)
def oB  : FQ Q S g=(Jl (Bc S.length) (lk (Q (.ZX S) g)) (lk False)):=propext Yq
def qY  : Jw J d (.ZX es) Y g X Q↔An J d es Y g X (FQ Q):=tw
def FP(Q:U->G->Prop)(S:List U)(g:G):Prop:=Jl (Bc S.length) (lk (Q (.ref g.length) (g++[.M S]))) (lk False)
def nj  : FP Q S g=(Jl (Bc S.length) (lk (Q (.ref g.length) (g++[.M S]))) (lk False)):=propext Yq
def rH  : Jw J d (.M es) Y g X Q↔An J d es Y g X (FP Q):=ado
def D3(i:Int)(g:G)(Q:U->G->Prop)(xs:List U):Prop:=Jk (IC xs i) (lk (KV g Q))
def aa9{i:Int}:Jk (some xs) (lk (D3 i g Q))=Jk (IC xs i) (lk (KV g Q)):=propext Yq
def nV{i:Int}:D3 i g Q xs=Jk (IC xs i) (lk (KV g Q)):=propext Yq
def CL(x:U)(Q:U->G->Prop)(y:U)(g:G):Prop:=match y with|.ZX S=>Jk ((AS (.ZX S) x g).bind id) <| lk λz=>Q z g|.str k=>Jk ((Iv x g).bind λZ4=>BV Z4 k) <| lk λz=>Q z g|y=>Jk (match y with|.int i=>some i|_=>none) <| lk λi=>Jk (items x g) <| lk λxs=>Jk (IC xs i) <| lk λz=>Q z g
def qO{x:U}{i:Int}:CL x Q (.int i) g=Jk (items x g) (lk (D3 i g Q)):=propext Yq
def abm{x:U}:CL x Q (.ZX S) g=Jk ((AS (.ZX S) x g).bind id) (lk (KV g Q)):=propext Yq
def ab8{x:U}{k:PySem.Str}:CL x Q (.str k) g=Jk ((Iv x g).bind λZ4=>BV Z4 k) (lk (KV g Q)):=propext Yq
def FY(J:List Fn)(d:Nat)(b:E)(Y:Su)(X:XP)(Q:U->G->Prop)(x:U)(g:G):Prop:=Jb J d b Y g X (CL x Q)
def m7  : FY J d b Y X Q x g=(Jb J d b Y g X (CL x Q)):=propext Yq
def rn  : Jw J d (.idx a b) Y g X Q↔Jb J d a Y g X (FY J d b Y X Q):=sv
def Ex(x:U)(l:Option Int)(X:XP)(Q:U->G->Prop)(h:Option Int)(g:G):Prop:=hk (Cf x l h g) X (lk Q)
def og  : Ex x l X Q h g=(hk (Cf x l h g) X (lk Q)):=propext Yq
def Eb(J:List Fn)(d:Nat)(x:U)(hi:Option E)(Y:Su)(X:XP)(Q:U->G->Prop)(l:Option Int)(g:G):Prop:=Jd J d hi Y g X (Ex x l X Q)
def oI  : Eb J d x hi Y X Q l g=(Jd J d hi Y g X (Ex x l X Q)):=propext Yq
def FT(J:List Fn)(d:Nat)(lo:Option E)(hi:Option E)(Y:Su)(X:XP)(Q:U->G->Prop)(x:U)(g:G):Prop:=Jd J d lo Y g X (Eb J d x hi Y X Q)
def pH  : FT J d lo hi Y X Q x g=(Jd J d lo Y g X (Eb J d x hi Y X Q)):=propext Yq
def sk  : Jw J d (.XR a lo hi) Y g X Q↔Jb J d a Y g X (FT J d lo hi Y X Q):=adZ
def C0(g:G)(Q:U->G->Prop)(xs:List U):Prop:=Q (.ref g.length) (g++[.M xs.reverse])
def zu:Jk (some xs) (lk (C0 g Q))=Q (.ref g.length) (g++[.M xs.reverse]):=propext Yq
def kY:C0 g Q xs=Q (.ref g.length) (g++[.M xs.reverse]):=propext Yq
def Krev(Q:U->G->Prop)(x:U)(g:G):Prop:=Jk (Cb x g) (lk (C0 g Q))
def m8  : Krev Q x g=(Jk (Cb x g) (lk (C0 g Q))):=propext Yq
def t6  : Jw J d (.rev a) Y g X Q↔Jb J d a Y g X (Krev Q):=adW
def FD(J:List Fn)(d:Nat)(f:Nat)(X:XP)(Q:U->G->Prop)(S:List U)(g:G):Prop:=Jp J d f S g X (lk Q)
def lF  : FD J d f X Q S g=(Jp J d f S g X (lk Q)):=propext Yq
def ql  : Jw J d (.call f es) Y g X Q↔An J d es Y g nX (FD J d f X Q):=aaN
def Kfld(j:Nat)(a:List Nat)(Q:U->G->Prop)(x:U)(g:G):Prop:=Jk ((AL x g).bind (BN j a)) (lk (KV g Q))
def nT  : Kfld j cs Q x g=(Jk ((AL x g).bind (BN j cs)) (lk (KV g Q))):=propext Yq
def ud  : Jw J d (.fld a j cs) Y g X Q↔Jb J d a Y g X (Kfld j cs Q):=ads
def D8(a:Nat)(Q:U->G->Prop)(u:U)(g:G):Prop:=Au u=true/\Q (.ref a) g
def nu  : D8 nn Q u g=(Au u=true/\Q (.ref nn) g):=propext Yq
def En(J:List Fn)(d:Nat)(e:Nat)(f:Nat)(S:List U)(c:List E)(ks:List E)(b:List (Nat ⊕ U))(X:XP)(Q:U->G->Prop)(a:List U)(g:G):Prop:=S.length=c.length/\a.length=ks.length/\Jp J d f (perm (.ref g.length::S++a) b) (g++[.ins e []]) X (lk (D8 g.length Q))
def ny  : En J d cc f S es ks pm X Q ws g=(S.length=es.length/\ws.length=ks.length/\Jp J d f (perm (.ref g.length::S++ws) pm) (g++[.ins cc []]) X (lk (D8 g.length Q))):=propext Yq
def Kmk1(J:List Fn)(d:Nat)(c:Nat)(f:Nat)(b:List E)(ks:List E)(a:List (Nat ⊕ U))(Y:Su)(X:XP)(Q:U->G->Prop)(S:List U)(g:G):Prop:=An J d ks Y g nX (En J d c f S b ks a X Q)
def qQ  : Kmk1 J d cc f es ks pm Y X Q S g=(An J d ks Y g nX (En J d cc f S es ks pm X Q)):=propext Yq
def pO  : Jw J d (.make cc f es ks pm) Y g X Q↔An J d es Y g nX (Kmk1 J d cc f es ks pm Y X Q):=acP
def Eh(J:List Fn)(d:Nat)(x:U)(p:Nat×List (Nat ⊕ U))(S:List U)(b:List E)(ks:List E)(X:XP)(Q:U->G->Prop)(a:List U)(g:G):Prop:=S.length=b.length/\a.length=ks.length/\Jp J d p.1 (perm (x::S++a) p.2) g X (lk Q)
def oG  : Eh J d x p S es ks X Q ws g=(S.length=es.length/\ws.length=ks.length/\Jp J d p.1 (perm (x::S++ws) p.2) g X (lk Q)):=propext Yq
def Dy(J:List Fn)(d:Nat)(x:U)(p:Nat×List (Nat ⊕ U))(a:List E)(ks:List E)(Y:Su)(X:XP)(Q:U->G->Prop)(S:List U)(g:G):Prop:=An J d ks Y g nX (Eh J d x p S a ks X Q)
def pP  : Dy J d x p es ks Y X Q S g=(An J d ks Y g nX (Eh J d x p S es ks X Q)):=propext Yq
def Du(J:List Fn)(d:Nat)(x:U)(a:List E)(ks:List E)(Y:Su)(g:G)(X:XP)(Q:U->G->Prop)(p:Nat×List (Nat ⊕ U)):Prop:=An J d a Y g nX (Dy J d x p a ks Y X Q)
def abc  : Jk (some p) (lk (Du J d x es ks Y g X Q))=(An J d es Y g nX (Dy J d x p es ks Y X Q)):=propext Yq
def qf  : Du J d x es ks Y g X Q p=(An J d es Y g nX (Dy J d x p es ks Y X Q)):=propext Yq
def Kmt1(J:List Fn)(d:Nat)(j:Nat)(a:List (Nat×Nat×List (Nat ⊕ U)))(b:List E)(ks:List E)(Y:Su)(X:XP)(Q:U->G->Prop)(x:U)(g:G):Prop:=Jk ((AL x g).bind (Bz j a)) (lk (Du J d x b ks Y g X Q))
def oF  : Kmt1 J d j tb es ks Y X Q x g=(Jk ((AL x g).bind (Bz j tb)) (lk (Du J d x es ks Y g X Q))):=propext Yq
def qg  : Jw J d (.Yw a j tb es ks) Y g X Q↔Jb J d a Y g nX (Kmt1 J d j tb es ks Y X Q):=acI
def Dr(g:G)(X:XP)(Q:U->G->Prop)(k:Nat):Prop:=hk (Bb k g) X (lk Q)
def abO  : Jk (some k) (lk (Dr g X Q))=(hk (Bb k g) X (lk Q)):=propext Yq
def qp  : Dr g X Q k=(hk (Bb k g) X (lk Q)):=propext Yq
def FW(X:XP)(Q:U->G->Prop)(x:U)(g:G):Prop:=Jk (IH x g) (lk (Dr g X Q))
def pM  : FW X Q x g=(Jk (IH x g) (lk (Dr g X Q))):=propext Yq
def tZ  : Jw J d (.pop o) Y g X Q↔Jb J d o Y g X (FW X Q):=ad9
def Dl(k:Nat)(X:XP)(Q:U->G->Prop)(y:U)(g:G):Prop:=hk (AH k y g) X (lk Q)
def oT  : Dl k X Q y g=(hk (AH k y g) X (lk Q)):=propext Yq
def Dc(J:List Fn)(d:Nat)(v:E)(Y:Su)(g:G)(X:XP)(Q:U->G->Prop)(k:Nat):Prop:=Jb J d v Y g X (Dl k X Q)
def aaw  : Jk (some k) (lk (Dc J d v Y g X Q))=(Jb J d v Y g X (Dl k X Q)):=propext Yq
def oQ  : Dc J d v Y g X Q k=(Jb J d v Y g X (Dl k X Q)):=propext Yq
def FV(J:List Fn)(d:Nat)(v:E)(Y:Su)(X:XP)(Q:U->G->Prop)(x:U)(g:G):Prop:=Jk (IH x g) (lk (Dc J d v Y g X Q))
def qJ  : FV J d v Y X Q x g=(Jk (IH x g) (lk (Dc J d v Y g X Q))):=propext Yq
def sS  : Jw J d (.app o v) Y g X Q↔Jb J d o Y g X (FV J d v Y X Q):=adX
def C9(k:Nat)(X:XP)(Q:U->G->Prop)(y:U)(g:G):Prop:=hk (Bs k y g) X (lk Q)
def qH  : C9 k X Q y g=(hk (Bs k y g) X (lk Q)):=propext Yq
def Dv(J:List Fn)(d:Nat)(v:E)(Y:Su)(g:G)(X:XP)(Q:U->G->Prop)(k:Nat):Prop:=Jb J d v Y g X (C9 k X Q)
def acp  : Jk (some k) (lk (Dv J d v Y g X Q))=(Jb J d v Y g X (C9 k X Q)):=propext Yq
def oX  : Dv J d v Y g X Q k=(Jb J d v Y g X (C9 k X Q)):=propext Yq
def FR(J:List Fn)(d:Nat)(v:E)(Y:Su)(X:XP)(Q:U->G->Prop)(x:U)(g:G):Prop:=Jk (IH x g) (lk (Dv J d v Y g X Q))
def qd  : FR J d v Y X Q x g=(Jk (IH x g) (lk (Dv J d v Y g X Q))):=propext Yq
def sI  : Jw J d (.ext o v) Y g X Q↔Jb J d o Y g X (FR J d v Y X Q):=adh
def Di(k:Nat)(X:XP)(Q:U->G->Prop)(y:U)(g:G):Prop:=hk (BM k y g) X (lk Q)
def oR  : Di k X Q y g=(hk (BM k y g) X (lk Q)):=propext Yq
def Dh(J:List Fn)(d:Nat)(v:E)(Y:Su)(g:G)(X:XP)(Q:U->G->Prop)(k:Nat):Prop:=Jb J d v Y g X (Di k X Q)
def abA  : Jk (some k) (lk (Dh J d v Y g X Q))=(Jb J d v Y g X (Di k X Q)):=propext Yq
def nY  : Dh J d v Y g X Q k=(Jb J d v Y g X (Di k X Q)):=propext Yq
def Kpi1(J:List Fn)(d:Nat)(v:E)(Y:Su)(X:XP)(Q:U->G->Prop)(x:U)(g:G):Prop:=Jk (IH x g) (lk (Dh J d v Y g X Q))
def pJ  : Kpi1 J d v Y X Q x g=(Jk (IH x g) (lk (Dh J d v Y g X Q))):=propext Yq
def pZ  : Jw J d (.V4 o v) Y g X Q↔Jb J d o Y g X (Kpi1 J d v Y X Q):=aau
def Kbi(a:Bi)(X:XP)(Q:U->G->Prop)(S:List U)(g:G):Prop:=hk (IG a S g) X (lk Q)
def rT  : Kbi bb X Q S g=(hk (IG bb S g) X (lk Q)):=propext Yq
def k_bi  : Jw J d (.bi bb es) Y g X Q↔An J d es Y g X (Kbi bb X Q):=e_bi
def Kisi(a:Ty)(Q:U->G->Prop)(x:U)(g:G):Prop:=Jk (AD a x g) (lk (KB g Q))
def pR  : Kisi ty Q x g=(Jk (AD ty x g) (lk (KB g Q))):=propext Yq
def tY  : Jw J d (.Yv a ty) Y g X Q↔Jb J d a Y g X (Kisi ty Q):=ad0
def Ko(Q:Option Int->G->Prop)(x:U)(g:G):Prop:=Jk (match x with|.int i=>some i|_=>none) <| lk λi=>Q (some i) g
theorem Ko_a{Q:Option Int->G->Prop}{i:Int}:Ko Q (.int i) g=Q (some i) g:=propext Yq
def mG  : Jd J d (some e) Y g X QO↔Jb J d e Y g X (Ko QO):=acU
def Ktr(a:Bool->G->Prop)(x:U)(g:G):Prop:=Jk (IB x g) (lk (KV g a))
def rK  : Ktr QB x g=(Jk (IB x g) (lk (KV g QB))):=propext Yq
def Kta(J:List Fn)(d:Nat)(b:E)(Y:Su)(X:XP)(a:Bool->G->Prop)(z:Bool)(g:G):Prop:=Jl z (lk (Jc J d b Y g X a)) (lk (a false g))
def tQ  : Kta J d b Y X QB z g=(Jl z (lk (Jc J d b Y g X QB)) (lk (QB false g))):=propext Yq
def Kto(J:List Fn)(d:Nat)(b:E)(Y:Su)(X:XP)(a:Bool->G->Prop)(z:Bool)(g:G):Prop:=Jl z (lk (a true g)) (lk (Jc J d b Y g X a))
def rq  : Kto J d b Y X QB z g=(Jl z (lk (QB true g)) (lk (Jc J d b Y g X QB))):=propext Yq
def Ktn(a:Bool->G->Prop)(z:Bool)(g:G):Prop:=a (!z) g
def sh  : Ktn QB z g=(QB (!z) g):=propext Yq
def ni  : Jc J d (.and a b) Y g X QB↔Jc J d a Y g X (Kta J d b Y X QB):=aeh
def sX  : Jc J d (.or a b) Y g X QB↔Jc J d a Y g X (Kto J d b Y X QB):=t_or
def oE  : Jc J d (.not a) Y g X QB↔Jc J d a Y g X (Ktn QB):=adD
def mY  : Jc J d (.L i) Y g X QB↔Jb J d (.L i) Y g X (Ktr QB):=t_e rfl
def abW  : Jc J d (.ZZ u) Y g X QB↔Jb J d (.ZZ u) Y g X (Ktr QB):=t_e rfl
def nS  : Jc J d (.cmp cp a b) Y g X QB↔Jb J d (.cmp cp a b) Y g X (Ktr QB):=t_e rfl
def ye  : Jc J d (.chain cp cq a b c) Y g X QB↔Jb J d (.chain cp cq a b c) Y g X (Ktr QB):=t_e rfl
def kX  : Jc J d (.call f es) Y g X QB↔Jb J d (.call f es) Y g X (Ktr QB):=t_e rfl
def adp  : Jc J d (.bi bb es) Y g X QB↔Jb J d (.bi bb es) Y g X (Ktr QB):=t_e rfl
def nR  : Jc J d (.Yv a ty) Y g X QB↔Jb J d (.Yv a ty) Y g X (Ktr QB):=t_e rfl
def acQ  : Jc J d (.idx a b) Y g X QB↔Jb J d (.idx a b) Y g X (Ktr QB):=t_e rfl
def acG  : Jc J d (.ZT op a b) Y g X QB↔Jb J d (.ZT op a b) Y g X (Ktr QB):=t_e rfl
def aan  : Jc J d (.Yw a j tb es ks) Y g X QB↔Jb J d (.Yw a j tb es ks) Y g X (Ktr QB):=t_e rfl
def aca  : Jc J d (.fld a j cs) Y g X QB↔Jb J d (.fld a j cs) Y g X (Ktr QB):=t_e rfl
def aa0  : Jc J d (.rev a) Y g X QB↔Jb J d (.rev a) Y g X (Ktr QB):=t_e rfl
def abn  : Jc J d (.XR a lo hi) Y g X QB↔Jb J d (.XR a lo hi) Y g X (Ktr QB):=t_e rfl
def abz  : Jc J d (.ZX es) Y g X QB↔Jb J d (.ZX es) Y g X (Ktr QB):=t_e rfl
def aaJ  : Jc J d (.M es) Y g X QB↔Jb J d (.M es) Y g X (Ktr QB):=t_e rfl
def aak{J:List Fn}{X:XP}{Y:Su}{a:List Nat}{e:E}{b:Bool->G->Prop}:Jc J d (.comp m a gs e) Y g X b↔Jb J d (.comp m a gs e) Y g X (Ktr b):=t_e rfl
def Kac(J:List Fn)(d:Nat)(b:List E)(Y:Su)(X:XP)(a:Bool->G->Prop)(z:Bool)(g:G):Prop:=Jl z (lk (Je J d b Y g X a)) (lk (a false g))
def qV  : Kac J d es Y X QB z g=(Jl z (lk (Je J d es Y g X QB)) (lk (QB false g))):=propext Yq
def kS  : Je J d (c::es) Y g X QB↔Jc J d c Y g X (Kac J d es Y X QB):=abx
def Krg1(Q:Iter->G->Prop)(x:U)(g:G):Prop:=Jk (match x with|.int i=>some i|_=>none) <| lk λj=>Jl (Aj j) (lk (Q (.YM 0 j.toNat) g)) (lk False)
def qu{Q:Iter->G->Prop}{j:Int}:Krg1 Q (.int j) g=Jl (Aj j) (lk (Q (.YM 0 j.toNat) g)) (lk False):=propext Yq
def lG  : Jf J d (.Ym a) Y g X QI↔Jb J d a Y g X (Krg1 QI):=abV
def Ej(u:U)(Q:Iter->G->Prop)(w:U)(g:G):Prop:=Jk (match u with|.int i=>some i|_=>none) <| lk λi=>Jk (match w with|.int i=>some i|_=>none) <| lk λj=>Jl (Aj i&&Aj j) (lk (Q (.YM i (j-i).toNat) g)) (lk False)
def ab3{Q:Iter->G->Prop}{i j:Int}:Ej (.int i) Q (.int j) g=Jl (Aj i&&Aj j) (lk (Q (.YM i (j-i).toNat) g)) (lk False):=propext Yq
def Krg2(J:List Fn)(d:Nat)(b:E)(Y:Su)(X:XP)(a:Iter->G->Prop)(u:U)(g:G):Prop:=Jb J d b Y g X (Ej u a)
def aaM  : Krg2 J d b Y X QI u g=(Jb J d b Y g X (Ej u QI)):=propext Yq
def yZ  : Jf J d (.Vr a b) Y g X QI↔Jb J d a Y g X (Krg2 J d b Y X QI):=abD
def De(Q:Iter->G->Prop)(p:Iter×G):Prop:=Q p.1 p.2
def acD{Q:Iter->G->Prop}{i:Iter}:Jk (some (i,g)) (lk (De Q))=Q i g:=propext Yq
def pC{Q:Iter->G->Prop}{i:Iter}:De Q (i,g)=Q i g:=propext Yq
def Kit(a:Iter->G->Prop)(u:U)(g:G):Prop:=Jk (BI u g) (lk (De a))
def sj  : Kit QI u g=(Jk (BI u g) (lk (De QI))):=propext Yq
def qj  : Jf J d (.L i) Y g X QI↔Jb J d (.L i) Y g X (Kit QI):=i_e rfl
def lA  : Jf J d (.call f es) Y g X QI↔Jb J d (.call f es) Y g X (Kit QI):=i_e rfl
def tL  : Jf J d (.bi bb es) Y g X QI↔Jb J d (.bi bb es) Y g X (Kit QI):=i_e rfl
def n8  : Jf J d (.idx a b) Y g X QI↔Jb J d (.idx a b) Y g X (Kit QI):=i_e rfl
def yY  : Jf J d (.Yw a j tb es ks) Y g X QI↔Jb J d (.Yw a j tb es ks) Y g X (Kit QI):=i_e rfl
def aaF  : Jf J d (.fld a j cs) Y g X QI↔Jb J d (.fld a j cs) Y g X (Kit QI):=i_e rfl
def abY  : Jf J d (.rev a) Y g X QI↔Jb J d (.rev a) Y g X (Kit QI):=i_e rfl
def aaZ  : Jf J d (.XR a lo hi) Y g X QI↔Jb J d (.XR a lo hi) Y g X (Kit QI):=i_e rfl
def pG  : Jf J d (.ZX es) Y g X QI↔Jb J d (.ZX es) Y g X (Kit QI):=i_e rfl
def ac0  : Jf J d (.M es) Y g X QI↔Jb J d (.M es) Y g X (Kit QI):=i_e rfl
def z9{J:List Fn}{X:XP}{Y:Su}{a:List Nat}{e:E}{b:Iter->G->Prop}:Jf J d (.comp m a gs e) Y g X b↔Jb J d (.comp m a gs e) Y g X (Kit b):=i_e rfl
def CG(J:List Fn)(d:Nat)(a:List Z6)(X:XP)(Q:Fl->G->Prop)(f:Fl)(g:G):Prop:=Jm f (lk (λZR=>wpS J d a ZR g X Q)) (lk λf=>Q f g)
def kN  : CG J d ss X QF (.nx Y) g=(wpS J d ss Y g X QF):=propext Yq
def kU  : CG J d ss X QF (.rt u) g=(QF (.rt u) g):=propext Yq
def zr  : CG J d ss X QF (.bk Y) g=(QF (.bk Y) g):=propext Yq
def z0  : CG J d ss X QF (.ct Y) g=(QF (.ct Y) g):=propext Yq
def lL  : wpS J d (s::ss) Y g X QF↔Jg J d s Y g X (CG J d ss X QF):=acJ
def Kret(a:Fl->G->Prop)(u:U)(g:G):Prop:=a (.rt u) g
def qx  : Kret QF u g=(QF (.rt u) g):=propext Yq
def oS  : Jg J d (.ret e) Y g X QF↔Jb J d e Y g X (Kret QF):=adE
def DA(g:G)(a:Fl->G->Prop)(st:Su):Prop:=a (.nx st) g
def aaT  : Jk (some st) (lk (DA g QF))=(QF (.nx st) g):=propext Yq
def oW  : DA g QF st=(QF (.nx st) g):=propext Yq
def Kst(t:Tg)(Y:Su)(a:Fl->G->Prop)(u:U)(g:G):Prop:=Jk (Ae t (IK t u g) Y) (lk (DA g a))
def rm  : Kst t Y QF u g=(Jk (Ae t (IK t u g) Y) (lk (DA g QF))):=propext Yq
def oP  : Jg J d (.set t e) Y g X QF↔Jb J d e Y g X (Kst t Y QF):=aaY
def Eo(i:Nat)(j:Nat)(u:U)(Y:Su)(a:Fl->G->Prop)(w:U)(g:G):Prop:=Jl (decide (i<Y.length)&&decide (j<Y.length)) (lk (a (.nx ((Y.set i (some u)).set j (some w))) g)) (lk False)
def mU  : Eo i j u Y QF w g=(Jl (decide (i<Y.length)&&decide (j<Y.length)) (lk (QF (.nx ((Y.set i (some u)).set j (some w))) g)) (lk False)):=propext Yq
def FU(J:List Fn)(d:Nat)(i:Nat)(j:Nat)(b:E)(Y:Su)(X:XP)(a:Fl->G->Prop)(u:U)(g:G):Prop:=Jb J d b Y g X (Eo i j u Y a)
def mZ  : FU J d i j b Y X QF u g=(Jb J d b Y g X (Eo i j u Y QF)):=propext Yq
def qA  : Jg J d (.par i j a b) Y g X QF↔Jb J d a Y g X (FU J d i j b Y X QF):=aaS
def Ec(u:U)(x:U)(Y:Su)(X:XP)(a:Fl->G->Prop)(y:U)(g:G):Prop:=hk (subAt x y u Y g) X (lk a)
def oK  : Ec u x Y X QF y g=(hk (subAt x y u Y g) X (lk QF)):=propext Yq
def Em(J:List Fn)(d:Nat)(u:U)(b:E)(Y:Su)(X:XP)(a:Fl->G->Prop)(x:U)(g:G):Prop:=Jb J d b Y g X (Ec u x Y X a)
def qk  : Em J d u b Y X QF x g=(Jb J d b Y g X (Ec u x Y X QF)):=propext Yq
def Ksb1(J:List Fn)(d:Nat)(o:E)(b:E)(Y:Su)(X:XP)(a:Fl->G->Prop)(u:U)(g:G):Prop:=Jb J d o Y g X (Em J d u b Y X a)
def oC  : Ksb1 J d o b Y X QF u g=(Jb J d o Y g X (Em J d u b Y X QF)):=propext Yq
def nK  : Jg J d (.sub o b e) Y g X QF↔Jb J d e Y g X (Ksb1 J d o b Y X QF):=abo
def Kxp(Y:Su)(a:Fl->G->Prop)(u:U)(g:G):Prop:=a (.nx Y) g
def sE  : Kxp Y QF u g=(QF (.nx Y) g):=propext Yq
def pB  : Jg J d (.exp e) Y g X QF↔Jb J d e Y g X (Kxp Y QF):=adm
def Kif(J:List Fn)(d:Nat)(A:List Z6)(B:List Z6)(Y:Su)(X:XP)(a:Fl->G->Prop)(z:Bool)(g:G):Prop:=Jl z (lk (wpS J d A Y g X a)) (lk (wpS J d B Y g X a))
def tu  : Kif J d A B Y X QF z g=(Jl z (lk (wpS J d A Y g X QF)) (lk (wpS J d B Y g X QF))):=propext Yq
def oU  : Jg J d (.Zx c A B) Y g X QF↔Jc J d c Y g X (Kif J d A B Y X QF):=abP
def Kfor(J:List Fn)(d:Nat)(t:Tg)(A:List Z6)(Y:Su)(X:XP)(b:Fl->G->Prop)(a:Iter)(g:G):Prop:=Jr J d t a 0 A Y g X (lk b)
def ox  : Kfor J d t A Y X QF X7 g=(Jr J d t X7 0 A Y g X (lk QF)):=propext Yq
def pD  : Jg J d (.for t it A) Y g X QF↔Jf J d it Y g X (Kfor J d t A Y X QF):=abr
def Dg(Y:Su)(b:Fl->G->Prop)(a:G):Prop:=b (.nx Y) a
def aaE  : Jk (some g2) (lk (Dg Y QF))=(QF (.nx Y) g2):=propext Yq
def ot  : Dg Y QF g2=(QF (.nx Y) g2):=propext Yq
def D5(u:U)(j:Nat)(a:List Nat)(Y:Su)(b:Fl->G->Prop)(x:U)(g:G):Prop:=Jk (Bh x j a u g) (lk (Dg Y b))
def nC  : D5 u j cs Y QF x g=(Jk (Bh x j cs u g) (lk (Dg Y QF))):=propext Yq
def Kfs1(J:List Fn)(d:Nat)(a:E)(j:Nat)(b:List Nat)(Y:Su)(X:XP)(c:Fl->G->Prop)(u:U)(g:G):Prop:=Jb J d a Y g X (D5 u j b Y c)
def nI  : Kfs1 J d a j cs Y X QF u g=(Jb J d a Y g X (D5 u j cs Y QF)):=propext Yq
def md  : Jg J d (.fset a j cs e) Y g X QF↔Jb J d e Y g X (Kfs1 J d a j cs Y X QF):=zk
def Kfn(Q:U->G->Prop)(f:Fl)(g:G):Prop:=Jo f (lk λu=>Q u g)
def qr:Kfn Q (.rt u) g=Q u g:=propext Yq
def ng{Y:Su}:Kfn Q (.nx Y) g=Q .ZL g:=propext Yq
def ab{J:List Fn}{X:XP}{f:Nat}{F:Fn}(b:J[f]?=some F)(a:S.length=F.np)(h:wpS J d F.body (S.map some++List.replicate (F.ns-S.length) none) g X (Kfn Q)):Ja J (d+1) f S g X Q:=(qb b a).2 h
end
def bj(h:i<xs.length):IC xs (i:Int)=xs[i]?:=by
 unfold IC L2.atI L2.ixN;rw[YC (by lia),YC (by lia)]
 simp
def eJ{i:Int}(a:0<=i)(h:i<xs.length):IC xs i=xs[i.toNat]?:=by
 have:=bj (xs:=xs) (i:=i.toNat) ()
 rwa[Int.toNat_of_nonneg a]at this
def rl{x:U}:IC (x::xs) 0=some x:=bj (i:=0) #[3]
def rZ{x:U}:IC (x::y::xs) 1=some y:=bj (i:=1) #[3]
def rQ{x z:U}:IC (x::y::z::xs) 2=some z:=bj (i:=2) #[3]
def qW{x z a:U}:IC (x::y::z::a::xs) 3=some a:=bj (i:=3) #[3]
def rA{x z a b:U}:IC (x::y::z::a::b::xs) 4=some b:=bj (i:=4) #[3]
def tf{x z a b c:U}:IC (x::y::z::a::b::c::xs) 5=some c:=bj (i:=5) #[3]
def small(i:Int):Prop:=-BO<i/\i<BO
def bf{i:Int}(h:(decide (-18446744073709551616<i)&&decide (i<18446744073709551616))=true):small i:=by simp at h;exact h
section
variable{i j:Int}
def eS:Iq .add (.int i) (.int j)=some (.int (i+j)):=rfl
def eU:Iq .sub (.int i) (.int j)=some (.int (i-j)):=rfl
def pF(h:0<j):Iq .mod (.int i) (.int j)=some (.int (i % j)):=by simp![Iq,Ip,YC h]
def lJ(h:0<j)(h':j<Am):Iq .fdiv (.int i) (.int j)=some (.int (i / j)):=by simp![Iq,Ip,YC h,YC h']
def lU(h:small i):Iq .mul (.int i) (.int j)=some (.int (i*j)):=by
 let⟨h1,h2⟩:=h;simp[Iq,Ip,h1,h2]
def mi(h:small j):Iq .mul (.int i) (.int j)=some (.int (i*j)):=by
 let⟨h1,h2⟩:=h;simp[Iq,Ip,h1,h2]
def tq:IA .eq (.int i) (.int j) g=some (decide (i=j)):=by
 simp![IA,Io,Ak];congr 1
def s8{a b:Bool}:IA .eq (.bl a) (.bl b) g=some (a==b):=rfl
def sG{a b:PySem.Str}:IA .eq (.str a) (.str b) g=some (a==b):=rfl
def sD{a:List U}:IA .eq (.ZX xs) (.ZX a) g=Aq xs a:=rfl
def gS{a:List U}:Aq (.int i::xs) (.int j::a)=(Aq xs a).map λc=>decide (i=j)&&c:=by
 simp![Aq,Ak];cases Aq xs a with
 |none=>rfl
 |some c=>simp![Vg];congr 1
def gg:Aq [] []=some true:=rfl
def r6:IA .ne (.int i) (.int j) g=some (!decide (i=j)):=by simp![IA,Cw,Uc,Ak,Vg];congr 1
def ug{x:U}:IA .V6 x .ZL g=some (Au x):=rfl
def sO{x:U}:IA .Vv x .ZL g=some (!Au x):=rfl
def cin{x:U}:IA .W8 x y g=match items y g with|some ys=>Iu x ys|none=>inD x y g:=rfl
def ij:inD (.ZX S) y g=(AS (.ZX S) y g).map Option.isSome:=rfl
def iC{x:U}:IA .V5 x y g=match items y g with|some ys=>(Iu x ys).map (!·)|none=>(AS x y g).map λo=>!o.isSome:=rfl
def clt:IA .lt (.int i) (.int j) g=some (decide (i<j)):=rfl
def cle:IA .le (.int i) (.int j) g=some (decide (i<=j)):=rfl
def cgt:IA .gt (.int i) (.int j) g=some (decide (j<i)):=rfl
def cge:IA .ge (.int i) (.int j) g=some (decide (j<=i)):=rfl
end
section
variable{J:List Fn}{X:XP}{Y:Su}
def eX{it:Iter}{t:Tg}{x:List E}{m:E}{Q:List U->G->Prop}{o:Type}(a:List o)(b:o->U)(c:o->Bool)(e:o->U)(f:G->Prop)
  (r:∀k g,f g->next it k g=some (a.map b)[k]?)
  (u:∀y,y∈a->AK t Y=true/\Jk (Ae t (b y) Y) (lk λs=>∀g,f g->Je J d x s g (λ_ _ _=>False) λk g=>k=c y/\Jl (c y) (lk (Jb J d m s g (λ_ _ _=>False) λv g=>v=e y/\f g)) (lk (f g)))) :
  ∀(n i:Nat) (ZS:List U) (g:G),i+n=a.length->ZS.length+n<Ac->f g->(∀g,f g->Q (ZS++((a.drop i).filter c).map e) g)->Jj J d it i t x [] m ZS Y g X Q
 |0,i,ZS,g,C,_,h,p=>by
  rw[aZ];refine⟨none,by rw[r _ _ h];simp;lia,?_⟩
  have:=p g h;rw[Ug ()]at this
  simpa using this
 |n+1,i,ZS,g,C,hl,h,p=>by
  have hi:i<a.length:=by lia
  have w:a.drop i=a[i]::a.drop (i+1):=WT hi;let⟨A,D⟩:=u a[i] (Tj hi);let⟨s,B,z⟩:=aK.2 D;rw[aZ];refine⟨some (b a[i]),by rw[r _ _ h];simp[hi],A,s,B,wp_mono (z g h) λk g q=>?_⟩
  let⟨rfl,q⟩:=q;by_cases j:c a[i]=true
  .rw [YC j]
   rw[j]at q;refine wp_mono q λv g ⟨ev,l⟩=>⟨by lia,?_⟩
   subst ev;refine eX a b c e f r u n (i+1) _ g (by lia) (by simp;lia) l λg l=>?_
   have:=p g l;rw[w,List.filter_cons_of_pos j]at this;simpa using this
  .rw [Yj j]
   rw[Bool.not_eq_true]at j;rw[j]at q;refine eX a b c e f r u n (i+1) _ g () (by lia) q λg l=>?_
   have:=p g l;rw[w,List.filter_cons_of_neg (by simp[j])]at this
   exact this
def cT{it:Iter}{t:Tg}{Q:List U->G->Prop}(f:List α)(a:α->U)(c:α->Bool)(e:α->U)(b:G->Prop)(i:List U)
  (p:(f.filter c).map e=i)
  (m:∀k g,b g->next it k g=some (f.map a)[k]?)
  (j:∀y,y∈f->AK t Y=true/\Jk (Ae t (a y) Y) (lk λh=>∀g,b g->Je J d cs h g (λ_ _ _=>False) λk g=>k=c y/\Jl (c y) (lk (Jb J d elt h g (λ_ _ _=>False) λv g=>v=e y/\b g)) (lk (b g))))
  (n:f.length<16777000) (q:b g) (l:∀g,b g->Q i g):Jj J d it 0 t cs [] elt [] Y g X Q:=
 eX f a c e b m j f.length 0 [] g (UG _) (by simpa[Ac]using n) q λg o=>by
  have:=l g o;rw[<-p]at this;simpa using this
def ik{D:E}{t r:Tg}{x:Iter}{w A:List E}{C:List (Tg×E×List E)}{e:E}{Q:List U->G->Prop}{l:Type}(a:List l)(b:l->U)(f:l->List U)(c:G->Prop)(B:Nat)
  (o:∀k g,c g->next x k g=some (a.map b)[k]?) (v:∀y,y∈a->(f y).length<=B)
  (s:∀y,y∈a->AK t Y=true/\Jk (Ae t (b y) Y) (lk λj=>∀g ZS,c g->ZS.length+B<16777000->Je J d w j g (λ_ _ _=>False) λk g=>k=true/\Jf J d D j g (λ_ _ _=>False) λF g=>Jj J d F 0 r A C e ZS j g (λ_ _ _=>False) λz g=>z=ZS++f y/\c g)) :
  ∀(n i:Nat) (ZS:List U) (g:G),i+n=a.length->ZS.length+n*B+B<16777000->c g->(∀g,c g->Q (ZS++(a.drop i).flatMap f) g)->Jj J d x i t w ((r,D,A)::C) e ZS Y g X Q
 |0,i,ZS,g,N,_,h,m=>by
  rw[aZ];refine⟨none,by rw[o _ _ h];simp;lia,?_⟩
  have:=m g h;rw[Ug ()]at this
  simpa using this
 |n+1,i,ZS,g,N,hl,h,m=>by
  have hi:i<a.length:=by lia
  have K:a.drop i=a[i]::a.drop (i+1):=WT hi;let⟨I,O⟩:=s a[i] (Tj hi);let⟨j,L,H⟩:=aK.2 O;have u:(n+1)*B=n*B+B:=Nat.succ_mul n B;have M:=v a[i] (Tj hi);rw[aZ];refine⟨some (b a[i]),by rw[o _ _ h];simp[hi],I,j,L,wp_mono (H g ZS h (by lia)) λk g q=>?_⟩
  let⟨rfl,q⟩:=q;rw[YC rfl];refine wp_mono q λF g q=>wp_mono q λz g q=>?_;let⟨rfl,p⟩:=q;refine ik a b f c B o v s n (i+1) _ g (by lia) (by simp![Z1];lia) p λg p=>?_
  have:=m g p;rw[K,Uh]at this;simpa using this
def abF{it:Iter}{t:Tg}{Q:List U->G->Prop}(f:List α)(a:α->U)(c:α->Bool)(e:α->U)(b:G->Prop)(h:List U)
  (m:∀k g,b g->next it k g=some (f.map a)[k]?)
  (j:∀y,y∈f->AK t Y=true/\Jk (Ae t (a y) Y) (lk λi=>∀g,b g->Je J d cs i g (λ_ _ _=>False) λk g=>k=c y/\Jl (c y) (lk (Jb J d elt i g (λ_ _ _=>False) λv g=>v=e y/\b g)) (lk (b g))))
  (n:h.length+f.length<16777000) (p:b g) (l:∀g,b g->Q (h++(f.filter c).map e) g):Jj J d it 0 t cs [] elt h Y g X Q:=
 eX f a c e b m j f.length 0 h g (UG _) (by simpa[Ac]using n) p λg o=>by simpa using l g o
def bB{t:Tg}{it:Iter}{b:List Z6}{Q:Fl->G->Prop}(S:List U)(a:Nat->Su->G->Prop)
  (h:∀k Y g,a k Y g->next it k g=some S[k]?) (i:a 0 Y g)
  (c:∀k u Y g,S[k]?=some u->a k Y g->Jk (Ae t u Y) (lk λj=>wpS J d b j g X λf g=>Jn f (lk (λZR=>a (k+1) ZR g)) (lk λf=>Q f g)))
  (e:∀Y g,a S.length Y g->Q (.nx Y) g):Ji J d t it 0 b Y g X Q:=b8 S a h c e S.length 0 Y g (UG _) i
end
def kj{l:List α}:(l.filter λ_=>true)=l:=List.filter_eq_self.mpr #[3]
abbrev A3(g:G)(xs:List U)(Q:U->G->Prop):Prop:=∀gs n,g.length<=n->(g++gs)[n]?=some (.M xs)->Q (.ref n) (g++gs)
inductive Dt where
 |ZL|bl (b:Bool)|int (i:Int)|str (s:PySem.Str)|ZX (ds:List Dt)|M (ds:List Dt)
mutual
def Rep(g:G):Dt->U->Prop
 |.ZL,u=>u=.ZL
 |.bl b,u=>u=.bl b
 |.int i,u=>u=.int i
 |.str s,u=>u=.str s
 |.ZX ds,u=>∃S,u=.ZX S/\Reps g ds S
 |.M ds,u=>∃n S,u=.ref n/\g[n]?=some (.M S)/\Reps g ds S
def Reps(g:G):List Dt->List U->Prop
 |[],S=>S=[]
 |d::ds,S=>∃v vs,S=v::vs/\Rep g d v/\Reps g ds vs
end
noncomputable def Dt.ok:Nat->Dt->Prop
 |0,_=>False
 |n+1,.ZX ds=>ds.length<1000000 /\∀D∈ds,D.ok n
 |n+1,.M ds=>ds.length<1000000 /\∀D∈ds,D.ok n
 |_+1,_=>True
def Dt.Tt{a:List Dt}:Dt.ok (n+1) (.ZX a)↔a.length<1000000 /\∀D∈a,D.ok n:=by rw[Dt.ok]
def Dt.SX{a:List Dt}:Dt.ok (n+1) (.M a)↔a.length<1000000 /\∀D∈a,D.ok n:=by rw[Dt.ok]
def Reps.length{g:G}:∀{ds:List Dt} {S:List U},Reps g ds S->S.length=ds.length
 |[],_,h=>by cases h;rfl
 |_::ds,_,h=>by let⟨v,vs,rfl,_,h2⟩:=h;simp[Reps.length h2]
def Reps.get{g:G}:∀{ds:List Dt} {S:List U} {i:Nat} {D:Dt},Reps g ds S->ds[i]?=some D ->∃v,S[i]?=some v/\Rep g D v
 |[],_,_,_,_,e=>by simp at e
 |x::ds,_,0,D,h,e=>by
  let⟨v,vs,rfl,h1,_⟩:=h;simp at e;subst e;exact⟨v,by simp,h1⟩
 |x::ds,_,i+1,D,h,e=>by
  let⟨v,vs,rfl,_,h2⟩:=h;let⟨w,b,a⟩:=Reps.get (i:=i) (D:=D) h2 (by simpa using e)
  exact⟨w,by simpa using b,a⟩
structure Plan where
 w:Int
 d:Int
 s:Int
abbrev Pt:=Int×Int
abbrev Zr(P:Plan):U:=.ZX [.int P.w,.int P.d,.int P.s]
abbrev uP(p:Pt):U:=.ZX [.int p.1,.int p.2]
structure Plan.ok(P:Plan):Prop where
 w:P.w=1\/P.w=2\/P.w=3
 d:P.d=1\/P.d=2\/P.d=3
 s:P.s=2\/P.s=4\/P.s=8
def Plan.ok.sd{P:Plan}(h:P.ok):small P.d:=by rcases h.d with e|e|e<;>rw[e]<;>exact bf #[1]
def Plan.ok.ss{P:Plan}(h:P.ok):small P.s:=by rcases h.s with e|e|e<;>rw[e]<;>exact bf #[1]
def Plan.ok.s0{P:Plan}(h:P.ok):0<P.s:=by rcases h.s with e|e|e<;>rw[e]<;>decide
def Plan.ok.sb{P:Plan}(h:P.ok):P.s<Am:=by rcases h.s with e|e|e<;>rw[e]<;>decide
def Plan.ok.ws{P:Plan}(h:P.ok):2<=P.w*P.s/\P.w*P.s<=24:=by rcases h.w with e|e|e<;>rcases h.s with f|f|f<;>rw[e,f]<;>decide
def Plan.ok.ds{P:Plan}(h:P.ok):2<=P.d*P.s/\P.d*P.s<=24:=by rcases h.d with e|e|e<;>rcases h.s with f|f|f<;>rw[e,f]<;>decide
def Ax(P:Plan)(p:Pt):Bool:=decide (0<=p.1)&&decide (p.1<=P.w*P.s)&&decide (0<=p.2)&&decide (p.2<=P.d*P.s)
def AQ(P:Plan)(p:Pt):Bool:=decide (p.1 % P.s=0)&&decide (p.2 % P.s=0)
def Jy(n:Int):List Int:=(List.range n.toNat).map λ(i:Nat)=>(i:Int)
def aw(n:Int):(Jy n).length=n.toNat:=by simp[Jy]
def mR{n i:Int}:i∈Jy n↔0<=i/\i<n:=by
 simp![Jy,XY,TJ];exact⟨λ⟨k,h,e⟩=>by lia,λ⟨h,k⟩=>⟨i.toNat,by lia,by lia⟩⟩
def aJ{j:Int}{k:Nat}:next (.YM 0 j.toNat) k g=some ((Jy j).map U.int)[k]?:=by
 simp![next,Jy];by_cases h:k<j.toNat
 .simp [h]
 .simp [h]
def aN{k:Nat}(h:g[n]?=some (.M xs)):next (.M n) k g=some xs[k]?:=by
 simp![next,h]
def xJ{k:Nat}:next (.seq xs) k g=some xs[k]?:=rfl
def Bo(P:Plan):List Pt:=(Jy (P.w*P.s+1)).flatMap λx=>(Jy (P.d*P.s+1)).map λy=>(x,y)
def Av(P:Plan):List Pt:=(Bo P).filter λp=>!AQ P p
def u9{P:Plan}{p:Pt}:p∈Bo P↔Ax P p=true:=by
 let⟨x,y⟩:=p;simp![Bo,S4,XY,mR,Ax,Yb,Xq];constructor
 .rintro ⟨a,h1,b,h2,e⟩
  cases e;omega
 .intro h
  exact⟨x,by omega,y,by omega,rfl⟩
def aT{c d:Type}{f:c->List d}{B:Nat}:∀{l:List c},(∀a∈l,(f a).length<=B)->(l.flatMap f).length<=l.length*B
 |[],_=>by simp
 |a::l,h=>by
  rw[Uh,Z1,YZ,Nat.succ_mul];have h1:=h a #[3]
  have h2:=aT (f:=f) (B:=B) (l:=l) λb g=>h b (by simp[g])
  lia
def iP{P:Plan}(h:P.ok):(Bo P).length<=625:=by
 have h1:=h.ws;have h2:=h.ds;have:=aT (f:=λx=>(Jy (P.d*P.s+1)).map λy=>((x,y):Pt)) (B:=25) (l:=Jy (P.w*P.s+1)) λa _=>by simp[aw];lia
 have b:(Jy (P.w*P.s+1)).length<=25:=by rw[aw];lia
 have c:(Jy (P.w*P.s+1)).length*25<=25*25:=Nat.mul_le_mul_right _ b;unfold Bo;lia
def ag{gs:G}{o:Z9}(h:g[n]?=some o):(g++gs)[n]?=some o:=by
 rw[XM (YG.mp h).1];exact h
def ah{o:Z9}:(g++[o])[g.length]?=some o:=by simp
def dW{gs:G}(h:A3 g xs Q)(a:xs.length<=16777000):xs.length<=16777000/\Q (.ref (g++gs).length) (g++gs++[.M xs]):=by
 refine⟨a,?_⟩;have:=h (gs++[.M xs]) (g++gs).length #[3] (by rw[<-XS];exact ah)
 rw[<-XS]at this;exact this
def Ee(xs:List Int)(lo hi:Option Int):List Int:=(xs.drop (HT.sIx xs.length 0 lo)).take (HT.sIx xs.length xs.length hi-HT.sIx xs.length 0 lo)
def zB(ns:List Int)(l h:Option Int):A4 (ns.map U.int) l h=(Ee ns l h).map U.int:=by
 unfold A4 Ee;rw[Zz,<-List.map_drop,<-OC]
abbrev Bv(c:Nat)(at_ Wq:Int):Z9:=.M [.ref c,.int at_,.int Wq]
def Bag(g:G):Prop:=∃(xs:List Int) (a b:Int),g[1]?=some (.M (xs.map .int))/\g[2]?=some (Bv 1 a b)
structure Fr(g g':G):Prop where
 Za:Bag g'
 len:g.length<=g'.length
 get:∀(k:Nat) (o:Z9),3<=k->g[k]?=some o->g'[k]?=some o
def Bag.app{gs:G}(h:Bag g):Bag (g++gs):=let⟨xs,a,s,h1,h2⟩:=h;⟨xs,a,s,ag h1,ag h2⟩
def Bag.len(h:Bag g):3<=g.length:=by let⟨xs,a,s,h1,h2⟩:=h;exact(YG.mp h2).1
def Fr.app{g gs:G}(h:Bag g):Fr g (g++gs):=⟨h.app,by simp,λk o _ e=>ag e⟩
def Fr.refl(h:Bag g):Fr g g:=⟨h,GB _,λk o _ e=>e⟩
def Fr.trans{a b c:G}(h:Fr a b)(k:Fr b c):Fr a c:=⟨k.Za,Gz h.len k.len,λi o hi e=>k.get i o hi (h.get i o hi e)⟩
def C2(xs:List Int)(at_:Int):Int:=if h:0<xs.length then xs.getD (at_ % xs.length).toNat 0 else 0
def hU{xs:List Int}{at_:Int}(h:0<xs.length):0<=at_ % (xs.length:Int)/\at_ % (xs.length:Int)<xs.length:=⟨Pf _ (by lia),QA _ (by lia)⟩
def xb{xs:List Int}{at_:Int}(h:0<xs.length):IC (xs.map U.int) (at_ % xs.length)=some (.int (C2 xs at_)):=by
 let⟨h1,h2⟩:=hU (at_:=at_) h;rw[eJ h1 (by simpa using h2)]
 have:(at_ % (xs.length:Int)).toNat<xs.length:=by lia
 simp[C2,h,Y9 this,List.getD]
def zc{xs:List Int}{at_:Int}(h:0<xs.length):L2.ixN xs.length (at_ % xs.length)=some (at_ % xs.length).toNat:=by
 let⟨h1,h2⟩:=hU (at_:=at_) h;unfold L2.ixN;rw[YC h1,YC h2]
def vZ{P:Plan}{p:Pt}(h:0<=p.1/\p.1<=P.w*P.s/\0<=p.2/\p.2<=P.d*P.s):Ax P p=true:=by
 simp![Ax,Yb,Xq];omega
def Jz(p:Pt):Dt:=.ZX [.int p.1,.int p.2]
def JA(a:List Pt):Dt:=.M (a.map Jz)
def aH{i:Int}:Rep g (.int i) (.int i):=by simp![Rep]
def eQ{i:Bool}:Rep g (.bl i) (.bl i):=by simp![Rep]
def ad3{p:Pt}:Rep g (Jz p) (uP p):=by
 simp![Jz,Rep];refine⟨_,rfl,?_⟩;simp![Reps];exact⟨_,_,rfl,aH,_,_,rfl,aH,rfl⟩
def gk{b:Type}{g:G}{f:b->Dt}{e:b->U}(h:∀a,Rep g (f a) (e a)):∀l:List b,Reps g (l.map f) (l.map e)
 |[]=>by simp![QK,Reps]
 |a::l=>by simp![YT,Reps];exact⟨_,_,rfl,h a,gk h l⟩
def pk{a:List Pt}(h:g[n]?=some (.M (a.map uP))):Rep g (JA a) (.ref n):=by
 simp![JA,Rep];exact⟨n,_,rfl,h,gk (λ_=>ad3) a⟩
def ic{i:Int}:(Dt.int i).ok (n+1):=by simp[Dt.ok]
def rC{i:Bool}:(Dt.bl i).ok (n+1):=by simp[Dt.ok]
def ok_P{p:Pt}:(Jz p).ok (n+2):=by
 unfold Jz;rw[Dt.Tt];refine⟨by simp,λD h=>?_⟩
 simp at h;rcases h with rfl|rfl<;>exact ic
def ad5{a:List Pt}(h:a.length<1000000):(JA a).ok (n+3):=by
 unfold JA;rw[Dt.SX];refine⟨by simpa using h,λD b=>?_⟩
 let⟨p,_,rfl⟩:=XY.mp b;exact ok_P
def jV:Iq .pow (.int 10) (.int 18)=some (.int 1000000000000000000):=by simp[Iq,Ip]
def dz{k:Int}{Y:Su}(h:g[n]?=some (.M xs))(b:0<=k)(a:k<xs.length):subAt (.ref n) (.int k) u Y g=.ok (.nx Y) (g.set n (.M (xs.set k.toNat u))):=by
 simp![subAt,Ea,h];unfold L2.ixN;rw[YC b,YC a]
def aR(h:g[n]?=some (.M xs))(a:xs.length<16777000):AH n y g=.ok .ZL (g.set n (.M (xs++[y]))):=by
 simp![AH,h];rw[YC (by simpa[Ac]using a)]
def fv(a:xs.length<16777000):AH g.length y (g++[.M xs])=.ok .ZL (g++[.M (xs++[y])]):=by
 rw[aR ah a];simp
def av{o o':Z9}(h:g[n]?=some o):(g.set n o')[n]?=some o':=Se (YG.mp h).1
def Fr.set1(h:Bag g)(xs:List Int):Fr g (g.set 1 (.M (xs.map U.int))):=by
 let⟨ys,a,s,h1,h2⟩:=h;refine⟨⟨xs,a,s,av h1,by rw[Vm #[1]];exact h2⟩,by simp,λk o hk e=>by rw[Vm (by lia)];exact e⟩
def Fr.SW(h:Bag g)(d c:Int):Fr g (g.set 2 (Bv 1 d c)):=by
 let⟨ys,a,s,h1,h2⟩:=h;refine⟨⟨ys,d,c,by rw[Vm #[1]];exact h1,av h2⟩,by simp,λk o hk e=>by rw[Vm (by lia)];exact e⟩
def stride(p:Pt):Int:=if p.1 % 4=0/\p.2 % 4=0 then 4 else if p.1 % 2=0/\p.2 % 2=0 then 2 else 1
def cD(p:Pt):(stride p=4/\p.1 % 4=0/\p.2 % 4=0)\/(stride p=2/\p.1 % 2=0/\p.2 % 2=0)\/stride p=1:=by
 unfold stride;by_cases h:p.1 % 4=0/\p.2 % 4=0
 .rw [YC h];exact .inl ⟨rfl,h⟩
 .rw [Yj h]
  by_cases k:p.1 % 2=0/\p.2 % 2=0
  .rw [YC k];exact .inr (.inl ⟨rfl,k⟩)
  .rw [Yj k];exact .inr (.inr rfl)
def cv(p:Pt):0<stride p/\stride p<=4:=by rcases cD p with⟨e,_⟩|⟨e,_⟩|e<;>rw[e]<;>decide
def iL(p:Pt):small (stride p):=by rcases cD p with⟨e,_⟩|⟨e,_⟩|e<;>rw[e]<;>exact bf #[1]
def dY(p:Pt):stride p<Am:=by rcases cD p with⟨e,_⟩|⟨e,_⟩|e<;>rw[e]<;>decide
def ji(p:Pt):2*stride p<Am:=by rcases cD p with⟨e,_⟩|⟨e,_⟩|e<;>rw[e]<;>decide
def BL(p:Pt):Bool:=decide (p.1 / stride p % 2=1)&&decide (p.2 / stride p % 2=1)
abbrev Pr:=Pt×Pt
def lying(p:Pt):Pr:=((p.1-stride p,p.2),(p.1+stride p,p.2))
def upright(p:Pt):Pr:=((p.1,p.2-stride p),(p.1,p.2+stride p))
def rising(p:Pt):Pr:=((p.1-stride p,p.2-stride p),(p.1+stride p,p.2+stride p))
def falling(p:Pt):Pr:=((p.1-stride p,p.2+stride p),(p.1+stride p,p.2-stride p))
def BP(p:Pt):Pr×Pr:=if p.1 / stride p % 2=1 then(lying p,upright p)else(upright p,lying p)
def B7(p:Pt):Prop:=((p.1-stride p) / (2*stride p)+(p.2-stride p) / (2*stride p)) % 2=0
instance(p:Pt):Decidable (B7 p):=by unfold B7;infer_instance
def BJ(p:Pt):Pr×Pr:=if B7 p then(rising p,falling p)else(falling p,rising p)
def Ay(p:Pt):Pr×Pr:=if BL p=true then BJ p else BP p
abbrev u2(q:Pr):U:=.ZX [uP q.1,uP q.2]
abbrev u4(q:Pr×Pr):U:=.ZX [u2 q.1,u2 q.2]
def wZ{p:Pt}(h:BL p=true):(p.1-stride p+p.2-stride p) / (2*stride p) % 2=0↔B7 p:=by
 have a:2*stride p ∣ p.1-stride p:=by
  simp![BL,Yb,Xq]at h;have h:=h.1;rcases cD p with⟨e,f⟩|⟨e,f⟩|e<;>rw[e]at h ⊢<;>omega
 unfold B7;rw[show p.1-stride p+p.2-stride p=(p.1-stride p)+(p.2-stride p)from Int.add_sub_assoc ..,Int.add_ediv_of_dvd_left a]
def JB(P:Plan)(p:Pt):List Pt:=[(Ay p).2.1,(Ay p).2.2].filter λq=>Ax P q&&!AQ P q
def cf(P:Plan)(p:Pt):(JB P p).length<=2:=QZ _ _
def bE{P:Plan}{p:Pt}:p∈Av P↔Ax P p=true/\AQ P p=false:=by
 unfold Av;rw[Qb,u9];simp
def DV:List Plan:=[1,2,3].flatMap λw=>[1,2,3].flatMap λd=>[2,4,8].map λs=>⟨w,d,s⟩
def fT{P:Plan}(h:P.ok):P∈DV:=by
 have e:∀{x a b c:Int},x=a\/x=b\/x=c->x∈[a,b,c]:=λh=>by simpa using h
 exact S4.mpr ⟨P.w,e h.w,S4.mpr ⟨P.d,e h.d,XY.mpr ⟨P.s,e h.s,rfl⟩⟩⟩
def ee{p q:List U}{a b c d:Z9}{i j n:Nat}(h:∀gs n i j,(g++gs)[n]?=some (.M [.ref i,.ref j])->(g++gs)[i]?=some (.M p)->(g++gs)[j]?=some (.M q)->Q (.ref n) (g++gs))(hi:[a,b,c,d][i]?=some (.M p))(u:[a,b,c,d][j]?=some (.M q))(r:n=g.length+i)(t:m=g.length+j):
  Q (.ref (g++[a]++[b]++[c]++[d]).length) (g++[a]++[b]++[c]++[d]++[.M [.ref n,.ref m]]):=by
 subst r t;have f:∀(k:Nat) (o:Z9),[a,b,c,d][k]?=some o->(g++([a,b,c,d]++[.M [.ref (g.length+i),.ref (g.length+j)]]))[g.length+k]?=some o:=λk o e=>by
  rw[Wc (by lia),P_]
  exact ag e
 have:=h ([a,b,c,d]++[.M [.ref (g.length+i),.ref (g.length+j)]]) (g++[a]++[b]++[c]++[d]).length (g.length+i) (g.length+j) #[3] (f i _ hi) (f j _ u)
 simpa using this
def tz{k i:Int}:Iu (.int k) (.int i::xs)=(Iu (.int k) xs).map λc=>decide (i=k)||c:=by
 simp![Iu,Io,Ak];cases Iu (.int k) xs with
 |none=>rfl
 |some c=>simp![Vg];congr 1
def gE{x:U}:Iu x []=some false:=rfl
def JC(q:Pr):Dt:=.ZX [Jz q.1,Jz q.2]
def lV{l:List α}{f:α->U}{i:Int}(b:0<=i)(h:i<l.length):∃a∈l,IC (l.map f) i=some (f a):=by
 have hi:i.toNat<l.length:=by omega
 refine⟨l[i.toNat],Tj hi,?_⟩;rw[eJ b (by simpa using h)]
 simp[hi]
def JD(p q:Pt):Prop:=p.1<q.1\/(p.1=q.1/\p.2<q.2)
instance(p q:Pt):Decidable (JD p q):=by unfold JD;infer_instance
def sT{p:Pt}:∀{l:List Pt},Iu (uP p) (l.map uP)=some (decide (p∈l))
 |[]=>by simp[gE]
 |q::l=>by
  have:Io (uP q) (uP p)=some (decide (q=p)):=by
   simp![Io,gS,gg,Vg,OD];congr 1;rw[Qc];simp![Yb,Xq,Prod.ext_iff]
  simp![YT,Iu,this,sT (l:=l),X5];congr 1;rw[Qc];simp![TL,Xq];exact or_congr eq_comm Yq
structure ZF where
 ax:Int
 ay:Int
 bx:Int
 bY:Int
 cx:Int
 cy:Int
deriving DecidableEq
abbrev uT(t:ZF):U:=.ZX [.int t.ax,.int t.ay,.int t.bx,.int t.bY,.int t.cx,.int t.cy]
def JE(o:Option Pt):U:=match o with
 |none=>.ZL
 |some p=>uP p
def Ai(i j s:Int):List ZF:=if(i+j) % 2=0 then[⟨i*s,j*s,i*s+s,j*s+s,i*s+s,j*s⟩,⟨i*s+s,j*s+s,i*s,j*s,i*s,j*s+s⟩]
 else[⟨i*s+s,j*s,i*s,j*s+s,i*s+s,j*s+s⟩,⟨i*s,j*s+s,i*s+s,j*s,i*s,j*s⟩]
def cu(i j s:Int):(Ai i j s).length=2:=by unfold Ai;split<;>rfl
def JF(P:Plan):List ZF:=(Jy P.w).flatMap λi=>(Jy P.d).flatMap λj=>Ai i j P.s
def AO(t:ZF):Option Pt:=if(t.ax+t.bx) % 2=1\/(t.ay+t.bY) % 2=1 then none else some ((t.ax+t.bx) / 2,(t.ay+t.bY) / 2)
def CW(t:ZF)(m:Pt):List ZF:=[⟨t.ax,t.ay,t.cx,t.cy,m.1,m.2⟩,⟨t.cx,t.cy,t.bx,t.bY,m.1,m.2⟩]
def Af(t:ZF):List ZF:=match AO t with
 |none=>[]
 |some m=>CW t m
def cb{t:ZF}{m:Pt}(h:AO t=some m):Af t=CW t m:=by unfold Af;rw[h]
def AG:Nat->ZF->List ZF
 |0,t=>[t]
 |n+1,t=>t::(Af t).flatMap (AG n)
def AA:Nat->ZF->Bool
 |0,t=>(Af t).isEmpty
 |n+1,t=>(Af t).all (AA n)
def As(t:ZF):List ZF:=AG 7 t
def cw{c d:Type}{f g:c->List d}:∀{l:List c},(∀x∈l,f x=g x)->l.flatMap f=l.flatMap g
 |[],_=>rfl
 |a::l,h=>by rw[Uh,Uh,h a #[3],cw λx j=>h x (by simp[j])]
def iW:∀(n:Nat) (t:ZF),AA n t=true->AG (n+1) t=AG n t
 |0,t,h=>by
  have:Af t=[]:=RJ.mp h;simp[AG,this]
 |n+1,t,h=>by
  have h':=Wy.mp h;show t::(Af t).flatMap (AG (n+1))=t::(Af t).flatMap (AG n);rw[cw λx a=>iW n x (h' x a)]
def fU:∀(n:Nat) (t:ZF),AA n t=true->AA (n+1) t=true
 |0,t,h=>by
  have:Af t=[]:=RJ.mp h;simp[AA,this]
 |n+1,t,h=>Wy.mpr λx a=>fU n x (Wy.mp h x a)
def dk{t x:ZF}(h:AA 7 t=true)(a:x∈Af t):AA 6 x=true:=Wy.mp h x a
def jU{t:ZF}(h:AA 7 t=true):As t=t::(Af t).flatMap As:=by
 show t::(Af t).flatMap (AG 6)=_;rw[cw λx a=>(iW 6 x (dk h a)).symm]
 rfl
def jB(t:ZF):0<(As t).length:=by show 0<(t::_).length;simp
def Bp(P:Plan):List ZF:=(JF P).flatMap As
def i6:(DV.all λP=>(JF P).all (AA 7)&&decide (((Bp P).length:Int)=P.w*P.d*(4*P.s*P.s-2))&&decide ((Bp P).length<=2286))=true:=by decide +kernel
def jr{P:Plan}(h:P.ok){t:ZF}(a:t∈JF P):AA 7 t=true:=by
 have:=Wy.mp i6 P (fT h);simp![Yb,Wy]at this;exact this.1.1 t a
def fJ{P:Plan}(h:P.ok):((Bp P).length:Int)=P.w*P.d*(4*P.s*P.s-2)/\(Bp P).length<=2286:=by
 have:=Wy.mp i6 P (fT h);simp![Yb,Xq]at this;exact⟨this.1.2,this.2⟩
def iZ{P:Plan}(h:P.ok):(JF P).length<=18:=by
 have a:∀i,((Jy P.d).flatMap λj=>Ai i j P.s).length<=6:=λi=>by
  have:=aT (f:=λj=>Ai i j P.s) (B:=2) (l:=Jy P.d) λj _=>Ob (cu i j P.s);have h2:(Jy P.d).length<=3:=by rw[aw];rcases h.d with e|e|e<;>rw[e]<;>decide
  lia
 have:=aT (f:=λi=>(Jy P.d).flatMap λj=>Ai i j P.s) (B:=6) (l:=Jy P.w) λi _=>a i;have h2:(Jy P.w).length<=3:=by rw[aw];rcases h.w with e|e|e<;>rw[e]<;>decide
 unfold JF;lia
def dA(h:g[n]?=some (.M (xs++[y]))):Bb n g=.ok y (g.set n (.M xs)):=by
 simp![Bb,h];simp
def fR{a:List U}(h:g[n]?=some (.M xs))(k:g[m]?=some (.M a))(b:xs.length+a.length<16777000):Bs n (.ref m) g=.ok .ZL (g.set n (.M (xs++a))):=by
 simp![Bs,IH,h,k];rw[YC (by simpa[Ac]using b)]
def slc4{t:ZF}:Cf (uT t) none (some 4) g=.ok (.ZX [.int t.ax,.int t.ay,.int t.bx,.int t.bY]) g:=rfl
def dT(t:ZF):Dt:=.ZX [.int t.ax,.int t.ay,.int t.bx,.int t.bY,.int t.cx,.int t.cy]
def JG(ts:List ZF):Dt:=.M (ts.map dT)
def ade{t:ZF}:Rep g (dT t) (uT t):=by
 simp![dT,Rep];refine⟨_,rfl,?_⟩;simp![Reps];exact⟨_,_,rfl,aH,_,_,rfl,aH,_,_,rfl,aH,_,_,rfl,aH,_,_,rfl,aH,_,_,rfl,aH,rfl⟩
def nN{ts:List ZF}(h:g[n]?=some (.M (ts.map uT))):Rep g (JG ts) (.ref n):=by
 simp![JG,Rep];exact⟨n,_,rfl,h,gk (λ_=>ade) ts⟩
def ok_T{t:ZF}:(dT t).ok (n+2):=by
 unfold dT;rw[Dt.Tt];refine⟨by simp,λD h=>?_⟩
 simp at h;rcases h with rfl|rfl|rfl|rfl|rfl|rfl<;>exact ic
def aed{ts:List ZF}(h:ts.length<1000000):(JG ts).ok (n+3):=by
 unfold JG;rw[Dt.SX];refine⟨by simpa using h,λD a=>?_⟩
 let⟨p,_,rfl⟩:=XY.mp a;exact ok_T
def gf{c d:Type}{f:c->List d}:∀{l:List c},(∀x∈l,0<(f x).length)->l.length<=(l.flatMap f).length
 |[],_=>by simp
 |a::l,h=>by
  rw[Uh,Z1,YZ];have h1:=h a #[3]
  have h2:=gf (l:=l) λx g=>h x (by simp[g])
  lia
def be{b c:Type}{f:b->List c}:∀{l:List b},(l.reverse.flatMap f).length=(l.flatMap f).length
 |[]=>rfl
 |a::l=>by
  rw[Ql,SK,Z1,be,Uh,Z1];simp;lia
def yL{l:List α}{a:α}:(l++[a]).isEmpty=false:=by cases l<;>rfl
def dG{B gs:G}{a b:Z9}:(g++a::(B++b::gs))[g.length]?=some a:=by simp
def aV{B gs:G}{a b:Z9}:(g++a::(B++b::gs))[g.length+1+B.length]?=some b:=by
 rw[Wc (by lia),show g.length+1+B.length-g.length=B.length+1 by lia,QG,Wc (by lia)]
 simp
def dE{B gs:G}{a b c:Z9}:(g++a::(B++b::gs)).set g.length c=g++c::(B++b::gs):=by simp
def dZ{B gs:G}{a b c:Z9}:(g++a::(B++b::gs)).set (g.length+1+B.length) c=g++a::(B++c::gs):=by
 rw[Qi _ _ (),show g.length+1+B.length-g.length=B.length+1 by omega,List.set_cons_succ,Qi _ _ ()]
 simp
def bN{B gs c:G}{a b:Z9}:g++a::(B++b::gs)++c=g++a::(B++b::(gs++c)):=by simp
noncomputable def WG(i:Int):Prop:=-Am<i/\i<Am
def mid(i:Int):Prop:=-10000000000000000000000000000<i/\i<10000000000000000000000000000
def mid.WG{i:Int}(h:mid i):WG i:=by unfold mid at h;unfold PI.WG Am;omega
def wy:∀(n:Nat) (t:ZF),t∈AG n t
 |0,t=>by simp[AG]
 |n+1,t=>by simp[AG]
def Df(t:ZF):Bool:=[t.ax,t.ay,t.bx,t.bY,t.cx,t.cy].all λi=>decide (0<=i)&&decide (i<32)
structure NT where
 a:Nat
 b:Nat
 c:Nat
 d:Nat
 e:Nat
 f:Nat
def JH(x y z v:Nat):Bool:=Nat.ble v x||(Nat.ble v y||Nat.ble v z)
def inL{P:Plan}{p:Pt}:Ax P p=true↔0<=p.1/\p.1<=P.w*P.s/\0<=p.2/\p.2<=P.d*P.s:=by
 simp![Ax,Yb,Xq,and_assoc]
def JI(t:ZF):List Int:=[t.ax,t.ay,t.bx,t.bY,t.cx,t.cy]
def jk{a:List (List Int×U)}{k:List Int}{Y:Su}(h:g[n]?=some (.ZG a))(c:intsOf S=some k)(b:a.length<16777000):subAt (.ref n) (.ZX S) u Y g=.ok (.nx Y) (g.set n (.ZG (dput a k u))):=by
 simp![subAt,Er,h,c];rw[YC (by simpa[Ac]using b)]
def JJ(a b:Int):List Int:=(List.range (b-a).toNat).map λ(i:Nat)=>a+(i:Int)
abbrev Sn(t:ZF):Int:=best true t.ax [t.bx,t.cx]
abbrev Sm(t:ZF):Int:=best true t.ay [t.bY,t.cy]
abbrev F0(t:ZF):Int:=best false t.ax [t.bx,t.cx]
abbrev FX(t:ZF):Int:=best false t.ay [t.bY,t.cy]
def F9(t:ZF)(p:Pt):Bool:=decide (Sn t<=p.1)&&decide (p.1<=F0 t)&&(decide (Sm t<=p.2)&&decide (p.2<=FX t))
def DK(ax ay bx a:Int)(p:Pt):Int:=(bx-ax)*(p.2-ay)-(a-ay)*(p.1-ax)
abbrev tu1(t:ZF)(p:Pt):Int:=DK t.ax t.ay t.bx t.bY p
abbrev tu2(t:ZF)(p:Pt):Int:=DK t.bx t.bY t.cx t.cy p
abbrev tu3(t:ZF)(p:Pt):Int:=DK t.cx t.cy t.ax t.ay p
def F3(t:ZF)(p:Pt):Bool:=F9 t p&&(decide (0<=best true (tu1 t p) [tu2 t p,tu3 t p])||decide (best false (tu1 t p) [tu2 t p,tu3 t p]<=0))
def JK(t:ZF):List Pt:=(JJ (Sn t) (F0 t+1)).flatMap λx=>((JJ (Sm t) (FX t+1)).filter λy=>F3 t (x,y)).map λy=>(x,y)
def Gb(a b c:Pt):Int:=(b.1-a.1)*(c.2-a.2)-(c.1-a.1)*(b.2-a.2)
def JL(t:ZF):Pt:=(t.cx,t.cy)
def B6(t:ZF):Prop:=(-100<=t.ax/\t.ax<=100)/\(-100<=t.ay/\t.ay<=100)/\(-100<=t.bx/\t.bx<=100)/\(-100<=t.bY/\t.bY<=100)/\(-100<=t.cx/\t.cx<=100)/\(-100<=t.cy/\t.cy<=100)
def yT:(DV.all λP=>(Bp P).all Df)=true:=by decide +kernel
def uQ{P:Plan}(h:P.ok){t:ZF}(a:t∈Bp P):Df t=true:=Wy.mp (Wy.mp yT P (fT h)) t a
def xj{t:ZF}(h:Df t=true):B6 t:=by
 simp![Df,Q_,List.all_nil,OD,Yb,Xq]at h;unfold B6;omega
section
variable{J:List Fn}{Y:Su}{X:XP}
def my{it:Iter}{t:Tg}{c:E}{Q:List U->G->Prop}(S:List U)(r:U->Prop)(a:G->Prop)
  (j:∀k g,a g->next it k g=some S[k]?)
  (w:∀u,u∈S->AK t Y=true/\Jk (Ae t u Y) (lk λo=>∀g,a g->Jb J d c o g (λ_ _ _=>False) λv g=>r v/\a g)) :
  ∀(n i:Nat) (ZS:List U) (g:G),i+n=S.length->ZS.length+n<Ac->a g->(∀vs g,vs.length=n->(∀v∈vs,r v)->a g->Q (ZS++vs) g)->Jj J d it i t [] [] c ZS Y g X Q
 |0,i,ZS,g,H,_,h,f=>by
  rw[aZ];refine⟨none,by rw[j _ _ h];simp;lia,?_⟩
  have:=f [] g rfl #[3] h
  simpa using this
 |n+1,i,ZS,g,H,hl,h,f=>by
  have hi:i<S.length:=by lia
  let⟨C,I⟩:=w S[i] (Tj hi);let⟨o,D,A⟩:=aK.2 I;rw[aZ];refine⟨some S[i],by rw[j _ _ h];simp[hi],C,o,D,iq.2 ?_⟩
  rw[YC rfl];refine wp_mono (A g h) λv g ⟨ev,B⟩=>⟨by lia,?_⟩
  refine my S r a j w n (i+1) _ g (by lia) (by simp;lia) B λvs g h1 h2 F=>?_
  have:=f (v::vs) g (by simp[h1]) (λx y=>by rcases X5.mp y with rfl|z;exact ev;exact h2 x z) F
  simpa using this
def abw{it:Iter}{t:Tg}{Q:List U->G->Prop}{g:G}(S:List U)(b:U->Prop)(a:G->Prop)
  (f:∀k g,a g->next it k g=some S[k]?)
  (c:∀u,u∈S->AK t Y=true/\Jk (Ae t u Y) (lk λl=>∀g,a g->Jb J d elt l g (λ_ _ _=>False) λv g=>b v/\a g))
  (h:S.length<16777000) (j:a g) (e:∀vs g,vs.length=S.length->(∀v∈vs,b v)->a g->Q vs g):Jj J d it 0 t [] [] elt [] Y g X Q:=
 my S b a f c S.length 0 [] g (UG _) (by simpa[Ac]using h) j λvs g h1 h2 i=>by simpa using e vs g h1 h2 i
def eG{it:Iter}{t:Tg}{A:List E}{c:E}{Q:List U->G->Prop}(S:List U)(r:U->Prop)(a:G->Prop)
  (j:∀k g,a g->next it k g=some S[k]?)
  (w:∀u,u∈S->AK t Y=true/\Jk (Ae t u Y) (lk λo=>∀g,a g->Je J d A o g (λ_ _ _=>False) λk g=>a g/\(k=true->Jb J d c o g (λ_ _ _=>False) λv g=>r v/\a g))) :
  ∀(n i:Nat) (ZS:List U) (g:G),i+n=S.length->ZS.length+n<Ac->a g->(∀vs g,vs.length<=n->(∀v∈vs,r v)->a g->Q (ZS++vs) g)->Jj J d it i t A [] c ZS Y g X Q
 |0,i,ZS,g,L,_,h,f=>by
  rw[aZ];refine⟨none,by rw[j _ _ h];simp;omega,?_⟩
  have:=f [] g (GB _) #[3] h
  simpa using this
 |n+1,i,ZS,g,L,hl,h,f=>by
  have hi:i<S.length:=by omega
  let⟨I,M⟩:=w S[i] (Tj hi);let⟨o,K,F⟩:=aK.2 M;rw[aZ];refine⟨some S[i],by rw[j _ _ h];simp[hi],I,o,K,wp_mono (F g h) λk g q=>?_⟩
  let⟨C,B⟩:=q;cases k with
  |true=>
   rw[YC rfl];refine wp_mono (B rfl) λv g ⟨ev,H⟩=>⟨by omega,?_⟩
   refine eG S r a j w n (i+1) _ g () (by simp;omega) H λvs g h1 h2 y=>?_
   have:=f (v::vs) g (by simp;lia) (λx D=>by rcases X5.mp D with rfl|z;exact ev;exact h2 x z) y
   simpa using this
  |false=>
   rw[Yj #[3]]
   exact eG S r a j w n (i+1) _ g () (by lia) C λvs g h1 h2 y=>f vs g (by lia) h2 y
end
def AV(p:Pt):List Int:=[p.1,p.2]
def dN{p q:Pt}(h:AV p=AV q):p=q:=by
 let⟨a,b⟩:=p;let⟨c,d⟩:=q;simpa[AV]using h
def gU{a b:Int}:intsOf [.int a,.int b]=some (AV (a,b)):=rfl
def JM{a:Type}(key:a->List Int)(f:a->U)(b:List a):List (List Int×U):=b.map λq=>(key q,f q)
def qD{c:Type}{key:c->List Int}(hi:∀a b,key a=key b->a=b){f:c->U}{a:c}:∀{ps:List c},a∈ps->AW (JM key f ps) (key a)=some (f a)
 |[],h=>nomatch h
 |b::r,h=>by
  unfold AW JM;rw[YT,Um];by_cases e:key b=key a
  .have:=hi _ _ e;subst this;simp
  .have h':a∈r:=by
    rcases X5.mp h with z|z
    .subst z;exact absurd rfl e
    .exact z
   have ih:=qD hi (f:=f) h';unfold AW JM at ih;simp![e,RX];exact ih
def xO[DecidableEq α]{key:α->List Int}(hi:∀a b,key a=key b->a=b){f:α->U}{a:α}{v:U}{c:List α}(h:a ∉ c):dput (JM key f c) (key a) v=JM key (λq=>if q=a then v else f q) (c++[a]):=by
 unfold dput;rw[Yj]
 .unfold JM
  rw[SM];congr 1
  .refine List.map_congr_left λq d=>?_
   show(key q,f q)=(key q,if q=a then v else f q)
   rw[Yj (λe=>h (by rw[<-e];exact d))]
  .simp
 .intro g
  simp![JM,List.any_map,List.any_eq_true,Function.comp,Xq]at g;let⟨q,d,e⟩:=g;exact h (by rw[<-hi _ _ e];exact d)
def xQ[DecidableEq α]{key:α->List Int}(hi:∀a b,key a=key b->a=b){f:α->U}{a:α}{v:U}{c:List α}(h:a∈c):dput (JM key f c) (key a) v=JM key (λq=>if q=a then v else f q) c:=by
 unfold dput;rw[YC]
 .unfold JM
  rw[Uu];refine List.map_congr_left λq d=>?_;simp![Function.comp];by_cases e:q=a
  .subst e;simp
  .rw [Yj (λz=>e (hi _ _ z)),Yj e]
 .simp only [JM,List.any_map,List.any_eq_true,Function.comp,Xq]
  exact⟨a,h,rfl⟩
def xk{b k:Nat}{key:α->List Int}{f:α->U}{a:List α}(h:g[b]?=some (.Zs (JM key f a))):next (.ZG b) k g=some (a.map λp=>U.ZX ((key p).map .int))[k]?:=by
 simp![next,h,JM,Wh];cases a[k]?<;>rfl
def yo{a:List (List Int×U)}{k:List Int}(h:YB u g=some a)(b:intsOf S=some k):AS (.ZX S) u g=some (AW a k):=by
 simp![AS,h,keyOf,b,Vg]
def FO(a b:Pt):Prop:=a.1*b.2<b.1*a.2
instance{a b:Pt}:Decidable (FO a b):=by unfold FO;infer_instance
structure Low(a:Pt):Prop where
 pos:0<a.2
 cop:Nat.gcd a.1.natAbs a.2.natAbs=1
def JN(ax ay bx c b a:Nat):Bool:=Nat.ble (c*b+bx*ay+ax*a) (bx*a+c*ax+ay*b)
def l1(ax ay bx c b a:Nat):Bool:=Nat.ble (bx*a+c*ax+ay*b) (c*b+bx*ay+ax*a)
def JO:List (Nat×Nat):=(List.range 9).flatMap λx=>(List.range 9).map λy=>(x,y)
def Az:List Plan:=[⟨1,1,2⟩,⟨1,1,4⟩,⟨2,1,2⟩,⟨1,2,2⟩,⟨2,2,2⟩,⟨1,1,4⟩,⟨3,1,2⟩,⟨1,3,2⟩,⟨2,1,4⟩,⟨1,2,4⟩,⟨3,2,2⟩,⟨1,1,8⟩]
set_option maxRecDepth 1000000 in
def zY:((JO.map λz=>Iz [(z.1:Int),(z.2:Int)]).Nodup):=by decide +kernel
def nL{g i:Type}{f:g->i}:∀{l:List g},(l.map f).Nodup ->∀{a b:g},a∈l->b∈l->f a=f b->a=b
 |[],_,_,_,h,_,_=>by cases h
 |x::l,hn,a,b,d,c,e=>by
  rw[YT,Rr]at hn;rcases X5.mp d with rfl|d
  .rcases X5.mp c with rfl|c
   .rfl
   .exact absurd (XY.mpr ⟨b,c,e.symm⟩) hn.1
  .rcases X5.mp c with j|c
   .exact absurd (XY.mpr ⟨a,d,by rw[e,j]⟩) hn.1
   .exact nL hn.2 d c e
def kyP(p:Pt):List Int:=[p.1,p.2]
def d7{p q:Pt}(h:kyP p=kyP q):p=q:=by
 simp![kyP,Ol,and_true]at h;exact OG h.1 h.2
def JP(z:Nat×Nat):Pt:=((z.1:Int),(z.2:Int))
def yt{x y:Nat}:(x,y)∈JO↔x<=8/\y<=8:=by
 unfold JO;simp![S4,XY,TJ,OA];constructor
 .rintro ⟨a,d,b,c,rfl,rfl⟩;lia
 .intro h;exact⟨x,by lia,y,by lia,rfl,rfl⟩
def yz{p q:Pt}(d:∃z∈JO,p=JP z)(c:∃z∈JO,q=JP z)(e:Iz (kyP p)=Iz (kyP q)):p=q:=by
 let⟨z,a,rfl⟩:=d;let⟨y,b,rfl⟩:=c;rw[nL zY a b e]
structure Half14(t one two:ZF)(m:Pt):Prop where
 near1:B6 one
 near2:B6 two
 same:IE ((JK one++JK two).map kyP)=(JK t).map kyP
 ok:IF ((JK one++JK two).map kyP)
 line:∀p∈JK one,p∈JK two->Gb m (JL t) p=0
 mid1:m∈JK one
 mid2:m∈JK two
def mw:∀l:List Pt,A9 (l.map uP)=some (l.map kyP)
 |[]=>rfl
 |p::l=>by
  have e:keyOf (uP p)=some (kyP p):=rfl;rw[YT];simp![A9,e,mw l]
  rfl
def pX(l:List Pt):(l.map kyP).map tupI=l.map uP:=by rw[Uu];rfl
def aef{l m:List Pt}(b:IF (l.map kyP))(a:IE (l.map kyP)=m.map kyP):BW (l.map uP) g=.ok (.ref g.length) (g++[.M (m.map uP)]):=by
 unfold BW;simp![mw];rw[YC b,a,pX]
 rfl
def sJ:∀l:List Pt,Iw BC (l.map uP) (l.map uP)=some true
 |[]=>rfl
 |p::l=>by
  have e:BC (uP p) (uP p)=some true:=by simp[BC,Iw,Io,Ak]
  rw[YT];simp![Iw,e,sJ l]
  rfl
def qs_P(l:List Pt):Iy (l.map uP) (l.map uP)=some true:=by unfold Iy;rw[YC rfl];exact sJ l
def t7{a:List U}(c:g[n]?=some (.M xs))(b:g[m]?=some (.M a)):IA .eq (.ref n) (.ref m) g=Iy xs a:=by
 simp![IA,A8,c,b]
def map_inj{c e:Type}{f:c->e}(d:∀a b,f a=f b->a=b):∀{l m:List c},l.map f=m.map f->l=m
 |[],[],_=>rfl
 |[],_::_,h=>by cases h
 |_::_,[],h=>by cases h
 |a::l,b::m,h=>by
  rw[YT,YT,Ol]at h;rw[d a b h.1,map_inj d h.2]
def Ds(a:Pt):List Pt->List Pt
 |[]=>[a]
 |b::r=>if a=b then b::r else if Ah (kyP a) (kyP b)=true then a::b::r else b::Ds a r
def JQ:List Pt->List Pt
 |[]=>[]
 |a::r=>Ds a (JQ r)
def mh(a:Pt):∀r:List Pt,AU (kyP a) (r.map kyP)=(Ds a r).map kyP
 |[]=>rfl
 |b::r=>by
  rw[YT];unfold AU Ds;by_cases h:a=b
  .rw [YC h,YC (by rw[h]),YT]
  .rw [Yj h,Yj λe=>h (d7 e)]
   split
   .rfl
   .rw [mh a r];rfl
def aX:∀l:List Pt,IE (l.map kyP)=(JQ l).map kyP
 |[]=>rfl
 |a::l=>by
  show AU (kyP a) (IE (l.map kyP))=_;rw[aX l,mh];rfl
def eF{p:Pt}{l:List Pt}:kyP p∈l.map kyP↔p∈l:=
 ⟨λh=>let⟨q,a,e⟩:=XY.mp h;by rw[<-d7 e];exact a,λh=>XY.mpr ⟨p,h,rfl⟩⟩
def bg{p:Pt}{l:List Pt}:p∈JQ l↔p∈l:=by
 rw[<-eF,<-aX,bz,eF]
def vT{f:α->β}{l:List α}(h:(l.map f).Nodup):l.Nodup:=(Sf.mp h).imp λ{a b} n e=>n (by rw[e])
def aaP{l:List Pt}(h:l.Nodup):(l.map kyP).Nodup:=Sf.mpr (h.imp λ{a b} n e=>n (d7 e))
def l0(l:List Pt):(JQ l).Nodup:=vT (f:=kyP) (by rw[<-aX];exact qC (bA _))
def y6(l:List Pt):(JQ l).length<=l.length:=by
 have:=il (l.map kyP);rw[aX,Zz,Zz]at this;exact this
def fW{l m:List Pt}(h:∀p,p∈l↔p∈m):JQ l=JQ m:=by
 apply map_inj (λa b=>d7);rw[<-aX,<-aX];refine dD (bA _) (bA _) λx=>?_;rw[bz,bz];constructor
 .intro c;let⟨p,d,rfl⟩:=XY.mp c;exact eF.mpr ((h p).mp d)
 .intro c;let⟨p,d,rfl⟩:=XY.mp c;exact eF.mpr ((h p).mpr d)
def iy{P:Plan}(h:P∈Az):P.w*P.s<=8/\P.d*P.s<=8/\(Av P).length<=77:=by
 have:(Az.all λP=>decide (P.w*P.s<=8)&&(decide (P.d*P.s<=8)&&Nat.ble (Av P).length 77))=true:=by decide +kernel
 have:=Wy.mp this P h;rw[Yb,Yb,Xq,Xq,Nat.ble_eq]at this;exact this
def gv{P:Plan}(h:P∈Az){p:Pt}(d:Ax P p=true):∃z∈JO,p=JP z:=by
 have m:=iy h;have a:=inL.mp d;let⟨x,c⟩:=Oa a.1;let⟨y,b⟩:=Oa a.2.2.1;exact⟨(x,y),yt.mpr (),OG c b⟩
def Cuts(P:Plan)(l:List Pt):Prop:=∀p∈l,p∈Av P
def Cuts.len{P:Plan}(h:P∈Az){l:List Pt}(b:Cuts P l)(a:l.Nodup):l.length<=77:=Gz (a.length_le_of_subset b) (iy h).2.2
def Cuts.Vu{P:Plan}{l:List Pt}(b:Cuts P l):Cuts P (JQ l):=λp a=>b p (bg.mp a)
def ad1{P:Plan}(h:P∈Az){l:List Pt}(g:l.length<=300)(c:Cuts P l):IF (l.map kyP):=by
 refine⟨by rw[Zz];exact g,λk hk=>?_,λa j b i e=>?_⟩
 .obtain ⟨p,_,rfl⟩:=XY.mp hk
  exactλz=>nomatch z
 .obtain ⟨p,f,rfl⟩:=XY.mp j
  let⟨q,d,rfl⟩:=XY.mp i;rw[yz (gv h (bE.mp (c p f)).1) (gv h (bE.mp (c q d)).1) e]
abbrev DS(ks:List Pt):List (List Int×U):=JM AV (λ_=>U.bl true) ks
def JR(ks:List Pt)(a:Pt):List Pt:=if a∈ks then ks else ks++[a]
def gH{ks:List Pt}{a:Pt}:dput (DS ks) (AV a) (.bl true)=DS (JR ks a):=by
 unfold JR;split
 .rename_i h
  rw[xQ (λa b=>dN) h];congr 1;funext q;split<;>rfl
 .rename_i h
  rw[xO (λa b=>dN) h];congr 1;funext q;split<;>rfl
def bp{ks:List Pt}{a p:Pt}:p∈JR ks a↔p=a\/p∈ks:=by
 unfold JR;split
 .rename_i h
  exact⟨.inr,λz=>z.elim (λe=>by rw[e];exact h) id⟩
 .rw [Wd,WA];exact Or.comm
def gK{ks:List Pt}{a:Pt}(h:ks.Nodup):(JR ks a).Nodup:=by
 unfold JR;split
 .exact h
 .rename_i n
  refine PQ.mpr ⟨h,P7 _ a,λx c y b e=>?_⟩;rw[WA]at b;exact n (by rw[<-b,<-e];exact c)
def gF{ks:List Pt}{a:Pt}:(AW (DS ks) (AV a)).isSome=decide (a∈ks):=by
 by_cases h:a∈ks
 .rw [qD (key:=AV) (λa b=>dN) h,Vo h];rfl
 .rw [WY h]
  unfold AW DS JM;rw[QM,Bool.eq_false_iff];intro z;let⟨e,c⟩:=Ry.mp z;have h1:=PH c;have h2:=List.find?_some c;let⟨q,d,rfl⟩:=XY.mp h1;rw[Xq]at h2;exact h (by rw[<-dN h2];exact d)
def eE(ks:List Pt):(DS ks).map (·.1)=ks.map kyP:=by unfold DS JM;rw[Uu];rfl
def j9:∀{l ks:List Pt},(ks++l).Nodup->dfold (l.map λp=>.ZX [uP p,.bl true]) (DS ks)=some (DS (ks++l))
 |[],ks,_=>by rw[U9];rfl
 |a::l,ks,h=>by
  have b:a ∉ ks:=λz=>by
   have:=(PQ.mp h).2.2 a z a XZ;exact this rfl
  have e:Cv (DS ks) (.ZX [uP a,.bl true])=some (DS (ks++[a])):=by
   show(keyOf (uP a)).map (λk=>dput (DS ks) k (.bl true))=_;rw[show keyOf (uP a)=some (AV a)from rfl,Vg,gH];unfold JR;rw[Yj b]
  rw[YT];simp![dfold,e,Rj];rw[j9 (by rw[XS];exact h),XS]
  rfl
section
variable{ks:List Pt}{p:Pt}
def SetAt(g:G)(n:Nat)(ks:List Pt):Prop:=g[n]?=some (.ZG (DS ks))\/g[n]?=some (.Zs (DS ks))
def SetAt.app{gs:G}(h:SetAt g n ks):SetAt (g++gs) n ks:=h.imp ag ag
def SetAt.items(h:SetAt g n ks):items (.ref n) g=none:=by rcases h with h|h<;>simp![PI.items,h]
def SetAt.YB(h:SetAt g n ks):YB (.ref n) g=some (DS ks):=by rcases h with h|h<;>simp![PI.YB,h]
def SetAt.look(h:SetAt g n ks):AS (uP p) (.ref n) g=some (AW (DS ks) (AV p)):=yo h.YB gU
def abN(h:SetAt g n ks):IA .V5 (uP p) (.ref n) g=some (!decide (p∈ks)):=by
 rw[iC,h.items];simp![h.look,Vg,gF]
def cU(h:SetAt g n ks):IA .W8 (uP p) (.ref n) g=some (decide (p∈ks)):=by
 rw[cin,h.items];simp![ij,h.look,Vg,gF]
def zf(h:SetAt g n ks)(a:ks.Nodup)(b:ks.length<100000):C1 [.ref n] g=.ok (.ref g.length) (g++[.M ((JQ ks).map uP)]):=by
 unfold C1;have e:Bn [.ref n] g=none:=by rcases h with h|h<;>simp![Bn,h]
 simp![e,DH,h.YB];rw[YC ⟨by unfold DS JM;rw[Zz];exact b,by rw[eE];exact aaP a,λk hk=>by rw[eE]at hk;let⟨p,_,rfl⟩:=XY.mp hk;exactλz=>nomatch z⟩,eE,aX,pX]
 rfl
def xE(h:SetAt g n ks):BK [.ref n] g=.ok (.ref g.length) (g++[.M (ks.map uP)]):=by
 unfold BK;simp![h.items,h.YB];have:((DS ks).map λa=>tupI a.1)=ks.map uP:=by
  unfold DS JM;rw[Uu];rfl
 rw[this];rfl
def xV{i:Int}(h:g[n]?=some (.M xs))(b:0<=i)(c:i<1000000)(a:xs[i.toNat]?=some u):BM n (.int i) g=.ok u (g.set n (.M (xs.eraseIdx i.toNat))):=by
 unfold BM;simp![h];rw[YC ⟨b,by lia⟩]
 simp![a]
end
def wq{f:α->β}{l:List α}{k:Nat}:(l.eraseIdx k).map f=(l.map f).eraseIdx k:=by simp[UR,OC,List.map_drop]
def A7(P:Plan)(l:List Pt)(p:Pt):List Pt:=(JB P p).filter λq=>!decide (q∈l)
def AR(P:Plan)(l:List Pt):List Pt->Option (Pt×Pt)
 |[]=>none
 |p::r=>match A7 P l p with
  |[]=>AR P l r
  |q::_=>some (p,q)
def fF{P:Plan}{l:List Pt}:∀{s:List Pt},(∀p∈s,A7 P l p=[])->AR P l s=none
 |[],_=>rfl
 |p::s,h=>by
  rw[AR,h p XZ];exact fF λq a=>h q (GC _ a)
def jb{P:Plan}{l:List Pt}{p q:Pt}{r:List Pt}(b:A7 P l p=q::r):∀{s:List Pt} {k:Nat},s[k]?=some p->(∀p∈s.take k,A7 P l p=[])->AR P l s=some (p,q)
 |[],_,e,_=>by cases e
 |a::s,0,e,_=>by cases e;rw[AR,b]
 |a::s,k+1,e,h=>by
  rw[List.take_succ_cons]at h;rw[AR,h a XZ];exact jb b (s:=s) e λp c=>h p (GC _ c)
def w8{P:Plan}{l m:List Pt}(h:∀p,p∈l↔p∈m)(p:Pt):A7 P l p=A7 P m p:=by
 unfold A7;congr 1;funext q;simp![h q]
def i8{P:Plan}{l m:List Pt}(h:∀p,p∈l↔p∈m):∀s:List Pt,AR P l s=AR P m s
 |[]=>rfl
 |p::s=>by rw[AR,AR,w8 h,i8 h s]
def JS:Option (Pt×Pt)->U
 |none=>.ZL
 |some (p,q)=>.ZX [uP p,uP q]
def u5{P:Plan}{p q:Pt}(h:q∈JB P p):q∈Av P:=by
 unfold JB at h;have:=(Qb.mp h).2;rw[Yb,W9]at this;exact bE.mpr this
def Old(g g':G):Prop:=∃gs,g'=g++gs
section
variable{g'':G}{o:Z9}
def Old.refl:Old g g:=⟨[],(U9 g).symm⟩
def Old.app{gs:G}:Old g (g++gs):=⟨gs,rfl⟩
def Old.more{gs:G}(h:Old g g'):Old g (g'++gs):=by let⟨a,rfl⟩:=h;exact⟨a++gs,XS ..⟩
def Old.trans(h:Old g g')(k:Old g' g''):Old g g'':=by let⟨a,rfl⟩:=k;exact h.more
def Old.len(h:Old g g'):g.length<=g'.length:=by let⟨a,rfl⟩:=h;simp
def Old.get(h:Old g g')(e:g[n]?=some o):g'[n]?=some o:=by let⟨a,rfl⟩:=h;exact ag e
def Old.set(h:Old g g')(b:g.length<=n):Old g (g'.set n o):=by let⟨a,rfl⟩:=h;exact⟨a.set (n-g.length) o,Qi n o b⟩
def Old.fr(h:Old g g')(b:Bag g):Fr g g':=by let⟨a,rfl⟩:=h;exact Fr.app b
def Old.setAt{ks:List Pt}(h:Old g g')(s:SetAt g n ks):SetAt g' n ks:=by let⟨a,rfl⟩:=h;exact s.app
def ar{o':Z9}(h:n≠m)(e:g[m]?=some o):(g.set n o')[m]?=some o:=by rw[Vm h];exact e
end
def eO{b:Pt->Prop}:∀{vs:List U},(∀v∈vs,∃p,v=uP p/\b p) ->∃ps:List Pt,vs=ps.map uP /\∀p∈ps,b p
 |[],_=>⟨[],rfl,λp a=>nomatch a⟩
 |v::vs,h=>by
  let⟨p,rfl,a⟩:=h v XZ;let⟨ps,rfl,e⟩:=eO (vs:=vs) λw c=>h w (GC _ c);exact⟨p::ps,rfl,λq d=>by rcases X5.mp d with rfl|z;exact a;exact e q z⟩
inductive Xp(P:Plan)(l:List Pt):Pt->Prop
 |base {p:Pt}:p∈l->Xp P l p
 |step {p q:Pt}:Xp P l p->q∈JB P p->Xp P l q
section
variable{P:Plan}{l ks:List Pt}{p q:Pt}
def Xp.cut(a:Cuts P l)(h:Xp P l p):p∈Av P:=by
 induction h with
 |base h=>exact a _ h
 |step _ h _=>exact u5 h
def A6(P:Plan)(l:List Pt):List Pt:=open Classical in JQ ((Av P).filter λq=>decide (Xp P l q))
open Classical in
def fz(a:Cuts P l):q∈A6 P l↔Xp P l q:=by
 unfold A6;rw[bg,Qb,Xq];exact⟨λh=>h.2,λh=>⟨h.cut a,h⟩⟩
open Classical in
def iR:Cuts P (A6 P l):=λp a=>by
 unfold A6 at a;rw[bg,Qb]at a;exact a.1
def v8:(A6 P l).Nodup:=l0 _
def lP(l:List Pt):JQ (JQ l)=JQ l:=fW λp=>bg
def xZ(a:Cuts P l)(h:∀q,q∈ks↔Xp P l q):JQ ks=A6 P l:=by
 rw[fW (l:=ks) (m:=A6 P l) λq=>(h q).trans (fz a).symm];unfold A6;rw[lP]
def acX(c:∀p∈l,p∈ks)(b:∀p∈ks,∀q∈JB P p,q∈ks)(h:Xp P l q):q∈ks:=by
 induction h with
 |base h=>exact c _ h
 |step _ a ih=>exact b _ ih _ a
def yA(b:ks.Nodup)(h:p ∉ ks):(ks++[p]).Nodup:=by
 have:=gK (a:=p) b;unfold JR at this;rwa[Yj h]at this
def yV(h:p ∉ ks):(JR ks p).length=ks.length+1:=by unfold JR;rw[Yj h];simp
def yw{f:α->U}{l:List α}{r:Int}(h:0<=r):A4 (l.map f) none (some r)=(l.take r.toNat).map f:=by
 unfold A4;have b:HT.sIx (l.map f).length 0 none=0:=by simp[HT.sIx]
 rw[b,Ox,Oe,OC];rcases Qp r.toNat (l.map f).length with z|z
 .have a:HT.sIx (l.map f).length (l.map f).length (some r)=r.toNat:=by unfold HT.sIx;simp![];(try split)<;>(try split)<;>lia
  rw[a]
 .have a:HT.sIx (l.map f).length (l.map f).length (some r)=(l.map f).length:=by unfold HT.sIx;simp![];(try split)<;>(try split)<;>omega
  rw[a,Qr,Vi z]
end
inductive SV(P:Plan)(l:List Pt):Pt->Prop
 |base {p:Pt}:p ∉ l->SV P l p
 |step {p q:Pt}:q∈JB P p->SV P l q->SV P l p
def Clo(P:Plan)(l:List Pt):Prop:=∀p∈l,∀q∈JB P p,q∈l
section
variable{P:Plan}{l m:List Pt}{p q:Pt}
def wj(a:Cuts P l):Clo P (A6 P l):=λp c q b=>(fz a).mpr (.step ((fz a).mp c) b)
def w9(h:Clo P l):AR P l (JQ l)=none:=fF λp b=>Qa.mpr λq a=>by simp[h p (bg.mp b) q a]
def Clo.app(h:Clo P l)(k:Clo P m):Clo P (l++m):=λp b q a=>by
 rcases Wd.mp b with z|z
 .exact Wd.mpr (.inl (h p z q a))
 .exact Wd.mpr (.inr (k p z q a))
def Cuts.app(h:Cuts P l)(k:Cuts P m):Cuts P (l++m):=λp a=>(Wd.mp a).elim (h p) (k p)
end
def BA(Z6:List Pt)(t:ZF):Bool:=match AO t with
 |none=>false
 |some m=>decide (m∈Z6)
def JT(Z6:List Pt):Nat->ZF->List ZF
 |0,t=>[t]
 |n+1,t=>if BA Z6 t=true then(Af t).flatMap (JT Z6 n)else[t]
def JU(Z6:List Pt)(t:ZF):List ZF:=JT Z6 7 t
def JV(P:Plan)(Z6:List Pt):List ZF:=(JF P).flatMap (JU Z6)
section
variable{Z6:List Pt}{t x:ZF}{P:Plan}{m p:Pt}
def gq(h:AO t=none):BA Z6 t=false:=by unfold BA;rw[h]
def dX(h:AO t=some m):BA Z6 t=decide (m∈Z6):=by unfold BA;rw[h]
def dep0(h:AA 0 t=true):BA Z6 t=false:=by
 have a:Af t=[]:=RJ.mp h;cases e:AO t with
 |none=>exact gq e
 |some m=>rw[cb e]at a;cases a
def kh:∀(n:Nat) (t:ZF),AA n t=true->JT Z6 (n+1) t=JT Z6 n t
 |0,t,h=>by show(if BA Z6 t=true then _ else _)=_;rw[dep0 h];rfl
 |n+1,t,h=>by
  have h':=Wy.mp h;rw[JT,JT,cw λx a=>kh n x (h' x a)]
def bR(h:AA 7 t=true):JU Z6 t=if BA Z6 t=true then(Af t).flatMap (JU Z6)else[t]:=by
 show JT Z6 7 t=_;rw[JT,cw λx a=>(kh 6 x (dk h a)).symm]
 rfl
def qt:∀(n:Nat) (t:ZF),x∈JT Z6 n t->x∈AG n t
 |0,t,h=>h
 |n+1,t,h=>by
  rw[JT]at h;split at h
  .obtain ⟨y,a,z⟩:=S4.mp h
   exact GC _ (S4.mpr ⟨y,a,qt n y z⟩)
  .rw [WA.mp h];exact wy _ _
def xH(h:x∈JV P Z6):x∈Bp P:=by
 let⟨r,a,z⟩:=S4.mp h;exact S4.mpr ⟨r,a,qt 7 r z⟩
def qG:∀(n:Nat) (t:ZF),(JT Z6 n t).length<=(AG n t).length
 |0,t=>GB _
 |n+1,t=>by
  rw[JT];split
  .show _<=(t::(Af t).flatMap (AG n)).length
   have:∀l:List ZF,(l.flatMap (JT Z6 n)).length<=(l.flatMap (AG n)).length:=λl=>by
    induction l with
    |nil=>exact GB _
    |cons a l ih=>rw[Uh,Uh,Z1,Z1];have:=qG n a;lia
   have:=this (Af t);rw[YZ];lia
  .show 1<=(t::_).length;simp
def kH(b:P.ok):(JV P Z6).length<=2286:=by
 have:∀l:List ZF,(l.flatMap (JU Z6)).length<=(l.flatMap As).length:=λl=>by
  induction l with
  |nil=>exact GB _
  |cons a l ih=>rw[Uh,Uh,Z1,Z1];have:=qG (Z6:=Z6) 7 a;show(JT Z6 7 a).length+_<=(AG 7 a).length+_;lia
 exact Gz (this _) (fJ b).2
def yk:(JO.all λz=>!decide (Iz [(z.1:Int),(z.2:Int)]=A0))=true:=by decide +kernel
def vq(d:P∈Az)(c:Cuts P Z6)(h:SetAt g n Z6):IA .W8 .ZL (.ref n) g=some false:=by
 rw[cin,h.items];show((YB (.ref n) g).bind _)=_;rw[h.YB,Rj,YC];rw[eE];intro k hk;let⟨p,b,rfl⟩:=XY.mp hk;let⟨z,a,rfl⟩:=gv d (bE.mp (c p b)).1;have:=Wy.mp yk z a;rw[W9,T6]at this;exact this
end
end
end PI
variable{p:PI.Pt}{ks l:List PI.Pt}
namespace ZE
noncomputable section
open PI
section
variable{X:XP}{P:Plan}
def jx(e:P.ok)(h:Q (.bl (Ax P p)) g):Ja J (d+1) 0 [Zr P,uP p] g X Q:=by
 have h1:=e.ss;simp? only[Fb]
 simp?[*];simp![Ax]at h;refine ae (λa=>?_) λa=>by simp?[*];simpa[a]using h
 simp?[*];refine ae (λb=>?_) λb=>?_
 .simp? [*]
  refine ae (λc=>?_) λc=>by simp?[*];simpa[a,b,c]using h
  simp?[*];simpa[a,b,c]using h
 .simp? [*];simpa[a,b]using h
def uI(b:P.ok)(a:Ax P p=true)(h:Q .ZL g):Ja J (d+2) 1 [Zr P,uP p] g X Q:=by
 simp? only[EN]
 simp?;refine jx b ?_;simp?;simp![a];simp?;exact h
def fq(b:P.ok)(c:Ax P p=true)(h:Q (.bl (AQ P p)) g):Ja J (d+3) 2 [Zr P,uP p] g X Q:=by
 have h0:=b.s0;simp? only[EW]
 simp?;refine uI b c ?_;simp?[*];simp![AQ]at h;refine ae (λa=>?_) λa=>by simp?[*];simpa[a]using h
 simp?[*];simpa[a]using h
def i7(c:P.ok)(a:Ax P p=true)(b:AQ P p=false)(h:Q .ZL g):Ja J (d+4) 3 [Zr P,uP p] g X Q:=by
 simp? only[E6]
 simp?;refine fq c a ?_;simp?[b];exact h
def gr(h:Q (.int (stride p)) g):Ja J (d+1) 4 [uP p] g X Q:=by
 simp? only[Fh]
 simp?[a8];unfold stride at h
 (repeat' (refine ae (λ_=>?_) (λ_=>?_)<;>(try simp?[a8, *])))
 all_goals simp_all
def uV(h:Q (.bl (BL p)) g):Ja J (d+2) 5 [uP p] g X Q:=by
 have s0:=(cv p).1;have sb:=dY p;simp? only[EU]
 simp?;refine gr ?_;simp?[s0,sb];unfold BL at h
 (repeat' (refine ae (λ_=>?_) (λ_=>?_)<;>(try simp?[a8, *])))
 all_goals simp_all
def uB(h:Q (u4 (BP p)) g):Ja J (d+2) 6 [uP p] g X Q:=by
 have s0:=(cv p).1;have sb:=dY p;simp? only[EK]
 simp?;refine gr ?_;simp?[s0,sb];unfold BP lying upright at h
 (repeat' (refine ae (λ_=>?_) (λ_=>?_)<;>(try simp?[a8, *])))
 all_goals simp_all
def uq(h:Q (u4 (BJ p)) g):Ja J (d+2) 7 [uP p] g X Q:=by
 have s0:=(cv p).1;have a:0<2*stride p:=by lia
 have sb:=ji p;have ss:=iL p;simp? only[EA]
 simp?;refine gr ?_;simp?[s0,a,sb,ss];unfold BJ B7 rising falling at h
 (repeat' (refine ae (λ_=>?_) (λ_=>?_)<;>(try simp?[a8, *])))
 all_goals simp_all
def yE(h:Q (u4 (Ay p)) g):Ja J (d+3) 8 [uP p] g X Q:=by
 simp? only[Fk]
 simp?;refine uV ?_;simp?;unfold Ay at h;refine ae (λk=>?_) λk=>?_
 .rw [YC k]at h
  simp?;refine uq ?_;simp?;exact h
 .rw [Yj (by simp[k])]at h
  simp?;refine uB ?_;simp?;exact h
def wm(c:P.ok)(j:Ax P p=true)(o:AQ P p=false)(h:A3 g ((JB P p).map uP) Q):Ja J (d+5) 9 [Zr P,uP p] g X Q:=by
 simp? only[Fc]
 simp?;refine i7 c j o ?_;simp?;refine yE ?_;simp?;refine cT [(Ay p).2.1,(Ay p).2.2] uP (λq=>Ax P q&&!AQ P q) uP (λg'=>g'=g) ((JB P p).map uP) rfl (λk g' e=>xJ) (λq r=>?_) #[3] rfl ?_
 .simp?
  rintro g' rfl;refine jx c ?_;simp?;refine ae (λa=>?_) λa=>?_
  .simp?
   refine fq c a ?_;simp?[a];refine ae (λf=>?_) λf=>?_<;>simp?[a,f]
  .simp? [a,QJ]
 .rintro g' rfl
  have hl:=cf P p;exact⟨by rw[Zz];lia,h _ _ (GB _) ah⟩
def Src(g:G)(u:U)(l:List Pt):Prop:=(∃n,u=.ref n/\g[n]?=some (.M (l.map uP)))\/u=.ZX (l.map uP)\/u=.xn 0 (l.map uP)
def Src.old(h:Src g u l)(o:Old g g'):Src g' u l:=h.imp_left λ⟨n,e,q⟩=>⟨n,e,o.get q⟩
def Src.put{x:Z9}(h:Src g u l)(o:Old g g')(a:g.length<=m):Src (g'.set m x) u l:=h.imp_left λ⟨n,e,q⟩=>⟨n,e,by have:=(YG.mp q).1;exact ar (by lia) (o.get q)⟩
def Src.it{u:U}{l:List Pt}(h:Src g u l):∃it,BI u g=some (it,g) /\∀k,next it k g=some (l.map uP)[k]?:=by
 rcases h with⟨n,rfl,e⟩|rfl|rfl
 .exact ⟨.M n,by simp![BI,e],λk=>aN e⟩
 .exact ⟨_,rfl,λk=>rfl⟩
 .exact ⟨_,rfl,λk=>rfl⟩
def Src.set(c:P∈Az)(h:Src g u l)(a:l.length<=300)(b:Cuts P l):CP [u] g=.ok (.ref g.length) (g++[.M ((JQ l).map uP)]):=by
 have k:=aef (g:=g) (ad1 c a b) (aX l);rcases h with⟨n,rfl,e⟩|rfl|rfl
 .simp only [CP,e];exact k
 .exact k
 .exact k
def i4(C:P∈Az)(B:P.ok)(f:Src g u l)(A:l.length<=300)(j:Cuts P l)(h:∀(g':G) (m:Nat),Old g g'->g.length<=m->g'[m]?=some (.ZG (DS (JQ l)))->Q (.ref m) g'):Ja J (d+5) 10 [Zr P,u] g X Q:=by
 let⟨it,z,y⟩:=f.it;simp? only[E9]
 simp?[↓z];refine bB (l.map uP) (λk Y g'=>g'=g /\∃o,Y=[some (Zr P),some u,o]) (λk Y g' a=>by rw[a.1];exact y k) ⟨rfl,_,rfl⟩ (λk u2 Y g' hk a=>?_) (λY g' a=>?_)
 .obtain ⟨rfl,o,rfl⟩:=a
  simp![Wh,Wa]at hk;let⟨p,c,rfl⟩:=hk;let⟨t,w⟩:=bE.mp (j p (W_ c));simp?;refine i7 B t w ?_;simp?;exact⟨_,rfl⟩
 .obtain ⟨rfl,o,rfl⟩:=a
  have r:(g'++[Z9.M ((JQ l).map uP)])[g'.length]?=some (.M ((JQ l).map uP)):=ah;simp?[f.set C A j,r];refine cT (JQ l) uP (λ_=>true) (λp=>.ZX [uP p,.bl true]) (λg2=>g2=g'++[Z9.M ((JQ l).map uP)]) ((JQ l).map λp=>.ZX [uP p,.bl true]) (by rw[kj]) (λk g2 e=>by rw[e];exact aN r) (λp c=>?_) (by have:=y6 l;lia) rfl ?_
  .simp?
   rintro g2 rfl;simp?[keyOf,intsOf]
  .rintro g2 rfl
   have f1:=j9 (l:=JQ l) (ks:=[]) (l0 l);rw[SR]at f1;simp?[show dfold ((JQ l).map λp=>.ZX [uP p,.bl true]) []=some (DS (JQ l))from f1];exact h _ _ Old.app.more #[3] ah
def wQ(l:P.ok)(j:p∈Av P)(c:SetAt g m ks)(h:A3 g ((A7 P ks p).map uP) Q):Ja J (d+6) 11 [Zr P,.ref m,uP p] g X Q:=by
 let⟨f,i⟩:=bE.mp j;simp? only[Fd]
 simp?;refine wm l f i λgs n s e=>?_;simp?[e];refine cT (JB P p) uP (λq=>!decide (q∈ks)) uP (λg'=>g'=g++gs) ((A7 P ks p).map uP) rfl (λk g' e'=>by rw[e'];exact aN e) (λq r=>?_) (by have:=cf P p;lia) rfl ?_
 .have dl:=(c.app (gs:=gs)).look (p:=q)
  have o:=gF (ks:=ks) (a:=q);have hi:=(c.app (gs:=gs)).items;simp![items]at hi;simp?;rintro g' rfl;simp?[hi,dl,o];refine ae (λb=>?_) λb=>?_<;>simp?[b]
 .rintro g' rfl
  have hl:=cf P p;have:=QZ (λq=>!decide (q∈ks)) (JB P p);exact dW h (by rw[Zz];unfold A7;lia)
def zD(B:P∈Az)(v:P.ok)(y:Src g u l)(A:l.length<=300)(t:Cuts P l)(h:∀g',Old g g'->Q (JS (AR P l (JQ l))) g'):Ja J (d+8) 12 [Zr P,u] g X Q:=by
 have hs:∀s,AR P l s=AR P (JQ l) s:=i8 λp=>bg.symm;rw[hs]at h;simp? only[Fq]
 simp?;refine i4 B v y A t λD m JN x w=>?_;simp?[w];refine bB ((JQ l).map uP) (λk Y g'=>∃o2 j,Old g g'/\g'[m]?=some (.Zs (DS (JQ l)))/\(∀p∈(JQ l).take k,A7 P (JQ l) p=[])/\Y=[some (Zr P),some u,some (.ref m),o2,j]) (λk Y g' c=>?_) ⟨_,_,JN.set x,av w,λp a=>by simp at a,rfl⟩ (λk u2 Y g' hk c=>?_) (λY g' c=>?_)
 .obtain ⟨_,_,_,e,_⟩:=c
  exact xk e
 .obtain ⟨o2,j,ho,e,b,rfl⟩:=c
  simp![Wh,Wa]at hk;let⟨p,a,rfl⟩:=hk;have n:p∈Av P:=t.Vu p (W_ a);simp?;refine wQ v n (.inr e) λgs C E i=>?_;cases f:A7 P (JQ l) p with
  |nil=>
   rw[f]at i;simp?[i,List.isEmpty_nil];refine⟨_,_,ho.more,ag e,λq o=>?_,rfl⟩;rw[RL,a]at o;rcases Wd.mp o with z|z
   .exact b q z
   .simp at z;rw[z];exact f
  |cons q r=>
   rw[f]at i;simp?[i,List.isEmpty_cons];have:=h _ (ho.more (gs:=gs));rw[jb f a b]at this;exact this
 .obtain ⟨o2,j,ho,e,b,rfl⟩:=c
  simp?;have:=h _ ho;rw[Zz]at b;rw[fF λp a=>b p (by rw[Qr];exact a)]at this
  exact this
def uu{i j s:Int}(c:small s)(h:A3 g ((Ai i j s).map uT) Q):Ja J (d+1) 13 [.int i,.int j,.int s] g X Q:=by
 simp? only[EF]
 simp?[c];unfold Ai at h;refine ae (λb=>?_) λb=>?_
 .have a:(i+j) % 2=0:=by simpa using b
  simp?[c];rw[YC a]at h;exact h _ _ (GB _) ah
 .have a : ¬ (i+j) % 2=0:=by simpa using b
  simp?[c];rw[Yj a]at h;exact h _ _ (GB _) ah
def aaq(c:P.ok)(h:A3 g ((JF P).map uT) Q):Ja J (d+2) 14 [Zr P] g X Q:=by
 have o:=c.ss;have hl:=iZ c;have A:(Jy P.w).length<=3:=by rw[aw];rcases c.w with e|e|e<;>rw[e]<;>decide
 have C:(Jy P.d).length<=3:=by rw[aw];rcases c.d with e|e|e<;>rw[e]<;>decide
 have u:Aj P.w=true:=by rcases c.w with e|e|e<;>rw[e]<;>exact aG #[1] #[1]
 have r:Aj P.d=true:=by rcases c.d with e|e|e<;>rw[e]<;>exact aG #[1] #[1]
 have a:∀i,((Jy P.d).flatMap λj=>(Ai i j P.s).map uT).length<=6:=λi=>by
  have:=aT (f:=λj=>(Ai i j P.s).map uT) (B:=2) (l:=Jy P.d) λj _=>by rw[Zz,cu];lia
  lia
 simp? only[Fo]
 simp?[u];refine ik (Jy P.w) U.int (λi=>(Jy P.d).flatMap λj=>(Ai i j P.s).map uT) (λg'=>∃gs,g'=g++gs) 8 (λk g' _=>aJ) (λi _=>Gz (a i) #[1]) (λi hi=>?_) _ 0 _ _ (UG _) (by simp![List.length_nil];lia) ⟨[],by simp⟩ ?_
 .simp? [r]
  rintro g' ZS ⟨gs,rfl⟩ z;refine ik (Jy P.d) U.int (λj=>(Ai i j P.s).map uT) (λg'=>∃gs,g'=g++gs) 2 (λk g' _=>aJ) (λj _=>by rw[Zz,cu];lia) (λj F=>?_) _ 0 _ _ (UG _) (by lia) ⟨gs,rfl⟩ ?_
  .simp?
   rintro g' ZS ⟨gs,rfl⟩ z;refine uu o λy n E e=>?_;simp?[e];refine abF (Ai i j P.s) uT (λ_=>true) uT (λg'=>g'=g++gs++y) ZS (λk g' e'=>by rw[e',aN e]) (λt D=>?_) (by rw[cu];lia) rfl ?_
   .simp?
    rintro g' rfl;trivial
   .rintro g' rfl
    exact⟨by rw[kj],_,XS ..⟩
  .rintro g' ⟨gs,rfl⟩
   exact⟨rfl,_,rfl⟩
 .rintro g' ⟨gs,rfl⟩
  have e:([]++List.flatMap (λi=>List.flatMap (λj=>(Ai i j P.s).map uT) (Jy P.d)) (List.drop 0 (Jy P.w)))=(JF P).map uT:=by
   simp[JF,List.map_flatMap]
  rw[e];exact dW h (by rw[Zz];lia)
def j5{t:ZF}(h:Q (JE (AO t)) g):Ja J (d+1) 15 [uT t] g X Q:=by
 have f:(2:Int)<Am:=by decide
 simp? only[Ff]
 simp?[slc4];unfold AO at h;refine ae (λb=>?_) λb=>?_
 .have e:(t.ax+t.bx) % 2=1:=by simpa using b
  rw[YC (.inl e)]at h;simp?;exact h
 .have e : ¬ (t.ax+t.bx) % 2=1:=by simpa using b
  simp?;refine ae (λa=>?_) λa=>?_
  .have c:(t.ay+t.bY) % 2=1:=by simpa using a
   rw[YC (.inr c)]at h;simp?;exact h
  .have c : ¬ (t.ay+t.bY) % 2=1:=by simpa using a
   rw[Yj (by lia)]at h
   simp?[f];exact h
def xA{t:ZF}{m:Pt}(a:AO t=some m)(h:A3 g ((Af t).map uT) Q):Ja J (d+2) 16 [uT t] g X Q:=by
 rw[cb a]at h;simp? only[Fg]
 simp?;refine j5 ?_;rw[a];simp?[JE];exact h _ _ (GB _) ah
def MeshAt(g:G)(n:Nat)(P:Plan)(Z6:List Pt):Prop:=∃k,g[n]?=some (.ins 220000973 [(232289904,Zr P),(31096353005,.ref k)])/\SetAt g k Z6/\3<=k
def MeshAt.old{Z6:List Pt}(h:MeshAt g n P Z6)(o:Old g g'):MeshAt g' n P Z6:=by
 let⟨k,h1,h2,a⟩:=h;exact⟨k,o.get h1,o.setAt h2,a⟩
def MeshAt.fr{Z6:List Pt}(h:MeshAt g n P Z6)(f:Fr g g')(b:3<=n):MeshAt g' n P Z6:=by
 let⟨k,h1,h2,a⟩:=h;exact⟨k,f.get _ _ b h1,h2.imp (f.get _ _ a) (f.get _ _ a),a⟩
def MeshAt.put{Z6:List Pt}{o:Z9}(h:MeshAt g n P Z6)(e:g[m]?=some (.M xs)):MeshAt (g.set m o) n P Z6:=by
 let⟨k,h1,h2,c⟩:=h;have b:m≠n:=λz=>by rw[<-z,e]at h1;cases h1
 have a:m≠k:=λz=>by rcases h2 with q|q<;>(rw[<-z,e]at q;cases q)
 exact⟨k,ar b h1,h2.imp (ar a) (ar a),c⟩
def c8(j:P∈Az)(i:P.ok)(c:Src g u l)(e:l.length<=300)(f:Cuts P l)(q:Clo P l)(v:3<=g.length)(h:∀g',Old g g'->MeshAt g' g.length P (JQ l)->Q .ZL g'):Ja J (d+9) 17 [.ref g.length,Zr P,u] (g++[.ins 220000973 []]) X Q:=by
 simp? only[Ez]
 simp?;refine zD j i (c.old Old.app) e f λa JN=>?_;rw[w9 q];have n:=JN.get (ah (g:=g) (o:=.ins 220000973 []));have l1:=JN.len;have t:g.length<a.length:=by rw[Z1,YZ,List.length_nil]at l1;lia
 simp?[JS,Au,n];have s:(a.set g.length (Z9.ins 220000973 [(232289904,Zr P)]))[g.length]?=some (.ins 220000973 [(232289904,Zr P)]):=av n;have b:Old g a:=Old.app.trans JN;refine i4 j i (c.put b (GB _)) e f λg2 m o2 p r=>?_;have k:=o2.get s;rw[Pe]at p;simp?[k];refine h _ (((b.set (GB _)).trans o2).set (GB _)) ⟨m,av k,.inl (ar (by lia) r),by lia⟩
def b9{Z6:List Pt}(O:P∈Az)(C:P.ok)(B:MeshAt g n P Z6)(N:Cuts P Z6)(h:A3 g ((JV P Z6).map uT) Q):Ja J (d+3) 18 [.ref n] g X Q:=by
 have hl:=(fJ C).2;have L:∀t∈JF P,AA 7 t=true:=λt f=>jr C f;let⟨k,I,Z,_⟩:=B;simp? only[Ey]
 simp?[ag I];refine aaq C λa nr hn e=>?_;simp?[e];have F:((JF P).flatMap As).length<16770000:=(by show(Bp P).length<_;lia)
 refine ir (λm Y g'=>∃(T W:List ZF) (gs:G) (o:Option U),T++W.reverse.flatMap (JU Z6)=JV P Z6/\T.length+(W.flatMap As).length<=((JF P).flatMap As).length/\(W.flatMap As).length=m/\(∀t∈W,AA 7 t=true)/\g'=(g ++ .M (T.map uT)::(a ++ .M (W.map uT)::gs))/\Y=[some (.ref n),some (.ref (g).length),some (.ref ((g).length+1+(List.length a))),o]) ?_ ((JF P).reverse.flatMap As).length _ _ ⟨[],(JF P).reverse,[],none,by simp[JV],by rw[be];simp,rfl,λt f=>L t (VQ.mp f),by simp,by simp;lia⟩
 rintro m Y g' ⟨T,W,gs,o,hT,TY,B,w,rfl,rfl⟩;rcases Q0 W with Wt|⟨W',t,rfl⟩
 .subst Wt
  have Uk:T=JV P Z6:=by simpa using hT
  have g2:(g ++ .M (T.map uT)::(a ++ .M []::gs))[(g).length+1+(List.length a)]?=some (.M []):=aV;simp?[g2,List.isEmpty_nil,List.length_nil,Q7];rw[Uk];refine h _ _ (GB _) dG
 .have f:AA 7 t=true:=w t #[3]
  have D:T++(JU Z6 t++W'.reverse.flatMap (JU Z6))=JV P Z6:=by
   rw[<-hT];simp
  have Vh:(W'.flatMap As).length+(1+((Af t).flatMap As).length)=m:=by
   rw[<-B];simp![List.concat_eq_append,SK,Uh,List.flatMap_nil,U9,Z1,jU f,YZ];lia
  have E:W'.length<=(W'.flatMap As).length:=gf λx _=>jB x;have K:(W'.concat t).map uT=W'.map uT++[uT t]:=by simp
  have g2:(g ++ .M (T.map uT)::(a ++ .M (W'.map uT++[uT t])::gs))[(g).length+1+(List.length a)]?=some (.M (W'.map uT++[uT t])):=aV;have y:(g ++ .M (T.map uT)::(a ++ .M (W'.map uT)::gs))[(g).length]?=some (.M (T.map uT)):=dG;have pop:Bb ((g).length+1+(List.length a)) (g ++ .M (T.map uT)::(a ++ .M (W'.map uT++[uT t])::gs))=.ok (uT t) (g ++ .M (T.map uT)::(a ++ .M (W'.map uT)::gs)):=by
   rw[dA g2,dZ]
  have S:(g ++ .M (T.map uT)::(a ++ .M (W'.map uT)::gs))[(g).length+1+(List.length a)]?=some (.M (W'.map uT)):=aV;have A:(g ++ .M (T.map uT)::(a ++ .M (W'.map uT)::gs))[n]?=some (.ins 220000973 [(232289904,Zr P),(31096353005,.ref k)]):=ag I;have z:SetAt (g ++ .M (T.map uT)::(a ++ .M (W'.map uT)::gs)) k Z6:=Z.app;rw[K];simp?[g2,yL,pop];refine j5 ?_;cases r:AO t with
  |none=>
   have app:AH (g).length (uT t) (g ++ .M (T.map uT)::(a ++ .M (W'.map uT)::gs))=.ok .ZL (g ++ .M ((T++[t]).map uT)::(a ++ .M (W'.map uT)::gs)):=by
    rw[aR y (by rw[Zz];lia),dE];simp
   simp?[JE,A,↓vq O N z,y,app];exact⟨(W'.flatMap As).length,by lia,T++[t],W',gs,_,by rw[<-D,bR f,gq r];simp,by rw[Z1,YZ,List.length_nil];lia,rfl,λx c=>w x (by simp[c]),rfl,rfl⟩
  |some q=>
   by_cases u:q∈Z6
   .simp? [JE,A,↓cU z,Vo u,S]
    refine xA r λj n2 Yu H=>?_;rw[bN]at H ⊢;simp?[H];rw[bN];have R:(g ++ .M ((T).map uT)::(a ++ .M (W'.map uT)::(gs++j++[.M ((Af t).map uT).reverse])))[(g).length+1+(List.length a)]?=some (.M (W'.map uT)):=aV;have V:(g ++ .M ((T).map uT)::(a ++ .M (W'.map uT)::(gs++j++[.M ((Af t).map uT).reverse])))[(List.length (g ++ .M ((T).map uT)::(a ++ .M (W'.map uT)::(gs++j))))]?=some (.M ((Af t).map uT).reverse):=by
     rw[<-bN];exact ah
    have hh:(Af t).length<=2:=by rw[cb r];simp[CW]
    have ext:Bs ((g).length+1+(List.length a)) (.ref (List.length (g ++ .M ((T).map uT)::(a ++ .M (W'.map uT)::(gs++j))))) (g ++ .M ((T).map uT)::(a ++ .M (W'.map uT)::(gs++j++[.M ((Af t).map uT).reverse])))=.ok .ZL (g ++ .M ((T).map uT)::(a ++ .M ((W'++(Af t).reverse).map uT)::(gs++j++[.M ((Af t).map uT).reverse]))):=by
     rw[fR R V (by rw[Zz,Pm,Zz];lia),dZ]
     simp
    simp?[ext];refine⟨((W'++(Af t).reverse).flatMap As).length,?_,T,W'++(Af t).reverse,_,_,?_,?_,rfl,λx c=>?_,rfl,rfl⟩
    .rw [SK,Z1,be];lia
    .rw [<-D,bR f,dX r,Vo u];simp
    .rw [SK,Z1,be];lia
    .rcases Wd.mp c with c|c
     .exact w x (by simp[c])
     .exact fU 6 x (dk f (VQ.mp c))
   .have app:AH (g).length (uT t) (g ++ .M (T.map uT)::(a ++ .M (W'.map uT)::gs))=.ok .ZL (g ++ .M ((T++[t]).map uT)::(a ++ .M (W'.map uT)::gs)):=by
     rw[aR y (by rw[Zz];omega),dE];simp
    simp?[JE,A,↓cU z,WY u,y,app];exact⟨(W'.flatMap As).length,by omega,T++[t],W',gs,_,by rw[<-D,bR f,dX r,WY u];simp,by rw[Z1,YZ,List.length_nil];omega,rfl,λx c=>w x (by simp[c]),rfl,rfl⟩
def iT{Z6:List Pt}(a:MeshAt g n P Z6)(h:A3 g (Z6.map uP) Q):Ja J (d+1) 19 [.ref n] g X Q:=by
 let⟨k,b,c,_⟩:=a;simp? only[EV]
 simp?[b,↓xE c];exact h _ _ (GB _) ah
def iY{Z6:List Pt}(f:P.ok)(c:Ax P p=true)(e:MeshAt g n P Z6)(h:Q (.bl (AQ P p||decide (p∈Z6))) g):Ja J (d+4) 20 [.ref n,uP p] g X Q:=by
 let⟨k,b,i,_⟩:=e;simp? only[E8]
 simp?[b];refine fq f c ?_;simp?;refine ae (λa=>?_) λa=>?_
 .simp?
  simpa[a]using h
 .simp? [b,↓cU i]
  simpa[a]using h
def uD{i:Int}(h:Q (.bl true) g):Ja J (d+1) 21 [.int i] g X Q:=by
 simp? only[EL]
 simp?;exact h
def cj(n:Nat):∀(D:Dt) (u v:U) (Q:U->G->Prop),D.ok n->Rep g D u->Rep g D v->Q (.bl true) g->Ja J (d+n+1) 22 [u,v] g X Q:=by
 induction n with
 |zero=>intro D u v Q E;exact E.elim
 |succ n ih=>
  intro D u v Q E r j h;refine(qb (d:=d+(n+1)) #[2] #[2]).2 ?_
  simp![EX];have list:∀(ds:List Dt) (S vs:List U),(∀D∈ds,D.ok n)->Reps g ds S->Reps g ds vs->items u g=some S->items v g=some vs ->∀O:Fl->G->Prop,(∀Y,O (.nx Y) g)->Ji J (d+(n+1)) (.nm 2) (.YM 0 (vs.length:Int).toNat) 0 [.Zx (.not (.call 22 [.idx (.L 0) (.L 2),.idx (.L 1) (.L 2)])) [.ret (.ZZ (.bl false))] []] [some u,some v,none] g X O:=λds S vs C c f V T O H=>by
   refine b8 ((Jy (vs.length:Int)).map U.int) (λk Y g'=>g'=g /\∃o,Y=[some u,some v,o]) (λk Y g' _=>aJ) (λk w Y g' hk I=>?_) (λY g' I=>by rw[I.1];exact H Y) _ 0 _ _ (UG _) ⟨rfl,none,rfl⟩
   let⟨rfl,o,rfl⟩:=I;simp![Wh,Wa]at hk;let⟨i,hi,rfl⟩:=hk;have YJ:=mR.mp (W_ hi);have y:=c.length;have t:=f.length;have K:ds[i.toNat]?=some ds[i.toNat]:=Y9 ()
   let⟨a,Z,Ii⟩:=c.get K;let⟨b,W,R⟩:=f.get K;have P:IC S i=some a:=by rw[eJ YJ.1 (by lia),Z]
   have JH:IC vs i=some b:=by rw[eJ YJ.1 (by lia),W]
   simp![↓qX,↓ph,↓qK,↓iq,↓iA,↓bh_f,↓eB,↓adx,↓adu,↓adM,↓adS,↓sL,↓tO,↓adY,↓adG,↓si,↓adH,↓tX,↓acR,↓oc_n,↓oc_s,↓lE,↓kT,↓lr,↓lY,↓abT,↓KV_s,↓KV_c,↓KV_n,↓uj,↓k_E,↓uh,↓KB_s,↓KB_a,↓tB,↓rN,↓abh,↓lQ,↓k7,↓lu,↓sR,↓ob_k,↓mj,↓ll,↓uf,↓abL,↓oZ,↓qy,↓qi,↓l8,↓mV,↓qT,↓sM,↓k_or,↓adN,↓tU,↓qh,↓rV,↓qF,↓tN,↓oB,↓qY,↓nj,↓rH,↓aa9,↓nV,↓qO,↓abm,↓ab8,↓m7,↓rn,↓og,↓oI,↓pH,↓sk,↓zu,↓kY,↓m8,↓t6,↓lF,↓ql,↓nT,↓ud,↓nu,↓ny,↓qQ,↓pO,↓oG,↓pP,↓abc,↓qf,↓oF,↓qg,↓abO,↓qp,↓pM,↓tZ,↓oT,↓aaw,↓oQ,↓qJ,↓sS,↓qH,↓acp,↓oX,↓qd,↓sI,↓oR,↓abA,↓nY,↓pJ,↓pZ,↓rT,↓k_bi,↓pR,↓tY,↓Ko_a,↓mG,↓rK,↓tQ,↓rq,↓sh,↓ni,↓sX,↓oE,↓mY,↓abW,↓nS,↓ye,↓kX,↓adp,↓nR,↓acQ,↓acG,↓aan,↓aca,↓aa0,↓abn,↓abz,↓aaJ,↓aak,↓qV,↓kS,↓qu,↓lG,↓ab3,↓aaM,↓yZ,↓acD,↓pC,↓sj,↓qj,↓lA,↓tL,↓n8,↓yY,↓aaF,↓abY,↓aaZ,↓pG,↓ac0,↓z9,↓kN,↓kU,↓zr,↓z0,↓lL,↓qx,↓oS,↓aaT,↓oW,↓rm,↓oP,↓mU,↓mZ,↓qA,↓oK,↓qk,↓oC,↓nK,↓sE,↓pB,↓tu,↓oU,↓ox,↓pD,↓aaE,↓ot,↓nC,↓nI,↓md,↓qr,↓ng,↓rG,↓qv,↓sf,↓tJ,↓tF,↓qU,↓rO,↓uc,↓oi,↓pY,↓nk,↓pz,↓pT,↓nG,↓oy,↓pA,↓oz,↓oe,↓nM,↓qc,↓oj,↓pL,↓nB,↓ou,↓pf,↓rL,↓rJ,↓se,↓tM,↓qZ,↓tS,↓om,↓rF,↓sZ,↓sY,↓me,↓tV,↓q_or,↓sV,↓rY,↓t9,↓rX,↓rR,↓sW,↓oO,↓t8,↓nO,↓pd,↓q_bi,↓sQ,↓sH,↓s9,↓rE,↓mX,↓nF,↓pU,↓pK,↓pQ,↓tK,↓tD,↓sC,↓rp,↓r8,↓r9,↓sr,perm,pick,AL,Rj,BN,Bz,Bh,Cg,WM,List.lookup_nil,Nat.reduceBEq,PF,List.contains_nil,Fx,List.getElem?_cons_zero,QG,YZ,List.length_nil,List.set_cons_zero,List.set_cons_succ,YT,QK,List.replicate_succ,List.replicate_zero,Rk,SR,UG,Nat.reduceAdd,Nat.reduceSub,Nat.reduceLT,Nat.reduceLeDiff,Nat.reduceEqDiff,Nat.lt_add_left_iff_pos,IK,Ae,bindL,Uc,W6,ite_true,ite_false,and_true,true_and,Option.getD_some,eS,eU,pF,lJ,lU,mi,tq,s8,sG,sD,gS,gg,r6,ug,sO,cin,ij,iC,tz,gE,Bool.or_false,Bool.or_true,Bool.true_or,Oz,clt,cle,cgt,cge,Ir,IB,Cb,BI,IH,Au,lift,IG,C6,DO,BK,alloc,AK,gi,Ac,rl,rZ,rQ,qW,rA,tf,AD,Cu,Vg,Int.reduceLT,Int.reduceLE,Int.reduceNeg,Int.reduceEq,QE,RX,Bool.not_true,Pw,OD,Qw,Bool.and_self,Xq,eq_self,V,T,P,JH];refine ih _ a b _ (C _ (W_ K)) Ii R ?_;simp?;exact⟨_,rfl⟩
  cases D with
  |ZL=>cases r;cases j;simp?;exact h
  |bl b=>cases r;cases j;simp?;cases b<;>exact h
  |int i=>
   cases r;cases j;simp?;refine uD (d:=d+n) ?_;simp?;simpa using h
  |str s=>cases r;cases j;simp?;simpa using h
  |ZX ds=>
   let⟨S,rfl,c⟩:=r;let⟨vs,rfl,f⟩:=j;have y:=c.length;have t:=f.length;let⟨z,C⟩:=Dt.Tt.mp E;have N:(S.length:Int)=vs.length:=by lia
   have F:Aj (vs.length:Int)=true:=aG (by lia) (by lia)
   simp?[N,F];refine list ds S vs C c f rfl rfl _ λY=>?_;simp?;exact h
  |M ds=>
   let⟨n1,S,rfl,B,c⟩:=r;let⟨n2,vs,rfl,A,f⟩:=j;have y:=c.length;have t:=f.length;let⟨z,C⟩:=Dt.SX.mp E;have N:(S.length:Int)=vs.length:=by omega
   have F:Aj (vs.length:Int)=true:=aG () ()
   simp?[N,F,B,A];refine list ds S vs C c f (by simp![items,B]) (by simp![items,A]) _ λY=>?_
   simp?;exact h
def vO(ns:List Int)(h:∀zs:List Int,Q (.ref 2) [.M (zs.map U.int),.M (zs.map U.int),Bv 1 0 7]):Ja J (d+1) 23 [.Zv (ns.map U.int)] [] X Q:=by
 simp? only[E5]
 simp?[Cf];have a:A4 (ns.map U.int) none (some 63)=(Ee ns none (some 63)).map U.int:=zB ns _ _;simp?[a,Bv];exact h _
def aF{m:Int}(N:Bag g)(j:0<m)(S:m<1000000000000)(h:∀(r:Int) (g':G),0<=r->r<m->Fr g g'->Q (.int r) g'):Ja J (d+1) 24 [.ref 2,.int m] g X Q:=by
 let⟨xs,at_,C,h1,h2⟩:=N;have l1:1<g.length:=(YG.mp h1).1;have R:2<g.length:=(YG.mp h2).1;have c:m<Am:=by unfold Am;lia
 have o:(2147483647:Int)<Am:=by decide
 have k:(64:Int)<Am:=by decide
 have K:small 48271:=bf #[1]
 have I:small 9973:=bf #[1]
 have s3:small 31:=bf #[1]
 have s4:small 69621:=bf #[1]
 simp? only[E2]
 simp?[h1,h2,Bv];have P:∀a:Int,0<=a -> ¬ 1000000000000000000<=a->wpS J d [(.Zx (.cmp .ge (.L 4) (.ZT .pow (.ZZ (.int 10)) (.ZZ (.int 18)))) [(.sub (.L 2) (.ZT .mod (.L 3) (.bi .len [(.L 2)])) (.ZT .fdiv (.L 4) (.L 1))),(.ret (.ZT .mod (.L 4) (.L 1)))] []),(.sub (.L 0) (.ZZ (.int 1)) (.ZT .add (.L 3) (.ZZ (.int 1)))),(.sub (.L 0) (.ZZ (.int 2)) (.ZT .mod (.ZT .add (.ZT .add (.ZT .add (.ZT .mul (.idx (.L 0) (.ZZ (.int 2))) (.ZZ (.int 48271))) (.ZT .mul (.L 4) (.ZZ (.int 9973)))) (.ZT .mul (.L 3) (.ZZ (.int 31)))) (.ZZ (.int 11))) (.ZZ (.int 2147483647)))),(.ret (.ZT .mod (.ZT .fdiv (.ZT .mod (.ZT .mul (.idx (.L 0) (.ZZ (.int 2))) (.ZZ (.int 69621))) (.ZZ (.int 2147483629))) (.ZZ (.int 64))) (.L 1)))] [some (.ref 2),some (.int m),some (.ref 1),some (.int at_),some (.int a)] g X λw g=>Jo w (lk λu=>Q u g):=λa A y=>by
  have F:=av (o':=Bv 1 (at_+1) C) h2;have t:=av (o':=Bv 1 (at_+1) ((C*48271+a*9973+at_*31+11) % 2147483647)) F;have O : ¬ a<0:=by lia
  simp?[h1,h2,jV,O,y,dz h2 (show(0:Int)<=1 by decide) #[3],K,I,s3,s4,j,c,o,k,show(1:Int).toNat=1 from rfl,F]
  simp?[dz F (show(0:Int)<=2 by decide) #[3],K,I,s3,s4,j,c,o,k,show(2:Int).toNat=2 from rfl,t]
  exact h _ _ (Pf _ (by lia)) (QA _ j) ((Fr.SW ⟨xs,at_,C,h1,h2⟩ _ _).trans (Fr.SW (Fr.SW ⟨xs,at_,C,h1,h2⟩ _ _).Za _ _))
 have B:∀a:Int,0<xs.length->1000000000000000000<=a->wpS J d [(.Zx (.cmp .ge (.L 4) (.ZT .pow (.ZZ (.int 10)) (.ZZ (.int 18)))) [(.sub (.L 2) (.ZT .mod (.L 3) (.bi .len [(.L 2)])) (.ZT .fdiv (.L 4) (.L 1))),(.ret (.ZT .mod (.L 4) (.L 1)))] []),(.sub (.L 0) (.ZZ (.int 1)) (.ZT .add (.L 3) (.ZZ (.int 1)))),(.sub (.L 0) (.ZZ (.int 2)) (.ZT .mod (.ZT .add (.ZT .add (.ZT .add (.ZT .mul (.idx (.L 0) (.ZZ (.int 2))) (.ZZ (.int 48271))) (.ZT .mul (.L 4) (.ZZ (.int 9973)))) (.ZT .mul (.L 3) (.ZZ (.int 31)))) (.ZZ (.int 11))) (.ZZ (.int 2147483647)))),(.ret (.ZT .mod (.ZT .fdiv (.ZT .mod (.ZT .mul (.idx (.L 0) (.ZZ (.int 2))) (.ZZ (.int 69621))) (.ZZ (.int 2147483629))) (.ZZ (.int 64))) (.L 1)))] [some (.ref 2),some (.int m),some (.ref 1),some (.int at_),some (.int a)] g X λw g=>Jo w (lk λu=>Q u g):=λa A y=>by
  have ce:=zc (at_:=at_) A;have cl:(0:Int)<xs.length:=by lia
  let⟨m1,M⟩:=hU (at_:=at_) A;simp?[h1,h2,jV,y,Zz,cl,j,c,dz h1 m1 (by simpa using M),<-List.map_set]
  exact h _ _ (Pf _ (by lia)) (QA _ j) (Fr.set1 ⟨xs,at_,C,h1,h2⟩ _)
 have H:∀a:Int,(1000000000000000000<=a->0<xs.length)->0<=a->wpS J d [(.Zx (.cmp .ge (.L 4) (.ZT .pow (.ZZ (.int 10)) (.ZZ (.int 18)))) [(.sub (.L 2) (.ZT .mod (.L 3) (.bi .len [(.L 2)])) (.ZT .fdiv (.L 4) (.L 1))),(.ret (.ZT .mod (.L 4) (.L 1)))] []),(.sub (.L 0) (.ZZ (.int 1)) (.ZT .add (.L 3) (.ZZ (.int 1)))),(.sub (.L 0) (.ZZ (.int 2)) (.ZT .mod (.ZT .add (.ZT .add (.ZT .add (.ZT .mul (.idx (.L 0) (.ZZ (.int 2))) (.ZZ (.int 48271))) (.ZT .mul (.L 4) (.ZZ (.int 9973)))) (.ZT .mul (.L 3) (.ZZ (.int 31)))) (.ZZ (.int 11))) (.ZZ (.int 2147483647)))),(.ret (.ZT .mod (.ZT .fdiv (.ZT .mod (.ZT .mul (.idx (.L 0) (.ZZ (.int 2))) (.ZZ (.int 69621))) (.ZZ (.int 2147483629))) (.ZZ (.int 64))) (.L 1)))] [some (.ref 2),some (.int m),some (.ref 1),some (.int at_),some (.int a)] g X λw g=>Jo w (lk λu=>Q u g):=λa A y=>by
  by_cases E:1000000000000000000<=a
  .exact B a (A E) E
  .exact P a y E
 refine ae (λf=>?_) λf=>?_
 .have f:0<xs.length:=by simpa using f
  have cl:(0:Int)<xs.length:=by lia
  simp?[h1,Zz,cl,xb f];refine ae (λD=>?_) λD=>?_
  .have z:=H (1-C2 xs at_) (λ_=>f) (by simp![Xq]at D;lia)
   simp?[eq_self]at z ⊢;exact z
  .have z:=H (C2 xs at_) (λ_=>f) (by simp![T6]at D;lia)
   simp?[eq_self]at z ⊢;exact z
 .have z:=H 0 (λz=>absurd z #[1]) #[1]
  simp?[eq_self]at z ⊢;exact z
def BR:List Plan:=[⟨1,1,2⟩,⟨1,1,4⟩,⟨2,1,2⟩,⟨1,2,2⟩,⟨2,2,2⟩,⟨1,1,4⟩,⟨3,1,2⟩,⟨1,3,2⟩,⟨2,1,4⟩,⟨1,2,4⟩,⟨3,2,2⟩,⟨1,1,8⟩]
def zU{P:Plan}(h:P∈BR):P.ok:=by
 simp![BR,X5,List.not_mem_nil,or_false]at h;rcases h with rfl|rfl|rfl|rfl|rfl|rfl|rfl|rfl|rfl|rfl|rfl|rfl<;>exact⟨by simp,by simp,by simp⟩
def uE(a:Bag g)(h:∀(P:Plan) (g':G),P∈BR->Fr g g'->Q (Zr P) g'):Ja J (d+2) 25 [.ref 2] g X Q:=by
 simp? only[E3]
 simp?;refine nU (ag ah) ah #[1] ?_
 simp?;refine aF a.app.app.app #[1] #[1] λr c y w k=>?_
 have u:=k.get _ _ (by have:=a.len;simp![Z1,YZ,List.length_nil];lia) ah
 let⟨P,t,o⟩:=lV (l:=BR) (f:=Zr) y (by exact w)
 have j:c[(g++[Z9.M ((BR.take 6).map Zr)]++[Z9.M ((BR.drop 6).map Zr)]).length]?=some (.M (BR.map Zr)):=u;have fr:Fr g c:=by
  refine Fr.trans ?_ k;rw[XS,XS];exact Fr.app a
 revert j;simp![Z1,YZ,List.length_nil];intro j;simp?[j,o,Z1];exact h P c t fr
def uA(c:P.ok)(h:A3 g ((Bo P).map uP) Q):Ja J (d+1) 26 [Zr P] g X Q:=by
 have h0:=c.s0;have h1:=c.ss;have hw:=c.ws;have hd:=c.ds;have q:Aj (P.w*P.s+1)=true:=aG (by lia) (by lia)
 have p:Aj (P.d*P.s+1)=true:=aG () ()
 have hl:=iP c;simp? only[EI]
 simp?[*];refine b8 ((Jy (P.w*P.s+1)).map U.int) (λk Y g'=>(∃JN o2,Y=[some (Zr P),some (.ref g.length),JN,o2])/\g'=g++[.M ((((Jy (P.w*P.s+1)).take k).flatMap λx=>(Jy (P.d*P.s+1)).map λy=>((x,y):Pt)).map uP)]) (λk Y g' _=>aJ) (λk u Y g' hk b=>?_) (λY g' b=>?_) _ 0 _ _ (UG _) ⟨⟨none,none,rfl⟩,rfl⟩
 .obtain ⟨⟨JN,o2,rfl⟩,rfl⟩:=b
  simp![Wh,Wa]at hk;let⟨x,n,rfl⟩:=hk;simp?[*];refine b8 ((Jy (P.d*P.s+1)).map U.int) (λj Y g'=>(∃o2,Y=[some (Zr P),some (.ref g.length),some (.int x),o2])/\g'=g++[.M (((((Jy (P.w*P.s+1)).take k).flatMap λx=>(Jy (P.d*P.s+1)).map λy=>((x,y):Pt))++(((Jy (P.d*P.s+1)).take j).map λy=>((x,y):Pt))).map uP)]) (λk Y g' _=>aJ) (λj u Y g' i b=>?_) (λY g' b=>?_) _ 0 _ _ (UG _) ⟨⟨o2,rfl⟩,by simp⟩
  .obtain ⟨⟨o2,rfl⟩,rfl⟩:=b
   simp![Wh,Wa]at i;let⟨y,m,rfl⟩:=i;have t:=List.length_take_le k (Jy (P.w*P.s+1));have e:((((Jy (P.w*P.s+1)).take k).flatMap λx=>(Jy (P.d*P.s+1)).map λy=>((x,y):Pt))++(((Jy (P.d*P.s+1)).take j).map λy=>((x,y):Pt))).length<=700:=by
    have a1:=aT (f:=λx=>(Jy (P.d*P.s+1)).map λy=>((x,y):Pt)) (B:=25) (l:=(Jy (P.w*P.s+1)).take k) λa _=>by simp[aw];lia
    have o:((Jy (P.w*P.s+1)).take k).length<=25:=by rw[WV,aw];lia
    have r:=Nat.mul_le_mul_right 25 o;rw[Z1,Zz,WV,aw];lia
   simp?[ah,fv (show(List.map uP ((((Jy (P.w*P.s+1)).take k).flatMap λx=>(Jy (P.d*P.s+1)).map λy=>((x,y):Pt))++(((Jy (P.d*P.s+1)).take j).map λy=>((x,y):Pt)))).length<16777000 by rw[Zz];lia)]
   refine⟨⟨_,rfl⟩,?_⟩;rw[RL,m];simp
  .obtain ⟨⟨o2,rfl⟩,rfl⟩:=b
   simp?;refine⟨⟨_,_,rfl⟩,?_⟩;rw[RL,n];simp
 .obtain ⟨⟨JN,o2,rfl⟩,rfl⟩:=b
  simp?;refine h _ _ (GB _) ?_;simp[Bo]
def fk(b:P.ok)(h:Q (.bl (AQ P p)) g):Ja J (d+1) 27 [Zr P,uP p] g X Q:=by
 have h0:=b.s0;simp? only[EG]
 simp?[*];simp![AQ]at h;refine ae (λa=>?_) λa=>by simp?[*];simpa[a]using h
 simp?[*];simpa[a]using h
def uU(a:P.ok)(h:A3 g ((Av P).map uP) Q):Ja J (d+2) 28 [Zr P] g X Q:=by
 have hl:=iP a;simp? only[E1]
 simp?;refine uA a λgs n i c=>?_;simp?[*];refine cT (Bo P) uP (λp=>!AQ P p) uP (λg'=>g'=g++gs) ((Av P).map uP) rfl (λk g' e=>by rw[e,aN c]) (λp f=>?_) (by lia) rfl ?_
 .simp?
  rintro g' rfl;refine fk a ?_;simp?;refine ae (λb=>?_) λb=>?_<;>simp?[*]
 .rintro g' rfl
  have hf:=QZ (λp=>!AQ P p) (Bo P);exact dW h (by rw[Zz];unfold Av;lia)
def w6(a:P.ok)(h:Q (.bl (Ax P p)) g):Ja J (d+1) 29 [Zr P,uP p] g X Q:=by
 have h1:=a.ss;simp? only[Fe]
 simp?[h1];unfold Ax at h
 (repeat' (refine ae (λ_=>?_) (λ_=>?_)<;>(try simp?[a8, *])))
 all_goals simp_all
def iS(h:Q (.int (stride p)) g):Ja J (d+1) 30 [uP p] g X Q:=by
 simp? only[EY]
 simp?;unfold stride at h
 (repeat' (refine ae (λ_=>?_) (λ_=>?_)<;>(try simp?[a8, *])))
 all_goals simp_all
def uw(h:Q (.bl (BL p)) g):Ja J (d+2) 31 [uP p] g X Q:=by
 have s0:=(cv p).1;have sb:=dY p;simp? only[ED]
 simp?;refine iS ?_;simp?[s0,sb];unfold BL at h
 (repeat' (refine ae (λ_=>?_) (λ_=>?_)<;>(try simp?[a8, *])))
 all_goals simp_all
def uz(h:∀gs n i j,(g++gs)[n]?=some (.M [.ref i,.ref j])->(g++gs)[i]?=some (.M [uP (Ay p).1.1,uP (Ay p).1.2])->(g++gs)[j]?=some (.M [uP (Ay p).2.1,uP (Ay p).2.2])->Q (.ref n) (g++gs)):Ja J (d+3) 32 [uP p] g X Q:=by
 have s0:=(cv p).1;have f:0<2*stride p:=by omega
 have sb:=ji p;have k:=dY p;have ss:=iL p;simp? only[EB]
 simp?;refine iS ?_;simp?[s0,f,sb,k,ss];refine uw ?_;simp?[s0,f,sb,k,ss];refine ae (λc=>?_) λc=>?_
 .have ev:=wZ c
  simp?[s0,f,sb,k,ss];refine ae (λo=>?_) λo=>?_
  .have a:=ev.mp (by simpa using o)
   simp?[s0,f,sb,k,ss];exact ee (i:=2) (j:=3) h (by simp[Ay,c,BJ,a,rising]) (by simp[Ay,c,BJ,a,falling]) #[3] #[3]
  .have a:=mt ev.mpr (by simpa using o)
   simp?[s0,f,sb,k,ss];exact ee (i:=3) (j:=2) h (by simp[Ay,c,BJ,a,falling]) (by simp[Ay,c,BJ,a,rising]) #[3] #[3]
 .simp? [s0,f,sb,k,ss]
  refine ae (λo=>?_) λo=>?_
  .have a:p.1 / stride p % 2=1:=by simpa using o
   simp?[s0,f,sb,k,ss];exact ee (i:=0) (j:=1) h (by simp[Ay,c,BP,a,lying]) (by simp[Ay,c,BP,a,upright]) #[3] #[3]
  .have a : ¬ p.1 / stride p % 2=1:=by simpa using o
   simp?[s0,f,sb,k,ss];exact ee (i:=1) (j:=0) h (by simp[Ay,c,BP,a,upright]) (by simp[Ay,c,BP,a,lying]) #[3] #[3]
def vC(f:P.ok)(h:A3 g ((JB P p).map uP) Q):Ja J (d+4) 33 [Zr P,uP p] g X Q:=by
 simp? only[E4]
 simp?;refine uz λgs n i j t r o=>?_;simp?[t,r,o];refine cT [(Ay p).2.1,(Ay p).2.2] uP (λq=>Ax P q&&!AQ P q) uP (λg'=>g'=g++gs) ((JB P p).map uP) rfl (λk g' e=>by rw[e];exact aN o) (λq u=>?_) #[3] rfl ?_
 .simp?
  rintro g' rfl;refine w6 f ?_;simp?;refine ae (λa=>?_) λa=>?_
  .simp?
   refine fk f ?_;simp?[a];refine ae (λc=>?_) λc=>?_<;>simp?[a,c]
  .simp? [a,QJ]
 .rintro g' rfl
  have hl:=cf P p;exact dW h (by rw[Zz];omega)
def vB(f:g[n]?=some (.M (l.map uP)))(i:l.length<=100000)
  (h:∀(g':G) (m:Nat) (ks:List Pt),Old g g'->g.length<=m->g'[m]?=some (.ZG (DS ks))->ks.Nodup->(∀p,p∈ks↔p∈l)->ks.length<=l.length->Q (.ref m) g'):Ja J (d+1) 34 [.ref n] g X Q:=by
 simp? only[E7]
 simp?[ag f];refine bB (l.map uP) (λk Y g'=>∃(ks:List Pt) (o:Option U),g'=g++[.ZG (DS ks)]/\ks.length<=k/\ks.Nodup/\(∀p,p∈ks↔p∈l.take k)/\Y=[some (.ref n),some (.ref g.length),o]) (λk Y g' a=>?_) ⟨[],none,rfl,GB _,.nil,λp=>by simp,rfl⟩ (λk u Y g' hk a=>?_) (λY g' a=>?_)
 .obtain ⟨ks,o,rfl,_⟩:=a
  exact aN (ag f)
 .obtain ⟨ks,o,rfl,c,nd,b,rfl⟩:=a
  simp![Wh,Wa]at hk;let⟨p,e,rfl⟩:=hk;have j:k<l.length:=(YG.mp e).1;have sb:∀Y,subAt (.ref g.length) (uP p) (.bl true) Y (g++[.ZG (DS ks)])=.ok (.nx Y) (g++[.ZG (DS (JR ks p))]):=λY=>by
   rw[jk ah gU (by unfold DS JM;rw[Zz];lia)]
   rw[show AV (p.1,p.2)=AV p from rfl,gH];simp
  simp?[sb];refine⟨_,_,rfl,?_,gK nd,λq=>?_,rfl⟩
  .unfold JR;split
   .lia
   .simp;lia
  .rw [bp,b,RL,e];simp[or_comm]
 .obtain ⟨ks,o,rfl,c,nd,b,rfl⟩:=a
  simp?;rw[Zz]at c b;exact h _ _ ks Old.app (GB _) ah nd (λp=>by rw[b,Qr]) c
def ux(K:P∈Az)(V:P.ok)(S:g[n]?=some (.M (l.map uP)))(T:l.length<=700)(D:Cuts P l)
  (h:∀(g':G) (m:Nat),Old g g'->g.length<=m->g'[m]?=some (.M ((A6 P l).map uP))->Q (.ref m) g'):Ja J (d+5) 35 [Zr P,.ref n] g X Q:=by
 simp? only[EE]
 simp?[ag S];refine ir (λm Y g'=>∃(ks W:List Pt) (o:Option U),Old g g'/\g'[g.length]?=some (.ZG (DS ks))/\g'[g.length+1]?=some (.M (W.map uP))/\ks.Nodup/\(∀p∈ks,Xp P l p)/\(∀p∈W,Xp P l p)/\(∀p∈l,p∈ks\/p∈W)/\(∀p∈ks,∀q∈JB P p,q∈ks\/q∈W)/\W.length<=700+2*ks.length/\3*(77-ks.length)+W.length=m/\Y=[some (Zr P),some (.ref n),some (.ref g.length),some (.ref (g.length+1)),o]) ?_ (3*(77-0)+l.length) _ _ ⟨[],l,none,Old.app.more,by simp[JM],by simp,.nil,(λp c=>nomatch c),(λp c=>.base c),(λp c=>.inr c),(λp c=>nomatch c),by simpa using T,rfl,by simp⟩
 rintro m Y g' ⟨ks,W,o,ho,N,k,nd,t,w,E,hC,hw,hm,rfl⟩;have hk:Cuts P ks:=λp c=>(t p c).cut D;have I:=hk.len K nd;rcases Q0 W with Wt|⟨W',p,rfl⟩
 .subst Wt
  have same:JQ ks=A6 P l:=xZ D λq=>⟨t q,acX (λp c=>(E p c).resolve_right λz=>nomatch z) λp c q a=>(hC p c q a).resolve_right λz=>nomatch z⟩;simp?[k,List.length_nil,Q7,zf (.inl N) nd (by lia)]
  rw[same];exact h _ _ ho.more (ho.len) ah
 .have R:(W'.concat p).map uP=W'.map uP++[uP p]:=by simp
  rw[R]at k;have lw:(W'.concat p).length=W'.length+1:=by simp
  have j:Xp P l p:=w p #[3]
  have C:p∈Av P:=j.cut D;have mem:∀q,q∈W'.concat p↔q∈W'\/q=p:=λq=>by simp
  have pop:=dA k;have o2:Old g (g'.set (g.length+1) (.M (W'.map uP))):=ho.set (by lia)
  have u:(g'.set (g.length+1) (.M (W'.map uP)))[g.length]?=some (.ZG (DS ks)):=ar (by lia) N
  have L:(g'.set (g.length+1) (.M (W'.map uP)))[g.length+1]?=some (.M (W'.map uP)):=av k;have Ud:=abN (p:=p) (.inl u);have A:(0:Int)<((W'.map uP).length+1:Nat):=by lia
  simp?[k,Z1,A,pop,↓Ud];refine ae (λf=>?_) λf=>?_
  .replace f:p ∉ ks:=by simpa using f
   have Zk:ks.length+1<=77:=by
    have:=Cuts.len K (l:=ks++[p]) (λq a=>by rcases Wd.mp a with z|z;exact hk q z;rw[WA.mp z];exact C) (yA nd f)
    simpa using this
   have sb:∀Y,subAt (.ref g.length) (uP p) (.bl true) Y (g'.set (g.length+1) (.M (W'.map uP)))=.ok (.nx Y) ((g'.set (g.length+1) (.M (W'.map uP))).set g.length (.ZG (DS (JR ks p)))):=λY=>by
    rw[jk u gU (by unfold DS JM;rw[Zz];lia),show AV (p.1,p.2)=AV p from rfl,gH]
   simp?[sb];generalize H:(g'.set (g.length+1) (.M (W'.map uP))).set g.length (.ZG (DS (JR ks p)))=g3;have O:Old g g3:=by rw[<-H];exact o2.set (GB _)
   have e5:g3[g.length]?=some (.ZG (DS (JR ks p))):=by rw[<-H];exact av u
   have F:g3[g.length+1]?=some (.M (W'.map uP)):=by rw[<-H];exact ar (by lia) L
   simp?[F];refine vC V λgs n3 Xy Z=>?_;have Yl:=cf P p;have ext:=fR (ag (gs:=gs) F) Z (by rw[Zz,Zz];lia)
   simp?[ext];have la:=yV f;refine⟨_,?_,JR ks p,W'++JB P p,_,(O.more).set (by lia),ar (by lia) (ag e5),?_,gK nd,λq a=>?_,λq a=>?_,λq a=>?_,λr B q a=>?_,?_,rfl,rfl⟩
   .rw [Z1];lia
   .rw [SM];exact av (ag F)
   .rcases bp.mp a with rfl|z
    .exact j
    .exact t q z
   .rcases Wd.mp a with z|z
    .exact w q ((mem q).mpr (.inl z))
    .exact .step j z
   .rcases E q a with z|z
    .exact .inl (bp.mpr (.inr z))
    .rcases (mem q).mp z with z|z
     .exact .inr (Wd.mpr (.inl z))
     .exact .inl (bp.mpr (.inl z))
   .rcases bp.mp B with rfl|z
    .exact .inr (Wd.mpr (.inr a))
    .rcases hC r z q a with y|y
     .exact .inl (bp.mpr (.inr y))
     .rcases (mem q).mp y with y|y
      .exact .inr (Wd.mpr (.inl y))
      .exact .inl (bp.mpr (.inl y))
   .rw [Z1];lia
  .replace f:p∈ks:=by simpa using f
   simp?;refine⟨_,?_,ks,W',_,o2,u,L,nd,t,λq a=>w q ((mem q).mpr (.inl a)),λq a=>?_,λr B q a=>?_,by lia,rfl,rfl⟩
   .lia
   .rcases E q a with z|z
    .exact .inl z
    .rcases (mem q).mp z with z|z
     .exact .inr z
     .exact .inl (by rw[z];exact f)
   .rcases hC r B q a with z|z
    .exact .inl z
    .rcases (mem q).mp z with z|z
     .exact .inr z
     .exact .inl (by rw[z];exact f)
def uK(R:P∈Az)(hP:P.ok)(H:Bag g)(h:∀(g':G) (m:Nat) (l:List Pt),Fr g g'->g.length<=m->g'[m]?=some (.M (l.map uP))->Cuts P l->l.length<=77->Q (.ref m) g'):Ja J (d+3) 36 [.ref 2,Zr P] g X Q:=by
 have I:=(iy R).2.2;have O:0<(Av P).length:=by
  have:(Az.all λP=>Nat.blt 0 (Av P).length)=true:=by decide +kernel
  exact Nat.blt_eq.mp (Wy.mp this P R)
 have self:Cuts P (Av P):=λp o=>o;simp? only[ET]
 simp?;refine uU hP λgs n1 W e1=>?_;have A:3<=n1:=Gz H.len W;simp?;refine aF H.app #[1] #[1] λr g2 N L y=>?_
 have B:Fr g g2:=(Fr.app H).trans y;have w:=y.get _ _ A e1;have F:g.length<=g2.length:=B.len;have pick:∀(m:Int),0<m->m<1000 ->∀(c:Int->Bool) (S:G),Fr g2 S->True:=λ_ _ _ _ _ _=>trivial;simp?;refine ae (λk1=>?_) λk1=>?_
 .simp?
  exact h _ _ [] (B.trans (Fr.app y.Za)) F ah (λp o=>nomatch o) #[3]
 simp?;refine ae (λk2=>?_) λk2=>?_
 .simp?
  exact h _ _ _ B W w self I
 simp?;refine ae (λk3=>?_) λk3=>?_
 .simp? [w]
  refine eG ((Av P).map uP) (λv=>∃p,v=uP p/\p∈Av P) (λg'=>Fr g2 g') (λk g' f=>aN (f.get _ _ A w)) (λu t=>?_) ((Av P).map uP).length 0 [] _ (UG _) (by rw[Zz];unfold Ac;simp;lia) (Fr.refl y.Za) λvs g' l1 C a=>?_
  .obtain ⟨p,o,rfl⟩:=XY.mp t
   simp?;intro g' a;refine aF a.Za #[1] #[1] λr g4 N L j=>?_
   simp?;refine ae (λD=>?_) λD=>?_
   .simp?
    exact⟨a.trans j,λ_=>⟨⟨p,rfl,o⟩,a.trans j⟩⟩
   .simp?
    exact⟨a.trans j,λz=>by cases z⟩
  .obtain ⟨ps,rfl,E⟩:=eO C
   rw[Zz,Zz]at l1;refine⟨by rw[SR,Zz];lia,?_⟩
   rw[SR];exact h _ _ ps ((B.trans a).trans (Fr.app a.Za)) (Gz F a.len) ah E (by lia)
 simp?;refine ae (λD=>?_) λD=>?_
 .simp? [w]
  refine eG ((Av P).map uP) (λv=>∃p,v=uP p/\p∈Av P) (λg'=>Fr g2 g') (λk g' f=>aN (f.get _ _ A w)) (λu t=>?_) ((Av P).map uP).length 0 [] _ (UG _) (by rw[Zz];unfold Ac;simp;omega) (Fr.refl y.Za) λvs g' l1 C a=>?_
  .obtain ⟨p,o,rfl⟩:=XY.mp t
   simp?;intro g' a;refine aF a.Za #[1] #[1] λr g4 N L j=>?_
   simp?;refine ae (λD=>?_) λD=>?_
   .simp?
    exact⟨a.trans j,λ_=>⟨⟨p,rfl,o⟩,a.trans j⟩⟩
   .simp?
    exact⟨a.trans j,λz=>by cases z⟩
  .obtain ⟨ps,rfl,E⟩:=eO C
   rw[Zz,Zz]at l1;refine⟨by rw[SR,Zz];omega,?_⟩
   rw[SR];exact h _ _ ps ((B.trans a).trans (Fr.app a.Za)) (Gz F a.len) ah E ()
 simp?;refine aF y.Za #[1] #[1] λK S s0 s1 a=>?_
 have e3:=a.get _ _ A w;have rr:Aj (1+K)=true:=aG (by lia) (by lia)
 simp?[rr];refine abw ((Jy (1+K)).map U.int) (λv=>∃p,v=uP p/\p∈Av P) (λg'=>Fr g2 g') (λk g' f=>aJ) (λu t=>?_) (by rw[Zz,aw];lia) a λvs g' l1 C j=>?_
 .obtain ⟨kk,hk,rfl⟩:=XY.mp t
  simp?;intro g' j;have V:=j.get _ _ A w;simp?[V,Zz];refine aF j.Za (by lia) () λr5 g5 Z Y T=>?_
  let⟨p,o,t⟩:=lV (f:=uP) Z Y;simp?[T.get _ _ A V,t];exact⟨⟨p,rfl,o⟩,j.trans T⟩
 .obtain ⟨ps,rfl,E⟩:=eO C
  rw[Zz,Zz,aw]at l1;refine⟨by rw[Zz];lia,?_⟩
  exact h _ _ ps ((B.trans j).trans (Fr.app j.Za)) (Gz F j.len) ah E (by lia)
def uY(b:P∈Az)(f:P.ok)(i:Bag g)(h:∀(g':G) (m:Nat) (l:List Pt),Fr g g'->g.length<=m->g'[m]?=some (.M (l.map uP))->Cuts P l->Clo P l->l.length<=77->JQ l=l->Q (.ref m) g'):Ja J (d+6) 37 [.ref 2,Zr P] g X Q:=by
 simp? only[EZ]
 simp?;refine uK b f i λq m l c o k e p=>?_;simp?;refine ux b f k (by lia) e λg2 n o2 a j=>?_
 simp?;exact h _ _ (A6 P l) (c.trans (o2.fr c.Za)) (Gz c.len a) j iR (wj e) (iR.len b v8) (lP _)
def vM(h:i<l.length):(l[i]::l.eraseIdx i).Perm l:=by
 rw[UR];refine P4.symm.trans ?_;rw[<-WT h,Wz]
def uH(A:Bag g)(z:g[n]?=some (.M (l.map uP)))(P:3<=n)(O:l.length<=1000)(h:∀(g':G) (m:Nat) (w:List Pt),Fr g g'->g.length<=m->g'[m]?=some (.M (w.map uP))->w.Perm l->Q (.ref m) g'):Ja J (d+2) 38 [.ref 2,.ref n] g X Q:=by
 have R:=A.len;simp? only[ES]
 have D:Aj ((l.map uP).length:Int)=true:=aG (by lia) (by rw[Zz];lia)
 simp?[ag z,ag (ag z),D];refine bB ((Jy ((l.map uP).length:Int)).map U.int) (λk Y g'=>∃(T W:List Pt) (o:Option U),Fr g g'/\g'[g.length]?=some (.M (T.map uP))/\g'[g.length+1]?=some (.M (W.map uP))/\T.length=k/\(T++W).Perm l/\Y=[some (.ref 2),some (.ref n),some (.ref g.length),some (.ref (g.length+1)),o]) (λk Y g' c=>aJ) ⟨[],l,none,by exact Old.fr Old.app.more A,by simp,by simp,rfl,by simp,by first|rfl|simp⟩ (λk u Y g' hk c=>?_) (λY g' c=>?_)
 .obtain ⟨T,W,o,f,i,t,j,b,rfl⟩:=c
  have v:=b.length_eq;rw[Z1]at v;have K:k<l.length:=by
   have:=(YG.mp hk).1;rw[Zz,aw,Zz]at this;simpa using this
  simp![Wh,Wa]at hk;let⟨N,_,rfl⟩:=hk;simp?[i,t,Zz];refine aF f.Za (by lia) (by lia) λr g2 E L q=>?_
  have F:=q.get _ _ (by lia) i
  have C:=q.get _ _ (by lia) t
  have x:r.toNat<W.length:=by lia
  have pp:=xV C E (by lia) (u:=uP W[r.toNat]) (by rw[Wh,Y9 x];rfl)
  have B:(g2.set (g.length+1) (.M ((W.map uP).eraseIdx r.toNat)))[g.length]?=some (.M (T.map uP)):=ar (by lia) F
  have ap:=aR (y:=uP W[r.toNat]) B (by rw[Zz];lia)
  simp?[pp,ap];refine⟨T++[W[r.toNat]],W.eraseIdx r.toNat,_,?_,?_,?_,by simp[j],?_,rfl⟩
  .have p:=f.trans q
   refine⟨?_,?_,λk o hk e=>?_⟩
   .obtain ⟨xs,a,s,I,H⟩:=p.Za
    exact⟨xs,a,s,ar (by lia) (ar (by lia) I),ar (by lia) (ar (by lia) H)⟩
   .rw [Pe,Pe];exact p.len
   .have K:=(YG.mp e).1
    exact ar (by lia) (ar (by lia) (p.get k o hk e))
  .rw [av B];simp
  .rw [ar (by lia) (av C)];rw[wq]
  .rw [XS]
   exact((vM x).append_left T).trans b
 .obtain ⟨T,W,o,f,i,t,j,b,rfl⟩:=c
  simp?;rw[Zz,aw,Zz]at j;have v:=b.length_eq;rw[Z1]at v;have:W=[]:=RE.mp (by lia)
  subst this;exact h _ _ T f (GB _) i (by simpa using b)
def uL(t:P.ok)(h:A3 g ((JF P).map uT) Q):Ja J (d+1) 39 [Zr P] g X Q:=by
 have E:=t.ss;have hl:=iZ t;have L:Aj P.w=true:=by rcases t.w with e|e|e<;>rw[e]<;>exact aG #[1] #[1]
 have K:Aj P.d=true:=by rcases t.d with e|e|e<;>rw[e]<;>exact aG #[1] #[1]
 have O:(Jy P.d).length<=3:=by rw[aw];rcases t.d with e|e|e<;>rw[e]<;>decide
 have N:(Jy P.w).length<=3:=by rw[aw];rcases t.w with e|e|e<;>rw[e]<;>decide
 have a:∀i k,(((Jy P.d).take k).flatMap λj=>Ai i j P.s).length<=6:=λi k=>by
  have:=aT (f:=λj=>Ai i j P.s) (B:=2) (l:=(Jy P.d).take k) λj _=>Ob (cu i j P.s);have:=List.length_take_le' k (Jy P.d);lia
 have b:∀k,(((Jy P.w).take k).flatMap λi=>(Jy P.d).flatMap λj=>Ai i j P.s).length<=18:=λk=>by
  have:=aT (f:=λi=>(Jy P.d).flatMap λj=>Ai i j P.s) (B:=6) (l:=(Jy P.w).take k) λi _=>by have:=a i 100;rwa[Vi (by lia)]at this
  have:=List.length_take_le' k (Jy P.w);lia
 simp? only[EO]
 simp?[L];refine bB ((Jy P.w).map U.int) (λk Y g'=>(∃JN o2 o c,Y=[some (Zr P),some (.ref g.length),some (.int P.s),JN,o2,o,c])/\g'=g++[.M ((((Jy P.w).take k).flatMap λi=>(Jy P.d).flatMap λj=>Ai i j P.s).map uT)]) (λk Y g' _=>aJ) ⟨⟨_,_,_,_,rfl⟩,rfl⟩ (λk u Y g' hk r=>?_) (λY g' r=>?_)
 .obtain ⟨⟨JN,o2,o,c,rfl⟩,rfl⟩:=r
  simp![Wh,Wa]at hk;let⟨i,hi,rfl⟩:=hk;simp?[K];refine bB ((Jy P.d).map U.int) (λm Y g'=>(∃o2 o c,Y=[some (Zr P),some (.ref g.length),some (.int P.s),some (.int i),o2,o,c])/\g'=g++[.M (((((Jy P.w).take k).flatMap λi=>(Jy P.d).flatMap λj=>Ai i j P.s)++(((Jy P.d).take m).flatMap λj=>Ai i j P.s)).map uT)]) (λk Y g' _=>aJ) ⟨⟨_,_,_,rfl⟩,by simp⟩ (λm u Y g' F r=>?_) (λY g' r=>?_)
  .obtain ⟨⟨o2,o,c,rfl⟩,rfl⟩:=r
   simp![Wh,Wa]at F;let⟨j,G,rfl⟩:=F;have R:=b k;have a1:=a i m;have A:((((((Jy P.w).take k).flatMap λi=>(Jy P.d).flatMap λj=>Ai i j P.s)++(((Jy P.d).take m).flatMap λj=>Ai i j P.s)).map uT):List U).length<16777000:=by rw[Zz,Z1];lia
   have z:∀x:U,((((((Jy P.w).take k).flatMap λi=>(Jy P.d).flatMap λj=>Ai i j P.s)++(((Jy P.d).take m).flatMap λj=>Ai i j P.s)).map uT)++[x]:List U).length<16777000:=λx=>by rw[Z1,Zz,Z1];simp![YZ,List.length_nil];lia
   have I:∀x:U,AH g.length x (g++[.M (((((Jy P.w).take k).flatMap λi=>(Jy P.d).flatMap λj=>Ai i j P.s)++(((Jy P.d).take m).flatMap λj=>Ai i j P.s)).map uT)])=.ok .ZL (g++[.M ((((((Jy P.w).take k).flatMap λi=>(Jy P.d).flatMap λj=>Ai i j P.s)++(((Jy P.d).take m).flatMap λj=>Ai i j P.s)).map uT)++[x])]):=λx=>fv A;have H:∀x y:U,AH g.length y (g++[.M ((((((Jy P.w).take k).flatMap λi=>(Jy P.d).flatMap λj=>Ai i j P.s)++(((Jy P.d).take m).flatMap λj=>Ai i j P.s)).map uT)++[x])])=.ok .ZL (g++[.M ((((((Jy P.w).take k).flatMap λi=>(Jy P.d).flatMap λj=>Ai i j P.s)++(((Jy P.d).take m).flatMap λj=>Ai i j P.s)).map uT)++[x]++[y])]):=λx y=>fv (z x);simp?[E];refine ae (λD=>?_) λD=>?_
   .have C:(i+j) % 2=0:=by simpa using D
    simp?[ah,I,H];refine⟨⟨_,_,_,rfl⟩,?_⟩;rw[RL,G];simp[Ai,C]
   .have C : ¬ (i+j) % 2=0:=by simpa using D
    simp?[ah,I,H];refine⟨⟨_,_,_,rfl⟩,?_⟩;rw[RL,G];simp[Ai,C]
  .obtain ⟨⟨o2,o,c,rfl⟩,rfl⟩:=r
   simp?;refine⟨⟨_,_,_,_,rfl⟩,?_⟩;rw[RL,hi];simp[Vi]
 .obtain ⟨⟨JN,o2,o,c,rfl⟩,rfl⟩:=r
  simp?;refine h _ _ (GB _) ?_;simp[JF]
def iD{t:ZF}(h:Q (JE (AO t)) g):Ja J (d+1) 40 [uT t] g X Q:=by
 have f:(2:Int)<Am:=by decide
 simp? only[EC]
 simp?;unfold AO at h;refine ae (λb=>?_) λb=>?_
 .have e:(t.ax+t.bx) % 2=1:=by simpa using b
  rw[YC (.inl e)]at h;simp?;exact h
 .have e : ¬ (t.ax+t.bx) % 2=1:=by simpa using b
  simp?;refine ae (λa=>?_) λa=>?_
  .have c:(t.ay+t.bY) % 2=1:=by simpa using a
   rw[YC (.inr c)]at h;simp?;exact h
  .have c : ¬ (t.ay+t.bY) % 2=1:=by simpa using a
   rw[Yj ()]at h
   simp?[f];exact h
def uv{t:ZF}{m:Pt}(a:AO t=some m)(h:A3 g ((Af t).map uT) Q):Ja J (d+2) 41 [uT t] g X Q:=by
 rw[cb a]at h;simp? only[EH]
 simp?;refine iD ?_;rw[a];simp?[JE];exact h _ _ (GB _) ah
def iF{Z6:List Pt}(A:P.ok)(K:g[n]?=some (.M (Z6.map uP)))(hS:Z6.length<=700)(h:∀(g':G) (m:Nat),Old g g'->g.length<=m->g'[m]?=some (.M ((JV P Z6).map uT))->Q (.ref m) g'):Ja J (d+3) 42 [Zr P,.ref n] g X Q:=by
 have hl:=(fJ A).2;have L:∀t∈JF P,AA 7 t=true:=λt j=>jr A j;simp? only[EJ]
 simp?;refine vB K (by lia) λa k ks JN lk R _ V _=>?_
 have ex:SetAt a k ks:=.inl R;have hk:∀q,decide (q∈ks)=decide (q∈Z6):=λq=>P8.mpr (V q);simp?;refine uL A λc nr I e=>?_;simp?[e];have E:((JF P).flatMap As).length<16770000:=(by show(Bp P).length<_;lia)
 refine ir (λm Y g'=>∃(T W:List ZF) (gs:G) (o o2:Option U),T++W.reverse.flatMap (JU Z6)=JV P Z6/\T.length+(W.flatMap As).length<=((JF P).flatMap As).length/\(W.flatMap As).length=m/\(∀t∈W,AA 7 t=true)/\g'=(a ++ .M (T.map uT)::(c ++ .M (W.map uT)::gs))/\Y=[some (Zr P),some (.ref n),some (.ref k),some (.ref a.length),some (.ref (a.length+1+(List.length c))),o,o2]) ?_ ((JF P).reverse.flatMap As).length _ _ ⟨[],(JF P).reverse,[],none,none,by simp[JV],by rw[be];simp,rfl,λt j=>L t (VQ.mp j),by simp,by simp;lia⟩
 rintro m Y g' ⟨T,W,gs,o,o2,hT,TY,hm,y,rfl,rfl⟩;rcases Q0 W with Z|⟨W',t,rfl⟩
 .subst Z
  have Uk:T=JV P Z6:=by simpa using hT
  have g2:(a ++ .M (T.map uT)::(c ++ .M []::gs))[a.length+1+(List.length c)]?=some (.M []):=aV;simp?[g2,List.length_nil,Q7];rw[Uk];refine h _ _ JN.more JN.len dG
 .have j:AA 7 t=true:=y t #[3]
  have B:T++(JU Z6 t++W'.reverse.flatMap (JU Z6))=JV P Z6:=by
   rw[<-hT];simp
  have Vh:(W'.flatMap As).length+(1+((Af t).flatMap As).length)=m:=by
   rw[<-hm];simp![List.concat_eq_append,SK,Uh,List.flatMap_nil,U9,Z1,jU j,YZ];lia
  have D:W'.length<=(W'.flatMap As).length:=gf λx _=>jB x;have H:(W'.concat t).map uT=W'.map uT++[uT t]:=by simp
  have g2:(a ++ .M (T.map uT)::(c ++ .M (W'.map uT++[uT t])::gs))[a.length+1+(List.length c)]?=some (.M (W'.map uT++[uT t])):=aV;have z:(a ++ .M (T.map uT)::(c ++ .M (W'.map uT)::gs))[a.length]?=some (.M (T.map uT)):=dG;have pop:Bb (a.length+1+(List.length c)) (a ++ .M (T.map uT)::(c ++ .M (W'.map uT++[uT t])::gs))=.ok (uT t) (a ++ .M (T.map uT)::(c ++ .M (W'.map uT)::gs)):=by
   rw[dA g2,dZ]
  have O:(a ++ .M (T.map uT)::(c ++ .M (W'.map uT)::gs))[a.length+1+(List.length c)]?=some (.M (W'.map uT)):=aV;have C:SetAt (a ++ .M (T.map uT)::(c ++ .M (W'.map uT)::gs)) k ks:=ex.app;rw[H];have Ib:(0:Int)<((W'.map uT++[uT t]).length:Nat):=by rw[Z1,TH];lia
  simp?[g2,Ib,pop];refine iD ?_;cases u:AO t with
  |none=>
   have app:AH a.length (uT t) (a ++ .M (T.map uT)::(c ++ .M (W'.map uT)::gs))=.ok .ZL (a ++ .M ((T++[t]).map uT)::(c ++ .M (W'.map uT)::gs)):=by
    rw[aR z (by rw[Zz];lia),dE];simp
   simp?[JE,Au,z,app];exact⟨(W'.flatMap As).length,by lia,T++[t],W',gs,_,_,by rw[<-B,bR j,gq u];simp,by rw[Z1,YZ,List.length_nil];lia,rfl,λx f=>y x (by simp[f]),rfl,rfl⟩
  |some q=>
   by_cases w:q∈Z6
   .simp? [JE,Au,↓cU C,hk,Vo w,O]
    refine uv u λr n2 Yu F=>?_;rw[bN]at F ⊢;simp?[F];rw[bN];have N:(a ++ .M ((T).map uT)::(c ++ .M (W'.map uT)::(gs++r++[.M ((Af t).map uT).reverse])))[a.length+1+(List.length c)]?=some (.M (W'.map uT)):=aV;have S:(a ++ .M ((T).map uT)::(c ++ .M (W'.map uT)::(gs++r++[.M ((Af t).map uT).reverse])))[(List.length (a ++ .M ((T).map uT)::(c ++ .M (W'.map uT)::(gs++r))))]?=some (.M ((Af t).map uT).reverse):=by
     rw[<-bN];exact ah
    have hh:(Af t).length<=2:=by rw[cb u];simp[CW]
    have ext:Bs (a.length+1+(List.length c)) (.ref (List.length (a ++ .M ((T).map uT)::(c ++ .M (W'.map uT)::(gs++r))))) (a ++ .M ((T).map uT)::(c ++ .M (W'.map uT)::(gs++r++[.M ((Af t).map uT).reverse])))=.ok .ZL (a ++ .M ((T).map uT)::(c ++ .M ((W'++(Af t).reverse).map uT)::(gs++r++[.M ((Af t).map uT).reverse]))):=by
     rw[fR N S (by rw[Zz,Pm,Zz];lia),dZ]
     simp
    simp?[ext];refine⟨((W'++(Af t).reverse).flatMap As).length,?_,T,W'++(Af t).reverse,_,_,_,?_,?_,rfl,λx f=>?_,rfl,rfl⟩
    .rw [SK,Z1,be];lia
    .rw [<-B,bR j,dX u,Vo w];simp
    .rw [SK,Z1,be];lia
    .rcases Wd.mp f with f|f
     .exact y x (by simp[f])
     .exact fU 6 x (dk j (VQ.mp f))
   .have app:AH a.length (uT t) (a ++ .M (T.map uT)::(c ++ .M (W'.map uT)::gs))=.ok .ZL (a ++ .M ((T++[t]).map uT)::(c ++ .M (W'.map uT)::gs)):=by
     rw[aR z (by rw[Zz];omega),dE];simp
    simp?[JE,Au,↓cU C,hk,WY w,z,app];exact⟨(W'.flatMap As).length,by omega,T++[t],W',gs,_,_,by rw[<-B,bR j,dX u,WY w];simp,by rw[Z1,YZ,List.length_nil];omega,rfl,λx f=>y x (by simp[f]),rfl,rfl⟩
def uJ(a:P.ok)(e:Bag g)(h:∀(q:Pt) (g':G),Ax P q=true->Fr g g'->Q (uP q) g'):Ja J (d+2) 43 [.ref 2,Zr P] g X Q:=by
 have h0:=a.s0;have s1:=a.ss;have c:=a.ws;have n:=a.ds;simp? only[EM]
 simp?[s1];refine aF e (by lia) (by lia) λx k j m b=>?_
 simp?[s1];refine aF b.Za (by lia) () λy g2 i l f=>?_
 simp?;exact h (x,y) g2 (vZ ⟨j,by simp![];lia,i,by simp![];lia⟩) (b.trans f)
def ab6:IC (xs++[u]) (-1)=some u:=by
 have e:L2.ixN (xs++[u]).length (-1)=some xs.length:=by
  unfold L2.ixN;rw[Z1,TH];rw[Yj (by lia),YC (by lia)]
  congr 1;lia
 unfold IC L2.atI;rw[e];simp
def kR{xs:List α}(h:1<=xs.length):∃zs z,xs=zs++[z]:=⟨xs.dropLast,xs.getLast (λe=>by rw[e]at h;simp at h),(List.dropLast_concat_getLast _).symm⟩
def fm(a:g[n]?=some (.M xs))(r:xs.length<=10000)(h:∀ys:List U,Q .ZL (g.set n (.M ys))):Ja J (d+1) 44 [.ref n] g X Q:=by
 by_cases f:1<=xs.length
 .obtain ⟨zs,z,rfl⟩:=kR f
  let⟨ws,w,j⟩:=kR (xs:=(zs++[z]).set 0 z) (by simpa using f)
  have k:ws.length<16777000:=by have:=TZ List.length j;simp at this r;lia
  have o:∀Y,subAt (.ref n) (.int 0) z Y g=.ok (.nx Y) (g.set n (.M (ws++[w]))):=λY=>by rw[<-j];exact dz a #[1] #[3]
  have p2:Bb n (g.set n (.M (ws++[w])))=.ok w (g.set n (.M ws)):=by rw[dA (av a),List.set_set]
  have c:AH n .ZL (g.set n (.M ws))=.ok .ZL (g.set n (.M (ws++[.ZL]))):=by rw[aR (av a) k,List.set_set]
  have g2:(g.set n (.M (ws++[w])))[n]?=_:=av a;have t:(g.set n (.M ws))[n]?=_:=av a;have u:decide ((0:Int)<((zs++[z]).length:Nat))=true:=Vo #[3]
  simp? only[DB]
  simp?[a,u,ab6,o,g2,p2,t,c];exact h _
 .have:xs=[]:=RE.mp (by lia)
  subst this;have c:AH n .ZL g=.ok .ZL (g.set n (.M ([]++[.ZL]))):=aR a #[3]
  simp? only[DB]
  simp?[a,c,Q7];exact h _
def iG{b:Type}{f:b->PySem.PyData}:∀l:List b,PySem.PyData.shownAll (l.map f)=l.map λa=>(f a).shown
 |[]=>rfl
 |a::l=>by simp![YT,PySem.PyData.shownAll,iG l]
def fg{c:Type}{f:c->PySem.PyData}:∀l:List c,(∀a∈l,(f a).showable=true)->PySem.PyData.showableAll (l.map f)=true
 |[],_=>rfl
 |a::l,h=>by simp![YT,PySem.PyData.showableAll,h a XZ,fg l λb d=>h b (GC _ d),Bool.and_self]
def oV{c:Nat}:∀l:List Nat,(∀x∈l,x<=c)->l.sum<=c*l.length
 |[],_=>GB _
 |x::l,h=>by
  have h1:=h x XZ;have h2:=oV l λy a=>h y (GC _ a);rw[List.sum_cons,YZ,Nat.mul_succ];lia
def oH{ts:List PySem.Str}(h:∀t∈ts,t.length<=c):(ts.map (·.length)).sum<=c*ts.length:=by
 have h2:=oV (c:=c) (ts.map (·.length)) λx a=>by let⟨t,b,rfl⟩:=XY.mp a;exact h t b
 rwa[Zz]at h2
def mz:∀l:List ZF,A9 (l.map uT)=some (l.map JI)
 |[]=>rfl
 |t::l=>by
  have e:keyOf (uT t)=some (JI t):=rfl;rw[YT];simp![A9,e,mz l]
  rfl
def JW(l:List ZF):PySem.Str:=(Be (l.map JI)).shown
def nW{l:List ZF}(e:g[n]?=some (.M (l.map uT)))(D:l.length<=3000)(o:∀t∈l,B6 t):C5 [.ref n] g=.ok (.str (JW l)) g:=by
 have hi:∀t∈l,∀i∈JI t,-1000<=i/\i<=1000:=λt a i hi=>by
  let⟨C,B,A,z,y,w⟩:=o t a;simp![JI,X5,List.not_mem_nil,or_false]at hi;lia
 have hk:(Be (l.map JI)).showable=true/\(Be (l.map JI)).shown.length<=PySem.sizeLine:=by
  constructor
  .simp only [Be,PySem.PyData.showable]
   refine fg _ λr f=>?_;let⟨t,a,rfl⟩:=XY.mp f;simp![PySem.PyData.showable];refine fg _ λi d=>?_;have:=hi t a i d;simp![PySem.PyData.showable,Xq];exact Nat.lt_of_le_of_lt (Nat.log2_le_self _) ()
  .simp only [Be,PySem.PyData.shown,iG]
   have h1:∀t∈(l.map JI).map (λr=>PySem.tupleText (r.map λi=>PySem.Str.ofString (toString i))),t.length<=100:=λs hs=>by
    let⟨r,f,rfl⟩:=XY.mp hs;let⟨t,a,rfl⟩:=XY.mp f;have h2:=PySem.tupleText_len_le ((JI t).map λi=>PySem.Str.ofString (toString i));have h3:=oH (ts:=(JI t).map λi=>PySem.Str.ofString (toString i)) (c:=10) λs hs=>by
     let⟨i,d,rfl⟩:=XY.mp hs;rw[PySem.ofString_length];have:=hi t a i d;exact Gz (PySem.int_text_length_le10 (k:=4) #[1] ()) #[1]
    have u:((JI t).map λi=>PySem.Str.ofString (toString i)).length=6:=rfl;rw[u]at h2 h3;omega
   have h2:=PySem.listText_len_le ((l.map JI).map (λr=>PySem.tupleText (r.map λi=>PySem.Str.ofString (toString i))));have h3:=oH h1;rw[Zz,Zz]at h2 h3;rw[PySem.sizeLine_eq];exact Gz h2 ()
 have j:BX (.ref n) g=some (Be (l.map JI)):=by
  unfold BX;simp![DT,e,mz,Vg]
 simp![C5,j,YC hk]
 rfl
def rS:∀l:List ZF,Iw BC (l.map uT) (l.map uT)=some true
 |[]=>rfl
 |t::l=>by
  have e:BC (uT t) (uT t)=some true:=by simp[BC,Iw,Io,Ak,uT]
  rw[YT];simp![Iw,e,rS l]
  rfl
def qs_T(l:List ZF):Iy (l.map uT) (l.map uT)=some true:=by unfold Iy;rw[YC rfl];exact rS l
def JX(P:Plan):Dt:=.ZX [.int P.w,.int P.d,.int P.s]
def pW{P:Plan}:Rep g (JX P) (Zr P):=by
 simp![JX,Rep];refine⟨_,rfl,?_⟩;simp![Reps];exact⟨_,_,rfl,aH,_,_,rfl,aH,_,_,rfl,aH,rfl⟩
def adA{P:Plan}:(JX P).ok (n+2):=by
 unfold JX;rw[Dt.Tt];refine⟨by simp,λD h=>?_⟩
 simp at h;rcases h with rfl|rfl|rfl<;>exact ic
def iH{Z6:List Pt}(D:P∈Az)(c:P.ok)(C:Bag g)(i:MeshAt g n P Z6)(E:3<=n)(B:Cuts P Z6)(W:Z6.length<=77)(t:g[m]?=some (.M (Z6.map uP)))(O:3<=m)(h:∀g',Fr g g'->Q (.bl true) g'):Ja J (d+9) 45 [.ref 2,Zr P,.ref n,.ref m] g X Q:=by
 have A:=kH (Z6:=Z6) c;have y:Aj 4=true:=aG () ()
 let⟨k,v,Zh,Yx⟩:=id i;simp? only[ER]
 simp?[v];refine cj 2 (JX P) _ _ _ adA pW pW ?_;simp?[v];refine iT i λF S Yt N=>?_;simp?;refine cj 3 (JA Z6) _ _ _ (ad5 ()) (pk N) (pk (ag t)) ?_
 simp?[ag v];refine b9 D c (i.old Old.app) B λX6 R Yu L=>?_;simp?;refine iF c (ag (ag t)) () λG T w z K=>?_
 simp?;refine cj 3 (JG (JV P Z6)) _ _ _ (aed ()) (nN (w.get L)) (nN K) ?_
 have I:Fr g G:=((Old.app.trans Old.app).trans w).fr C;simp?[y];refine bB ((Jy 4).map U.int) (λj Y g'=>Fr g g' /\∃r p o,Y=[some (.ref 2),some (Zr P),some (.ref n),some (.ref m),some (.bl true),r,p,o]) (λj Y g' l=>aJ) ⟨I,_,_,_,rfl⟩ (λj u Y g' Z l=>?_) (λY g' l=>?_)
 .obtain ⟨f',r,p,o,rfl⟩:=l
  simp?;refine uJ c f'.Za λq g4 x H=>?_;have a:=f'.trans H;have s:=a.get _ _ O t;have b:=i.fr a E;let⟨V,f,_,_⟩:=id b;simp?;refine fk c ?_;simp?;refine ae (λe=>?_) λe=>?_
  .simp? [e,f]
   refine iY c x b ?_;simp?[e];refine cj 1 (.bl true) _ _ _ rC eQ eQ ?_;simp?;exact⟨a,_,_,_,rfl⟩
  .simp? [e,f,s,sT]
   refine iY c x b ?_;simp?[e];refine cj 1 (.bl (decide (q∈Z6))) _ _ _ rC eQ eQ ?_;simp?;exact⟨a,_,_,_,rfl⟩
 .obtain ⟨f',r,p,o,rfl⟩:=l
  simp?;exact h _ f'
def sN(ns:List Int){v hn kn:Nat}{Z6:List Pt}(f:P∈Az)(a:P.ok)(hb:Bag g)(Q:MeshAt g v P Z6)(q:3<=v)(e:Cuts P Z6)(hC:Clo P Z6)(R:Z6.length<=77)(hs:JQ Z6=Z6)(S:g[m]?=some (.M (Z6.map uP)))(s:3<=m):wpS J (d+11) (Br.body.drop 11) [some (.Zv (ns.map U.int)),some (.ref 2),some (Zr P),some (.ref m),some (.ref hn),some (.ref kn),some (.ref v),some (.bl true),none,none] g X (Kfn λu _=>u=.bl true):=by
 have hlm:=kH (Z6:=Z6) a;have b:∀t∈JV P Z6,B6 t:=λt ht=>xj (uQ a (xH ht));simp![Br,List.drop_succ_cons,Ox];simp?;refine iH f a hb Q q e R S s λg2 G=>?_;have w:=Q.fr G q;let⟨k,W,_,_⟩:=id w;simp?[W];refine b9 f a w e λr O Xy V=>?_;simp?[ag W];refine iT (w.old Old.app) λh x Y e4=>?_;have l34:O<x:=GD (YG.mp V).1 Y;have l4:g2.length<=x:=by rw[Z1]at Y;omega
 have H:=ag (gs:=h) V;have Z:Old g2 (g2++r++h):=Old.app.trans Old.app;generalize g2++r++h=gA at *;simp?;refine fm H (by rw[Zz];omega) λys=>?_
 simp?;refine fm (ar () e4) (by rw[Zz];omega) λzs=>?_
 have F:=((Z.set (o:=.M ys) Xy).set (o:=.M zs) l4).fr G.Za;have l:=w.fr F q;have p:=F.get _ _ s (G.get _ _ s S);generalize(gA.set O (.M ys)).set x (.M zs)=g5 at *;simp?;refine iH f a F.Za l q e R p s λg6 E=>?_;have L:=l.fr E q;have n:=E.get _ _ s p;let⟨k6,A,_,_⟩:=id L;have l6:=E.Za.len;simp?[A];refine b9 f a L e λC n7 hn7 e7=>?_;simp?[nW e7 () b]
 refine c8 f a (.inl ⟨m,rfl,ag n⟩) () e hC (by rw[Z1];omega) λg8 N c=>?_
 rw[hs]at c;let⟨k8,z,_,_⟩:=id c;simp?[Au,z];refine b9 f a c e λB n9 hn9 e9=>?_;simp?;refine iF a (ag (gs:=B) (N.get (ag (gs:=C) n))) () λD n10 i l10 K=>?_
 have j:MeshAt D v P Z6:=(((L.old Old.app).old N).old Old.app).old i;let⟨kA,y,_,_⟩:=id j;simp?[↓t7 (i.get e9) K,qs_T,y];refine b9 f a j e λT n11 _ I=>?_;simp?[nW I () b,RG]
def sA(ns:List Int){v C A:Nat}{Z6:List Pt}(o:P∈Az)(k:P.ok)(a:Bag g)(D:MeshAt g v P Z6)(E:3<=v)(f:Cuts P Z6)(r:Clo P Z6)(y:Z6.length<=77)(w:JQ Z6=Z6)(c:g[m]?=some (.M (Z6.map uP)))(z:3<=m):wpS J (d+11) (Br.body.drop 10) [some (.Zv (ns.map U.int)),some (.ref 2),some (Zr P),some (.ref m),some (.ref C),some (.ref A),some (.ref v),some (.bl true),none,none] g X (Kfn λu _=>u=.bl true):=by
 obtain⟨R,j⟩:∃R,R=Br.body.drop 11:=⟨_,rfl⟩;rw[WT (i:=10) #[1],<-j]
 simp![Br,List.getElem_cons_succ,List.getElem_cons_zero];simp?[c];refine ae (λt=>?_) λt=>?_
 .have B:Z6=[]:=by simpa using t
  subst B;simp?;refine c8 o k (.inr (.inr rfl)) (S_ _) (l:=[]) f r a.len λg2 o2 F=>?_;simp?[Au];rw[j];exact sN ns o k (o2.fr a).Za F a.len f r y w (o2.get c) z
 .simp?
  rw[j];exact sN ns o k a D E f r y w c z
def law_ok(ns:List Int):Ja J (d+12) 46 [.Zv (ns.map U.int)] [] X λu _=>u=.bl true:=by
 obtain⟨R,K⟩:∃R,R=Br.body.drop 10:=⟨_,rfl⟩;refine ab #[2] #[2] ?_;rw[<-Wz 10 Br.body,<-K];simp![Br,List.take_succ_cons,Ow,Rk,SR]
 simp?;refine vO ns λzs=>?_;have I:Bag [.M (zs.map U.int),.M (zs.map U.int),Bv 1 0 7]:=⟨zs,0,7,rfl,rfl⟩;revert I;generalize([.M (zs.map U.int),.M (zs.map U.int),Bv 1 0 7]:G)=g0;intro I;simp?;refine uE I λP g1 f f1=>?_;have z:=zU f;have f:P∈Az:=f;simp?;refine uY f z f1.Za λg2 m l f2 lm e2 H L hl hs=>?_;have h1:=f1.Za.len;simp?;refine uH f2.Za e2 () () λg3 m3 a f3 lm3 e3 g=>?_
 have hl3:=g.length_eq;have h2:=f2.len;simp?;refine aF f3.Za #[1] #[1] λr N r0 r1 O=>?_
 have e4:=O.get _ _ () e3
 have V:=O.get _ _ () (f3.get _ _ () e2)
 simp?[Cf,e4,yw r0];have lt:=List.length_take_le r.toNat a;refine nU (ag e4) ah ?_ ?_
 .simp only [Zz];unfold Ac;omega
 rw[<-SM]
 have j:JQ (a++a.take r.toNat)=l:=(fW λp=>by
  rw[Wd];exact⟨λh=>g.mem_iff.mp (h.elim id U1),λh=>.inl (g.mem_iff.mpr h)⟩).trans hs
 have k:∀p,p∈a++a.take r.toNat↔p∈l:=λp=>by rw[<-j];exact bg.symm
 have c4:Cuts P (a++a.take r.toNat):=λp E=>H p ((k p).mp E);have C4:Clo P (a++a.take r.toNat):=λp E q hq=>(k q).mpr (L p ((k p).mp E) q hq);have l4:(a++a.take r.toNat).length<=200:=by rw[Z1];omega
 generalize a++a.take r.toNat=Z7 at *;have b5:Bag (N++[.M ((a.take r.toNat).map uP)]):=O.Za.app;have e5:(N++[.M ((a.take r.toNat).map uP)])[m]?=_:=ag V;generalize N++[.M ((a.take r.toNat).map uP)]=c at *;have h5:=b5.len;have Q:(c++[Z9.M (Z7.map uP)])[c.length]?=some (.M (Z7.map uP)):=ah;simp?[Q];have eK:(c++[Z9.M (Z7.map uP)]++[Z9.M (Z7.map uP)])[(c++[Z9.M (Z7.map uP)]).length]?=some (.M (Z7.map uP)):=ah;have kl:(c++[Z9.M (Z7.map uP)]).length=c.length+1:=by simp
 refine c8 f z (.inl ⟨_,rfl,ag Q⟩) () c4 C4 (by simp;omega) λB C U0=>?_
 rw[j]at U0;have D:Old c B:=(Old.app.trans Old.app).trans C;have w:=C.get (ag (gs:=[Z9.M (Z7.map uP)]) Q);have A:=C.get eK;simp?[Au,↓t7 w A,qs_P];refine fm w (by rw[Zz];omega) λys=>?_
 have Z:Old c (B.set c.length (.M ys)):=D.set (GB _);have b7:=(Z.fr b5).Za;have e7:=Z.get e5;have F:=U0.put (o:=.M ys) w;have T:(B.set c.length (.M ys))[(c++[Z9.M (Z7.map uP)]).length]?=_:=ar () A
 generalize B.set c.length (.M ys)=g7 at *;have W:3<=(c++[Z9.M (Z7.map uP)]++[Z9.M (Z7.map uP)]).length:=by simp;omega
 simp?;refine aF b7 #[1] #[1] λr2 g8 _ _ t=>?_
 have S:=t.get _ _ () T
 have e8:=t.get _ _ () e7
 simp?;refine ae (λk1=>?_) λk1=>?_
 .simp? [DR,S]
  refine c8 f z (.inr (.inl rfl)) () c4 C4 t.Za.len λg9 Y y=>?_
  rw[j]at y;simp?[Au];rw[K];exact sA ns f z (Y.fr t.Za).Za y t.Za.len H L hl hs (Y.get e8) ()
 .simp?
  rw[K];exact sA ns f z t.Za (F.fr t W) W H L hl hs e8 ()
end
def run(ns:List Int)(h:ns.length<=63):∃fu g',Aa J fu 40 46 [.Zv (ns.map U.int)] []=.ok (.bl true) g':=by
 let⟨fu,u,g',e,q⟩:=zC (law_ok (d:=28) (X:=λ_ _ _=>False) ns);subst q;exact⟨fu,g',e⟩
end
end ZE
open PySem PySem.W PyProof.Rows
theorem PySem.Challenge.cw_braemantle_k23_mesh_triangles_holds : PySem.Challenge.rw_braemantle_k23_mesh_triangles.Holds := by
 refine PI.abt (l:=PySem.Challenge.rw_braemantle_k23_mesh_triangles) (T:=ZE.T) (ms:=ZE.ms) (is:=ZE.A2) (J:=ZE.J) (loose:=ZE.loose) (d:=40) (i:=46) (N:=20000) (x:="_law_script") (by kernel_rfl) ZE.all (by kernel_rfl) (by kernel_rfl) (by kernel_rfl) (by kernel_rfl) (by kernel_rfl) ⟨rfl,rfl,rfl,rfl,rfl,by decide +kernel⟩ ?hw rfl ⟨rfl,by decide,by decide,rfl⟩ rfl rfl rfl rfl rfl ZE.run
 case hw=>w_witness2
