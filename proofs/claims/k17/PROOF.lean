import PyProof.Rows.All
import KE.KDictOf
import KE.KDictSum
import KE.KEqDict
import KE.KFromBytes
import KE.KIsAll
import KE.KRevSl
import KE.KSortTup
import KE.KUnpack
import PySem.Challenge.RW_braemantle_k17_chains_that_ask
set_option Elab.async false
set_option linter.all false
set_option maxRecDepth 100000
set_option maxHeartbeats 0
set_option hygiene false
set_option bootstrap.genMatcherCode false
set_option genSizeOf false
set_option genSizeOfSpec false
set_option backward.eqns.nonrecursive false
set_option compiler.extract_closed false
abbrev K0(p q:Prop):Prop:=p->q
abbrev KA(a:Prop)(r:Prop->Prop)(q:Prop):Prop:=a->r q
abbrev KE{α:Sort _}(r:α->Prop->Prop)(q:Prop):Prop:=∀x,r x q
class Cur(n:Nat)(p:Prop)(r:outParam (Prop->Prop)):Prop where c:∀{q:Prop},r q->p->q
instance{p:Prop}:Cur 0 p (K0 p):=⟨id⟩
instance{n:Nat}{a b:Prop}{r:Prop->Prop}[i:Cur n b r]:Cur (n+1) (a∧b) (KA a r):=⟨fun f h=>i.c (f h.1) h.2⟩
instance{n:Nat}{α:Sort _}{p:α->Prop}{r:α->Prop->Prop}[i:∀x,Cur n (p x) (r x)]:Cur (n+1) (∃x,p x) (KE r):=⟨fun f ⟨x,h⟩=>(i x).c (f x) h⟩
open Lean in
def r_p:Nat->Syntax->MacroM (TSyntax `rcasesPat)
 |0,_=>Macro.throwUnsupported
 |n+1,x=>do
  if x.isOfKind `Lean.Parser.Term.anonymousCtor then
   let q<-x[1].getSepArgs.mapM fun y=>do let z<-r_p n y;`(Parser.Tactic.rcasesPatLo|$z:rcasesPat)
   `(rcasesPat|⟨$q,*⟩)
  else if x.isIdent then `(rcasesPat|$(⟨x⟩):ident) else if x.isOfKind `Lean.Parser.Term.hole then `(rcasesPat|_) else Macro.throwUnsupported
open Lean in
local macro_rules|`(tactic|let $p:term:=$e)=>do
 if p.raw.isIdent then Macro.throwUnsupported
 let q<-r_p 9 p;`(tactic|obtain $q:rcasesPat:=$e)
open Lean in
def r_k(q:Syntax):Option (NumLit×Array (TSyntax `rintroPat)):=
 let a:=q[1].getSepArgs
 if q.isOfKind `Lean.Parser.Tactic.rcasesPat.tuple&&a.size>1&&a.all (fun x=>x[0][0].getArgs.size==1&&x[1].getArgs.isEmpty) then some (Syntax.mkNumLit (toString (a.size-1)),a.map fun x=>⟨mkNode `Lean.Parser.Tactic.rintroPat.one #[x[0][0][0]]⟩) else none
open Lean in
local macro_rules|`(tactic|rintro $ps*)=>do
 let o<-ps.mapM fun p=>do
  let q:=p.raw[0]
  match r_k q with
  |some (n,k)=>`(tactic|first|(refine Cur.c (n:=$n) ?_;rintro $k*)|(intro h_;rcases h_ with $(⟨q⟩):rcasesPat))
  |none=>if q.isOfKind `Lean.Parser.Tactic.rcasesPat.one&&q[0].getId != `rfl then `(tactic|intro $(⟨q[0]⟩):ident) else if p.raw.isOfKind `Lean.Parser.Tactic.rintroPat.one then `(tactic|(intro h_;rcases h_ with $(⟨q⟩):rcasesPat)) else Macro.throwUnsupported
 `(tactic|($[$o];*))
open Lean in
local macro_rules|`(tactic|obtain $q:rcasesPatMed:=$e:term)=>do
 let q:=q.raw[0][0]
 match r_k q with
 |some (n,k)=>if e.raw.isIdent then `(tactic|first|(refine Cur.c (n:=$n) ?_ $e;clear $(⟨e⟩):ident;rintro $k*)|rcases $e:term with $(⟨q⟩):rcasesPat) else `(tactic|first|(refine Cur.c (n:=$n) ?_ $e;rintro $k*)|rcases $e:term with $(⟨q⟩):rcasesPat)
 |none=>`(tactic|rcases $e:term with $(⟨q⟩):rcasesPat)
local macro_rules|`(tactic|simp! [$xs,*] $[$l:location]?)=>`(tactic|simp only [$xs,*] $[$l]?)
local macro_rules | `(tactic| simp? [$xs,*] $[$l:location]?) => do
  let a ← ("eO nQ pI gY hV hY d8 qu pY r9 sj sV sT kj lW lX ky sM k_E sO sR qF qm lG lz lQ qy sY k7 kB rG n5 pk pD lu ng qU rH mD qA oW rg oG qC n8 pV mf ow oM sk om nF mZ qe kU l8 mV mr qp mm nD pd qR pL oA pJ sh qW sQ oj qg sI k9 qk rC qZ pP mL rj ot oU nA kR nS qr lH mP lO pF m7 kY mq qd nJ kf qX oy m8 cD ki kI mH l9 pA rJ oR nj mQ oZ ni sD nq gZ mX nV mG m9 ph ql oV rK rR qK qv sE qh oS oq og oO pG nY nv oX mw pB oJ oH ny nu mh md nC pS rm rq qo rB qj mU rP rY rL lx rQ sJ sH sG qG qt rV pR mv qL ou ko oN sA oC sN qS pW sF rA l7 nP nM l6 rZ pz nB sm rM qT rS pO sC pN acM acf xW".splitOn " ").toArray.mapM λs => `(Lean.Parser.Tactic.simpLemma| ↓$(Lean.mkIdent s.toName):ident)
  let b ← ("perm pick BM Option.bind_some Dr Dg C9 CY List.lookup_cons List.lookup_nil Nat.reduceBEq List.contains_cons List.contains_nil Dw List.getElem?_nil List.getElem?_cons_zero List.getElem?_cons_succ List.length_cons List.length_nil List.set_cons_zero List.set_cons_succ List.map_cons List.map_nil List.replicate_succ List.replicate_zero List.cons_append List.nil_append Nat.zero_add Nat.reduceAdd Nat.reduceSub Nat.reduceLT Nat.reduceLeDiff Nat.reduceEqDiff Nat.lt_add_left_iff_pos IZ Ae bindL if_true if_false ite_true ite_false and_true true_and Option.getD_some eA eJ pC lg ke ls pZ sv pQ rl gS fP rn sS rX cin hJ rD gp Bool.or_false Bool.or_true Bool.true_or Bool.false_or clt cle cgt cge DU IP items Fh BV IW AV lift IV CF Dp Bw alloc AS fH Ab pX qQ rN se qO rF Aw B5 Option.map_some Int.reduceLT Int.reduceLE Int.reduceNeg Int.reduceEq decide_true decide_false Bool.not_true Bool.not_false Bool.and_true Bool.true_and Bool.and_self decide_eq_true_eq eq_self perm pick".splitOn " ").toArray.mapM λs => `(Lean.Parser.Tactic.simpLemma| $(Lean.mkIdent s.toName):ident)
  let a := a ++ b
  `(tactic| simp only [$[$a:simpLemma],*, $xs,*] $[$l]?)
local macro_rules|`(tactic|simp? only [$x:ident])=>`(tactic|(refine ag (by rfl) (by rfl) ?_;simp only [$x:ident]))|`(tactic|simp?)=>`(tactic|simp? [eq_self])
open Lean in
local macro_rules|`($m:declModifiers def $i:declId $s:optDeclSig $v:declVal)=>do
 unless m.raw.getArgs.all (·.isNone) do Macro.throwUnsupported
 let r<-(if (match i.raw[0].getId with|.str _ n=>(n.toList.headD 'A').isLower&&!("isStar ownOf freeOf setArg setB mkF endsF lastOf fns loose upd frs rNe start sIx ixN atI putK head dd refs intsOf keyOf dput dfold neT best insI sortI tupI next bindL pick perm subAt dig post tyName allFrom holds wp wpS hk ob plainT tupP small stride lying upright rising falling ltP dT mid o1 kyP".splitOn ).contains n|_=>false) then let z:TSyntax `Lean.Parser.Command.declSig:=⟨mkNode `Lean.Parser.Command.declSig #[s.raw[0],s.raw[1][0]]⟩;`(command|theorem $i:declId $z:declSig $v:declVal) else `(command|noncomputable def $i:declId $s:optDeclSig $v:declVal));return r.raw.rewriteBottomUp (·.setInfo .none)
open Lean in
local macro_rules|`($m:declModifiers abbrev $i:declId $s:optDeclSig $v:declVal)=>do
 unless m.raw.getArgs.all (·.isNone) do Macro.throwUnsupported
 `(command|noncomputable abbrev $i:declId $s:optDeclSig $v:declVal)
open Lean in
local macro_rules|`(fun $xs* => $b)=>do
 let rec h:Nat->Syntax->Bool
  |0,_=>true
  |n+1,x=>x.isOfKind `Lean.Parser.Term.syntheticHole||x.getArgs.any (h n)
 if xs.all (!·.raw.isOfKind `Lean.Parser.Term.anonymousCtor)||h 99 b then Macro.throwUnsupported
 let q<-xs.mapM fun x=>do let z<-r_p 9 x;`(rintroPat|$z:rcasesPat)
 `(by rintro $q*;exact $b)
open Lean in
local macro_rules|`(())=>`(by omega)
def b_F{P:Prop}(h:false=true):P:=absurd h Bool.false_ne_true
def n_F{α:Type}{a:α}{P:Prop}(h:(none:Option α)=some a):P:=nomatch h
local macro_rules|`(tactic|cases $h:ident)=>`(tactic|first|exact n_F $h|exact b_F $h|cases ($h))
def Z1:=@List.length_map
def Yx:=@Bool.and_eq_true
def YE:=@List.getElem?_eq_some_iff
def YH:=@if_neg
def Y1:=@Iff.rfl
def Y2:=@if_pos
def Xa:=@PyProof.Rows.wpS_bind
def Xl:=@Option.some.injEq
def Xn:=@List.getElem?_eq_getElem
def X6:=@Array.length_toList
def Wi:=@Bool.false_eq_true
def Wm:=@PyProof.Rows.wpS_pure
def Ww:=@List.length_append
def WQ:=@List.size_toArray
def WR:=@List.getElem?_append_left
def W1:=@List.map_cons
def Vh:=@List.mem_cons
def Vj:=@List.mem_append
def Vu:=@Option.map_eq_some_iff
def Vw:=@decide_eq_true_eq
def VG:=@Array.toList_append
def VO:=@List.append_assoc
def VQ:=@Array.getElem?_eq_getElem
def VV:=@List.getElem?_map
def VX:=@List.getElem?_append_right
def V2:=@List.mem_singleton
def Uc:=@List.length_cons
def Ud:=@List.mem_map
def Ug:=@List.take_append_drop
def Uv:=@PySem.Heap.get?_update_other
def UA:=@Option.bind_eq_some_iff
def UE:=@List.getElem?_set_ne
def UP:=@if_false
def UX:=@List.pairwise_append
def U1:=@List.length_take
def U9:=@Array.getElem?_toList
def Tc:=@List.all_eq_true
def Th:=@Array.getElem?_eq_some_iff
def TQ:=@Option.some.inj
def TU:=@PySem.wpAny_holding
def TV:=@List.mem_append_right
def TY:=@List.mem_of_getElem?
def T1:=@Array.getElem_mem
def Sl:=@Option.map_some
def Sm:=@beq_iff_eq
def Ss:=@List.drop_eq_getElem_cons
def SF:=@PySem.mem_of_lookup
def S3:=@List.getElem?_set_self
def S_:=@List.any_cons
def Rv:=@List.length_drop
def Ry:=@decide_eq_false
def RG:=@PySem.wpAny_newObj_type
def R6:=@Bool.not_eq_true'
def Qa:=@List.pairwise_cons
def Qb:=@PySem.Obj.data_mapFields
def Qc:=@List.contains_iff_mem
def Qd:=@List.getElem?_eq_none_iff
def Qe:=@List.append_nil
def Qf:=@List.mem_append_left
def Qg:=@PySem.wpAny_mono
def Qh:=@PySem.sizeLine_eq
def Qi:=@PySem.Heap.get?_update_self
def Qj:=@List.perm_append_comm
def Qk:=@List.length_filter_le
def Ql:=@PyProof.Rows.wpS_forRange
def Qm:=@List.find?_cons
def Qn:=@List.length_nil
def Qo:=@List.lookup_cons
def Qp:=@if_true
def Qq:=@List.take_of_length_le
def Qr:=@List.drop_eq_nil_of_le
def Qs:=@Option.isSome_iff_exists
def Qt:=@List.filterMap_cons
def Qu:=@List.mem_iff_getElem?
def Qv:=@PySem.wpAny_setState_of
def Qw:=@PyProof.Rows.wpS_mono
def Qx:=@decide_eq_true
def Qy:=@Bool.or_eq_false_iff
def Qz:=@List.map_map
def QA:=@PyProof.Rows.F.plain_set_update_loop
def QC:=@List.mem_range
def QD:=@PySem.wpAny_standAt
def QE:=@List.mem_filter
def QG:=@PySem.wpAny_call_entry
def QH:=@PySem.wpAny_askSetting
def QJ:=@List.getElem_mem
def QK:=@Bool.not_true
def QM:=@PySem.wpAny_truthy_bool
def QN:=@List.pairwise_map
def QP:=@Array.toList_push
def QQ:=@Bool.or_eq_true
def QR:=@List.pairwise_iff_getElem
def QU:=@congrArg
def QV:=@List.length_replicate
def Q0:=@List.length_singleton
def Q2:=@PySem.Obj.isFreed_of_fields
def Pa:=@Nat.lt_irrefl
def Pb:=@Nat.zero_add
def Pc:=@Array.mem_toList_iff
def Pd:=@PySem.wpAny_typeNameOfWhole_keyiter
def Pe:=@List.getElem?_replicate
def Pf:=@PySem.wpAny_callSpecial?_slot
def Pg:=@decide_eq_false_iff_not
def Ph:=@List.map_append
def Pj:=@PySem.F.slot_dict_keyiterator_next
def Pk:=@Nat.le_of_lt
def Pl:=@PySem.wpAny_setField
def Pm:=@List.getElem?_eq_none
def Pn:=@List.Perm.append_left
def Po:=@List.extract_eq_take_drop
def Pp:=@PySem.wpAny_passesOwn
def Pq:=@List.nil_append
def Pu:=@PySem.Heap.get?_none_of_le
def Pw:=@List.mem_of_mem_drop
def Px:=@Nat.lt_succ_of_lt
def Py:=@List.mem_iff_getElem
def Pz:=@PySem.wpAny_typeNameOf_keyiter
def PD:=@Option.bind_some
def PF:=@PySem.codeAny_mono
def PH:=@PySem.W.cellsFrom_some
def PJ:=@List.zip_cons_cons
def PK:=@PyProof.Rows.wpS_modify
def PL:=@decide_false
def PM:=@Bool.eq_iff_iff
def PQ:=@PySem.W.kia_one
def PU:=@PySem.wpAny_attempt
def PV:=@List.Pairwise.sublist
def PX:=@PySem.Value.isInt_shape
def PY:=@PyProof.Rows.callWith_type1
def PZ:=@List.take_sublist
def P4:=@bne_self_eq_false
def P6:=@PySem.wpAny_loadPart_at
def P7:=@Nat.zero_le
def P8:=@List.getElem?_of_mem
def P9:=@List.mem_of_mem_take
def P_:=@PySem.codeAny_call_builtin
def Oa:=@PySem.wpAny_rule
def Ob:=@Array.toList_extract
def Oc:=@Array.toList_reverse
def Od:=@Nat.ne_of_gt
def Oe:=@Nat.le_add_right
def Of:=@Nat.lt_succ_self
def Og:=@List.isEmpty_nil
def Oh:=@List.isEmpty_iff
def Oi:=@Option.isNone_iff_eq_none
def Ol:=@List.getElem_of_mem
def Om:=@PyProof.Rows.F.entry_set_update_loop
def Oo:=@PySem.Paired.length
def Oq:=@List.getElem?_take_of_lt
def Ot:=@PySem.wpAny_comprehension_free
def Ou:=@PySem.codeAny_builtin
def Ov:=@PySem.wpAny_Call_Name_kw
def Ow:=@PySem.tupleKind_room_in1
def Ox:=@Int.emod_lt_of_pos
def Oy:=@PySem.Code.quiet_builtin
def Oz:=@of_decide_eq_false
def OA:=@Array.size_extract
def OB:=@PySem.wpAny_field
def OD:=@decide_true
def OE:=@List.findIdx?_eq_some_iff_getElem
def OF:=@List.reverse_cons
def OG:=@Option.isSome_map
def OH:=@Nat.lt_trans
def OI:=@List.length_range
def OJ:=@Nat.lt_or_ge
def OL:=@PySem.Heap.size_push
def OM:=@Int.toNat_natCast
def ON:=@PySem.Obj.cls_mapFields
def OO:=@List.drop_drop
def OP:=@List.reverse_perm
def OQ:=@PyProof.Rows.slot_tuple_getitem
def OR:=@List.Nodup.length_le_of_subset
def OS:=@Array.toList_inj
def OT:=@PySem.wpAny_forIn_list
def OU:=@List.cons_append
def OV:=@PySem.F.args_dict_keyiterator_next_1
def OW:=@beq_self_eq_true
def OX:=@List.mem_flatMap
def OY:=@List.take_add
def OZ:=@PySem.Calls.evalArgs_plain
def O0:=@PySem.Around.under_plainId
def O1:=@PySem.F.entry_dict_keyiterator_next
def O2:=@Option.ite_none_right_eq_some
def O3:=@Int.emod_nonneg
def O4:=@Array.getElem?_setIfInBounds
def O5:=@PySem.codeAny_of_tree
def O6:=@beq_eq_false_iff_ne
def O7:=@List.getElem?_range
def O8:=@PySem.wpAny_setEntries_of
def O9:=@PyProof.Rows.wpS_get
def O_:=@PySem.Calls.Name_function_global
def Na:=@Bool.false_and
def Nb:=@List.mem_filterMap
def Nc:=@PySem.wpAny_call
def Nd:=@List.perm_ext_iff_of_nodup
def Nf:=@Bool.not_false
def Ng:=@PySem.wpAny_fieldsOf
def Nh:=@PyProof.Rows.wpS_lift
def Ni:=@Array.toList_setIfInBounds
def Nj:=@List.getElem?_drop
def Nk:=@List.mem_of_find?_eq_some
def Nl:=@Nat.le_of_lt_succ
def Nm:=@List.getElem_take
def Nn:=@List.getElem_drop
def Np:=@List.nodup_append
def Nq:=@Nat.le_succ
def Nr:=@PySem.wpAny_pyIter_slot
def Nt:=@PySem.wpAny_dictEntries
def Nu:=@Nat.le_of_succ_le
def Nv:=@Array.size_setIfInBounds
def Nw:=@Prod.mk.injEq
def Nx:=@Option.getD_none
def Ny:=@List.nodup_range
def Nz:=@PySem.wpAny_isInstance
def NA:=@List.pairwise_singleton
def NB:=@PySem.F.plainAttrs_list
def NC:=@List.not_mem_nil
def ND:=@Nat.add_sub_cancel_left
def NF:=@List.getElem?_cons_succ
def NG:=@List.any_eq_true
def NH:=@Int.eq_ofNat_of_zero_le
def NI:=@PySem.wpAny_typeOf
def NJ:=@List.map_nil
def NK:=@Nat.mod_lt
def NL:=@Array.getElem?_eq_none
def NM:=@List.range_succ_eq_map
def NN:=@Option.map_eq_none_iff
def NO:=@PySem.W.looks_findIn
def NP:=@PySem.wpAny_execs_nil
def NQ:=@List.of_mem_zip
def NR:=@List.length_set
def NS:=@PySem.SeqAt.EqAt.same
def NU:=@PySem.wpAny_specialOf
def NV:=@List.cons.injEq
def NW:=@PySem.wpAny_dictEpoch
def NX:=@List.forIn_cons
def NY:=@Sum.inr.inj
def NZ:=@PySem.wpAny_of_eq
def N1:=@PySem.isSubtype_type
def N2:=@List.take_succ
def N3:=@Bool.true_and
def N4:=@Nat.add_assoc
def N5:=@Prod.ext
def Ht:=@PySem.Heap.get?_push_of_some
def Hu:=@PySem.Heap.lt_size
def Hv:=@Nat.le_trans
def Hw:=@Bool.false_ne_true
def Hx:=@Nat.le_refl
def Hy:=@List.mem_cons_of_mem
def Hz:=@Nat.lt_of_lt_of_le
def HA:=@Nat.ne_of_lt
def HB:=@PySem.Heap.get?_push_size
def HC:=@Classical.byContradiction
def HD:=@List.mem_cons_self
def HE:=@of_decide_eq_true
abbrev HF:=PySem.W.Frag
def ZB:=@PySem.wpAny_bind
def ZP:=@PySem.wpAny_pure
set_option bootstrap.genMatcherCode false
variable{x name:PySem.Str}{a b fI:PySem.Addr}{P prog:PySem.Program}{w:PySem.World}{h h' base:PySem.Heap}{α β:Type}{e tg:PySem.Expr}{Y:List (PySem.Addr×PySem.Obj)}{s s':PySem.Shared}{t' i j M n lo m d ep slot fu:Nat}{ch fp ρ ZO:List PySem.Addr}{N ps:List PySem.Str}{A:PySem.Around}{pos apos p2 Zr:PySem.Pos}{ZS gens:List PySem.Comprehension}{K:HF}{D:List (List Int×PySem.Addr)}{f:PySem.Value->PySem.Value->PySem.Sem PySem.Value}{st:PyProof.Rows.SortSt}{es ts:List PySem.Expr}{body:List PySem.Stmt}{κ:PyProof.Rows.SortKind}{ZU bm YC sub:List PySem.Value}{dx:Option PySem.Addr}{env:PySem.Env}{mg:PySem.Str->Option PySem.Value}{outer:List PySem.Env}{fd:PySem.FuncData}{Ze:List PySem.Keyword}{sc scope:PySem.Scope}{ns:List Int}{z:Nat×Int×PySem.Value}{ZN arr:Array PyProof.Rows.Keyed}{rk:PyProof.Rows.Keyed->Nat}{as:List (PySem.Str×Bool)}{gc:PySem.Comprehension}{cells cl:List (PySem.Str×PySem.Addr)}{names:List (PySem.Str×PySem.NameKind)}{Zt:List Nat}{oe:PySem.Obj}{col:Option Bool}{newId:String}{E':PySem.Value->PySem.Shared->Prop}{fo:Option PySem.Str}{rs:List (Option (PySem.Scope×List PySem.Stmt))}
namespace Att
end Att
namespace HT
end HT
namespace L2
end L2
namespace ZD
end ZD
namespace PI
end PI
namespace PI
noncomputable section
open PySem
noncomputable section
inductive U where
 |ZJ|bl (b:Bool)|int (i:Int)|str (s:Str)|ZY (xs:List U)|Zy (xs:List U)|ref (n:Nat)|xn (c:Nat) (fs:List U)
inductive Op where|add|sub|mul|fdiv|mod|pow
inductive Cp where|eq|ne|lt|le|gt|ge|U8|Tf|WO|YB
inductive Bi where|len|abs|list|mn|mx|VN|sum|tupl|cat|sset|dct|rpr|int
set_option genInjectivity false in
inductive Ty where|U7|U6|Ut|Us|U5|own (c:Nat)
set_option genInjectivity false in
inductive Tg where|nm (i:Nat)|tp (is:List Nat)
set_option genInjectivity false in
inductive E where
 |L (i:Nat)|ZW (u:U)
 |ZR (op:Op) (a b:E)|cmp (op:Cp) (a b:E)|chain (op Y4:Cp) (a b c:E)
 |and (a b:E)|or (a b:E)|not (a:E)|neg (a:E)|ite (c a b:E)
 |ZY (es:List E)|Z5 (es:List E)
 |idx (a b:E)|W_ (a:E) (lo hi:Option E)|rev (a:E)
 |call (f:Nat) (es:List E)|SS (f:Nat) (es ks:List E) (pm:List (Nat ⊕ U))
 |fld (a:E) (j:Nat) (cs:List Nat)|make (c f:Nat) (es ks:List E) (pm:List (Nat ⊕ U))|SR (a:E) (j:Nat) (tb:List (Nat×Nat×List (Nat ⊕ U))) (es ks:List E)|Sa (c:Bool) (o:E)|oeq (op:Cp) (tb:List (Nat×Nat×List (Nat ⊕ U))) (a b:E)
 |bi (b:Bi) (es:List E)
 |Yz (a:E) (t:Ty)
 |app (o v:E)|ext (o v:E)|pop (o:E)|R_ (o v:E)
 |Xy (a:E)|WN (a b:E)|W9 (a:E)|zip (a b:E)|VM
 |comp (own:Nat) (fr:List Nat) (gs:List (Tg×E×List E)) (elt:E)
 |R9 (ks:List Str) (es:List E)|dgt (o k x:E)|pair (k v:E)|V8 (own:Nat) (fr:List Nat) (gs:List (Tg×E×List E)) (k v:E)
set_option genInjectivity false in
inductive Z6 where
 |ret (e:E)|retN|set (t:Tg) (e:E)|par (i j:Nat) (a b:E)
 |sub (o i e:E)|aug (i:Nat) (op:Op) (e:E)
 |exp (e:E)|Zu (c:E) (a b:List Z6)|VL (c:E) (b:List Z6)|for (t:Tg) (it:E) (b:List Z6)
 |pass|brk|cont|never|del (o i:E)|fset (a:E) (j:Nat) (cs:List Nat) (e:E)
 |Zi (b:List Z6)|V7 (c:E) (a b:List Z6)|R8 (t:Tg) (it:E) (b:List Z6)|raise (c:Nat) (es:List E)|U4 (j f:Nat) (es:List E) (c:Nat) (xs:List (Option U))
structure Fn where
 np:Nat
 ns:Nat
 body:List Z6
end
open PySem PySem.Spec PyProof.Rows L2
set_option genInjectivity false in
structure Tab where
 J:List Str
 cs:List (Str×U)
 bt:List Str
 fs:List Str
 xc:List (Str×Option Str×List (Str×Bool))
def AB(N:List Str)(x:Str):Option Nat:=N.findIdx? (· == x)
def DF:Operator->Option Op
 |.Add=>some .add|.Sub=>some .sub|.Mult=>some .mul|.FloorDiv=>some .fdiv|.Mod=>some .mod|.Pow=>some .pow|_=>none
def Ck:CmpOp->Option Cp
 |.Eq=>some .eq|.NotEq=>some .ne|.Lt=>some .lt|.LtE=>some .le|.Gt=>some .gt|.GtE=>some .ge|.Is=>some .U8|.IsNot=>some .Tf|.In=>some .WO|.NotIn=>some .YB
def isStar:Expr->Bool
 |.Starred ..=>true
 |_=>false
def Cu:Expr->Bool
 |.Set ..=>true
 |_=>false
def BG:Expr->Bool
 |.ListComp ..=>true|.SetComp ..=>true|.DictComp ..=>true|_=>false
def Co:Expr->Bool
 |.Call ..=>true|_=>false
def Cv:Expr->Bool
 |.Tuple ..=>true|_=>false
def B0:Expr->Bool
 |.Slice ..=>true|_=>false
def CO(x:Str):Option Ty:=if x = "int" then some .U7 else if x = "bool" then some .U6 else if x = "str" then some .Ut else if x = "tuple" then some .Us else if x = "list" then some .U5 else none
def AU(x:Str):Bool:=!(x==("__debug__" : Str))&&!(x==("__classdict__" : Str))&&!(x==("__name__" : Str))
def Ac{b:Type}:List (Option b)->Option (List b)
 |[]=>some []
 |none::_=>none
 |some a::r=>(Ac r).map (a :: ·)
def Cs:E->Bool
 |.Xy _=>false|.WN _ _=>false|.W9 _=>false|.zip _ _=>false|_=>true
def BA(b:Bool)(a:Scope)(x:Str):Bool:=a.names.lookup x==some .local||(b&&a.names.lookup x==some .cell)
def Bm(b:Bool)(a:Scope)(N:List Str)(x:Str):Option Nat:=if BA b a x then AB N x else none
def BI(b:Bool)(a:Scope)(N:List Str)(e:Expr):Option Nat:=match e with
 |.Name x _=>Bm b a N x
 |_=>none
def A8(b:Bool)(a:Scope)(N:List Str):Expr->Option Tg
 |.Name x _=>(Bm b a N x).map .nm
 |.Tuple ts _ _=>(Ac (ts.map (BI b a N))).map .tp
 |_=>none
def HG{a:Type}(c:Bool)(x:Option a):Option a:=match c with
 |true=>x
 |false=>none
def HH(e:Expr):Option Str:=match e with
 |.Name x _=>some x
 |_=>none
def BH(e:Expr):Option (Str×List Expr):=match e with
 |.Call f es Ze _=>match Ze with
  |[]=>(HH f).map λn=>(n,es)
  |_::_=>none
 |_=>none
def CT(c:Expr->Option E)(k:E->E)(b:List Expr):Option E:=match b with
 |[]=>none
 |a::b=>match b with
  |[]=>(c a).map k
  |_::_=>none
def DO(d:Expr->Option E)(k:E->E->E)(c:List Expr):Option E:=match c with
 |[]=>none
 |a::c=>match c with
  |[]=>none
  |b::c=>match c with
   |[]=>(d a).bind λe=>(d b).map (k e)
   |_::_=>none
def HI{a:Type}(l:List a):Bool:=match l with
 |[]=>true
 |_::_=>false
def Gy(f:Expr->Option E)(a:List Expr):Option E:=match a with
 |[]=>none
 |_::r=>match HI r with
  |true=>CT f .Xy a
  |false=>DO f .WN a
def HJ(f:Expr->Option E)(e:Expr):Option E:=HG (!Cu e) ((f e).bind λa=>HG (Cs a) (some a))
def Dl(T:Tab)(a:Scope)(f:Expr->Option E)(e:Expr):Option E:=match BH e with
 |some c=>if c.1 = "range" then HG (T.bt.contains c.1&&(a.names.lookup c.1==some .globalImplicit)&&!c.2.any isStar) (Gy f c.2)else HJ f e
 |none=>HJ f e
def Cr(T:Tab)(a:Scope)(f:Expr->Option E)(b e:Expr):Option E:=Dl T a f e
def A1(scope a:Scope):Scope:={scope with names:=scope.names.map λ(n,k)=>if(k==.free&&a.kind==.function&&a.names.lookup n==some .cell)then(n,.cell)else(n,k)}
def Gj:Expr->List Str
 |.Name x _=>[x]
 |.Tuple ts _ _=>ts.filterMap fun|.Name x _=>some x|_=>none
 |_=>[]
def ownOf(gs:List Comprehension):List Str:=(gs.map λg=>Gj g.target).flatten
def freeOf(scope:Scope):List Str:=(scope.names.filter λx=>x.2==.free).map (·.1)
def C5(scope a:Scope)(own fr:List Str):Bool:=
 (scope.kind==.function)&&(scope.names.all λx=>x.2 != .local||scope.names.lookup x.1==some .local)&&(scope.names.all λx=>x.2 != .cell||scope.names.lookup x.1==some .cell)&&(scope.names.all λx=>x.2 != .free||a.names.lookup x.1==some .cell)
  && (own.all λx=>scope.names.lookup x==some .local||scope.names.lookup x==some .cell)&&decide ((own++fr).Nodup)&&(fr.all λx=>scope.names.lookup x==some .free)
def Dk(T:Tab)(a:Scope)(N:List Str)(f:Expr->Option E):List Comprehension->Option (List (Tg×E×List E))
 |[]=>some []
 |g::r=>HG (g.is_async==0) ((A8 false a N g.target).bind λt=>(Cr T a f g.target g.iter).bind λit=>(Ac (g.ifs.map f)).bind λc=>(Dk T a N f r).map λb=>(t,it,c)::b)
def B7(T:Tab)(a:Scope)(c:Expr->Option E)(f:Str)(b:List Expr)(d:List Keyword):Option E:=none
def Dx(T:Tab)(c:Expr->Option E)(o':E)(m:Str)(d b:Pos)(a:List Expr)(e:List Keyword):Option E:=none
def EW(f:Str)(n:Nat)(a:Str->Option Bi):Option Bi:=
 a f
def HK(f:Str):Option Bi:=
 if f = "len" then some .len else
 if f = "abs" then some .abs else
 if f = "list" then some .list else
 if f = "sorted" then some .VN else
 none
def setArg(b:List Expr):Option Expr:=match b with
 |[]=>none
 |e::b=>match b with
  |[]=>(BH e).bind λc=>if c.1 = "set" then(match c.2 with
   |[]=>none
   |a::as=>match as with
    |[]=>HG (!isStar a) (some a)
    |_::_=>none)else none
  |_::_=>none
def E6(T:Tab)(a:Scope)(N:List Str)(x:Str):Option E:=HG (AU x) ((a.names.lookup x).bind λk=>match k with
 |.local=>(AB N x).map .L
 |.cell=>(AB N x).map .L
 |.free=>(AB N x).map .L
 |.globalImplicit=>(T.cs.lookup x).map .ZW
 |_=>none)
def Gb(v:Const):Option E:=match v with
 |.int i=>some (.ZW (.int i))
 |.bool b=>some (.ZW (.bl b))
 |.none=>some (.ZW .ZJ)
 |.str s=>some (.ZW (.str s))
 |_=>none
section
variable(T:Tab)(sc:Scope)(ce:Expr->Option E)
def G9(o:Operator)(a b:Expr):Option E:=(DF o).bind λc=>(ce a).bind λd=>(ce b).map (.ZR c d)
def ET(a:Expr)(o:CmpOp)(b:Expr):Option E:=HG (!Cu b) ((Ck o).bind λc=>(ce a).bind λd=>(ce b).map (.cmp c d))
def EK(a:Expr)(o q:CmpOp)(b c:Expr):Option E:=HG (!Cu c) ((Ck o).bind λe=>(Ck q).bind λd=>(ce a).bind λg=>(ce b).bind λf=>(ce c).map (.chain e d g f))
def Fy(a:Expr)(d:List CmpOp)(bs:List Expr):Option E:=match d with
 |[]=>none
 |o::d=>match bs with
  |[]=>none
  |b::bs=>match d with
   |[]=>HG (HI bs) (ET ce a o b)
   |q::d=>match bs with
    |[]=>none
    |c::bs=>HG (HI d&&HI bs) (EK ce a o q b c)
def FQ(o:BoolOp)(c:List Expr)(pos:Pos):Option E:=match c with
 |[]=>none
 |a::c=>match c with
  |[]=>ce a
  |b::ZS=>match o with
   |.And=>(ce a).bind λd=>(ce (.BoolOp .And (b::ZS) pos)).map (.and d)
   |.Or=>(ce a).bind λd=>(ce (.BoolOp .Or (b::ZS) pos)).map (.or d)
def HL(o:UnaryOp)(a:Expr):Option E:=match o with
 |.Not=>(ce a).map .not
 |.USub=>(ce a).map .neg
 |_=>none
def Fw(k:List E->E)(a:List Expr):Option E:=HG (!a.any isStar) ((Ac (a.map ce)).map k)
def DZ(lo:Option Expr):Option (Option E):=match lo with
 |none=>some none
 |some l=>(ce l).map some
def Fs{a:Type}(o:Option a):Bool:=match o with
 |none=>true
 |some _=>false
def Hq(a s:Expr):Option E:=match s with
 |.Slice lo hi st _=>match st with
  |none=>(ce a).bind λc=>(DZ ce lo).bind λb=>(DZ ce hi).map (.W_ c b)
  |some st=>none
 |_=>none
def DA(a s:Expr):Option E:=match B0 s with
 |true=>Hq ce a s
 |false=>(ce a).bind λb=>(ce s).map (.idx b)
def GS(a t:Expr):Option E:=(HH t).bind λtn=>(CO tn).bind λt=>(ce a).bind λb=>HG (T.bt.contains tn&&(sc.names.lookup tn==some .globalImplicit)) (some (.Yz b t))
def GP(a t:Expr):Option E:=(HH t).bind λ_=>GS T sc ce a t
def Ge(b:List Expr):Option E:=match b with
 |[]=>none
 |a::b=>match b with
  |[]=>none
  |t::b=>HG (HI b) (GP T sc ce a t)
def HM(f:Str)(a:List Expr):Option E:=(EW f a.length HK).bind λb=>HG (!HI a) ((Ac (a.map ce)).map (.bi b))
def G3(a:Expr):Option E:=HG (T.bt.contains ("set" : Str)&&(sc.names.lookup ("set" : Str)==some .globalImplicit)) ((ce a).map λb=>.bi .sset [b])
def G2(f:Str)(b:List Expr):Option E:=
 if f = "sorted" then(match setArg b with
  |some a=>G3 T sc ce a
  |none=>HM ce f b)else
 HM ce f b
def CP(T:Tab)(a:Scope)(c:Expr->Option E)(f:Str)(b:List Expr):Option E:=
 if f = "isinstance" then Ge T a c b else
 G2 T a c f b
def Fu(f:Str)(a:List Expr):Option E:=HG (AU f&&!a.any isStar&&(sc.names.lookup f==some .globalImplicit)) (match AB T.J f with
 |some i=>(Ac (a.map ce)).map (.call i)
 |none=>match T.bt.contains f with
  |true=>CP T sc ce f a
  |false=>B7 T sc ce f a [])
def HN(o':E)(m:Str)(c b:Pos)(a:List Expr):Option E:=
 if m = "append" then CT ce (.app o') a else
 if m = "extend" then CT ce (.ext o') a else
 if m = "pop" then(match a with
  |[]=>some (.pop o')
  |_::_=>none)else
 Dx T ce o' m c b a []
def Gx(o:Expr)(m:Str)(c b:Pos)(a:List Expr)(d:List Keyword):Option E:=HG (!Co o) ((ce o).bind λe=>match d with
 |[]=>HG (c.endLine==b.line&&!a.any isStar) (HN T ce e m c b a)
 |k::d=>Dx T ce e m c b a (k::d))
def FZ(fn:Expr)(b:List Expr)(a:List Keyword)(c:Pos):Option E:=match fn with
 |.Name f _=>match a with
  |[]=>Fu T sc ce f b
  |k::a=>B7 T sc ce f b (k::a)
 |.Attribute o m ap=>Gx T ce o m ap c b a
 |_=>none
def FV(a:Expr->Option E)(keys:List (Option Expr))(vs:List Expr):Option E:=match keys with
 |[]=>HG (HI vs) (some .VM)
 |_::_=>none
def D5(N:List Str)(u:Expr->Option E)(g:Comprehension)(j:List Comprehension)(scope:Scope):Option (List Nat×List (Tg×E×List E)):=
 HG (C5 scope sc (ownOf (g :: j)) (freeOf scope) && (g.is_async == 0)) ((Cr T sc ce g.target g.iter).bind λZs=>(A8 true scope (ownOf (g :: j)++freeOf scope) g.target).bind λt=>(Ac (g.ifs.map u)).bind λcs =>
  (Dk T (A1 scope sc) (ownOf (g::j)++freeOf scope) u j).bind λB=>(Ac ((freeOf scope).map (AB N))).map λz=>(z,(t,Zs,cs)::B))
end
def Ai(T:Tab)(sc:Scope)(N:List Str):Nat->Expr->Option E
 |0,_=>none
 |n+1,e=>match e with
  |.Name x _=>E6 T sc N x
  |.Constant v _ _=>Gb v
  |.BinOp a o b _=>G9 (Ai T sc N n) o a b
  |.Compare a os bs _=>Fy (Ai T sc N n) a os bs
  |.BoolOp o es pos=>FQ (Ai T sc N n) o es pos
  |.UnaryOp o a _=>HL (Ai T sc N n) o a
  |.Tuple es _ _=>Fw (Ai T sc N n) .ZY es
  |.List es _=>Fw (Ai T sc N n) .Z5 es
  |.Subscript a s _=>DA (Ai T sc N n) a s
  |.Call fn es Ze cp=>FZ T sc (Ai T sc N n) fn es Ze cp
  |.Dict keys vs _=>FV (Ai T sc N n) keys vs
  |.ListComp elt gs scope _=>match gs with
   |[]=>none
   |g::ZS=>(D5 T sc (Ai T sc N n) N (Ai T (A1 scope sc) (ownOf (g::ZS)++freeOf scope) n) g ZS scope).bind λq=>(Ai T (A1 scope sc) (ownOf (g::ZS)++freeOf scope) n elt).map (.comp (ownOf (g::ZS)).length q.1 q.2)
  |.DictComp u j gs scope _=>match gs with
   |[]=>none
   |g::ZS=>(D5 T sc (Ai T sc N n) N (Ai T (A1 scope sc) (ownOf (g::ZS)++freeOf scope) n) g ZS scope).bind λq=>
    (Ai T (A1 scope sc) (ownOf (g::ZS)++freeOf scope) n u).bind λz=>(Ai T (A1 scope sc) (ownOf (g::ZS)++freeOf scope) n j).map (.V8 (ownOf (g::ZS)).length q.1 q.2 z)
  |_=>none
def DN(a:Scope)(x:Str)(b:Pos)(scope:Scope)(p:Pos):Bool:=(a.names.lookup x==some .local)&&(b.line==p.line)&&!(scope.names.any λ(n,k)=>n==x&&(k==.local||k==.cell))
def HP(e:Expr):Option (Scope×Pos):=match e with
 |.ListComp _ gs scope p=>match gs with
  |[]=>none
  |_::_=>some (scope,p)
 |_=>none
def EG(a:Scope)(N:List Str)(c:Expr->Option E)(x:Str)(b:Pos)(e:Expr):Option Z6:=HG (match HP e with
 |some q=>DN a x b q.1 q.2
 |none=>!BG e) ((Bm true a N x).bind λi=>(c e).map (.set (.nm i)))
def EC(T:Tab)(b:Scope)(N:List Str)(a:Expr->Option E)(t e:Expr):Option Z6:=match t with
 |.Name x c=>EG b N a x c e
 |.Tuple ts k p=>match Cv e with
  |true=>none
  |false=>(A8 true b N (.Tuple ts k p)).bind λt=>(a e).map (.set t)
 |.Subscript o i _=>HG (!B0 i&&!BG e) ((a o).bind λd=>(a i).bind λf=>(a e).map (.sub d f))
 |_=>none
def Bl(T:Tab)(sc:Scope)(N:List Str):Nat->Stmt->Option Z6
 |0,_=>none
 |n+1,st=>match st with
  |.Return o _=>match o with
   |none=>none
   |some e=>(Ai T sc N n e).map .ret
  |.Assign ts e _=>match ts with
   |[]=>none
   |t::r=>HG (HI r) (EC T sc N (Ai T sc N n) t e)
  |.Expr e _=>HG (!BG e) ((Ai T sc N n e).map .exp)
  |.If c a b _=>(Ai T sc N n c).bind λj=>(Ac (a.map (Bl T sc N n))).bind λa'=>(Ac (b.map (Bl T sc N n))).map (.Zu j a')
  |.While c b o _=>HG (HI o) ((Ai T sc N n c).bind λj=>(Ac (b.map (Bl T sc N n))).map (.VL j))
  |.For tg it b o _=>HG (HI o) ((A8 true sc N tg).bind λt=>(Cr T sc (Ai T sc N n) tg it).bind λZs=>(Ac (b.map (Bl T sc N n))).map (.for t Zs))
  |.Raise _ _ _=>some .never
  |_=>none
open PySem PySem.Spec PySem.Calls PyProof.Rows L2 PySem.W PySem.Builtin PySem.Builtin.ObjectAttr
def Du:List (List Value):=[[.type "ZeroDivisionError",.type "ArithmeticError",.type "Exception",.type "BaseException",.type "object"],[.type "ValueError",.type "Exception",.type "BaseException",.type "object"],[.type "LookupError",.type "Exception",.type "BaseException",.type "object"],[.type "IndexError",.type "LookupError",.type "Exception",.type "BaseException",.type "object"]]
def AR:List Value->Bool
 |.ref _::r=>AR r
 |l=>Du.contains l
def CB(K:Frag)(C:Addr):Bool:=(clsIn K C).any λa=>AR a.mro&&a.mro.contains (.type "object")&&!a.mro.isEmpty
open PySem PySem.Spec PyProof.Rows L2 PySem.W
noncomputable def glob(a:Scope)(x:Str):Bool:=a.names.lookup x==some .globalImplicit
def DQ(a:List Expr):Option (Expr×Expr):=match a with
 |[]=>none
 |y::a=>match a with
  |[]=>none
  |z::a=>match a with
   |[]=>some (y,z)
   |_::_=>none
def FC(e:Expr):Option (Expr×Expr):=match e with
 |.Tuple ts _ _=>DQ ts
 |_=>none
def HQ(sc:Scope)(as:List (Str×Bool))(b:Expr):Option (Option U):=match HH b with
 |some y=>HG (glob sc y) ((as.lookup y).map λb=>some (.bl b))
 |none=>(FC b).bind λq=>(HH q.1).bind λy=>(HH q.2).bind λz=>HG (glob sc y&&glob sc z) ((as.lookup y).bind λa=>(as.lookup z).map λb=>some (.bl (a||b)))
def Ca(u:List Str)(sc:Scope)(n:Str)(fo:Option Str)(as:List (Str×Bool))(e:Expr):Option (Option U):=match e with
 |.Constant c _ _=>match c with
  |.str s=>some (some (.str s))
  |_=>none
 |.Attribute o f _=>(HH o).bind λj=>HG (decide (j=n)&&decide (fo=some f)) (some none)
 |.Call f es ks _=>match ks with
  |[]=>(HH f).bind λf=>(DQ es).bind λq=>(HH q.1).bind λj=>HG (decide (f = "isinstance")&&decide (j=n)&&u.contains f&&glob sc f) (HQ sc as q.2)
  |_::_=>none
 |_=>none
def DT(T:Tab)(x:Str):Option Nat:=T.xc.findIdx? (·.1==x)
def EM(d:List Str)(a:Scope)(x b c n y:Str)(e:List Expr):Bool:=d.contains y&&(b==x)&&AU c&&AU n&&AU y&&glob a c&&glob a y&&!e.any isStar&&(a.names.lookup n==some .local)
def Cb{b:Type}(l:List b):Option b:=match l with
 |[]=>none
 |a::r=>HG (HI r) (some a)
def Ds(s:Stmt):Option (List Expr×Expr):=match s with
 |.Assign ts v _=>some (ts,v)
 |_=>none
def Dz(a:List Stmt):Option (Str×Expr):=(Cb a).bind λs=>(Ds s).bind λq=>(Cb q.1).bind λt=>(HH t).map λx=>(x,q.2)
def FP(a:List ExceptHandler):Option (Str×Str×List Stmt):=match a with
 |[]=>none
 |.ExceptHandler c n b _::r=>HG (HI r) (c.bind λc=>(HH c).bind λc=>n.map λn=>(c,n,b))
def FK(e:Expr):Option (List Expr):=match e with
 |.Tuple vs _ _=>some vs
 |_=>none
section
variable(T:Tab)(sc:Scope)(N:List Str)(ce:Expr->Option E)(cs:Stmt->Option Z6)
def HR(c:Str×List Expr):Option Z6:=match c.2 with
 |[]=>none
 |a::es=>HG (AU c.1&&glob sc c.1&&!(a::es).any isStar) ((DT T c.1).bind λk=>(Ac ((a::es).map ce)).bind λb=>T.xc[k]?.bind λq=>HG (q.2.1.isNone||HI es) (some (.raise k b)))
def HS(x:Str)(e:Str×List Expr)(c n:Str)(g:Str)(b:List Expr):Option Z6:=match e.2 with
 |[]=>none
 |a::es=>HG (EM T.fs sc x g c n e.1 (a::es)) ((Bm true sc N x).bind λj=>(AB N n).bind λi=>(AB T.J e.1).bind λh=>(DT T c).bind λf=>(Ac ((a::es).map ce)).bind λd=>HG (!decide (i=j)) (T.xc[f]?.bind λq=>(Ac (b.map (Ca T.bt sc n q.2.1 q.2.2))).map λS=>.U4 j h d f S))
end
def Cy(T:Tab)(d:Scope)(N:List Str):Nat->Stmt->Option Z6
 |0,_=>none
 |m+1,st=>match st with
  |.If c a b _=>(Ai T d N m c).bind λk=>(Ac (a.map (Cy T d N m))).bind λn=>(Ac (b.map (Cy T d N m))).map λl=>.V7 k n l
  |.Raise e c _=>HG (Fs c) (e.bind λe=>(BH e).bind (HR T d (Ai T d N m)))
  |.Try b hs o f _=>HG (HI o&&HI f) ((Dz b).bind λp=>(BH p.2).bind λj=>(FP hs).bind λh=>(Dz h.2.2).bind λi=>(FK i.2).bind λg=>HS T d N (Ai T d N m) p.1 j h.1 h.2.1 i.1 g)
  |st=>(Bl T d N m st).map λs=>.Zi [s]
open PySem PySem.Spec PyProof.Rows L2
def B8(T:Tab)(x:Str)(a:Scope)(N:List Str)(m:Nat):Stmt->Option Z6:=if T.fs.contains x then Cy T a N m else Bl T a N m
open PySem PySem.Spec PyProof.Rows L2 PySem.W
def BN:Nat->List Obj->Frag
 |_,[]=>[]
 |n,o::r=>match o.data with
  |.freed=>BN (n+1) r
  |_=>(n,o)::BN (n+1) r
def AO(h:Heap):Frag:=BN 0 h.objs.toList
set_option genInjectivity false in
structure Inf where
 x:Str
 N:List Str
 ps:List Str
 cm:Option (Str×Str)
def Cq(N b:List Str)(a:Scope):Bool:=
 decide (a.kind=.function)&&!a.isCoroutine&&!a.isGenerator&&decide N.Nodup&&decide (N.take b.length=b)&&b.all (λx=>decide (a.names.lookup x=some .local)||decide (a.names.lookup x=some .cell))&&a.names.all λy=>decide (y.2 ≠ .free)
def CD(a:List Str)(p:Arguments):Bool:=p.posonlyargs.isEmpty&&decide (p.args.map (·.arg)=a)&&p.vararg.isNone&&p.kwonlyargs.isEmpty&&p.kwarg.isNone
def DJ:Value->Bool
 |.none=>true
 |_=>false
def CZ:U->Value->Bool
 |.int i,.int j _=>decide (i=j)
 |.ZJ,.none=>true
 |.bl b,.bool c=>b==c
 |.str s,.str t _=>decide (s=t)
 |_,_=>false
def CG:List U->List Value->Bool
 |[],[]=>true
 |u::S,v::vs=>CZ u v&&CG S vs
 |_,_=>false
def HU(K:Frag):U->Value->Bool
 |.xn _ S,.ref a=>match K.lookup a with
  |some ⟨.type "tuple",_,.seq ZU _,_⟩=>decide (ZU.size<=1000)&&CG S ZU.toList
  |_=>false
 |_,_=>false
def DY(K:Frag)(u:U)(v:Value):Bool:=CZ u v||HU K u v
def HV(K:Frag)(c:Str×U):Bool:=match nsIn K mainGlobals c.1 with
 |some (some val)=>DY K c.2 val
 |_=>false
open PySem PySem.Spec PyProof.Rows L2 PySem.W PySem.Calls
def Dc:List (List Value×String):=[([.type "ZeroDivisionError",.type "ArithmeticError",.type "Exception",.type "BaseException",.type "object"],"ZeroDivisionError.__new__"),([.type "ValueError",.type "Exception",.type "BaseException",.type "object"],"ValueError.__new__"),([.type "LookupError",.type "Exception",.type "BaseException",.type "object"],"LookupError.__new__")]
def Hh:Value->Option Addr
 |.ref a=>some a
 |_=>none
def Di(K:Frag)(C:Addr):Bool:=(findIn K (.ref C) "__getattribute__" == some (some (.builtin "BaseException.__getattribute__")))&&(findIn K (.ref C) "__getattr__" == some none)&&(mroIn K C (.type "BaseException")==some true)&&(findIn K (.ref C) "__class__" == some (some (.builtin "object.__class__"))) &&
 (specialIn K (.builtin "object.__class__") "__get__" == some (some (.builtin "getset_descriptor.__get__")))&&(takesIn K (.builtin "object.__class__")==some true)&&(mroIn K C (.type "object")==some true)&&(clsIn K C).isSome
def Ft(K:Frag)(C:Addr)(y:Str)(b:Bool):Bool:=AU y&&match nsIn K mainGlobals y with
 |some none=>match bootBuiltins y with
  |some (.type T)=>kitOne K (.ref C) (.type T)==some b
  |_=>false
 |some (some (.ref D))=>kitOne K (.ref C) (.ref D)==some b
 |_=>false
def FX(K:Frag)(C:Addr)(a:List Value):List Value->Bool
 |[]=>false
 |v::bm=>(v==.ref C)&&tailIn K a bm
def HW(K:Frag)(C:Addr)(c:List Value)(b:Addr)(a:ClassData):Bool:=!a.hasDel&&FX K C c a.mro&&nsOkIn K a.ns&&(nsIn K a.ns "__init__" == some (some (.ref b)))
def C8(K:Frag)(C:Addr)(b:List Value)(newId:String)(a:Addr):Bool:=match K.lookup C with
 |none=>false
 |some o=>(o.cls==.type "type")&&decide (o.slots.size=6)&&(o.slots[4]? == some (some (.builtin newId)))&&(clsIn K C).any (HW K C b a)
def Gp(K:Frag)(C:Addr):Option Addr:=(clsIn K C).bind λa=>match nsIn K a.ns "__init__" with
 |some v=>v.bind Hh
 |none=>none
def HX(e:Expr):Option (Str×Str):=match e with
 |.Attribute o f _=>(HH o).map λx=>(x,f)
 |_=>none
def F5(b:List Stmt):Option ((Str×Str)×Str):=(Cb b).bind λs=>(Ds s).bind λq=>(Cb q.1).bind λt=>(HX t).bind λa=>(HH q.2).map λp=>(a,p)
def Fv(K:Frag)(a:Addr):Option FuncData:=(K.lookup a).bind λo=>HG (o.cls==.type "function") (match o.data with
 |.func fd=>some fd
 |_=>none)
def EN:FuncBody->Option (List Stmt)
 |.stmts b=>some b
 |_=>none
def E9(K:Frag)(b:Addr)(f:Str):Bool:=(Fv K b).any λa=>(a.globals==mainGlobals)&&a.closure.isEmpty&&DJ a.defaults&&(a.builtins==builtinsNs)&&codeIn K a.code a.qualname &&
 ((EN a.body).bind F5).any λq=>decide (q.1.2=f)&&Cq [q.1.1,q.2] [q.1.1,q.2] a.scope&&CD [q.1.1,q.2] a.params&&AU q.1.1&&AU q.2
def setB(K:Frag)(C:Addr)(f:Str):Bool:=(findIn K (.ref C) "__setattr__" == some (some (.builtin "object.__setattr__")))&&CB K C&&(takerIn K C f==some none)&&hasDictIn K C&&(findIn K (.ref C) f==some none)
def HY(K:Frag)(C:Addr):Option Str->Bool
 |none=>false
 |some f=>match Gp K C with
  |some fI=>(Dc.any λb=>C8 K C b.1 b.2 fI)&&E9 K fI f&&setB K C f
  |none=>false
def Cw(K:Frag)(c:Str×Option Str×List (Str×Bool)):Option Addr:=match nsIn K mainGlobals c.1 with
 |some (some (.ref C))=>if HY K C c.2.1&&Di K C&&c.2.2.all λa=>Ft K C a.1 a.2 then some C else none
 |_=>none
open PySem PySem.Spec PyProof.Rows L2 PySem.W
def EL(x q:Str)(fd:FuncData):Bool:=decide (fd.name=x)&&decide (fd.qualname=q)&&(fd.globals==mainGlobals)&&fd.closure.isEmpty&&(fd.builtins==builtinsNs)
def FU(K:Frag)(i:Inf)(fd:FuncData):Bool:=CD i.ps fd.params&&DJ fd.defaults
def DH(K:Frag)(i:Inf):Option Addr:=match i.cm with
 |none=>match nsIn K mainGlobals i.x with
  |some (some (.ref a))=>some a
  |_=>none
 |some _=>none
noncomputable def Inf.nm(i:Inf):Str:=match i.cm with|none=>i.x|some c=>c.2
def Bq(K:Frag)(i:Inf):Option (Scope×List Stmt):=match DH K i with
 |some a=>match K.lookup a with
  |some ⟨_,_,.func fd,_⟩=>match fd.body with
   |.stmts b=>if EL i.nm i.x fd&&Cq i.N i.ps fd.scope&&FU K i fd&&codeIn K fd.code i.x&&keepIn K (.ref a)then some (fd.scope,b)else none
   |_=>none
  |_=>none
 |none=>none
def mkF(T:Tab)(q:Inf×Option (Scope×List Stmt)):Option Fn:=match q.2 with
 |some r=>(Ac (r.2.map (B8 T q.1.x r.1 q.1.N 60))).map λa=>⟨q.1.ps.length,q.1.N.length,a⟩
 |none=>none
def HZ(T:Tab)(K:Frag):Bool:=T.bt.all (λx=>(nsIn K mainGlobals x).any Option.isNone)&&T.xc.all (λc=>(Cw K c).isSome)
open PySem PySem.Spec PyProof.Rows L2 PySem.W PySem.Calls
noncomputable section
def Fx(p:Program)(w:World)(N:Nat)(ZG : Shared):Option Shared:=
 match ZG.heap.isNs mainGlobals&&ZG.gens.size==0 with
 |true=>(Fast.tw14082659384304107361 Fast.tw14364793385576792824 p w ZG.heap.objs.size (ZG.heap.nsMap mainGlobals "__annotations__") N ZG (topStub p)).bind λa=>match staticsOk (importedModules p.main.body) ZG.heap a.heap&&namesBound p a.heap&&gensDone a && laidKept ZG.heap a.heap with
   |true=>some a
   |false=>none
 |false=>none
def endsF(p:Program)(w:World)(N:Nat):Option Shared:=
 ((Fast.tw10274390034422433532 Fast.tw14364793385576792824 (opening p) w N (Fast.tw1435165496053646825 (opening p)).1 (Fast.tw1435165496053646825 (opening p)).2).bind (Fast.tw14289696077712309145 p)).bind (Fx p w N)
def lastOf(p:Program):Program:={p with main:={p.main with body:=p.main.body.drop (p.main.body.length-1)}}
def D4(T:Tab)(K:Frag)(is:List Inf):Bool:=HZ T K&&T.cs.all (HV K)
def Aj(b:List Stmt)(n:Nat):Option (Scope×List Stmt):=match b[n]? with
 |some (.FunctionDef _ _ b _ _ _ sc _ _ _)=>some (sc,b)
 |_=>none
end
end
end PI
section
namespace ZD
open PI
def Ez:Fn:=⟨2,7,[(.set (.tp [2,3,4]) (.L 0)),(.set (.tp [5,6]) (.L 1)),(.ret (.and (.chain .le .le (.ZW (.int 0)) (.L 5) (.ZR .mul (.L 2) (.L 4))) (.chain .le .le (.ZW (.int 0)) (.L 6) (.ZR .mul (.L 3) (.L 4)))))]⟩
def Ee:Fn:=⟨2,2,[(.V7 (.not (.call 0 [.L 0,.L 1])) [(.raise 0 [.L 1])] [])]⟩
def El:Fn:=⟨2,5,[(.exp (.call 1 [.L 0,.L 1])),(.set (.nm 2) (.idx (.L 0) (.ZW (.int 2)))),(.set (.tp [3,4]) (.L 1)),(.ret (.and (.cmp .eq (.ZR .mod (.L 3) (.L 2)) (.ZW (.int 0))) (.cmp .eq (.ZR .mod (.L 4) (.L 2)) (.ZW (.int 0)))))]⟩
def Et:Fn:=⟨2,2,[(.V7 (.call 2 [.L 0,.L 1]) [(.raise 1 [.L 1])] [])]⟩
def EA:Fn:=⟨1,4,[(.set (.tp [1,2]) (.L 0)),(.for (.nm 3) (.ZY [(.ZW (.int 4)),(.ZW (.int 2))]) [(.Zu (.and (.cmp .eq (.ZR .mod (.L 1) (.L 3)) (.ZW (.int 0))) (.cmp .eq (.ZR .mod (.L 2) (.L 3)) (.ZW (.int 0)))) [(.ret (.L 3))] [])]),(.ret (.ZW (.int 1)))]⟩
def En:Fn:=⟨1,4,[(.set (.tp [1,2]) (.L 0)),(.set (.nm 3) (.call 4 [.L 0])),(.ret (.and (.cmp .eq (.ZR .mod (.ZR .fdiv (.L 1) (.L 3)) (.ZW (.int 2))) (.ZW (.int 1))) (.cmp .eq (.ZR .mod (.ZR .fdiv (.L 2) (.L 3)) (.ZW (.int 2))) (.ZW (.int 1)))))]⟩
def Ec:Fn:=⟨1,6,[(.set (.tp [1,2]) (.L 0)),(.set (.nm 3) (.call 4 [.L 0])),(.set (.nm 4) (.ZY [(.ZY [(.ZR .sub (.L 1) (.L 3)),.L 2]),(.ZY [(.ZR .add (.L 1) (.L 3)),.L 2])])),(.set (.nm 5) (.ZY [(.ZY [.L 1,(.ZR .sub (.L 2) (.L 3))]),(.ZY [.L 1,(.ZR .add (.L 2) (.L 3))])])),(.Zu (.cmp .eq (.ZR .mod (.ZR .fdiv (.L 1) (.L 3)) (.ZW (.int 2))) (.ZW (.int 1))) [(.ret (.ZY [.L 4,.L 5]))] []),(.ret (.ZY [.L 5,.L 4]))]⟩
def D6:Fn:=⟨1,6,[(.set (.tp [1,2]) (.L 0)),(.set (.nm 3) (.call 4 [.L 0])),(.set (.nm 4) (.ZY [(.ZY [(.ZR .sub (.L 1) (.L 3)),(.ZR .sub (.L 2) (.L 3))]),(.ZY [(.ZR .add (.L 1) (.L 3)),(.ZR .add (.L 2) (.L 3))])])),(.set (.nm 5) (.ZY [(.ZY [(.ZR .sub (.L 1) (.L 3)),(.ZR .add (.L 2) (.L 3))]),(.ZY [(.ZR .add (.L 1) (.L 3)),(.ZR .sub (.L 2) (.L 3))])])),(.Zu (.cmp .eq (.ZR .mod (.ZR .add (.ZR .fdiv (.ZR .sub (.L 1) (.L 3)) (.ZR .mul (.ZW (.int 2)) (.L 3))) (.ZR .fdiv (.ZR .sub (.L 2) (.L 3)) (.ZR .mul (.ZW (.int 2)) (.L 3)))) (.ZW (.int 2))) (.ZW (.int 0))) [(.ret (.ZY [.L 4,.L 5]))] []),(.ret (.ZY [.L 5,.L 4]))]⟩
def EE:Fn:=⟨1,1,[(.Zu (.call 5 [.L 0]) [(.ret (.call 7 [.L 0]))] []),(.ret (.call 6 [.L 0]))]⟩
def Ey:Fn:=⟨2,3,[(.exp (.call 3 [.L 0,.L 1])),(.set (.nm 2) (.idx (.call 8 [.L 1]) (.ZW (.int 1)))),(.ret (.comp 1 [0] [((.nm 0),.L 2,[(.and (.call 0 [.L 1,.L 0]) (.not (.call 2 [.L 1,.L 0])))])] (.L 0)))]⟩
def Eu:Fn:=⟨2,7,[(.exp (.call 3 [.L 0,.L 1])),(.set (.tp [2,3]) (.L 1)),(.set (.nm 4) (.call 4 [.L 1])),(.Zu (.call 5 [.L 1]) [(.set (.nm 5) (.Z5 [(.ZY [(.ZR .sub (.L 2) (.L 4)),.L 3]),(.ZY [.L 2,(.ZR .sub (.L 3) (.L 4))]),(.ZY [.L 2,(.ZR .add (.L 3) (.L 4))]),(.ZY [(.ZR .add (.L 2) (.L 4)),.L 3])]))] [(.Zu (.cmp .gt (.L 4) (.ZW (.int 1))) [(.set (.nm 6) (.ZR .fdiv (.L 4) (.ZW (.int 2)))),(.set (.nm 5) (.Z5 [(.ZY [(.ZR .sub (.L 2) (.L 6)),(.ZR .sub (.L 3) (.L 6))]),(.ZY [(.ZR .sub (.L 2) (.L 6)),(.ZR .add (.L 3) (.L 6))]),(.ZY [(.ZR .add (.L 2) (.L 6)),(.ZR .sub (.L 3) (.L 6))]),(.ZY [(.ZR .add (.L 2) (.L 6)),(.ZR .add (.L 3) (.L 6))])]))] [(.set (.nm 5) (.Z5 []))])]),(.ret (.comp 1 [0] [((.nm 0),.L 5,[(.call 0 [.L 1,.L 0])])] (.L 0)))]⟩
def Es:Fn:=⟨2,3,[(.for (.nm 2) (.L 1) [(.exp (.call 3 [.L 0,.L 2]))]),(.ret (.V8 1 [] [((.nm 0),(.bi .sset [.L 1]),[])] (.L 0) (.ZW (.bl true))))]⟩
def Ew:Fn:=⟨3,3,[(.ret (.comp 1 [1] [((.nm 0),(.call 9 [.L 0,.L 2]),[(.cmp .YB (.L 0) (.L 1))])] (.L 0)))]⟩
def ED:Fn:=⟨2,6,[(.set (.nm 2) (.call 11 [.L 0,.L 1])),(.set (.nm 3) (.bi .list [.L 2])),(.VL (.L 3) [(.set (.nm 4) (.call 12 [.L 0,.L 2,(.pop (.L 3))])),(.for (.nm 5) (.L 4) [(.sub (.L 2) (.L 5) (.ZW (.bl true)))]),(.exp (.ext (.L 3) (.L 4)))]),(.ret (.bi .VN [.L 2]))]⟩
def EV:Fn:=⟨3,6,[(.Zi [(.set (.nm 3) (.call 11 [.L 0,.L 1]))]),(.Zi [(.exp (.call 3 [.L 0,.L 2]))]),(.Zi [(.set (.nm 4) (.call 11 [.L 0,(.call 13 [.L 0,.L 1])]))]),(.V7 (.cmp .YB (.L 2) (.L 4)) [(.raise 2 [.L 2])] []),(.Zi [(.set (.nm 5) (.Z5 [.L 2]))]),(.Zi [(.VL (.cmp .YB (.idx (.L 5) (.neg (.ZW (.int 1)))) (.L 3)) [(.exp (.app (.L 5) (.idx (.comp 1 [4] [((.nm 0),(.call 10 [.L 0,(.idx (.L 5) (.neg (.ZW (.int 1))))]),[(.cmp .WO (.L 0) (.L 1))])] (.L 0)) (.ZW (.int 0)))))])]),(.Zi [(.ret (.L 5))])]⟩
def Ed:Fn:=⟨1,1,[(.ret (.and (.Yz (.L 0) .U7) (.not (.Yz (.L 0) .U6))))]⟩
def Eh:Fn:=⟨2,3,[(.Zu (.cmp .U8 (.L 1) (.ZW .ZJ)) [(.ret (.cmp .U8 (.L 0) (.ZW .ZJ)))] []),(.Zu (.Yz (.L 1) .U6) [(.ret (.and (.Yz (.L 0) .U6) (.cmp .eq (.L 0) (.L 1))))] []),(.Zu (.Yz (.L 1) .U7) [(.ret (.and (.call 15 [.L 0]) (.cmp .eq (.L 0) (.L 1))))] []),(.Zu (.Yz (.L 1) .Ut) [(.ret (.and (.Yz (.L 0) .Ut) (.cmp .eq (.L 0) (.L 1))))] []),(.Zu (.and (.Yz (.L 1) .Us) (.not (.Yz (.L 0) .Us))) [(.ret (.ZW (.bl false)))] []),(.Zu (.and (.Yz (.L 1) .U5) (.not (.Yz (.L 0) .U5))) [(.ret (.ZW (.bl false)))] []),(.Zu (.cmp .ne (.bi .len [.L 0]) (.bi .len [.L 1])) [(.ret (.ZW (.bl false)))] []),(.for (.nm 2) (.Xy (.bi .len [.L 1])) [(.Zu (.not (.call 16 [(.idx (.L 0) (.L 2)),(.idx (.L 1) (.L 2))])) [(.ret (.ZW (.bl false)))] [])]),(.ret (.ZW (.bl true)))]⟩
def Er:Fn:=⟨1,1,[(.ret (.Z5 [(.bi .list [(.W_ (.L 0) none (some (.ZW (.int 63))))]),(.ZW (.int 0)),(.ZW (.int 7))]))]⟩
def Ei:Fn:=⟨2,5,[(.set (.nm 2) (.idx (.L 0) (.ZW (.int 0)))),(.set (.nm 3) (.idx (.L 0) (.ZW (.int 1)))),(.set (.nm 4) (.ZW (.int 0))),(.Zu (.cmp .gt (.bi .len [.L 2]) (.ZW (.int 0))) [(.set (.nm 4) (.idx (.L 2) (.ZR .mod (.L 3) (.bi .len [.L 2]))))] []),(.Zu (.cmp .lt (.L 4) (.ZW (.int 0))) [(.set (.nm 4) (.ZR .sub (.ZW (.int 1)) (.L 4)))] []),(.Zu (.cmp .ge (.L 4) (.ZR .pow (.ZW (.int 10)) (.ZW (.int 18)))) [(.sub (.L 2) (.ZR .mod (.L 3) (.bi .len [.L 2])) (.ZR .fdiv (.L 4) (.L 1))),(.ret (.ZR .mod (.L 4) (.L 1)))] []),(.sub (.L 0) (.ZW (.int 1)) (.ZR .add (.L 3) (.ZW (.int 1)))),(.sub (.L 0) (.ZW (.int 2)) (.ZR .mod (.ZR .add (.ZR .add (.ZR .add (.ZR .mul (.idx (.L 0) (.ZW (.int 2))) (.ZW (.int 48271))) (.ZR .mul (.L 4) (.ZW (.int 9973)))) (.ZR .mul (.L 3) (.ZW (.int 31)))) (.ZW (.int 11))) (.ZW (.int 2147483647)))),(.ret (.ZR .mod (.ZR .fdiv (.ZR .mod (.ZR .mul (.idx (.L 0) (.ZW (.int 2))) (.ZW (.int 69621))) (.ZW (.int 2147483629))) (.ZW (.int 64))) (.L 1)))]⟩
def Em:Fn:=⟨1,2,[(.set (.nm 1) (.Z5 [(.ZY [(.ZW (.int 1)),(.ZW (.int 1)),(.ZW (.int 2))]),(.ZY [(.ZW (.int 1)),(.ZW (.int 1)),(.ZW (.int 4))]),(.ZY [(.ZW (.int 2)),(.ZW (.int 1)),(.ZW (.int 2))]),(.ZY [(.ZW (.int 1)),(.ZW (.int 2)),(.ZW (.int 2))]),(.ZY [(.ZW (.int 2)),(.ZW (.int 2)),(.ZW (.int 2))]),(.ZY [(.ZW (.int 1)),(.ZW (.int 1)),(.ZW (.int 4))])])),(.set (.nm 1) (.ZR .add (.L 1) (.Z5 [(.ZY [(.ZW (.int 3)),(.ZW (.int 1)),(.ZW (.int 2))]),(.ZY [(.ZW (.int 1)),(.ZW (.int 3)),(.ZW (.int 2))]),(.ZY [(.ZW (.int 2)),(.ZW (.int 1)),(.ZW (.int 4))]),(.ZY [(.ZW (.int 1)),(.ZW (.int 2)),(.ZW (.int 4))]),(.ZY [(.ZW (.int 3)),(.ZW (.int 2)),(.ZW (.int 2))]),(.ZY [(.ZW (.int 1)),(.ZW (.int 1)),(.ZW (.int 8))])]))),(.ret (.idx (.L 1) (.call 18 [.L 0,(.ZW (.int 12))])))]⟩
def D9:Fn:=⟨1,4,[(.set (.nm 1) (.Z5 [])),(.for (.nm 2) (.Xy (.ZR .add (.ZR .mul (.idx (.L 0) (.ZW (.int 0))) (.idx (.L 0) (.ZW (.int 2)))) (.ZW (.int 1)))) [(.for (.nm 3) (.Xy (.ZR .add (.ZR .mul (.idx (.L 0) (.ZW (.int 1))) (.idx (.L 0) (.ZW (.int 2)))) (.ZW (.int 1)))) [(.exp (.app (.L 1) (.ZY [.L 2,.L 3])))])]),(.ret (.L 1))]⟩
def D7:Fn:=⟨2,2,[(.ret (.and (.cmp .eq (.ZR .mod (.idx (.L 1) (.ZW (.int 0))) (.idx (.L 0) (.ZW (.int 2)))) (.ZW (.int 0))) (.cmp .eq (.ZR .mod (.idx (.L 1) (.ZW (.int 1))) (.idx (.L 0) (.ZW (.int 2)))) (.ZW (.int 0)))))]⟩
def Eo:Fn:=⟨1,1,[(.ret (.comp 1 [0] [((.nm 0),(.call 20 [.L 0]),[(.not (.call 21 [.L 1,.L 0]))])] (.L 0)))]⟩
def Ex:Fn:=⟨2,2,[(.ret (.and (.chain .le .le (.ZW (.int 0)) (.idx (.L 1) (.ZW (.int 0))) (.ZR .mul (.idx (.L 0) (.ZW (.int 0))) (.idx (.L 0) (.ZW (.int 2))))) (.chain .le .le (.ZW (.int 0)) (.idx (.L 1) (.ZW (.int 1))) (.ZR .mul (.idx (.L 0) (.ZW (.int 1))) (.idx (.L 0) (.ZW (.int 2)))))))]⟩
def Ej:Fn:=⟨1,1,[(.Zu (.and (.cmp .eq (.ZR .mod (.idx (.L 0) (.ZW (.int 0))) (.ZW (.int 4))) (.ZW (.int 0))) (.cmp .eq (.ZR .mod (.idx (.L 0) (.ZW (.int 1))) (.ZW (.int 4))) (.ZW (.int 0)))) [(.ret (.ZW (.int 4)))] []),(.Zu (.and (.cmp .eq (.ZR .mod (.idx (.L 0) (.ZW (.int 0))) (.ZW (.int 2))) (.ZW (.int 0))) (.cmp .eq (.ZR .mod (.idx (.L 0) (.ZW (.int 1))) (.ZW (.int 2))) (.ZW (.int 0)))) [(.ret (.ZW (.int 2)))] []),(.ret (.ZW (.int 1)))]⟩
def Ea:Fn:=⟨1,2,[(.set (.nm 1) (.call 24 [.L 0])),(.ret (.and (.cmp .eq (.ZR .mod (.ZR .fdiv (.idx (.L 0) (.ZW (.int 0))) (.L 1)) (.ZW (.int 2))) (.ZW (.int 1))) (.cmp .eq (.ZR .mod (.ZR .fdiv (.idx (.L 0) (.ZW (.int 1))) (.L 1)) (.ZW (.int 2))) (.ZW (.int 1)))))]⟩
def D8:Fn:=⟨1,8,[(.set (.nm 1) (.call 24 [.L 0])),(.set (.tp [2,3]) (.L 0)),(.set (.nm 4) (.Z5 [(.ZY [(.ZR .sub (.L 2) (.L 1)),.L 3]),(.ZY [(.ZR .add (.L 2) (.L 1)),.L 3])])),(.set (.nm 5) (.Z5 [(.ZY [.L 2,(.ZR .sub (.L 3) (.L 1))]),(.ZY [.L 2,(.ZR .add (.L 3) (.L 1))])])),(.set (.nm 6) (.Z5 [(.ZY [(.ZR .sub (.L 2) (.L 1)),(.ZR .sub (.L 3) (.L 1))]),(.ZY [(.ZR .add (.L 2) (.L 1)),(.ZR .add (.L 3) (.L 1))])])),(.set (.nm 7) (.Z5 [(.ZY [(.ZR .sub (.L 2) (.L 1)),(.ZR .add (.L 3) (.L 1))]),(.ZY [(.ZR .add (.L 2) (.L 1)),(.ZR .sub (.L 3) (.L 1))])])),(.Zu (.call 25 [.L 0]) [(.Zu (.cmp .eq (.ZR .mod (.ZR .fdiv (.ZR .sub (.ZR .add (.ZR .sub (.L 2) (.L 1)) (.L 3)) (.L 1)) (.ZR .mul (.ZW (.int 2)) (.L 1))) (.ZW (.int 2))) (.ZW (.int 0))) [(.ret (.Z5 [.L 6,.L 7]))] []),(.ret (.Z5 [.L 7,.L 6]))] []),(.Zu (.cmp .eq (.ZR .mod (.ZR .fdiv (.L 2) (.L 1)) (.ZW (.int 2))) (.ZW (.int 1))) [(.ret (.Z5 [.L 4,.L 5]))] []),(.ret (.Z5 [.L 5,.L 4]))]⟩
def Ep:Fn:=⟨2,2,[(.ret (.comp 1 [0] [((.nm 0),(.idx (.call 26 [.L 1]) (.ZW (.int 1))),[(.and (.call 23 [.L 1,.L 0]) (.not (.call 21 [.L 1,.L 0])))])] (.L 0)))]⟩
def Eb:Fn:=⟨2,5,[(.set (.nm 2) .VM),(.set (.nm 3) (.bi .list [.L 1])),(.VL (.cmp .gt (.bi .len [.L 3]) (.ZW (.int 0))) [(.set (.nm 4) (.pop (.L 3))),(.Zu (.cmp .YB (.L 4) (.L 2)) [(.sub (.L 2) (.L 4) (.ZW (.bl true))),(.exp (.ext (.L 3) (.call 27 [.L 0,.L 4])))] [])]),(.ret (.bi .VN [.L 2]))]⟩
def Eg:Fn:=⟨2,4,[(.set (.nm 2) (.call 22 [.L 1])),(.set (.nm 3) (.call 18 [.L 0,(.ZW (.int 11))])),(.Zu (.cmp .eq (.L 3) (.ZW (.int 0))) [(.ret (.Z5 []))] []),(.Zu (.cmp .eq (.L 3) (.ZW (.int 1))) [(.ret (.L 2))] []),(.Zu (.cmp .lt (.L 3) (.ZW (.int 4))) [(.ret (.comp 1 [0] [((.nm 0),.L 2,[(.cmp .eq (.call 18 [.L 1,(.ZW (.int 2))]) (.ZW (.int 1)))])] (.L 0)))] []),(.Zu (.cmp .lt (.L 3) (.ZW (.int 6))) [(.ret (.comp 1 [0] [((.nm 0),.L 2,[(.cmp .gt (.call 18 [.L 1,(.ZW (.int 5))]) (.ZW (.int 0)))])] (.L 0)))] []),(.ret (.comp 1 [0,2] [((.nm 0),(.Xy (.ZR .add (.ZW (.int 1)) (.call 18 [.L 0,(.ZW (.int 7))]))),[])] (.idx (.L 2) (.call 18 [.L 1,(.bi .len [.L 2])]))))]⟩
def Ek:Fn:=⟨3,5,[(.Zi [(.set (.nm 3) (.ZW .ZJ))]),(.U4 3 14 [.L 0,.L 1,.L 2] 2 [(some (.str (PySem.Str.ofString "refused"))),none,(some (.bl true)),(some (.bl false))]),(.Zi [(.ret (.L 3))])]⟩
def Ef:Fn:=⟨4,5,[(.Zu (.or (.not (.Yz (.L 3) .U5)) (.or (.cmp .eq (.bi .len [.L 3]) (.ZW (.int 0))) (.cmp .gt (.bi .len [.L 3]) (.ZW (.int 9))))) [(.ret (.ZW (.bl false)))] []),(.Zu (.not (.call 16 [(.idx (.L 3) (.ZW (.int 0))),.L 2])) [(.ret (.ZW (.bl false)))] []),(.for (.nm 4) (.WN (.ZW (.int 1)) (.bi .len [.L 3])) [(.Zu (.or (.cmp .YB (.idx (.L 3) (.L 4)) (.call 22 [.L 0])) (.not (.call 16 [(.idx (.L 3) (.L 4)),(.ZY [(.idx (.idx (.L 3) (.L 4)) (.ZW (.int 0))),(.idx (.idx (.L 3) (.L 4)) (.ZW (.int 1)))])]))) [(.ret (.ZW (.bl false)))] []),(.Zu (.cmp .YB (.idx (.L 3) (.ZR .sub (.L 4) (.ZW (.int 1)))) (.call 27 [.L 0,(.idx (.L 3) (.L 4))])) [(.ret (.ZW (.bl false)))] [])]),(.ret (.cmp .WO (.idx (.L 3) (.neg (.ZW (.int 1)))) (.L 1)))]⟩
def E5:Fn:=⟨1,11,[(.set (.nm 1) (.call 17 [.L 0])),(.set (.nm 2) (.call 19 [.L 1])),(.set (.nm 3) (.call 29 [.L 1,.L 2])),(.set (.nm 4) (.call 28 [.L 2,.L 3])),(.set (.nm 5) (.call 22 [.L 2])),(.set (.nm 6) (.ZW (.bl true))),(.for (.nm 7) (.Xy (.ZW (.int 3))) [(.set (.nm 8) (.idx (.L 5) (.call 18 [.L 1,(.bi .len [.L 5])]))),(.Zu (.and (.cmp .gt (.bi .len [.L 4]) (.ZW (.int 0))) (.cmp .gt (.call 18 [.L 1,(.ZW (.int 4))]) (.ZW (.int 0)))) [(.set (.nm 8) (.idx (.L 4) (.call 18 [.L 1,(.bi .len [.L 4])])))] []),(.set (.nm 9) (.bi .list [.L 3])),(.set (.nm 10) (.call 30 [.L 2,.L 9,.L 8])),(.set (.nm 6) (.and (.L 6) (.cmp .eq (.L 9) (.L 3)))),(.Zu (.cmp .WO (.L 8) (.L 4)) [(.set (.nm 6) (.and (.L 6) (.call 31 [.L 2,.L 3,.L 8,.L 10])))] [(.set (.nm 6) (.and (.L 6) (.call 16 [.L 10,(.ZY [(.ZW (.str (PySem.Str.ofString "refused"))),.L 8,(.ZW (.bl true)),(.ZW (.bl false))])])))])]),(.ret (.L 6))]⟩
def J:List Fn:=[Ez,Ee,El,Et,EA,En,Ec,D6,EE,Ey,Eu,Es,Ew,ED,EV,Ed,Eh,Er,Ei,Em,D9,D7,Eo,Ex,Ej,Ea,D8,Ep,Eb,Eg,Ek,Ef,E5]
end ZD
end
section
namespace ZD
noncomputable section
open PySem PI L2
def Bg:List Inf:=[⟨"in_land",["plan","at","wide","deep","side","x","y"],["plan","at"],none⟩,⟨"need_place",["plan","at"],["plan","at"],none⟩,⟨"is_corner",["plan","at","side","x","y"],["plan","at"],none⟩,⟨"need_cut",["plan","at"],["plan","at"],none⟩,⟨"stride",["at","x","y","size"],["at"],none⟩,⟨"is_centre",["at","x","y","size"],["at"],none⟩,⟨"edge_pairs",["at","x","y","size","lying","upright"],["at"],none⟩,⟨"centre_pairs",["at","x","y","size","rising","falling"],["at"],none⟩,⟨"pairs",["at"],["at"],none⟩,⟨"parents",["plan","at","facing"],["plan","at"],none⟩,⟨"children",["plan","at","x","y","size","near","half"],["plan","at"],none⟩,⟨"gathered",["plan","cuts","at"],["plan","cuts"],none⟩,⟨"lacking",["plan","known","at"],["plan","known","at"],none⟩,⟨"above",["plan","cuts","known","waiting","missing","at"],["plan","cuts"],none⟩,⟨"why",["plan","cuts","at","known","closed","chain"],["plan","cuts","at"],none⟩,⟨"_law_whole",["_law_found"],["_law_found"],none⟩,⟨"_law_same",["_law_found","_law_due","_law_k"],["_law_found","_law_due"],none⟩,⟨"_law_bag",["_law_script"],["_law_script"],none⟩,⟨"_law_draw",["_law_bag_here","_law_many","_law_cells","_law_at","_law_cell"],["_law_bag_here","_law_many"],none⟩,⟨"_law_plan",["_law_bag_here","_law_menu"],["_law_bag_here"],none⟩,⟨"_law_places",["_law_plan_here","_law_found","_law_x","_law_y"],["_law_plan_here"],none⟩,⟨"_law_corner",["_law_plan_here","_law_at"],["_law_plan_here","_law_at"],none⟩,⟨"_law_cuts",["_law_plan_here"],["_law_plan_here"],none⟩,⟨"_law_in",["_law_plan_here","_law_at"],["_law_plan_here","_law_at"],none⟩,⟨"_law_step",["_law_at"],["_law_at"],none⟩,⟨"_law_centre",["_law_at","_law_size"],["_law_at"],none⟩,⟨"_law_around",["_law_at","_law_size","_law_x","_law_y","_law_flat","_law_tall","_law_rising","_law_falling"],["_law_at"],none⟩,⟨"_law_ups",["_law_plan_here","_law_at"],["_law_plan_here","_law_at"],none⟩,⟨"_law_closed",["_law_plan_here","_law_some","_law_there","_law_todo","_law_at"],["_law_plan_here","_law_some"],none⟩,⟨"_law_picks",["_law_bag_here","_law_plan_here","_law_every","_law_kind"],["_law_bag_here","_law_plan_here"],none⟩,⟨"_law_told",["_law_plan_here","_law_some","_law_at","_law_told_here","e"],["_law_plan_here","_law_some","_law_at"],none⟩,⟨"_law_chain",["_law_plan_here","_law_some","_law_at","_law_found","_law_k"],["_law_plan_here","_law_some","_law_at","_law_found"],none⟩,⟨"law",["_law_script","_law_bag_here","_law_plan_here","_law_some","_law_closed_here","_law_all_cuts","_law_good","_law_k","_law_at","_law_handed","_law_found"],["_law_script"],none⟩]
def T:Tab:=⟨(["in_land","need_place","is_corner","need_cut","stride","is_centre","edge_pairs","centre_pairs","pairs","parents","children","gathered","lacking","above","why","_law_whole","_law_same","_law_bag","_law_draw","_law_plan","_law_places","_law_corner","_law_cuts","_law_in","_law_step","_law_centre","_law_around","_law_ups","_law_closed","_law_picks","_law_told","_law_chain","law"].map Str.ofString),[],["bool","int","isinstance","len","list","range","set","sorted","str","tuple"],["need_place","need_cut","why","_law_told"],[("NoPlace",some "at",[("LookError",true),("LandError",false),("NotHeld",false)]),("NoCut",some "at",[("LookError",true),("LandError",false),("NotHeld",false)]),("NotIn",some "at",[("LookError",true),("LandError",false),("NotHeld",false)])]⟩
def loose:List Str:=(["LandError","LookError","NoPlace","NoCut","NotIn","NotHeld","in_land","need_place","is_corner","need_cut","stride","is_centre","edge_pairs","centre_pairs","pairs","parents","children","gathered","lacking","above","why","_law_whole","_law_same","_law_bag","_law_draw","_law_plan","_law_places","_law_corner","_law_cuts","_law_in","_law_step","_law_centre","_law_around","_law_ups","_law_closed","_law_picks","_law_told","_law_chain"].map Str.ofString)
end
end ZD
end
section
open PySem PySem.W PyProof.Rows
noncomputable def ZD.U3:List (Option (Scope×List Stmt)):=[PI.Aj (PySem.Challenge.rw_braemantle_k17_chains_that_ask.prog.main.body) 8,PI.Aj (PySem.Challenge.rw_braemantle_k17_chains_that_ask.prog.main.body) 9,PI.Aj (PySem.Challenge.rw_braemantle_k17_chains_that_ask.prog.main.body) 10,PI.Aj (PySem.Challenge.rw_braemantle_k17_chains_that_ask.prog.main.body) 11,PI.Aj (PySem.Challenge.rw_braemantle_k17_chains_that_ask.prog.main.body) 12,PI.Aj (PySem.Challenge.rw_braemantle_k17_chains_that_ask.prog.main.body) 13,PI.Aj (PySem.Challenge.rw_braemantle_k17_chains_that_ask.prog.main.body) 14,PI.Aj (PySem.Challenge.rw_braemantle_k17_chains_that_ask.prog.main.body) 15,PI.Aj (PySem.Challenge.rw_braemantle_k17_chains_that_ask.prog.main.body) 16,PI.Aj (PySem.Challenge.rw_braemantle_k17_chains_that_ask.prog.main.body) 17,PI.Aj (PySem.Challenge.rw_braemantle_k17_chains_that_ask.prog.main.body) 18,PI.Aj (PySem.Challenge.rw_braemantle_k17_chains_that_ask.prog.main.body) 20,PI.Aj (PySem.Challenge.rw_braemantle_k17_chains_that_ask.prog.main.body) 21,PI.Aj (PySem.Challenge.rw_braemantle_k17_chains_that_ask.prog.main.body) 22,PI.Aj (PySem.Challenge.rw_braemantle_k17_chains_that_ask.prog.main.body) 23,PI.Aj (PySem.Challenge.rw_braemantle_k17_chains_that_ask.prog.main.body) 25,PI.Aj (PySem.Challenge.rw_braemantle_k17_chains_that_ask.prog.main.body) 26,PI.Aj (PySem.Challenge.rw_braemantle_k17_chains_that_ask.prog.main.body) 27,PI.Aj (PySem.Challenge.rw_braemantle_k17_chains_that_ask.prog.main.body) 28,PI.Aj (PySem.Challenge.rw_braemantle_k17_chains_that_ask.prog.main.body) 29,PI.Aj (PySem.Challenge.rw_braemantle_k17_chains_that_ask.prog.main.body) 30,PI.Aj (PySem.Challenge.rw_braemantle_k17_chains_that_ask.prog.main.body) 31,PI.Aj (PySem.Challenge.rw_braemantle_k17_chains_that_ask.prog.main.body) 32,PI.Aj (PySem.Challenge.rw_braemantle_k17_chains_that_ask.prog.main.body) 33,PI.Aj (PySem.Challenge.rw_braemantle_k17_chains_that_ask.prog.main.body) 34,PI.Aj (PySem.Challenge.rw_braemantle_k17_chains_that_ask.prog.main.body) 35,PI.Aj (PySem.Challenge.rw_braemantle_k17_chains_that_ask.prog.main.body) 36,PI.Aj (PySem.Challenge.rw_braemantle_k17_chains_that_ask.prog.main.body) 37,PI.Aj (PySem.Challenge.rw_braemantle_k17_chains_that_ask.prog.main.body) 38,PI.Aj (PySem.Challenge.rw_braemantle_k17_chains_that_ask.prog.main.body) 39,PI.Aj (PySem.Challenge.rw_braemantle_k17_chains_that_ask.prog.main.body) 40,PI.Aj (PySem.Challenge.rw_braemantle_k17_chains_that_ask.prog.main.body) 41,PI.Aj (PySem.Challenge.rw_braemantle_k17_chains_that_ask.prog.main.body) 42]
def ZD.R7(w:World):(PI.endsF PySem.Challenge.rw_braemantle_k17_chains_that_ask.prog w 20000).map (λs=>(Fast.tw4187177175401517315 (PI.lastOf PySem.Challenge.rw_braemantle_k17_chains_that_ask.prog) ZD.loose (PySem.importedModules (PySem.Challenge.rw_braemantle_k17_chains_that_ask.prog.main.body)) (λ_=>true) true s,PI.D4 ZD.T (PI.AO s.heap) ZD.Bg))=some (openGood (PI.lastOf PySem.Challenge.rw_braemantle_k17_chains_that_ask.prog) ZD.loose,true):=by kernel_rfl
def ZD.chk1(w:World):(PI.endsF PySem.Challenge.rw_braemantle_k17_chains_that_ask.prog w 20000).map (λs=>(ZD.Bg.take 26).map (PI.Bq (PI.AO s.heap)))=some (ZD.U3.take 26):=by kernel_rfl
def ZD.chk2(w:World):(PI.endsF PySem.Challenge.rw_braemantle_k17_chains_that_ask.prog w 20000).map (λs=>((ZD.Bg.drop 26).take 7).map (PI.Bq (PI.AO s.heap)))=some ((ZD.U3.drop 26).take 7):=by kernel_rfl
def ZD.part0:PI.Ac (((ZD.Bg.zip ZD.U3).take 14).map (PI.mkF ZD.T))=some (ZD.J.take 14):=by kernel_rfl
def ZD.part1:PI.Ac ((((ZD.Bg.zip ZD.U3).drop 14).take 10).map (PI.mkF ZD.T))=some ((ZD.J.drop 14).take 10):=by kernel_rfl
def ZD.part2:PI.Ac ((((ZD.Bg.zip ZD.U3).drop 24).take 8).map (PI.mkF ZD.T))=some ((ZD.J.drop 24).take 8):=by kernel_rfl
def ZD.part3:PI.Ac ((((ZD.Bg.zip ZD.U3).drop 32).take 1).map (PI.mkF ZD.T))=some ((ZD.J.drop 32).take 1):=by kernel_rfl
end
variable{xs S ZQ:List PI.U}{u:PI.U}{o' c e' elt Zl Zs:PI.E}{tb:List (Nat×Nat×List (Nat ⊕ PI.U))}{op:PI.Op}{pm:List (Nat ⊕ PI.U)}{es' cs:List PI.E}{is:List PI.Inf}{ZC gs:List (PI.Tg×PI.E×List PI.E)}{ce:PySem.Expr->Option PI.E}
namespace L2
open PySem PySem.Spec PyProof.Rows
abbrev Key:=Sum Int Str
def BQ:Key->Value->Bool
 |.inl k,v=>Value.isInt k v
 |.inr x,v=>Value.isStrOf x v
def Hk(w:World):Key->Int
 |.inl k=>hashInt k
 |.inr x=>hashStr w x
def aP:∀{k:Key} {v:Value},BQ k v=true->(∃i t,k=Sum.inl i/\v=Value.int i t)\/(∃x t,k=Sum.inr x/\v=Value.str x t)
 |.inl i,v,h=>by
  let⟨t,e⟩:=PX (k:=i) (v:=v) h;exact .inl ⟨i,t,rfl,e⟩
 |.inr x,v,h=>by
  let⟨t,e⟩:=Value.isStrOf_shape (x:=x) (v:=v) h;exact .inr ⟨x,t,rfl,e⟩
def vq(i:Int)(t:Tok):BQ (.inl i) (.int i t)=true:=by simp[BQ,Value.isInt]
def vF(x:Str)(t:Tok):BQ (.inr x) (.str x t)=true:=by simp[BQ,Value.isStrOf]
def abT(a b:Int):decide ((Sum.inl a:Key)=Sum.inl b)=(a==b):=by
 by_cases e:a=b
 .subst e;simp
 .have h : ¬ (Sum.inl a:Key)=Sum.inl b:=λq=>e (Sum.inl.inj q)
  rw[Ry h];exact(O6.mpr e).symm
def aa0(a b:Str):decide ((Sum.inr a:Key)=Sum.inr b)=decide (a=b):=by
 by_cases e:a=b
 .subst e;simp
 .have h : ¬ (Sum.inr a:Key)=Sum.inr b:=λq=>e (NY q)
  rw[Ry h,Ry e]
def abX(a:Int)(b:Str):decide ((Sum.inl a:Key)=Sum.inr b)=false:=Ry (λq=>nomatch q)
def aay(a:Str)(b:Int):decide ((Sum.inr a:Key)=Sum.inl b)=false:=Ry (λq=>nomatch q)
def AA(prog:Program)(w:World):PySem.KeyKind prog w Key where
 is:=BQ
 hash:=Hk w
 inj:=λv a b l f=>by
  rcases aP l with⟨i,t,rfl,rfl⟩|⟨x,t,rfl,rfl⟩
  .rcases aP f with⟨j,u,rfl,e⟩|⟨y,u,rfl,e⟩
   .injection e with c _;rw[c]
   .exact nomatch e
  .rcases aP f with⟨j,u,rfl,e⟩|⟨y,u,rfl,e⟩
   .exact nomatch e
   .injection e with c _;rw[c]
 byValue:=λk v h=>by
  rcases aP h with⟨i,t,rfl,rfl⟩|⟨x,t,rfl,rfl⟩<;>rfl
 pyHash:=λd h=>by
  rcases aP d with⟨i,t,rfl,rfl⟩|⟨x,t,rfl,rfl⟩
  .exact wpAny_pyHash_int h
  .exact wpAny_pyHash_str h
 eqBool:=λg d h=>by
  rcases aP g with⟨i,t,rfl,rfl⟩|⟨x,t,rfl,rfl⟩
  .rcases aP d with⟨j,u,rfl,rfl⟩|⟨y,u,rfl,rfl⟩
   .rw [abT]at h;exact wpAny_eqBool_int h
   .rw [abX]at h;exact SeqAt.EqAt.int_str i t y u _ _ _ _ h
  .rcases aP d with⟨j,u,rfl,rfl⟩|⟨y,u,rfl,rfl⟩
   .rw [aay]at h;exact SeqAt.EqAt.str_int x t j u _ _ _ _ h
   .rw [aa0]at h;exact wpAny_eqBool_str h
 «strs»:=λk x t v h=>by
  rcases aP h with⟨i,u,rfl,e⟩|⟨y,u,rfl,e⟩
  .exact nomatch e
  .injection e with c _
   subst c;cases v<;>rfl
def t5(prog:Program)(w:World)(i:Int)(t:Tok):(AA prog w).is (.inl i) (.int i t)=true:=vq i t
def tU(prog:Program)(w:World)(x:Str)(t:Tok):(AA prog w).is (.inr x) (.str x t)=true:=vF x t
end L2
namespace L2
open PySem PySem.Spec PyProof.Rows
inductive V where
 |ZJ|bl (b:Bool)|int (i:Int)|str (x:Str)|Xk (b:Array UInt8)|U2 (b:UInt64)|ref (a:Addr)|ty (n:String)
 deriving DecidableEq
def RelV:V->Value->Prop
 |.ZJ,u=>u=Value.none
 |.bl b,u=>u=Value.bool b
 |.int i,u=>∃t,u=Value.int i t
 |.str x,u=>∃t,u=Value.str x t
 |.Xk b,u=>∃t,u=Value.bytes b t
 |.U2 b,u=>∃t,u=Value.float b t
 |.ref a,u=>u=Value.ref a
 |.ty n,u=>u=Value.type n
abbrev ZH:List V->List Value->Prop:=Paired RelV
def ZH.length{xs:List V}{S:List Value}(r:ZH xs S):xs.length=S.length:=Oo r
def ZH.get:∀{xs:List V} {S:List Value} {i:Nat} {x:V},ZH xs S->xs[i]?=some x ->∃u,S[i]?=some u/\RelV x u
 |_,_,_,_,.nil,e=>by simp at e
 |_,_,0,_,.cons r _,e=>by simp at e;subst e;exact⟨_,rfl,r⟩
 |_,_,i+1,x,.cons _ t,e=>by
  let⟨u,b,a⟩:=ZH.get (i:=i) (x:=x) t (by simpa using e)
  exact⟨u,by simpa using b,a⟩
def ZH.set{x:V}{u:Value}(r:RelV x u):∀{xs:List V} {S:List Value} (i:Nat),ZH xs S->ZH (xs.set i x) (S.set i u)
 |_,_,_,.nil=>.nil
 |_,_,0,.cons _ t=>.cons r t
 |_,_,i+1,.cons q t=>.cons q (ZH.set r i t)
def ZH.append:∀{xs a:List V} {S b:List Value},ZH xs S->ZH a b->ZH (xs++a) (S++b)
 |_,_,_,_,.nil,s=>s
 |_,_,_,_,.cons r t,s=>.cons r (ZH.append t s)
def ZH.take:∀{xs:List V} {S:List Value} (n:Nat),ZH xs S->ZH (xs.take n) (S.take n)
 |_,_,0,_=>.nil
 |_,_,_+1,.nil=>.nil
 |_,_,n+1,.cons r t=>.cons r (ZH.take n t)
def ZH.drop:∀{xs:List V} {S:List Value} (n:Nat),ZH xs S->ZH (xs.drop n) (S.drop n)
 |_,_,0,r=>r
 |_,_,_+1,.nil=>.nil
 |_,_,n+1,.cons _ t=>ZH.drop n t
def RelO:Option V->Option Value->Prop
 |some v,some u=>RelV v u
 |none,none=>True
 |_,_=>False
def KV{a:Type}:List (a×V)->List (a×Value)->Prop:=Paired λ(p:a×V) (q:a×Value)=>p.1=q.1/\RelV p.2 q.2
def H8:Key->V
 |.inl i=>.int i
 |.inr x=>.str x
set_option genInjectivity false in
inductive HO where
 |Z5 (xs:List V)
 |ZY (xs:List V)
 |dK (Z4:List (Key×V))|dT (Z4:List (List Key×V))
 |set (Z6:Int->Bool) (n:Nat)
 |ins (C dx:Addr) (fs:List (Str×V))
 |own (x:Addr)
 |xd (fs:List (Str×V))
 |met (f x:Addr)
 |YY (lo hi:Int)
 |Zn (o:Obj) (u:HO)
 |V6 (ps:Array Value)
 |ext (φ:Heap->Prop)
abbrev Hp:=Addr->Option HO
def upd(H:Hp)(a:Addr)(o:HO):Hp:=λb=>if b=a then some o else H b
def upd_same{H:Hp}{o:HO}:upd H a o a=some o:=by unfold upd;rw[Y2 rfl]
def aa{H:Hp}{o:HO}(h:b≠a):upd H a o b=H b:=by unfold upd;rw[YH h]
def cY{H:Hp}{o u:HO}(h:H a=some o)(h':H b=some u)(d:o≠u):a≠b:=by
 intro e;subst e;rw[h]at h';exact d (TQ h')
def aC{H:Hp}{o:HO}(h:H a=some o)(h':H b=none):a≠b:=by
 intro e;subst e;rw[h]at h';cases h'
section
variable(P:Program)(w:World)
def ObjOk(H:Hp)(h:Heap)(a:Addr):HO->Prop
 |.Z5 xs=>xs.length<=sizeLine /\∃(ZU:List Value) (n:Nat),ZH xs ZU/\h.get? a=some {cls:=.type "list",data:=.seq ZU.toArray n}
 |.ZY xs=>xs.length<=sizeLine /\∃ZU:List Value,ZH xs ZU/\IsTup h a ZU.toArray
 |.dK Z4=>Z4.length<=sizeLine/\(a==sysModules)=false /\∃z,KV Z4 z/\h.DictOf (AA P w) a z
 |.dT Z4=>Z4.length<=sizeLine/\(a==sysModules)=false /\∃xs:List (List Key×Addr×Value),
   Paired (λ(p:List Key×V) (q:List Key×Addr×Value)=>p.1=q.1/\H q.2.1=some (.ZY (p.1.map H8))/\RelV p.2 q.2.2) Z4 xs /\
   ∃o es ep,h.get? a=some o/\o.ExactDict/\o.data=.dict es ep/\es.toList=xs.map (entryOfKey (tupleKind (AA P w)))/\(xs.map (·.1)).Nodup
 |.set Z6 n=>h.SetOf (intKind P w) a Z6 n
 |.ins C dx fs=>H dx=some (.own a)/\fs.length<=1000/\dx≠a/\h.get? a=some (PySem.W.instObj C dx) /\
   ∃mA,h.Ns1 dx mA/\(∀f,RelO (fs.lookup f) (mA f))/\PySem.Within mA (fs.map (·.1))
 |.own _=>∃o,h.get? a=some o
 |.xd fs=>∃mA,h.Ns1 a mA /\∀f,RelO (fs.lookup f) (mA f)
 |.YY lo hi=>∃t u v,h.get? a=some {cls:=.type "range",data:=.fields #[.int lo t,.int hi u,.int 1 v]}
 |.Zn o u=>h.get? a=some o/\ObjOk H h a u
 |.V6 ps=>h.get? a=some {cls:=.none,data:=.fields ps}
 |.met f x=>h.get? a=some (PySem.W.methodObj (.ref f) (.ref x))
 |.ext j=>j h/\(∃o,h.get? a=some o) /\∀F B:Heap,j F->(∀o,F.get? a=some o->B.get? a=some o)->j B
def HOk(H:Hp)(h:Heap):Prop:=∀a o,H a=some o->ObjOk P w H h a o
end
section
variable{H H':Hp}{o:HO}
def ObjOk.lt(x:ObjOk P w H h a o):a<h.objs.size:=by
 cases o with
 |Z5 xs=>let⟨_,_,_,_,e⟩:=x;exact Hu e
 |ZY xs=>let⟨_,_,_,p⟩:=x;exact p.lt
 |dK Z4=>let⟨_,_,_,_,o,_,_,e,_⟩:=x;exact Hu e
 |dT Z4=>let⟨_,_,_,_,o,_,_,e,_⟩:=x;exact Hu e
 |set Z6 n=>let⟨o,_,_,_,e,_⟩:=x;exact Hu e
 |ins C dx fs=>let⟨_,_,_,e,_⟩:=x;exact Hu e
 |own y=>let⟨_,e⟩:=x;exact Hu e
 |xd fs=>let⟨_,⟨_,_,_,e,_⟩,_⟩:=x;exact Hu e
 |YY lo hi=>let⟨_,_,_,e⟩:=x;exact Hu e
 |Zn ob u=>let⟨e,_⟩:=x;exact Hu e
 |V6 ps=>exact Hu (show h.get? a=some _ from x)
 |met f y=>exact Hu (show h.get? a=some _ from x)
 |ext b=>let⟨_,⟨_,e⟩,_⟩:=x;exact Hu e
def Paired.SQ{d c:Type}{F G:d->c->Prop}:∀{l₁ : List d} {l₂ : List c},Paired F l₁ l₂ -> (∀a b,F a b->G a b)->Paired G l₁ l₂
 |_,_,.nil,_=>.nil
 |_,_,.cons r t,f=>.cons (f _ _ r) (Paired.SQ t f)
def ObjOk.Yt(x:ObjOk P w H h a o)(k:∀b u,(b=a\/H b=some (.own a))->h.get? b=some u->h'.get? b=some u)
  (D:∀b,H b=some (.own a)->H' b=some (.own a)) (B:∀b xs,H b=some (.ZY xs)->H' b=some (.ZY xs)):ObjOk P w H' h' a o:=by
 induction o with
 |Z5 xs=>let⟨z,l,n,r,e⟩:=x;exact⟨z,l,n,r,k _ _ (.inl rfl) e⟩
 |ZY xs=>let⟨z,l,r,ob,e,c⟩:=x;exact⟨z,l,r,ob,k _ _ (.inl rfl) e,c⟩
 |dK Z4=>let⟨z,y,s,r,ob,g,i,e,c⟩:=x;exact⟨z,y,s,r,ob,g,i,k _ _ (.inl rfl) e,c⟩
 |dT Z4=>
  let⟨z,y,xs,r,ob,g,i,e,c⟩:=x;exact⟨z,y,xs,Paired.SQ r λp q z=>⟨z.1,B _ _ z.2.1,z.2.2⟩,ob,g,i,k _ _ (.inl rfl) e,c⟩
 |set Z6 n=>let⟨ob,g,i,t,e,c⟩:=x;exact⟨ob,g,i,t,k _ _ (.inl rfl) e,c⟩
 |ins C dx fs=>
  let⟨d,z,A,e,mA,⟨j,g,i,E,c⟩,r⟩:=x;exact⟨D _ d,z,A,k _ _ (.inl rfl) e,mA,⟨j,g,i,k _ _ (.inr d) E,c⟩,r⟩
 |own y=>let⟨ob,e⟩:=x;exact⟨ob,k _ _ (.inl rfl) e⟩
 |xd fs=>let⟨mA,⟨j,g,i,e,c⟩,r⟩:=x;exact⟨mA,⟨j,g,i,k _ _ (.inl rfl) e,c⟩,r⟩
 |YY lo hi=>let⟨t,u,v,e⟩:=x;exact⟨t,u,v,k _ _ (.inl rfl) e⟩
 |Zn ob u ih=>let⟨e,q⟩:=x;exact⟨k _ _ (.inl rfl) e,ih q⟩
 |V6 ps=>
  have e:h.get? a=some {cls:=.none,data:=.fields ps}:=x;show h'.get? a=some {cls:=.none,data:=.fields ps};exact k a _ (.inl rfl) e
 |met f y=>
  have e:h.get? a=some (PySem.W.methodObj (.ref f) (.ref y)):=x;show h'.get? a=some (PySem.W.methodObj (.ref f) (.ref y));exact k a _ (.inl rfl) e
 |ext F=>let⟨p,⟨o,e⟩,m⟩:=x;exact⟨m _ _ p λo q=>k _ _ (.inl rfl) q,⟨o,k _ _ (.inl rfl) e⟩,m⟩
def HOk.lt(x:HOk P w H h)(e:H a=some o):a<h.objs.size:=(x a o e).lt
def HOk.fresh(x:HOk P w H h)(e:h.objs.size<=a):H a=none:=by
 cases q:H a with
 |none=>rfl
 |some u=>exact absurd (Hz (x.lt q) e) (Pa _)
def HOk.kept(x:HOk P w H h)(k:∀b u,h.get? b=some u->h'.get? b=some u):HOk P w H h':=λa o e=>
 (x a o e).Yt (λb u _ q=>k b u q) (λ_ q=>q) λ_ _ q=>q
def HOk.laid(x:HOk P w H h)(k:∀b u,h.get? b=some u->h'.get? b=some u)(f:h.objs.size<=a)(new:ObjOk P w (upd H a o) h' a o):HOk P w (upd H a o) h':=λb u e=>by
 have hn:=x.fresh f;by_cases d:b=a
 .subst d;rw[upd_same]at e;cases e;exact new
 .rw [aa d]at e
  exact(x b u e).Yt (λc v _ q=>k c v q) (λc q=>by rw[aa (aC q hn)];exact q) λc g q=>by rw[aa (aC q hn)];exact q
end
def Rd(H:Hp)(a:Addr)(u:HO):Prop:=H a=some u \/∃o,H a=some (.Zn o u)
def Rd.ok{H:Hp}{u:HO}(r:Rd H a u)(x:HOk P w H h):ObjOk P w H h a u:=by
 rcases r with r|⟨o,r⟩
 .exact x a u r
 .obtain ⟨_,q⟩:=x a _ r
  exact q
def Mut:Option HO->Prop
 |some (.Z5 _)=>True
 |some (.dK _)=>True
 |some (.dT _)=>True
 |some (.set _ _)=>True
 |some (.ins _ _ _)=>True
 |some (.ext _)=>True
 |_=>False
section
variable{H:Hp}{x e:Addr}{o':HO}
def HOk.write(o:HOk P w H h)(f:Mut (H x))(m:e=x\/H e=some (.own x))(k:∀b u,b≠e->h.get? b=some u->h'.get? b=some u)(s:∃u,h'.get? e=some u)
  (new:ObjOk P w (upd H x o') h' x o'):HOk P w (upd H x o') h':=λb u q=>by
 have n:∀c y,H c=some (.own y)->c≠x:=λc y r z=>by subst z;rw[r]at f;exact f
 have a:∀c d,H c=some (.ZY d)->c≠x:=λc d r z=>by subst z;rw[r]at f;exact f
 by_cases i:b=x
 .subst i;rw[upd_same]at q;cases q;exact new
 .rw [aa i]at q
  by_cases j:b=e
  .have l:H b=some (.own x):=by
    rcases m with z|z
    .exact absurd (j.trans z) i
    .rw [j];exact z
   rw[q]at l;cases l;let⟨v,p⟩:=s;exact⟨v,by rw[j];exact p⟩
  .refine (o b u q).Yt (λc v g r=>k c v ?_ r) (λc r=>by rw[aa (n c b r)];exact r) λc d r=>by rw[aa (a c d r)];exact r
   rcases g with rfl|g
   .exact j
   .rintro rfl
    rcases m with z|z
    .exact n c b g z
    .rw [g]at z;cases z;exact i rfl
end
structure Un(fs ex:List Addr)(H H':Hp)(h h':Heap):Prop where
 keep:∀b o,h.get? b=some o->H b=none->b ∉ fs->b ∉ ex->h'.get? b=some o
 slot:∀b o,h.get? b=some o->H b=none->b∈fs->b ∉ ex ->∃sl,h'.get? b=some {o with slots:=sl}
 free:∀b o,h.get? b=some o->H b=none->b ∉ ex->H' b=none
 there:∀b o,h.get? b=some o->b ∉ ex ->∃o',h'.get? b=some o'
 Xx:∀b xs,H b=some (.ZY xs)->H' b=some (.ZY xs)
 XM:∀b o u,H b=some (.Zn o u)->H' b=some (.Zn o u)
 Xw:∀b ps,H b=some (.V6 ps) ->∃more,H' b=some (.V6 (ps++more))
section
variable{fs fs' ex ex':List Addr}{H H1 H2:Hp}{h1 h2:Heap}{x e:Addr}{o:HO}
def Un.any(u:Un fs ex H H1 h h1){a:Obj}(q:h.get? b=some a)(n:H b=none)(c:b ∉ ex):∃e,h1.get? b=some {a with slots:=e}:=by
 by_cases d:b∈fs
 .exact u.slot b a q n d c
 .exact ⟨a.slots,u.keep b a q n d c⟩
def Un.kept(k:∀b u,h.get? b=some u->h'.get? b=some u):Un fs ex H H h h':=
 ⟨λb ob q _ _ _=>k b ob q,λb ob q _ _ _=>⟨ob.slots,k b ob q⟩,λ_ _ _ n _=>n,λb ob q _=>⟨ob,k b ob q⟩,λ_ _ q=>q,λ_ _ _ q=>q,λ_ ps q=>⟨#[],by rw[q];simp⟩⟩
def Un.refl:Un fs ex H H h h:=Un.kept λ_ _ q=>q
def Un.laid(k:∀b u,h.get? b=some u->h'.get? b=some u)(j:h.objs.size<=a)(hn:H a=none):Un fs ex H (upd H a o) h h' where
 keep:=λb u q _ _ _=>k b u q
 slot:=λb u q _ _ _=>⟨u.slots,k b u q⟩
 free:=λb u q n _=>by rw[aa (HA (Hz (Hu q) j))];exact n
 there:=λb u q _=>⟨u,k b u q⟩
 Xx:=λb xs q=>by rw[aa (aC q hn)];exact q
 XM:=λb u xs q=>by rw[aa (aC q hn)];exact q
 Xw:=λb ps q=>⟨#[],by rw[aa (aC q hn),q];simp⟩
def Un.write(j:Mut (H x))(G:e=x\/H e=some (.own x))(k:∀b u,b≠e->h.get? b=some u->h'.get? b=some u)(L:∃u,h'.get? e=some u):Un fs ex H (upd H x o) h h':=by
 have hx:∀b,H b=none->b≠x:=λb n z=>by subst z;rw[n]at j;exact j
 have hb:∀b,H b=none->b≠e:=λb n z=>by
  subst z;rcases G with r|r
  .exact hx b n r
  .rw [n]at r;cases r
 have B:∀b u,H b=some u -> ¬ Mut (some u)->b≠x:=λb u q nm z=>by subst z;rw[q]at j;exact nm j
 refine ⟨λb u q n _ _=>k b u (hb b n) q,λb u q n _ _=>⟨u.slots,k b u (hb b n) q⟩,λb u q n _=>by rw [aa (hx b n)];exact n,λb u q _ => ?_,
  λb xs q=>by rw[aa (B b _ q λz=>z)];exact q,λb u xs q=>by rw[aa (B b _ q λz=>z)];exact q,λb ps q=>⟨#[],by rw[aa (B b _ q λz=>z),q];simp⟩⟩
 by_cases F:b=e
 .subst F;exact L
 .exact ⟨u,k b u F q⟩
end
def H9(h:Heap)(H:Hp):List Addr:=(List.range h.objs.size).filter λa=>(H a).isSome
def Bb(h:Heap)(H:Hp):Heap:=PySem.W.hideAll h (H9 h H)
def vW(h:Heap)(H:Hp):(Bb h H).objs.size=h.objs.size:=PySem.W.hideAll_size _ _
def we{H:Hp}{o:Obj}(e:h.get? b=some o)(n:H b=none):(Bb h H).get? b=some o:=
 PySem.W.hideAll_get _ e λa=>by
  have q:(H b).isSome=true:=(QE.mp a).2;rw[n]at q;simp at q
def yz{H:Hp}{o:Obj}(e:(Bb h H).get? b=some o):h.get? b=some o/\H b=none:=by
 have a:h.get? b=some o:=PySem.W.of_hideAll (H9 h H) e;refine⟨a,?_⟩;cases q:H b with
 |none=>rfl
 |some x=>
  have c:b∈H9 h H:=QE.mpr ⟨QC.mpr (Hu a),by simp[q]⟩
  have z:(Bb h H).get? b=none:=PySem.W.hideAll_none (H9 h H) c;rw[z]at e;cases e
end L2
variable{H H':L2.Hp}{v y:L2.V}{Z4:List (List L2.Key×L2.V)}{gV:List L2.V->List L2.V->List L2.V}
namespace L2
open PySem PySem.Spec PyProof.Rows
structure Mod(K:HF)(mg:Str->Option Value)(base:Heap):Prop where
 kin:K.In base
 glob:base.Ns mainGlobals mg
 blt:∃mb,base.Ns builtinsNs mb /\∀x:Str,x ≠ "__name__" -> mb x=bootBuiltins x
 nolimit:base.NoLimit
set_option genInjectivity false in
structure Cx where
 prog:Program
 w:World
 K:HF
 mg:Str->Option Value
 base:Heap
 A:Around
 N:List Str
 ZG : Shared
 WM : Hp
 env:Env
 outer:List Env
 stack:List Env
 ex:List Addr
 fn:Str->Bool
 calm:Bool
 pn:List (Addr×Obj)
 xe:Value->Shared->Prop
def frs(l:List Env):List Addr:=l.filterMap (·.frame)
abbrev Cx.fs(X:Cx):List Addr:=frs X.outer
def Vis(a:Scope)(x:Str):Prop:=a.names.lookup x=some .local\/a.names.lookup x=some .cell\/a.names.lookup x=some .free
def Loc(a:Scope)(x:Str):Prop:=a.names.lookup x=some .local\/a.names.lookup x=some .cell
def Look(env:Env)(h:Heap)(m:Str->Option Value)(x:Str)(u:Value):Prop:=
 (env.kindOf x=some .local/\m x=some u)\/((env.kindOf x=some .cell\/env.kindOf x=some .free) /\∃c,env.cells.lookup x=some c/\h.IsCell c (some u))
structure Cx.Ok(X:Cx):Prop where
 mod:Mod X.K X.mg X.base
 kind:X.env.scope.kind=.function
 glob:X.env.globals=mainGlobals
 blt:X.env.builtins=builtinsNs
 above:X.ZG.heap.objs.size<=X.env.locals
 inj:∀x y c,X.env.cells.lookup x=some c->X.env.cells.lookup y=some c->x=y
 has:∀x,(X.env.kindOf x=some .cell\/X.env.kindOf x=some .free) ->∃c,X.env.cells.lookup x=some c
 Uu:∀x c,X.fn x=true->X.env.cells.lookup x=some c->X.ZG.heap.objs.size<=c
 hd:X.calm=true->X.A.handled=none
 frames:X.A.frames=some X.stack
 WL:X.stack=X.outer\/(X.stack=X.env::X.outer/\X.env.frame=some X.env.locals)
 exf:∀b∈X.ex,b≠X.env.locals /\∀x c,X.env.cells.lookup x=some c->c≠b
 bs:∀b o,X.base.get? b=some o->X.ZG.heap.get? b=some o/\X.WM b=none
 W7:X.base.objs.size<=X.ZG.heap.objs.size
 Zd:∀b o,X.base.get? b=some o->b ∉ X.ex
 U0:∀b∈X.ex,b ∉ X.fs
 XJ:X.ZG.heap.FunFrames X.base X.outer
 Wt:∀b∈X.fs,X.WM b=none
structure Z0(X:Cx)(Y:List (Addr×Obj))(O:List (Option V))(H:Hp)(s:Shared):Prop where
 ok:X.Ok
 os:s.os=X.ZG.os
 bare:AllBare s.gens
 base:Un X.fs X.ex X.WM H X.ZG.heap s.heap
 loc:∃m,s.heap.Ns X.env.locals m /\∀(i:Nat) (x:Str) (v:V),X.N[i]?=some x->O[i]?=some (some v)->Vis X.env.scope x ->∃u,RelV v u/\Look X.env s.heap m x u
 cell:∀x c,X.env.cells.lookup x=some c ->∃v,s.heap.IsCell c v
 free:H X.env.locals=none
 Yg:∀x c,X.env.cells.lookup x=some c->H c=none
 pin:∀p∈X.pn++Y,s.heap.get? p.1=some p.2/\H p.1=none/\p.1≠X.env.locals/\p.1 ∉ X.fs /\∀v,p.2.data ≠ .cell v
 ZK:HOk X.prog X.w H s.heap
 len:O.length=X.N.length
section
variable{X:Cx}{O:List (Option V)}
def Cx.Ok.nofr(a:X.Ok){o:Obj}(e:X.base.get? b=some o):b ∉ X.fs:=λc=>by
 have:=(a.XJ.mem c).1;rw[e]at this;cases this
def Z0.bs(I:Z0 X Y O H s):∀b o,X.base.get? b=some o->s.heap.get? b=some o/\H b=none:=λb o e=>
 ⟨I.base.keep b o (I.ok.bs b o e).1 (I.ok.bs b o e).2 (I.ok.nofr e) (I.ok.Zd b o e),I.base.free b o (I.ok.bs b o e).1 (I.ok.bs b o e).2 (I.ok.Zd b o e)⟩
def Z0.bk(I:Z0 X Y O H s):∀b o,X.base.get? b=some o->s.heap.get? b=some o:=λb o e=>(I.bs b o e).1
def Z0.mod(I:Z0 X Y O H s):Mod X.K X.mg X.base:=I.ok.mod
def Z0.Yy(I:Z0 X Y O H s):X.K.In s.heap:=I.ok.mod.kin.keeps I.bk
def Z0.lt(I:Z0 X Y O H s):X.env.locals<s.heap.objs.size:=let⟨_,a,_⟩:=I.loc;a.lt
def Z0.sz(I:Z0 X Y O H s):X.ZG.heap.objs.size<=s.heap.objs.size:=Hv I.ok.above (Pk I.lt)
def Z0.nofs(I:Z0 X Y O H s)(h:s.heap.objs.size<=a):a ∉ X.fs:=λb=>by
 let⟨_,o,ho,_⟩:=I.ok.XJ.mem b;exact absurd (Hz (Hu ho) (Hv I.sz h)) (Pa _)
def Z0.W6(I:Z0 X Y O H s):∀x c,X.env.cells.lookup x=some c->c≠X.env.locals:=λx c e z=>by
 let⟨v,o,ho,a⟩:=I.cell x c e;let⟨m,⟨f,g,h,d,b,_⟩,_⟩:=I.loc;rw[z,d]at ho;cases ho;rw[b]at a;cases a
def Z0.XJ(I:Z0 X Y O H s):s.heap.FunFrames X.base X.outer:=by
 have all:∀(l:List Env),(∀b∈frs l,b∈X.fs)->X.ZG.heap.FunFrames X.base l->s.heap.FunFrames X.base l:=by
  intro l
  induction l with
  |nil=>intro _ _;trivial
  |cons env r ih=>
   intro f i;let⟨hk,⟨Z7,o,a,h,ho,j⟩,g⟩:=i;have d:Z7∈X.fs:=f Z7 (by unfold frs;rw[Qt,a];exact HD)
   let⟨k,e⟩:=I.base.slot Z7 o ho (I.ok.Wt Z7 d) d λz=>I.ok.U0 Z7 z d;exact⟨hk,⟨Z7,_,a,h,e,j⟩,ih (λb c=>f b (by unfold frs;rw[Qt,a];exact Hy _ c)) g⟩
 exact all X.outer (λ_ c=>c) I.ok.XJ
def Z0.stack(I:Z0 X Y O H s):s.heap.FunFrames X.base X.stack:=by
 rcases I.ok.WL with e|⟨e,hf⟩
 .rw [e];exact I.XJ
 .rw [e]
  let⟨m,a,_⟩:=I.loc;refine .cons (by rw[I.ok.kind];decide) hf a ?_ I.XJ
  exact Pu (Hv I.ok.W7 I.ok.above)
def Z0.VJ(I:Z0 X Y O H s):∀b∈frs X.stack,b∈X.env.locals::X.fs:=λb a=>by
 rcases I.ok.WL with e|⟨e,hf⟩
 .rw [e]at a;exact Hy _ a
 .rw [e]at a
  unfold frs at a;rw[Qt,hf]at a;exact a
def Z0.Te(I:Z0 X Y O H s):∀b∈frs X.stack,H b=none:=λb a=>by
 rcases Vh.mp (I.VJ b a)with e|a
 .rw [e];exact I.free
 .obtain ⟨_,o,ho,_⟩:=I.ok.XJ.mem a
  exact I.base.free b o ho (I.ok.Wt b a) λz=>I.ok.U0 b z a
def Z0.step{g':Array GenState}{d':Drawn}{ch:List Addr}(I:Z0 X Y O H s)
  (L:∀b∈ch,(b∈X.ex\/X.ZG.heap.objs.size<=b)/\b≠X.env.locals/\(∀x c,X.env.cells.lookup x=some c->c≠b) /\∀p∈X.pn++Y,p.1≠b)
  (keep:∀b o,b≠X.env.locals->b ∉ X.fs->b ∉ ch->s.heap.get? b=some o->H b=none->h'.get? b=some o)
  (slot:∀b o,b≠X.env.locals->b∈X.fs->b ∉ ch->s.heap.get? b=some o->H b=none ->∃S,h'.get? b=some {o with slots:=S}) (free:∀b o,b ∉ ch->s.heap.get? b=some o->H b=none->H' b=none)
  (there:∀b o,b ∉ ch->s.heap.get? b=some o ->∃o',h'.get? b=some o')
  (Xx:∀b xs,H b=some (.ZY xs)->H' b=some (.ZY xs)) (XM:∀b o u,H b=some (.Zn o u)->H' b=some (.Zn o u)) (Xw:∀b ps,H b=some (.V6 ps) ->∃more,H' b=some (.V6 (ps++more)))
  (ns:∀m,s.heap.Ns X.env.locals m->h'.Ns X.env.locals m) (ZK:HOk X.prog X.w H' h') (hg:AllBare g') :
  Z0 X Y O H' {s with heap:=h',gens:=g',drawn:=d',toks:=t'}:=by
 have UZ:∀b o,X.ZG.heap.get? b=some o->b≠X.env.locals:=λb o e=>HA (Hz (Hu e) I.ok.above);have B:∀b o,X.ZG.heap.get? b=some o->b ∉ X.ex->b ∉ ch:=λb o e hx hb=>by
  rcases(L b hb).1 with z|z
  .exact hx z
  .exact absurd (Hz (Hu e) z) (Pa _)
 have j:∀x c,X.env.cells.lookup x=some c ->∀v,s.heap.IsCell c v->h'.IsCell c v:=λx c e v ⟨o,ho,hd⟩=>by
  have R:c ∉ ch:=λz=>(L c z).2.2.1 x c e rfl;by_cases hc:c∈X.fs
  .obtain ⟨S,q⟩:=slot c o (I.W6 x c e) hc R ho (I.Yg x c e)
   exact⟨_,q,hd⟩
  .exact ⟨o,keep c o (I.W6 x c e) hc R ho (I.Yg x c e),hd⟩
 refine⟨I.ok,I.os,hg,⟨λb o e n hb hx=>?_,λb o e n hb hx=>?_,λb o e n hx=>?_,λb o e hx=>?_,λb xs e=>Xx b xs (I.base.Xx b xs e),λb o xs e=>XM b o xs (I.base.XM b o xs e),λb ps e=>?_⟩,?_,λx c e=>?_,?_,λx c e=>?_,λp hp=>?_,ZK,I.len⟩
 .exact keep b o (UZ b o e) hb (B b o e hx) (I.base.keep b o e n hb hx) (I.base.free b o e n hx)
 .obtain ⟨S,F⟩:=I.base.slot b o e n hb hx
  let⟨W5,G⟩:=slot b _ (UZ b o e) hb (B b o e hx) F (I.base.free b o e n hx);exact⟨W5,G⟩
 .obtain ⟨o',F⟩:=I.base.there b o e hx
  exact free b o' (B b o e hx) F (I.base.free b o e n hx)
 .obtain ⟨o',F⟩:=I.base.there b o e hx
  exact there b o' (B b o e hx) F
 .obtain ⟨m1,F⟩:=I.base.Xw b ps e
  let⟨m2,G⟩:=Xw b _ F;exact⟨m1++m2,by rw[G,Array.append_assoc]⟩
 .obtain ⟨m,hn,hl⟩:=I.loc
  refine⟨m,ns m hn,λi x v F G e3=>?_⟩;let⟨u,r,l⟩:=hl i x v F G e3;refine⟨u,r,?_⟩;rcases l with l|⟨k,c,e,z⟩
  .exact .inl l
  .exact .inr ⟨k,c,e,j x c e _ z⟩
 .obtain ⟨v,z⟩:=I.cell x c e
  exact⟨v,j x c e v z⟩
 .obtain ⟨m,⟨o,_,_,ho,_⟩,_⟩:=I.loc
  exact free _ o (λz=>(L _ z).2.1 rfl) ho I.free
 .obtain ⟨v,o,ho,hd⟩:=I.cell x c e
  exact free c o (λz=>(L c z).2.2.1 x c e rfl) ho (I.Yg x c e)
 .obtain ⟨e,n,ne,Z,d⟩:=I.pin p hp
  have R:p.1 ∉ ch:=λz=>(L p.1 z).2.2.2 p hp rfl;exact⟨keep p.1 p.2 ne Z R e n,free p.1 p.2 R e n,ne,Z,d⟩
def Z0.un(I:Z0 X Y O H s)(u:Un X.fs [] H H' s.heap h')(L:HOk X.prog X.w H' h'):Z0 X Y O H' {s with heap:=h',toks:=t'}:=by
 let⟨m,⟨o,es,ep,ho,r⟩,_⟩:=id I.loc;let⟨S,G⟩:=u.any ho I.free (by simp)
 exact I.step (g':=s.gens) (d':=s.drawn) (ch:=[]) (λ_ z=>nomatch z) (λb o _ hb _ e n=>u.keep b o e n hb (by simp)) (λb o _ hb _ e n=>u.slot b o e n hb (by simp)) (λb o _ e n=>u.free b o e n (by simp)) (λb o _ e=>u.there b o e (by simp)) u.Xx u.XM u.Xw (λZ F=>by
  let⟨o',es',R,j,B⟩:=F;rw[ho]at j;cases j;exact⟨_,es',R,G,B⟩) L I.bare
def Z0.call{g':Array GenState}{d':Drawn}{ch:List Addr}(I:Z0 X Y O H s)(u:Un (frs X.stack) ch H H' s.heap h')(q:HOk X.prog X.w H' h')(k:AllBare g')
  (g:∀b∈ch,(b∈X.ex\/X.ZG.heap.objs.size<=b)/\b≠X.env.locals/\(∀x c,X.env.cells.lookup x=some c->c≠b) /\∀p∈X.pn++Y,p.1≠b) :
  Z0 X Y O H' {s with heap:=h',gens:=g',drawn:=d',toks:=t'}:=by
 let⟨m,⟨o,B,C,ho,r⟩,_⟩:=id I.loc;let⟨v,d⟩:=u.any ho I.free λz=>(g _ z).2.1 rfl
 exact I.step (ch:=ch) g (λb o d l a e n=>u.keep b o e n (λz=>(Vh.mp (I.VJ b z)).elim d l) a) (λb o _ _ a e n=>u.any e n a) (λb o a e n=>u.free b o e n a) (λb o a e=>u.there b o e a) u.Xx u.XM u.Xw (λA j=>by
  let⟨y,f,t,h,i⟩:=j;rw[ho]at h;cases h;exact⟨_,f,t,d,i⟩) q k
def Z0.turned{it:Addr}(I:Z0 X Y O H s)(k:∀b o,b≠it->s.heap.get? b=some o->h'.get? b=some o)(hn:H it=none)(B:it≠X.env.locals)
  (R:it∈X.ex\/X.ZG.heap.objs.size<=it) (L:∀x c,X.env.cells.lookup x=some c->c≠it) (G:∀p∈X.pn++Y,p.1≠it):Z0 X Y O H {s with heap:=h',toks:=t'}:=by
 have j:∀b u,H b=some u->b≠it:=λb u e z=>by rw[z,hn]at e;cases e
 refine I.step (g':=s.gens) (d':=s.drawn) (ch:=[it]) (λb hb=>?_) (λb o _ _ hc e _=>k b o (λz=>hc (by simp[z])) e) (λb o _ _ hc e _=>⟨o.slots,k b o (λz=>hc (by simp[z])) e⟩) (λ_ _ _ _ n=>n)
  (λb o hc e=>⟨o,k b o (λz=>hc (by simp[z])) e⟩) (λ_ _ e=>e) (λ_ _ _ e=>e) (λb ps e=>⟨#[],by rw[e];simp⟩) (λm F=>?_) (λb u e=>?_) I.bare
 .have e:b=it:=by simpa using hb
  subst e;exact⟨R,B,L,G⟩
 .obtain ⟨o,es,ep,ho,r⟩:=F
  exact⟨o,es,ep,k _ o (Ne.symm B) ho,r⟩
 .refine (I.ZK b u e).Yt (λc v hc q=>k c v ?_ q) (λ_ q=>q) λ_ _ q=>q
  rcases hc with z|z
  .rw [z];exact j b u e
  .exact j c _ z
def Z0.tok(I:Z0 X Y O H s)(t:Nat):Z0 X Y O H {s with toks:=t}:=I.un (h':=s.heap) (t':=t) Un.refl I.ZK
def Z0.kept{t':Nat}(I:Z0 X Y O H s)(k:∀b u,s.heap.get? b=some u->h'.get? b=some u):Z0 X Y O H {s with heap:=h',toks:=t'}:=I.un (Un.kept k) (I.ZK.kept k)
def Z0.laid{a:Addr}{o:HO}{t':Nat}(I:Z0 X Y O H s)(k:∀b u,s.heap.get? b=some u->h'.get? b=some u)(c:s.heap.objs.size<=a)(new:ObjOk X.prog X.w (upd H a o) h' a o):
  Z0 X Y O (upd H a o) {s with heap:=h',toks:=t'}:=I.un (Un.laid k c (I.ZK.fresh c)) (I.ZK.laid k c new)
def Z0.write{x e:Addr}{o:HO}{t':Nat}(I:Z0 X Y O H s)(a:Mut (H x))(c:e=x\/H e=some (.own x))(k:∀b u,b≠e->s.heap.get? b=some u->h'.get? b=some u)(d:∃u,h'.get? e=some u)
  (new:ObjOk X.prog X.w (upd H x o) h' x o):Z0 X Y O (upd H x o) {s with heap:=h',toks:=t'}:=I.un (Un.write a c k d) (I.ZK.write a c k d new)
def Z0.R5{a:List (Addr×Obj)}(I:Z0 X Y O H s)(h:∀p∈a,s.heap.get? p.1=some p.2/\H p.1=none/\p.1≠X.env.locals/\p.1 ∉ X.fs /\∀v,p.2.data ≠ .cell v):Z0 X a O H s:=
 ⟨I.ok,I.os,I.bare,I.base,I.loc,I.cell,I.free,I.Yg,λp b=>(Vj.mp b).elim (λz=>I.pin p (Qf _ z)) (h p),I.ZK,I.len⟩
def fX(c:N.Nodup)(a:N[i]?=some x)(b:N[j]?=some x):i=j:=by
 let⟨g,e⟩:=YE.mp a;let⟨f,d⟩:=YE.mp b;exact(List.getElem_inj c).mp (e.trans d.symm)
def iM{M:Model}{E:Value->Shared->Prop}{u:Value}{Q:Unit->Shared->Prop}(I:Z0 X Y O H s)(hN:X.N.Nodup)(hi:X.N[i]?=some x)(hx:Loc X.env.scope x)(r:RelV v u)
  (h:∀s',Z0 X Y (O.set i (some v)) H s'->(∃a,Heap.SameBut a s.heap s'.heap/\(a=X.env.locals\/X.env.cells.lookup x=some a))->Q Unit.unit s') (hf:X.fn x=true\/X.env.scope.names.lookup x=some .local:=by first|exact .inl rfl|exact .inr rfl|assumption):wpAny M A (storeName X.env x u) Q E s:=by
 let⟨m,hn,hl⟩:=id I.loc;have Wr:(X.env.scope.kind==.class||(X.env.scope.kind==.module&&X.env.locals != X.env.globals))=false:=by rw[I.ok.kind];rfl
 have R4:i<O.length:=by rw[I.len];exact(YE.mp hi).1
 have W6:=I.W6;have B:∀{a:Addr} {R:Heap},(∃o,s.heap.get? a=some o/\H a=none)->Heap.SameBut a s.heap R->HOk X.prog X.w H R:=λ{a R} ha hs b ob e=>by
  let⟨_,_,UY⟩:=ha;refine(I.ZK b ob e).Yt (λc w' hc q=>(hs.2 c ?_).trans q) (λ_ q=>q) λ_ _ q=>q;rintro rfl;rcases hc with rfl|hc
  .rw [UY]at e;cases e
  .rw [UY]at hc;cases hc
 rcases hx with hk|hk
 .refine wpAny_storeName_local hk hn (λR Zp hs=>?_) Wr
  let⟨oL,_,_,Ur,_⟩:=id hn;refine h _ ⟨I.ok,I.os,I.bare,⟨λb o e n hb hx=>?_,λb o e n hb hx=>?_,I.base.free,λb o e hx=>?_,I.base.Xx,I.base.XM,I.base.Xw⟩,⟨_,Zp,λj y v' F G e3=>?_⟩,λy c e=>?_,I.free,I.Yg,λp hp=>?_,B ⟨oL,Ur,I.free⟩ hs,by simpa using I.len⟩ ⟨_,hs,.inl rfl⟩
  .exact (hs.2 b (HA (Hz (Hu e) I.ok.above))).trans (I.base.keep b o e n hb hx)
  .obtain ⟨sl,F⟩:=I.base.slot b o e n hb hx
   exact⟨sl,(hs.2 b (HA (Hz (Hu e) I.ok.above))).trans F⟩
  .obtain ⟨o',F⟩:=I.base.there b o e hx
   exact⟨o',(hs.2 b (HA (Hz (Hu e) I.ok.above))).trans F⟩
  .by_cases L:j=i
   .subst L
    rw[hi]at F;cases F;rw[S3 R4]at G;cases G;exact⟨u,r,.inl ⟨hk,by simp⟩⟩
   .rw [UE (Ne.symm L)]at G
    let⟨u',r',q⟩:=hl j y v' F G e3;refine⟨u',r',?_⟩;rcases q with⟨k,e⟩|⟨k,c,e,z⟩
    .refine .inl ⟨k,?_⟩
     have:y≠x:=λe=>L (fX hN F (e ▸ hi));simp[this,e]
    .exact .inr ⟨k,c,e,z.sameBut hs (W6 y c e)⟩
  .obtain ⟨w',z⟩:=I.cell y c e
   exact⟨w',z.sameBut hs (W6 y c e)⟩
  .obtain ⟨e,n,ne,nf,d⟩:=I.pin p hp
   exact⟨(hs.2 p.1 ne).trans e,n,ne,nf,d⟩
 .have Xz:X.fn x=true:=by
   rcases hf with z|z
   .exact z
   .rw [z]at hk;cases hk
  let⟨c,hc⟩:=I.ok.has x (.inl hk);let⟨w',z⟩:=I.cell x c hc;refine wpAny_storeName_cell I.ok.kind hk hc z (λR VI hs=>?_);let⟨JH,Z,S⟩:=id z;refine h {s with heap:=R} ⟨I.ok,I.os,I.bare,⟨λb o e n hb hx=>?_,λb o e n hb hx=>?_,I.base.free,λb o e hx=>?_,I.base.Xx,I.base.XM,I.base.Xw⟩,⟨m,hn.sameBut hs (Ne.symm (W6 x c hc)),λj y v' F G e3=>?_⟩,λy c' e=>?_,I.free,I.Yg,λp hp=>?_,B ⟨JH,Z,I.Yg x c hc⟩ hs,by simpa using I.len⟩ ⟨c,hs,.inr hc⟩
  .exact (hs.2 b (HA (Hz (Hu e) (I.ok.Uu x c Xz hc)))).trans (I.base.keep b o e n hb hx)
  .obtain ⟨sl,F⟩:=I.base.slot b o e n hb hx
   exact⟨sl,(hs.2 b (HA (Hz (Hu e) (I.ok.Uu x c Xz hc)))).trans F⟩
  .obtain ⟨o',F⟩:=I.base.there b o e hx
   exact⟨o',(hs.2 b (HA (Hz (Hu e) (I.ok.Uu x c Xz hc)))).trans F⟩
  .by_cases L:j=i
   .subst L
    rw[hi]at F;cases F;rw[S3 R4]at G;cases G;exact⟨u,r,.inr ⟨.inl hk,c,hc,VI⟩⟩
   .rw [UE (Ne.symm L)]at G
    let⟨u',r',q⟩:=hl j y v' F G e3;refine⟨u',r',?_⟩;rcases q with q|⟨k,c',e,z'⟩
    .exact .inl q
    .refine .inr ⟨k,c',e,z'.sameBut hs ?_⟩
     rintro rfl;exact L (fX hN F (I.ok.inj _ _ _ e hc ▸ hi))
  .by_cases hcc:c'=c
   .subst hcc;exact⟨_,VI⟩
   .obtain ⟨w2,z2⟩:=I.cell y c' e
    exact⟨w2,z2.sameBut hs hcc⟩
  .obtain ⟨e,n,ne,nf,d⟩:=I.pin p hp
   refine⟨(hs.2 p.1 ?_).trans e,n,ne,nf,d⟩;intro q;rw[q,Z]at e;have q':JH=p.2:=TQ e;exact d w' (by rw[<-q'];exact S)
def fO{M:Model}{E:Value->Shared->Prop}{u:Value}{Q:Unit->Shared->Prop}(I:Z0 X Y O H s)(d:X.N.Nodup)(hi:X.N[i]?=some x)(b:Loc X.env.scope x)(r:RelV v u)
  (h:∀a,Z0 X Y (O.set i (some v)) H a->Q Unit.unit a) (c:X.fn x=true\/X.env.scope.names.lookup x=some .local:=by first|exact .inl rfl|exact .inr rfl|assumption):wpAny M A (storeName X.env x u) Q E s:=
 iM I d hi b r (λa e _=>h a e) c
def Z0.SO{ch:List Addr}(I:Z0 X Y O H s)(d:s'.os=s.os)(u:Un (frs X.stack) ch H H' s.heap s'.heap)(g:HOk X.prog X.w H' s'.heap)(f:AllBare s'.gens)
  (h:∀b∈ch,(b∈X.ex\/X.ZG.heap.objs.size<=b)/\b≠X.env.locals/\(∀x c,X.env.cells.lookup x=some c->c≠b) /\∀p∈X.pn++Y,p.1≠b):Z0 X Y O H' s':=by
 let⟨i,g',d',t',a⟩:=s';have e:a=s.os:=d;subst e;exact I.call (g':=g') (t':=t') (d':=d') u g f h
end
abbrev XK:=Value->Option Addr->Hp->Prop
abbrev St:=List (Option V)
abbrev VK:=V->Hp->Prop
abbrev TE:=St->Hp->VK->Prop
abbrev TT:=St->Hp->(Bool->Hp->Prop)->Prop
abbrev TA:=St->Hp->(List V->Hp->Prop)->Prop
set_option genInjectivity false in
structure Ends where
 nx:St->Hp->Prop
 rt:VK
 bk:St->Hp->Prop:=λ_ _=>False
 ct:St->Hp->Prop:=λ_ _=>False
abbrev TS:=Ends->St->Hp->Prop
inductive EP(X:Cx)(Y:List (Addr×Obj))(O:St)(Q:VK)(u:Value)(s':Shared):Prop
 |mk:∀v H',Z0 X Y O H' s'->RelV v u->Q v H'->EP X Y O Q u s'
inductive TP(X:Cx)(Y:List (Addr×Obj))(O:St)(Q:Bool->Hp->Prop)(b:Bool)(s':Shared):Prop
 |mk:∀H',Z0 X Y O H' s'->Q b H'->TP X Y O Q b s'
inductive AP(X:Cx)(Y:List (Addr×Obj))(O:St)(Q:List V->Hp->Prop)(S:List Value)(s':Shared):Prop
 |mk:∀vs H',Z0 X Y O H' s'->ZH vs S->Q vs H'->AP X Y O Q S s'
def SP(X:Cx)(Y:List (Addr×Obj))(D:Ends)(f:Flow)(c:Shared):Prop:=
 match f with
 |.next=>∃b a,Z0 X Y b a c/\D.nx b a
 |.brk=>∃b a,Z0 X Y b a c/\D.bk b a
 |.cont=>∃b a,Z0 X Y b a c/\D.ct b a
 |.ret u=>∃v b a,Z0 X Y b a c/\RelV v u/\D.rt v a
def PE(X:Cx)(e:Expr)(t:TE):Prop:=
 ∀(Y:List (Addr×Obj)) (s:Shared) (O:St) (H:Hp) (Q:VK),Z0 X Y O H s->t O H Q->wpAny (model X.prog X.w) X.A (eval e X.env) (EP X Y O Q) X.xe s
def PT(X:Cx)(e:Expr)(t:TT):Prop:=
 ∀(Y:List (Addr×Obj)) (s:Shared) (O:St) (H:Hp) (Q:Bool->Hp->Prop),Z0 X Y O H s->t O H Q->wpAny (model X.prog X.w) X.A (isTrue e X.env (eval e X.env)) (TP X Y O Q) X.xe s
def PW(X:Cx)(e:Expr)(t:TT):Prop:=
 ∀(j:Sem Value) (Y:List (Addr×Obj)) (s:Shared) (O:St) (H:Hp) (Q:Bool->Hp->Prop),Z0 X Y O H s->t O H Q->wpAny (model X.prog X.w) X.A (isTrue e X.env j) (TP X Y O Q) X.xe s
def PW.pt{X:Cx}{t:TT}(h:PW X e t):PT X e t:=h _
def PA(X:Cx)(es:List Expr)(t:TA):Prop:=
 ∀(pos:Pos) (Y:List (Addr×Obj)) (s:Shared) (O:St) (H:Hp) (Q:List V->Hp->Prop),Z0 X Y O H s->t O H Q->wpAny (model X.prog X.w) X.A (spliced (backTo pos (starEach es X.env))) (AP X Y O Q) X.xe s
def PS(X:Cx)(st:Stmt)(t:TS):Prop:=
 ∀(Y:List (Addr×Obj)) (s:Shared) (O:St) (H:Hp) (D:Ends),Z0 X Y O H s->t D O H->wpAny (model X.prog X.w) X.A (exec st X.env) (SP X Y D) X.xe s
def PSs(X:Cx)(st:List Stmt)(t:TS):Prop:=
 ∀(Y:List (Addr×Obj)) (s:Shared) (O:St) (H:Hp) (D:Ends),Z0 X Y O H s->t D O H->wpAny (model X.prog X.w) X.A (execs st X.env) (SP X Y D) X.xe s
def thn{t:Sem α}{Q Q':α->Shared->Prop}{M:Model}{E:Value->Shared->Prop}{s:Shared}(h:wpAny M A t Q E s)(b:∀a s,Q a s->Q' a s):wpAny M A t Q' E s:=Qg h b λ_ _ x=>x
end L2
variable{X:L2.Cx}{ta te:L2.TE}
namespace L2
open PySem PySem.Spec PyProof.Rows
section
def DE(i:Nat):TE:=λO H Q=>∃v,O[i]?=some (some v)/\Q v H
def Ia(v:V):TE:=λ_ H Q=>Q v H
def bS(k:X.N[i]?=some x)(f:Vis X.env.scope x)(b:(x==("__debug__" : Str))=false:=by decide)(n:(x==("__classdict__" : Str))=false:=by decide):PE X (.Name x pos) (DE i):=by
 intro Y s O H Q I h;let⟨v,e,h⟩:=h;let⟨m,g,j⟩:=I.loc;let⟨u,r,l⟩:=j i x v k e f;have a:EP X Y O Q u s:=⟨v,H,I,r,h⟩;rcases l with⟨hk,hm⟩|⟨hk,c,hc,d⟩
 .exact wpAny_Name (wpAny_loadName_local I.ok.kind hk g hm a) b
 .rcases hk with hk|hk
  .exact wpAny_Name (wpAny_loadName_cell I.ok.kind hk hc d a) b
  .exact wpAny_Name (wpAny_loadName_free I.ok.kind hk hc d a n) b
def abi{i j pos}:PE X (.Constant (.int i) j pos) (Ia (.int i)):=λ_ _ _ H _ I h=>wpAny_Constant_int ⟨.int i,H,I.tok _,⟨_,rfl⟩,h⟩
def acN{b j pos}:PE X (.Constant (.bool b) j pos) (Ia (.bl b)):=λ_ _ _ H _ I h=>Constant_bool ⟨.bl b,H,I,rfl,h⟩
def zZ{j pos}:PE X (.Constant .none j pos) (Ia .ZJ):=λ_ _ _ H _ I h=>Constant_none ⟨.ZJ,H,I,rfl,h⟩
def l4{x j pos}:PE X (.Constant (.str x) j pos) (Ia (.str x)):=λ_ _ _ H _ I h=>Calls.Constant_str ⟨.str x,H,I.tok _,⟨_,rfl⟩,h⟩
def Gl(X:Cx)(x:Str):Prop:=X.env.kindOf x=some .globalImplicit
def bN{E:Value->Shared->Prop}{O:St}{u:Value}{Q:Value->Shared->Prop}(I:Z0 X Y O H s)(z:Gl X x)(j:X.mg x=some u)(h:Q u s)
  (hd:(x==("__debug__" : Str))=false:=by decide):wpAny (model X.prog X.w) X.A (eval (.Name x pos) X.env) Q E s:=
 O_ I.ok.kind z (Calls.loadGlobal_global (by rw[I.ok.glob];exact I.mod.glob.keeps I.bk) j h) hd
def cO{E:Value->Shared->Prop}{O:St}{u:Value}{Q:Value->Shared->Prop}(I:Z0 X Y O H s)(B:Gl X x)(z:X.mg x=none)(j:bootBuiltins x=some u)(h:Q u s)
  (hn:x ≠ "__name__":=by decide) (hd:(x==("__debug__" : Str))=false:=by decide):wpAny (model X.prog X.w) X.A (eval (.Name x pos) X.env) Q E s:=by
 let⟨L,G,F⟩:=I.mod.blt;exact O_ I.ok.kind B (Calls.loadGlobal_builtin (by rw[I.ok.glob];exact I.mod.glob.keeps I.bk) z (by rw[I.ok.blt];exact G.keeps I.bk) ((F x hn).trans j) h) hd
def lh{u:Value}(b:Gl X x)(a:X.mg x=some u)(r:RelV v u)(c:(x==("__debug__" : Str))=false:=by decide):PE X (.Name x pos) (Ia v):=
 λ_ _ _ H _ I h=>bN I b a ⟨v,H,I,r,h⟩ c
def lJ{u:Value}(d:Gl X x)(c:X.mg x=none)(a:bootBuiltins x=some u)(r:RelV v u)(b:x ≠ "__name__":=by decide)(e:(x==("__debug__" : Str))=false:=by decide):PE X (.Name x pos) (Ia v):=
 λ_ _ _ H _ I h=>cO I d c a ⟨v,H,I,r,h⟩ b e
variable{a b:Expr}{tb:TE}
variable{tA tB':TT}{ZS:List Expr}
def Hr(t u:TT):TT:=λO H Q=>t O H λc a=>if c=true then u O a Q else Q false a
def Ib(t u:TT):TT:=λO H Q=>t O H λc a=>if c=true then Q true a else u O a Q
def Hg(t:TT):TT:=λO H Q=>t O H λc a=>Q (!c) a
def zg(b:PT X a tA):PW X (.BoolOp .And [a] pos) tA:=by
 intro d Y s O H Q I h;refine isTrue_and (thn (b Y s O H Q I h) λc f e=>?_);cases c with
 |true=>exact isTrue_and_nil e
 |false=>exact e
def abl(b:PT X a tA):PW X (.BoolOp .Or [a] pos) tA:=by
 intro d Y s O H Q I h;refine isTrue_or (thn (b Y s O H Q I h) λc f e=>?_);cases c with
 |false=>exact isTrue_or_nil e
 |true=>exact e
def z9(j:PT X a tA)(i:PW X (.BoolOp .And (b::ZS) pos) tB'):PW X (.BoolOp .And (a::b::ZS) pos) (Hr tA tB'):=by
 intro f Y s O H Q I h;refine isTrue_and (thn (j Y s O H _ I h) ?_);rintro c g ⟨H1,e,d⟩;cases c with
 |true=>exact i f Y g O H1 Q e d
 |false=>exact⟨H1,e,d⟩
def acI(j:PT X a tA)(i:PW X (.BoolOp .Or (b::ZS) pos) tB'):PW X (.BoolOp .Or (a::b::ZS) pos) (Ib tA tB'):=by
 intro f Y s O H Q I h;refine isTrue_or (thn (j Y s O H _ I h) ?_);rintro c g ⟨H1,e,d⟩;cases c with
 |true=>exact⟨H1,e,d⟩
 |false=>exact i f Y g O H1 Q e d
def abL(d:PT X a tA):PT X (.UnaryOp .Not a pos) (Hg tA):=by
 intro Y s O H Q I h;exact isTrue_not (thn (d Y s O H (λc b=>Q (!c) b) I h) λ_ _ ⟨b,e,q⟩=>⟨b,e,q⟩)
def Gw(b tb:TE):TE:=λO H Q=>b O H λx a=>∃c,x=.bl c/\if c=true then tb O a Q else Q (.bl false) a
def GZ(b tb:TE):TE:=λO H Q=>b O H λx a=>∃c,x=.bl c/\if c=true then Q (.bl true) a else tb O a Q
def abK{op}{t:TE}(h:PE X a t):PE X (.BoolOp op [a] pos) t:=λY s O H Q I b=>BoolOp_one (h Y s O H Q I b)
def aaF(j:PE X a ta)(i:PE X (.BoolOp .And (b::ZS) pos) tb):PE X (.BoolOp .And (a::b::ZS) pos) (Gw ta tb):=by
 intro Y s O H Q I h;refine BoolOp_and (thn (j Y s O H _ I h) ?_);rintro v f ⟨x,H1,e,g,d⟩;let⟨c,rfl,d⟩:=d;cases g;refine QM ?_;cases c with
 |true=>exact i Y f O H1 Q e d
 |false=>exact⟨.bl false,H1,e,rfl,d⟩
def acC(j:PE X a ta)(i:PE X (.BoolOp .Or (b::ZS) pos) tb):PE X (.BoolOp .Or (a::b::ZS) pos) (GZ ta tb):=by
 intro Y s O H Q I h;refine BoolOp_or (thn (j Y s O H _ I h) ?_);rintro v f ⟨x,H1,e,g,d⟩;let⟨c,rfl,d⟩:=d;cases g;refine QM ?_;cases c with
 |false=>exact i Y f O H1 Q e d
 |true=>exact⟨.bl true,H1,e,rfl,d⟩
end
end L2
namespace L2
open PySem PySem.Spec PyProof.Rows
def SqL(K:HF)(H:Hp)(a:Addr)(xs:List V):Prop:=
 Rd H a (.Z5 xs) \/
  ∃(o:Obj) (b:Array Value) (n:Nat),K.lookup a=some o/\o.cls=.type "list" /\ o.dict=none/\o.data=.seq b n/\b.size<=sizeLine/\ZH xs b.toList
def SqT(K:HF)(H:Hp)(a:Addr)(xs:List V):Prop:=
 Rd H a (.ZY xs) \/
  ∃(o:Obj) (b:Array Value) (n:Nat),K.lookup a=some o/\o.cls=.type "tuple" /\ o.data=.seq b n/\b.size<=sizeLine/\ZH xs b.toList
def Hd:Value->Option V
 |.none=>some .ZJ
 |.bool b=>some (.bl b)
 |.int i _=>some (.int i)
 |.str x _=>some (.str x)
 |.bytes b _=>some (.Xk b)
 |.float b _=>some (.U2 b)
 |.ref a=>some (.ref a)
 |.type n=>some (.ty n)
 |_=>none
def RelV.abs{x:V}{u:Value}(r:RelV x u):Hd u=some x:=by
 cases x with
 |ZJ=>cases r;rfl
 |bl _=>cases r;rfl
 |int _=>let⟨t,rfl⟩:=r;rfl
 |str _=>let⟨t,rfl⟩:=r;rfl
 |Xk _=>let⟨t,rfl⟩:=r;rfl
 |U2 _=>let⟨t,rfl⟩:=r;rfl
 |ref _=>cases r;rfl
 |ty _=>cases r;rfl
def RelV.inj{x y:V}{u:Value}(r:RelV x u)(q:RelV y u):x=y:=TQ (r.abs.symm.trans q.abs)
def ZH.inj:∀{xs a:List V} {S:List Value},ZH xs S->ZH a S->xs=a
 |_,_,_,.nil,.nil=>rfl
 |_,_,_,.cons r t,.cons r' t'=>by rw[r.inj r',ZH.inj t t']
section
variable{O:St}{xs ys:List V}
def SqL.of(h:H a=some (.Z5 xs)):SqL K H a xs:=.inl (.inl h)
def SqT.of(h:H a=some (.ZY xs)):SqT K H a xs:=.inl (.inl h)
def Z0.list(I:Z0 X Y O H s)(h:SqL X.K H a xs):∃b:List Value,ZH xs b/\PlainL s.heap a b.toArray/\xs.length<=sizeLine:=by
 rcases h with h|⟨o,b,n,hk,hc,hd,hs,c,r⟩
 .obtain ⟨z,b,n,r,e⟩:=h.ok I.ZK
  exact⟨b,r,⟨_,n,e,rfl,rfl,rfl⟩,z⟩
 .refine ⟨b.toList,r,⟨o,n,I.Yy a o hk,hc,hd,by simpa using hs⟩,?_⟩
  have e:=r.length;simp![X6]at e;omega
def Z0.tuple(I:Z0 X Y O H s)(h:SqT X.K H a xs):∃b:List Value,ZH xs b/\IsTup s.heap a b.toArray/\xs.length<=sizeLine:=by
 rcases h with h|⟨o,b,n,hk,hc,hs,c,r⟩
 .obtain ⟨z,b,r,p⟩:=h.ok I.ZK
  exact⟨b,r,p,z⟩
 .refine ⟨b.toList,r,⟨o,I.Yy a o hk,hc,n,by simpa using hs⟩,?_⟩
  have e:=r.length;simp![X6]at e;omega
def Z0.Rp(I:Z0 X Y O H s)(h:SqL X.K H a xs)(h':SqL X.K H a ys):xs=ys:=by
 let⟨j,r,⟨o,n,e,_,_,d⟩,_⟩:=I.list h;let⟨b,g,⟨k,l,c,_,_,f⟩,_⟩:=I.list h';rw[e]at c;cases c;rw[d]at f;injection f with i _
 have:j=b:=by simpa using QU Array.toList i
 subst this;exact r.inj g
def Z0.Uq(I:Z0 X Y O H s)(h:SqT X.K H a xs)(h':SqT X.K H a ys):xs=ys:=by
 let⟨j,r,⟨o,e,_,n,d⟩,_⟩:=I.tuple h;let⟨b,g,⟨k,c,_,l,f⟩,_⟩:=I.tuple h';rw[e]at c;cases c;rw[d]at f;injection f with i _
 have:j=b:=by simpa using QU Array.toList i
 subst this;exact r.inj g
end
abbrev Cx.Xv(X:Cx)(E:Value->Shared->Prop):Cx:={X with xe:=E}
abbrev Cx.Zi(X:Cx):Cx:=X.Xv λ_ _=>False
def Cx.Ok.Xv{X:Cx}(a:X.Ok)(E:Value->Shared->Prop):(X.Xv E).Ok:=
 ⟨a.mod,a.kind,a.glob,a.blt,a.above,a.inj,a.has,a.Uu,a.hd,a.frames,a.WL,a.exf,a.bs,a.W7,a.Zd,a.U0,a.XJ,a.Wt⟩
def Cx.Ok.W4{E:Value->Shared->Prop}(a:(X.Xv E).Ok):X.Ok:=
 ⟨a.mod,a.kind,a.glob,a.blt,a.above,a.inj,a.has,a.Uu,a.hd,a.frames,a.WL,a.exf,a.bs,a.W7,a.Zd,a.U0,a.XJ,a.Wt⟩
section
variable{O:St}{E:Value->Shared->Prop}
def Z0.Xv(I:Z0 X Y O H s)(E:Value->Shared->Prop):Z0 (X.Xv E) Y O H s:=⟨I.ok.Xv E,I.os,I.bare,I.base,I.loc,I.cell,I.free,I.Yg,I.pin,I.ZK,I.len⟩
def Z0.W4(I:Z0 (X.Xv E) Y O H s):Z0 X Y O H s:=⟨I.ok.W4,I.os,I.bare,I.base,I.loc,I.cell,I.free,I.Yg,I.pin,I.ZK,I.len⟩
def SP.W4{D:Ends}{f:Flow}{c:Shared}(h:SP (X.Xv E) Y D f c):SP X Y D f c:=by
 cases f with
 |next=>let⟨a,b,I,q⟩:=h;exact⟨a,b,I.W4,q⟩
 |brk=>let⟨a,b,I,q⟩:=h;exact⟨a,b,I.W4,q⟩
 |cont=>let⟨a,b,I,q⟩:=h;exact⟨a,b,I.W4,q⟩
 |ret u=>let⟨v,a,b,I,r,q⟩:=h;exact⟨v,a,b,I.W4,r,q⟩
def PT.Zi{e:Expr}{t:TT}(h:PT X.Zi e t):PT X e t:=λY s O H Q I a=>
 Qg (h Y s O H Q (I.Xv _) a) (λ_ _ ⟨H',b,q⟩=>⟨H',b.W4,q⟩) λ_ _ z=>False.elim z
def PSs.Zi{st:List Stmt}{t:TS}(h:PSs X.Zi st t):PSs X st t:=λY s O H D I a=>
 Qg (h Y s O H D (I.Xv _) a) (λ_ _ q=>q.W4) λ_ _ z=>False.elim z
end
section
variable{st:Stmt}{ZS:List Stmt}{t u:TS}
def EI:TS:=λD O H=>D.nx O H
def F0(t u:TS):TS:=λD O H=>t {D with nx:=u D} O H
def cJ:PSs X [] EI:=λ_ _ O H _ I h=>NP ⟨O,H,I,h⟩
def dA(c:PS X st t)(b:PSs X ZS u):PSs X (st::ZS) (F0 t u):=by
 intro Y s O H D I h;refine wpAny_execs_cons (thn (c Y s O H {D with nx:=u D} I h) λf a q=>?_)
 cases f with
 |next=>
  let⟨d,g,e,q⟩:=q;exact b Y a d g D e q
 |ret v=>exact q
 |brk=>exact q
 |cont=>exact q
def Z0.quiet{O:St}(I:Z0 X Y O H s):interactive X.env=false:=by simp[interactive,I.ok.kind]
def GV(a:TE):TS:=λD O H=>a O H λ_ b=>D.nx O b
def zv(c:PE X e te)(b:swapsWith e none pos.line X.env=pure false:=by rfl):PS X (.Expr e pos) (GV te):=by
 intro Y s O H D I h;exact wpAny_Expr_any (thn (c Y s O H _ I h) λv f ⟨x,H1,d,g,a⟩=>⟨O,H1,d,a⟩) I.quiet b
def Ha(a:TE):TS:=λD O H=>a O H D.rt
def aaq(c:PE X e te):PS X (.Return (some e) pos) (Ha te):=by
 intro Y s O H D I h;exact wpAny_Return_some (thn (c Y s O H _ I h) λv f ⟨x,H1,d,a,b⟩=>⟨x,O,H1,d,a,b⟩)
def Hn(c:TT)(t u:TS):TS:=λD O H=>c O H λb a=>if b=true then t D O a else u D O a
def pM{c:Expr}{a b:List Stmt}{e:TT}(j:PT X c e)(l:PSs X a t)(k:PSs X b u):PS X (.If c a b pos) (Hn e t u):=by
 intro Y s O H D I h;refine wpAny_If (thn (j Y s O H _ I h) ?_);rintro d f ⟨H1,i,g⟩;cases d with
 |true=>exact l Y f O H1 D i g
 |false=>exact k Y f O H1 D i g
end
abbrev TG:=V->St->Hp->(St->Hp->Prop)->Prop
abbrev Wq:=List V->St->Hp->(St->Hp->Prop)->Prop
def PG(X:Cx)(j:Expr)(t:TG):Prop:=
 ∀(Y:List (Addr×Obj)) (s:Shared) (O:St) (H:Hp) (v:V) (u:Value) (Q:St->Hp->Prop),Z0 X Y O H s->RelV v u->t v O H Q ->
  wpAny (model X.prog X.w) X.A (assign j X.env u) (λ_ F=>∃z B,Z0 X Y z B F/\Q z B) X.xe s
def PGs(X:Cx)(ts:List Expr)(t:Wq):Prop:=
 ∀(Y:List (Addr×Obj)) (s:Shared) (O:St) (H:Hp) (j:List V) (S:List Value) (Q:St->Hp->Prop),Z0 X Y O H s->ZH j S->t j O H Q ->
  wpAny (model X.prog X.w) X.A (assignInOrder ((assignEach ts X.env).map (·.2)) S) (λ_ B=>∃u z,Z0 X Y u z B/\Q u z) X.xe s
abbrev Ce:=V->V->V->Hp->(Hp->Prop)->Prop
def BW(X:Cx)(t:Ce):Prop:=
 ∀(Y:List (Addr×Obj)) (s:Shared) (O:St) (H:Hp) (o i v:V) (j z u:Value) (Q:Hp->Prop),Z0 X Y O H s->RelV o j->RelV i z->RelV v u->t o i v H Q ->
  wpAny (model X.prog X.w) X.A (setItem j z u) (λ_ F=>∃B,Z0 X Y O B F/\Q B) X.xe s
section
def EY(i:Nat):TG:=λv O H Q=>Q (O.set i (some v)) H
def km(c:X.N.Nodup)(hi:X.N[i]?=some x)(a:Loc X.env.scope x)(b:X.fn x=true\/X.env.scope.names.lookup x=some .local:=by first|exact .inl rfl|exact .inr rfl|assumption):PG X (.Name x pos) (EY i):=by
 intro Y s O H v u Q I r h;exact wpAny_assign_Name (fO I c hi a r (λe d=>⟨_,H,d,h⟩) b)
def Hb:Wq:=λa O H Q=>a=[]/\Q O H
def GA(t:TG)(u:Wq):Wq:=λa O H Q=>∃v r,a=v::r/\t v O H λb c=>u r b c Q
def yv:PGs X [] Hb:=by
 intro Y s O H a S Q I r h;let⟨e,h⟩:=h;subst e;cases r;exact assignInOrder_nil ⟨O,H,I,h⟩
def wJ{t:TG}{u:Wq}(F:PG X e t)(B:PGs X es u)
  (hs:(assignEach (e::es) X.env).map (·.2)=assign e X.env :: (assignEach es X.env).map (·.2):=by rfl):PGs X (e::es) (GA t u):=by
 intro Y s O H Z S Q I r h;let⟨v,vr,G,h⟩:=h;subst G;cases r with
 |cons r j=>
  rw[hs];refine assignInOrder_cons (thn (F Y s O H _ _ _ I r h) ?_);rintro _ s1 ⟨L,H1,R,z⟩;exact B Y s1 L H1 _ _ Q R j z
def G8(K:HF)(n:Nat)(t:Wq):TG:=λv O H Q=>∃a b,v=.ref a/\SqT K H a b/\b.length=n/\t b O H Q
def abU{k:Nat}{t:Wq}(hc:X.calm=true)(h:PGs X es t)
  (hn:(assignEach es X.env).length=n:=by rfl) (S:(assignEach es X.env).findIdx? (·.1)=none:=by rfl):PG X (.Tuple es k pos) (G8 X.K n t):=by
 intro Y s O H v u Q I r j;let⟨a,xs,R,F,G,j⟩:=j;subst R;cases r;let⟨ZU,z,B,hz⟩:=I.tuple F;refine assign_Tuple_tuple (I.ok.hd hc) B (by simp[hn,<-G,z.length]) S λL hx=>?_
 have Z:Z0 X Y O H {s with heap:=L}:=I.kept (t':=s.toks) λb o e=>hx b o (HA (Hu e)) e
 exact h Y _ O H xs _ Q Z (by simpa using z) j
def Ho(to a:TE)(t:Ce):TG:=λv O H Q=>to O H λo d=>a O d λi c=>t o i v c λb=>Q O b
def aaG{o i:Expr}{to ti:TE}{t:Ce}(ho:PE X o to)(hi:PE X i ti)(hs:BW X t)
  (ha:∀ v,assign (.Subscript o i pos) X.env v=(do
   let ov<-holding [v] (eval o X.env)
   let iv<-holding [v,ov] (eval i X.env)
   standAt pos
   holding [v,ov,iv] (setItem ov iv v)
   release [v,ov,iv] []):=by intro _;rfl):PG X (.Subscript o i pos) (Ho to ti t):=by
 intro Y s O H v u Q I r h;rw[ha];refine ZB (TU (thn (ho Y s O H _ I h) ?_));rintro ov s1 ⟨x,H1,I1,r1,q1⟩;refine ZB (TU (thn (hi Y s1 O H1 _ I1 q1) ?_));rintro iv s2 ⟨y,H2,I2,r2,q2⟩;refine ZB (QD (ZB (TU (thn (hs Y s2 O H2 x y v ov iv u _ I2 r1 r2 r q2) ?_))));rintro _ s3 ⟨H3,I3,q3⟩;exact wpAny_release ⟨O,H3,I3,q3⟩
def F7(a:TE)(g:TG):TS:=λD O H=>a O H λx b=>g x O b D.nx
def oK{g:TG}(j:PE X e te)(i:PG X tg g)(f:swapsWithSole [tg] e pos.line X.env=pure false:=by rfl)(d:swappedStores [tg] e X.env=pure none:=by rfl)
  (h1:(assignEach [tg] X.env).map (·.2)=[assign tg X.env]:=by rfl):PS X (.Assign [tg] e pos) (F7 te g):=by
 intro Y s O H D I h;refine wpAny_Assign_stores (thn (j Y s O H _ I h) λv a ⟨x,H1,k,b,c⟩=>?_) f d;rw[h1];exact thn (i Y a O H1 x v _ k b c) λ_ l q=>q
def oE{a:Pos}(k:X.N.Nodup)(hi:X.N[i]?=some x)(d:Loc X.env.scope x)(j:PE X e te)(f:swapsWith e (some (.Name x a)) pos.line X.env=pure false:=by rfl)(g:X.fn x=true\/X.env.scope.names.lookup x=some .local:=by first|exact .inl rfl|exact .inr rfl|assumption):
  PS X (.Assign [.Name x a] e pos) (F7 te (EY i)):=by
 intro Y s O H D I h;refine wpAny_Assign_Name (thn (j Y s O H _ I h) λv o ⟨y,H1,m,b,c⟩=>?_) f;exact fO m k hi d b (λn l=>⟨_,H1,l,c⟩) g
end
set_option genInjectivity false in
structure It where
 go:Nat->Hp->Prop
 yld:Nat->Hp->V->Hp->Prop
 stop:Nat->Hp->Prop
def AQ(X:Cx)(Y:List (Addr×Obj))(H:Hp)(b:Addr):Prop:=
 H b=none/\b≠X.env.locals/\b ∉ X.fs/\(b∈X.ex\/X.ZG.heap.objs.size<=b)/\(∀x c,X.env.cells.lookup x=some c->c≠b) /\∀p∈X.pn++Y,p.1≠b
def Z0.SN{O:St}(I:Z0 X Y O H s)(a:s.heap.objs.size<=b)(f:H' b=none):AQ X Y H' b:=by
 refine⟨f,Od (Hz I.lt a),I.nofs a,.inr (Hv I.sz a),λx c e z=>?_,λp d z=>?_⟩
 .obtain ⟨v,q⟩:=I.cell x c e
  exact absurd (Hz q.lt (by rw[z];exact a)) (Pa _)
 .exact absurd (Hz (Hu (I.pin p d).1) (by rw[z];exact a)) (Pa _)
structure Turn(P:Program)(w:World)(K:HF)(tg:Expr)(Z8:It)(fp:List Addr)(it:Addr)(tn:Nat->Heap->Prop):Prop where
 mem:it∈fp
 obj:∀i h,tn i h ->∀b∈fp,∃o,h.get? b=some o /\∀v,o.data ≠ .cell v
 keep:∀i h h',tn i h->(∀b∈fp,∀o,h.get? b=some o->h'.get? b=some o)->tn i h'
 item:∀(X:Cx),X.prog=P->X.w=w->X.K=K->X.calm=true ->∀(i:Nat) (Y:List (Addr×Obj)) (s:Shared) (O:St) (H:Hp) (E:Value->Shared->Prop),Z0 X Y O H s->(∀b∈fp,AQ X Y H b)->tn i s.heap->Z8.go i H ->
  wpAny (model P w) X.A (pyNext (.ref it)) (λr s1 => ∃ u,r=some u /\
   wpAny (model P w) X.A (letOwnedTupleGo tg (.ref it) u) (λ_ s2=>∃x H',Z0 X Y O H' s2/\RelV x u/\Z8.yld i H x H'/\tn (i+1) s2.heap /\∀b∈fp,H' b=none) E s1) E s
 done:∀(X:Cx),X.prog=P->X.w=w->X.K=K->X.calm=true ->∀(i:Nat) (Y:List (Addr×Obj)) (s:Shared) (O:St) (H:Hp) (E:Value->Shared->Prop),Z0 X Y O H s->(∀b∈fp,AQ X Y H b)->tn i s.heap->Z8.stop i H ->
  wpAny (model P w) X.A (pyNext (.ref it)) (λr s1=>r=none/\Z0 X Y O H s1) E s
 self:∀(A:Around) (i:Nat) (s:Shared) (Q:Value->Shared->Prop) (E:Value->Shared->Prop),tn i s.heap->Q (.ref it) s->wpAny (model P w) A (pyIter (.ref it)) Q E s
abbrev TI:=St->Hp->(It->Hp->Prop)->Prop
def PIE(X:Cx)(Y:List (Addr×Obj))(O:St)(f:Expr)(R:It->Hp->Prop)(g:Value)(c:Shared):Prop:=
 ∃(it:Addr) (d:List Addr) (tn:Nat->Heap->Prop) (e:It) (a:Hp),g=.ref it/\Z0 X Y O a c/\Turn X.prog X.w X.K f e d it tn/\tn 0 c.heap/\(∀b∈d,AQ X Y a b)/\R e a
def PI(X:Cx)(u iter:Expr)(j:TI):Prop:=
 ∀(Y:List (Addr×Obj)) (s:Shared) (O:St) (H:Hp) (R:It->Hp->Prop),Z0 X Y O H s->j O H R ->
  wpAny (model X.prog X.w) X.A (eval iter X.env) (λv s1=>wpAny (model X.prog X.w) X.A (pyIter v) (PIE X Y O u R) X.xe s1) X.xe s
def hG{M:Model}{E:Value->Shared->Prop}{it:Addr}{u:Value}{o:Obj}{n:String}{vs:Array Value}{Q:Unit->Shared->Prop}(b:s.heap.get? it=some o)(e:o.cls=.type n)(d:o.data=.fields vs)
    (c:["enumerate","zip","dict_itemiterator","dict_reverseitemiterator","odict_iterator","itertools.zip_longest","itertools.pairwise"].contains n=false) (a:Q Unit.unit s):wpAny M A (letOwnedTupleGo tg (.ref it) u) Q E s:=by
  unfold letOwnedTupleGo;cases tg<;>first
    |exact ZP a
    | (cases u <;> first
        |exact ZP a
        | (refine ZB (wpAny_load b ?_)
           rw[e,d];show wpAny M A (if(["enumerate","zip","dict_itemiterator","dict_reverseitemiterator","odict_iterator","itertools.zip_longest","itertools.pairwise"].contains n&&vs[0]? == some (rawInt _))=true then _ else _) Q E s
           rw[YH (by intro h;rw[c,Na]at h;cases h)]
           exact ZP a))
def Itl(K:HF)(a:Addr):It:=
 ⟨λi H=>∃b x,SqL K H a b/\b[i]?=some x,λi H x c=>c=H /\∀b,SqL K H a b->b[i]?=some x,λi H=>∃b,SqL K H a b/\b.length<=i⟩
def Itt(K:HF)(a:Addr):It:=
 ⟨λi H=>∃b x,SqT K H a b/\b[i]?=some x,λi H x c=>c=H /\∀b,SqT K H a b->b[i]?=some x,λi H=>∃b,SqT K H a b/\b.length<=i⟩
def Itr(lo:Int)(n:Nat):It:=⟨λi _=>i<n,λi H x a=>a=H/\x=.int (lo+i),λi _=>n<=i⟩
def uZ(a it:Addr):Turn P w K tg (Itl K a) [it] it (λi h=>h.IsListIter it a i) where
 mem:=by simp
 obj:=λi h st b hb=>by
  have e:b=it:=by simpa using hb
  subst e;let⟨o,e,c,d⟩:=st;exact⟨o,e,λv z=>by rw[d]at z;cases z⟩
 keep:=λi h F st k=>st.at λo e=>k it (by simp) o e
 item:=by
  intro X S L Z hc i Y s O H E I B st R;subst S L Z;let⟨xs,x,j,hx⟩:=R;let⟨ZU,G,p,hz⟩:=I.list j;let⟨u,hu,ru⟩:=G.get hx;let⟨f0,f1,f2,f3,f4,f5⟩:=B it (by simp)
  refine wpAny_pyNext_list_item st p.isList (x:=u) (by simpa using hu) λF ZV sb=>?_
  have I1:Z0 X Y O H {s with heap:=F}:=I.turned (t':=s.toks) (λb o hb e=>(sb.2 b hb).trans e) f0 f1 f3 f4 f5
  let⟨o,e,c,d⟩:=id ZV;exact⟨u,rfl,hG (s:={s with heap:=F}) e c d (by decide) ⟨x,H,I1,ru,⟨rfl,λys hy=>by rw[I.Rp hy j];exact hx⟩,ZV,λb hb=>(B b hb).1⟩⟩
 done:=by
  intro X S L Z hc i Y s O H E I B st R;subst S L Z;let⟨xs,j,hx⟩:=R;let⟨ZU,G,p,hz⟩:=I.list j;let⟨f0,f1,f2,f3,f4,f5⟩:=B it (by simp)
  have hl:=G.length;exact wpAny_pyNext_list_end (I.ok.hd hc) st p.isList (by simp;omega) λF eb=>⟨rfl,I.turned (t':=s.toks) (λb o hb e=>eb b o hb e) f0 f1 f3 f4 f5⟩
 self:=λ_ _ _ _ _ st h=>wpAny_pyIter_listiter st h
def ug(a it:Addr):Turn P w K tg (Itt K a) [it] it (λi h=>h.IsTupleIter it a i) where
 mem:=by simp
 obj:=λi h st b hb=>by
  have e:b=it:=by simpa using hb
  subst e;let⟨o,e,c,d⟩:=st;exact⟨o,e,λv z=>by rw[d]at z;cases z⟩
 keep:=λi h F st k=>st.at λo e=>k it (by simp) o e
 item:=by
  intro X S L Z hc i Y s O H E I B st R;subst S L Z;let⟨xs,x,j,hx⟩:=R;let⟨ZU,G,p,hz⟩:=I.tuple j;let⟨u,hu,ru⟩:=G.get hx;let⟨f0,f1,f2,f3,f4,f5⟩:=B it (by simp)
  refine wpAny_pyNext_tuple_item st (show s.heap.IsTuple a ZU.toArray from p) (x:=u) (by simpa using hu) λF ZV sb=>?_
  have I1:Z0 X Y O H {s with heap:=F}:=I.turned (t':=s.toks) (λb o hb e=>(sb.2 b hb).trans e) f0 f1 f3 f4 f5
  let⟨o,e,c,d⟩:=id ZV;exact⟨u,rfl,hG (s:={s with heap:=F}) e c d (by decide) ⟨x,H,I1,ru,⟨rfl,λys hy=>by rw[I.Uq hy j];exact hx⟩,ZV,λb hb=>(B b hb).1⟩⟩
 done:=by
  intro X S L Z hc i Y s O H E I B st R;subst S L Z;let⟨xs,j,hx⟩:=R;let⟨ZU,G,p,hz⟩:=I.tuple j;let⟨f0,f1,f2,f3,f4,f5⟩:=B it (by simp)
  have hl:=G.length;exact wpAny_pyNext_tuple_end (I.ok.hd hc) st (show s.heap.IsTuple a ZU.toArray from p) (by simp;omega) λF eb=>⟨rfl,I.turned (t':=s.toks) (λb o hb e=>eb b o hb e) f0 f1 f3 f4 f5⟩
 self:=λ_ _ _ _ _ st h=>wpAny_pyIter_tupleiter st h
def t9(it:Addr)(lo:Int)(n:Nat):Turn P w K tg (Itr lo n) [it] it (λi h=>IsRangeIter h it (lo+(i:Nat)*1) ((n:Int)-(i:Nat)) 1) where
 mem:=by simp
 obj:=λi h st b hb=>by
  have e:b=it:=by simpa using hb
  subst e
  exact ⟨_,st,λv z=>by
   have z':Data.fields _=Data.cell v:=z;cases z'⟩
 keep:=λi h u st k=>k it (by simp) _ st
 item:=by
  intro X G B L hc i Y s O H E I j st F;subst G B L;let⟨f0,f1,f2,Z,S,R⟩:=j it (by simp)
  have W:=Walks.range (prog:=X.prog) (w:=X.w) (I.ok.hd hc) it lo 1 n;refine W.item i s _ _ F st λv u tk hv ZV kk=>?_;let⟨t,rfl⟩:=hv;have I1:Z0 X Y O H {s with heap:=u,toks:=tk}:=I.turned (λb o hb e=>kk b o (by simpa using hb) e) f0 f1 Z S R
  refine⟨_,rfl,hG (s:={s with heap:=u,toks:=tk}) (n:="range_iterator") ZV rfl rfl (by decide) ⟨.int (lo+i),H,I1,⟨t,?_⟩,⟨rfl,rfl⟩,ZV,λb hb=>(j b hb).1⟩⟩
  rw[Int.mul_one]
 done:=by
  intro X G B L hc i Y s O H E I j st F;subst G B L;let⟨f0,f1,f2,Z,S,R⟩:=j it (by simp)
  exact wpAny_pyNext_range_end (I.ok.hd hc) st (by have:n<=i:=F;omega) λu eb=>⟨rfl,I.turned (t':=s.toks) (λb o hb e=>eb b o hb e) f0 f1 Z S R⟩
 self:=λ_ _ _ _ _ st h=>wpAny_pyIter_rangeiter st h
end L2
namespace L2
open PySem PySem.Spec PyProof.Rows
section
def jH{O:St}{R:It->Hp->Prop}{E:Value->Shared->Prop}{lo hi:Int}{t u v:Tok}{tk:Nat}(I:Z0 X Y O H s)(h1 : -(2 ^ 62)<=lo)(z:lo<2 ^ 62)(h3 : -(2 ^ 62)<=hi)(h4:hi<2 ^ 62)
  (q:R (Itr lo (hi-lo).toNat) H):wpAny (model X.prog X.w) X.A (pyIter (.ref s.heap.objs.size)) (PIE X Y O tg R) E {s with heap:=s.heap.push {cls:=.type "range",data:=.fields #[.int lo t,.int hi u,.int 1 v]},toks:=tk}:=by
 refine wpAny_pyIter_range (IsRange.new ..) (small_one h1 z h3 h4) ?_;have j:Z0 X Y O H {s with heap:=s.heap.push {cls:=.type "range",data:=.fields #[.int lo t,.int hi u,.int 1 v]},toks:=tk}:=I.kept λb o e=>Ht _ e
 refine⟨(s.heap.push {cls:=.type "range",data:=.fields #[.int lo t,.int hi u,.int 1 v]}).objs.size,[(s.heap.push {cls:=.type "range",data:=.fields #[.int lo t,.int hi u,.int 1 v]}).objs.size],_,_,H,rfl,
  j.kept (t':=tk) λb o e=>Ht _ e,t9 _ lo (hi-lo).toNat,?_,λb hb=>?_,q⟩
 .have F:lo+((0:Nat):Int)*1=lo:=by simp
  have B:(((hi-lo).toNat:Nat):Int)-((0:Nat):Int)=Builtin.Range.rangeSize lo hi 1:=by rw[rangeSize_one];split<;>omega
  show IsRangeIter _ _ (lo+((0:Nat):Int)*1) ((((hi-lo).toNat:Nat):Int)-((0:Nat):Int)) 1;rw[F,B];exact HB _ rfl
 .have e:b=(s.heap.push {cls:=.type "range",data:=.fields #[.int lo t,.int hi u,.int 1 v]}).objs.size:=by simpa using hb
  subst e;exact j.SN (Hx _) (j.ZK.fresh (Hx _))
def Gu(b:TA):TI:=λO H R=>b O H λa c=>∃j:Int,a=[.int j] /\ -(2 ^ 62)<=j/\j<2 ^ 62/\R (Itr 0 j.toNat) c
def Gv(b:TA):TI:=λO H R=>b O H λa c=>∃i j:Int,a=[.int i,.int j]/\(-(2 ^ 62)<=i/\i<2 ^ 62 /\ -(2 ^ 62)<=j/\j<2 ^ 62)/\R (Itr i (j-i).toNat) c
def vI{a:Expr}{c:TA}{p:Pos}(l:Gl X "range")(k:X.mg "range" = none)(m:PA X [a] c)(i:starEach [a] X.env=[(false,eval a X.env)]:=by rfl):PI X tg (.Call (.Name "range" p) [a] [] pos) (Gu c):=by
 intro Y s O H R I h;refine Call_ (cO I l k boot_range (PY (thn (m pos Y s O H _ I h) λS o ⟨vs,H1,n,f,b⟩=>?_) i rfl));let⟨j,e,b,g,q⟩:=b;subst e;cases f with
 |cons r d=>
  cases d;let⟨t,rfl⟩:=r;exact call_range_1 (jH n () () b g (by simpa using q))
def vm{a b:Expr}{f:TA}{p:Pos}(v:Gl X "range")(u:X.mg "range" = none)(w:PA X [a,b] f)(o:starEach [a,b] X.env=[(false,eval a X.env),(false,eval b X.env)]:=by rfl)(g:starEach [b] X.env=[(false,eval b X.env)]:=by rfl):
  PI X tg (.Call (.Name "range" p) [a,b] [] pos) (Gv f):=by
 intro Y s O H R I h;refine Call_ (cO I v u boot_range (PY (thn (w pos Y s O H _ I h) λS z ⟨vs,H1,x,k,d⟩=>?_) (by rw[o,g]) (by rw[g];rfl)))
 let⟨i,j,e,⟨d,n,m,l⟩,q⟩:=d;subst e;cases k with
 |cons r c=>
  cases c with
  |cons r' c=>
   cases c;let⟨t,rfl⟩:=r;let⟨y,rfl⟩:=r';exact call_range_2 (jH x d n m l q)
def G7(e:TI)(g:TG)(tb:TS):TS:=λD O H=>e O H λb j=>∃W:Nat->Nat->St->Hp->Prop,(∃m,W 0 m O j) /\∀i m O H,W i m O H ->
 (b.stop i H/\D.nx O H)\/(b.go i H /\∃N:St->Hp->Prop,(∀d a,N d a ->∃c,c<m/\W (i+1) c d a) /\∀x a,b.yld i H x a->g x O a λf h=>tb {D with nx:=N,ct:=N,bk:=D.nx} f h)
def B2(a:List Addr)(h:Heap):List (Addr×Obj):=a.filterMap λb=>(h.get? b).map λo=>(b,o)
def di{o:Obj}(a:b∈fp)(e:h.get? b=some o):(b,o)∈B2 fp h:=Nb.mpr ⟨b,a,by rw[e];rfl⟩
def vd{p:Addr×Obj}(a:p∈B2 fp h):p.1∈fp/\h.get? p.1=some p.2:=by
 let⟨b,c,e⟩:=Nb.mp a;cases q:h.get? b with
 |none=>rw[q]at e;cases e
 |some o=>
  rw[q]at e;have d:(b,o)=p:=TQ e;subst d;exact⟨c,q⟩
def Z0.pinned{O:St}{a:List Addr}(I:Z0 X Y O H s)(i:∀b∈a,AQ X Y H b)(h:∀b∈a,∃o,s.heap.get? b=some o /\∀v,o.data ≠ .cell v):Z0 X (Y++B2 a s.heap) O H s:=
 I.R5 λp g=>(Vj.mp g).elim (λz=>I.pin p (TV _ z)) λz=>by
  let⟨c,e⟩:=vd z;let⟨j,f1,f2,_⟩:=i p.1 c;let⟨o,f,d⟩:=h p.1 c;rw[e]at f;cases f;exact⟨e,j,f1,f2,d⟩
def Z0.Td{a:List (Addr×Obj)}{O:St}(I:Z0 X (Y++a) O H s):Z0 X Y O H s:=I.R5 λp b=>I.pin p (TV _ (Qf _ b))
def aao{iter:Expr}{wi:TI}{g:TG}{tb:TS}(Z:PassesOwn (model X.prog X.w) X.A X.env X.xe)(hc:X.calm=true)(hi:PI X tg iter wi)(hg:PG X tg g)(hb:PSs X body tb)
  (hs:∀x,foldedSetIterable iter X.env x=pure x:=by intro _;rfl):PS X (.For tg iter body [] pos) (G7 wi g tb):=by
 intro Y s O H D I h;refine wpAny_For (thn (hi Y s O H _ I h) λv s1 h1=>thn h1 λUW s2 h2=>?_) hs;let⟨it,fp,tn,Z8,H2,e,I2,T,Zx,f2,W,⟨m0,w0⟩,turn⟩:=h2;subst e;have j:∀{L:Hp},(∀b∈fp,L b=none) ->∀b∈fp,AQ X Y L b:=λhn b hb=>⟨hn b hb,(f2 b hb).2⟩;refine codeAny_forLoop_any (λn s'=>∃i ZT L,Z0 X Y ZT L s'/\tn i s'.heap/\(∀b∈fp,L b=none)/\W i n ZT L) ?_ m0 ⟨0,O,H2,I2,Zx,λb hb=>(f2 b hb).1,w0⟩;rintro n s3 ⟨i,W2,H3,I3,Zg,fr3,w3⟩;rcases turn i n W2 H3 w3 with⟨stop,qn⟩|⟨go,N,hN,step⟩
 .refine Pp Z (thn (T.done X rfl rfl rfl hc i Y s3 W2 H3 X.xe I3 (j fr3) Zg stop) λr s4 ⟨hr,I4⟩=>?_)
  subst hr;exact NP ⟨W2,H3,I4,qn⟩
 .refine Pp Z (thn (T.item X rfl rfl rfl hc i Y s3 W2 H3 X.xe I3 (j fr3) Zg go) λr s4 ⟨u,hr,h4⟩=>?_)
  subst hr;refine Pp Z (thn h4 ?_);rintro _ s5 ⟨x,H5,I5,r5,y5,V5,fr5⟩;have I5':=I5.pinned (j fr5) (T.obj _ _ V5);refine Pp Z (thn (hg _ s5 W2 H5 x u _ I5' r5 (step x H5 y5)) ?_);rintro _ s6 ⟨Uo,H6,I6,q6⟩;refine Pp Z (thn (hb _ s6 Uo H6 _ I6 q6) λf s7 R=>?_);have z:∀{B:St} {G:Hp},Z0 X (Y++B2 fp s5.heap) B G s7->N B G ->∃m,m<n /\∃i ZT L,Z0 X Y ZT L s7/\tn i s7.heap/\(∀b∈fp,L b=none)/\W i m ZT L:=λ{B G} F S=>by
   let⟨m',hm,w7⟩:=hN B G S;refine⟨m',hm,i+1,B,G,F.Td,T.keep _ _ _ V5 λb hb o e=>(F.pin (b,o) (TV _ (TV _ (di hb e)))).1,λb hb=>?_,w7⟩;let⟨o,e,d⟩:=T.obj _ _ V5 b hb;exact(F.pin (b,o) (TV _ (TV _ (di hb e)))).2.1
  cases f with
  |next=>let⟨B,G,F,S⟩:=R;exact z F S
  |cont=>let⟨B,G,F,S⟩:=R;exact z F S
  |brk=>let⟨B,G,F,R⟩:=R;exact⟨B,G,F.Td,R⟩
  |ret v=>let⟨x7,B,G,F,r7,R⟩:=R;exact⟨x7,B,G,F.Td,r7,R⟩
end
end L2
namespace L2
open PySem PySem.Spec PyProof.Rows
abbrev R2:=V->V->Hp->VK->Prop
def OpR(X:Cx)(f:Value->Value->Sem Value)(r:R2):Prop:=
 ∀(Y:List (Addr×Obj)) (s:Shared) (O:St) (H:Hp) (x y:V) (v u:Value) (Q:VK),Z0 X Y O H s->RelV x v->RelV y u->r x y H Q ->
  wpAny (model X.prog X.w) X.A (f v u) (EP X Y O Q) X.xe s
def UnR(X:Cx)(f:Value->Sem Value)(r:V->Hp->VK->Prop):Prop:=
 ∀(Y:List (Addr×Obj)) (s:Shared) (O:St) (H:Hp) (x:V) (v:Value) (Q:VK),Z0 X Y O H s->RelV x v->r x H Q ->
  wpAny (model X.prog X.w) X.A (f v) (EP X Y O Q) X.xe s
def CallR(X:Cx)(f:Value)(r:List V->Hp->VK->Prop):Prop:=
 ∀(Y:List (Addr×Obj)) (s:Shared) (O:St) (H:Hp) (xs:List V) (S:List Value) (Q:VK),Z0 X Y O H s->ZH xs S->r xs H Q ->
  wpAny (model X.prog X.w) X.A (call f S) (EP X Y O Q) X.xe s
def Hf(X:Cx)(r:V->Hp->(Bool->Hp->Prop)->Prop):Prop:=
 ∀(Y:List (Addr×Obj)) (s:Shared) (O:St) (H:Hp) (x:V) (v:Value) (Q:Bool->Hp->Prop),Z0 X Y O H s->RelV x v->r x H Q ->
  wpAny (model X.prog X.w) X.A (truthy v) (TP X Y O Q) X.xe s
def Ic(r:R2)(a tb:TE):TE:=λO H Q=>a O H λx c=>tb O c λy b=>r x y b Q
def Ie(r:V->Hp->VK->Prop)(a:TE):TE:=λO H Q=>a O H λx b=>r x b Q
def Ig(C:Int->Int->Prop)(g:Int->Int->V):R2:=λx y H Q=>∃i j,x=.int i/\y=.int j/\C i j/\Q (g i j) H
def Ih(g:Int->Int->V):R2:=λx y H Q=>∃i j,x=.int i/\y=.int j/\Q (g i j) H
def Ii(g:Int->V):V->Hp->VK->Prop:=λx H Q=>∃i,x=.int i/\Q (g i) H
section
variable{a b c:Expr}{tb tc:TE}
def hU(ha:PE X a ta)(hb:PE X b tb){O:St}{R:V->V->Hp->Prop}(I:Z0 X Y O H s)
  (h:ta O H λx j=>tb O j λy H2=>R x y H2) {Q:Value->Shared->Prop} {f:Value->Value->Sem Value}
  (L:∀v u s2 x y H2,Z0 X Y O H2 s2->RelV x v->RelV y u->R x y H2->wpAny (model X.prog X.w) X.A (f v u) Q X.xe s2) :
  wpAny (model X.prog X.w) X.A (eval a X.env) (λv S=>wpAny (model X.prog X.w) X.A (eval b X.env) (λu Z=>wpAny (model X.prog X.w) X.A (f v u) Q X.xe Z) X.xe S) X.xe s:=by
 refine thn (ha Y s O H _ I h) ?_;rintro v s1 ⟨x,j,I1,B,G⟩;refine thn (hb Y s1 O j _ I1 G) ?_;rintro u s2 ⟨y,H2,I2,z,F⟩;exact L v u s2 x y H2 I2 B z F
def acP{op:Operator}{r:R2}(f:OpR X (binaryOp op) r)(i:PE X a ta)(g:PE X b tb):PE X (.BinOp a op b pos) (Ic r ta tb):=by
 intro Y s O H Q I h;exact wpAny_BinOp (hU i g I h λv u c x y k j e d q=>f Y c O k x y v u Q j e d q)
def acV{op:UnaryOp}{r:V->Hp->VK->Prop}(e:UnR X (unaryOp op) r)(f:PE X a ta):PE X (.UnaryOp op a pos) (Ie r ta):=by
 intro Y s O H Q I h;exact UnaryOp_ (thn (f Y s O H _ I h) λv b ⟨x,H1,g,c,d⟩=>e Y b O H1 x v Q g c d)
def opI{C:Int->Int->Prop}{g:Int->Int->Int}
  (rule:∀(i j:Int) (t u:Tok) (s:Shared) (Q:Value->Shared->Prop) (E:Value->Shared->Prop),C i j->Q (.int (g i j) s.toks) {s with toks:=s.toks+1}->wpAny (model X.prog X.w) X.A (f (.int i t) (.int j u)) Q E s) :
  OpR X f (Ig C λi j=>.int (g i j)):=by
 intro Y s O H x y v u Q I F B h;let⟨i,j,rfl,rfl,hc,q⟩:=h;let⟨t,rfl⟩:=F;let⟨z,rfl⟩:=B;exact rule i j t z s _ _ hc ⟨.int (g i j),H,I.tok _,⟨_,rfl⟩,q⟩
def sL{g:Int->Int->Int}
  (rule:∀(i j:Int) (t u:Tok) (s:Shared) (Q:Value->Shared->Prop) (E:Value->Shared->Prop),Q (.int (g i j) s.toks) {s with toks:=s.toks+1}->wpAny (model X.prog X.w) X.A (f (.int i t) (.int j u)) Q E s) :
  OpR X f (Ih λi j=>.int (g i j)):=by
 intro Y s O H x y v u Q I F B h;let⟨i,j,rfl,rfl,q⟩:=h;let⟨t,rfl⟩:=F;let⟨z,rfl⟩:=B;exact rule i j t z s _ _ ⟨.int (g i j),H,I.tok _,⟨_,rfl⟩,q⟩
def eU{g:Int->Int->Bool}
  (rule:∀(i j:Int) (t u:Tok) (s:Shared) (Q:Value->Shared->Prop) (E:Value->Shared->Prop),Q (.bool (g i j)) s->wpAny (model X.prog X.w) X.A (f (.int i t) (.int j u)) Q E s) :
  OpR X f (Ih λi j=>.bl (g i j)):=by
 intro Y s O H x y v u Q I F B h;let⟨i,j,rfl,rfl,q⟩:=h;let⟨t,rfl⟩:=F;let⟨z,rfl⟩:=B;exact rule i j t z s _ _ ⟨.bl (g i j),H,I,rfl,q⟩
def Fb(i j:Int):Prop:=0<=j/\j<=1000000/\i.natAbs<2 ^ 64
def CMul(i j:Int):Prop:=(-(2 ^ 64)<i/\i<2 ^ 64)\/(-(2 ^ 64)<j/\j<2 ^ 64)
def CMul.ok{i j:Int}(h:CMul i j):IntMulOk i j:=by
 rcases h with⟨h1,h2⟩|⟨h1,h2⟩
 .exact .of_left (intBits_le_64 h1 h2)
 .exact .of_right (intBits_le_64 h1 h2)
def eA:OpR X (binaryOp .Add) (Ih λi j=>.int (i+j)):=sL λ_ _ _ _ _ _ _ q=>add_int q
def eJ:OpR X (binaryOp .Sub) (Ih λi j=>.int (i-j)):=sL λ_ _ _ _ _ _ _ q=>sub_int q
def xY:OpR X (binaryOp .Mod) (Ig (λ_ j=>j≠0) λi j=>.int (i.fmod j)):=opI λ_ _ _ _ _ _ _ a q=>mod_int' a q
def abE:OpR X (binaryOp .Pow) (Ig Fb λi j=>.int (i ^ j.toNat)):=opI λ_ _ _ _ _ _ _ a q=>pow_int_small a.1 a.2.1 a.2.2 q
def unI{f:Value->Sem Value}{g:Int->Int}
  (rule:∀(i:Int) (t:Tok) (s:Shared) (Q:Value->Shared->Prop) (E:Value->Shared->Prop),Q (.int (g i) s.toks) {s with toks:=s.toks+1}->wpAny (model X.prog X.w) X.A (f (.int i t)) Q E s) :
  UnR X f (Ii λi=>.int (g i)):=by
 intro Y s O H x v Q I j h;let⟨i,rfl,q⟩:=h;let⟨t,rfl⟩:=j;exact rule i t s _ _ ⟨.int (g i),H,I.tok _,⟨_,rfl⟩,q⟩
def abI:UnR X (unaryOp .USub) (Ii λi=>.int (-i)):=unI λ_ _ _ _ _ q=>neg_int q
end
def GY:V->V->Bool
 |.ZJ,.ZJ=>true|.ZJ,.int _=>true|.int _,.ZJ=>true|.ZJ,.bl _=>true|.bl _,.ZJ=>true|.ZJ,.str _=>true|.str _,.ZJ=>true
 |.int _,.int _=>true|.bl _,.bl _=>true|.str _,.str _=>true|.Xk _,.Xk _=>true
 |.int _,.str _=>true|.str _,.int _=>true|.bl _,.str _=>true|.str _,.bl _=>true
 |_,_=>false
def rNe:R2:=λx y H Q=>GY x y=true/\Q (.bl (!decide (x=y))) H
def lr{i j:Int}:decide (V.int i=V.int j)=(i==j):=by
 rw[PM];simp
def pK{i j:Bool}:decide (V.bl i=V.bl j)=(i==j):=by
 rw[PM];simp
def k6{i j:Str}:decide (V.str i=V.str j)=(i==j):=by
 rw[PM];simp
def xP{i j:Array UInt8}:decide (V.Xk i=V.Xk j)=(i.toList==j.toList):=by
 rw[PM];cases i;cases j;simp
section
variable{a b c:Expr}{tb tc:TE}
def au{O:St}{Q:VK}{k a:Bool}(I:Z0 X Y O H s)(q:Q (.bl k) H)(e:k=a):EP X Y O Q (.bool a) s:=by
 subst e;exact⟨.bl k,H,I,rfl,q⟩
def acy:OpR X (compareOp .NotEq) rNe:=by
 intro Y s O H x y v u Q I F z h;let⟨hs,q⟩:=h;cases x with
 |ZJ=>
  cases F;cases y with
  |ZJ=>cases z;exact PySem.EqNone.ne_none_none (au I q (by simp))
  |bl j=>cases z;exact PySem.EqNone.ne_none_bool (au I q (by simp))
  |int j=>let⟨B,rfl⟩:=z;exact PySem.EqNone.ne_none_int (au I q (by simp))
  |str j=>let⟨B,rfl⟩:=z;exact PySem.EqNone.ne_none_str (au I q (by simp))
  |_=>exact absurd (show false=true from hs) Hw
 |bl i=>
  cases F;cases y with
  |ZJ=>cases z;exact PySem.EqNone.ne_bool_none (au I q (by simp))
  |bl j=>cases z;exact ne_bool (au I q (QU not pK))
  |str j=>let⟨B,rfl⟩:=z;exact PySem.EqMixed.ne_bool_str (au I q (by simp))
  |_=>exact absurd (show false=true from hs) Hw
 |int i=>
  let⟨t,rfl⟩:=F;cases y with
  |ZJ=>cases z;exact PySem.EqNone.ne_int_none (au I q (by simp))
  |int j=>let⟨B,rfl⟩:=z;exact ne_int (au I q (QU not lr))
  |str j=>let⟨B,rfl⟩:=z;exact PySem.EqMixed.ne_int_str (au I q (by simp))
  |_=>exact absurd (show false=true from hs) Hw
 |str i=>
  let⟨t,rfl⟩:=F;cases y with
  |ZJ=>cases z;exact PySem.EqNone.ne_str_none (au I q (by simp))
  |bl j=>cases z;exact PySem.EqMixed.ne_str_bool (au I q (by simp))
  |int j=>let⟨B,rfl⟩:=z;exact PySem.EqMixed.ne_str_int (au I q (by simp))
  |str j=>let⟨B,rfl⟩:=z;exact ne_str (au I q (QU not k6))
  |_=>exact absurd (show false=true from hs) Hw
 |Xk i=>
  let⟨t,rfl⟩:=F;cases y with
  |Xk j=>let⟨B,rfl⟩:=z;exact PySem.W.ne_bytes (au I q (QU not xP))
  |_=>exact absurd (show false=true from hs) Hw
 |_=>cases y<;>exact absurd (show false=true from hs) Hw
def ab4:OpR X (compareOp .Lt) (Ih λi j=>.bl (decide (i<j))):=eU λ_ _ _ _ _ _ _ q=>lt_int q
def ac1:OpR X (compareOp .LtE) (Ih λi j=>.bl (decide (i<=j))):=eU λ_ _ _ _ _ _ _ q=>le_int q
def ab8:OpR X (compareOp .Gt) (Ih λi j=>.bl (decide (j<i))):=eU λ_ _ _ _ _ _ _ q=>gt_int q
def acG:OpR X (compareOp .GtE) (Ih λi j=>.bl (decide (j<=i))):=eU λ_ _ _ _ _ _ _ q=>ge_int q
def abt:OpR X (compareOp .Is) (λx y H Q=>y=.ZJ/\Q (.bl (decide (x=.ZJ))) H):=by
 intro Y s O H x y v u Q I a b h;let⟨rfl,q⟩:=h;cases b;refine is_none_gen (au I q ?_);cases x<;>first
  |(cases a;rfl)
  |(let⟨t,rfl⟩:=a;rfl)
def yP:OpR X (compareOp .IsNot) (λx y H Q=>y=.ZJ/\Q (.bl (!decide (x=.ZJ))) H):=by
 intro Y s O H x y v u Q I a b h;let⟨rfl,q⟩:=h;cases b;refine isnot_none_gen (au I q ?_);cases x<;>first
  |(cases a;rfl)
  |(let⟨t,rfl⟩:=a;rfl)
def xT{op:CmpOp}{r:R2}(f:OpR X (compareOp op) r)(j:PE X a ta)(i:PE X b tb)(g:behindInMarks op b=false):PE X (.Compare a [op] [b] pos) (Ic r ta tb):=by
 intro Y s O H Q I h;exact wpAny_Compare1 (hU j i I h λv u c x y l k e d q=>f Y c O l x y v u Q k e d q) g
def EU(t:TE):TT:=λO H Q=>t O H λx a=>∃k,x=.bl k/\Q k a
def zc{op:CmpOp}{r:R2}(o:OpR X (compareOp op) r)(t:PE X a ta)(q:PE X b tb)(p:behindInMarks op b=false):PT X (.Compare a [op] [b] pos) (EU (Ic r ta tb)):=by
 intro Y s O H Q I h;refine wpAny_isTrue_Compare1 (thn (t Y s O H _ I h) λv f ⟨x,H1,B,j,n⟩=>thn (q Y f O H1 _ B n) λu d ⟨y,H2,A,i,m⟩ =>
  thn (o Y d O H2 x y v u _ A j i m) λc C ⟨z,H3,w,g,k,e,l⟩=>?_) p
 subst e;cases g;exact QM ⟨H3,w,l⟩
def Df(r e:R2)(d tb c:TE):TE:=λO H Q=>d O H λx h=>tb O h λy g=>r x y g λz a=>∃k,z=.bl k /\
 (if k=true then c O a λb f=>e y b f Q else Q (.bl false) a)
def wk{op f:CmpOp}{r i:R2}(F:OpR X (compareOp op) r)(M:OpR X (compareOp f) i)(L:PE X a ta)(K:PE X b tb)(J:PE X c tc)
  (G:lastMarks [op,f] [b,c]=false:=by with_unfolding_all rfl):PE X (.Compare a [op,f] [b,c] pos) (Df r i ta tb tc):=by
 intro Y s O H Q I h;refine Compare_chain (thn (L Y s O H _ I h) λv t ⟨x,H1,R,B,E⟩=>chain_link (thn (K Y t O H1 _ R E) λu q ⟨y,H2,P,g,D⟩ =>
  thn (F Y q O H2 x y v u _ P B g D) λd p ⟨z,H3,l,A,k,e,j⟩=>?_)) G
 subst e;cases A;refine QM ?_;cases k with
 |false=>exact ite_ff ⟨.bl false,H3,l,rfl,j⟩
 |true=>exact ite_tt (chain_last (thn (J Y p O H3 _ l j) λn o ⟨m,S,N,w,C⟩=>M Y o O S y m u n Q N g w C))
def v3{op f:CmpOp}{r i:R2}(K:OpR X (compareOp op) r)(T:OpR X (compareOp f) i)(P:PE X a ta)(N:PE X b tb)(M:PE X c tc)
  (L:lastMarks [op,f] [b,c]=false:=by with_unfolding_all rfl):PT X (.Compare a [op,f] [b,c] pos) (EU (Df r i ta tb tc)):=by
 intro Y s O H Q I h;refine isTrue_chain (thn (P Y s O H _ I h) λv t ⟨x,H1,Z,C,G⟩=>test_link (thn (N Y t O H1 _ Z G) λu q ⟨y,H2,W,g,F⟩ =>
  thn (K Y q O H2 x y v u _ W C g F) λd p ⟨z,H3,l,B,k,e,j⟩=>?_)) L
 subst e;cases B;refine QM ?_;cases k with
 |false=>
  let⟨k',S,J⟩:=j;cases S;exact ite_ff ⟨H3,l,J⟩
 |true=>
  refine ite_tt (test_last (thn (M Y p O H3 _ l j) λn o ⟨m,H4,V,A,E⟩=>thn (T Y o O H4 y m u n _ V g A E) ?_));rintro d' s5 ⟨z2,H5,U,w,k2,R,D⟩;subst R;cases w;exact QM ⟨H5,U,D⟩
def CS(K:HF)(x:V)(H:Hp)(k:Bool):Prop:=
 match x with
 |.ZJ=>k=false
 |.bl b=>k=b
 |.int i=>k=(i != 0)
 |.str y=>y.length<=sizeLine/\k=((y.length:Int) != 0)
 |.Xk y=>y.size<=sizeLine/\k=((y.size:Int) != 0)
 |.ref p=>(∃a,SqL K H p a/\k = !a.isEmpty)\/(∃a,SqT K H p a/\k = !a.isEmpty) \/∃c,H p=some (.dK c)/\k = !c.isEmpty
 |_=>False
def uv{a:Type}{b:List (a×V)}{vs:List (a×Value)}(r:KV b vs):(!vs.isEmpty) = !b.isEmpty:=by
 cases r<;>rfl
def iG{xs:List V}(r:ZH xs ZU):(!ZU.toArray.isEmpty) = !xs.isEmpty:=by
 cases r<;>simp
def cK:(sizeLine:Nat)<2 ^ 63:=by rw[Qh];decide
def oB:Hf X (λx H Q=>∃k,CS X.K x H k/\Q k H):=by
 intro Y s O H x v Q I d h;let⟨k,e,q⟩:=h;have hl:=cK;have z:sizeLine=16777216:=Qh;cases x with
 |ZJ=>
  cases d;have a:k=false:=e;subst a;exact truthy_none ⟨H,I,q⟩
 |bl b=>
  cases d;have a:k=b:=e;subst a;exact QM ⟨H,I,q⟩
 |int i=>
  let⟨t,rfl⟩:=d;have a:k=(i != 0):=e;subst a;exact PySem.P.truthy_int ⟨H,I,q⟩
 |str y=>
  let⟨t,rfl⟩:=d;obtain⟨n,a⟩:y.length<=sizeLine/\k=((y.length:Int) != 0):=e;subst a;exact PySem.P.truthy_str () ⟨H,I.tok _,q⟩
 |Xk y=>
  let⟨t,rfl⟩:=d;obtain⟨n,a⟩:y.size<=sizeLine/\k=((y.size:Int) != 0):=e;subst a;exact PySem.W.truthy_bytes () ⟨H,I.tok _,q⟩
 |ref p=>
  cases d;have a:(∃c,SqL X.K H p c/\k = !c.isEmpty)\/(∃c,SqT X.K H p c/\k = !c.isEmpty) \/∃f,H p=some (.dK f)/\k = !f.isEmpty:=e;rcases a with⟨c,hx,a⟩|⟨c,hx,a⟩|⟨f,hx,a⟩
  .subst a
   let⟨u,r,j,l⟩:=I.list hx;have hlen:=r.length;exact wpAny_truthy_list j.isList (by simp![WQ];omega) ⟨H,I.tok _,by rw[iG r];exact q⟩
  .subst a
   let⟨u,r,j,l⟩:=I.tuple hx;have hlen:=r.length;exact truthy_tuple j (by simp![WQ];omega) ⟨H,I.tok _,by rw[iG r];exact q⟩
  .subst a
   obtain⟨l,o,g,r,m⟩:f.length<=sizeLine/\(p==sysModules)=false /\∃g,KV f g/\s.heap.DictOf (AA X.prog X.w) p g:=I.ZK p _ hx;have hlen:f.length=g.length:=Oo r;exact wpAny_truthy_dict o m () ⟨H,I.tok _,by rw[uv r];exact q⟩
 |_=>exact(show False from e).elim
def wY(ha:PE X a ta)(he:∀whole,isTrue a X.env whole=(do let v<-whole;standAt a.pos;holding [v] (truthy v))):
  PT X a (λO H Q=>ta O H λx H'=>∃k,CS X.K x H' k/\Q k H'):=by
 intro Y s O H Q I h;exact isTrue_plain (thn (ha Y s O H _ I h) λv s1 ⟨x,H1,I1,r1,q1⟩=>oB Y s1 O H1 x v Q I1 r1 q1) (he _)
def vals1{x:V}{S:List Value}(r:ZH [x] S):∃u,S=[u]/\RelV x u:=by
 cases r with
 |cons b a=>cases a;exact⟨_,rfl,b⟩
def call_abs:CallR X (.builtin "abs") (λxs H Q=>∃i,xs=[.int i]/\Q (.int (if i<0 then -i else i)) H):=by
 intro Y s O H xs S Q I r h;let⟨i,rfl,q⟩:=h;let⟨u,rfl,t,rfl⟩:=vals1 r;exact call_abs_int λu a=>⟨.int (if i<0 then -i else i),H,I.tok _,⟨_,rfl⟩,q⟩
end
end L2
namespace L2
open PySem PySem.Spec PyProof.Rows
structure ObjM(h:Heap)(x dx C:Addr)(mA:Str->Option Value):Prop where
 obj:h.get? x=some (PySem.W.instObj C dx)
 ns:h.Ns1 dx mA
 ne:dx≠x
def vk{f:Addr}{c:Str->Option Value}(n:h.Ns1 f c):∃b,h.get? f=some b /\∀name,PySem.W.lookIn name b=some (c name):=by
 let⟨o,d,l,ho,j,hk,_,i⟩:=n;refine⟨o,ho,λname=>?_⟩;have e:=i name;unfold nsFind findBy at e;rw[<-Array.find?_toList]at e;unfold PySem.W.lookIn;rw[j];dsimp only;split
 .rename_i y q
  rw[q]at e;exact QU some e
 .rename_i q
  rw[q]at e;have a:d.toList.any (·.refKey)=false:=by
   rw[List.any_eq_false];intro y g;let⟨z,t,k⟩:=hk y (Pc.mp g);simp[DictEntry.refKey,k]
  have a' : ¬ d.toList.any (·.refKey)=true:=by rw[a];exact Hw
  rw[YH a'];exact QU some e
def RelO.some_of{o:Option Value}(r:RelO (some v) o):∃u,o=some u/\RelV v u:=by
 cases o with
 |none=>exact(show False from r).elim
 |some u=>exact⟨u,rfl,r⟩
def vA{u:Value}(r:RelV v u):PySem.W.handedIn u=true:=by
 cases v with
 |ZJ=>cases(show u=Value.none from r);rfl
 |bl b=>cases(show u=Value.bool b from r);rfl
 |int i=>let⟨t,e⟩:=(show∃t,u=Value.int i t from r);cases e;rfl
 |str x=>let⟨t,e⟩:=(show∃t,u=Value.str x t from r);cases e;rfl
 |Xk b=>let⟨t,e⟩:=(show∃t,u=Value.bytes b t from r);cases e;rfl
 |U2 b=>let⟨t,e⟩:=(show∃t,u=Value.float b t from r);cases e;rfl
 |ref a=>cases(show u=Value.ref a from r);rfl
 |ty n=>cases(show u=Value.type n from r);rfl
structure Cls(K:HF)(C:Addr):Prop where
 pg:PySem.W.plainGet K C Str.empty=true
 hd:PySem.W.hasDictIn K C=true
 po:PySem.W.plainOver K C=true
 sa:PySem.W.findIn K (.ref C) "__setattr__" = some (some (.builtin "object.__setattr__"))
structure Con(K:HF)(C:Addr)(f:Str)(v:V)(u:Value):Prop where
 at_:PySem.W.findIn K (.ref C) f=some (some u)
 rel:RelV v u
 get:PySem.W.specialIn K u "__get__" = some none
 cp:PySem.W.copiedNames.contains f=false
structure Meth(K:HF)(C:Addr)(m:Str)(f:Addr):Prop where
 at_:PySem.W.findIn K (.ref C) m=some (some (.ref f))
 fn:PySem.W.isFn K (.ref f)=true
 kp:PySem.W.keepIn K (.ref f)=true
section
variable{O:St}{C dx:Addr}{fs:List (Str×V)}{f:Str}{E:Value->Shared->Prop}
def zu{f:Str}{Q:Value->Shared->Prop}(hb:attributeBase e f env (eval e env)=eval e env)
  (h:wpAny (model prog w) A (eval e env) (λo j=>wpAny (model prog w) A (getAttr o f true) Q E j) E s):wpAny (model prog w) A (eval (.Attribute e f pos) env) Q E s:=
 Attribute_any_ h (by rw[arm_eval_Attribute,hb])
end
section
variable{O:St}{E:Value->Shared->Prop}{Q:Value->Shared->Prop}{c:Value}{b:Bool}
inductive WZ(K:HF)(H:Hp):V->Value->Prop where
 |ZJ:WZ K H .ZJ (.type "NoneType")
 |bl (x:Bool):WZ K H (.bl x) (.type "bool")
 |int (i:Int):WZ K H (.int i) (.type "int")
 |str (x:Str):WZ K H (.str x) (.type "str")
 |U2 (x:UInt64):WZ K H (.U2 x) (.type "float")
 |Z5 {a:Addr} {xs:List V} (e:H a=some (.Z5 xs)):WZ K H (.ref a) (.type "list")
 |Zn {a:Addr} {o:Obj} {xs:List V} (e:H a=some (.Zn o (.Z5 xs))):WZ K H (.ref a) (.type "list")
 |ZY {a:Addr} {xs:List V} (e:H a=some (.ZY xs)):WZ K H (.ref a) (.type "tuple")
 |dK {a:Addr} {Z4:List (Key×V)} (e:H a=some (.dK Z4)):WZ K H (.ref a) (.type "dict")
 |dT {a:Addr} {Z4:List (List Key×V)} (e:H a=some (.dT Z4)):WZ K H (.ref a) (.type "dict")
 |ins {a C dx:Addr} {fs:List (Str×V)} (e:H a=some (.ins C dx fs)) (cl:Cls K C) (ha:PySem.W.findIn K (.ref C) "__class__" = some (some (.builtin "object.__class__")))
   (hn:PySem.W.specialIn K (.builtin "object.__class__") "__get__" = some (some (.builtin "getset_descriptor.__get__"))) (htk:PySem.W.takesIn K (.builtin "object.__class__")=some true)
   (hm:PySem.W.mroIn K C (.type "object")=some true):WZ K H (.ref a) (.ref C)
end
end L2
namespace L2
open PySem PySem.Spec PyProof.Rows
structure Y9(k:Nat)(A:Around):Prop where
 hd:A.handled=none
 dp:A.depth+3*k+5<recursionLimit
 un:A.units+16*k+200<cLine
 gd:A.guards=some []
def Y9.deeper{k:Nat}{A:Around}(r:Y9 (k+1) A)(env:Env):Y9 k (A.deeper env):=
 ⟨r.hd,by have:=r.dp;show A.depth+1+3*k+5<_;omega,by have:=r.un;show A.units+3+16*k+200<_;omega,r.gd⟩
def uQ{C:Addr}{S:List Value}{a:List (Str×Value)}:(A.under (.builtin "type.__call__" ⟨.ref C::S,a⟩)).depth=A.depth+1:=by
 first|rfl|simp[Around.under,Code.weight,Code.isCreation,Code.isGuard,Code.isCaller,Code.frames,Code.isFrame,guardIds]
def ur{C:Addr}{S:List Value}{a:List (Str×Value)}:(A.under (.builtin "type.__call__" ⟨.ref C::S,a⟩)).units=A.units+1:=by
 first|rfl|simp[Around.under,Code.cUnits,Code.frames,Code.isFrame]
def Y9.make{k:Nat}(r:Y9 (k+1) A)(C:Addr)(S:List Value)(a:List (Str×Value)):Y9 k (A.under (.builtin "type.__call__" ⟨.ref C::S,a⟩)):=
 ⟨r.hd,by have:=r.dp;rw[uQ];omega,by have:=r.un;rw[ur];omega,(show A.guards=_ from r.gd)⟩
def Y9.depth{k:Nat}{A:Around}(r:Y9 k A):A.depth<recursionLimit:=by have:=r.dp;omega
def Y9.units{k:Nat}{A:Around}(r:Y9 k A):A.units+64<cLine:=by have:=r.un;omega
def F9:TA:=λ_ H Q=>Q [] H
def GK(c:TE)(b:TA):TA:=λO H Q=>c O H λx e=>b O e λa d=>Q (x::a) d
section
variable{t:TA}
def aN:PA X [] F9:=λ_ _ _ _ H Q I h=>Calls.spliced_nil ⟨[],H,I,.nil,h⟩
def aw(ha:PE X e te)(G:PA X es t)(hs:starEach (e::es) X.env=(false,eval e X.env)::starEach es X.env:=by rfl):PA X (e::es) (GK te t):=by
 intro pos Y s O H Q I h;rw[hs];show wpAny _ _ (spliced ((false,eval e X.env)::backTo pos (starEach es X.env))) _ _ s;refine Calls.spliced_cons (thn (ha Y s O H _ I h) ?_);rintro u s1 ⟨x,H1,R,z,F⟩;exact thn (G pos Y s1 O H1 _ R F) λS s2 ⟨xs,H2,L,j,B⟩=>⟨x::xs,H2,L,.cons z j,B⟩
def G1(t:TA):TE:=λO H Q=>t O H λa b=>a.length<=sizeLine /\∀p,b p=none->Q (.ref p) (upd b p (.ZY a))
def GX(t:TA):TE:=λO H Q=>t O H λa b=>a.length<=sizeLine /\∀p,b p=none->Q (.ref p) (upd b p (.Z5 a))
def gR{x1}(h:PA X es t):PE X (.Tuple es x1 pos) (G1 t):=by
 intro Y s O H Q I d;refine wpAny_Tuple_spliced (thn (h pos Y s O H _ I d) λS a ⟨xs,H1,c,r,z,q⟩=>⟨by rw[<-r.length];exact z,?_⟩)
 have f:H1 a.heap.objs.size=none:=c.ZK.fresh (Hx _);refine⟨.ref a.heap.objs.size,upd H1 a.heap.objs.size (.ZY xs),c.laid (t':=a.toks) (λb u e=>Ht _ e) (Hx _) ?_,rfl,q _ f⟩;exact⟨z,S,r,⟨_,HB _ rfl,rfl,_,rfl⟩⟩
def aam(h:PA X es t):PE X (.List es pos) (GX t):=by
 intro Y s O H Q I d;refine wpAny_List_spliced (thn (h pos Y s O H _ I d) λS a ⟨xs,H1,c,r,z,q⟩=>⟨by rw[<-r.length];exact z,?_⟩)
 have f:H1 a.heap.objs.size=none:=c.ZK.fresh (Hx _);refine⟨.ref a.heap.objs.size,upd H1 a.heap.objs.size (.Z5 xs),c.laid (t':=a.toks) (λb u e=>Ht _ e) (Hx _) ?_,rfl,q _ f⟩;exact⟨z,S,0,r,HB _ rfl⟩
end
abbrev Sp:=List V->Hp->VK->XK->Prop
abbrev Xs:=List Env->Hp->Shared->XK->Value->Shared->Prop
structure VH(P:Program)(w:World)(K:HF)(mg:Str->Option Value)(base:Heap)(A:Around)(outer:List Env)(s:Shared)(H:Hp):Prop where
 frames:A.frames=some outer
 mod:Mod K mg base
 bs:∀b o,base.get? b=some o->s.heap.get? b=some o/\H b=none
 W7:base.objs.size<=s.heap.objs.size
 XJ:s.heap.FunFrames base outer
 Wt:∀b∈frs outer,H b=none
 ZK:HOk P w H s.heap
 bare:AllBare s.gens
def CE(outer:List Env)(P:Program)(w:World)(H:Hp)(s:Shared)(Q:VK)(u:Value)(a:Shared):Prop:=
 ∃v b,a.os=s.os/\AllBare a.gens/\Un (frs outer) [] H b s.heap a.heap/\HOk P w b a.heap/\RelV v u/\Q v b
def CR(CX:Xs)(outer:List Env)(P:Program)(w:World)(H:Hp)(s:Shared)(Q:VK)(E:XK)(r:Result)(a:Shared):Prop:=
 match r with
 |.ok (.ret u)=>CE outer P w H s Q u a
 |.ok _=>False
 |.error e=>CX outer H s E e a
structure X2(P:Program)(w:World)(K:HF)(mg:Str->Option Value)(base:Heap)(CX:Xs)(k:Nat)(f:Addr)(fd:FuncData)(ps:List Str)(sp:Sp):Prop where
 len:∀vs H Q E,sp vs H Q E->vs.length=ps.length
 run:∀(A:Around) (outer:List Env) (s:Shared) (H:Hp) (args:Args) (S:List Value) (vs:List V) (Q:VK) (E:XK),Y9 k A->VH P w K mg base A outer s H->BindsTo s fd args (ps.zip S)->ZH vs S->sp vs H Q E ->
  codeAny (model P w) A (.call (.ref f) args) (CR CX outer P w H s Q E) s
def VH.make(e:VH P w K mg base A outer s H)(C:Addr)(S:List Value)(a:List (Str×Value)):
  VH P w K mg base (A.under (.builtin "type.__call__" ⟨.ref C::S,a⟩)) outer s H:=⟨by first|exact e.frames|(simpa[Around.under,Code.envs,Code.isFrame,pushEnvs]using e.frames),e.mod,e.bs,e.W7,e.XJ,e.Wt,e.ZK,e.bare⟩
section
variable{O:St}
def Z0.R3(I:Z0 X Y O H s):VH X.prog X.w X.K X.mg X.base X.A X.stack s H:=
 ⟨I.ok.frames,I.ok.mod,I.bs,Hv I.ok.W7 I.sz,I.stack,I.Te,I.ZK,I.bare⟩
def Z0.after{Q:VK}{u:Value}(I:Z0 X Y O H s)(h:CE X.stack X.prog X.w H s Q u s'):EP X Y O Q u s':=by
 let⟨v,L,os,j,un,G,r,q⟩:=h;let⟨F,g,d,t,B⟩:=s';obtain rfl:B=s.os:=os;exact⟨v,L,I.call (h':=F) (g':=g) (d':=d) (t':=t) (ch:=[]) un G j (λb z=>absurd z (by simp)),r,q⟩
end
def ER(sp:Sp)(b:List V)(E:XK)(t:TA):TE:=λO H Q=>t O H λa c=>sp (a++b) c Q E
def Binds(K:HF)(fd:FuncData)(a:List Str)(b:List Value):Prop:=
 ∀(s:Shared) (S:List Value),K.In s.heap->(S++b).length=a.length->BindsTo s fd ⟨S,[]⟩ (a.zip (S++b))
def Binds.all(h:∀S:List Value,S.length=ps.length->bindArgs fd ⟨S,[]⟩=pure (ps.zip S)):Binds K fd ps []:=λs S _ a=>by
 rw[Qe]at a ⊢;exact .of_eq (h S a)
def A2(CX:Xs)(X:Cx)(E:XK):Prop:=∀(Y:List (Addr×Obj)) (O:St) (H:Hp) (s:Shared) (e:Value) (a:Shared),Z0 X Y O H s->CX X.stack H s E e a->X.xe e a
section
variable{CX:Xs}{k:Nat}{f C:Addr}{sp:Sp}{WK:List V}{ds:List Value}{E:XK}{m:Str}{p:Pos}{o:Expr}{t:TA}
def nU{O:St}{Q:VK}{S:List Value}{vs:List V}(F:X2 X.prog X.w X.K X.mg X.base CX k f fd ps sp)(G:Y9 k X.A)(hb:Binds X.K fd ps ds)(hd:ZH WK ds)(hx:A2 CX X E)
  (I:Z0 X Y O H s) (r:ZH vs S) (h:sp (vs++WK) H Q E):wpAny (model X.prog X.w) X.A (call (.ref f) S) (EP X Y O Q) X.xe s:=by
 have z:ZH (vs++WK) (S++ds):=r.append hd;have L:(S++ds).length=ps.length:=by rw[<-z.length];exact F.len _ _ _ _ h
 refine Nc (PF (F.run X.A X.stack s H ⟨S,[]⟩ (S++ds) (vs++WK) Q E G I.R3 (hb s S I.Yy L) z h) λr B j=>?_);cases r with
 |error e=>exact hx Y O H s e B I j
 |ok fl=>
  cases fl with
  |ret u=>exact I.after j
  |next=>exact False.elim j
  |brk=>exact False.elim j
  |cont=>exact False.elim j
def zo(F:X2 X.prog X.w X.K X.mg X.base CX k f fd ps sp)(u:Y9 k X.A)(G:Gl X x)(z:X.mg x=some (.ref f))(B:PySem.W.keepIn X.K (.ref f)=true)(hb:Binds X.K fd ps ds)(hd:ZH WK ds)(hx:A2 CX X E)
  (ha:PA X (e::es) t) (Z:(x==("__debug__" : Str))=false:=by decide) (L:starEach (e::es) X.env=(false,eval e X.env)::starEach es X.env:=by rfl) (R:(backTo pos (starEach es X.env)).any (·.1)=false:=by rfl) :
  PE X (.Call (.Name x p) (e::es) [] pos) (ER sp WK E t):=by
 intro Y s O H Q I h;refine Ov (bN I G z ?_ Z);refine PySem.W.callWith_K (h₀:=X.base) I.ok.mod.kin B (thn (ha pos Y s O H _ I h) λS s1 ⟨vs,H1,j,r,q⟩=>⟨j.Yy,?_⟩) L R;exact nU F u hb hd hx j r q
def wC(F:X2 X.prog X.w X.K X.mg X.base CX k f fd ps sp)(b:Y9 k X.A)(e:Gl X x)(c:X.mg x=some (.ref f))(d:PySem.W.keepIn X.K (.ref f)=true)(i:Binds X.K fd ps ds)(g:ZH WK ds)(a:A2 CX X E)
  (j:(x==("__debug__" : Str))=false:=by decide):PE X (.Call (.Name x p) [] [] pos) (ER sp WK E F9):=by
 intro Y s O H Q I h;refine Ov (bN I e c ?_ j);exact PySem.W.callWith_K0 I.Yy d (nU (S:=[]) F b i g a I .nil h)
structure Mk(K:HF)(C f:Addr):Prop where
 makes:PySem.W.makesIn K C=true
 init:PySem.W.findIn K (.ref C) "__init__" = some (some (.ref f))
 fn:PySem.W.isFn K (.ref f)=true
 kp:PySem.W.keepIn K (.ref C)=true
end
section
variable{CX:Xs}{k:Nat}{f C:Addr}{ks:List Str}{sp:Sp}{E:XK}{m:Str}{p kpos:Pos}{o:Expr}{t tk:TA}{nm:Option Str}
structure KBinds(K:HF)(fd:FuncData)(ps ks:List Str)(g:List Value->List Value->List Value)(gV:List V->List V->List V):Prop where
 to:∀(s:Shared) (S ws:List Value),K.In s.heap->(g S ws).length=ps.length->BindsTo s fd ⟨S,ks.zip ws⟩ (ps.zip (g S ws))
 rel:∀{vs:List V} {S:List Value} {zs:List V} {ws:List Value},ZH vs S->ZH zs ws->ZH (gV vs zs) (g S ws)
variable{g:List Value->List Value->List Value}
end
structure Ul(N P:List Str)(sc:Scope):Prop where
 kind:sc.kind=.function
 co:sc.isCoroutine=false
 gen:sc.isGenerator=false
 nd:N.Nodup
 pre:N.take P.length=P
 par:∀x∈P,sc.names.lookup x=some .local\/sc.names.lookup x=some .cell
 Ro:∀y∈sc.names,y.2 ≠ .free
def i6{b:Str->Option NameKind}{x:Str}:∀{a:List (Str×Value)} {m:Str->Option Value},(∀v,(x,v) ∉ a)->bindL b a m x=m x
 |[],_,_=>rfl
 |(n,v)::r,m,h=>by
  unfold bindL;rw[i6 λw c=>h w (Hy _ c)];split
  .have:x≠n:=by rintro rfl;exact h v HD
   simp[this]
  .rfl
def i4{b:Str->Option NameKind}{x:Str}:∀{a:List (Str×Value)} {m:Str->Option Value},(∀v,(x,v) ∉ a)->bindC b a m x=m x
 |[],_,_=>rfl
 |(n,v)::r,m,h=>by
  unfold bindC;rw[i4 λw c=>h w (Hy _ c)];split
  .rfl
  .have:x≠n:=by rintro rfl;exact h v HD
   simp[this]
def ja{j:Str->Option NameKind}{x:Str}{v:Value}:∀{P:List Str} {vs:List Value} {i:Nat} {m:Str->Option Value},P.Nodup->P[i]?=some x->vs[i]?=some v->j x=some .local ->
  bindL j (P.zip vs) m x=some v
 |[],_,_,_,_,h,_,_=>by simp at h
 |_::_,[],_,_,_,_,h,_=>by simp at h
 |p::P,w::vs,0,m,nd,h1,h2,hk=>by
  simp at h1 h2;subst h1;subst h2;show bindL j ((p,w)::P.zip vs) m p=_;unfold bindL;rw[i6 λv u=>(List.nodup_cons.mp nd).1 (NQ u).1,Y2 hk];simp
 |p::P,w::vs,i+1,m,nd,h1,h2,hk=>by
  show bindL j ((p,w)::P.zip vs) m x=_;unfold bindL;exact ja (i:=i) (List.nodup_cons.mp nd).2 (by simpa using h1) (by simpa using h2) hk
def iT{j:Str->Option NameKind}{x:Str}{v:Value}:∀{P:List Str} {vs:List Value} {i:Nat} {m:Str->Option Value},P.Nodup->P[i]?=some x->vs[i]?=some v->j x≠some .local ->
  bindC j (P.zip vs) m x=some v
 |[],_,_,_,_,h,_,_=>by simp at h
 |_::_,[],_,_,_,_,h,_=>by simp at h
 |p::P,w::vs,0,m,nd,h1,h2,hk=>by
  simp at h1 h2;subst h1;subst h2;show bindC j ((p,w)::P.zip vs) m p=_;unfold bindC;rw[i4 λv u=>(List.nodup_cons.mp nd).1 (NQ u).1,YH hk];simp
 |p::P,w::vs,i+1,m,nd,h1,h2,hk=>by
  show bindC j ((p,w)::P.zip vs) m x=_;unfold bindC;exact iT (i:=i) (List.nodup_cons.mp nd).2 (by simpa using h1) (by simpa using h2) hk
def start(N:List Str)(vs:List V):St:=vs.map some++List.replicate (N.length-vs.length) none
def Bd(CX:Xs)(P:Program)(w:World)(K:HF)(mg:Str->Option Value)(base:Heap)(N:List Str)(qual:Str)(scope:Scope)(f:Addr)(cd:Value)(A:Around)(outer:List Env)(s:Shared)(H:Hp)(E:XK):Cx where
 prog:=P
 w:=w
 K:=K
 mg:=mg
 base:=base
 A:=A.deeper (envOfC qual scope s.heap.objs.size f cd)
 N:=N
 ZG:=s
 WM:=H
 env:=envOfC qual scope s.heap.objs.size f cd
 outer:=outer
 stack:=envOfC qual scope s.heap.objs.size f cd::outer
 ex:=[]
 calm:=true
 fn:=λ_=>true
 pn:=[]
 xe:=λe u=>wpAny (model P w) (A.deeper (envOfC qual scope s.heap.objs.size f cd)) (leaving (envOfC qual scope s.heap.objs.size f cd) e) (λ_ j=>CX outer H s E e j) (λe' j=>CX outer H s E e' j) u
def j9(h:sc.names.lookup x=some .cell):∃c,(cellsFrom n sc.names []).lookup x=some c:=by
 have q:=PH sc.names n [] (.inl h);exact Qs.mp q
def vR{CX:Xs}{qual:Str}{f:Addr}{cd:Value}{s1:Shared}{E:XK}{S:List Value}{vs:List V}
  (Z6:Ul N ps scope) (hd:A.handled=none) (B:VH P w K mg base A outer s H) (hl:vs.length=ps.length) (r:ZH vs S)
  (x:InCallC s s.heap.objs.size (bindL (envOfC qual scope s.heap.objs.size f cd).kindOf (ps.zip S) λ_=>none) (cellsFrom (s.heap.objs.size+1) scope.names []) (bindC (envOfC qual scope s.heap.objs.size f cd).kindOf (ps.zip S) λ_=>none) s1) :
  Z0 (Bd CX P w K mg base N qual scope f cd A outer s H E) [] (start N vs) H s1:=by
 have Zc:ps.length<=N.length:=by have:=QU List.length Z6.pre;rw[U1]at this;omega
 let⟨L,tk,rfl,hk⟩:=x.done;have R:∀b:Addr,b ∉ (Bd CX P w K mg base N qual scope f cd A outer s H E).ex:=λb z=>absurd (show b∈([]:List Addr)from z) (by simp)
 refine ⟨⟨B.mod,Z6.kind,rfl,rfl,Hx _,λy z c L j => ?_,λy hy => ?_,λy c _ h => ?_,λ_=>hd,Around.frames_deeper B.frames,.inr ⟨rfl,rfl⟩,λb z=>absurd z (R b),B.bs,B.W7,λb _ _=>R b,λb z=>absurd z (R b),B.XJ,B.Wt⟩,
  rfl,B.bare,Un.kept hk,⟨_,x.toInCall.ns,λi y v L j h3=>?_⟩,λy c h=>⟨_,x.cell y c h⟩,B.ZK.fresh (Hx _),λy c h=>?_,λp G=>absurd (show p∈([]:List (Addr×Obj))from G) (by simp),B.ZK.kept hk,?_⟩
 .exact name_of_addr x.apart (SF L) (SF j)
 .have hy:scope.names.lookup y=some .cell\/scope.names.lookup y=some .free:=hy
  rcases hy with hy|hy
  .exact j9 hy
  .exact absurd rfl (Z6.Ro _ (SF hy))
 .exact Pk (x.above y c (SF h))
 .have hi:i<vs.length:=by
   unfold start at j;by_cases hi:i<vs.length
   .exact hi
   .rw [VX (by simpa using hi)]at j
    rw[Pe]at j;split at j<;>cases j
  have ha:vs[i]?=some v:=by
   unfold start at j;rw[WR (by simpa using hi),VV]at j
   cases e:vs[i]? with
   |none=>rw[e]at j;cases j
   |some a=>rw[e]at j;cases j;rfl
  let⟨u,Z,rv⟩:=r.get ha;have G:ps[i]?=some y:=by
   rw[<-Z6.pre,Oq ()];exact L
  have F:ps.Nodup:=by rw[<-Z6.pre];exact Z6.nd.sublist (PZ _ _)
  refine⟨u,rv,?_⟩;rcases Z6.par y (TY G)with k|k
  .exact .inl ⟨k,ja F G Z k⟩
  .obtain ⟨c,e⟩:=j9 (n:=s.heap.objs.size+1) k
   refine .inr ⟨.inl k,c,e,?_⟩;have q:=x.cell y c e;rw[iT F G Z (by show scope.names.lookup y≠_;rw[k];decide)]at q
   exact q
 .exact B.ZK.fresh (Pk (x.above y c (SF h)))
 .unfold start
  show _=N.length;rw[Ww,Z1,QV];omega
def gX{CX:Xs}{k:Nat}{f:Addr}{name qual:Str}{j:Arguments}{body:List Stmt}{scope:Scope}{dV H8 R pm Zj ct JH:Value}{an od:Option Addr}
  {YM:Array (Option Value)} {N ps:List Str} {sp:Sp} (lk:K.lookup f=some ⟨JH,od,.func (PySem.W.fnOf name qual j body scope dV H8 R pm an Zj ct),YM⟩) (Y_:PySem.W.codeIn K Zj qual=true) (Z6:Ul N ps scope)
  (len:∀vs H Q E,sp vs H Q E->vs.length=ps.length)
  (Rn:∀ (A:Around) (outer:List Env) (s:Shared) (H:Hp) (vs:List V) (Q:VK) (E:XK),Y9 k (A.deeper (envOfC qual scope s.heap.objs.size f Zj))->sp vs H Q E ->
   ∃t,PSs (Bd CX P w K mg base N qual scope f Zj A outer s H E) body t/\t {nx:=λ_ B=>Q .ZJ B,rt:=Q} (start N vs) H) :
  X2 P w K mg base CX (k+1) f (PySem.W.fnOf name qual j body scope dV H8 R pm an Zj ct) ps sp:=by
 refine⟨len,λA outer s H args S vs Q E hr L hb r F=>?_⟩;have hl:=len _ _ _ _ F;have KX:K.In s.heap:=L.mod.kin.keeps λb o e=>(L.bs b o e).1;have lim:s.heap.NoLimit:=L.mod.nolimit.keeps λb o e=>(L.bs b o e).1;have SM:∀y∈ps.zip S,scope.names.lookup y.1=some .local\/(scope.names.lookup y.1=some .cell/\((cellsFrom (s.heap.objs.size+1) scope.names []).lookup y.1).isSome=true):=λ⟨n,v⟩ hy=>by
  rcases Z6.par n (NQ hy).1 with q|q
  .exact .inl q
  .exact .inr ⟨q,PH _ _ _ (.inl q)⟩
 refine codeAny_call_function hr.depth (KX _ _ lk) rfl Z6.co Z6.gen rfl (PySem.W.codeRec_of KX Y_) (hb _ _ _ _ ?_);refine wpAny_newFunctionEnv_cells Z6.kind SM λenv he s1 x=>?_;subst he;refine⟨lim.keeps x.toInCall.keep,codeAny_func ?_⟩;let⟨t,ht,hq⟩:=Rn A outer s H vs Q E (hr.deeper _) F;have I:Z0 (Bd CX P w K mg base N qual scope f Zj A outer s H E) [] (start N vs) H s1:=vR Z6 hr.hd L hl r x;refine Qg (ht [] s1 (start N vs) H _ I hq) (λfl s' hs=>?_) λe s' hs=>hs;have G:∀{Z:St} {B:Hp} {v:V} {u:Value},Z0 (Bd CX P w K mg base N qual scope f Zj A outer s H E) [] Z B s'->RelV v u->Q v B->CE outer P w H s Q u s':=
  λ{Z B v u} z rv q=>⟨v,B,z.os,z.bare,z.base,z.ZK,rv,q⟩
 cases fl with
 |ret u=>
  let⟨v,Z,B,z,rv,q⟩:=hs;exact G z rv q
 |next=>
  let⟨Z,B,z,q⟩:=hs;exact G (v:=V.ZJ) (u:=Value.none) z rfl q
 |brk=>
  let⟨_,_,_,q⟩:=hs;exact False.elim q
 |cont=>
  let⟨_,_,_,q⟩:=hs;exact False.elim q
end L2
variable{CX:L2.Xs}
namespace L2
open PySem PySem.Spec PyProof.Rows
section
variable{p:Pos}{t:TA}{id T:String}{r:List V->Hp->VK->Prop}
def Ij(r:List V->Hp->VK->Prop)(t:TA):TE:=λO H Q=>t O H λa b=>r a b Q
def pe_callB(hc:CallR X (.builtin id) r)(F:Gl X x)(B:X.mg x=none)(z:bootBuiltins x=some (.builtin id))(ha:PA X (e::es) t)(hn:x ≠ "__name__":=by decide)(L:(x==("__debug__" : Str))=false:=by decide)
  (he:starEach (e::es) X.env=(false,eval e X.env)::starEach es X.env:=by rfl) (G:(backTo pos (starEach es X.env)).any (·.1)=false:=by rfl):PE X (.Call (.Name x p) (e::es) [] pos) (Ij r t):=by
 intro Y s O H Q I h;refine Ov (cO I F B z ?_ hn L);exact PyProof.Rows.callWith_builtin1 (thn (ha pos Y s O H _ I h) λS s1 ⟨vs,H1,R,j,u⟩=>hc Y s1 O H1 vs S Q R j u) he G
def pe_callTy(hc:CallR X (.type T) r)(F:Gl X x)(B:X.mg x=none)(z:bootBuiltins x=some (.type T))(ha:PA X (e::es) t)(hn:x ≠ "__name__":=by decide)(L:(x==("__debug__" : Str))=false:=by decide)
  (he:starEach (e::es) X.env=(false,eval e X.env)::starEach es X.env:=by rfl) (G:(backTo pos (starEach es X.env)).any (·.1)=false:=by rfl):PE X (.Call (.Name x p) (e::es) [] pos) (Ij r t):=by
 intro Y s O H Q I h;refine Ov (cO I F B z ?_ hn L);exact PY (thn (ha pos Y s O H _ I h) λS s1 ⟨vs,H1,R,j,u⟩=>hc Y s1 O H1 vs S Q R j u) he G
end
end L2
namespace HT
open PySem PyProof.Rows
section
variable{E:Value->Shared->Prop}
def sIx(n d:Nat):Option Int->Nat
 |none=>d
 |some v=>if v<0 then(v+(n:Int)).toNat else min v.toNat n
def aak(n d:Nat)(b:d<=n)(o:Option Int):sIx n d o<=n:=by
 cases o with
 |none=>exact b
 |some v=>
  show(if v<0 then(v+(n:Int)).toNat else min v.toNat n)<=n
  by_cases a:v<0
  .rw [Y2 a];omega
  .rw [YH a];exact Nat.min_le_right _ _
def lb(v:Int)(n d:Nat):(if v<0 then max (v+(n:Int)) 0 else min v (n:Int))=((sIx n d (some v):Nat):Int):=by
 show(if v<0 then max (v+(n:Int)) 0 else min v (n:Int))=(((if v<0 then(v+(n:Int)).toNat else min v.toNat n):Nat):Int)
 by_cases a:v<0
 .simp only [Y2 a];omega
 .simp only [YH a];omega
def uN(lo hi:Option Int)(n:Nat):Builtin.Slice.sliceAdjust lo hi 1 (n:Int)=(((sIx n 0 lo:Nat):Int),((sIx n n hi:Nat):Int)):=by
 have h1 : ¬ ((1:Int)<0):=by omega
 unfold Builtin.Slice.sliceAdjust;simp![h1,UP];refine N5 ?_ ?_
 .cases lo with
  |none=>rfl
  |some v=>exact lb v n 0
 .cases hi with
  |none=>rfl
  |some v=>exact lb v n n
def uB(i j:Nat):Builtin.Slice.slicePlaces (i:Int) (j:Int) 1=j-i:=by
 unfold Builtin.Slice.slicePlaces;have a:(1:Int) > 0:=by omega
 simp![a,Qp,Int.ediv_one];split<;>omega
def iK{v:Value}{o:Option Int}{Q:Option Int->Shared->Prop}(p:IsPart v o)(h:Q o s):wpAny (model prog w) A (Builtin.Slice.slicePartIndex v) Q E s:=by
 cases p with
 |none=>exact slicePart_none h
 |int i t=>exact slicePart_int h
def sZ{F:Addr}{u j:Value}{lo hi:Option Int}{Q:Int×Int×Nat->Shared->Prop}(hs:s.heap.IsSliceOf F u j .none)(L:IsPart u lo)(G:IsPart j hi)
  (h:Q (((sIx n 0 lo:Nat):Int),1,sIx n n hi-sIx n 0 lo) s):wpAny (model prog w) A (Builtin.Slice.sliceApplied (.ref F) (pure (n:Int))) Q E s:=by
 let⟨R,B,S,z⟩:=id hs;unfold Builtin.Slice.sliceApplied Builtin.Slice.sliceFields;refine ZB (ZB (OB B z (x:=u) rfl (ZB (OB B z (x:=j) rfl (ZB (OB B z (x:=.none) rfl (ZP ?_)))))));refine ZB (slicePart_none ?_);show wpAny _ _ (if((1:Int)==0)=true then _ else _) _ _ s
 rw[YH (by decide)]
 refine ZB (iK L (ZB (iK G (ZB (ZP ?_)))));show wpAny _ _ (match Builtin.Slice.sliceAdjust lo hi 1 (n:Int)with|(lo,hi)=>pure (lo,(1:Int),Builtin.Slice.slicePlaces lo hi 1)) _ _ s
 rw[uN lo hi n];show wpAny _ _ (pure (((sIx n 0 lo:Nat):Int),(1:Int),Builtin.Slice.slicePlaces ((sIx n 0 lo:Nat):Int) ((sIx n n hi:Nat):Int) 1)) _ _ s;rw[uB];exact ZP h
def wm(xs:Array Value)(i k:Nat):((List.range k).filterMap λ(m:Nat)=>xs[((i:Int)+(m:Int)*1).toNat]?).toArray=((xs.toList.drop i).take k).toArray:=by
 have e:(λ(m:Nat)=>xs[((i:Int)+(m:Int)*1).toNat]?)=λm=>xs[i+m]?:=by
  funext m;have:((i:Int)+(m:Int)*1).toNat=i+m:=by omega
  rw[this]
 rw[e];have:=pick_run xs i k;rw[List.filterMap_map]at this;have a:((λx=>xs[x]?) ∘ λx=>i+x)=λm=>xs[i+m]?:=rfl;rw[a]at this;rw[this]
def getItem_tuple_cut{t z:Addr}{items:Array Value}{G F:Value}{lo hi:Option Int}{Q:Value->Shared->Prop}(j:IsTup s.heap t items)(hs:s.heap.IsSliceOf z G F .none)(R:IsPart G lo)(L:IsPart F hi)
  (hw : ¬ (sIx items.size 0 lo=0/\sIx items.size items.size hi=items.size))
  (h:Q (.ref s.heap.objs.size) {s with heap:=s.heap.push {cls:=.type "tuple",data:=.seq ((items.toList.drop (sIx items.size 0 lo)).take (sIx items.size items.size hi-sIx items.size 0 lo)).toArray}})
  (hsz:items.size<=sizeLine):wpAny (model prog w) A (getItem (.ref t) (.ref z)) Q E s:=by
 have u:sizeOk (.seq ((items.toList.drop (sIx items.size 0 lo)).take (sIx items.size items.size hi-sIx items.size 0 lo)).toArray):=by
  show((items.toList.drop (sIx items.size 0 lo)).take (sIx items.size items.size hi-sIx items.size 0 lo)).toArray.size<=sizeLine;rw[WQ,U1,Rv,X6];omega
 have hj:sIx items.size items.size hi<=items.size:=aak _ _ (Hx _) hi;let⟨S,Uj,X0,WJ⟩:=id hs;have B:s.TypeIs (.ref z) "slice":=⟨S,Uj,X0⟩;unfold getItem
 try with_reducible refine TU ?_
 first|refine ZB (ZP ?_)|skip
 refine ZB (wpAny_sequenceKey j.typeIs (by decide) ?_)
 refine ZB (Pf (name:=Str.ofString "__getitem__") j.typeIs OQ
  (QG OQ j.typeIs entry_tuple_getitem ?_ (args_tuple_getitem _ _)))
 show wpAny _ _ (Builtin.Tuple.tupleItemsOf (.ref t) >>= _) _ _ s;refine ZB (tupleItemsOf_ j ?_);refine ZB (NI B ?_);rw[Y2 (by decide)]
 refine ZB (sZ hs R L ?_);have Z : ¬ ((((sIx items.size 0 lo:Nat):Int)==0&&(1:Int)==1&&(sIx items.size items.size hi-sIx items.size 0 lo)==items.size)=true):=by
  intro q;rw[Yx,Yx]at q;have q1:((sIx items.size 0 lo:Nat):Int)=0:=eq_of_beq q.1.1;have q2:sIx items.size items.size hi-sIx items.size 0 lo=items.size:=eq_of_beq q.2;exact hw ⟨by omega,by omega⟩
 show wpAny _ _ (if(((sIx items.size 0 lo:Nat):Int)==0&&(1:Int)==1&&(sIx items.size items.size hi-sIx items.size 0 lo)==items.size)=true then _ else _) _ _ s
 rw[YH Z,wm]
 first
  |exact ZB (m:=Builtin.Tuple.tupleExact _) (RG (ZP ⟨_,rfl,ZP h⟩) u)
  |exact ZB (m:=Builtin.Tuple.tupleExact _) (RG (ZB (ZP (ZP ⟨_,rfl,ZP h⟩))) u)
  |exact ZB (ZB (m:=Builtin.Tuple.tupleExact _) (RG (ZP (ZP ⟨_,rfl,ZP h⟩)) u))
  |exact ZB (ZB (m:=Builtin.Tuple.tupleExact _) (RG (ZP ⟨_,rfl,ZP h⟩) u))
end
end HT
namespace L2
open PySem PySem.Spec PyProof.Rows
abbrev TO:=St->Hp->(Option Int->Hp->Prop)->Prop
def PO(X:Cx)(e:Option Expr)(t:TO):Prop:=
 ∀(Y:List (Addr×Obj)) (s:Shared) (O:St) (H:Hp) (Q:Option Int->Hp->Prop),Z0 X Y O H s->t O H Q ->
  wpAny (model X.prog X.w) X.A (evalPart e X.env) (λu z=>∃o j,Z0 X Y O j z/\IsPart u o/\Q o j) X.xe s
def Gi:TO:=λ_ H Q=>Q none H
def GG(t:TE):TO:=λO H Q=>t O H λx a=>∃i,x=.int i/\Q (some i) a
section
variable{lo hi:Option Expr}{tl th:TO}
def yp:PO X none Gi:=by
 intro Y s O H Q I h;rw[evalPart_none];exact ZP ⟨none,H,I,.none,h⟩
def yb(h:PE X e te):PO X (some e) (GG te):=by
 intro Y s O H Q I c;rw[evalPart_some];refine thn (h Y s O H _ I c) ?_;rintro u f ⟨x,H1,d,a,b⟩;let⟨i,rfl,q⟩:=b;let⟨t,rfl⟩:=a;exact⟨some i,H1,d,.int i t,q⟩
def SlR(X:Cx)(r:V->Option Int->Option Int->Hp->VK->Prop):Prop:=
 ∀(Y:List (Addr×Obj)) (s:Shared) (O:St) (H:Hp) (x:V) (v u j:Value) (lo hi:Option Int) (z:Addr) (Q:VK),Z0 X Y O H s->RelV x v->s.heap.IsSliceOf z u j .none->IsPart u lo->IsPart j hi->r x lo hi H Q ->
  ∃T B,typeLookup (.type T) "__getitem__" = pure (some (.builtin B))/\s.TypeIs v T/\wpAny (model X.prog X.w) X.A (getItem v (.ref z)) (EP X Y O Q) X.xe s
def SlR.or{r e:V->Option Int->Option Int->Hp->VK->Prop}(h:SlR X r)(h':SlR X e):SlR X (λx lo hi H Q=>r x lo hi H Q\/e x lo hi H Q):=by
 intro Y s O H x v b a lo hi c Q I d i g f q;rcases q with q|q
 .exact h Y s O H x v b a lo hi c Q I d i g f q
 .exact h' Y s O H x v b a lo hi c Q I d i g f q
def Ik(r:V->Option Int->Option Int->Hp->VK->Prop)(c:TE)(a b:TO):TE:=λO H Q=>c O H λx f=>a O f λl e=>b O e λu d=>r x l u d Q
def wD{r:V->Option Int->Option Int->Hp->VK->Prop}(Z:SlR X r)(he:PE X e te)(hl:PO X lo tl)(R:PO X hi th):PE X (.Subscript e (.Slice lo hi none p2) pos) (Ik r te tl th):=by
 intro Y s O H Q I h;refine Subscript_ (thn (he Y s O H _ I h) ?_);rintro v s1 ⟨x,H1,I1,B,L⟩;refine wpAny_Slice (thn (hl Y s1 O H1 _ I1 L) λz s2 ⟨l,H2,I2,pl,G⟩=>thn (R Y s2 O H2 _ I2 G) ?_);rintro j s3 ⟨u,H3,I3,pu,F⟩;rw[evalPart_none];refine ZP ?_;have I4:Z0 X Y O H3 {s3 with heap:=s3.heap.push {cls:=.type "slice",data:=.fields #[z,j,.none]}}:=I3.kept (t':=s3.toks) λb ob q=>Ht _ q
 let⟨T,id,hT,S,hg⟩:=Z Y {s3 with heap:=s3.heap.push {cls:=.type "slice",data:=.fields #[z,j,.none]}} O H3 x v z j l u s3.heap.objs.size Q I4 B (Heap.IsSliceOf.new ..) pl pu F
 show wpAny (model X.prog X.w) X.A (subscriptTail e (.Slice lo hi none p2) v (.ref s3.heap.objs.size)) (EP X Y O Q) X.xe {s3 with heap:=s3.heap.push {cls:=.type "slice",data:=.fields #[z,j,.none]}}
 exact tail_any (ops:=[.ref s3.heap.objs.size,v]) S hT hg (by with_unfolding_all rfl)
def Bt(xs:List V)(lo hi:Option Int):List V:=(xs.drop (HT.sIx xs.length 0 lo)).take (HT.sIx xs.length xs.length hi-HT.sIx xs.length 0 lo)
def ip(xs:List V)(lo hi:Option Int):(Bt xs lo hi).length<=xs.length:=by
 unfold Bt;rw[U1,Rv];omega
def G6(K:HF):V->Option Int->Option Int->Hp->VK->Prop:=λx lo hi H Q=>∃a b,x=.ref a/\SqT K H a b /\
 ¬ (HT.sIx b.length 0 lo=0/\HT.sIx b.length b.length hi=b.length) /\∀p,H p=none->Q (.ref p) (upd H p (.ZY (Bt b lo hi)))
def abF:SlR X (G6 X.K):=by
 intro Y s O H x v S R lo hi Z Q I B hs G F h;let⟨a,xs,rfl,hx,L,q⟩:=h;cases B;let⟨ZU,r,z,u⟩:=I.tuple hx;have j:ZU.toArray.size=xs.length:=by rw[WQ];exact r.length.symm
 refine⟨"tuple",_,PyProof.Rows.slot_tuple_getitem.lookup,z.typeIs,?_⟩;refine HT.getItem_tuple_cut z hs G F (by rw[j];exact L) ?_ (by rw[j];exact u)
 rw[j];refine⟨.ref s.heap.objs.size,_,I.laid (t':=s.toks) (o:=.ZY (Bt xs lo hi)) (λb ob q=>Ht _ q) (Hx _) ?_,rfl,q _ (I.ZK.fresh (Hx _))⟩;exact⟨Hv (ip xs lo hi) u,_,(r.drop (HT.sIx xs.length 0 lo)).take (HT.sIx xs.length xs.length hi-HT.sIx xs.length 0 lo),IsTup.new _ _⟩
end
end L2
namespace L2
open PySem PySem.Spec PyProof.Rows
def ixN(n:Nat)(i:Int):Option Nat:=if 0<=i then(if i<n then some i.toNat else none)else if -(n:Int)<=i then some (i+n).toNat else none
def atI{a:Type}(xs:List a)(i:Int):Option a:=(ixN xs.length i).bind λj=>xs[j]?
def kn{i:Int}(h:ixN n i=some j):seqIndex? i n=some j/\j<n /\ -(n:Int)<=i/\i<n:=by
 unfold ixN at h;by_cases b:0<=i
 .rw [Y2 b]at h
  by_cases a:i<n
  .rw [Y2 a]at h
   have e:i.toNat=j:=TQ h;exact⟨by rw[seqIndex_of b a,e],by omega,by omega,a⟩
  .rw [YH a]at h;cases h
 .rw [YH b]at h
  by_cases a : -(n:Int)<=i
  .rw [Y2 a]at h
   have e:(i+n).toNat=j:=TQ h;exact⟨by rw[seqIndex_neg () a,e],by omega,a,by omega⟩
  .rw [YH a]at h;cases h
def k8{xs:List α}{i:Int}{v:α}(h:atI xs i=some v):∃j,seqIndex? i xs.length=some j/\xs[j]?=some v/\j<xs.length /\ -(xs.length:Int)<=i/\i<xs.length:=by
 unfold atI at h;cases e:ixN xs.length i with
 |none=>rw[e]at h;cases h
 |some j=>
  rw[e]at h;let⟨d,c,b,a⟩:=kn e;exact⟨j,d,h,c,b,a⟩
def C7(b:Expr):Prop:=∀o i,subscripted b false o i=operate [o,i] (getItem o i)
def IxR(X:Cx)(r:R2):Prop:=
 ∀(value slice:Expr) (Y:List (Addr×Obj)) (s:Shared) (O:St) (H:Hp) (x y:V) (v u:Value) (Q:VK),Z0 X Y O H s->RelV x v->RelV y u->r x y H Q ->
  subscripted slice false v u=operate [v,u] (getItem v u)->wpAny (model X.prog X.w) X.A (subscriptTail value slice v u) (EP X Y O Q) X.xe s
def MtR(X:Cx)(j:String)(r:V->List V->Hp->VK->Prop):Prop:=
 ∀(Y:List (Addr×Obj)) (s:Shared) (O:St) (H:Hp) (x:V) (xs:List V) (v:Value) (S:List Value) (Q:VK),Z0 X Y O H s->RelV x v->ZH xs S->r x xs H Q ->
  wpAny (model X.prog X.w) X.A (call (.builtin j) (v::S)) (EP X Y O Q) X.xe s
section
variable{a b:Expr}{tb:TE}
def IxR.or{r c:R2}(h:IxR X r)(h':IxR X c):IxR X (λx y H Q=>r x y H Q\/c x y H Q):=by
 intro value slice Y s O H x y v u Q I b a q d;rcases q with q|q
 .exact h value slice Y s O H x y v u Q I b a q d
 .exact h' value slice Y s O H x y v u Q I b a q d
def acv{r:R2}(g:IxR X r)(j:PE X a ta)(i:PE X b tb)(f:C7 b):PE X (.Subscript a b pos) (Ic r ta tb):=by
 intro Y s O H Q I h;exact Subscript_ (hU j i I h λv u c x y l k e d q=>g a b Y c O l x y v u Q k e d q (f _ _))
def Hc(K:HF):R2:=λx y H Q=>∃p a i v,x=.ref p/\y=.int i/\SqL K H p a/\atI a i=some v/\Q v H
def Hm(K:HF):R2:=λx y H Q=>∃p a i v,x=.ref p/\y=.int i/\SqT K H p a/\atI a i=some v/\Q v H
def x9:IxR X (Hc X.K):=by
 intro value slice Y s O H x y v u Q I m l h e;let⟨p,F,i,z,rfl,rfl,n,o,q⟩:=h;cases m;let⟨t,rfl⟩:=l;let⟨D,r,c,G⟩:=I.list n;let⟨j,b,C,J,B,A⟩:=k8 o;let⟨w,g,E⟩:=r.get C;have hl:=r.length;have hn:=cK;have a:EP X Y O Q w s:=⟨z,H,I,E,q⟩;by_cases f:0<=i
 .have d:i.toNat=j:=by
   rw[seqIndex_of f A]at b;exact TQ b
  exact item_listR c.isList f () (by rw[d];simpa using g) a e
 .have d:(i+(D.toArray.size:Int)).toNat=j:=by
   rw[seqIndex_neg () B]at b
   rw[WQ,<-hl];exact TQ b
  exact subscriptTail_builtinR (x:=w) c.isList.typeIs slot_list_getitem.lookup
   (wpAny_getItem_list_neg (Q:=λr k=>r=w/\EP X Y O Q r k) c.isList () (by rw[WQ]<;>omega) () (by rw[d];simpa using g) ⟨rfl,a⟩) e
def aaU:IxR X (Hm X.K):=by
 intro value slice Y s O H x y v u Q I e d h f;let⟨p,A,i,z,rfl,rfl,g,k,q⟩:=h;cases e;let⟨t,rfl⟩:=d;let⟨F,r,b,B⟩:=I.tuple g;let⟨j,m,l,E,D,C⟩:=k8 k;let⟨w,n,o⟩:=r.get l;have hl:=r.length;have hn:=cK;have a:EP X Y O Q w s:=⟨z,H,I,o,q⟩;exact subscriptTail_builtinR (x:=w) b.typeIs slot_tuple_getitem.lookup
  (getItem_tuple (j:=j) (Q:=λr c=>r=w/\EP X Y O Q r c) b () () (by rw[WQ,<-hl];exact m) (by simpa using n) ⟨rfl,a⟩) f
def uM(a:List Value)(n j:Nat)(u:Value):Obj.mapSeq (·.setIfInBounds j u) {cls:=.type "list",data:=.seq a.toArray n}={cls:=.type "list",data:=.seq (a.set j u).toArray n}:=by
 simp[Obj.mapSeq]
def Z0.Z5{Y:List (Addr×Obj)}{O:St}{H:Hp}{s:Shared}{p:Addr}{xs:List V}(I:Z0 X Y O H s)(h:H p=some (.Z5 xs)):
  ∃(a:List Value) (n:Nat),ZH xs a/\s.heap.get? p=some {cls:=.type "list",data:=.seq a.toArray n}/\xs.length<=sizeLine:=by
 let⟨z,a,n,r,e⟩:=I.ZK p _ h;exact⟨a,n,r,e,z⟩
def Z0.Rm{O:St}{p:Addr}{xs a:List V}{its':List Value}{c:Nat}{f:Obj->Obj}(I:Z0 X Y O H s)(h:H p=some (.Z5 xs))
  (i:s.heap.get? p=some {cls:=.type "list",data:=.seq ZU.toArray n}) (d:f {cls:=.type "list",data:=.seq ZU.toArray n}={cls:=.type "list",data:=.seq its'.toArray c}) (r:ZH a its') (g:a.length<=sizeLine) (t:Nat) :
  Z0 X Y O (upd H p (.Z5 a)) {s with heap:=s.heap.update p f,toks:=t}:=by
 have e:(s.heap.update p f).get? p=some {cls:=.type "list",data:=.seq its'.toArray c}:=by
  rw[Qi f i (by rw[d]<;>rfl),d]
 refine I.write (x:=p) (e:=p) (by rw[h];trivial) (.inl rfl) (λb u j q=>(Uv _ _ (Ne.symm j)).trans q) ⟨_,e⟩ ?_
 exact⟨g,its',c,r,e⟩
def GU:V->V->V->Hp->(Hp->Prop)->Prop:=λo i v H Q=>∃p a k j,o=.ref p/\i=.int k/\H p=some (.Z5 a)/\ixN a.length k=some j/\Q (upd H p (.Z5 (a.set j v)))
def set_list:BW X GU:=by
 intro Y s O H o i v A B u Q I w x m h;let⟨p,l,k,j,rfl,rfl,b,z,q⟩:=h;cases w;let⟨t,rfl⟩:=x;let⟨f,n,r,ho,y⟩:=I.Z5 b;let⟨a,C,d,c⟩:=kn z;have hl:=r.length;have hn:=cK;have g:Z0 X Y O (upd H p (.Z5 (l.set j v))) {s with heap:=s.heap.update p (Obj.mapSeq (·.setIfInBounds j u))}:=
  I.Rm b ho (uM f n j u) (r.set m j) (by rw[NR];exact y) s.toks
 by_cases e:0<=k
 .have hk:k.toNat=j:=by
   rw[seqIndex_of e c]at a;exact TQ a
  exact PySem.W.ki_setAt ho e () (by rw[WQ,<-hl];exact c) (by rw[hk];exact⟨_,g,q⟩)
 .have hk:(k+(f.toArray.size:Int)).toNat=j:=by
   rw[seqIndex_neg () d]at a
   rw[WQ,<-hl];exact TQ a
  exact PySem.W.ki_setBack ho () (by rw[WQ,<-hl];exact d) () (by rw[hk];exact⟨_,g,q⟩)
def tP(lo hi:Option Int)(n:Nat):(sliceBounds lo hi none n).1=((HT.sIx n 0 lo:Nat):Int)/\(sliceBounds lo hi none n).2.1=((HT.sIx n n hi:Nat):Int)/\(sliceBounds lo hi none n).2.2=1:=by
 refine⟨?_,?_,rfl⟩
 .cases lo with
  |none=>simp[sliceBounds,HT.sIx]
  |some i=>
   simp![sliceBounds,HT.sIx,Nx,show(1:Int) > 0 by decide,Qp]
   by_cases h:i<0
   .simp only [h,Qp]<;>omega
   .simp only [h,UP]<;>omega
 .cases hi with
  |none=>simp[sliceBounds,HT.sIx]
  |some i=>
   simp![sliceBounds,HT.sIx,Nx,show(1:Int) > 0 by decide,Qp]
   by_cases h:i<0
   .simp only [h,Qp]<;>omega
   .simp only [h,UP]<;>omega
def tu(a:List Value)(lo hi:Option Int):slicePick a.toArray lo hi none=((a.drop (HT.sIx a.length 0 lo)).take (HT.sIx a.length a.length hi-HT.sIx a.length 0 lo)).toArray:=by
 let⟨d,c,b⟩:=tP lo hi a.toArray.size;unfold slicePick;rw[d,c,b];simp![sliceRange_one,pick_run,WQ]<;>rfl
def G4(K:HF):V->Option Int->Option Int->Hp->VK->Prop:=λx lo hi H Q=>∃a b,x=.ref a/\SqL K H a b /\∀p,H p=none->Q (.ref p) (upd H p (.Z5 (Bt b lo hi)))
def yr:SlR X (G4 X.K):=by
 intro Y s O H x v L G lo hi R Q I u hs B z h;let⟨a,xs,rfl,hx,q⟩:=h;cases u;let⟨ZU,r,j,F⟩:=I.list hx;have hlen:=r.length;refine⟨"list",_,slot_list_getitem.lookup,j.isList.typeIs,?_⟩;refine wpAny_getItem_list_slice j.isList hs B z .none (by simp) ?_ (by rw[WQ]<;>omega)
 rw[tu,<-hlen];refine⟨.ref s.heap.objs.size,_,I.laid (t':=s.toks) (o:=.Z5 (Bt xs lo hi)) (λb ob q=>Ht _ q) (Hx _) ?_,rfl,q _ (I.ZK.fresh (Hx _))⟩;exact⟨Hv (ip xs lo hi) F,_,0,(r.drop (HT.sIx xs.length 0 lo)).take (HT.sIx xs.length xs.length hi-HT.sIx xs.length 0 lo),HB _ rfl⟩
def CA:V->Bool
 |.ZJ=>true
 |.bl _=>true
 |.int _=>true
 |.str _=>true
 |_=>false
def Il:V->V->Bool
 |.ZJ,.ZJ=>true
 |.bl a,.bl b=>a==b
 |.bl a,.int b=>(if a then 1 else 0)==b
 |.int a,.bl b=>a==(if b then 1 else 0)
 |.int a,.int b=>a==b
 |.str a,.str b=>a==b
 |_,_=>false
def gy{x:V}{u v:Value}(e:RelV y u)(c:RelV x v)(g:CA y=true)(f:CA x=true):SeqAt.EqAt A s u v (Il y x):=by
 cases y with
 |ZJ=>
  cases e;cases x with
  |ZJ=>cases c;exact NS _
  |bl b=>cases c;exact SeqAt.EqAt.none_bool b
  |int b=>let⟨t,rfl⟩:=c;exact SeqAt.EqAt.none_int b t
  |str b=>let⟨t,rfl⟩:=c;exact SeqAt.EqAt.none_str b t
  |_=>exact absurd (show false=true from f) Hw
 |bl a=>
  cases e;cases x with
  |ZJ=>cases c;exact SeqAt.EqAt.bool_none a
  |bl b=>cases c;exact SeqAt.EqAt.bool_bool a b
  |int b=>let⟨t,rfl⟩:=c;exact SeqAt.EqAt.bool_int a b t
  |str b=>let⟨t,rfl⟩:=c;exact SeqAt.EqAt.bool_str a b t
  |_=>exact absurd (show false=true from f) Hw
 |int a=>
  let⟨d,rfl⟩:=e;cases x with
  |ZJ=>cases c;exact SeqAt.EqAt.int_none a d
  |bl b=>cases c;exact SeqAt.EqAt.int_bool a d b
  |int b=>let⟨t,rfl⟩:=c;exact SeqAt.EqAt.int_int a d b t
  |str b=>let⟨t,rfl⟩:=c;exact SeqAt.EqAt.int_str a d b t
  |_=>exact absurd (show false=true from f) Hw
 |str a=>
  let⟨d,rfl⟩:=e;cases x with
  |ZJ=>cases c;exact SeqAt.EqAt.str_none a d
  |bl b=>cases c;exact SeqAt.EqAt.str_bool a d b
  |int b=>let⟨t,rfl⟩:=c;exact SeqAt.EqAt.str_int a d b t
  |str b=>let⟨t,rfl⟩:=c;exact SeqAt.EqAt.str_str a d b t
  |_=>exact absurd (show false=true from f) Hw
 |_=>exact absurd (show false=true from g) Hw
def call_len_seq:CallR X (.builtin "len") (λxs H Q=>∃p a,xs=[.ref p]/\(SqL X.K H p a\/SqT X.K H p a)/\Q (.int a.length) H):=by
 intro Y s O H xs S Q I r h;let⟨p,a,rfl,b,q⟩:=h;let⟨u,rfl,e⟩:=vals1 r;cases e;have hn:=cK;rcases b with b|b
 .obtain ⟨g,c,d,f⟩:=I.list b
  have hlen:=c.length;exact Calls.call_len_list d.isList (by simp![WQ]<;>omega) ⟨.int a.length,H,I.tok _,⟨s.toks+1,by rw[WQ,hlen]⟩,q⟩
 .obtain ⟨g,c,d,f⟩:=I.tuple b
  have hlen:=c.length;exact len_tuple d (by simp![WQ]<;>omega) ⟨.int a.length,H,I.tok _,⟨s.toks+1,by rw[WQ,hlen]⟩,q⟩
def CallR.or{f:Value}{r b:List V->Hp->VK->Prop}(h:CallR X f r)(h':CallR X f b):CallR X f (λxs H Q=>r xs H Q\/b xs H Q):=by
 intro Y s O H xs S Q I a q;rcases q with q|q
 .exact h Y s O H xs S Q I a q
 .exact h' Y s O H xs S Q I a q
def call_list_of:CallR X (.type "list") (λxs H Q=>∃p z,xs=[.ref p]/\(SqL X.K H p z\/SqT X.K H p z) /\∀l,H l=none->Q (.ref l) (upd H l (.Z5 z))):=by
 intro Y s O H xs S Q I r h;let⟨p,z,rfl,R,q⟩:=h;let⟨u,rfl,rx⟩:=vals1 r;cases rx;have Z:∀(ZU:List Value),ZH z ZU->z.length<=sizeLine ->∀(j:Heap) (F:Nat),(∀b o',s.heap.get? b=some o'->j.get? b=some o') ->
   j.get? s.heap.objs.size=some {cls:=.type "list",dict:=none,data:=.seq ZU.toArray F,slots:=#[]}->EP X Y O Q (.ref s.heap.objs.size) {s with heap:=j}:=λZU B L j F G e=>
  ⟨.ref s.heap.objs.size,_,I.laid (t':=s.toks) G (Hx _) (show ObjOk X.prog X.w _ j _ (.Z5 z)from⟨L,ZU,F,B,e⟩),rfl,q _ (I.ZK.fresh (Hx _))⟩
 rcases R with R|R
 .obtain ⟨ZU,B,pl,L⟩:=I.list R
  have hlen:=B.length;let⟨o,ho,hc,n,hd⟩:=pl.isList;exact call_list_seq p (.inl rfl) ho hc hd (λj F G e=>Z ZU B L j F G e) (by simp![WQ]<;>omega)
 .obtain ⟨ZU,B,pl,L⟩:=I.tuple R
  have hlen:=B.length;let⟨o,ho,hc,n,hd⟩:=pl;exact call_list_seq p (.inr rfl) ho hc hd (λj F G e=>Z ZU B L j F G e) (by simp![WQ]<;>omega)
def Im(K:HF)(T:String)(x:V)(H:Hp):Prop:=match x with
 |.str _=>T = "str"
 |.int _=>T = "int"
 |.ref p=>(T = "list" /\∃b,SqL K H p b)\/(T = "tuple" /\∃o,K.lookup p=some o/\o.cls=.type "tuple" /\ o.dict=none) \/
   (T = "dict" /\ ((∃a,H p=some (.dK a)) \/∃a,H p=some (.dT a)))\/(T = "set" /\∃Z6 n,H p=some (.set Z6 n))
 |_=>False
def nL{O:St}{T:String}{x:V}{v:Value}(I:Z0 X Y O H s)(r:RelV x v)(d:Im X.K T x H):
  s.TypeIs v T /\∀a,v=.ref a ->∃h,s.heap.get? a=some h/\h.dict=none:=by
 cases x with
 |str z=>
  let⟨t,rfl⟩:=r;cases(show T = "str" from d);exact⟨typeIs_str s z t,λ_ e=>nomatch e⟩
 |int i=>
  let⟨t,rfl⟩:=r;cases(show T = "int" from d);exact⟨typeIs_int s i t,λ_ e=>nomatch e⟩
 |ref p=>
  cases r;rcases d with⟨rfl,xs,j⟩|⟨rfl,o,hk,hc,hd⟩|⟨rfl,hk⟩|⟨rfl,Z6,n,hk⟩
  .obtain ⟨k,_,g,_⟩:=I.list j
   refine⟨g.isList.typeIs,λa e=>?_⟩;cases e;let⟨o,n,e,c,hd,_⟩:=g;exact⟨o,e,hd⟩
  .refine ⟨⟨o,I.Yy p o hk,hc⟩,λa e=>?_⟩
   cases e;exact⟨o,I.Yy _ o hk,hd⟩
  .have z:∃o,s.heap.get? p=some o/\o.ExactDict:=by
    rcases hk with⟨Z4,hk⟩|⟨Z4,hk⟩
    .obtain ⟨_,_,_,_,o,_,_,e,b,_⟩:=I.ZK p _ hk
     exact⟨o,e,b⟩
    .obtain ⟨_,_,_,_,o,_,_,e,b,_⟩:=I.ZK p _ hk
     exact⟨o,e,b⟩
   let⟨o,e,b⟩:=z;refine⟨⟨o,e,b.1⟩,λa f=>?_⟩;cases f;exact⟨o,e,b.2.1⟩
  .obtain ⟨o,_,_,_,e,b,_⟩:=I.ZK p _ hk
   refine⟨⟨o,e,b.1⟩,λa f=>?_⟩;cases f;exact⟨o,e,b.2.1⟩
 |_=>exact False.elim d
def Hj(K:HF)(T:String)(r:V->List V->Hp->VK->Prop)(to:TE):TE:=λO H Q=>to O H λx a=>Im K T x a/\r x [] a Q
def Io(K:HF)(T:String)(r:V->List V->Hp->VK->Prop)(to:TE)(t:TA):TE:=λO H Q=>to O H λx a=>Im K T x a/\t O a λb c=>r x b c Q
variable{o:Expr}{to:TE}{t:TA}{T id:String}{r:V->List V->Hp->VK->Prop}
def zU(F:PlainAttrs T)(j:Slot T name id)(Ui:typeOf (.builtin id)=pure (.type "method_descriptor"))(L:MtR X id r)(G:PE X o to)
  (Z:attributeBase o name X.env (eval o X.env)=eval o X.env:=by rfl) (XZ:(apos.endLine==Zr.line)=true:=by rfl):PE X (.Call (.Attribute o name apos) [] [] Zr) (Hj X.K T r to):=by
 intro Y s O H Q I h;refine wpAny_Call_method0_late Z XZ (thn (G Y s O H _ I h) ?_);rintro v s1 ⟨x,H1,z,u,ty,B⟩;let⟨S,R⟩:=nL z u ty;exact⟨T,id,F,j,Ui,S,R,Calls.callWith_builtin rfl (PySem.evalArgs_none (L Y s1 O H1 x [] v [] Q z u .nil B))⟩
def acB(Z:PlainAttrs T)(j:Slot T name id)(Ui:typeOf (.builtin id)=pure (.type "method_descriptor"))(hm:MtR X id r)(ho:PE X o to)(ha:PA X (e::es) t)
  (Yb:attributeBase o name X.env (eval o X.env)=eval o X.env:=by rfl)
  (u:((backTo Zr (starEach (e :: es) X.env)).all (λx => !x.1) && (backToKw Zr (keywordEach [] X.env)).all (λx=>x.1.isSome)
   && decide ((e::es).length+([]:List Keyword).length+(if([]:List Keyword).isEmpty then 0 else 1)<30))=true:=by rfl)
  (XZ:(apos.endLine==Zr.line)=true:=by rfl) (hs:starEach (e::es) X.env=(false,eval e X.env)::starEach es X.env:=by rfl) (SK:(backTo Zr (starEach es X.env)).any (·.1)=false:=by rfl) :
  PE X (.Call (.Attribute o name apos) (e::es) [] Zr) (Io X.K T r to t):=by
 intro Y s O H Q I h;refine wpAny_Call_method_late Yb u XZ rfl (thn (ho Y s O H _ I h) ?_);rintro v s1 ⟨x,H1,F,z,ty,R⟩;let⟨h1,h2⟩:=nL F z ty;refine⟨T,id,Z,j,Ui,h1,h2,?_⟩;have B:=ha Zr Y s1 O H1 _ F R;rw[hs]at B ⊢;refine Calls.callWith_builtin (by show(false||(backTo Zr (starEach es X.env)).any (·.1))=false;rw[SK]<;>rfl) (OZ ?_)
 exact thn B λS s2 ⟨vs,H2,I2,G,L⟩=>hm Y s2 O H2 x vs v S Q I2 z G L
end
end L2
namespace L2
open PySem PySem.Spec PyProof.Rows
def MtM(X:Cx)(j:String)(r:V->List V->Hp->VK->Prop):Prop:=
 ∀(Y:List (Addr×Obj)) (s:Shared) (O:St) (H:Hp) (x:V) (xs:List V) (v:Value) (S:List Value) (Q:VK),Z0 X Y O H s->RelV x v->ZH xs S->r x xs H Q ->
  wpAny (model X.prog X.w) X.A (call (.builtin j) (v::S)) (EP X Y O Q) X.xe s
def ZH.one:∀{x:V} {S:List Value},ZH [x] S ->∃u,S=[u]/\RelV x u
 |_,_,.cons r .nil=>⟨_,rfl,r⟩
def ZH.zero:∀{S:List Value},ZH [] S->S=[]
 |_,.nil=>rfl
def ZH.dropLast{xs:List V}{S:List Value}(h:ZH xs S):ZH xs.dropLast S.dropLast:=by
 induction h with
 |nil=>exact .nil
 |cons r t ih=>
  cases t with
  |nil=>exact .nil
  |cons q t'=>exact .cons r ih
def ZH.reverse{xs:List V}{S:List Value}(h:ZH xs S):ZH xs.reverse S.reverse:=by
 induction h with
 |nil=>exact .nil
 |cons r t ih=>rw[OF,OF];exact ZH.append ih (.cons r .nil)
def um(l:List α):l.eraseIdx (l.length-1)=l.dropLast:=by
 induction l with
 |nil=>rfl
 |cons a r ih=>
  cases r with
  |nil=>rfl
  |cons b r=>
   have e:(a::b::r).length-1=((b::r).length-1)+1:=by
    have d:(a::b::r).length=r.length+2:=rfl;have c:(b::r).length=r.length+1:=rfl;omega
   rw[e,List.eraseIdx_cons_succ,ih]
   all_goals rfl
section
variable{O:St}{l:Addr}{xs ys zs:List V}
def Z0.SJ{its':List Value}{f:Array Value->Array Value}(I:Z0 X Y O H s)(h:H l=some (.Z5 xs))
  (e:s.heap.get? l=some {cls:=.type "list",data:=.seq ZU.toArray n}) (d:f ZU.toArray=its'.toArray) (b:ZH ys its') (a:ys.length<=sizeLine) :
  Z0 X Y O (upd H l (.Z5 ys)) {s with heap:=s.heap.update l (Obj.mapSeq f),toks:=t'}:=by
 have q:=PySem.IsL.update e f;rw[d]at q;refine I.write (x:=l) (e:=l) (by rw[h];exact trivial) (.inl rfl) (λi u g c=>(Uv s.heap (Obj.mapSeq f) (Ne.symm g)).trans c) ⟨_,q⟩ ?_
 exact⟨a,its',_,b,q⟩
def Z0.lnew(I:Z0 X Y O H s)(b:ZH ys ZU)(a:ys.length<=sizeLine):
  Z0 X Y O (upd H s.heap.objs.size (.Z5 ys)) {s with heap:=s.heap.push {cls:=.type "list",data:=.seq ZU.toArray},toks:=t'}:=
 I.laid (λ_ _ q=>Ht _ q) (Hx _) ⟨a,ZU,0,b,HB _ rfl⟩
def Z0.fresh(I:Z0 X Y O H s):H s.heap.objs.size=none:=I.ZK.fresh (Hx _)
def Z0.UU(I:Z0 X Y O H s)(b:H l=some (.Z5 xs)):xs.length<=sizeLine /\∃(a:List Value) (n:Nat),ZH xs a/\xs.length=a.length/\s.heap.get? l=some {cls:=.type "list",data:=.seq a.toArray n}:=by
 let⟨z,a,n,r,e⟩:=I.ZK l _ b;exact⟨z,a,n,r,r.length,e⟩
def v8(h:n<=sizeLine):Builtin.List.listTooLong n=false:=by
 unfold Builtin.List.listTooLong;exact Ry ()
end
section
def Gh:V->List V->Hp->VK->Prop:=λx b H Q=>∃l a y,x=.ref l/\b=[y]/\H l=some (.Z5 a)/\a.length<sizeLine/\Q .ZJ (upd H l (.Z5 (a++[y])))
def jc:MtM X "list.append" Gh:=by
 intro Y s O H x R v S Q I B G h;let⟨l,xs,y,rfl,rfl,j,Z,q⟩:=h;cases B;let⟨u,rfl,L⟩:=G.one;let⟨z,ZU,n,r,hl,e⟩:=I.UU j;refine call_meets F.slot_list_append ⟨_,e,rfl⟩ F.entry_list_append (F.args_list_append_2 _ _) (PySem.list_append l ZU.toArray n u (by rw[WQ];omega)) ⟨e,?_⟩
 refine⟨.ZJ,_,I.SJ (its':=ZU++[u]) j e (by simp) (r.append (.cons L .nil)) ?_,rfl,q⟩
 rw[Ww,Q0];omega
def Gf:V->List V->Hp->VK->Prop:=λx d H Q=>∃l b c a,x=.ref l/\d=[.ref b]/\H l=some (.Z5 c)/\H b=some (.Z5 a)/\c.length+a.length<=sizeLine/\Q .ZJ (upd H l (.Z5 (c++a)))
def vS:MtM X "list.extend" Gf:=by
 intro Y s O H x vs v S Q I L R h;let⟨l,b,xs,zs,rfl,rfl,G,hB,hz,q⟩:=h;cases L;let⟨u,rfl,Z⟩:=R.one;cases Z;let⟨z,ZU,n,r,hl,e⟩:=I.UU G;let⟨z2,j,n2,r2,WI,e2⟩:=I.UU hB;have B:ZU.toArray.size+j.toArray.size<=sizeLine:=by rw[WQ,WQ];omega
 have Rl : ¬ (!ZU.toArray.isEmpty&&Builtin.List.listTooLong (ZU.toArray.size+j.toArray.size))=true:=by
  rw[v8 B,Bool.and_false];exact Hw
 refine call_meets F.slot_list_extend ⟨_,e,rfl⟩ F.entry_list_extend (F.args_list_extend_2 _ _)
  (AutoSeq1.list_extend_list_list_0 l ZU.toArray n b j.toArray n2 Rl (by rw[WQ];omega) ()) ⟨e,e2,?_⟩
 refine⟨.ZJ,_,I.SJ (its':=ZU++j) G e (by simp) (r.append r2) ?_,rfl,q⟩
 rw[Ww];omega
def Hl:V->List V->Hp->VK->Prop:=λx b H Q=>∃l a y,x=.ref l/\b=[]/\H l=some (.Z5 a)/\a[a.length-1]?=some y/\Q y (upd H l (.Z5 a.dropLast))
def abR:MtM X "list.pop" Hl:=by
 intro Y s O H x p v S Q I c d h;let⟨l,o,y,rfl,rfl,b,g,q⟩:=h;cases c;have k:=d.zero;subst k;let⟨z,a,n,r,j,e⟩:=I.UU b;let⟨u,i,f⟩:=r.get g;have m:a.toArray[a.toArray.size-1]?=some u:=by
  show a.toArray[a.length-1]?=some u;rw[<-U9,<-j];exact i
 refine call_meets F.slot_list_pop ⟨_,e,rfl⟩ F.entry_list_pop (F.args_list_pop_1 _) (MeetsSeq.list_pop_last l a.toArray n u m (by rw[WQ];omega)) ⟨e,?_⟩
 refine⟨y,_,I.SJ (its':=a.dropLast) b e ?_ r.dropLast ?_,f,q⟩
 .show a.toArray.eraseIdxIfInBounds (a.toArray.size-1)=a.dropLast.toArray
  rw[WQ,List.eraseIdxIfInBounds_toArray,um]
 .rw [List.length_dropLast]
  omega
def FW:R2:=λx y H Q=>∃l b c a,x=.ref l/\y=.ref b/\H l=some (.Z5 c)/\H b=some (.Z5 a)/\c.length+a.length<=sizeLine /\∀p,H p=none->Q (.ref p) (upd H p (.Z5 (c++a)))
def zR:OpR X (binaryOp .Add) FW:=by
 intro Y s O H x y v u Q I f d h;let⟨l,b,t,o,rfl,rfl,i,j,A,q⟩:=h;cases f;cases d;let⟨z,a,n,r,B,e⟩:=I.UU i;let⟨p,c,w,g,C,m⟩:=I.UU j;refine PySem.P.add_list e m ?_ (by rw[WQ,WQ];omega)
 have k:a.toArray++c.toArray=(a++c).toArray:=by simp
 rw[k];exact⟨.ref _,_,I.lnew (t':=s.toks) (r.append g) (by rw[Ww];omega),rfl,q _ I.fresh⟩
end
end L2
namespace Att
open PySem PySem.W PySem.Calls PyProof.Rows
def s8{P:Params}:∀(c:List Int) (vs:List Value),WellAll P h vs (c.map WData.int)->IntsAre vs c:=by
 intro c
 induction c with
 |nil=>
  intro vs w;rw[NJ]at w;cases w;exact .nil
 |cons n c ih=>
  intro vs w;rw[W1]at w;cases w with
  |cons a b=>
   cases a;exact .cons _ _ (ih _ b)
def vE{l:OpenLaw}(hn:l.most=some n){P:Params}{args:List WData}{j:List Value}
  (F:l.row.toRowW.claim.pre args=true) (z:WellAll P h j args) :
  ∃a vs ns,j=[Value.ref a]/\args=[WData.list (ns.map WData.int)]/\h.get? a=some {cls:=.type "list",data:=.seq vs.toArray}/\IntsAre vs ns/\ns.length<=n:=by
 have B:WShape.hasAll [] args [.list .int]=true:=(pre_splitW F).1;have hc:l.pre.holds [] {args:=args}=true:=(pre_splitW F).2;let⟨d,r,rfl,h1,Z⟩:=hasAllW_cons B;obtain rfl:=hasAllW_nil Z;let⟨xs,rfl,S⟩:=hasW_list h1;let⟨ns,rfl⟩:=items_int S;have u:ns.length<=n:=by
  unfold OpenLaw.pre at hc;have h4:(WTm.not (.lt (.lit (.int (n:Int))) (.len (.arg 0)))).holds [] {args:=[.list (ns.map .int)]}=true:=by
   have h4:=(holds_andW hc).1;rw[hn]at h4;exact h4
  have h5:=condW_of h4 (w_not (w_lt w_lit (w_len_list (w_arg rfl))));rw[Z1]at h5;refine Nat.le_of_not_lt λq=>?_;have R:(n:Int)<((ns.length:Nat):Int):=by omega
  first
   |(rw[Qx R]at h5;exact absurd h5 (by decide))
   |(simp at h5;omega)
 cases z with
 |cons L G=>
  cases G;cases L with
  |list ho WH=>exact⟨_,_,ns,rfl,rfl,ho,s8 ns _ WH,u⟩
def vV(l:OpenLaw)(args:List WData):l.row.toRowW.claim.post args (.bool true) args=true:=
 postW_of (r:=l.row.toRowW) (X:=(true==true))
  (show WShape.has [] (.bool true) .bool=true by first|rfl|decide|simp[WShape.has,WShape.arms,WShape.armsAll])
  (show(WTm.eq .res (.lit (.bool true))).value [] {args:=args,res:=some (.bool true),after:=args}=some (.bool (true==true))from w_eq_bool (w_res rfl) w_lit) rfl
def attach_call{l:OpenLaw}{q:Program}{loose:List Str}{XP:(Str->Option Value)->Heap->Prop}{YP:World->Heap->Prop}{d:DefRec}
  (hn:l.most=some n) (hdf:d.params.defaults=[])
  (call:∀ (w:World) (ZG ZE : Shared) (mg R:Str->Option Value) (B:Addr) (o:Obj) (L cd u:Value) (a:Addr) (vs:List Value) (ns:List Int),
   Ground q loose [] XP w ZG mg R ZE.heap->YP w ZE.heap ->
   ZE.heap.get? B=some o->o.data=.func (docDef d.name d.params d.body d.scope L cd u)->ZE.heap.CodeRec cd d.name->mg d.name=some (.ref B) ->
   ZE.heap.get? a=some {cls:=.type "list",data:=.seq vs.toArray}->IntsAre vs ns->ns.length<=n->ZE.gens = #[] ->
   codeAny (model l.prog w) callerA (.call (.ref B) ⟨[.ref a],[]⟩) (λr F=>r=.ok (.ret (.bool true))/\OldK ZE.heap F.heap/\F.os=ZE.os/\AllBare F.gens) ZE) :
  WalkO q loose XP YP l.row.toRowW d [] (λf vs=>PySem.call f vs):=by
 intro w ZG ZE mg R G Z_ B o L cd u dV H8 ho hd Y_ hD Z hg args vals as Ta hlay hrd S V4;obtain rfl:dV=.none:=Dflts.none hD hdf;obtain rfl:H8=.none:=Dflts.noKw hD;let⟨a,vs,ns,rfl,rfl,SI,j,z⟩:=vE hn Ta S;refine enter_call (PF (call w ZG ZE mg R B o L cd u a vs ns G Z_ ho (fd_plain hd) Y_ Z SI j z hg) λr F hq=>?_);let⟨rfl,h2,h3,h4⟩:=hq;exact⟨.inl ⟨.bool true,.bool true,[],rfl,λ_=>rfl,.bool true,vV l _,λ_=>⟨List.Pairwise.nil,λ_ hm=>(nomatch hm)⟩⟩,h2,h3,h4⟩
end Att
namespace L2
open PySem PySem.Spec PyProof.Rows
def fA:∀{vs:List Value} {ns:List Int},IntsAre vs ns->ZH (ns.map V.int) vs
 |_,_,.nil=>.nil
 |_,_,.cons n t h=>.cons ⟨t,rfl⟩ (fA h)
def CV(H:Hp):Prop:=∀b,H b=none \/∃o a,H b=some (.Zn o (.Z5 a))
def v9{mb:Str->Option Value}{k:Nat}{fa:Addr}{x:Str}{sp:Sp}{ZE : Shared}{vs:List Value}
  (KX:K.In ZE.heap) (US:ZE.heap.Ns mainGlobals mg) (hb:ZE.heap.Ns builtinsNs mb) (hbb:∀x:Str,x ≠ "__name__" -> mb x=bootBuiltins x) (Z:ZE.heap.NoLimit) (hg:ZE.gens = #[])
  (ha:ZE.heap.get? a=some {cls:=.type "list",data:=.seq vs.toArray}) (hi:IntsAre vs ns) (hl:ns.length<=sizeLine) (hr:Y9 k callerA)
  (F:∀base:Heap,K.In base->base.Ns mainGlobals mg->X2 P w K mg base CX k fa fd [x] sp) (Rk:∀(s:Shared) (u:Value),BindsTo s fd ⟨[u],[]⟩ [(x,u)])
  (hsp:∀H:Hp,CV H->SqL K H a (ns.map V.int)->sp [.ref a] H (λv _=>v=.bl true) λ_ _ _=>False)
  (hCX:∀H e j,CX [] H ZE (λ_ _ _=>False) e j->False) :
  codeAny (model P w) callerA (.call (.ref fa) ⟨[.ref a],[]⟩) (λr j=>r=.ok (.ret (.bool true))/\OldK ZE.heap j.heap/\j.os=ZE.os/\AllBare j.gens) ZE:=by
 have rv:=fA hi;have R:=hi.length;have G:∀H:Hp,CV H->SqL K H a (ns.map V.int)->HOk P w H ZE.heap->(∀b,H b≠none->b=a)->(H a≠none->K.lookup a=none) ->
   codeAny (model P w) callerA (.call (.ref fa) ⟨[.ref a],[]⟩) (λr j=>r=.ok (.ret (.bool true))/\OldK ZE.heap j.heap/\j.os=ZE.os/\AllBare j.gens) ZE:=by
  intro H hO hS ZK hA hK;have base_of:∀{b:Addr} {o:Obj},ZE.heap.get? b=some o->H b=none->(Bb ZE.heap H).get? b=some o:=λe n=>we e n;have Uk:∀{b:Addr} {o:Obj} {es:Array DictEntry} {ep:Nat},ZE.heap.get? b=some o->o.data=.dict es ep->H b=none:=λ{b o es ep} e d=>by
   cases q:H b with
   |none=>rfl
   |some u=>
    have e':b=a:=hA b (by rw[q];simp)
    subst e';rw[ha]at e;cases e;have d':Data.seq vs.toArray _=Data.dict es ep:=d;cases d'
  have B:∀{b:Addr} {m:Str->Option Value},ZE.heap.Ns b m->(Bb ZE.heap H).Ns b m:=λ{b m} ⟨o,es,ep,e,d,r⟩=>⟨o,es,ep,base_of e (Uk e d),d,r⟩
  have hKb:K.In (Bb ZE.heap H):=λb o e=>base_of (KX b o e) (by
   cases q:H b with
   |none=>rfl
   |some u=>
    have e':b=a:=hA b (by rw[q];simp)
    subst e'
    rw[hK (by rw[q];simp)]at e;cases e)
  have hM:Mod K mg (Bb ZE.heap H):=⟨hKb,B US,⟨mb,B hb,hbb⟩,let⟨mc,h1,h2⟩:=Z;⟨mc,B h1,h2⟩⟩
  have e0:VH P w K mg (Bb ZE.heap H) callerA [] ZE H:=⟨rfl,hM,λb o e=>yz e,Nat.le_of_eq (vW _ _),trivial,λb hb=>absurd (show b∈([]:List Addr)from hb) (by simp),ZK,.of_eq hg⟩
  refine PF ((F _ hKb (B US)).run callerA [] ZE H ⟨[.ref a],[]⟩ [.ref a] [.ref a] _ _ hr e0 (Rk ZE (.ref a)) (.cons rfl .nil) (hsp H hO hS)) λr j h=>?_;cases r with
  |error e=>exact(hCX H e j h).elim
  |ok fl=>
   cases fl with
   |next=>exact False.elim h
   |brk=>exact False.elim h
   |cont=>exact False.elim h
   |ret u=>
    let⟨v,H',os,bare,un,S,r',q⟩:=h;have q':v=.bl true:=q;subst q';obtain rfl:u=Value.bool true:=r';refine⟨rfl,OldK.of_keep λb o e=>?_,os,bare⟩;cases q:H b with
    |none=>exact un.keep b o e q (by intro z;exact absurd (show b∈([]:List Addr)from z) (by simp)) (by simp)
    |some u=>
     rcases hO b with z|⟨ob,xs,z⟩
     .rw [q]at z;cases z
     .have z2:=un.XM b ob _ z
      let⟨e1,_⟩:=ZK b _ z;let⟨e2,_⟩:=S b _ z2;rw[e]at e1;cases e1;exact e2
 cases hk:K.lookup a with
 |some o=>
  have e:=KX a o hk;rw[ha]at e;cases e;refine G (λ_=>none) (λ_=>.inl rfl) (.inr ⟨_,vs.toArray,_,hk,rfl,rfl,rfl,by rw[WQ,R];exact hl,by simpa using rv⟩) (λb u z=>by have L:(none:Option HO)=some u:=z;cases L) (λb z=>absurd rfl z) λz=>absurd rfl z
 |none=>
  refine G (λb=>if b=a then some (.Zn {cls:=.type "list",data:=.seq vs.toArray} (.Z5 (ns.map V.int)))else none) (λb=>?_) (.inl (.inr ⟨{cls:=.type "list",data:=.seq vs.toArray},Y2 rfl⟩)) (λb u z=>?_) (λb z=>?_) λ_=>hk
  .by_cases hb:b=a
   .exact .inr ⟨_,_,Y2 hb⟩
   .exact .inl (YH hb)
  .by_cases hb:b=a
   .have L:=(Y2 hb).symm.trans z
    cases L;subst hb;exact⟨ha,by rw[Z1];exact hl,vs,_,rv,ha⟩
   .have L:=(YH hb).symm.trans z
    cases L
  .by_cases hb:b=a
   .exact hb
   .exact absurd (YH hb) z
end L2
namespace L2
open PySem PySem.Spec PyProof.Rows
def BY(s:Stmt):Arguments:=match s with
 |.FunctionDef _ a _ _ _ _ _ _ _ _=>a
 |_=>{posonlyargs:=[],args:=[],vararg:=none,kwonlyargs:=[],kw_defaults:=[],kwarg:=none,defaults:=[]}
def BZ(s:Stmt):List Stmt:=match s with
 |.FunctionDef _ _ b _ _ _ _ _ _ _=>b
 |_=>[]
def AH(s:Stmt):Scope:=match s with
 |.FunctionDef _ _ _ _ _ _ sc _ _ _=>sc
 |_=>{kind:=.function,names:=[],isGenerator:=false,isCoroutine:=false}
abbrev V3:Xs:=λ_ _ _ _ _ _=>False
abbrev E0:XK:=λ_ _ _=>False
def qw:A2 V3 X E0:=λ_ _ _ _ _ _ _ h=>h.elim
structure Fun(K:HF)(x qual:Str)(st:Stmt)(f:Addr)(fd:FuncData):Prop where
 ex:∃(JH:Value) (od:Option Addr) (H8 doc pm:Value) (an:Option Addr) (Zj ct:Value) (YM:Array (Option Value)),
  fd=PySem.W.fnOf x qual (BY st) (BZ st) (AH st) .none H8 doc pm an Zj ct/\K.lookup f=some ⟨JH,od,.func fd,YM⟩/\PySem.W.codeIn K Zj qual=true
 kp:PySem.W.keepIn K (.ref f)=true
def aW{A B:Prop}(h:B):if false=true then A else B:=by
 rw[YH Hw];exact h
def aV{A B:Prop}(h:A):if true=true then A else B:=by
 rw[Y2 rfl];exact h
end L2
namespace L2
open PySem PySem.Spec PyProof.Rows
section
variable{κ:Type}[DecidableEq κ]
def AD(b:List (κ×V))(k:κ):Option V:=(b.find? λa=>decide (a.1=k)).map (·.2)
def putK(b:List (κ×V))(k:κ)(v:V):List (κ×V):=
 if(b.any λa=>decide (a.1=k))=true then b.map (λa=>if a.1=k then(a.1,v)else a)else b++[(k,v)]
def bM{p:κ×V}{r:List (κ×V)}{k:κ}(e:p.1=k):AD (p::r) k=some p.2:=by simp[AD,Qm,e]
def bL{p:κ×V}{r:List (κ×V)}{k:κ}(e : ¬ p.1=k):AD (p::r) k=AD r k:=by simp[AD,Qm,e]
def jx(k:κ):∀a:List (κ×V),(a.any λb=>decide (b.1=k))=(AD a k).isSome
 |[]=>rfl
 |p::r=>by
  rw[S_];by_cases e:p.1=k
  .simp only [bM e,Qx e,Bool.true_or,Option.isSome_some]
  .rw [bL e,Ry e,Bool.false_or];exact jx k r
def eX(Z4:List (κ×V))(k:κ)(v:V):(putK Z4 k v).length<=Z4.length+1:=by
 unfold putK;split
 .rw [Z1];omega
 .rw [Ww,Uc,Qn];omega
def RelO.Uh{o:Option V}{u:Option Value}(r:RelO o u):o.isSome=u.isSome:=by
 cases o with
 |none=>cases u with
  |none=>rfl
  |some _=>exact(show False from r).elim
 |some _=>cases u with
  |none=>exact(show False from r).elim
  |some _=>rfl
def KV.val{d:List (κ×V)}{vs:List (κ×Value)}(r:KV d vs)(k:κ):RelO (AD d k) (valueAt vs k):=by
 unfold KV at r
 induction r with
 |nil=>exact True.intro
 |@cons p q ps IK h t ih=>
  let⟨c,f⟩:=h;by_cases e:p.1=k
  .have a:q.1=k:=c.symm.trans e
   have b:valueAt (q::IK) k=some q.2:=by simp[valueAt,Qm,a]
   rw[bM e,b];exact f
  .have a : ¬ q.1=k:=λz=>e (c.trans z)
   have b:valueAt (q::IK) k=valueAt IK k:=by simp[valueAt,Qm,a]
   rw[bL e,b];exact ih
def KV.any{b:List (κ×V)}{vs:List (κ×Value)}(r:KV b vs)(k:κ):(b.any λa=>decide (a.1=k))=vs.any λa=>decide (a.1=k):=by
 unfold KV at r
 induction r with
 |nil=>rfl
 |cons h t ih=>rw[S_,S_,ih,h.1]
def KV.WY{c:List (κ×V)}{vs:List (κ×Value)}(r:KV c vs)(k:κ){u:Value}(d:RelV y u):
  KV (c.map λa=>if a.1=k then(a.1,y)else a) (vs.map λa=>if a.1=k then(a.1,u)else a):=by
 unfold KV at r ⊢
 induction r with
 |nil=>exact .nil
 |@cons p q ps IK h t ih=>
  rw[W1,W1];refine .cons ?_ ih;let⟨b,f⟩:=h;by_cases e:p.1=k
  .rw [Y2 e,Y2 (b.symm.trans e)];exact⟨b,d⟩
  .rw [YH e,YH (λz=>e (b.trans z))];exact⟨b,f⟩
def KV.put{b:List (κ×V)}{vs:List (κ×Value)}(r:KV b vs)(k:κ){u:Value}(a:RelV y u):KV (putK b k y) (stored vs k u):=by
 unfold putK stored;rw[r.any k];by_cases e:(vs.any λc=>decide (c.1=k))=true
 .rw [Y2 e,Y2 e];exact r.WY k a
 .rw [YH e,YH e];exact Paired.snoc r ⟨rfl,a⟩
def KV.length{a:List (κ×V)}{vs:List (κ×Value)}(r:KV a vs):a.length=vs.length:=Oo r
end
def cW{k:Key}{u:Value}(r:RelV (H8 k) u):(AA P w).is k u=true:=by
 cases k with
 |inl i=>let⟨t,e⟩:=(show∃t,u=Value.int i t from r);subst e;exact t5 P w i t
 |inr x=>let⟨t,e⟩:=(show∃t,u=Value.str x t from r);subst e;exact tU P w x t
def i7{P:Program}{w:World}:∀{ks:List Key} {S:List Value},ZH (ks.map H8) S->ItemsAre (AA P w) ks S
 |[],_,r=>by rw[NJ]at r;cases r;exact .nil
 |k::ks,_,r=>by
  rw[W1]at r;cases r with
  |cons h t=>exact .cons (cW h) (i7 t)
abbrev KT(H:Hp):List (List Key×V)->List (List Key×Addr×Value)->Prop:=Paired λp q=>p.1=q.1/\H q.2.1=some (.ZY (p.1.map H8))/\RelV p.2 q.2.2
def KT.val{xs:List (List Key×Addr×Value)}(r:KT H Z4 xs)(k:List Key):RelO (AD Z4 k) ((atKey xs k).map (·.2)):=by
 induction r with
 |nil=>exact True.intro
 |@cons p q ps IK h t ih=>
  let⟨c,_,d⟩:=h;by_cases e:p.1=k
  .have a:q.1=k:=c.symm.trans e
   have b:atKey (q::IK) k=some q.2:=by simp[atKey,Qm,a]
   rw[bM e,b];exact d
  .have a : ¬ q.1=k:=λz=>e (c.trans z)
   have b:atKey (q::IK) k=atKey IK k:=by simp[atKey,Qm,a]
   rw[bL e,b];exact ih
def KT.WY{xs:List (List Key×Addr×Value)}(r:KT H Z4 xs)(k:List Key){u:Value}(d:RelV y u):
  KT H (Z4.map λb=>if b.1=k then(b.1,y)else b) (xs.map (putAt k u)):=by
 induction r with
 |nil=>exact .nil
 |@cons p q ps IK h t ih=>
  rw[W1,W1];refine .cons ?_ ih;let⟨a,c,f⟩:=h;unfold putAt;by_cases e:p.1=k
  .rw [Y2 e,Y2 (a.symm.trans e)];exact⟨a,c,d⟩
  .rw [YH e,YH (λz=>e (a.trans z))];exact⟨a,c,f⟩
def KT.put{xs:List (List Key×Addr×Value)}(r:KT H Z4 xs)(k:List Key){u:Value}(d:H b=some (.ZY (k.map H8)))(a:RelV y u):
  KT H (putK Z4 k y) (storedH xs k b u):=by
 have e:(Z4.any λc=>decide (c.1=k))=(atKey xs k).isSome:=by
  rw[jx,(r.val k).Uh,OG]
 unfold putK storedH;rw[e];by_cases q:(atKey xs k).isSome=true
 .rw [Y2 q,Y2 q];exact r.WY k a
 .rw [YH q,YH q];exact Paired.snoc r ⟨rfl,d,a⟩
def KT.keeps{xs:List (List Key×Addr×Value)}(r:KT H Z4 xs)(c:∀b a,H b=some (.ZY a)->H' b=some (.ZY a)):KT H' Z4 xs:=
 Paired.SQ r λ_ _ z=>⟨z.1,c _ _ z.2.1,z.2.2⟩
section
def rO{u:HO}(ok:HOk P w H h)(e:Rd H a u):ObjOk P w H h a u:=e.ok ok
def cU{b:List (Key×V)}(c:HOk P w H h)(e:Rd H a (.dK b)):b.length<=sizeLine/\(a==sysModules)=false /\∃vs,KV b vs/\h.DictOf (AA P w) a vs:=
 show ObjOk P w H h a (.dK b)from rO c e
def acb{b:List (Key×V)}(c:HOk P w H h)(e:H a=some (.dK b)):b.length<=sizeLine/\(a==sysModules)=false /\∃vs,KV b vs/\h.DictOf (AA P w) a vs:=cU c (.inl e)
def bU{ks:List Key}(ok:HOk P w H h)(e:H a=some (.ZY (ks.map H8))):(tupleKind (AA P w)).is h ks a:=by
 let⟨_,ZU,r,o,z,u,n,j⟩:=(show ObjOk P w H h a (.ZY (ks.map H8))from ok a _ e);exact⟨o,ZU.toArray,n,z,u,j,by simpa using i7 r⟩
def cX(ok:HOk P w H h)(e:Rd H a (.dT Z4)):Z4.length<=sizeLine/\(a==sysModules)=false /\
  ∃xs,KT H Z4 xs/\h.DictOfH (tupleKind (AA P w)) a xs:=by
 let⟨z,y,xs,r,o,es,ep,G,F,B,h4,u⟩:=(show ObjOk P w H h a (.dT Z4)from rO ok e);refine⟨z,y,xs,r,o,es,ep,G,F,B,h4,λx hx=>?_,u⟩;have all:∀{l:List (List Key×V)} {m:List (List Key×Addr×Value)},KT H l m ->∀x∈m,(tupleKind (AA P w)).is h x.1 x.2.1:=by
  intro l m q
  induction q with
  |nil=>intro x hx;exact nomatch hx
  |@cons p q ps IK j t ih=>
   intro x hx;rcases Vh.mp hx with e|hx
   .subst e
    exact bU ok (by rw[<-j.1];exact j.2.1)
   .exact ih x hx
 exact all r x hx
def qz(ok:HOk P w H h)(e:H a=some (.dT Z4)):Z4.length<=sizeLine/\(a==sysModules)=false /\
  ∃xs,KT H Z4 xs/\h.DictOfH (tupleKind (AA P w)) a xs:=cX ok (.inl e)
end
def DGet(H:Hp)(a:Addr)(y:V)(r:Option V):Prop:=
 (∃c k,Rd H a (.dK c)/\y=H8 k/\r=AD c k) \/∃c k b,Rd H a (.dT c)/\y=.ref b/\H b=some (.ZY (k.map H8))/\r=AD c k
def DPut(H:Hp)(a:Addr)(y v:V)(j:Hp):Prop:=
 (∃Z4 k,H a=some (.dK Z4)/\y=H8 k/\Z4.length<sizeLine/\j=upd H a (.dK (putK Z4 k v))) \/
 ∃Z4 k b,H a=some (.dT Z4)/\y=.ref b/\H b=some (.ZY (k.map H8))/\Z4.length<sizeLine/\j=upd H a (.dT (putK Z4 k v))
def DGet.k{H:Hp}{a:Addr}{b:List (Key×V)}{k:Key}(e:H a=some (.dK b)):DGet H a (H8 k) (AD b k):=.inl ⟨b,k,.inl e,rfl,rfl⟩
def DGet.t{k:List Key}(e:H a=some (.dT Z4))(c:H b=some (.ZY (k.map H8))):DGet H a (.ref b) (AD Z4 k):=.inr ⟨Z4,k,b,.inl e,rfl,c,rfl⟩
def DPut.k{H:Hp}{a:Addr}{Z4:List (Key×V)}{k:Key}{v:V}(e:H a=some (.dK Z4))(j:Z4.length<sizeLine):DPut H a (H8 k) v (upd H a (.dK (putK Z4 k v))):=.inl ⟨Z4,k,e,rfl,j,rfl⟩
def DPut.t{k:List Key}(e:H a=some (.dT Z4))(u:H b=some (.ZY (k.map H8)))(j:Z4.length<sizeLine):
  DPut H a (.ref b) v (upd H a (.dT (putK Z4 k v))):=.inr ⟨Z4,k,b,e,rfl,u,j,rfl⟩
section
variable{O:St}{u r:Value}{o:Option V}{E:Value->Shared->Prop}
def Z0.Wp(I:Z0 X Y O H s):sysModules<s.heap.objs.size:=by
 have h:mainGlobals<s.heap.objs.size:=(I.mod.glob.keeps I.bk).lt;exact OH (by decide) h
def vj{Q:Value->Shared->Prop}(hu:A.units+1<cLine)(I:Z0 X Y O H s)(g:DGet H a y (some v))(S:RelV y u)(h:∀B R,Z0 X Y O H R->RelV v B->Q B R):
  wpAny (model X.prog X.w) A (getItem (.ref a) u) Q E s:=by
 rcases g with⟨Z4,k,e,G,l⟩|⟨Z4,k,b,e,G,eb,l⟩
 .subst G
  let⟨z,hd,Z,j,dd⟩:=cU I.ZK e;let⟨B,F,L⟩:=RelO.some_of (v:=v) (o:=valueAt Z k) (by rw[l];exact j.val k)
  exact wpAny_getItem_of (cW S) dd.mapOf F (h B _ (I.tok _) L)
 .subst G
  cases(show u=Value.ref b from S);let⟨z,hd,xs,j,dd⟩:=cX I.ZK e;let⟨B,F,L⟩:=RelO.some_of (v:=v) (o:=(atKey xs k).map (·.2)) (by rw[l];exact j.val k)
  let⟨p,hp,WG⟩:=Vu.mp F;refine wpAny_getItem_heap (Ow hu) (bU I.ZK eb) dd hp ?_;rw[WG];exact h B _ (I.tok _) L
def ac4{Q:Value->Shared->Prop}(L:A.units+1<cLine)(I:Z0 X Y O H s)(g:DGet H a y o)(G:RelV y u)(h:∀F,Z0 X Y O H F->Q (.bool o.isSome) F):
  wpAny (model X.prog X.w) A (compareOp .In u (.ref a)) Q E s:=by
 rcases g with⟨Z4,k,e,B,l⟩|⟨Z4,k,b,e,B,R,l⟩
 .subst B
  let⟨z,hd,S,j,dd⟩:=cU I.ZK e;refine wpAny_in_of (cW G) hd dd.mapOf ?_;rw[<-(j.val k).Uh,<-l];exact h _ (I.tok _)
 .subst B
  cases(show u=Value.ref b from G);let⟨z,hd,xs,j,dd⟩:=cX I.ZK e;refine wpAny_in_heap (Ow L) (bU I.ZK R) hd dd ?_;have q:=(j.val k).Uh;rw[OG]at q;rw[<-q,<-l];exact h _ (I.tok _)
def zj{Q:Value->Shared->Prop}(L:A.units+1<cLine)(I:Z0 X Y O H s)(g:DGet H a y o)(G:RelV y u)(h:∀F,Z0 X Y O H F->Q (.bool (!o.isSome)) F):
  wpAny (model X.prog X.w) A (compareOp .NotIn u (.ref a)) Q E s:=by
 rcases g with⟨Z4,k,e,B,l⟩|⟨Z4,k,b,e,B,R,l⟩
 .subst B
  let⟨z,hd,S,j,dd⟩:=cU I.ZK e;refine wpAny_notIn_of (cW G) hd dd.mapOf ?_;rw[<-(j.val k).Uh,<-l];exact h _ (I.tok _)
 .subst B
  cases(show u=Value.ref b from G);let⟨z,hd,xs,j,dd⟩:=cX I.ZK e;refine wpAny_notIn_heap (Ow L) (bU I.ZK R) hd dd ?_;have q:=(j.val k).Uh;rw[OG]at q;rw[<-q,<-l];exact h _ (I.tok _)
def gq{c:HO}(I:Z0 X Y O H s)(d:Mut (H a))(f:Heap.SameBut a s.heap h')(g:∃q,h'.get? a=some q)(new:ObjOk X.prog X.w (upd H a c) h' a c):
  Z0 X Y O (upd H a c) {s with heap:=h',toks:=t'}:=
 I.write (x:=a) (e:=a) d (.inl rfl) (λb q h z=>(f.2 b h).trans z) g new
def abG{c:List (Key×V)}{vs:List (Key×Value)}(z:c.length<=sizeLine)(d:(a==sysModules)=false)(b:KV c vs)(dd:h'.DictOf (AA P w) a vs):
  ObjOk P w H' h' a (.dK c):=⟨z,d,vs,b,dd⟩
def u9{Q:Unit->Shared->Prop}(hu:A.units+1<cLine)(I:Z0 X Y O H s)(g:DPut H a y v H')(ry:RelV y u)(rv:RelV v r)(h:∀Z,Z0 X Y O H' Z->Q Unit.unit Z):
  wpAny (model X.prog X.w) A (setItem (.ref a) u r) Q E s:=by
 rcases g with⟨Z4,k,e,R,l,S⟩|⟨Z4,k,b,e,R,eb,l,S⟩
 .subst R S
  let⟨z,hd,vs,j,dd⟩:=acb I.ZK e;have G:vs.length<=sizeLine:=by rw[<-j.length];exact z
  have L:(putK Z4 k v).length<=sizeLine:=by have:=eX Z4 k v;omega
  refine wpAny_setItem_pairs (hsz:=G) (cW ry) dd λh' F hs=>h _ ?_;have he:∃q,h'.get? a=some q:=let⟨q,_,_,B,_⟩:=F;⟨q,B⟩
  exact gq I (by rw[e];exact True.intro) hs he (abG L hd (j.put k rv) F)
 .subst R S
  cases(show u=Value.ref b from ry);let⟨z,hd,xs,j,dd⟩:=qz I.ZK e;have G:xs.length<=sizeLine:=by rw[<-Oo j];exact z
  have L:(putK Z4 k v).length<=sizeLine:=by have:=eX Z4 k v;omega
  refine wpAny_setItem_heap (hsz:=G) (Ow hu) (bU I.ZK eb) dd λh' F hs=>h _ ?_;let⟨q,es,ep,B,h2,h3,h4,_,h5⟩:=F;refine gq I (by rw[e];exact True.intro) hs ⟨q,B⟩ ⟨L,hd,_,(j.put k eb rv).keeps λc ys ec=>?_,q,es,ep,B,h2,h3,h4,h5⟩
  rw[aa (cY ec e (λz=>nomatch z))];exact ec
end
end L2
namespace L2
open PySem PySem.Spec PyProof.Rows
def jE(h:Heap)(hb:sysModules<h.objs.size):ObjOk P w H (h.push {cls:=.type "dict",data:=.dict #[]}) h.objs.size (.dT []):=
 ⟨P7 _,O6.mpr (Ne.symm (HA hb)),[],.nil,_,#[],0,HB _ rfl,⟨rfl,rfl,rfl⟩,rfl,rfl,List.nodup_nil⟩
def Gk:TE:=λ_ H Q=>∀p,H p=none->Q (.ref p) (upd H p (.dT []))
section
def wV:PE X (.Dict [] [] pos) Gk:=λY s O H Q I h=>
 wpAny_Dict_empty ⟨.ref s.heap.objs.size,_,I.laid (a:=s.heap.objs.size) (o:=.dT []) (t':=s.toks) (λ_ _ q=>Ht _ q) (Hx _) (jE s.heap I.Wp),rfl,h _ (I.ZK.fresh (Hx _))⟩
end
structure M1(X:Cx)(o:Expr)(m:Str)(apos:Pos)(e:Expr)(Zr:Pos):Prop where
 base:attributeBase o m X.env (eval o X.env)=eval o X.env
 few:((backTo Zr (starEach [e] X.env)).all (λx => !x.1) && (backToKw Zr (keywordEach [] X.env)).all (λx=>x.1.isSome)
  && decide (([e]:List Expr).length+([]:List Keyword).length+(if([]:List Keyword).isEmpty then 0 else 1)<30))=true
 line:(apos.endLine==Zr.line)=true
 trees:backTo Zr (starEach [e] X.env)=[(false,eval e X.env)]
structure M2(X:Cx)(o:Expr)(m:Str)(apos:Pos)(e f:Expr)(Zr:Pos):Prop where
 base:attributeBase o m X.env (eval o X.env)=eval o X.env
 few:((backTo Zr (starEach [e,f] X.env)).all (λx => !x.1) && (backToKw Zr (keywordEach [] X.env)).all (λx=>x.1.isSome)
  && decide (([e,f]:List Expr).length+([]:List Keyword).length+(if([]:List Keyword).isEmpty then 0 else 1)<30))=true
 line:(apos.endLine==Zr.line)=true
 trees:backTo Zr (starEach [e,f] X.env)=[(false,eval e X.env),(false,eval f X.env)]
end L2
namespace PI
noncomputable section
open PySem
def Ip(M:Nat)(p:SetTable.Probe):SetTable.Probe:=
 if p.more > 0 then{p with j:=p.j+1,more:=p.more-1}else
 let(i,perturb):=SetTable.leap M p.i p.perturb
 {p with j:=i,more:=SetTable.runEnd M i-i,i,perturb}
def Ao(M:Nat):Nat->SetTable.Probe->SetTable.Probe
 |0,p=>p
 |n+1,p=>Ao M n (Ip M p)
def Iq(M:Nat)(h:Int):SetTable.Probe:=
 let i:=SetTable.bits h % (M+1)
 {j:=i,more:=SetTable.runEnd M i-i,i,perturb:=SetTable.bits h,dummy:=none}
def Ir(M:Nat)(h:Int)(n:Nat):Nat:=(Ao M n (Iq M h)).j
def dJ(M:Nat):∀(a b:Nat) (p:SetTable.Probe),Ao M (a+b) p=Ao M b (Ao M a p)
 |0,b,p=>by rw[Pb];rfl
 |a+1,b,p=>by rw[Nat.succ_add];exact dJ M a b _
def vG(M n:Nat)(p:SetTable.Probe):Ao M (n+1) p=Ip M (Ao M n p):=dJ M n 1 p
def vD(M:Nat)(p:SetTable.Probe):(Ip M p).dummy=p.dummy:=by unfold Ip;split<;>rfl
def iL(M:Nat):∀(n:Nat) (p:SetTable.Probe),(Ao M n p).dummy=p.dummy
 |0,_=>rfl
 |n+1,p=>(iL M n _).trans (vD M p)
def fW(M:Nat):∀(n:Nat) (p:SetTable.Probe),n<=p.more->Ao M n p={p with j:=p.j+n,more:=p.more-n}
 |0,p,_=>rfl
 |n+1,p,h=>by
  have e:Ip M p={p with j:=p.j+1,more:=p.more-1}:=by unfold Ip;rw[Y2 ()]
  show Ao M n (Ip M p)=_;rw[e,fW M n _ (by show n<=p.more-1;omega)]
  show SetTable.Probe.mk .. = SetTable.Probe.mk ..;congr 1
  .show p.j+1+n=p.j+(n+1);omega
  .show p.more-1-n=p.more-(n+1);omega
def head(M i q:Nat):SetTable.Probe:={j:=i,more:=SetTable.runEnd M i-i,i,perturb:=q,dummy:=none}
def jA(M i q:Nat):Ao M (SetTable.runEnd M i-i+1) (head M i q)=head M ((i*5+1+q / 32) % (M+1)) (q / 32):=by
 rw[vG,fW M (SetTable.runEnd M i-i) (head M i q) (Hx _)];unfold Ip;rw[YH (by show ¬ (SetTable.runEnd M i-i-(SetTable.runEnd M i-i)) > 0;omega)]
 rfl
def aa7(M i:Nat):SetTable.runEnd M i-i<=9:=by unfold SetTable.runEnd;split<;>omega
def Iu(M:Nat):Nat->Nat×Nat->Nat×Nat
 |0,x=>x
 |k+1,x=>Iu M k ((x.1*5+1+x.2 / 32) % (M+1),x.2 / 32)
def eF(M:Nat):∀(a b:Nat) (x:Nat×Nat),Iu M (a+b) x=Iu M b (Iu M a x)
 |0,b,x=>by rw[Pb];rfl
 |a+1,b,x=>by rw[Nat.succ_add];exact eF M a b _
def ju(M:Nat):∀(k:Nat) (i q:Nat),∃n,n<=10*k/\Ao M n (head M i q)=head M (Iu M k (i,q)).1 (Iu M k (i,q)).2
 |0,i,q=>⟨0,Hx _,rfl⟩
 |k+1,i,q=>by
  let⟨n,hn,e⟩:=ju M k ((i*5+1+q / 32) % (M+1)) (q / 32);refine⟨(SetTable.runEnd M i-i+1)+n,by have:=aa7 M i;omega,?_⟩
  rw[dJ,jA,e];rfl
def gQ(M:Nat):∀(k:Nat) (x:Nat×Nat),(Iu M k x).2=x.2 / 32 ^ k
 |0,x=>by rw[Nat.pow_zero,Nat.div_one];rfl
 |k+1,x=>by
  show(Iu M k _).2=_;rw[gQ M k,Nat.div_div_eq_div_mul,Nat.pow_succ,Nat.mul_comm (32 ^ k)]
def Iv(M:Nat)(k:Nat):Nat:=(Iu M k (0,0)).1
def lF(M:Nat)(k i:Nat):Iu M k (i,0)=((Iu M k (i,0)).1,0):=by
 have:=gQ M k (i,0);rw[Nat.zero_div]at this;exact N5 rfl this
def Ci(M:Nat):Nat->Nat->List Nat
 |0,_=>[]
 |n+1,i=>i::Ci M n ((i*5+1) % (M+1))
def Iw(M:Nat):Bool:=(List.range (M+1)).all λj=>(Ci M (M+1) 0).contains j
def Mok(M:Nat):Prop:=M=7\/M=31\/M=127\/M=511
def jz(M:Nat):∀(n i k:Nat),k<n->(Ci M n i)[k]?=some (Iu M k (i,0)).1
 |0,_,_,h=>by omega
 |n+1,i,0,_=>rfl
 |n+1,i,k+1,h=>by
  show(Ci M n _)[k]?=_;rw[jz M n _ k ()]
  show _=some (Iu M k ((i*5+1+0 / 32) % (M+1),0 / 32)).1;rw[Nat.zero_div,Nat.add_zero]
def jX(M:Nat):∀(n i:Nat),(Ci M n i).length=n
 |0,_=>rfl
 |n+1,i=>QU (· + 1) (jX M n _)
def mR(h:Mok M):Iw M=true/\Iv M (M+1)=0:=by
 rcases h with rfl|rfl|rfl|rfl<;>decide +kernel
def kA(h:Mok M)(b:j<=M):∃k,k<=M/\Iv M k=j:=by
 have h1:=(mR h).1;unfold Iw at h1;rw[Tc]at h1;have h2:=h1 j (QC.mpr ())
 rw[Qc]at h2;let⟨k,hk,e⟩:=Ol h2;have a:k<M+1:=by rw[jX]at hk;exact hk
 refine⟨k,by omega,?_⟩
 have:=jz M (M+1) 0 k a;rw[Xn hk,e]at this;exact(TQ this).symm
def zi(h:Mok M)(k:Nat):Iv M (M+1+k)=Iv M k:=by
 unfold Iv;rw[eF,lF M (M+1) 0];rw[show(Iu M (M+1) (0,0)).1=0 from(mR h).2]
def yI(h:Mok M)(hi:i<=M)(d:j<=M):∃k,k<=M/\(Iu M k (i,0)).1=j:=by
 let⟨a,g,e⟩:=kA h hi;let⟨b,f,c⟩:=kA h d;have key:∀k,(Iu M k (i,0)).1=Iv M (a+k):=λk=>by
  unfold Iv;rw[eF,lF M a 0];rw[show(Iu M a (0,0)).1=i from e]
 by_cases l:a<=b
 .exact ⟨b-a,by omega,by rw[key,show a+(b-a)=b by omega];exact c⟩
 .exact ⟨M+1+b-a,by omega,by rw[key,show a+(M+1+b-a)=M+1+b by omega,zi h];exact c⟩
def yc(h:Int):SetTable.bits h<2 ^ 64:=by
 unfold SetTable.bits;have u:0<=h % (2 ^ 64:Int):=O3 _ (by decide)
 have j:h % (2 ^ 64:Int)<2 ^ 64:=Ox _ (by decide)
 omega
def qH(M:Nat):∀(k:Nat) (x:Nat×Nat),x.1<=M->(Iu M k x).1<=M
 |0,x,h=>h
 |k+1,x,_=>qH M k _ (Nl (NK _ ()))
def jk(z:Mok M)(h:Int)(u:j<=M):∃k,k<=M+13/\(Iu M k (SetTable.bits h % (M+1),SetTable.bits h)).1=j:=by
 have F:(Iu M 13 (SetTable.bits h % (M+1),SetTable.bits h)).2=0:=by
  rw[gQ];exact Nat.div_eq_of_lt (OH (yc h) (by decide))
 have B:(Iu M 13 (SetTable.bits h % (M+1),SetTable.bits h)).1<=M:=qH M 13 _ (Nl (NK _ ()))
 let⟨k,hk,e⟩:=yI z B u;refine⟨13+k,by omega,?_⟩
 rw[eF];have:Iu M 13 (SetTable.bits h % (M+1),SetTable.bits h)=((Iu M 13 (SetTable.bits h % (M+1),SetTable.bits h)).1,0):=N5 rfl F;rw[this];exact e
def wZ(b:Mok M)(h:Int)(a:j<=M):∃n,n<10*SetTable.turns M/\Ir M h n=j:=by
 let⟨k,hk,e⟩:=jk b h a;let⟨n,d,c⟩:=ju M k (SetTable.bits h % (M+1)) (SetTable.bits h);refine⟨n,by unfold SetTable.turns;omega,?_⟩
 unfold Ir;rw[show Iq M h=head M (SetTable.bits h % (M+1)) (SetTable.bits h)from rfl,c];exact e
def zJ(p:SetTable.Probe)(h:p.j+p.more<=M):(Ip M p).j+(Ip M p).more<=M:=by
 unfold Ip;split
 .show p.j+1+(p.more-1)<=M;omega
 .show (p.i*5+1+p.perturb / 32) % (M+1)+(SetTable.runEnd M ((p.i*5+1+p.perturb / 32) % (M+1))-(p.i*5+1+p.perturb / 32) % (M+1))<=M
  have:(p.i*5+1+p.perturb / 32) % (M+1)<M+1:=NK _ ()
  unfold SetTable.runEnd;split<;>omega
def kq{M:Nat}:∀(n:Nat) (p:SetTable.Probe),p.j+p.more<=M->(Ao M n p).j<=M
 |0,p,h=>by show p.j<=M;omega
 |n+1,p,h=>kq n _ (zJ p h)
def eN(M:Nat)(h:Int)(n:Nat):Ir M h n<=M:=by
 refine kq n _ ?_;show SetTable.bits h % (M+1)+(SetTable.runEnd M (SetTable.bits h % (M+1))-SetTable.bits h % (M+1))<=M;have:SetTable.bits h % (M+1)<M+1:=NK _ ()
 unfold SetTable.runEnd;split<;>omega
def wX{P:Nat->Prop}:∀(n:Nat),P n ->∃N,N<=n/\P N /\∀m,m<N -> ¬ P m:=λn=>by
 induction n using Nat.strongRecOn with
 |_ n ih=>
  intro h;by_cases f:∃m,m<n/\P m
  .obtain ⟨m,e,d⟩:=f
   let⟨N,a,b,c⟩:=ih m e d;exact⟨N,by omega,b,c⟩
  .exact ⟨n,Hx _,h,λm e d=>f ⟨m,e,d⟩⟩
def fU(xs:Array Nat)(j:Nat)(d:∀(a b x y:Nat),a<b->xs[a]?=some x->xs[b]?=some y->x<y):∀(fu lo hi:Nat),hi-lo<=fu->lo<=hi->hi<=xs.size ->
  (∀i x,i<lo->xs[i]?=some x->x<j)->(∀i x,hi<=i->xs[i]?=some x->j<=x) ->
  (∀i x,i<SetTable.below.go xs j fu lo hi->xs[i]?=some x->x<j)/\(∀i x,SetTable.below.go xs j fu lo hi<=i->xs[i]?=some x->j<=x)/\SetTable.below.go xs j fu lo hi<=xs.size
 |0,lo,hi,h,h',hs,h1,h2=>⟨h1,λi x g e=>h2 i x (by have:lo<=i:=g;omega) e,by show lo<=_;omega⟩
 |fu+1,lo,hi,h,h',hs,h1,h2=>by
  unfold SetTable.below.go;split
  .rename_i m
   dsimp only;have k:(lo+hi) / 2<xs.size:=by omega
   have f:xs[(lo+hi) / 2]?=some xs[(lo+hi) / 2]:=VQ k;have l:xs.getD ((lo+hi) / 2) j=xs[(lo+hi) / 2]:=by unfold Array.getD;rw[dif_pos k];rfl
   rw[l];by_cases c:xs[(lo+hi) / 2]<j
   .rw [Y2 c]
    refine fU xs j d fu ((lo+hi) / 2+1) hi () () hs (λi x g e=>?_) h2
    by_cases q:i=(lo+hi) / 2
    .subst q;rw[f]at e;cases e;exact c
    .exact OH (d i _ x _ () e f) c
   .rw [YH c]
    refine fU xs j d fu lo ((lo+hi) / 2) () () () h1 λi x g e=>?_
    by_cases q:i=(lo+hi) / 2
    .subst q;rw[f]at e;cases e;omega
    .have:=d _ i _ x () f e;omega
  .rename_i m
   exact⟨h1,λi x g e=>h2 i x () e,by omega⟩
abbrev Z3:=List (Nat×Int×Value)
structure Tb(t:SetTable)(es:Array (Int×Value))(Z:Z3):Prop where
 hp:t.place=(Z.map (·.1)).toArray
 he:es=(Z.map (·.2)).toArray
 hd:t.dummies = #[]
 hs:Z.Pairwise λa b=>a.1<b.1
 hl:∀z∈Z,z.1<=t.mask
 hM:Mok t.mask
 hn:Z.length<=t.mask
 met:∀z∈Z,∃n,Ir t.mask z.2.1 n=z.1 /\∀m,m<n ->∃y∈Z,y.1=Ir t.mask z.2.1 m
section
variable{t:SetTable}{es:Array (Int×Value)}{Z:Z3}
def Tb.get(T:Tb t es Z){x:Nat}:t.place[i]?=some x ↔ ∃z,Z[i]?=some z/\z.1=x:=by
 rw[T.hp];simp[VV]
def Tb.lt(T:Tb t es Z)(a b x y:Nat)(h:a<b)(i:t.place[a]?=some x)(g:t.place[b]?=some y):x<y:=by
 let⟨z,f,rfl⟩:=T.get.mp i;let⟨u,e,rfl⟩:=T.get.mp g;let⟨d,rfl⟩:=YE.mp f;let⟨c,rfl⟩:=YE.mp e;exact QR.mp T.hs a b d c h
def Tb.below(T:Tb t es Z)(j:Nat):(∀i x,i<SetTable.below t.place j->t.place[i]?=some x->x<j)/\(∀i x,SetTable.below t.place j<=i->t.place[i]?=some x->j<=x)/\SetTable.below t.place j<=t.place.size:=
 fU t.place j T.lt t.place.size 0 t.place.size () (P7 _) (Hx _) (λi x h _=>by omega) (λi x h e=>by
  have:=(Th.mp e).1;omega)
def Tb.live(T:Tb t es Z){i:Nat}{z:Nat×Int×Value}(h:Z[i]?=some z):t.slot z.1=.live i:=by
 let⟨B,u,F⟩:=T.below z.1;have e:t.place[i]?=some z.1:=T.get.mpr ⟨z,h,rfl⟩;have hi:SetTable.below t.place z.1=i:=by
  rcases Nat.lt_trichotomy (SetTable.below t.place z.1) i with q|q|q
  .have hs:SetTable.below t.place z.1<t.place.size:=OH q (Th.mp e).1
   have j:t.place[SetTable.below t.place z.1]?=some t.place[SetTable.below t.place z.1]:=VQ hs;have h1:=u _ _ (Hx _) j;have h2:=T.lt _ _ _ _ q j e;omega
  .exact q
  .have:=B i _ q e;omega
 unfold SetTable.slot;dsimp only;rw[hi,e,Y2 (by simp)]
def Tb.empty(T:Tb t es Z){j:Nat}(h:∀z∈Z,z.1≠j):t.slot j=.empty:=by
 unfold SetTable.slot;dsimp only;rw[YH,YH]
 .rw [T.hd];unfold SetTable.has;simp
 .intro e
  have e:t.place[SetTable.below t.place j]?=some j:=by simpa using e
  let⟨z,b,a⟩:=T.get.mp e;exact h z (TY b) a
def Tb.slots(T:Tb t es Z)(j:Nat):(∃i z,Z[i]?=some z/\z.1=j/\t.slot j=.live i)\/((∀z∈Z,z.1≠j)/\t.slot j=.empty):=by
 by_cases h:∃z∈Z,z.1=j
 .obtain ⟨z,a,rfl⟩:=h
  let⟨i,e⟩:=P8 a;exact .inl ⟨i,z,e,rfl,T.live e⟩
 .have b:∀z∈Z,z.1≠j:=λz a e=>h ⟨z,a,e⟩
  exact .inr ⟨b,T.empty b⟩
def Tb.Rj(T:Tb t es Z):∃j,j<=t.mask /\∀z∈Z,z.1≠j:=by
 refine HC λc=>?_;have d:List.range (t.mask+1) ⊆ Z.map (·.1):=λj a=>by
  have a:=QC.mp a;refine HC λhn=>c ⟨j,by omega,λz b e=>hn (Ud.mpr ⟨z,b,e⟩)⟩
 have h2:=OR (Ny) d;rw[OI,Z1]at h2;have:=T.hn;omega
def Tb.hash(T:Tb t es Z)(h:Z[i]?=some z):es[i]?=some z.2:=by
 rw[T.he];simp[h]
noncomputable def Xr(a:Array (Int×Value))(i:Nat):Int:=(a[i]?.map (·.1)).getD 0
def Tb.Xr(T:Tb t es Z){i:Nat}{z:Nat×Int×Value}(h:Z[i]?=some z):Xr es i=z.2.1:=by
 unfold PI.Xr;rw[T.hash h];rfl
def iH{f:Nat->Int}{h:Int}:∀(n fu:Nat) (p:SetTable.Probe),(∀m,m<n ->∃i,t.slot (Ao t.mask m p).j=.live i/\f i≠h) ->
  SetTable.probe.go t f h (fu+n) p=SetTable.probe.go t f h fu (Ao t.mask n p)
 |0,fu,p,_=>rfl
 |n+1,fu,p,H=>by
  let⟨i,e,hi⟩:=H 0 (Nat.succ_pos _);have e:t.slot p.j=.live i:=e;show SetTable.probe.go t f h ((fu+n)+1) p=_;rw[SetTable.probe.go,e];dsimp only;rw[YH (by simpa using hi)]
  exact iH n fu (Ip t.mask p) λm a=>H (m+1) ()
def Tb.probe(T:Tb t es Z)(h:Int):
  (∃i z j nx,Z[i]?=some z/\z.2.1=h/\z.1=j/\t.probe (PI.Xr es) h (t.probeStart h)=some (.candidate j i nx)) \/
  ((∀z∈Z,z.2.1≠h) /\∃N,t.probe (PI.Xr es) h (t.probeStart h)=some (.empty (Ir t.mask h N) none)/\(∀z∈Z,z.1≠Ir t.mask h N)/\Ir t.mask h N<=t.mask /\∀m,m<N ->∃y∈Z,y.1=Ir t.mask h m):=by
 let⟨j0,S,hf0⟩:=T.Rj;let⟨n0,Wo,e0⟩:=wZ T.hM h S
 let P:Nat->Prop:=λn=>∀i,t.slot (Ir t.mask h n)=.live i->PI.Xr es i=h
 have hP0:P n0:=λi e=>by
  rw[e0,T.empty hf0]at e;cases e
 let⟨N,hN,PN,R1⟩:=wX n0 hP0;have skip:∀m,m<N ->∃i,t.slot (Ao t.mask m (t.probeStart h)).j=.live i/\PI.Xr es i≠h:=λm R=>by
  have:=R1 m R;refine HC λhc=>this λi e=>HC λYT=>hc ⟨i,e,YT⟩
 have run:t.probe (PI.Xr es) h (t.probeStart h)=SetTable.probe.go t (PI.Xr es) h ((10*SetTable.turns t.mask-N-1)+1) (Ao t.mask N (t.probeStart h)):=by
  unfold SetTable.probe;have:10*SetTable.turns t.mask=((10*SetTable.turns t.mask-N-1)+1)+N:=by omega
  rw[this];rw[iH N _ _ skip];congr 1;omega
 have u:∀m,m<N ->∃y∈Z,y.1=Ir t.mask h m:=λm R=>by
  let⟨i,e,_⟩:=skip m R;rcases T.slots (Ir t.mask h m)with⟨i',z,G,e1,B⟩|⟨_,B⟩
  .exact ⟨z,TY G,e1⟩
  .rw [show(Ao t.mask m (t.probeStart h)).j=Ir t.mask h m from rfl,B]at e;cases e
 rcases T.slots (Ir t.mask h N)with⟨i,z,G,e1,B⟩|⟨hn,B⟩
 .refine .inl ⟨i,z,_,t.advance (Ao t.mask N (t.probeStart h)),G,?_,e1,?_⟩
  .rw [<-T.Xr G];exact PN i B
  .rw [run,SetTable.probe.go]
   rw[show (Ao t.mask N (t.probeStart h)).j=Ir t.mask h N from rfl,B];dsimp only;rw[Y2 (by rw[PN i B];simp)]
 .refine .inr ⟨λz L eh=>?_,N,?_,hn,?_,u⟩
  .obtain ⟨F,en,hb⟩:=T.met z L
   rw[eh]at en hb;rcases OJ N F with q|q
   .obtain ⟨y,hy,ey⟩:=hb N q
    exact hn y hy ey
   .rcases OJ F N with q2|q2
    .have:=R1 F q2
     let⟨i,ei⟩:=P8 L;refine this λi' e'=>?_;rw[en,T.live ei]at e';cases e';rw[T.Xr ei];exact eh
    .have:F=N:=by omega
     subst this;exact hn z L en.symm
  .rw [run,SetTable.probe.go]
   rw[show (Ao t.mask N (t.probeStart h)).j=Ir t.mask h N from rfl,B];dsimp only;rw[show (Ao t.mask N (t.probeStart h)).dummy=none from iL _ _ _]
  .exact eN _ _ _
end
section
variable{t:SetTable}{es:Array (Int×Value)}{Z:Z3}
def iz(xs:List α)(p:Nat)(x:α):SetTable.insertAt xs.toArray p x=(xs.take p++x::xs.drop p).toArray:=by
 apply OS.mp;rw[SetTable.toList_insertAt]
def d7{xs:List α}{p:Nat}{x y:α}:y∈xs.take p++x::xs.drop p↔y=x\/y∈xs:=by
 rw[Vj,Vh];constructor
 .rintro (h|h|h)
  .exact .inr (P9 h)
  .exact .inl h
  .exact .inr (Pw h)
 .rintro (h|h)
  .exact .inr (.inl h)
  .rw [<-Ug p xs,Vj]at h
   exact h.elim .inl λh=>.inr (.inr h)
def Tb.put(T:Tb t es Z){h:Int}{x:Value}{N:Nat}(L:∀z∈Z,z.1≠Ir t.mask h N)(G:∀m,m<N ->∃y∈Z,y.1=Ir t.mask h m)(h3:Z.length+1<=t.mask):
  ∃p,(t.put (Ir t.mask h N)).2=p/\Tb (t.put (Ir t.mask h N)).1 (SetTable.insertAt es p (h,x)) (Z.take p++(Ir t.mask h N,h,x)::Z.drop p):=by
 refine⟨_,rfl,?_⟩;let⟨S,R,b3⟩:=T.below (Ir t.mask h N);have WG:(t.put (Ir t.mask h N)).2=SetTable.below t.place (Ir t.mask h N):=rfl;rw[WG];have u:(t.put (Ir t.mask h N)).1.mask=t.mask:=rfl;constructor
 .show SetTable.insertAt t.place _ _=_
  rw[T.hp,iz];simp
 .rw [T.he,iz]
  simp
 .show (if _ then _ else t.dummies)=_
  rw[T.hd];rw[YH];unfold SetTable.has;simp
 .have hs:=T.hs
  rw[<-Ug (SetTable.below t.place (Ir t.mask h N)) Z,UX]at hs;rw[UX,Qa];have hb:∀a∈Z.take (SetTable.below t.place (Ir t.mask h N)),a.1<Ir t.mask h N:=λa ha=>by
   let⟨i,hi,e⟩:=Ol ha;rw[U1]at hi;rw[Nm]at e;exact S i a.1 () (T.get.mpr ⟨a,by rw[<-e];exact Xn (),rfl⟩)
  have ha:∀a∈Z.drop (SetTable.below t.place (Ir t.mask h N)),Ir t.mask h N<a.1:=λa ha=>by
   let⟨i,hi,e⟩:=Ol ha;rw[Rv]at hi;rw[Nn]at e;have:=R _ a.1 (Oe _ i) (T.get.mpr ⟨a,by rw[<-e];exact Xn (),rfl⟩)
   exact Nat.lt_of_le_of_ne this λq=>L a (Pw ha) q.symm
  refine⟨hs.1,⟨ha,hs.2.1⟩,λa F b B=>?_⟩;rcases Vh.mp B with rfl|B
  .exact hb a F
  .exact hs.2.2 a F b B
 .intro z j
  rw[u];rcases d7.mp j with rfl|j
  .exact eN _ _ _
  .exact T.hl z j
 .exact T.hM
 .rw [u]
  have:(Z.take (SetTable.below t.place (Ir t.mask h N))++(Ir t.mask h N,h,x)::Z.drop (SetTable.below t.place (Ir t.mask h N))).length=Z.length+1:=by
   rw[Ww,Uc,U1,Rv];omega
  omega
 .intro z j
  rw[u];rcases d7.mp j with rfl|j
  .exact ⟨N,rfl,λm u=>let⟨y,hy,e⟩:=G m u;⟨y,d7.mpr (.inr hy),e⟩⟩
  .obtain ⟨n,e,hb⟩:=T.met z j
   exact⟨n,e,λm u=>let⟨y,hy,e⟩:=hb m u;⟨y,d7.mpr (.inr hy),e⟩⟩
def xa(xs:List α)(p:Nat)(x:α):(xs.take p++x::xs.drop p).Perm (x::xs):=by
 have:=(List.perm_middle (a:=x) (l₁:=xs.take p) (l₂:=xs.drop p));rwa[Ug]at this
end
abbrev WD:=Array (Option Nat)
def lU{M:Nat}(owner:WD):∀(fu i q:Nat),(∃K,K<fu/\owner.getD (Iu M K (i,q)).1 (some 0)=none) ->
  ∃n,SetTable.layClean.free M owner fu i q=some (Ao M n (head M i q)).j/\owner.getD (Ao M n (head M i q)).j (some 0)=none /\∀m,m<n->owner.getD (Ao M m (head M i q)).j (some 0)≠none
 |0,i,q,⟨K,h,_⟩=>by omega
 |fu+1,i,q,⟨K,hK,e⟩=>by
  rw[SetTable.layClean.free];have len:SetTable.runEnd M i+1-i=(SetTable.runEnd M i-i)+1:=by unfold SetTable.runEnd;split<;>omega
  have u:∀m,m<=SetTable.runEnd M i-i->(Ao M m (head M i q)).j=i+m:=λm z=>by
   rw[fW M m (head M i q) z];rfl
  cases G:(List.range (SetTable.runEnd M i+1-i)).find? λk=>(owner.getD (i+k) (some 0)).isNone with
  |some k=>
   dsimp only;let⟨h1,Z,S⟩:=List.find?_range_eq_some.mp G;have hk:k<SetTable.runEnd M i+1-i:=QC.mp Z;refine⟨k,by rw[u k ()],by rw[u k ()];simpa using h1,λm z=>?_⟩
   rw[u m ()]
   have:=S m z;intro q;rw[q]at this;simp at this
  |none=>
   dsimp only;have hn:∀m,m<=SetTable.runEnd M i-i->owner.getD (i+m) (some 0)≠none:=λm z=>by
    have:=List.find?_eq_none.mp G m (QC.mpr ())
    intro q;rw[q]at this;simp at this
   have F:K≠0:=λR=>by
    subst R;exact hn 0 (P7 _) e
   let⟨K',rfl⟩:=Nat.exists_eq_succ_of_ne_zero F;let⟨n,a,b,c⟩:=lU owner fu ((i*5+1+q / 32) % (M+1)) (q / 32) ⟨K',by omega,e⟩
   have B:∀m,Ao M ((SetTable.runEnd M i-i+1)+m) (head M i q)=Ao M m (head M ((i*5+1+q / 32) % (M+1)) (q / 32)):=λm=>by rw[dJ,jA]
   refine⟨(SetTable.runEnd M i-i+1)+n,by rw[B];exact a,by rw[B];exact b,λm z=>?_⟩
   rcases OJ m (SetTable.runEnd M i-i+1)with L|L
   .rw [u m ()];exact hn m ()
   .have:m=(SetTable.runEnd M i-i+1)+(m-(SetTable.runEnd M i-i+1)):=by omega
    rw[this,B];exact c _ ()
structure LC(M:Nat)(owner:WD)(hs:List Int)(Z_:List Nat):Prop where
 sz:owner.size=M+1
 len:Z_.length=hs.length
 to:∀(i j:Nat),Z_[i]?=some j->owner[j]?=some (some i)
 Zy:∀(i j:Nat),owner[j]?=some (some i)->Z_[i]?=some j
 met:∀(i j:Nat) (h:Int),hs[i]?=some h->Z_[i]?=some j ->∃n,Ir M h n=j /\∀m,m<n->Ir M h m∈Z_
def LC.getD{M:Nat}{owner:WD}{d:List Int}{c:List Nat}(a:LC M owner d c){j:Nat}(l:j<=M):owner.getD j (some 0)=none↔j ∉ c:=by
 have b:j<owner.size:=by rw[a.sz];omega
 have k:owner.getD j (some 0)=owner[j]:=by unfold Array.getD;rw[dif_pos b];rfl
 rw[k];constructor
 .intro e g
  let⟨i,h⟩:=P8 g;have:=a.to i j h;rw[VQ b,e]at this;cases this
 .intro f
  cases e:owner[j]with
  |none=>rfl
  |some i=>exact absurd (TY (a.Zy i j (by rw[VQ b,e]))) f
def Cm(M:Nat):Option (WD×Nat)->Int->Option (WD×Nat):=λZQ h=>do
  let(owner,k)<-ZQ
  let j<-SetTable.layClean.free M owner (SetTable.turns M) (SetTable.bits h % (M+1)) (SetTable.bits h)
  pure (owner.setIfInBounds j (some k),k+1)
def LC.step(B:Mok M){owner:WD}{f:List Int}{g:List Nat}(d:LC M owner f g)(u:f.length<=M)(h:Int):
  ∃w j,Cm M (some (owner,f.length)) h=some (w,f.length+1)/\LC M w (f++[h]) (g++[j]):=by
 have x:∃j,j<=M/\j ∉ g:=by
  refine HC λA=>?_;have C:List.range (M+1) ⊆ g:=λj r=>by
   have r:=QC.mp r;exact HC λz=>A ⟨j,by omega,z⟩
  have h2:=OR (Ny) C;rw[OI]at h2;have:=d.len;omega
 let⟨I,o,H⟩:=x;let⟨K,J,E⟩:=jk B h o;let⟨n,a,b,c⟩:=lU (M:=M) owner (SetTable.turns M) (SetTable.bits h % (M+1)) (SetTable.bits h) ⟨K,by unfold SetTable.turns;omega,by rw[E];exact(d.getD o).mpr H⟩
 have a:SetTable.layClean.free M owner (SetTable.turns M) (SetTable.bits h % (M+1)) (SetTable.bits h)=some (Ir M h n):=a;have b:owner.getD (Ir M h n) (some 0)=none:=b;have c:∀m,m<n->owner.getD (Ir M h m) (some 0)≠none:=c;have hle:=eN M h n;have l:Ir M h n ∉ g:=(d.getD hle).mp b;have v:Ir M h n<owner.size:=by rw[d.sz];omega
 refine⟨owner.setIfInBounds (Ir M h n) (some f.length),Ir M h n,?_,?_⟩
 .unfold Cm
  simp![Option.pure_def,Option.bind_eq_bind,PD,a]
 .constructor
  .rw [Nv];exact d.sz
  .simp [d.len]
  .intro i j e
   rw[O4];rw[List.getElem?_append]at e;split at e
   .have r:j∈g:=TY e
    rw[YH (λq=>l (by rw[q];exact r))]
    exact d.to i j e
   .rename_i L
    have:i-g.length=0:=by
     cases s:i-g.length with
     |zero=>rfl
     |succ k=>rw[s]at e;simp at e
    rw[this]at e;simp at e;subst e;rw[Y2 rfl,Y2 v];have:=d.len;congr 2;omega
  .intro i j e
   rw[O4]at e;by_cases q:Ir M h n=j
   .rw [Y2 q,Y2 v]at e
    cases e;subst q;rw[<-d.len];simp
   .rw [YH q]at e
    have:=d.Zy i j e;rw[WR (YE.mp this).1];exact this
  .intro i j D p e
   rcases OJ i f.length with q|q
   .rw [WR q]at p
    rw[WR (by rw[d.len];exact q)]at e
    let⟨y,G,F⟩:=d.met i j D p e;exact⟨y,G,λm t=>Qf _ (F m t)⟩
   .have:i=f.length:=by
     have:=(YE.mp p).1;simp at this;omega
    subst this;simp at p;rw[<-d.len]at e;simp at e;subst p e;exact⟨n,rfl,λm t=>Qf _ (HC λs=>c m t ((d.getD (eN M h m)).mpr s))⟩
def LC.all{M:Nat}(c:Mok M):∀(r a:List Int) {owner:WD} {b:List Nat},LC M owner a b->a.length+r.length<=M ->
  ∃e k,r.foldl (Cm M) (some (owner,a.length))=some (e,a.length+r.length)/\LC M e (a++r) k
 |[],a,owner,b,Z7,_=>⟨owner,b,rfl,by rw[Qe];exact Z7⟩
 |h::r,a,owner,b,Z7,hl=>by
  rw[Uc]at hl;let⟨o1,j,g,l⟩:=Z7.step c () h
  let⟨f,i,d,L2⟩:=LC.all c r (a++[h]) l (by rw[Ww,Q0];omega)
  refine⟨f,i,?_,?_⟩
  .rw [List.foldl_cons,g]
   rw[Ww,Q0]at d;rw[d,Uc];congr 2;omega
  .rw [VO]at L2;exact L2
def wF(d:Mok M)(a:Array Int)(c:a.size<=M):∃owner b,SetTable.layClean M a=some owner/\LC M owner a.toList b:=by
 have f:LC M (Array.replicate (M+1) none) [] []:=by
  constructor
  .simp
  .rfl
  .intro i j e;simp at e
  .intro i j e
   rw[Array.getElem?_replicate]at e;split at e<;>cases e
  .intro i j h e;simp at e
 let⟨o,b,e,Z7⟩:=LC.all d a.toList [] f (by simpa using c)
 refine⟨o,b,?_,by simpa using Z7⟩
 unfold SetTable.layClean;rw[<-Array.foldl_toList];have:a.toList.foldl (Cm M) (some (Array.replicate (M+1) none,0))=some (o,0+a.toList.length):=by simpa using e
 show(List.foldl (Cm M) (some (Array.replicate (M+1) none,0)) a.toList).map (·.1)=some o;rw[this]
 rfl
def AZ(a:Array (Int×Value))(i:Nat):Int×Value:=(a[i]?).getD (0,.none)
def Iy(M:Nat)(owner:WD):List (Nat×Nat):=(List.range (M+1)).filterMap λj=>(owner.getD j none).map (j,·)
section
variable{owner:WD}{hs:List Int}{Z_:List Nat}
def LC.live(c:LC M owner hs Z_)(j i:Nat):(j,i)∈Iy M owner↔Z_[i]?=some j:=by
 unfold Iy;rw[Nb];constructor
 .rintro ⟨b,g,e⟩
  have g:=QC.mp g;have a:b<owner.size:=by rw[c.sz];exact g
  have f:owner.getD b none=owner[b]:=by unfold Array.getD;rw[dif_pos a];rfl
  rw[f]at e;cases d:owner[b]with
  |none=>rw[d]at e;cases e
  |some k=>
   rw[d]at e;cases e;exact c.Zy i j (by rw[VQ a,d])
 .intro e
  have h:=c.to i j e;have a:j<owner.size:=(Th.mp h).1;refine⟨j,QC.mpr (by rw[<-c.sz];exact a),?_⟩
  have f:owner.getD j none=some i:=by
   unfold Array.getD;rw[dif_pos a];rw[VQ a]at h;exact TQ h
  rw[f];rfl
def lV(M:Nat)(owner:WD):(Iy M owner).Pairwise λa b=>a.1<b.1:=by
 unfold Iy;rw[List.pairwise_filterMap];refine List.Pairwise.imp (λ{a a'} h b hb b' j=>?_) List.pairwise_lt_range;cases ea:owner.getD a none with
 |none=>rw[ea]at hb;cases hb
 |some i=>
  rw[ea]at hb;cases hb;cases u:owner.getD a' none with
  |none=>rw[u]at j;cases j
  |some z=>rw[u]at j;cases j;exact h
def LC.order(u:LC M owner hs Z_):((Iy M owner).map (·.2)).Perm (List.range hs.length):=by
 refine(Nd ?_ Ny).mpr λi=>?_
 .refine QN.mpr (List.Pairwise.imp_of_mem (λ{a b} ha hb F=>?_) (lV M owner))
  intro e;have h1:=(u.live a.1 a.2).mp ha;have h2:=(u.live b.1 b.2).mp hb;rw[e,h2]at h1;have:=TQ h1;omega
 .rw [Ud,QC,<-u.len]
  constructor
  .rintro ⟨⟨j,z⟩,B,rfl⟩
   exact(YE.mp ((u.live j z).mp B)).1
  .intro h
   exact⟨(Z_[i],i),(u.live _ _).mpr (Xn h),rfl⟩
end
def lS{b c:Type}{f:b->Option c}{g:b->c}:∀(l:List b),(∀x∈l,f x=some (g x))->l.filterMap f=l.map g
 |[],_=>rfl
 |a::l,h=>by rw[Qt,h a HD,W1,lS l λx d=>h x (Hy _ d)]
section
variable{t:SetTable}{es:Array (Int×Value)}{Z:Z3}
def Tb.len(T:Tb t es Z):es.size=Z.length:=by rw[T.he];simp
def Tb.relaid(T:Tb t es Z){j:Nat}(R:Mok (SetTable.sizeAbove j-1))(L:Z.length<=SetTable.sizeAbove j-1):
  ∃t' order F,t.relaid (es.map (·.1)) j=some (t',order)/\Tb t' (order.filterMap (es[·]?)) F/\(F.map (·.2)).Perm (Z.map (·.2))/\t'.mask=SetTable.sizeAbove j-1/\t'.led=t.led/\t'.plain=t.plain:=by
 let⟨owner,Z_,e,Z7⟩:=wF R (es.map (·.1)) (by rw[Array.size_map,T.len];exact L)
 have u:(es.map (·.1)).toList.length=es.size:=by simp
 let M:=SetTable.sizeAbove j-1
 let order:Array Nat:=((Iy M owner).map (·.2)).toArray
 let t':SetTable:={mask:=M,place:=((Iy M owner).map (·.1)).toArray,dummies:=#[],finger:=t.finger,led:=t.led,moves:=t.movedTo M,plain:=t.plain}
 let F:Z3:=(Iy M owner).map λp=>(p.1,AZ es p.2)
 have S:∀p∈Iy M owner,es[p.2]?=some (AZ es p.2):=λp B=>by
  have h:=(YE.mp ((Z7.live p.1 p.2).mp B)).1;rw[Z7.len,u]at h;unfold AZ;rw[VQ h];rfl
 refine⟨t',order,F,?_,?_,?_,rfl,rfl,rfl⟩
 .unfold SetTable.relaid SetTable.laid
  rw[e]
  rfl
 .constructor
  .show ((Iy M owner).map (·.1)).toArray=(List.map (λz:Nat×Int×Value=>z.1) (List.map _ _)).toArray
   rw[Qz];rfl
  .apply OS.mp
   rw[Array.toList_filterMap];show(((Iy M owner).map (·.2)).filterMap λx=>es[x]?)=(F.map (·.2));rw[List.filterMap_map,Qz];exact lS _ S
  .rfl
  .exact QN.mpr (lV M owner)
  .intro z G
   let⟨p,B,rfl⟩:=Ud.mp G;have h:=Z7.to p.2 p.1 ((Z7.live p.1 p.2).mp B);have:=(Th.mp h).1;rw[Z7.sz]at this;exact Nl this
  .exact R
  .show List.length (List.map _ _)<=M
   rw[Z1,<-Z1 (f:=λp:Nat×Nat=>p.2),Z7.order.length_eq,OI,u,T.len];exact L
  .intro z G
   let⟨p,B,rfl⟩:=Ud.mp G;have hy:=(Z7.live p.1 p.2).mp B
   let ⟨n,e1,e2⟩:=Z7.met p.2 p.1 (AZ es p.2).1 (by
    rw[U9,Array.getElem?_map,S p B];rfl) hy
   refine⟨n,e1,λm hm=>?_⟩;let⟨i,ei⟩:=P8 (e2 m hm);exact⟨_,Ud.mpr ⟨(Ir M (AZ es p.2).1 m,i),(Z7.live _ _).mpr ei,rfl⟩,rfl⟩
 .show (List.map _ (List.map _ _)).Perm _
  rw[Qz];have h1:((Iy M owner).map ((λz:Nat×Int×Value=>z.2) ∘ λp=>(p.1,AZ es p.2)))=((Iy M owner).map (·.2)).map (AZ es):=by rw[Qz];rfl
  rw[h1];have h2:Z.map (·.2)=(List.range es.size).map (AZ es):=by
   apply List.ext_getElem?;intro i;have he:es[i]?=(Z.map (·.2))[i]?:=by rw[T.he];simp
   rw[<-he,VV];rcases OJ i es.size with q|q
   .rw [O7 q]
    show _=some (AZ es i);unfold AZ;rw[VQ q];rfl
   .rw [NL q,Pm (by rw[OI];exact q)];rfl
  rw[h2];have:=Z7.order.map (AZ es);rw[u]at this;exact this
def Tb.fill(T:Tb t es Z):t.fill=Z.length:=by unfold SetTable.fill;rw[T.hp,T.hd];simp
def Tb.full(T:Tb t es Z):t.tooFull=decide (Z.length*5 ≥ t.mask*3):=by unfold SetTable.tooFull;rw[T.fill]
def Tb.fits(T:Tb t es Z):t.fits es.size=true:=by
 unfold SetTable.fits;rw[T.fill,T.len];have:=T.hn;rw[T.hp];simp[this]
def xJ(j:Mok M)(h:n*5<M*3)(h':(n+1)*5 ≥ M*3)(hn:n<300):
  Mok (SetTable.sizeAbove (SetTable.grown (n+1))-1)/\(n+1)*5<(SetTable.sizeAbove (SetTable.grown (n+1))-1)*3/\SetTable.sizeAbove (SetTable.grown (n+1))<=512:=by
 rcases j with rfl|rfl|rfl|rfl
 .have:n=4:=by omega
  subst this;exact⟨.inr (.inl (by decide)),by decide,by decide⟩
 .have:n=18:=by omega
  subst this;exact⟨.inr (.inr (.inl (by decide))),by decide,by decide⟩
 .have:n=76:=by omega
  subst this;exact⟨.inr (.inr (.inr (by decide))),by decide,by decide⟩
 .omega
end
open PySem PyProof.Rows
section
variable{E:Value->Shared->Prop}
abbrev IsT(prog:Program)(w:World)(h:Heap)(k:List Int)(b:Addr):Prop:=IsTupleKey (intKind prog w) h k b
abbrev Yu(prog:Program)(w:World)(k:List Int):Int:=tupleKeyHash (intKind prog w) k
def iy{k:List Int}{vs:List Value}(h:ItemsAre (intKind prog w) k vs):∀v∈vs,∃i t,v=.int i t:=by
 induction h with
 |nil=>intro v j;cases j
 |cons h1 _ ih=>
  intro v j;rcases Vh.mp j with rfl|j
  .obtain ⟨t,e⟩:=PX h1;exact⟨_,t,e⟩
  .exact ih v j
def jI{k:List Int}{Q:Bool->Shared->Prop}(B:IsT prog w s.heap k b)(h:Q false s):wpAny (model prog w) A (ofAClassStatement (n+1) (.ref b)) Q E s:=by
 have L:=B.typeIs;let⟨o,items,c,ho,_,hd,hi⟩:=B;unfold ofAClassStatement;refine ZB (NI L ?_);dsimp only;rw[Y2 (by decide)]
 refine ZB (ZP ?_);simp![QK,Wi,UP];refine ZB (wpAny_seqItems ho hd ?_);dsimp only;refine ZB ?_;rw[<-Array.forIn_toList];refine OT _ (λF r j=>r.1=none/\j=s /\∀v∈F,∃i t,v=Value.int i t) _ ?_ ?_ _ _ ⟨rfl,rfl,iy hi⟩
 .rintro v F r j ⟨z,rfl,G⟩
  let⟨i,t,rfl⟩:=G v HD;have e:ofAClassStatement n (Value.int i t)=pure false:=by cases n<;>rfl
  rw[e];refine ZB (ZP ?_);simp![Wi,UP];exact ZP ⟨rfl,rfl,λu R=>G u (Hy _ R)⟩
 .rintro ⟨Z,S⟩ j ⟨z,rfl,_⟩
  simp only at z;subst z;exact ZP h
def y8{k:List Int}{Q:Bool->Shared->Prop}(B:IsT prog w s.heap k b)(h:Q true s):wpAny (model prog w) A (hashByValue (n+1) (.ref b)) Q E s:=by
 have R:=B.typeIs;let⟨o,items,c,ho,_,hd,hi⟩:=B;unfold hashByValue;refine ZB (NU R PySem.F.slot_tuple_hash.lookup ?_);dsimp only;refine ZB (wpAny_seqItems ho hd ?_);dsimp only[Option.getD];refine ZB ?_;rw[<-Array.forIn_toList];refine OT _ (λG r j=>r.1=none/\j=s /\∀v∈G,∃i t,v=Value.int i t) _ ?_ ?_ _ _ ⟨rfl,rfl,iy hi⟩
 .rintro v G r j ⟨z,rfl,L⟩
  let⟨i,t,rfl⟩:=L v HD;have e:hashByValue n (Value.int i t)=pure true:=by cases n<;>rfl
  rw[e];refine ZB (ZP ?_);simp![QK,Wi,UP];exact ZP ⟨rfl,rfl,λu S=>L u (Hy _ S)⟩
 .rintro ⟨r1,Z⟩ j ⟨z,rfl,_⟩
  simp only at z;subst z;exact ZP h
def aax{k:List Int}{Q:Bool->Shared->Prop}(R:IsT prog w s.heap k b){L:List Value}(B:∀y∈L,∃j b',y=.ref b'/\IsT prog w s.heap j b')(h:Q false s):
  wpAny (model prog w) A (searchCouldBeSeen (.ref b) L) Q E s:=by
 unfold searchCouldBeSeen;refine ZB ?_;refine OT _ (λG r z=>r.1=none/\z=s /\∀y∈G,∃j b',y=Value.ref b'/\IsT prog w s.heap j b') _ ?_ ?_ _ _ ⟨rfl,rfl,B⟩
 .rintro y G r z ⟨F,rfl,WH⟩
  let⟨j,b',rfl,Z⟩:=WH y HD;have S:∀u∈G,∃j b',u=Value.ref b'/\IsT prog w z.heap j b':=λu hu=>WH u (Hy _ hu);dsimp only;split
  .exact ZP ⟨rfl,rfl,S⟩
  .refine ZB (wpAny_eqIsQuiet_tuple R ?_)
   simp![QK,Wi,UP];refine ZB (wpAny_eqIsQuiet_tuple Z ?_);simp![QK,Wi,UP];refine ZB (jI R ?_);simp![Wi,UP];refine ZB (jI Z ?_);simp![Wi,UP];exact ZP ⟨rfl,rfl,S⟩
 .rintro ⟨r1,r2⟩ z ⟨F,rfl,_⟩
  simp only at F;subst F;exact ZP h
structure Yw(prog:Program)(w:World)(o:Obj)(D:List (List Int×Addr))(es:Array (Int×Value))(ep:Nat)(t:SetTable)(Z:Z3):Prop where
 ex:o.ExactSet
 dt:o.data=.set es ep t
 tb:Tb t es Z
 pl:t.plain=true
 ld:t.led = !(w.params.followText "set-order")
 fl:Z.length*5<t.mask*3
 pm:(Z.map (·.2)).Perm (D.map λd=>(Yu prog w d.1,Value.ref d.2))
end
section
variable{E:Value->Shared->Prop}{o:Obj}{es:Array (Int×Value)}{t:SetTable}{Z:Z3}{k:List Int}
def Yw.mem(P:Yw prog w o D es ep t Z)(a:z∈Z):∃d∈D,z.2=(Yu prog w d.1,Value.ref d.2):=by
 have:=P.pm.mem_iff.mp (Ud.mpr ⟨z,a,rfl⟩);let⟨d,b,e⟩:=Ud.mp this;exact⟨d,b,e.symm⟩
def Yw.mem'(P:Yw prog w o D es ep t Z){d:List Int×Addr}(b:d∈D):∃z∈Z,z.2=(Yu prog w d.1,Value.ref d.2):=by
 have:=P.pm.mem_iff.mpr (Ud.mpr ⟨d,b,rfl⟩);let⟨z,a,e⟩:=Ud.mp this;exact⟨z,a,e⟩
def Yw.len(P:Yw prog w o D es ep t Z):Z.length=D.length:=by
 have:=P.pm.length_eq;simpa using this
def wL(h:Mok M):M % 2=1:=by rcases h with rfl|rfl|rfl|rfl<;>decide
def uz(hu:A.units<cLine)(ho:s.heap.get? a=some o)(P:Yw prog w o D es ep t Z)(hD:∀d∈D,IsT prog w s.heap d.1 d.2)(hk:IsT prog w s.heap k b)
  (Xi:∀d∈D,Yu prog w d.1=Yu prog w k->d.1=k) {Q:SetFound->Shared->Prop}
  (h1:(∃d∈D,d.1=k)->Q (.there none) s)
  (h2:(∀d∈D,d.1≠k) ->∀N,(∀z∈Z,z.1≠Ir t.mask (Yu prog w k) N)->(∀m,m<N ->∃y∈Z,y.1=Ir t.mask (Yu prog w k) m)->Q (.free (Ir t.mask (Yu prog w k) N) false) s) :
  wpAny (model prog w) A (setSearch a (.ref b) (Yu prog w k) true) Q E s:=by
 have hf:=P.tb.fits;show wpAny (model prog w) A (setSearchFrom a (.ref b) (Yu prog w k) true (99999+1) none) Q E s;rw[setSearchFrom];refine ZB (Qv ho P.dt hf ?_);dsimp only;rw[YH (by unfold SetTable.gaveWay;rw[wL P.tb.hM];decide)]
 rcases P.tb.probe (Yu prog w k)with⟨i,z,j,nx,ez,eh,ej,e⟩|⟨Xj,N,e,UY,hle,hbef⟩
 .obtain ⟨d,hd,ed⟩:=P.mem (TY ez)
  have hdk:d.1=k:=Xi d hd (by rw[<-eh,ed])
  have key:∀f:Nat->Int,f=Xr es->t.probe f (Yu prog w k) ((none:Option SetTable.Probe).getD (t.probeStart (Yu prog w k)))=some (.candidate j i nx):=λf hf=>by rw[hf];exact e
  rw[key]
  rotate_left
  .rfl
  dsimp only;have body:wpAny (model prog w) A (do
    let some (_,y):=es[i]?|unsupported "internal:set-entry"
    let equal<-holding [y] (eqBool y (.ref b))
    let(es',_,t')<-setState a
    if true&&equal then return .there none
    let some same:=t'.sameMemory t.moves t.mask|unsupported "set.changed-during-lookup:is-the-new-block-at-the-old-address"
    let Ri<-match(if same then t'.slot j else .empty)with
     |.live i'=>match es'[i']? with
      |some (_,y')=>do pure (if<-isSame y' y then some i' else none)
      |none=>pure none
     |_=>pure none
    match Ri with
    |none=>rule "set.search.anew";setSearchFrom a (.ref b) (Yu prog w k) true 99999 none
    |some i'=>if equal then return .there (some i')else setSearchFrom a (.ref b) (Yu prog w k) true 99999 (some nx)) Q E s:=by
   rw[P.tb.hash ez,ed];dsimp only;refine ZB (TU (wpAny_eqBool_tuple (knd:=intKind prog w) hu (hD d hd) hk ?_));refine ZB (Qv ho P.dt hf ?_);dsimp only;rw[Qx hdk];exact ZP (h1 ⟨d,hd,hdk⟩)
  cases hl:t.led with
  |true=>simp![QK,Wi,UP];exact body
  |false=>
   simp![Nf,Qp];refine ZB (aax hk (λy hy=>?_) ?_)
   .rw [Ud]at hy
    let⟨x,hx,rfl⟩:=hy;have hx:x∈es.toList:=by
     have:=Pc.mp hx;rw[Array.mem_filter]at this;exact Pc.mpr this.1
    rw[P.tb.he]at hx;simp![Ud]at hx;let⟨z',hz',rfl⟩:=hx;let⟨d',Ys,e'⟩:=P.mem hz';exact⟨d'.1,d'.2,by rw[e'],hD d' Ys⟩
   .simp only [Wi,UP]
    exact body
 .have key:∀f:Nat->Int,f=Xr es->t.probe f (Yu prog w k) ((none:Option SetTable.Probe).getD (t.probeStart (Yu prog w k)))=some (.empty (Ir t.mask (Yu prog w k) N) none):=λf hf=>by rw[hf];exact e
  rw[key]
  rotate_left
  .rfl
  dsimp only;refine ZP (h2 (λd hd ek=>?_) N UY hbef);let⟨z,hz,ez⟩:=P.mem' hd;exact Xj z hz (by rw[ez,ek])
end
section
variable{E:Value->Shared->Prop}{o:Obj}{es:Array (Int×Value)}{t:SetTable}{Z:Z3}{k:List Int}
def je{es':Array (Int×Value)}{t':SetTable}(c:h.get? a=some o)(b:o.data=.set es ep t):(h.update a (Obj.putSet es' t')).get? a=some {o with data:=.set es' (ep+1) t'}:=by
 have:=Qi (Obj.putSet es' t') c (by rw[putSet_of es' t' b];rfl)
 rw[putSet_of es' t' b]at this;exact this
def uV{Q:Unit->Shared->Prop}{wanted:Nat}(ho:s.heap.get? a=some o)(hd:o.data=.set es ep t)(T:Tb t es Z)(hM:Mok (SetTable.sizeAbove wanted-1))(hl:Z.length<=SetTable.sizeAbove wanted-1)(hs:SetTable.sizeAbove wanted<=512)
  (h:∀ es' t' Z',Tb t' es' Z'->(Z'.map (·.2)).Perm (Z.map (·.2))->t'.mask=SetTable.sizeAbove wanted - 1->t'.led=t.led->t'.plain=t.plain ->
   Q Unit.unit {s with heap:=s.heap.update a (Obj.putSet es' t')}):wpAny (model prog w) A (setRelay a wanted) Q E s:=by
 let⟨t',order,Z',e,T',pm,hm,V1,hp⟩:=T.relaid hM hl;have hz:(order.filterMap (es[·]?)).size=es.size:=by
  rw[T'.len,T.len];have:=pm.length_eq;simpa using this
 unfold setRelay;refine ZB (Qv ho hd T.fits ?_);dsimp only;have hz7:sizeLine=16777216:=by rfl
 rw[YH ()]
 refine ZB ?_;rw [e];show wpAny _ _ (do
  let es':=order.filterMap (es[·]?)
  if es'.size != es.size then unsupported "internal:set-table-lost-an-element"
  pure (es',t')) _ _ _
 dsimp only;rw[YH (by rw[hz];simp)]
 refine ZP ?_;dsimp only;refine wpAny_storeSet_of ho hd (h _ t' Z' T' pm hm V1 hp) ?_;rw[hz,T.len];have:sizeLine=16777216:=by rfl
 omega
def uK(hu:A.units<cLine)(B:s.heap.get? a=some o)(P:Yw prog w o D es ep t Z)(hD:∀d∈D,IsT prog w s.heap d.1 d.2)(hk:IsT prog w s.heap k b)
  (Xi:∀d∈D,Yu prog w d.1=Yu prog w k->d.1=k) (hn:D.length<300) {Q:Bool->Shared->Prop}
  (h1:(∃d∈D,d.1=k)->Q false s)
  (h2:(∀d∈D,d.1≠k) ->∀h' o' es' Ws t' Z',Heap.SameBut a s.heap h'->h'.get? a=some o'->Yw prog w o' (D++[(k,b)]) es' Ws t' Z'->Q true {s with heap:=h'}) :
  wpAny (model prog w) A (setAddHashed a (.ref b) (Yu prog w k)) Q E s:=by
 have hf:=P.tb.fits;unfold setAddHashed;refine TU ?_;show wpAny (model prog w) A (setAddHashedIn a (.ref b) (Yu prog w k) (99999+1)) Q E s;rw[setAddHashedIn];refine ZB (Qv B P.dt hf ?_);dsimp only;rw[YH (by exact Bool.false_ne_true)]
 refine ZB (uz hu B P hD hk Xi (λhx=>?_) λhx N f1 f2=>?_)
 .exact ZP (h1 hx)
 .dsimp only
  refine ZB (Qv B P.dt hf ?_);dsimp only;have hlen:=P.len;have Zf:=P.fl;have hM:=P.tb.hM;have h3:Z.length+1<=t.mask:=by rcases hM with e|e|e|e<;>rw[e]at Zf ⊢<;>omega
  let⟨p,Ws,u⟩:=P.tb.put (x:=.ref b) f1 f2 h3;have G:(t.put (Ir t.mask (Yu prog w k) N)).1.plain=true:=P.pl;have SH:(t.put (Ir t.mask (Yu prog w k) N)).1.led = !(w.params.followText "set-order"):=P.ld;have UQ:(t.put (Ir t.mask (Yu prog w k) N)).1.mask=t.mask:=rfl;rw[Ws];generalize S:List.take p Z++(Ir t.mask (Yu prog w k) N,Yu prog w k,Value.ref b)::List.drop p Z=F at u;have j:(F.map (·.2)).Perm ((D++[(k,b)]).map λd=>(Yu prog w d.1,Value.ref d.2)):=by
   rw[<-S];refine((xa Z p _).map _).trans ?_;rw[W1,Ph];refine(P.pm.cons _).trans ?_;exact(Qj (l₁:=[_])).trans (List.Perm.refl _)
  have R0:F.length=Z.length+1:=by
   have:=j.length_eq;simp![Z1,Ww,Q0]at this;omega
  generalize(t.put (Ir t.mask (Yu prog w k) N)).1=t1 at u G SH UQ;rw[Y2 G];refine ZB (y8 hk ?_);simp![Qp];refine ZB (wpAny_storeSet_of B P.dt ?_ ?_)
  rotate_left
  .rw [u.len]
   have:sizeLine=16777216:=by rfl
   omega
  have V0:=je (es':=SetTable.insertAt es p (Yu prog w k,Value.ref b)) (t':=t1) B P.dt;have WX:=Heap.SameBut.update s.heap a (Obj.putSet (SetTable.insertAt es p (Yu prog w k,Value.ref b)) t1);simp![Nf,N3];rw[u.full];by_cases L:F.length*5 ≥ t1.mask*3
  .rw [Qx L]
   simp![Qp];have R:es.size=Z.length:=P.tb.len;rw[R];let⟨g1,g2,g3⟩:=xJ (M:=t.mask) (n:=Z.length) hM Zf (by rw[UQ,R0]at L;exact L) ()
   refine ZB (uV (s:={s with heap:=_}) V0 rfl u g1 () g3 λes2 t2 Z2 T2 z e1 e2 e3=>?_)
   refine ZP (h2 hx _ _ _ _ _ Z2 (WX.trans (Heap.SameBut.update _ a _)) (je V0 rfl) ⟨P.ex,rfl,T2,e3.trans G,e2.trans SH,?_,z.trans j⟩);have l2:Z2.length=F.length:=by have:=z.length_eq;simpa using this
   rw[e1,l2,R0];exact g2
  .rw [Ry L]
   simp![Wi,UP];refine ZP (h2 hx _ _ _ _ _ F WX V0 ⟨P.ex,rfl,u,G,SH,by omega,j⟩)
def xM(j:A.units<cLine)(z:s.heap.get? a=some o)(P:Yw prog w o D es ep t Z)(B:∀d∈D,IsT prog w s.heap d.1 d.2)(u:IsT prog w s.heap k b)
  (R:∀d∈D,Yu prog w d.1=Yu prog w k->d.1=k) (hn:D.length<300) {Q:Bool->Shared->Prop}
  (G:(∃d∈D,d.1=k)->Q false {s with toks:=s.toks+(k.length+1)})
  (F:(∀d∈D,d.1≠k) ->∀h' o' es' S t' L,Heap.SameBut a s.heap h'->h'.get? a=some o'->Yw prog w o' (D++[(k,b)]) es' S t' L->Q true {s with heap:=h',toks:=s.toks+(k.length+1)}) :
  wpAny (model prog w) A (setAdd a (.ref b)) Q E s:=by
 unfold setAdd;refine TU (ZB (wpAny_pyHash_tuple j u ?_));exact uK (s:={s with toks:=s.toks+(k.length+1)}) j z P B u R hn G F
end
def dd(key:Nat->List Int×Addr):Nat->List (List Int×Addr)
 |0=>[]
 |i+1=>open Classical in if∃d∈dd key i,d.1=(key i).1 then dd key i else dd key i++[key i]
def cL(key:Nat->List Int×Addr):∀(i:Nat) (d:List Int×Addr),d∈dd key i ->∃j,j<i/\d=key j
 |0,d,h=>by cases h
 |i+1,d,h=>by
  unfold dd at h;split at h
  .obtain ⟨j,a,e⟩:=cL key i d h;exact⟨j,by omega,e⟩
  .rcases Vj.mp h with h|h
   .obtain ⟨j,a,e⟩:=cL key i d h;exact⟨j,by omega,e⟩
   .exact ⟨i,by omega,V2.mp h⟩
def mJ(key:Nat->List Int×Addr):∀(i:Nat),(dd key i).length<=i
 |0=>Hx _
 |i+1=>by
  have:=mJ key i;unfold dd;split
  .omega
  .rw [Ww,Q0];omega
def mz(key:Nat->List Int×Addr):∀(i j:Nat),j<i ->∃d∈dd key i,d.1=(key j).1
 |0,j,h=>by omega
 |i+1,j,h=>by
  unfold dd;by_cases b:j=i
  .subst b
   split
   .assumption
   .exact ⟨_,TV _ (V2.mpr rfl),rfl⟩
  .obtain ⟨d,a,e⟩:=mz key i j ()
   split
   .exact ⟨d,a,e⟩
   .exact ⟨d,Qf _ a,e⟩
def pT(key:Nat->List Int×Addr):∀(i:Nat),((dd key i).map (·.1)).Nodup
 |0=>List.nodup_nil
 |i+1=>by
  have ih:=pT key i;unfold dd;split
  .exact ih
  .rename_i c
   rw[Ph];refine Np.mpr ⟨ih,by simp,λx b y a e=>c ?_⟩
   let⟨d,f,g⟩:=Ud.mp b;rw[List.map_singleton,V2]at a;exact⟨d,f,by rw[g,e,a]⟩
section
variable{R:Result->Shared->Prop}{I:Addr}{wr:List Addr}{G:Array GenState->Array GenState->Prop}{P:Nat->Value->Prop}{St:Nat->Shared->Prop}
def SInv(prog:Program)(w:World)(c:Addr)(D:List (List Int×Addr))(h:Heap):Prop:=∃o a b t Z,h.get? c=some o/\Yw prog w o D a b t Z
def xu(W:WalksS prog w A.in1 I fp wr G n P St)(hu:A.in1.units<cLine)(Z6:Addr)(hSf:Z6 ∉ fp)(L:Heap)(hS0:L.get? Z6=none)(hw0:∀b∈wr,L.get? b=none)
  (key:Nat->List Int×Addr) (SG:∀i v,P i v->v=.ref (key i).2) (Um:∀i,i<n->IsT prog w L (key i).1 (key i).2)
  (SE:∀i j,i<n->j<n->Yu prog w (key i).1=Yu prog w (key j).1->(key i).1=(key j).1) (hn:n<=300) :
  ∀(m i:Nat) (s:Shared),n-i=m->i<=n->St i s->(∀b o,L.get? b=some o->s.heap.get? b=some o)->SInv prog w Z6 (dd key i) s.heap ->
   (∀u,Moved (Z6::wr) G s u->SInv prog w Z6 (dd key n) u.heap->R (.ok (.ret .none)) u) ->
   codeAny (model prog w) A (.builtin "set.update.loop" ⟨[.ref Z6,.ref I],[]⟩) R s:=by
 have hSw:Z6 ∉ wr:=λh=>hSf (W.sub _ h);have WC:∀b∈wr,b∈Z6::wr:=λb hb=>Hy _ hb;have kp:∀{s u:Shared},Moved wr G s u->(∀b o,L.get? b=some o->s.heap.get? b=some o) ->∀b o,L.get? b=some o->u.heap.get? b=some o:=λz hb b o e=>
  z.heap b o (λhw=>by rw[hw0 b hw]at e;cases e) (hb b o e)
 intro m
 induction m with
 |zero=>
  intro i s hk hi st hb hS hR;have e:i=n:=by omega
  subst e;refine Ou Om ?_;rw[O0 QA _];show wpAny _ A.in1 (pyNext (.ref I) >>= _) _ _ s;refine ZB (W.done s _ _ st λu z=>?_);let⟨o,es,ep,t,Z,ho,hP⟩:=hS;exact ZP (hR u (z.mono WC) ⟨o,es,ep,t,Z,z.heap Z6 _ hSw ho,hP⟩)
 |succ m ih=>
  intro i s hk hi st hb hS hR;have Y8:i<n:=by omega
  refine Ou Om ?_;rw[O0 QA _];show wpAny _ A.in1 (pyNext (.ref I) >>= _) _ _ s;refine ZB (W.item i s _ _ Y8 st λv u hv ZV z=>?_);obtain rfl:=SG i v hv;let⟨o,es,ep,t,Z,ho,hP⟩:=hS;have YN:=z.heap Z6 _ hSw ho;have Y7:=kp z hb;have S:∀j,j<n->IsT prog w u.heap (key j).1 (key j).2:=λj hj=>by
   let⟨x,ZU,c,e1,e2,e3,e4⟩:=Um j hj;exact⟨x,ZU,c,Y7 _ _ e1,e2,e3,e4⟩
  show wpAny _ A.in1 (holding [Value.ref (key i).2] (setAdd Z6 (.ref (key i).2)) >>= _) _ _ u;refine ZB (TU (xM hu YN hP (λd hd=>?_) (S i Y8) (λd hd e=>?_) (by have:=mJ key i;omega) (λhx=>?_) λhx h' o2 es2 ep2 t2 Z2 sb ho2 hP2=>?_))
  .obtain ⟨j,hj,rfl⟩:=cL key i d hd
   exact S j ()
  .obtain ⟨j,hj,rfl⟩:=cL key i d hd
   exact SE j i () Y8 e
  .have ed:dd key (i+1)=dd key i:=by rw[dd,Y2 hx]
   refine ZP ⟨plainId_quiet QA _,ih (i+1) _ () Y8 (W.frame _ u u.heap _ ZV (Oe _ _) λb _ o e=>e) Y7 ⟨o,es,ep,t,Z,YN,by rw[ed];exact hP⟩ λs2 Yq B=>?_⟩
   exact hR s2 (Moved.trans W.gtrans ((z.mono WC).then_heap (Oe _ _) λb o _ e=>e) Yq) B
  .have ed:dd key (i+1)=dd key i++[key i]:=by
    rw[dd,YH];rintro⟨d,hd,e⟩;exact hx d hd e
   refine ZP ⟨plainId_quiet QA _,ih (i+1) _ () Y8 (W.frame _ u h' _ ZV (Oe _ _) λb hbf o e=>?_) (λb o e=>?_) ⟨o2,es2,ep2,t2,Z2,ho2,by rw[ed];exact hP2⟩ λs2 Yq B=>?_⟩
   .rw [sb.2 b λq:b=Z6=>hSf (by rw[<-q];exact hbf)];exact e
   .show h'.get? b=_
    rw[sb.2 b λq:b=Z6=>by rw[q,hS0]at e;cases e];exact Y7 b o e
   .refine hR s2 (Moved.trans W.gtrans ((z.mono WC).then_heap (Oe _ _) λb o hbn e=>?_) Yq) B
    show h'.get? b=_;rw[sb.2 b λq:b=Z6=>hbn (by rw[q];exact HD)];exact e
end
section
variable{E:Value->Shared->Prop}
abbrev Fc(w:World):Bool:=w.params.followText "set-order"
abbrev AW(w:World):Obj:={cls:=.type "set",dict:=none,data:=.set #[] 0 (.fresh 0 0 (!Fc w))}
def zp:Yw prog w (AW w) [] #[] 0 (.fresh 0 0 (!Fc w)) [] where
 ex:=⟨rfl,rfl,rfl⟩
 dt:=rfl
 tb:=⟨rfl,rfl,rfl,List.Pairwise.nil,λz j=>by(cases j),.inl rfl,P7 _,λz j=>by(cases j)⟩
 pl:=rfl
 ld:=rfl
 fl:=(by decide:0<7*3)
 pm:=List.Perm.refl _
def xZ(a:Value){Q₁ : Value->Shared->Prop}(h:Q₁ (.ref s.heap.objs.size) {s with heap:=s.heap.push (AW w)}):
  codeAny (model prog w) A (.call (.builtin "set.__new__") ⟨[.type "set",a],[]⟩) (wants Q₁ E) s:=by
 refine O5 ?_;show wpAny _ A.in1 (do checkBuiltinCall "set.__new__" ⟨[.type "set",a],[]⟩;again (.builtin "set.__new__" ⟨[.type "set",a],[]⟩)) _ _ s
 refine ZB (NZ (PySem.F.newCall_set_1 a) (ZP ⟨plainId_quiet PySem.F.plain_set_new _,Ou PySem.F.entry_set_new ?_⟩));rw[O0 PySem.F.plain_set_new _];unfold Builtin.«set.__new__» Builtin.Frozenset.newClass;have WC:=sub_set_self;let⟨hp,g,d,tk,os⟩:=s;dsimp only
 wp_walk
 refine QH (ZP ?_);dsimp only;simp![newObj];refine ZB (wpAny_alloc (ZP ?_));exact ZP h
set_option maxHeartbeats 3200000 in
def vf{l:Addr}{items:Array Value}{Q:Value->Shared->Prop}{key:Nat->List Int×Addr}
  (hh:A.handled=none) (hu:A.units+3<cLine) (hl:s.heap.IsList l items) (SG:∀(i:Nat) (v:Value),items[i]?=some v->v=.ref (key i).2) (Um:∀i,i<items.size->IsT prog w s.heap (key i).1 (key i).2)
  (SE:∀i j,i<items.size->j<items.size->Yu prog w (key i).1=Yu prog w (key j).1->(key i).1=(key j).1) (hn:items.size<=300)
  (h:∀(h':Heap) (tk:Nat),SInv prog w s.heap.objs.size (dd key items.size) h'->(∀b o,s.heap.get? b=some o->h'.get? b=some o)->Q (.ref s.heap.objs.size) {s with heap:=h',toks:=tk}) :
  wpAny (model prog w) A (call (.type "set") [.ref l]) Q E s:=by
 let⟨c,tl,hmro⟩:=PySem.F.called_set.mro;have hmade:=PySem.F.called_set.made;have WC:=PySem.F.called_set.sub;refine Nc (O5 ?_);show wpAny _ _ (callAny (.type "set") _) _ _ _;refine ZP ⟨Oy _ (by decide +kernel),Ou PySem.F.entry_type_call ?_⟩
 rw[Around.under_plain (weight_type_call_type "set" [.ref l] []) rfl];have h1:=PySem.F.called_set.notType;have h2:=PySem.F.called_set.canCreate;have hct:=PySem.F.typeCall_set_1 (.ref l)
 repeat (any_goals (first|assumption|wp_step))
 refine PF (xZ (.ref l) (E:=E) (Q₁:=λobj ZE=>obj=.ref s.heap.objs.size/\ZE = {s with heap:=s.heap.push (AW w)}) ⟨rfl,rfl⟩) λr ZE G=>?_
 cases r with
 |error e=>exact G
 |ok fl=>
  cases fl with
  |ret obj=>
   let⟨rfl,rfl⟩:=G;have hS:(s.heap.push (AW w)).get? s.heap.objs.size=some (AW w):=HB _ rfl;have hT:Shared.TypeIs {s with heap:=s.heap.push (AW w)} (.ref s.heap.objs.size) "set":=⟨_,hS,rfl⟩
   have hli:=PySem.F.called_set.init.lookup;have hbi:=PySem.F.called_set.init.bind (.ref s.heap.objs.size)
   repeat (any_goals (first|assumption|wp_step))
   refine PF (P_ (R:=wants (λr Xu => r=.none /\ ∃ h' tk,Xu = { s with heap:=h',toks:=tk }/\SInv prog w s.heap.objs.size (dd key items.size) h'/\(∀ b o,s.heap.get? b=some o->h'.get? b=some o)) E)
    PySem.F.called_set.init.plain PySem.F.entry_set_init (check_set_init_1 hT ?_)) λB Xu Ue=>?_
   .obtain ⟨ol,S,X8,nl,hdl⟩:=hl
    let⟨ocls,Rh,odata,Rg⟩:=ol;simp only at X8 hdl;subst X8;subst hdl;have L:(s.heap.push (AW w)).get? l=some {cls:=.type "list",dict:=Rh,data:=.seq items nl,slots:=Rg}:=Ht _ S;have hsls:=PySem.F.sub_list_set;have hslf:=PySem.F.sub_list_frozenset;have YT:(Value.type "list" == Value.type "dict")=false:=by decide
    have hl1:(s.heap.push (AW w)).IsList l items:=⟨_,L,rfl,nl,rfl⟩;unfold Builtin.«set.__init__» noKeywords Builtin.Frozenset.updateFrom;generalize hPI:pyIter=PI
    wp_walk
    subst hPI;refine wpAny_pyIter_list hl1 ?_;refine ZB (wpAny_runValue ?_);have hlS:l<s.heap.objs.size:=Hu S;have hh3:A.in1.in1.in1.handled=none:=by simp[hh]
    have z1:(s.heap.push (AW w)).objs.size=s.heap.objs.size+1:=OL _ _;have Z:l≠(s.heap.push (AW w)).objs.size:=by rw[z1];exact HA (Px hlS)
    have hSf:s.heap.objs.size ∉ [(s.heap.push (AW w)).objs.size,l]:=by
     rw[z1];intro u;rcases Vh.mp u with e|u
     .exact HA (Of _) e
     .exact Od hlS (V2.mp u)
    have RZ:∀b,s.heap.objs.size<=b->s.heap.get? b=none:=λb hb=>by
     cases e:s.heap.get? b with
     |none=>rfl
     |some o=>exact absurd (Hu e) (Nat.not_lt.mpr hb)
    refine xu ((Walks.list hh3 _ l Z items).toS) (by first|exact hu|(simp![Around.in1_units];omega)) s.heap.objs.size hSf s.heap (RZ _ (Hx _)) (λb hb=>RZ b (by rw[V2.mp hb,z1];exact Nq _)) key (λi v hv=>SG i v hv) Um SE hn (items.size-0) 0 _ () (P7 _)
     ⟨⟨_,HB _ rfl,rfl,rfl⟩,(hl1.push _)⟩ (λb o e=>Ht _ (Ht _ e)) ⟨AW w,_,_,_,[],Ht _ hS,zp⟩ λs' u z=>?_
    let⟨h',g',d',tk',os'⟩:=s';have eg:g'=s.gens:=u.gens;have ed:d'=s.drawn:=u.drawn;have eo:os'=s.os:=u.os;subst eg;subst ed;subst eo;show wpAny _ _ _ _ _ _;refine ZP ?_;show wpAny _ _ (ret Value.none) _ _ _;refine ZP ⟨rfl,h',tk',rfl,z,λb o e=>?_⟩;have hb:=Hu e;refine u.heap b o (λYv=>?_) (Ht _ (Ht _ e));rcases Vh.mp Yv with e'|Yv
    .exact HA hb e'
    .have:=V2.mp Yv
     rw[z1]at this;exact HA (Px hb) this
   .cases B with
    |error e=>exact Ue
    |ok Rf=>
     cases Rf with
     |ret r=>
      let⟨rfl,h',tk,rfl,z,Yr⟩:=Ue
      repeat (any_goals (first|assumption|wp_step))
      exact h _ _ z Yr
     |next=>exact Ue.elim
     |brk=>exact Ue.elim
     |cont=>exact Ue.elim
  |next=>exact G.elim
  |brk=>exact G.elim
  |cont=>exact G.elim
end
def lB{b:Type}(next:Nat->Nat):∀(fu k:Nat) (left:List b) (out:Array b),left.length<=fu->(pickOrder.go next fu k left out).toList.Perm (out.toList++left)
 |0,k,left,out,h=>by
  have:left=[]:=List.length_eq_zero_iff.mp ()
  subst this;rw[pickOrder.go,Qe]
 |fu+1,k,left,out,h=>by
  rw[pickOrder.go];cases e:left[next k % left.length]? with
  |none=>
   dsimp only;cases left with
   |nil=>rw[Qe]
   |cons x l=>
    rw[Xn (NK _ (by rw[Uc];omega))]at e
    cases e
  |some x=>
   dsimp only;let⟨hi,c⟩:=YE.mp e;refine(lB next fu (k+1) _ _ (by rw[List.length_eraseIdx_of_lt hi];omega)).trans ?_
   rw[QP,VO];refine Pn _ ?_;have a:left=left.take (next k % left.length)++x::left.drop (next k % left.length+1):=by
    rw[<-c,<-Ss hi,Ug]
   rw[List.eraseIdx_eq_take_drop_succ];generalize left.take (next k % left.length)=JV at a ⊢;generalize left.drop (next k % left.length+1)=d at a ⊢;rw[a];exact(List.perm_middle (l₁:=JV)).symm
def vP(next:Nat->Nat)(xs:Array α):(pickOrder next xs).toList.Perm xs.toList:=by
 unfold pickOrder;exact(lB next _ 0 _ #[] (by simp)).trans (by simp)
def Iz(w:World)(a:Addr)(c:Nat)(b:Array (Int×Value)):List (Int×Value):=if w.params.followText "set-order" then(pickOrder (w.params.setOrder a c) b).toList else b.toList
def fT(w:World)(a:Addr)(c:Nat)(b:Array (Int×Value)):(Iz w a c b).Perm b.toList:=by
 unfold Iz;split
 .exact vP _ _
 .exact .refl _
def bK:Slot "set_iterator" "__next__" "set_iterator.__next__":=
 .of (owner:="set_iterator") (n:="__next__") (by rw[typeLookup_type,builtinLookup_eq_fast];kernel_rfl) (by decide +kernel) (by decide +kernel) (by decide +kernel)
  (by first|exact .inl (by decide +kernel)|exact .inr (by decide +kernel)) (by rw[N1];kernel_rfl)
def ir:entryFor table "set_iterator.__next__" = some Builtin.«set_iterator.__next__»:=entryFor_of_tree (by kernel_rfl)
def iS(a:Value):argsOk "set_iterator.__next__" ⟨[a],[]⟩:=by unfold argsOk;kernel_rfl
def i5:Slot "set_iterator" "__iter__" "set_iterator.__iter__":=
 .of (owner:="set_iterator") (n:="__iter__") (by rw[typeLookup_type,builtinLookup_eq_fast];kernel_rfl) (by decide +kernel) (by decide +kernel) (by decide +kernel)
  (by first|exact .inl (by decide +kernel)|exact .inr (by decide +kernel)) (by rw[N1];kernel_rfl)
def uH:entryFor table "set.__iter__" = some Builtin.«frozenset.__iter__»:=
 entryFor_alias (id':="frozenset.__iter__") (by kernel_rfl) rfl (by decide +kernel) (by kernel_rfl)
section
variable{E:Value->Shared->Prop}{Z6 it:Addr}{o:Obj}{es:Array (Int×Value)}{t:SetTable}{Z:Z3}
def SIt(h:Heap)(it Z6:Addr)(j i n ep:Nat):Prop:=∃o,h.get? it=some o/\o.cls=.type "set_iterator" /\ o.data=.fields #[.int j 0,.int i 0,.ref Z6,.int n 0,.int ep 0]
def SIt.typeIs(h:SIt s.heap it Z6 slot i n ep):s.TypeIs (.ref it) "set_iterator":=let⟨o,e,c,_⟩:=h;⟨o,e,c⟩
def wQ{Q:Value->Shared->Prop}(j:s.heap.get? Z6=some o)(P:Yw prog w o D es ep t Z)
  (h:Q (.ref s.heap.objs.size) {s with heap:=s.heap.push {cls:=.type "set_iterator",data:=.fields #[.int 0 0,.int 0 0,.ref Z6,.int es.size 0,.int ep 0]}}):wpAny (model prog w) A (pyIter (.ref Z6)) Q E s:=by
 have u:s.TypeIs (.ref Z6) "set":=⟨o,j,P.ex.1⟩;have hf:=P.tb.fits;refine Nr u PySem.F.slot_set_iter (QG PySem.F.slot_set_iter u uH ?_ (PySem.F.args_set_iter_1 _));unfold Builtin.«frozenset.__iter__» Builtin.Frozenset.slot0 slotArgs Builtin.Frozenset.addrOf Builtin.Frozenset.sizeOf;simp![Og,QK,Wi,UP,Qn,P4];refine ZB (ZP ?_);refine ZB (ZB (O8 j P.dt hf (ZP ?_)));refine ZB ?_;unfold setDrawn setsByText;refine ZB (Qv j P.dt hf ?_);dsimp only;refine ZB (ZB (QH (ZP ?_)));refine ZP ?_;rw[YH (by show ¬ ((!w.params.followText "set-order" && (!t.plain&&decide (es.size > 1)))=true);rw[P.pl];simp)]
 refine ZB (ZP ?_);refine ZB (wpAny_setEpoch_of j P.dt hf ?_);exact ZB (RG (ZP ⟨_,rfl,"set_iterator",_,⟨_,HB _ rfl,rfl⟩,bK.lookup,by simpa[rawInt]using h⟩))
def SAt(w:World)(t:SetTable)(a i:Nat):Prop:=w.params.followText "set-order" = false->SetTable.below t.place a=i
def below_at(T:Tb t es Z){x:Nat}(e:t.place[i]?=some x):SetTable.below t.place (x+1)=i+1:=by
 let⟨c,b,d⟩:=T.below (x+1);have hi:=(Th.mp e).1;rcases Nat.lt_trichotomy (SetTable.below t.place (x+1)) (i+1)with q|q|q
 .have:=b i x () e;omega
 .exact q
 .have a:t.place[i+1]?=some t.place[i+1]:=VQ ()
  have h1:=c (i+1) _ q a;have h2:=T.lt i (i+1) _ _ () e a
  omega
def uG(T:Tb t es Z):SetTable.below t.place 0=0:=by
 let⟨b,d,c⟩:=T.below 0;rcases Nat.eq_zero_or_pos (SetTable.below t.place 0)with q|q
 .exact q
 .have a:t.place[0]?=some t.place[0]:=VQ ()
  have:=b 0 _ q a;omega
def vQ{e:Int×Value}{Q:Option (Value×Nat)->Shared->Prop}(z:s.heap.get? Z6=some o)(P:Yw prog w o D es ep t Z)(hs:SAt w t slot i)(j:(Iz w Z6 ep es)[i]?=some e)
  (h:∀G,SAt w t G (i+1)->Q (some (e.2,G)) s):wpAny (model prog w) A (setNext Z6 slot i ep) Q E s:=by
 have hf:=P.tb.fits;unfold setNext;refine ZB (Qv z P.dt hf ?_);dsimp only;unfold setsByText;refine ZB (ZB (QH (ZP ?_)));dsimp only;cases hb:w.params.followText "set-order" with
 |true=>
  have u:(model prog w).w.params.followText "set-order" = true:=hb;rw[u,Y2 rfl,YH (by simp)]
  refine ZB ?_;unfold setWalk setsByText;refine ZB (Qv z P.dt hf ?_);dsimp only;refine ZB (ZB (QH (ZP ?_)));rw[u,Y2 rfl];refine ZB (QH (ZP ?_));refine ZP ?_;have:(pickOrder ((model prog w).w.params.setOrder Z6 ep) es)[i]?=some e:=by
   unfold Iz at j;rw[Y2 hb]at j;rw[<-U9];exact j
  rw[this];exact h slot (λq=>by rw[hb]at q;cases q)
 |false=>
  have u:(model prog w).w.params.followText "set-order" = false:=hb;rw[u,YH (by decide)]
  rw[YH (by show ¬ ((!t.plain&&decide (es.size > 1))=true);rw[P.pl];simp)]
  refine ZB ?_;show wpAny _ _ (if(!t.led&&!es.isEmpty)=true then unsupported "set:maker-not-led" else pure Unit.unit) _ _ _
  rw[YH (by rw[P.ld,hb];simp)]
  refine ZP ?_;rw[hs hb];have F:es[i]?=some e:=by
   unfold Iz at j;rw[YH (by rw[hb];decide)]at j
   rw[<-U9];exact j
  have hi:i<t.place.size:=by
   have:=(Th.mp F).1;rw[P.tb.len]at this;rw[P.tb.hp];simpa using this
  have B:t.place[i]?=some t.place[i]:=VQ hi;rw[F,B];exact ZP (h _ λ_=>below_at P.tb B)
def vO{Q:Option (Value×Nat)->Shared->Prop}(z:s.heap.get? Z6=some o)(P:Yw prog w o D es ep t Z)(hs:SAt w t slot i)(j:(Iz w Z6 ep es)[i]?=none)
  (h:Q none s):wpAny (model prog w) A (setNext Z6 slot i ep) Q E s:=by
 have hf:=P.tb.fits;unfold setNext;refine ZB (Qv z P.dt hf ?_);dsimp only;unfold setsByText;refine ZB (ZB (QH (ZP ?_)));dsimp only;cases hb:w.params.followText "set-order" with
 |true=>
  have u:(model prog w).w.params.followText "set-order" = true:=hb;rw[u,Y2 rfl,YH (by simp)]
  refine ZB ?_;unfold setWalk setsByText;refine ZB (Qv z P.dt hf ?_);dsimp only;refine ZB (ZB (QH (ZP ?_)));rw[u,Y2 rfl];refine ZB (QH (ZP ?_));refine ZP ?_;have:(pickOrder ((model prog w).w.params.setOrder Z6 ep) es)[i]?=none:=by
   unfold Iz at j;rw[Y2 hb]at j;rw[<-U9];exact j
  rw[this];exact h
 |false=>
  have u:(model prog w).w.params.followText "set-order" = false:=hb;rw[u,YH (by decide)]
  rw[YH (by show ¬ ((!t.plain&&decide (es.size > 1))=true);rw[P.pl];simp)]
  refine ZB ?_;show wpAny _ _ (if(!t.led&&!es.isEmpty)=true then unsupported "set:maker-not-led" else pure Unit.unit) _ _ _
  rw[YH (by rw[P.ld,hb];simp)]
  refine ZP ?_;rw[hs hb];have B:es[i]?=none:=by
   unfold Iz at j;rw[YH (by rw[hb];decide)]at j
   rw[<-U9];exact j
  rw[B];exact ZP h
def w8{e:Int×Value}{Q:Option Value->Shared->Prop}(j:SIt s.heap it Z6 slot i es.size ep)(F:s.heap.get? Z6=some o)(P:Yw prog w o D es ep t Z)(hs:SAt w t slot i)(L:(Iz w Z6 ep es)[i]?=some e)
  (h:∀h' u,SIt h' it Z6 u (i+1) es.size ep->SAt w t u (i+1)->Heap.SameBut it s.heap h'->Q (some e.2) {s with heap:=h'}):wpAny (model prog w) A (pyNext (.ref it)) Q E s:=by
 let⟨S,z,hc,hd⟩:=id j;unfold pyNext;refine ZB (PU (Pf (name:=Str.ofString "__next__") j.typeIs bK (QG bK j.typeIs ir ?_ (iS _))));delta Builtin.«set_iterator.__next__» slotArgs;dsimp only;dsimp only [List.isEmpty_nil,Bool.not_true,List.length_nil];rw[if_neg (by decide)];try (rw[if_neg (by decide)]);refine ZB (ZP ?_);refine ZB (Ng z hd ?_);dsimp only;refine ZB (O8 F P.dt P.tb.fits ?_);rw[YH (by simp)]
 simp![OM];refine ZB (vQ F P hs L λu R=>?_);dsimp only;refine ZB (Pl z hd (by simp) ?_)
 have B:(s.heap.update it (Obj.mapFields (·.setIfInBounds 0 (rawInt u)))).get? it=some _:=Qi _ z (Q2 (Qb hd _));refine ZB (Pl B (Qb hd _) (by simp) ?_)
 have G:=Qi (Obj.mapFields (·.setIfInBounds 1 (rawInt ((i:Int)+1)))) B (Q2 (Qb (Qb hd _) _));refine ZP ⟨_,rfl,ZP (h _ u ⟨_,G,((ON ..).trans (ON ..)).trans hc,?_⟩ R ((Heap.SameBut.update ..).trans (Heap.SameBut.update ..)))⟩;rw[Qb (Qb hd _)];simp[rawInt]
def xx{Q:Option Value->Shared->Prop}(B:A.handled=none)(j:SIt s.heap it Z6 slot i es.size ep)(u:s.heap.get? Z6=some o)(P:Yw prog w o D es ep t Z)(hs:SAt w t slot i)(F:(Iz w Z6 ep es)[i]?=none)
  (h:∀h',Heap.ExtBut it s.heap h'->Q none {s with heap:=h'}):wpAny (model prog w) A (pyNext (.ref it)) Q E s:=by
 let⟨G,z,hc,hd⟩:=id j;unfold pyNext;refine ZB (PU (Pf (name:=Str.ofString "__next__") j.typeIs bK (QG bK j.typeIs ir ?_ (iS _))));delta Builtin.«set_iterator.__next__» slotArgs;dsimp only;dsimp only [List.isEmpty_nil,Bool.not_true,List.length_nil];rw[if_neg (by decide)];try (rw[if_neg (by decide)]);refine ZB (ZP ?_);refine ZB (Ng z hd ?_);dsimp only;refine ZB (O8 u P.dt P.tb.fits ?_);rw[YH (by simp)]
 simp![OM];refine ZB (vO u P hs F ?_);dsimp only;refine ZB (Pl z hd (by simp) ?_)
 refine ZB ?_;delta newExc newTuple;try dsimp only;refine ZB (RG ?_ (by size_fits))
 refine ZB (m:=firstArgMember _ _) (NZ (a:=Value.none) (by first|rfl|(simp![firstArgMember];rfl)) (RG ?_ (by size_fits)))
 delta raiseNew;try dsimp only;refine ZB (wpAny_handled ?_);rw[show A.in1.handled=none from B];refine ZB (ZP (wpAny_throw ?_));exact ZB (Nz (T:="StopIteration") (b:=true) ⟨_,HB _ rfl,rfl⟩ isSubtype_stop (ZP (h _ (((Heap.SameBut.update ..).extBut.push _).push _))))
end
def Ah:List Int->List Int->Bool
 |[],[]=>false
 |[],_::_=>true
 |_::_,[]=>false
 |a::r,b::q=>if a=b then Ah r q else decide (a<b)
section
variable{E:Value->Shared->Prop}
def aaY(j:A.units<cLine){f:Bool}{a b:Int}{t u:Tok}{Q:Bool->Shared->Prop}(h:Q (decide (a<b)) s):wpAny (model prog w) A (oneLt' f (.int a t) (.int b u)) Q E s:=by
 cases f with
 |true=>exact oneLt_int h
 |false=>
  rw[oneLt'_eq];simp![Wi,UP];refine ZB (wpAny_richCompare_same_room (op:=.Lt) (typeIs_int s a t) (typeIs_int s b u) slot_int_lt (call_int_lt ⟨(λe=>nomatch e),?_⟩) j);exact QM h
def vN(f:Bool)(x y:Value):keyLt' (tuples' f) x y=(do
  let xs<-Builtin.List.listItems x;let ys<-Builtin.List.listItems y
  for ((p,q),i)in (xs.toList.zip ys.toList).zipIdx do
   if !(<- eqBool p q)then return<-oneLt' (f&&i==0) p q
  return xs.size<ys.size):=rfl
def zE(hu:A.units<cLine){f:Bool}{x y:List Int}{Q:Bool->Shared->Prop}(hx:IsT prog w s.heap x a)(hy:IsT prog w s.heap y b)(h:Q (Ah x y) s):
  wpAny (model prog w) A (keyLt' (tuples' f) (.ref a) (.ref b)) Q E s:=by
 let⟨oa,xs,na,hoa,_,hda,XX⟩:=hx;let⟨ob,ys,nb,hob,_,YU,hib⟩:=hy;rw[vN];refine ZB (listItems_at hoa hda ?_);refine ZB (listItems_at hob YU ?_);refine ZB ?_;refine OT _
  (λZS r s'=>r.1=none/\s'=s /\∃x' Z R S k,ZS=(List.zip R S).zipIdx k/\ItemsAre (intKind prog w) x' R/\ItemsAre (intKind prog w) Z S/\Ah x' Z=Ah x y/\(R.length+ys.size=S.length+xs.size))
  _ ?_ ?_ _ _ ⟨rfl,rfl,x,y,xs.toList,ys.toList,0,rfl,XX,hib,rfl,by simp[Nat.add_comm]⟩
 .rintro ⟨⟨u,v⟩,i⟩ ZS r s' ⟨hr,rfl,x',Z,R,S,k,j,UO,UT,S9,hlen⟩
  cases UO with
  |nil=>simp at j
  |@cons k1 u' x'' B h1 G=>
   cases UT with
   |nil=>simp at j
   |@cons k2 v' y'' z h2 F=>
    simp![PJ,List.zipIdx_cons,NV,Nw]at j;let⟨⟨⟨rfl,rfl⟩,rfl⟩,rfl⟩:=j;refine ZB ((intKind prog w).eqBool (a:=k1) (b:=k2) h1 h2 ?_);by_cases hk:k1=k2
    .subst hk
     rw[Qx rfl];simp![QK,Wi,UP];refine ZP ⟨rfl,rfl,x'',y'',B,z,i+1,rfl,G,F,?_,?_⟩
     .rw [<-S9];simp[Ah]
     .simp only [Uc]at hlen;omega
    .rw [Ry hk]
     simp![Nf,Qp];let⟨t1,rfl⟩:=PX h1;let⟨t2,rfl⟩:=PX h2;refine ZB (aaY hu ?_);refine ZP (ZP ?_);have:Ah x y=decide (k1<k2):=by rw[<-S9];simp[Ah,hk]
     rw[this]at h;exact h
 .rintro ⟨r1,r2⟩ s' ⟨hr,rfl,x',Z,R,S,k,j,UO,UT,S9,hlen⟩
  simp only at hr;subst hr;refine ZP ?_;have L:decide (xs.size<ys.size)=Ah x y:=by
   rw[<-S9];cases UO with
   |nil=>
    cases UT with
    |nil=>simp![Ah,Qn]at hlen ⊢;exact Ry ()
    |cons _ _=>simp![Ah,Qn,Uc]at hlen ⊢;exact Qx ()
   |cons _ _=>
    cases UT with
    |nil=>simp![Ah,Qn,Uc]at hlen ⊢;exact Ry ()
    |cons _ _=>simp at j
  rw[L];exact h
end
def AE(prog:Program)(w:World)(A:Around)(E:Value->Shared->Prop)(s:Shared)(j:SortKind)(ZN : Array Keyed)(rk:Keyed->Nat):Prop:=
 ∀x y,x∈ZN -> y∈ZN ->∀(st:SortSt) (Q:Option Bool->SortSt->Prop),kindOf st=j->Q (some (decide (rk x<rk y))) st->wpS (model prog w) A E s (lt' x y) Q st
def IA(rk:Keyed->Nat)(a:Array Keyed)(i:Nat):Nat:=(a[i]?.map rk).getD 0
structure SB(κ:SortKind)(ZN : Array Keyed)(st:SortSt):Prop where
 perm:(arrOf st).Perm ZN
 failed:failedOf st=none
 kind:kindOf st=κ
def Up(r:Nat->Nat)(lo hi:Nat):Prop:=∀i j,lo<=i->i<=j->j<hi->r i<=r j
def Dn(r:Nat->Nat)(lo hi:Nat):Prop:=∀i j,lo<=i->i<=j->j<hi->r j<=r i
structure Kp(κ:SortKind)(ZN : Array Keyed)(lo hi:Nat)(st ZV:SortSt):Prop where
 sb:SB κ ZN ZV
 out:∀i,(i<lo\/hi<=i)->(arrOf ZV)[i]? = (arrOf st)[i]?
 pend:pendingOf ZV=pendingOf st
section
variable{E:Value->Shared->Prop}{hi:Nat}
def SB.size(B:SB κ ZN st):(arrOf st).size=ZN.size:=B.perm.size_eq
def Kp.refl(B:SB κ ZN st):Kp κ ZN lo hi st st:=⟨B,λ_ _=>rfl,rfl⟩
def Kp.trans{a b:SortSt}(h:Kp κ ZN lo hi st a)(h':Kp κ ZN lo hi a b):Kp κ ZN lo hi st b:=⟨h'.sb,λi hi=>(h'.out i hi).trans (h.out i hi),h'.pend.trans h.pend⟩
def SB.setArr(B:SB κ ZN st){xs:Array Keyed}(h:xs.Perm (arrOf st)):SB κ ZN (setArr st xs):=⟨h.trans B.perm,B.failed,B.kind⟩
def cR(Z7:AE prog w A E s κ ZN rk)(B:SB κ ZN st){Q:Option Bool->SortSt->Prop}(hi:i<ZN.size)(hj:j<ZN.size)
  (h:Q (some (decide (IA rk (arrOf st) i<IA rk (arrOf st) j))) st):wpS (model prog w) A E s (ltAt' i j) Q st:=by
 have YL:i < (arrOf st).size:=by rw[B.size];exact hi
 have X9:j < (arrOf st).size:=by rw[B.size];exact hj
 have ei:(arrOf st)[i]?=some (arrOf st)[i]:=VQ YL;have ej:(arrOf st)[j]?=some (arrOf st)[j]:=VQ X9;rw[ltAt'_eq];refine Xa (O9 ?_);show wpS _ _ _ _ (do let x<-elem' (arrOf st) i;let y<-elem' (arrOf st) j;lt' x y) Q st
 rw[elem'_eq,elem'_eq,ei,ej];refine Xa (Wm (Xa (Wm ?_)));refine Z7 _ _ (B.perm.mem_iff.mp (T1 YL)) (B.perm.mem_iff.mp (T1 X9)) st Q B.kind ?_;unfold IA at h;rw[ei,ej]at h;exact h
def vt{a:Array Keyed}(b:j<=a.size)(k:Nat):IA rk (mirror a i j ((j-i) / 2)) k=if i<=k/\k<j then IA rk a (i+j-1-k)else IA rk a k:=by
 unfold IA;rw[getElem?_mirror_all b];split<;>rfl
def bV(B:SB κ ZN st){Q:Unit->SortSt->Prop}(z:j<=ZN.size)
  (h:∀ZV,SB κ ZN ZV->pendingOf ZV=pendingOf st->(∀k,¬ (i<=k/\k<j)->(arrOf ZV)[k]? = (arrOf st)[k]?)->(∀k,IA rk (arrOf ZV) k=if i<=k/\k<j then IA rk (arrOf st) (i+j-1-k)else IA rk (arrOf st) k)->Q Unit.unit ZV) :
  wpS (model prog w) A E s (reverseSlice' i j) Q st:=by
 have u:j<=(arrOf st).size:=by rw[B.size];exact z
 rw[reverseSlice'_eq];refine PK (h _ (B.setArr (mirror_perm _ _ _ _)) rfl (λk hk=>?_) λk=>vt u k);show(mirror (arrOf st) i j ((j-i) / 2))[k]?=_;rw[getElem?_mirror_all u,YH hk]
def cz(Z7:AE prog w A E s κ ZN rk)(B:SB κ ZN st){Zk:Nat}{Q:Option (Option Nat)×Nat->SortSt->Prop}(h1:1<=n)(h2:n<=Zk)(hs:lo+Zk<=ZN.size)(hu:Up (IA rk (arrOf st)) lo (lo+n))
  (h:∀m,n<=m->m<=Zk->Up (IA rk (arrOf st)) lo (lo+m)->(m=Zk\/IA rk (arrOf st) (lo+m)<IA rk (arrOf st) (lo+m-1))->Q (none,m) st) :
  wpS (model prog w) A E s (forIn [n:Zk] ((none,n):Option (Option Nat)×Nat) λ_ c=>do
   let VF<-ltAt' (lo+c.2) (lo+c.2-1)
   match VF with
   |some SD=>if SD=true then pure (ForInStep.done (none,c.2))else pure (ForInStep.yield (none,c.2+1))
   |_=>pure (ForInStep.done (some none,c.2))) Q st:=by
 refine Qw (Ql (I:=λx c ZV=>ZV=st/\c=(none,x)/\x<=Zk/\Up (IA rk (arrOf st)) lo (lo+x))
  (Q:=λc ZV=>ZV=st /\∃m,c=(none,m)/\n<=m/\m<=Zk/\Up (IA rk (arrOf st)) lo (lo+m)/\(m=Zk\/IA rk (arrOf st) (lo+m)<IA rk (arrOf st) (lo+m-1))) ?_ ?_ ⟨rfl,rfl,h2,hu⟩) ?_
 .rintro x c ZV hnx hx ⟨rfl,rfl,_,YS⟩
  refine Xa (cR Z7 B () () ?_)
  by_cases hl:IA rk (arrOf ZV) (lo+x)<IA rk (arrOf ZV) (lo+x-1)
  .simp only [hl,OD,Qp]
   exact Wm ⟨rfl,x,rfl,hnx,by omega,YS,.inr hl⟩
  .simp only [hl,PL,Wi,UP]
   refine Wm ⟨rfl,rfl,by omega,λi j hi Y6 hj=>?_⟩
   by_cases q:j<lo+x
   .exact YS i j hi Y6 q
   .have:j=lo+x:=by omega
    subst this;by_cases q2:i=lo+x
    .rw [q2];exact Hx _
    .exact Hv (YS i (lo+x-1) hi () ()) ()
 .rintro c ZV ⟨rfl,rfl,_,YS⟩
  have e:max n Zk=Zk:=by omega
  rw[e]at YS ⊢;exact⟨rfl,Zk,rfl,h2,Hx _,YS,.inl rfl⟩
 .rintro c ZV ⟨rfl,m,rfl,a,b,c,d⟩
  exact h m a b c d
end
section
variable{E:Value->Shared->Prop}{hi:Nat}
def Eqs(r:Nat->Nat)(lo n q:Nat):Prop:=q+1<=n /\∀i,lo+n-(q+1)<=i->i<lo+n->r i=r (lo+n-1)
def fV(B:SB κ ZN st){q:Nat}{Q:Unit->SortSt->Prop}(z:Eqs (IA rk (arrOf st)) lo n q)(hs:lo+n<=ZN.size)
  (h:∀ZV,Kp κ ZN lo (lo+n) st ZV->(∀k,IA rk (arrOf ZV) k=IA rk (arrOf st) k)->Q Unit.unit ZV):wpS (model prog w) A E s (reverseSlice' (lo+n-(q+1)) (lo+n)) Q st:=by
 let⟨L,j⟩:=z;refine bV (rk:=rk) B hs λZV G F ho u=>h ZV ⟨G,λi hi=>ho i (),F⟩ λk=>?_
 rw[u k];split
 .rename_i hk
  rw[j _ () (),j k () ()]
 .rfl
def jb(Z7:AE prog w A E s κ ZN rk)(B:SB κ ZN st){u:Nat}{Q:Option (Option Nat)×Nat×Nat->SortSt->Prop}(h1:1<=n)(h2:n<=u)(hs:lo+u<=ZN.size)(hd:Dn (IA rk (arrOf st)) lo (lo+n))
  (h:∀m q ZV,Kp κ ZN lo (lo+u) st ZV->n<=m->m<=u->Dn (IA rk (arrOf ZV)) lo (lo+m)->Eqs (IA rk (arrOf ZV)) lo m q->Q (none,m,q) ZV) :
  wpS (model prog w) A E s (forIn [n:u] ((none,n,0):Option (Option Nat)×Nat×Nat) λ_ c =>
   ltAt' (lo+c.2.1) (lo+c.2.1-1) >>= λZ=>match Z with
   |some SD=>if SD=true then
     (if c.2.2 > 0 then reverseSlice' (lo+c.2.1-(c.2.2+1)) (lo+c.2.1) >>= λ_=>pure (ForInStep.yield (none,c.2.1+1,0))else pure (ForInStep.yield (none,c.2.1+1,0)))
    else (ltAt' (lo+c.2.1 - 1) (lo+c.2.1) >>= λZ=>match Z with
     |some Rc=>if Rc=true then pure (ForInStep.done (none,c.2.1,c.2.2))else pure (ForInStep.yield (none,c.2.1+1,c.2.2+1))
     |_=>pure (ForInStep.done (some none,c.2.1,c.2.2)))
   |_=>pure (ForInStep.done (some none,c.2.1,c.2.2))) Q st:=by
 refine Qw (Ql (I:=λx c ZV=>Kp κ ZN lo (lo+u) st ZV /\ ∃ q,c=(none,x,q)/\x<=u/\Dn (IA rk (arrOf ZV)) lo (lo+x)/\Eqs (IA rk (arrOf ZV)) lo x q)
  (Q:=λc ZV=>Kp κ ZN lo (lo+u) st ZV /\∃m q,c=(none,m,q)/\n<=m/\m<=u/\Dn (IA rk (arrOf ZV)) lo (lo+m)/\Eqs (IA rk (arrOf ZV)) lo m q) ?_ ?_
  ⟨Kp.refl B,0,rfl,h2,hd,by omega,λi a b=>by congr 1;omega⟩) ?_
 .rintro x c ZV R hx ⟨hk,q,rfl,_,F,G⟩
  have z:∀{r:Nat->Nat},Dn r lo (lo+x)->r (lo+x)<=r (lo+x-1)->Dn r lo (lo+(x+1)):=λ{r} F hl i j hi Y6 hj=>by
   by_cases q:j<lo+x
   .exact F i j hi Y6 q
   .have:j=lo+x:=by omega
    subst this;by_cases L:i=lo+x
    .rw [L];exact Hx _
    .exact Hv hl (F i (lo+x-1) hi () ())
  have one:∀r:Nat->Nat,Eqs r lo (x+1) 0:=λr=>⟨by omega,λi a b=>by congr 1;omega⟩
  dsimp only;refine Xa (cR Z7 hk.sb () () ?_)
  by_cases hl:IA rk (arrOf ZV) (lo+x)<IA rk (arrOf ZV) (lo+x-1)
  .simp only [hl,OD,Qp]
   by_cases VY:q > 0
   .rw [Y2 VY]
    refine Xa (fV hk.sb G () λZx S hr=>Wm ⟨hk.trans ⟨S.sb,λi hi=>S.out i (),S.pend⟩,0,rfl,by omega,?_,one _⟩)
    have e:IA rk (arrOf Zx)=IA rk (arrOf ZV):=funext hr;rw[e];exact z F ()
   .rw [YH VY]
    exact Wm ⟨hk,0,rfl,by omega,z F (),one _⟩
  .simp only [hl,PL,Wi,UP]
   refine Xa (cR Z7 hk.sb () () ?_)
   by_cases WI:IA rk (arrOf ZV) (lo+x-1)<IA rk (arrOf ZV) (lo+x)
   .simp only [WI,OD,Qp]
    exact Wm ⟨hk,x,q,rfl,R,by omega,F,G⟩
   .simp only [WI,PL,Wi,UP]
    refine Wm ⟨hk,q+1,rfl,by omega,z F (),by have:=G.1;omega,λi a b=>?_⟩
    have e1:lo+(x+1)-1=lo+x:=by omega
    rw[e1];by_cases L:i=lo+x
    .rw [L]
    .rw [G.2 i (by have:=G.1;omega) ()];omega
 .rintro c ZV ⟨hk,q,rfl,_,F,G⟩
  have e:max n u=u:=by omega
  rw[e]at F G ⊢;exact⟨hk,u,q,rfl,h2,Hx _,F,G⟩
 .rintro c ZV ⟨hk,m,q,rfl,a,b,c,d⟩
  exact h m q ZV hk a b c d
end
section
variable{E:Value->Shared->Prop}{hi:Nat}
def eL{r a:Nat->Nat}(c:Dn r lo (lo+n))(b:∀k,a k=if lo<=k/\k<lo+n then r (lo+(lo+n)-1-k)else r k):Up a lo (lo+n):=λi j hi e d=>by
 rw[b i,b j,Y2 (),Y2 ()]
 exact c _ _ () () ()
def uR(S:AE prog w A E s κ ZN rk)(B:SB κ ZN st){F:Nat}{Q:Option Nat->SortSt->Prop}(h1:1<=F)(hs:lo+F<=ZN.size)
  (h:∀m ZV,Kp κ ZN lo (lo+F) st ZV->1<=m->m<=F->Up (IA rk (arrOf ZV)) lo (lo+m)->Q (some m) ZV) :
  wpS (model prog w) A E s (countRun' lo F) Q st:=by
 rw[countRun'_eq];refine Xa (cz S B (Hx 1) h1 hs (λi j hi Y6 hj=>by have:i=j:=();rw[this];exact Hx _) λn Yp XW hu hor=>?_)
 dsimp only;by_cases hn:n=F
 .rw [Y2 (by simp[hn])]
  exact Wm (h n st (Kp.refl B) Yp XW hu)
 .rw [YH (by simp[hn])]
  have Y8:IA rk (arrOf st) (lo+n)<IA rk (arrOf st) (lo+n-1):=hor.resolve_left hn;have WA:n<F:=by omega
  have R:∀{r:Nat->Nat},Dn r lo (lo+n)->r (lo+n)<=r (lo+n-1)->Dn r lo (lo+(n+1)):=λ{r} Ys hl i j hi Y6 hj=>by
   by_cases q:j<lo+n
   .exact Ys i j hi Y6 q
   .have:j=lo+n:=by omega
    subst this;by_cases q2:i=lo+n
    .rw [q2];exact Hx _
    .exact Hv hl (Ys i (lo+n-1) hi () ())
  by_cases Ub:n > 1
  .rw [Y2 Ub]
   refine Xa (cR S B () () ?_)
   by_cases hr:IA rk (arrOf st) lo<IA rk (arrOf st) (lo+n-1)
   .simp only [hr,OD,Qp]
    exact Wm (h n st (Kp.refl B) Yp XW hu)
   .simp only [hr,PL,Wi,UP]
    have eq:∀i,lo<=i->i<lo+n->IA rk (arrOf st) i=IA rk (arrOf st) (lo+n-1):=λi a b=>by
     have e1:=hu lo i (Hx _) a b;have e2:=hu i (lo+n-1) a () ()
     omega
    refine Xa (bV (rk:=rk) B () λYK B1 hp ho hr1=>?_)
    have e1:∀k,IA rk (arrOf YK) k=IA rk (arrOf st) k:=λk=>by
     rw[hr1 k];split
     .rw [eq _ () (),eq k () ()]
     .rfl
    have e2:IA rk (arrOf YK)=IA rk (arrOf st):=funext e1;have YJ:Kp κ ZN lo (lo+F) st YK:=⟨B1,λi hi=>ho i (),hp⟩
    have hd1:Dn (IA rk (arrOf YK)) lo (lo+(n+1)):=by
     rw[e2];exact R (λi j hi Y6 hj=>by rw[eq i () (),eq j () ()];exact Hx _) ()
    refine Xa (Nh (Oa ⟨rfl,?_⟩));refine Xa (jb S YJ.sb () () hs hd1 λm q Zx G VE Yq u hq=>?_)
    dsimp only;by_cases VY:q > 0
    .rw [Y2 VY]
     refine Xa (fV G.sb hq () λZg L hr=>?_)
     have e:IA rk (arrOf Zg)=IA rk (arrOf Zx):=funext hr;have hd3:Dn (IA rk (arrOf Zg)) lo (lo+m):=by rw[e];exact u
     refine Xa (bV (rk:=rk) L.sb () λY0 z VD VC VB=>?_)
     refine Xa (cz S z () Yq hs (eL hd3 VB) λZ a b c _=>?_)
     exact Wm (h Z Y0 ((YJ.trans G).trans (Kp.trans ⟨L.sb,λi hi=>L.out i (),L.pend⟩ ⟨z,λi hi=>VC i (),VD⟩)) () b c)
    .rw [YH VY]
     refine Xa (bV (rk:=rk) G.sb () λY0 z VD VC VB=>?_)
     refine Xa (cz S z () Yq hs (eL u VB) λZ a b c _=>?_)
     exact Wm (h Z Y0 ((YJ.trans G).trans ⟨z,λi hi=>VC i (),VD⟩) () b c)
  .rw [YH Ub]
   have:n=1:=by omega
   subst this;have YJ:Kp κ ZN lo (lo+F) st st:=Kp.refl B;have hd1:Dn (IA rk (arrOf st)) lo (lo+(1+1)):=R (λi j hi Y6 hj=>by have:i=j:=();rw[this];exact Hx _) ()
   refine Xa (Nh (Oa ⟨rfl,?_⟩));refine Xa (jb S YJ.sb () () hs hd1 λm q Zx G VE Yq u hq=>?_)
   dsimp only;by_cases VY:q > 0
   .rw [Y2 VY]
    refine Xa (fV G.sb hq () λZg L hr=>?_)
    have e:IA rk (arrOf Zg)=IA rk (arrOf Zx):=funext hr;have hd3:Dn (IA rk (arrOf Zg)) lo (lo+m):=by rw[e];exact u
    refine Xa (bV (rk:=rk) L.sb () λY0 z VD VC VB=>?_)
    refine Xa (cz S z () Yq hs (eL hd3 VB) λZ a b c _=>?_)
    exact Wm (h Z Y0 ((YJ.trans G).trans (Kp.trans ⟨L.sb,λi hi=>L.out i (),L.pend⟩ ⟨z,λi hi=>VC i (),VD⟩)) () b c)
   .rw [YH VY]
    refine Xa (bV (rk:=rk) G.sb () λY0 z VD VC VB=>?_)
    refine Xa (cz S z () Yq hs (eL u VB) λZ a b c _=>?_)
    exact Wm (h Z Y0 ((YJ.trans G).trans ⟨z,λi hi=>VC i (),VD⟩) () b c)
def jl{a:Array Keyed}{b:Nat}(c:b<a.size)(e:d<=b)(k:Nat):IA rk (bubble a b d) k=if k=b-d then IA rk a b else if b-d<k/\k<=b then IA rk a (k-1)else IA rk a k:=by
 unfold IA;rw[getElem?_bubble c d e k];split
 .rfl
 .split<;>rfl
def t6(Z7:AE prog w A E s κ ZN rk)(B:SB κ ZN st){ok:Nat}{Q:Bool->SortSt->Prop}(hs:lo+n<=ZN.size)(ZK:ok<=n)(hu:Up (IA rk (arrOf st)) lo (lo+ok))
  (h:∀ZV,Kp κ ZN lo (lo+n) st ZV->Up (IA rk (arrOf ZV)) lo (lo+n)->Q true ZV):wpS (model prog w) A E s (binarySort' lo n ok) Q st:=by
 rw [binarySort'_eq];refine Xa (Qw (Ql (I:=λk c ZV=>c=(none,Unit.unit)/\Kp κ ZN lo (lo+n) st ZV/\Up (IA rk (arrOf ZV)) lo (lo+min k n))
  (Q:=λc ZV=>c=(none,Unit.unit)/\Kp κ ZN lo (lo+n) st ZV/\Up (IA rk (arrOf ZV)) lo (lo+n)) ?step ?fin ?init) ?post)
 case post=>
  rintro c ZV ⟨rfl,hk,YS⟩;exact Wm (h ZV hk YS)
 case init=>
  refine⟨rfl,Kp.refl B,λi j hi Y6 hj=>?_⟩;by_cases q:ok=0
  .have:i=j:=by omega
   rw[this];exact Hx _
  .exact hu i j hi Y6 ()
 case fin=>
  rintro c ZV ⟨hc,hk,YS⟩;refine⟨hc,hk,?_⟩;rwa[show min (max (max ok 1) n) n=n by omega]at YS
 case step=>
  rintro k c ZV hak UN ⟨rfl,hk,YS⟩;rw[show min k n=k by omega]at YS
  refine Xa (Qw (Ql (I:=λx c Yh=>Yh=ZV /\ ∃ l r,c=(none,l,r)/\l<=r/\r<=k/\r - l<=k - x /\
    (∀i,i<l->IA rk (arrOf ZV) (lo+i)<=IA rk (arrOf ZV) (lo+k))/\(∀i,r<=i->i<k->IA rk (arrOf ZV) (lo+k)<IA rk (arrOf ZV) (lo+i)))
   (Q:=λc Yh=>Yh=ZV /\ ∃ l r,c=(none,l,r)/\l<=k /\
    (∀i,i<l->IA rk (arrOf ZV) (lo+i)<=IA rk (arrOf ZV) (lo+k))/\(∀i,l<=i->i<k->IA rk (arrOf ZV) (lo+k)<IA rk (arrOf ZV) (lo+i))) ?Rb ?ifin ?Ra) ?Q_)
  case Ra=>exact⟨rfl,0,k,rfl,by omega,by omega,by omega,λi hi=>by omega,λi a b=>by omega⟩
  case ifin=>
   rintro c Yh ⟨rfl,l,r,rfl,hlr,hrk,hm,V4,UM⟩;have e:l=r:=by omega
   subst e;exact⟨rfl,l,l,rfl,hrk,V4,UM⟩
  case Rb=>
   rintro x c Yh _ hxk ⟨rfl,l,r,rfl,hlr,hrk,hm,V4,UM⟩;dsimp only;by_cases X_:l ≥ r
   .rw [Y2 X_]
    have e:l=r:=by omega
    subst e;exact Wm ⟨rfl,l,l,rfl,hrk,V4,UM⟩
   .rw [YH X_]
    refine Xa (cR Z7 hk.sb () () ?_)
    by_cases S8:IA rk (arrOf Yh) (lo+k)<IA rk (arrOf Yh) (lo+(l+r) / 2)
    .simp only [S8,OD,Qp]
     refine Wm ⟨rfl,l,(l+r) / 2,rfl,by omega,by omega,by omega,V4,λi a b=>?_⟩
     exact Hz S8 (YS _ _ () () ())
    .simp only [S8,PL,Wi,UP]
     refine Wm ⟨rfl,(l+r) / 2+1,r,rfl,by omega,by omega,by omega,λi a=>?_,UM⟩
     exact Hv (YS (lo+i) (lo+(l+r) / 2) () () ()) (Nat.not_lt.mp S8)
  case Q_=>
   rintro c Yh ⟨rfl,l,r,rfl,hlk,V4,UM⟩;show wpS _ _ _ _ (do moveDown' (lo+k) (lo+l);pure (ForInStep.yield (none,Unit.unit))) _ _
   rw[moveDown'_eq];have hks:lo+k < (arrOf Yh).size:=by rw[hk.sb.size];omega
   refine Xa (PK (Wm ⟨rfl,hk.trans ⟨hk.sb.setArr (bubble_perm _ _ _),λi hi=>?_,rfl⟩,?_⟩))
   .show (bubble (arrOf Yh) (lo+k) (lo+k-(lo+l)))[i]?=_
    rw[getElem?_bubble hks _ (),YH (),YH ()]
   .rw [show min (k+1) n=k+1 by omega]
    intro i j hi Y6 hj;show IA rk (bubble (arrOf Yh) (lo+k) (lo+k-(lo+l))) i<=IA rk (bubble (arrOf Yh) (lo+k) (lo+k-(lo+l))) j;rw[jl hks (),jl hks (),show lo+k-(lo+k-(lo+l))=lo+l by omega]
    have key1:∀i,lo<=i->i<lo+l->IA rk (arrOf Yh) i<=IA rk (arrOf Yh) (lo+k):=λi a b=>by have:=V4 (i-lo) ();rwa[show lo+(i-lo)=i by omega]at this
    have key2:∀i,lo+l<=i->i<lo+k->IA rk (arrOf Yh) (lo+k)<IA rk (arrOf Yh) i:=λi a b=>by have:=UM (i-lo) () ();rwa[show lo+(i-lo)=i by omega]at this
    repeat' split
    all_goals first
     |(exfalso;omega)
     |exact Hx _
     |exact key1 _ () ()
     |exact Pk (key2 _ () ())
     |exact YS _ _ () () ()
end
def cG:∀a:List Int,Ah a a=false
 |[]=>rfl
 |x::r=>by simp[Ah,cG r]
def cP:∀{a b c:List Int},Ah a b=true->Ah b c=true->Ah a c=true
 |[],[],_,h,_=>by cases h
 |[],_::_,[],_,h=>by cases h
 |[],_::_,_::_,_,_=>rfl
 |_::_,[],_,h,_=>by cases h
 |_::_,_::_,[],_,h=>by cases h
 |x::a,y::b,z::c,h1,h2=>by
  simp![Ah]at h1 h2 ⊢;by_cases e:x=y
  .subst e
   rw[Y2 rfl]at h1;by_cases d:x=z
   .subst d;rw[Y2 rfl]at h2 ⊢;exact cP h1 h2
   .rw [YH d]at h2 ⊢;exact h2
  .rw [YH e]at h1
   have h1:=HE h1;by_cases d:y=z
   .subst d;rw[YH e];exact Qx h1
   .rw [YH d]at h2
    have h2:=HE h2;rw[YH ()]
    exact Qx ()
def cH:∀{a b:List Int},Ah a b=false->Ah b a=false->a=b
 |[],[],_,_=>rfl
 |[],_::_,h,_=>by cases h
 |_::_,[],_,h=>by cases h
 |x::a,y::b,h1,h2=>by
  simp![Ah]at h1 h2;by_cases e:x=y
  .subst e
   rw[Y2 rfl]at h1 h2;rw[cH h1 h2]
  .rw [YH e]at h1
   rw[YH (λq=>e q.symm)]at h2;have h1:=Oz h1;have h2:=Oz h2;omega
def jL{b:Type}{p q:b->Bool}:∀{l:List b},(∀x∈l,p x=true->q x=true)->(∃x∈l,q x=true/\p x=false)->l.countP p<l.countP q
 |[],_,⟨x,h,_⟩=>by cases h
 |a::l,h1,⟨x,hx,c,hp⟩=>by
  have mono:l.countP p<=l.countP q:=List.countP_mono_left λx hx h=>h1 x (Hy _ hx) h;rw[List.countP_cons,List.countP_cons];rcases Vh.mp hx with rfl|hx
  .rw [c,hp];simp;omega
  .have ih:=jL (λx hx=>h1 x (Hy _ hx)) ⟨x,hx,c,hp⟩
   have h2:=h1 a HD;cases ep:p a with
   |false=>simp![Wi,UP];split<;>omega
   |true=>rw[h2 ep];simp;omega
abbrev Za:=List (List Int×Addr)
def DX(D:Za)(v:Value):List Int:=open Classical in match D.find? λd=>decide (Value.ref d.2=v)with
 |some d=>d.1
 |none=>[]
def IB(D:Za)(x:Keyed):Nat:=D.countP λd=>Ah d.1 (DX D x.1)
section
variable{E:Value->Shared->Prop}{D:Za}
def jB(f:∀d∈D,IsT prog w s.heap d.1 d.2){d:List Int×Addr}(c:d∈D):DX D (.ref d.2)=d.1:=by
 unfold DX;cases e:D.find? λb=>open Classical in decide (Value.ref b.2=Value.ref d.2)with
 |none=>
  have:=List.find?_eq_none.mp e d c;simp at this
 |some b=>
  have h1:=List.find?_some e;have h2:=Nk e;have g:b.2=d.2:=by simpa using h1
  have a:=f b h2;rw[g]at a;exact a.inj (f d c)
def rW(c:∀d∈D,IsT prog w s.heap d.1 d.2){d e:List Int×Addr}(b:d∈D)(f:e∈D)(u v:Value):Ah d.1 e.1=decide (IB D (.ref d.2,u)<IB D (.ref e.2,v)):=by
 unfold IB;rw[jB c b,jB c f];cases h:Ah d.1 e.1 with
 |true=>exact(Qx (jL (λx _ a=>cP a h) ⟨d,b,h,cG _⟩)).symm
 |false=>
  refine(Ry (Nat.not_lt.mpr ?_)).symm;refine List.countP_mono_left λx _ a=>?_;cases h2:Ah e.1 d.1 with
  |true=>exact cP a h2
  |false=>rw[cH h h2];exact a
def acm(k:A.units<cLine)(a:∀d∈D,IsT prog w s.heap d.1 d.2){f:Bool}{ZN : Array Keyed}(g:∀x∈ZN,∃d∈D,x=(.ref d.2,.ref d.2)):AE prog w A E s (tuples' f) ZN (IB D):=by
 intro x y j i l Q hk h;let⟨d,c,rfl⟩:=g x j;let⟨e,b,rfl⟩:=g y i;rw[lt'_eq];refine Xa (O9 ?_);rw[hk];refine Xa (Nh (PU (zE k (a d c) (a e b) ⟨rfl,?_⟩)));rw[rW a c b (.ref d.2) (.ref e.2)];exact Wm h
end
def IC:Bool->Keyed->Array Keyed->Nat->Nat->Nat->StateT SortSt Sem (Option Nat):=sortPriv% PySem.Builtin.gallop
def uE(left:Bool)(key:Keyed)(arr:Array Keyed)(base n hint:Nat):IC left key arr base n hint=(do
 let beyond (i:Nat):StateT SortSt Sem (Option Bool):=do
  let x<-elem' arr (base+i)
  if left then lt' x key else return (<- lt' key x).map (!·)
 let mut S7:=0
 let mut Xh:=1
 let mut lo:=0
 let mut hi:=0
 let some right<-beyond hint|return none
 if right then
  let Ua:=n-hint
  for _ in [0:n]do
   if Xh ≥ Ua then break
   let some more<-beyond (hint+Xh)|return none
   if !more then break
   S7:=Xh
   Xh:=2*Xh+1
  lo:=hint+S7+1
  hi:=hint+min Xh Ua
 else
  let Ua:=hint+1
  for _ in [0:n]do
   if Xh ≥ Ua then break
   let some found<-beyond (hint-Xh)|return none
   if found then break
   S7:=Xh
   Xh:=2*Xh+1
  lo:=hint+1-min Xh Ua
  hi:=hint-S7
 for _ in [0:n]do
  if lo ≥ hi then break
  let m:=lo+(hi-lo) / 2
  let some more<-beyond m|return none
  if more then lo:=m+1 else hi:=m
 return some hi):=rfl
def ID(left:Bool)(rk:Keyed->Nat)(key:Keyed)(a:Array Keyed)(base i:Nat):Bool:=if left then decide (IA rk a (base+i)<rk key)else !decide (rk key<IA rk a (base+i))
section
variable{E:Value->Shared->Prop}
def IE(left:Bool)(key:Keyed)(arr:Array Keyed)(base i:Nat):StateT SortSt Sem (Option Bool):=do
  let x<-elem' arr (base+i)
  if left then lt' x key else return (<- lt' key x).map (!·)
def abm(F:AE prog w A E s κ ZN rk)(B:kindOf st=κ){left:Bool}{key:Keyed}{j:Array Keyed}{base:Nat}{Q:Option Bool->SortSt->Prop}(u:key∈ZN)(ha:∀x∈j,x∈ZN)(hi:base+i<j.size)
  (h:Q (some (ID left rk key j base i)) st):wpS (model prog w) A E s (IE left key j base i) Q st:=by
 have z:j[base+i]?=some j[base+i]:=VQ hi;have G:IA rk j (base+i)=rk j[base+i]:=by unfold IA;rw[z];rfl
 unfold IE;rw[elem'_eq,z];refine Xa (Wm ?_);unfold ID at h;rw[G]at h;cases left with
 |true=>rw[Y2 rfl]at h ⊢;exact F _ _ (ha _ (T1 hi)) u st Q B h
 |false=>
  rw[YH Hw]at h ⊢;exact Xa (F _ _ u (ha _ (T1 hi)) st _ B (Wm h))
def Spl(b:Nat->Bool)(n k:Nat):Prop:=k<=n/\(∀i,i<k->b i=true) /\∀i,k<=i->i<n->b i=false
def fE(Z7:AE prog w A E s κ ZN rk)(B:kindOf st=κ){left:Bool}{key:Keyed}{G:Array Keyed}{base u:Nat}{Q:Option Nat->SortSt->Prop}(hk:key∈ZN)(ha:∀x∈G,x∈ZN)(hs:base+n<=G.size)(hh:u<n)
  (hu:Up (IA rk G) base (base+n)) (h:∀k,Spl (ID left rk key G base) n k->Q (some k) st):wpS (model prog w) A E s (IC left key G base n u) Q st:=by
 have mono:∀i j,i<=j->j<n->ID left rk key G base j=true->ID left rk key G base i=true:=λi j Y6 hj hb=>by
  have:=hu (base+i) (base+j) () () ()
  unfold ID at hb ⊢;cases left with
  |true=>rw[Y2 rfl]at hb ⊢;have:=HE hb;exact Qx ()
  |false=>
   rw[YH Hw]at hb ⊢;simp![R6,Pg]at hb ⊢;omega
 generalize hb:ID left rk key G base=b at mono h;have bk:∀{i:Nat} {Q:Option Bool->SortSt->Prop},i<n->Q (some (b i)) st->wpS (model prog w) A E s (IE left key G base i) Q st:=λhi hq=>abm Z7 B hk ha () (by rw[hb];exact hq)
 rw[uE];dsimp only;refine Xa (bk hh ?_);cases hr:b u with
 |true=>
  dsimp only;rw [Y2 rfl];refine Xa (Qw (Ql (I:=λx c ZV=>st=ZV /\ ∃ l o,c=(none,l,o)/\l < o/\x+1<=o/\u+l < n/\b (u+l)=true)
   (Q:=λc ZV=>st=ZV /\∃l o,c=(none,l,o)/\l<o/\u+l<n/\b (u+l)=true/\(n-u<=o\/b (u+o)=false)) ?_ ?_ ⟨rfl,0,1,rfl,by omega,by omega,by omega,hr⟩) ?_)
  .rintro x c ZV _ hx ⟨rfl,l,o,rfl,F,p2,L,z⟩
   dsimp only;by_cases R:o ≥ n-u
   .rw [Y2 R]
    exact Wm ⟨rfl,l,o,rfl,F,L,z,.inl R⟩
   .rw [YH R]
    refine Xa (bk (i:=u+o) () ?_)
    cases hm:b (u+o)with
    |true=>exact Wm ⟨rfl,o,2*o+1,rfl,by omega,by omega,by omega,hm⟩
    |false=>exact Wm ⟨rfl,l,o,rfl,F,L,z,.inr hm⟩
  .rintro c ZV ⟨rfl,l,o,rfl,F,p2,L,z⟩
   exact⟨rfl,l,o,rfl,F,L,z,.inl ()⟩
  .rintro c ZV ⟨rfl,l,o,rfl,F,L,z,S⟩
   dsimp only;have q1:u+l+1=0\/b (u+l+1-1)=true:=.inr z;have q2:u+min o (n-u)=n\/b (u+min o (n-u))=false:=by
    rcases S with e|e
    .exact .inl ()
    .by_cases q:n-u<=o
     .exact .inl ()
     .refine .inr ?_
      rw[show min o (n-u)=o by omega];exact e
   have q3:u+l+1<=u+min o (n-u):=by omega
   have Z:u+min o (n-u)<=n:=by omega
   refine Xa (Qw (Ql (I:=λx c ZV=>st=ZV /\ ∃ lo hi,c=(none,lo,hi)/\(lo=0\/b (lo - 1)=true)/\(hi=n\/b hi=false)/\lo<=hi/\hi<=n/\hi - lo<=n - x)
    (Q:=λc ZV=>st=ZV /\∃k,c=(none,k,k)/\(k=0\/b (k-1)=true)/\(k=n\/b k=false)/\k<=n) ?_ ?_ ⟨rfl,_,_,rfl,q1,q2,q3,Z,by omega⟩) ?_)
   .rintro x c ZV _ hx ⟨rfl,lo,hi,rfl,F,p2,L,z,S⟩
    dsimp only;by_cases R:lo ≥ hi
    .rw [Y2 R]
     have e:lo=hi:=by omega
     subst e;exact Wm ⟨rfl,lo,rfl,F,p2,z⟩
    .rw [YH R]
     refine Xa (bk (i:=lo+(hi-lo) / 2) () ?_)
     cases hm:b (lo+(hi-lo) / 2)with
     |true=>exact Wm ⟨rfl,_,_,rfl,.inr hm,p2,by omega,z,by omega⟩
     |false=>exact Wm ⟨rfl,_,_,rfl,F,.inr hm,by omega,by omega,by omega⟩
   .rintro c ZV ⟨rfl,lo,hi,rfl,F,p2,L,z,S⟩
    have e:lo=hi:=by omega
    subst e;exact⟨rfl,lo,rfl,F,p2,z⟩
   .rintro c ZV ⟨rfl,k,rfl,F,p2,z⟩
    refine Wm (h k ⟨z,λi hi=>?_,λi hi hn=>?_⟩)
    .rcases F with e|e
     .omega
     .exact mono i (k-1) () () e
    .rcases p2 with e|e
     .omega
     .cases e2:b i with
      |false=>rfl
      |true=>have:=mono k i hi hn e2;rw[e]at this;cases this
 |false=>
  dsimp only;rw [YH Hw];refine Xa (Qw (Ql (I:=λx c ZV=>st=ZV /\ ∃ l o,c=(none,l,o)/\l < o/\x+1<=o/\l<=u/\b (u - l)=false)
   (Q:=λc ZV=>st=ZV /\∃l o,c=(none,l,o)/\l<o/\l<=u/\b (u-l)=false/\(u+1<=o\/b (u-o)=true)) ?_ ?_ ⟨rfl,0,1,rfl,by omega,by omega,by omega,hr⟩) ?_)
  .rintro x c ZV _ hx ⟨rfl,l,o,rfl,F,p2,L,z⟩
   dsimp only;by_cases R:o ≥ u+1
   .rw [Y2 R]
    exact Wm ⟨rfl,l,o,rfl,F,L,z,.inl R⟩
   .rw [YH R]
    refine Xa (bk (i:=u-o) () ?_)
    cases hm:b (u-o)with
    |false=>exact Wm ⟨rfl,o,2*o+1,rfl,by omega,by omega,by omega,hm⟩
    |true=>exact Wm ⟨rfl,l,o,rfl,F,L,z,.inr hm⟩
  .rintro c ZV ⟨rfl,l,o,rfl,F,p2,L,z⟩
   exact⟨rfl,l,o,rfl,F,L,z,.inl ()⟩
  .rintro c ZV ⟨rfl,l,o,rfl,F,L,z,S⟩
   dsimp only;have q1:u+1-min o (u+1)=0\/b (u+1-min o (u+1)-1)=true:=by
    by_cases q:u+1<=o
    .exact .inl ()
    .refine .inr ?_
     rw[show u+1-min o (u+1)-1=u-o by omega]
     exact S.resolve_left q
   have q2:u-l=n\/b (u-l)=false:=.inr z;have q3:u+1-min o (u+1)<=u-l:=by omega
   have Z:u-l<=n:=by omega
   refine Xa (Qw (Ql (I:=λx c ZV=>st=ZV /\ ∃ lo hi,c=(none,lo,hi)/\(lo=0\/b (lo - 1)=true)/\(hi=n\/b hi=false)/\lo<=hi/\hi<=n/\hi - lo<=n - x)
    (Q:=λc ZV=>st=ZV /\∃k,c=(none,k,k)/\(k=0\/b (k-1)=true)/\(k=n\/b k=false)/\k<=n) ?_ ?_ ⟨rfl,_,_,rfl,q1,q2,q3,Z,by omega⟩) ?_)
   .rintro x c ZV _ hx ⟨rfl,lo,hi,rfl,F,p2,L,z,S⟩
    dsimp only;by_cases R:lo ≥ hi
    .rw [Y2 R]
     have e:lo=hi:=by omega
     subst e;exact Wm ⟨rfl,lo,rfl,F,p2,z⟩
    .rw [YH R]
     refine Xa (bk (i:=lo+(hi-lo) / 2) () ?_)
     cases hm:b (lo+(hi-lo) / 2)with
     |true=>exact Wm ⟨rfl,_,_,rfl,.inr hm,p2,by omega,z,by omega⟩
     |false=>exact Wm ⟨rfl,_,_,rfl,F,.inr hm,by omega,by omega,by omega⟩
   .rintro c ZV ⟨rfl,lo,hi,rfl,F,p2,L,z,S⟩
    have e:lo=hi:=by omega
    subst e;exact⟨rfl,lo,rfl,F,p2,z⟩
   .rintro c ZV ⟨rfl,k,rfl,F,p2,z⟩
    refine Wm (h k ⟨z,λi hi=>?_,λi hi hn=>?_⟩)
    .rcases F with e|e
     .omega
     .exact mono i (k-1) () () e
    .rcases p2 with e|e
     .omega
     .cases e2:b i with
      |false=>rfl
      |true=>have:=mono k i hi hn e2;rw[e]at this;cases this
end
def C4:Array Keyed->Array Keyed->StateT SortSt Sem (Array Keyed):=sortPriv% PySem.Builtin.mergeLo
def BX:Nat->StateT SortSt Sem Unit:=sortPriv% PySem.Builtin.setMinGallop
def cZ(g:Nat):BX g=modify λs=>SortSt.mk' (kindOf s) (arrOf s) (pendingOf s) g (failedOf s):=rfl
def tZ(a b:Array Keyed):C4 a b=(do
 rule "list.sort.merge-lo"
 let total:=a.size+b.size
 let done (out:Array Keyed) (ia ib:Nat):=out++a.extract ia a.size++b.extract ib b.size
 let T_ (out:Array Keyed) (ia ib:Nat):=out++b.extract ib b.size++a.extract ia a.size
 let mut out:Array Keyed:=#[<-elem' b 0]
 let mut ia:=0
 let mut ib:=1
 if ib==b.size then return done out ia ib
 if ia+1==a.size then return T_ out ia ib
 let mut YR:=gallopOf (<- get)
 for _ in [0:total]do
  let mut XU:=0
  let mut XT:=0
  for _ in [0:total]do
   let some SA<-lt' (<- elem' b ib) (<- elem' a ia)|return done out ia ib
   if SA then
    out:=out.push (<- elem' b ib);ib:=ib+1;XT:=XT+1;XU:=0
    if ib==b.size then return done out ia ib
    if XT ≥ YR then break
   else
    out:=out.push (<- elem' a ia);ia:=ia+1;XU:=XU+1;XT:=0
    if ia+1==a.size then return T_ out ia ib
    if XU ≥ YR then break
  rule "list.sort.gallop"
  YR:=YR+1
  for _ in [0:total]do
   if YR > 1 then YR:=YR-1
   BX YR
   let some k<-IC false (<- elem' b ib) a ia (a.size-ia) 0|return done out ia ib
   XU:=k
   if k > 0 then
    out:=out++a.extract ia (ia+k);ia:=ia+k
    if ia+1==a.size then return T_ out ia ib
    if ia==a.size then return done out ia ib
   out:=out.push (<- elem' b ib);ib:=ib+1
   if ib==b.size then return done out ia ib
   let some k<-IC true (<- elem' a ia) b ib (b.size-ib) 0|return done out ia ib
   XT:=k
   if k > 0 then
    out:=out++b.extract ib (ib+k);ib:=ib+k
    if ib==b.size then return done out ia ib
   out:=out.push (<- elem' a ia);ia:=ia+1
   if ia+1==a.size then return T_ out ia ib
   if XU<7&&XT<7 then break
  YR:=YR+1
  BX YR
 unsupported "internal:list.sort.merge-bound"):=rfl
def SrL(rk:Keyed->Nat)(l:List Keyed):Prop:=l.Pairwise λx y=>rk x<=rk y
structure MI(rk:Keyed->Nat)(a b out:List Keyed)(ia ib:Nat):Prop where
 pm:out.Perm (a.take ia++b.take ib)
 so:SrL rk out
 oa:∀x∈out,∀y∈a.drop ia,rk x<=rk y
 ob:∀x∈out,∀y∈b.drop ib,rk x<=rk y
section
variable{a b out:List Keyed}{ia ib:Nat}
def iV(l:List Keyed)(i k:Nat):l.take (i+k)=l.take i++(l.drop i).take k:=by rw[OY]
def SrL.drop{l:List Keyed}(h:SrL rk l)(i:Nat):SrL rk (l.drop i):=PV (List.drop_sublist i l) h
def SrL.cut{l:List Keyed}(h:SrL rk l)(k:Nat):∀x∈l.take k,∀y∈l.drop k,rk x<=rk y:=by
 rw[SrL,<-Ug k l,UX]at h;exact h.2.2
def MI.UL(I:MI rk a b out ia ib)(ha:SrL rk a)(k:Nat)(h:∀x∈(a.drop ia).take k,∀y∈b.drop ib,rk x<=rk y):MI rk a b (out++(a.drop ia).take k) (ia+k) ib where
 pm:=by
  rw[iV];refine(I.pm.append_right _).trans ?_;rw[VO,VO];exact Pn _ Qj
 so:=UX.mpr ⟨I.so,PV (PZ k _) (ha.drop ia),λx hx y hy=>I.oa x hx y (List.mem_of_mem_take hy)⟩
 oa:=λx hx y hy=>by
  rw[<-OO]at hy;rcases Vj.mp hx with hx|hx
  .exact I.oa x hx y (Pw hy)
  .exact (ha.drop ia).cut k x hx y hy
 ob:=λx hx y hy=>by
  rcases Vj.mp hx with hx|hx
  .exact I.ob x hx y hy
  .exact h x hx y hy
def MI.VA(I:MI rk a b out ia ib)(hb:SrL rk b)(k:Nat)(h:∀x∈(b.drop ib).take k,∀y∈a.drop ia,rk x<=rk y):MI rk a b (out++(b.drop ib).take k) ia (ib+k) where
 pm:=by
  rw[iV];refine(I.pm.append_right _).trans ?_;rw[VO]
 so:=UX.mpr ⟨I.so,PV (PZ k _) (hb.drop ib),λx hx y hy=>I.ob x hx y (List.mem_of_mem_take hy)⟩
 oa:=λx hx y hy=>by
  rcases Vj.mp hx with hx|hx
  .exact I.oa x hx y hy
  .exact h x hx y hy
 ob:=λx hx y hy=>by
  rw[<-OO]at hy;rcases Vj.mp hx with hx|hx
  .exact I.ob x hx y (Pw hy)
  .exact (hb.drop ib).cut k x hx y hy
def Res(rk:Keyed->Nat)(a b res:List Keyed):Prop:=res.Perm (a++b)/\SrL rk res
def MI.Vz(I:MI rk a b out ia ib)(f:SrL rk a)(e:SrL rk b)(h:∀x∈a.drop ia,∀y∈b.drop ib,rk x<=rk y):Res rk a b (out++a.drop ia++b.drop ib):=by
 constructor
 .refine ((I.pm.append_right _).append_right _).trans ?_
  rw[VO (List.take ia a)];have g:(List.take ib b++List.drop ia a).Perm (List.drop ia a++List.take ib b):=Qj;refine((g.append_left (List.take ia a)).append_right _).trans ?_;rw[<-VO,Ug,VO,Ug]
 .refine UX.mpr ⟨UX.mpr ⟨I.so,f.drop ia,I.oa⟩,e.drop ib,λx c y d=>?_⟩
  rcases Vj.mp c with c|c
  .exact I.ob x c y d
  .exact h x c y d
def MI.UK(I:MI rk a b out ia ib)(f:SrL rk a)(e:SrL rk b)(h:∀x∈b.drop ib,∀y∈a.drop ia,rk x<=rk y):Res rk a b (out++b.drop ib++a.drop ia):=by
 constructor
 .refine ((I.pm.append_right _).append_right _).trans ?_
  rw[VO (List.take ia a),Ug];refine(Qj (l₁:=List.take ia a++b)).trans ?_;rw[<-VO];refine List.Perm.append_right _ ?_;refine Qj.trans ?_;rw[Ug]
 .refine UX.mpr ⟨UX.mpr ⟨I.so,e.drop ib,I.ob⟩,f.drop ia,λx c y d=>?_⟩
  rcases Vj.mp c with c|c
  .exact I.oa x c y d
  .exact h x c y d
end
section
variable{E:Value->Shared->Prop}
def SmS(st a:SortSt):Prop:=kindOf a=kindOf st/\arrOf a=arrOf st/\pendingOf a=pendingOf st/\failedOf a=failedOf st
def SmS.refl(st:SortSt):SmS st st:=⟨rfl,rfl,rfl,rfl⟩
def LI(rk:Keyed->Nat)(a b:Array Keyed)(n:Nat)(r:Option (Array Keyed))(out:Array Keyed)(u j:Nat):Prop:=match r with
 |some res=>Res rk a.toList b.toList res.toList
 |none=>MI rk a.toList b.toList out.toList u j/\u+1<a.size/\j<b.size/\n<=u+j
structure S4(rk:Keyed->Nat)(ZN a b:Array Keyed):Prop where
 ma:∀x∈a,x∈ZN
 mb:∀x∈b,x∈ZN
 sa:SrL rk a.toList
 sb:SrL rk b.toList
 last:∀x∈b.toList,∀y∈a.toList.drop (a.size-1),rk x<=rk y
def aa9{a:Array Keyed}(h:i<a.size):a[i]∈a.toList.drop i:=by
 rw[List.mem_drop_iff_getElem];exact⟨0,by simpa using h,by simp⟩
def drop_one{a:Array Keyed}(h:i<a.size):(a.toList.drop i).take 1=[a[i]]:=by
 rw[Ss (by simpa using h)];simp
def eR{a:Array Keyed}(c:SrL rk a.toList){i:Nat}(h:i<a.size):∀y∈a.toList.drop i,rk a[i]<=rk y:=λy b=>by
 rw[Ss (by simpa using h)]at b
 rcases Vh.mp b with rfl|b
 .simp
 .have:=(c.drop i)
  rw[Ss (by simpa using h)]at this
  have:=(Qa.mp this).1 y b;simpa using this
def ar(a:Array Keyed)(i:Nat):(a.extract i a.size).toList=a.toList.drop i:=by
 rw[Ob,Po];exact Qq (by simp)
def aq{Q:Keyed->SortSt->Prop}(hi:i<arr.size)(h:Q arr[i] st):wpS (model prog w) A E s (elem' arr i) Q st:=by
 rw[elem'_eq,VQ hi];exact Wm h
def yM(Z7:AE prog w A E s κ ZN rk){a b out:Array Keyed}{ia ib mg:Nat}(M:S4 rk ZN a b)(hk:kindOf st=κ)(n0:Nat)(h0:LI rk a b n0 none out ia ib)(ht:0<a.size+b.size)
  {Q:Option (Array Keyed)×Array Keyed×Nat×Nat×Nat×Nat->SortSt->Prop} (h:∀r out ia ib ac bc,LI rk a b (n0+1) r out ia ib->Q (r,out,ia,ib,ac,bc) st) :
  wpS (model prog w) A E s (forIn [:a.size+b.size] ((none,out,ia,ib,0,0):Option (Array Keyed)×Array Keyed×Nat×Nat×Nat×Nat) λx Zv=>do
    let WW<-elem' b Zv.snd.snd.snd.fst
    let Q9<-elem' a Zv.snd.snd.fst
    let VF<-lt' WW Q9
    match VF with
     |some SA=>
      if SA=true then do
       let WW<-elem' b Zv.snd.snd.snd.fst
       if(Zv.snd.snd.snd.fst+1==b.size)=true then
         pure (ForInStep.done (some (Zv.snd.fst.push WW++a.extract Zv.snd.snd.fst a.size++b.extract (Zv.snd.snd.snd.fst+1) b.size),Zv.snd.fst.push WW,Zv.snd.snd.fst,Zv.snd.snd.snd.fst+1,0,Zv.snd.snd.snd.snd.snd+1))
        else
         if Zv.snd.snd.snd.snd.snd+1 ≥ mg then
          pure (ForInStep.done (none,Zv.snd.fst.push WW,Zv.snd.snd.fst,Zv.snd.snd.snd.fst+1,0,Zv.snd.snd.snd.snd.snd+1))
         else
          pure (ForInStep.yield (none,Zv.snd.fst.push WW,Zv.snd.snd.fst,Zv.snd.snd.snd.fst+1,0,Zv.snd.snd.snd.snd.snd+1))
      else do
       let WW<-elem' a Zv.snd.snd.fst
       if(Zv.snd.snd.fst+1+1==a.size)=true then
         pure (ForInStep.done (some (Zv.snd.fst.push WW++b.extract Zv.snd.snd.snd.fst b.size++a.extract (Zv.snd.snd.fst+1) a.size),Zv.snd.fst.push WW,Zv.snd.snd.fst+1,Zv.snd.snd.snd.fst,Zv.snd.snd.snd.snd.fst+1,0))
        else
         if Zv.snd.snd.snd.snd.fst+1 ≥ mg then
          pure (ForInStep.done (none,Zv.snd.fst.push WW,Zv.snd.snd.fst+1,Zv.snd.snd.snd.fst,Zv.snd.snd.snd.snd.fst+1,0))
         else
          pure (ForInStep.yield (none,Zv.snd.fst.push WW,Zv.snd.snd.fst+1,Zv.snd.snd.snd.fst,Zv.snd.snd.snd.snd.fst+1,0))
     |x=>
      pure (ForInStep.done (some (Zv.snd.fst++a.extract Zv.snd.snd.fst a.size++b.extract Zv.snd.snd.snd.fst b.size),Zv.snd.fst,Zv.snd.snd.fst,Zv.snd.snd.snd.fst,Zv.snd.snd.snd.snd.fst,Zv.snd.snd.snd.snd.snd))) Q st:=by
 refine Qw (Ql (I:=λx c ZV=>st=ZV /\ ∃ out ia ib ac bc,c=(none,out,ia,ib,ac,bc)/\LI rk a b (n0+x) none out ia ib)
  (Q:=λc ZV=>st=ZV /\∃r out ia ib ac bc,c=(r,out,ia,ib,ac,bc)/\LI rk a b (n0+1) r out ia ib) ?_ ?_ ⟨rfl,out,ia,ib,0,0,rfl,h0⟩) ?_
 .rintro x c ZV _ hx ⟨rfl,out,ia,ib,ac,bc,rfl,I,Xg,YI,hn⟩
  dsimp only;have XX:ia<a.size:=by omega
  refine Xa (aq YI (Xa (aq XX (Xa (Z7 _ _ (M.mb _ (T1 YI)) (M.ma _ (T1 XX)) st _ hk ?_)))));by_cases hl:rk b[ib]<rk a[ia]
  .simp only [hl,OD,Qp]
   refine Xa (aq YI ?_)
   have I2:=I.VA M.sb 1 (λx hx y hy=>by
    rw[drop_one YI]at hx;rw[V2.mp hx];exact Hv (Pk hl) (eR M.sa XX y hy))
   rw[drop_one YI,<-QP]at I2;by_cases he:ib+1=b.size
   .rw [Y2 (by simp[he])]
    refine Wm ⟨rfl,_,_,_,_,_,_,rfl,?_⟩;show Res rk _ _ (Array.toList _);rw[VG,VG,ar,ar];exact I2.Vz M.sa M.sb λx _ y hy=>by rw[Qr (by rw[X6];omega)]at hy;cases hy
   .rw [YH (by simp[he])]
    have nx:LI rk a b (n0+(x+1)) none (out.push b[ib]) ia (ib+1):=⟨I2,Xg,by omega,by omega⟩
    split
    .exact Wm ⟨rfl,_,_,_,_,_,_,rfl,⟨nx.1,nx.2.1,nx.2.2.1,by have:=nx.2.2.2;omega⟩⟩
    .exact Wm ⟨rfl,_,_,_,_,_,rfl,nx⟩
  .simp only [hl,PL,Wi,UP]
   refine Xa (aq XX ?_)
   have I2:=I.UL M.sa 1 (λx hx y hy=>by
    rw[drop_one XX]at hx;rw[V2.mp hx];exact Hv (Nat.not_lt.mp hl) (eR M.sb YI y hy))
   rw[drop_one XX,<-QP]at I2;by_cases he:ia+1+1=a.size
   .rw [Y2 (by simp[he])]
    refine Wm ⟨rfl,_,_,_,_,_,_,rfl,?_⟩;show Res rk _ _ (Array.toList _);rw[VG,VG,ar,ar];refine I2.UK M.sa M.sb λx hx y hy=>M.last x (List.mem_of_mem_drop hx) y ?_;rw[show a.size-1=ia+1 by omega];exact hy
   .rw [YH (by simp[he])]
    have nx:LI rk a b (n0+(x+1)) none (out.push a[ia]) (ia+1) ib:=⟨I2,by omega,YI,by omega⟩
    split
    .exact Wm ⟨rfl,_,_,_,_,_,_,rfl,⟨nx.1,nx.2.1,nx.2.2.1,by have:=nx.2.2.2;omega⟩⟩
    .exact Wm ⟨rfl,_,_,_,_,_,rfl,nx⟩
 .rintro c ZV ⟨rfl,out,ia,ib,ac,bc,rfl,I,Xg,YI,hn⟩
  exact⟨rfl,none,out,ia,ib,ac,bc,rfl,I,Xg,YI,by omega⟩
 .rintro c ZV ⟨rfl,r,out,ia,ib,ac,bc,rfl,hI⟩
  exact h r out ia ib ac bc hI
end
section
variable{E:Value->Shared->Prop}
def jY(a:Array Keyed)(i k:Nat):(a.extract i (i+k)).toList=(a.toList.drop i).take k:=by
 rw[Ob,Po];congr 1;omega
def aB{a:Array Keyed}(h:i<a.size):IA rk a i=rk a[i]:=by
 unfold IA;rw[VQ h];rfl
def ab1{a:Array Keyed}(h:SrL rk a.toList)(lo:Nat):Up (IA rk a) lo a.size:=λi j _ c b=>by
 rw[aB (),aB b]
 rcases Nat.lt_or_eq_of_le c with k|rfl
 .have:=QR.mp h i j (by simpa using(by omega:i<a.size)) (by simpa using b) k
  simpa using this
 .exact Hx _
def gal(R:AE prog w A E s κ ZN rk)(B:kindOf st=κ){left:Bool}{key:Keyed}{u:Array Keyed}{base n z:Nat}{Q:Option Nat->SortSt->Prop}(G:key∈ZN)(ha:∀x∈u,x∈ZN)(hs:base+n<=u.size)(L:z<n)
  (F:SrL rk u.toList) (h:∀k,k<=n->(∀x∈(u.toList.drop base).take k,rk x<=rk key)->(∀x∈((u.toList.drop base).take n).drop k,rk key<=rk x)->Q (some k) st):wpS (model prog w) A E s (IC left key u base n z) Q st:=by
 refine fE R B G ha hs L (λi j p q r=>ab1 F base i j p q ()) λk ⟨h1,h2,h3⟩=>h k h1 (λx hx=>?_) λx hx=>?_
 .obtain ⟨i,hi,rfl⟩:=Py.mp hx
  have YL:=hi;simp![U1,Rv,X6]at YL;have:=h2 i ()
  unfold ID at this;rw[aB (by omega:base+i<u.size)]at this
  simp![Nm,Nn,Array.getElem_toList];cases left with
  |true=>rw[Y2 rfl]at this;have:=HE this;omega
  |false=>rw[YH Hw]at this;simp![R6,Pg]at this;omega
 .obtain ⟨i,hi,rfl⟩:=Py.mp hx
  have YL:=hi;simp![U1,Rv,X6]at YL;have:=h3 (k+i) () ()
  unfold ID at this;rw[aB (by omega:base+(k+i)<u.size)]at this
  simp![Nm,Nn,Array.getElem_toList];cases left with
  |true=>rw[Y2 rfl]at this;have:=Oz this;omega
  |false=>rw[YH Hw]at this;simp![Bool.not_eq_false',Vw]at this;omega
abbrev LoY(rk:Keyed->Nat)(a b:Array Keyed)(st:SortSt)(n:Nat)(c:Option (Array Keyed)×Array Keyed×Nat×Nat×Nat×Nat×Nat)(ZV:SortSt):Prop:=SmS st ZV /\∃out ia ib mg ac bc,c=(none,out,ia,ib,mg,ac,bc)/\LI rk a b n none out ia ib
abbrev LoD(rk:Keyed->Nat)(a b:Array Keyed)(st:SortSt)(n:Nat)(c:Option (Array Keyed)×Array Keyed×Nat×Nat×Nat×Nat×Nat)(ZV:SortSt):Prop:=SmS st ZV /\∃r out ia ib mg ac bc,c=(r,out,ia,ib,mg,ac,bc)/\LI rk a b n r out ia ib
abbrev LoS(rk:Keyed->Nat)(a b:Array Keyed)(st:SortSt)(n:Nat)(r:ForInStep (Option (Array Keyed)×Array Keyed×Nat×Nat×Nat×Nat×Nat))(ZV:SortSt):Prop:=match r with
 |.done c=>LoD rk a b st n c ZV
 |.yield c=>LoY rk a b st n c ZV
def wA(Z7:AE prog w A E s κ ZN rk){a b:Array Keyed}(M:S4 rk ZN a b)(hk:kindOf st=κ)(ha:0<a.size)(hb:0<b.size)(hf:∀x∈a.toList,rk b[0]<=rk x)
  {Q:Array Keyed->SortSt->Prop} (h:∀res ZV,SmS st ZV->Res rk a.toList b.toList res.toList->Q res ZV) :
  wpS (model prog w) A E s (C4 a b) Q st:=by
 rw[tZ];extract_lets total done T_;refine Xa (Nh (Oa ⟨rfl,?_⟩));refine Xa (aq hb ?_);extract_lets out ia ib;have I0:MI rk a.toList b.toList (#[b[0]]:Array Keyed).toList 0 1:=by
  have I:MI rk a.toList b.toList [] 0 0:=⟨by simp,List.Pairwise.nil,λx hx=>by(cases hx),λx hx=>by(cases hx)⟩
  have:=I.VA M.sb 1 (λx hx y hy=>by
   rw[drop_one hb]at hx;rw[V2.mp hx];exact hf y (Pw hy))
  rw[drop_one hb]at this;exact this
 by_cases h1:1=b.size
 .rw [Y2 (by show(1==b.size)=true;simp[<-h1])]
  refine Wm (h _ st (SmS.refl st) ?_);show Res rk _ _ (Array.toList (#[b[0]]++a.extract 0 a.size++b.extract 1 b.size));rw[VG,VG,ar,ar];exact I0.Vz M.sa M.sb λx _ y hy=>by rw[Qr (by rw[X6];omega)]at hy;cases hy
 .rw [YH (by show ¬ ((1==b.size)=true);simpa using h1)]
  by_cases h2:0+1=a.size
  .rw [Y2 (by show(0+1==a.size)=true;simp[<-h2])]
   refine Wm (h _ st (SmS.refl st) ?_);show Res rk _ _ (Array.toList (#[b[0]]++b.extract 1 b.size++a.extract 0 a.size));rw[VG,VG,ar,ar];refine I0.UK M.sa M.sb λx hx y hy=>M.last x (List.mem_of_mem_drop hx) y ?_;rw[show a.size-1=0 by omega];exact hy
  .rw [YH (by show ¬ ((0+1==a.size)=true);simpa using h2)]
   refine Xa (O9 ?_);extract_lets mg0;refine Xa (Qw (Ql (I:=λx c ZV=>SmS st ZV /\ ∃ out ia ib mg,c=(none,out,ia,ib,mg)/\LI rk a b (1+x) none out ia ib)
    (Q:=λc ZV=>SmS st ZV /\∃res out ia ib mg,c=(some res,out,ia,ib,mg)/\Res rk a.toList b.toList res.toList) ?_ ?_ ⟨SmS.refl st,#[b[0]],0,1,_,rfl,I0,by omega,by omega,by omega⟩) ?_)
   .rintro x c YK _ hx ⟨R,Sz,ia1,ib1,mg1,rfl,hI1⟩
    extract_lets;refine Xa (yM Z7 M (R.1.trans hk) (1+x) hI1 () λr out2 ia2 ib2 ac bc T9=>?_)
    cases r with
    |some res=>exact Wm ⟨R,res,_,_,_,_,rfl,T9⟩
    |none=>
     refine Xa (Nh (Oa ⟨rfl,?_⟩));refine Xa (Qw (Ql (I:=λ_=>LoY rk a b st (1+x+1))
      (Q:=LoD rk a b st (1+x+1)) ?_ ?_ ⟨R,_,_,_,_,_,_,rfl,T9⟩) ?_)
     .rintro y c L _ hy ⟨Z,out,ia,ib,mg,ac,bc,rfl,G,Xg,S,hn⟩
      extract_lets;rename_i jp mg';have WV:∀(u:PUnit) (m:Nat),wpS (model prog w) A E s (jp u m) (LoS rk a b st (1+x+1)) L:=by
       intro u m;refine Xa ?_;rw[cZ];refine PK ?_;generalize Sy:SortSt.mk' (kindOf L) (arrOf L) (pendingOf L) m (failedOf L)=Zg;have z:SmS st Zg:=by rw[<-Sy];exact Z
       have Yo:kindOf Zg=κ:=z.1.trans hk;refine Xa (aq S ?_);have hbi:b[ib]∈ZN:=M.mb _ (T1 S);refine Xa (gal Z7 Yo hbi M.ma (by show ia+(a.size-ia)<=a.size;omega) (by show 0<a.size-ia;omega) M.sa λk UN YJ Zb=>?_)
       have Zb:∀ x∈a.toList.drop (ia+k),rk b[ib]<=rk x:=λx hx=>Zb x (by
        rw[Qq (by rw[Rv,X6];exact Hx _),OO];exact hx)
       dsimp -zeta only
       extract_lets XU T8 Wn B;have VW:∀(u:PUnit) (out:Array Keyed) (j:Nat),ia<=j->j+1<a.size->MI rk a.toList b.toList out.toList j ib->(∀x∈a.toList.drop j,rk b[ib]<=rk x)->wpS (model prog w) A E s (T8 u out j) (LoS rk a b st (1+x+1)) Zg:=by
        intro u Sx j hle Y8 I' hk2';refine Xa (aq S ?_);extract_lets Sw;have I4:MI rk a.toList b.toList Sw.toList j (ib+1):=by
         have:=I'.VA M.sb 1 (λx hx y hy=>by
          rw[drop_one S]at hx;rw[V2.mp hx];exact hk2' y hy)
         rw[drop_one S]at this;show MI rk _ _ (Sx.push b[ib]).toList _ _;rw[QP];exact this
        by_cases h5:ib+1=b.size
        .rw [Y2 (by show(ib+1==b.size)=true;simp[h5])]
         refine Wm ⟨z,some _,_,_,_,_,_,_,rfl,?_⟩;show Res rk _ _ (Array.toList (Sw++a.extract j a.size++b.extract (ib+1) b.size));rw[VG,VG,ar,ar];exact I4.Vz M.sa M.sb λx _ y hy=>by rw[Qr (by rw[X6];omega)]at hy;cases hy
        .rw [YH (by show ¬ ((ib+1==b.size)=true);simpa using h5)]
         have XX:j<a.size:=by omega
         refine Xa (aq XX ?_);have hai:a[j]∈ZN:=M.ma _ (T1 XX);refine Xa (gal Z7 Yo hai M.mb (by show ib+1+(b.size-(ib+1))<=b.size;omega) (by show 0<b.size-(ib+1);omega) M.sb λn UJ Yp XW=>?_)
         have XW:∀ x∈b.toList.drop (ib+1+n),rk a[j]<=rk x:=λx hx=>XW x (by
          rw[Qq (by rw[Rv,X6];exact Hx _),OO];exact hx)
         dsimp -zeta only
         extract_lets XT jp3 UI T7;have T6:∀(u:PUnit) (out:Array Keyed) (F:Nat),ib<F->F<b.size->MI rk a.toList b.toList out.toList j F->(∀x∈b.toList.drop F,rk a[j]<=rk x)->wpS (model prog w) A E s (jp3 u out F) (LoS rk a b st (1+x+1)) Zg:=by
          intro u Sv F hle' RY I6 hn2';refine Xa (aq XX ?_);extract_lets RX ia7;have I7:MI rk a.toList b.toList RX.toList (j+1) F:=by
           have:=I6.UL M.sa 1 (λx hx y hy=>by
            rw[drop_one XX]at hx;rw[V2.mp hx];exact hn2' y hy)
           rw[drop_one XX]at this;show MI rk _ _ (Sv.push a[j]).toList _ _;rw[QP];exact this
          by_cases h6:j+1+1=a.size
          .rw [Y2 (by show(j+1+1==a.size)=true;simp[h6])]
           refine Wm ⟨z,some _,_,_,_,_,_,_,rfl,?_⟩;show Res rk _ _ (Array.toList (RX++b.extract F b.size++a.extract (j+1) a.size));rw[VG,VG,ar,ar];refine I7.UK M.sa M.sb λx hx y hy=>M.last x (List.mem_of_mem_drop hx) y ?_;rw[show a.size-1=j+1 by omega];exact hy
          .rw [YH (by show ¬ ((j+1+1==a.size)=true);simpa using h6)]
           split
           .exact Wm ⟨z,none,_,_,_,_,_,_,rfl,I7,by omega,RY,by omega⟩
           .exact Wm ⟨z,_,_,_,_,_,_,rfl,I7,by omega,RY,by omega⟩
         by_cases Wo:n > 0
         .rw [Y2 Wo]
          have I5:MI rk a.toList b.toList UI.toList j T7:=by
           have:=I4.VA M.sb n λx hx y hy=>Hv (Yp x hx) (eR M.sa XX y hy);rw[<-jY,<-VG]at this;exact this
          have e5:T7=ib+1+n:=rfl;by_cases h7:T7=b.size
          .rw [Y2 (by simp[h7])]
           refine Wm ⟨z,some _,_,_,_,_,_,_,rfl,?_⟩;show Res rk _ _ (Array.toList (UI++a.extract j a.size++b.extract T7 b.size));rw[VG,VG,ar,ar];exact I5.Vz M.sa M.sb λx _ y hy=>by rw[Qr (by rw[X6];omega)]at hy;cases hy
          .rw [YH (by simpa using h7)]
           have hnn':n<=b.size-(ib+1):=UJ;exact T6 Unit.unit UI T7 () () I5 (by rw[e5];exact XW)
         .rw [YH Wo]
          have e0:n=0:=by omega
          rw[e0]at XW;exact T6 Unit.unit Sw (ib+1) () () I4 XW
       by_cases T5:k > 0
       .rw [Y2 T5]
        have I3:MI rk a.toList b.toList Wn.toList B ib:=by
         have:=G.UL M.sa k λx hx y hy=>Hv (YJ x hx) (eR M.sb S y hy);rw[<-jY,<-VG]at this;exact this
        have e3:B=ia+k:=rfl;by_cases h3:B+1=a.size
        .rw [Y2 (by simp[h3])]
         refine Wm ⟨z,some _,_,_,_,_,_,_,rfl,?_⟩;show Res rk _ _ (Array.toList (Wn++b.extract ib b.size++a.extract B a.size));rw[VG,VG,ar,ar];refine I3.UK M.sa M.sb λx hx y hy=>M.last x (List.mem_of_mem_drop hx) y ?_;rw[show a.size-1=B by omega];exact hy
        .rw [YH (by simpa using h3)]
         by_cases h4:B=a.size
         .rw [Y2 (by simp[h4])]
          refine Wm ⟨z,some _,_,_,_,_,_,_,rfl,?_⟩;show Res rk _ _ (Array.toList (Wn++a.extract B a.size++b.extract ib b.size));rw[VG,VG,ar,ar];exact I3.Vz M.sa M.sb λx hx y _=>by rw[Qr (by rw[X6];omega)]at hx;cases hx
         .rw [YH (by simpa using h4)]
          exact VW Unit.unit Wn B () () I3 (by rw[e3];exact Zb)
       .rw [YH T5]
        have e0:k=0:=by omega
        rw[e0]at Zb;exact VW Unit.unit out ia (Hx _) Xg G Zb
      by_cases hm:mg > 1
      .rw [Y2 hm];exact Qw (WV Unit.unit mg') λr ZV h=>by cases r<;>exact h
      .rw [YH hm];exact Qw (WV Unit.unit mg) λr ZV h=>by cases r<;>exact h
     .rintro c L ⟨Z,out,ia,ib,mg,ac,bc,rfl,G⟩
      exact⟨Z,none,_,_,_,_,_,_,rfl,G⟩
     .rintro c L ⟨Z,r,out,ia,ib,mg,ac,bc,rfl,G⟩
      cases r with
      |some res=>exact Wm ⟨Z,res,_,_,_,_,rfl,G⟩
      |none=>
       let⟨q0,q1,q2,q3⟩:=G;refine Xa ?_;rw[cZ];refine PK (Wm ⟨Z,out,ia,ib,_,rfl,q0,q1,q2,?_⟩);omega
   .rintro c YK ⟨R,Sz,ia1,ib1,mg1,rfl,_,q1,q2,q3⟩
    have:max 0 total=a.size+b.size:=by show max 0 (a.size+b.size)=_;omega
    omega
   .rintro c YK ⟨R,res,_,_,_,_,rfl,hr⟩
    exact Wm (h res YK R hr)
end
def C6:Array Keyed->Array Keyed->StateT SortSt Sem (Array Keyed):=sortPriv% PySem.Builtin.mergeHi
def tW(a b:Array Keyed):C6 a b=(do
 rule "list.sort.merge-hi"
 let total:=a.size+b.size
 let done (out:Array Keyed) (na nb:Nat):=a.extract 0 na++b.extract 0 nb++out.reverse
 let T4 (out:Array Keyed) (na nb:Nat):=b.extract 0 nb++a.extract 0 na++out.reverse
 let mut na:=a.size-1
 let mut nb:=b.size
 let mut out:Array Keyed:=#[<-elem' a na]
 if na==0 then return done out na nb
 if nb==1 then return T4 out na nb
 let mut YR:=gallopOf (<- get)
 for _ in [0:total]do
  let mut XU:=0
  let mut XT:=0
  for _ in [0:total]do
   let some Q8<-lt' (<- elem' b (nb-1)) (<- elem' a (na-1))|return done out na nb
   if Q8 then
    na:=na-1;out:=out.push (<- elem' a na);XU:=XU+1;XT:=0
    if na==0 then return done out na nb
    if XU ≥ YR then break
   else
    nb:=nb-1;out:=out.push (<- elem' b nb);XT:=XT+1;XU:=0
    if nb==1 then return T4 out na nb
    if XT ≥ YR then break
  rule "list.sort.gallop"
  YR:=YR+1
  for _ in [0:total]do
   if YR > 1 then YR:=YR-1
   BX YR
   let some at_<-IC false (<- elem' b (nb-1)) a 0 na (na-1)|return done out na nb
   let k:=na-at_
   XU:=k
   if k > 0 then
    out:=out++(a.extract at_ na).reverse;na:=at_
    if na==0 then return done out na nb
   nb:=nb-1;out:=out.push (<- elem' b nb)
   if nb==1 then return T4 out na nb
   let some at_<-IC true (<- elem' a (na-1)) b 0 nb (nb-1)|return done out na nb
   let k:=nb-at_
   XT:=k
   if k > 0 then
    out:=out++(b.extract at_ nb).reverse;nb:=at_
    if nb==1 then return T4 out na nb
    if nb==0 then return done out na nb
   na:=na-1;out:=out.push (<- elem' a na)
   if na==0 then return done out na nb
   if XU<7&&XT<7 then break
  YR:=YR+1
  BX YR
 unsupported "internal:list.sort.merge-bound"):=rfl
structure MH(rk:Keyed->Nat)(a b out:List Keyed)(na nb:Nat):Prop where
 pm:out.Perm (a.drop na++b.drop nb)
 so:SrL rk out.reverse
 oa:∀x∈out,∀y∈a.take na,rk y<=rk x
 ob:∀x∈out,∀y∈b.take nb,rk y<=rk x
section
variable{a b out:List Keyed}{na nb:Nat}
def SrL.take{l:List Keyed}(h:SrL rk l)(i:Nat):SrL rk (l.take i):=PV (PZ i l) h
def dh(l:List Keyed){k:Nat}(h:k<=n):l.drop k=(l.take n).drop k++l.drop n:=by
 rcases Nat.le_total n l.length with hn|hn
 .conv=>lhs;rw[<-Ug n l]
  rw[List.drop_append_of_le_length (by rw[U1];omega)]
 .rw [Qq hn,Qr hn,Qe]
def d0{l:List Keyed}{k:Nat}(h:k<=n){x:Keyed}(a:x∈l.take k):x∈(l.take n).take k:=by
 rw[List.take_take,Nat.min_eq_left h];exact a
def MH.UL(I:MH rk a b out na nb)(ha:SrL rk a){k:Nat}(j:k<=na)(h:∀x∈(a.take na).drop k,∀y∈b.take nb,rk y<=rk x):MH rk a b (out++((a.take na).drop k).reverse) k nb where
 pm:=by
  rw[dh a j];refine Qj.trans ?_;rw[VO];exact(OP _).append I.pm
 so:=by
  rw[List.reverse_append,List.reverse_reverse];exact UX.mpr ⟨(ha.take na).drop k,I.so,λx hx y hy=>I.oa y (List.mem_reverse.mp hy) x (List.mem_of_mem_drop hx)⟩
 oa:=λx hx y hy=>by
  rcases Vj.mp hx with hx|hx
  .exact I.oa x hx y (P9 (d0 j hy))
  .exact (ha.take na).cut k y (d0 j hy) x (List.mem_reverse.mp hx)
 ob:=λx hx y hy=>by
  rcases Vj.mp hx with hx|hx
  .exact I.ob x hx y hy
  .exact h x (List.mem_reverse.mp hx) y hy
def MH.VA(I:MH rk a b out na nb)(hb:SrL rk b){k:Nat}(j:k<=nb)(h:∀x∈(b.take nb).drop k,∀y∈a.take na,rk y<=rk x):MH rk a b (out++((b.take nb).drop k).reverse) na k where
 pm:=by
  rw[dh b j];refine(I.pm.append (OP _)).trans ?_;rw[VO];exact Pn _ Qj
 so:=by
  rw[List.reverse_append,List.reverse_reverse];exact UX.mpr ⟨(hb.take nb).drop k,I.so,λx hx y hy=>I.ob y (List.mem_reverse.mp hy) x (List.mem_of_mem_drop hx)⟩
 oa:=λx hx y hy=>by
  rcases Vj.mp hx with hx|hx
  .exact I.oa x hx y hy
  .exact h x (List.mem_reverse.mp hx) y hy
 ob:=λx hx y hy=>by
  rcases Vj.mp hx with hx|hx
  .exact I.ob x hx y (P9 (d0 j hy))
  .exact (hb.take nb).cut k y (d0 j hy) x (List.mem_reverse.mp hx)
def MH.Vz(I:MH rk a b out na nb)(ha:SrL rk a)(hb:SrL rk b)(h:∀x∈a.take na,∀y∈b.take nb,rk x<=rk y):Res rk a b (a.take na++b.take nb++out.reverse):=by
 constructor
 .refine (((OP _).trans I.pm).append_left _).trans ?_
  rw[VO];refine(Pn _ ?_).trans (l₂:=List.take na a++(List.drop na a++b)) ?_
  .rw [<-VO]
   refine(List.perm_append_comm.append_right _).trans ?_;rw[VO,Ug]
  .rw [<-VO,Ug]
 .refine UX.mpr ⟨UX.mpr ⟨ha.take na,hb.take nb,h⟩,I.so,λx hx y hy=>?_⟩
  rcases Vj.mp hx with hx|hx
  .exact I.oa y (List.mem_reverse.mp hy) x hx
  .exact I.ob y (List.mem_reverse.mp hy) x hx
def MH.UK(I:MH rk a b out na nb)(ha:SrL rk a)(hb:SrL rk b)(h:∀x∈b.take nb,∀y∈a.take na,rk x<=rk y):Res rk a b (b.take nb++a.take na++out.reverse):=by
 constructor
 .refine (((OP _).trans I.pm).append_left _).trans ?_
  rw[VO,<-VO (List.take na a),Ug];refine(Qj).trans ?_;rw[VO];refine Pn _ (Qj.trans ?_);rw[Ug]
 .refine UX.mpr ⟨UX.mpr ⟨hb.take nb,ha.take na,h⟩,I.so,λx hx y hy=>?_⟩
  rcases Vj.mp hx with hx|hx
  .exact I.ob y (List.mem_reverse.mp hy) x hx
  .exact I.oa y (List.mem_reverse.mp hy) x hx
end
section
variable{E:Value->Shared->Prop}
def LH(rk:Keyed->Nat)(a b:Array Keyed)(n:Nat)(r:Option (Array Keyed))(out:Array Keyed)(u j:Nat):Prop:=match r with
 |some res=>Res rk a.toList b.toList res.toList
 |none=>MH rk a.toList b.toList out.toList u j/\(0<u/\u<=a.size)/\(1<j/\j<=b.size)/\n+u+j<=a.size+b.size
def bI{a:Array Keyed}(h:n<a.size):(a.toList.take (n+1)).drop n=[a[n]]:=by
 rw[List.drop_take,Ss (by simpa using h)];simp
def cS{a:Array Keyed}(c:SrL rk a.toList){n:Nat}(h:n<a.size):∀y∈a.toList.take (n+1),rk y<=rk a[n]:=λy b=>by
 rw[<-Ug n (a.toList.take (n+1)),bI h]at b;rcases Vj.mp b with b|b
 .exact (c.take (n+1)).cut n y b a[n] (by rw[bI h];exact V2.mpr rfl)
 .rw [V2.mp b];exact Hx _
def et(a:Array Keyed)(n:Nat):(a.extract 0 n).toList=a.toList.take n:=by
 rw[Ob,Po];simp
def ba(a:Array Keyed)(k n:Nat):(a.extract k n).toList=(a.toList.take n).drop k:=by
 rw[Ob,Po,List.drop_take]
def cN{a b out:Array Keyed}{d c:Nat}(I:MH rk a.toList b.toList out.toList d c)(i:SrL rk a.toList)(g:SrL rk b.toList)(h:d=0\/c=0):Res rk a.toList b.toList (a.extract 0 d++b.extract 0 c++out.reverse).toList:=by
 rw[VG,VG,et,et,Oc];refine I.Vz i g λx f y e=>?_;rcases h with rfl|rfl
 .rw [List.take_zero]at f;cases f
 .rw [List.take_zero]at e;cases e
def eG{a b out:Array Keyed}{j:Nat}(I:MH rk a.toList b.toList out.toList j 1)(ha:SrL rk a.toList)(hb:SrL rk b.toList)(z:0<b.size)(u:∀x∈a.toList,rk b[0]<=rk x):Res rk a.toList b.toList (b.extract 0 1++a.extract 0 j++out.reverse).toList:=by
 rw[VG,VG,et,et,Oc];refine I.UK ha hb λx hx y hy=>?_;have:=cS hb z x hx;exact Hv this (u y (List.mem_of_mem_take hy))
def g9{a b out:Array Keyed}{j:Nat}(I:MH rk a.toList b.toList out.toList (n+1) j)(ha:SrL rk a.toList)(h:n<a.size)(k:∀y∈b.toList.take j,rk y<=rk a[n]):MH rk a.toList b.toList (out.push a[n]).toList n j:=by
 have:=I.UL ha (Nat.le_succ n) (λx hx y hy=>by
  rw[bI h]at hx;rw[V2.mp hx];exact k y hy)
 rw[bI h]at this;rw[QP];exact this
def su{a b out:Array Keyed}{j:Nat}(I:MH rk a.toList b.toList out.toList j (n+1))(hb:SrL rk b.toList)(h:n<b.size)(k:∀y∈a.toList.take j,rk y<=rk b[n]):MH rk a.toList b.toList (out.push b[n]).toList j n:=by
 have:=I.VA hb (Nat.le_succ n) (λx hx y hy=>by
  rw[bI h]at hx;rw[V2.mp hx];exact k y hy)
 rw[bI h]at this;rw[QP];exact this
abbrev HiY(rk:Keyed->Nat)(a b:Array Keyed)(st:SortSt)(n:Nat)(c:Option (Array Keyed)×Nat×Nat×Array Keyed×Nat×Nat×Nat)(ZV:SortSt):Prop:=SmS st ZV /\∃na nb out mg ac bc,c=(none,na,nb,out,mg,ac,bc)/\LH rk a b n none out na nb
abbrev HiD(rk:Keyed->Nat)(a b:Array Keyed)(st:SortSt)(n:Nat)(c:Option (Array Keyed)×Nat×Nat×Array Keyed×Nat×Nat×Nat)(ZV:SortSt):Prop:=SmS st ZV /\∃r na nb out mg ac bc,c=(r,na,nb,out,mg,ac,bc)/\LH rk a b n r out na nb
abbrev HiS(rk:Keyed->Nat)(a b:Array Keyed)(st:SortSt)(n:Nat)(r:ForInStep (Option (Array Keyed)×Nat×Nat×Array Keyed×Nat×Nat×Nat))(ZV:SortSt):Prop:=match r with
 |.done c=>HiD rk a b st n c ZV
 |.yield c=>HiY rk a b st n c ZV
def wt(Z7:AE prog w A E s κ ZN rk){a b:Array Keyed}(M:S4 rk ZN a b)(hk:kindOf st=κ)(ha:0<a.size)(hb:0<b.size)(hf:∀x∈a.toList,rk b[0]<=rk x)
  {Q:Array Keyed->SortSt->Prop} (h:∀res ZV,SmS st ZV->Res rk a.toList b.toList res.toList->Q res ZV) :
  wpS (model prog w) A E s (C6 a b) Q st:=by
 rw[tW];extract_lets total done T4 na0 nb0;refine Xa (Nh (Oa ⟨rfl,?_⟩));have S:a.size-1<a.size:=by omega
 refine Xa (aq S ?_);have I0:MH rk a.toList b.toList (#[a[a.size-1]]:Array Keyed).toList (a.size-1) b.size:=by
  have I:MH rk a.toList b.toList (#[]:Array Keyed).toList (a.size-1+1) b.size:=⟨by simp;omega,List.Pairwise.nil,λx hx=>by(cases hx),λx hx=>by(cases hx)⟩
  exact g9 I M.sa S λy hy=>M.last y (List.mem_of_mem_take hy) _ (aa9 S)
 extract_lets out0;by_cases h1:a.size-1=0
 .rw [Y2 (by show(a.size-1==0)=true;simp[h1])]
  exact Wm (h _ st (SmS.refl st) (cN I0 M.sa M.sb (.inl h1)))
 .rw [YH (by show ¬ ((a.size-1==0)=true);simpa using h1)]
  by_cases h2:b.size=1
  .rw [Y2 (by show(b.size==1)=true;simp[h2])]
   have I1:MH rk a.toList b.toList (#[a[a.size-1]]:Array Keyed).toList (a.size-1) 1:=by rw[h2]at I0;exact I0
   have:=eG I1 M.sa M.sb hb hf;refine Wm (h _ st (SmS.refl st) ?_);show Res rk _ _ (b.extract 0 b.size++a.extract 0 (a.size-1)++Array.reverse #[a[a.size-1]]).toList;rw[h2];exact this
  .rw [YH (by show ¬ ((b.size==1)=true);simpa using h2)]
   refine Xa (O9 ?_);extract_lets mg0;refine Xa (Qw (Ql (I:=λx c ZV=>SmS st ZV /\ ∃ na nb out mg,c=(none,na,nb,out,mg)/\LH rk a b (1+x) none out na nb)
    (Q:=λc ZV=>SmS st ZV /\∃res na nb out mg,c=(some res,na,nb,out,mg)/\Res rk a.toList b.toList res.toList) ?_ ?_ ⟨SmS.refl st,a.size-1,b.size,#[a[a.size-1]],_,rfl,I0,⟨by omega,by omega⟩,⟨by omega,by omega⟩,by omega⟩) ?_)
   .rintro x c YK _ hx ⟨Yn,na1,nb1,Sz,mg1,rfl,hI1⟩
    have UO:x < a.size+b.size:=hx;extract_lets;refine Xa (Qw (Ql (I:=λy c ZV=>YK=ZV /\ ∃ na nb out ac L,c=(none,na,nb,out,ac,L)/\LH rk a b (1+x+y) none out na nb)
     (Q:=λc ZV=>YK=ZV /\∃r na nb out ac L,c=(r,na,nb,out,ac,L)/\LH rk a b (1+x+1) r out na nb) ?_ ?_ ⟨rfl,_,_,_,_,_,rfl,hI1⟩) ?_)
    .rintro y c F _ hy ⟨rfl,na,nb,out,ac,L,rfl,I,⟨Xg,T3⟩,⟨YI,TZ⟩,hn⟩
     obtain⟨na,rfl⟩:∃n,na=n+1:=⟨na-1,by omega⟩
     obtain⟨nb,rfl⟩:∃n,nb=n+1:=⟨nb-1,by omega⟩
     have z:na<a.size:=by omega
     have B:nb<b.size:=by omega
     extract_lets;refine Xa (aq (i:=nb) B (Xa (aq (i:=na) z (Xa (Z7 _ _ (M.mb _ (T1 B)) (M.ma _ (T1 z)) YK _ (Yn.1.trans hk) ?_)))))
     dsimp -zeta only
     by_cases S:rk b[nb]<rk a[na]
     .rw [Y2 (by simpa using S)]
      refine Xa (aq (i:=na) z ?_);extract_lets Wn ac3;have I2:MH rk a.toList b.toList (out.push a[na]).toList na (nb+1):=g9 I M.sa z λy hy=>Hv (cS M.sb B y hy) (Pk S);by_cases G:na=0
      .rw [Y2 (by show(na==0)=true;simp[G])]
       exact Wm ⟨rfl,some _,_,_,_,_,_,rfl,cN I2 M.sa M.sb (.inl G)⟩
      .rw [YH (by show ¬ ((na==0)=true);simpa using G)]
       split
       .exact Wm ⟨rfl,none,na,nb+1,_,_,_,rfl,I2,⟨Nat.pos_of_ne_zero G,Pk z⟩,⟨YI,TZ⟩,by omega⟩
       .exact Wm ⟨rfl,na,nb+1,_,_,_,rfl,I2,⟨Nat.pos_of_ne_zero G,Pk z⟩,⟨YI,TZ⟩,by omega⟩
     .rw [YH (by simpa using S)]
      refine Xa (aq (i:=nb) B ?_);extract_lets Wn bc3;have I2:MH rk a.toList b.toList (out.push b[nb]).toList (na+1) nb:=su I M.sb B λy hy=>Hv (cS M.sa z y hy) (Nat.not_lt.mp S);by_cases G:nb=1
      .rw [Y2 (by show(nb==1)=true;simp[G])]
       subst G;exact Wm ⟨rfl,some _,_,_,_,_,_,rfl,eG I2 M.sa M.sb hb hf⟩
      .rw [YH (by show ¬ ((nb==1)=true);simpa using G)]
       have q:1<nb/\nb<=b.size:=by omega
       split
       .exact Wm ⟨rfl,none,na+1,nb,_,_,_,rfl,I2,⟨Xg,T3⟩,q,by omega⟩
       .exact Wm ⟨rfl,na+1,nb,_,_,_,rfl,I2,⟨Xg,T3⟩,q,by omega⟩
    .rintro c F ⟨rfl,na,nb,out,ac,L,rfl,I,⟨Xg,T3⟩,⟨YI,TZ⟩,hn⟩
     have:max 0 total=a.size+b.size:=by show max 0 (a.size+b.size)=_;omega
     exact⟨rfl,none,na,nb,out,ac,L,rfl,I,⟨Xg,T3⟩,⟨YI,TZ⟩,by omega⟩
    .rintro c F ⟨rfl,r,na2,nb2,out2,ac2,bc2,rfl,T9⟩
     cases r with
     |some res=>exact Wm ⟨Yn,res,_,_,_,_,rfl,T9⟩
     |none=>
      refine Xa (Nh (Oa ⟨rfl,?_⟩));refine Xa (Qw (Ql (I:=λ_=>HiY rk a b st (1+x+1))
       (Q:=HiD rk a b st (1+x+1)) ?_ ?_ ⟨Yn,_,_,_,_,_,_,rfl,T9⟩) ?_)
      .rintro y c F _ hy ⟨Y3,na,nb,out,mg,ac,L,rfl,hI,⟨Xg,T3⟩,⟨YI,TZ⟩,hn⟩
       obtain⟨nb,rfl⟩:∃n,nb=n+1:=⟨nb-1,by omega⟩
       have B:nb<b.size:=by omega
       extract_lets;rename_i jp mg';have WV:∀(u:PUnit) (m:Nat),wpS (model prog w) A E s (jp u m) (HiS rk a b st (1+x+1)) F:=by
        intro u m;refine Xa ?_;rw[cZ];refine PK ?_;generalize Sy:SortSt.mk' (kindOf F) (arrOf F) (pendingOf F) m (failedOf F)=Zg;have Z:SmS st Zg:=by rw[<-Sy];exact Y3
        have Yo:kindOf Zg=κ:=Z.1.trans hk;refine Xa (aq (i:=nb) B ?_);have hbi:b[nb]∈ZN:=M.mb _ (T1 B);refine Xa (gal Z7 Yo hbi M.ma (by show 0+na<=a.size;omega) (by show na-1<na;omega) M.sa λk UN YJ Zb=>?_)
        have UN:k<=na:=UN;have YJ:∀x∈a.toList.take k,rk x<=rk b[nb]:=YJ;have Zb:∀x∈(a.toList.take na).drop k,rk b[nb]<=rk x:=Zb
        dsimp -zeta only
        extract_lets k' XU T8 Wn na3;have e3:na3=k:=rfl;have ek:k'=na-k:=rfl;have VW:∀(u:PUnit) (j:Nat) (out:Array Keyed),0<j->j<=na->MH rk a.toList b.toList out.toList j (nb+1)->(∀x∈a.toList.take j,rk x<=rk b[nb])->wpS (model prog w) A E s (T8 u j out) (HiS rk a b st (1+x+1)) Zg:=by
         intro u j Sx hp hle I' hk1';obtain⟨j,rfl⟩:∃n,j=n+1:=⟨j-1,by omega⟩
         have z:j<a.size:=by omega
         refine Xa (aq (i:=nb) B ?_);have I4:MH rk a.toList b.toList (Sx.push b[nb]).toList (j+1) nb:=su I' M.sb B hk1';by_cases h5:nb=1
         .rw [Y2 (by show(nb==1)=true;simp[h5])]
          subst h5;exact Wm ⟨Z,some _,_,_,_,_,_,_,rfl,eG I4 M.sa M.sb hb hf⟩
         .rw [YH (by show ¬ ((nb==1)=true);simpa using h5)]
          refine Xa (aq (i:=j) z ?_);have hai:a[j]∈ZN:=M.ma _ (T1 z);refine Xa (gal Z7 Yo hai M.mb (by show 0+nb<=b.size;omega) (by show nb-1<nb;omega) M.sb λn UJ Yp XW=>?_)
          have UJ:n<=nb:=UJ;have Yp:∀x∈b.toList.take n,rk x<=rk a[j]:=Yp;have XW:∀x∈(b.toList.take nb).drop n,rk a[j]<=rk x:=XW
          dsimp -zeta only
          extract_lets;rename_i kk XT jp3 UI nb5;have e5:nb5=n:=rfl;have T6:∀(u:PUnit) (R:Nat) (out:Array Keyed),1<R->R<=nb->MH rk a.toList b.toList out.toList (j+1) R->(∀x∈b.toList.take R,rk x<=rk a[j])->wpS (model prog w) A E s (jp3 u R out) (HiS rk a b st (1+x+1)) Zg:=by
           intro u R Sv VU hle' I6 hn1';refine Xa (aq (i:=j) z ?_);have I7:MH rk a.toList b.toList (Sv.push a[j]).toList j R:=g9 I6 M.sa z hn1';by_cases h6:j=0
           .rw [Y2 (by show(j==0)=true;simp[h6])]
            exact Wm ⟨Z,some _,_,_,_,_,_,_,rfl,cN I7 M.sa M.sb (.inl h6)⟩
           .rw [YH (by show ¬ ((j==0)=true);simpa using h6)]
            split
            .exact Wm ⟨Z,none,j,R,_,_,_,_,rfl,I7,⟨by omega,by omega⟩,⟨by omega,by omega⟩,by omega⟩
            .exact Wm ⟨Z,j,R,_,_,_,_,rfl,I7,⟨by omega,by omega⟩,⟨by omega,by omega⟩,by omega⟩
          by_cases Wo:nb-n > 0
          .rw [Y2 (by show nb-n > 0;exact Wo)]
           have I5:MH rk a.toList b.toList UI.toList (j+1) n:=by
            have:=I4.VA M.sb UJ λx hx y hy=>Hv (cS M.sa z y hy) (XW x hx);rw[<-ba,<-Oc,<-VG]at this;exact this
           by_cases h7:n=1
           .rw [Y2 (by rw[e5];simp[h7])]
            subst h7;exact Wm ⟨Z,some _,_,_,_,_,_,_,rfl,eG I5 M.sa M.sb hb hf⟩
           .rw [YH (by rw[e5];simpa using h7)]
            by_cases h8:n=0
            .rw [Y2 (by rw[e5];simp[h8])]
             exact Wm ⟨Z,some _,_,_,_,_,_,_,rfl,cN I5 M.sa M.sb (.inr h8)⟩
            .rw [YH (by rw[e5];simpa using h8)]
             exact T6 Unit.unit n UI () UJ I5 Yp
          .rw [YH (by show ¬ (nb-n > 0);exact Wo)]
           have e0:n=nb:=by omega
           rw[e0]at Yp;exact T6 Unit.unit nb _ () (Hx _) I4 Yp
        by_cases T5:na-k > 0
        .rw [Y2 (by rw[ek];exact T5)]
         have I3:MH rk a.toList b.toList Wn.toList k (nb+1):=by
          have:=hI.UL M.sa UN λx hx y hy=>Hv (cS M.sb B y hy) (Zb x hx);rw[<-ba,<-Oc,<-VG]at this;exact this
         by_cases h3:k=0
         .rw [Y2 (by rw[e3];simp[h3])]
          exact Wm ⟨Z,some _,_,_,_,_,_,_,rfl,cN I3 M.sa M.sb (.inl h3)⟩
         .rw [YH (by rw[e3];simpa using h3)]
          exact VW Unit.unit k Wn () UN I3 YJ
        .rw [YH (by rw[ek];exact T5)]
         have e0:k=na:=by omega
         rw[e0]at YJ;exact VW Unit.unit na out Xg (Hx _) hI YJ
       by_cases hm:mg > 1
       .rw [Y2 hm];exact Qw (WV Unit.unit mg') λr ZV h=>by cases r<;>exact h
       .rw [YH hm];exact Qw (WV Unit.unit mg) λr ZV h=>by cases r<;>exact h
      .rintro c F ⟨Y3,na,nb,out,mg,ac,L,rfl,hI⟩
       exact⟨Y3,none,_,_,_,_,_,_,rfl,hI⟩
      .rintro c F ⟨Y3,r,na,nb,out,mg,ac,L,rfl,hI⟩
       cases r with
       |some res=>exact Wm ⟨Y3,res,_,_,_,_,rfl,hI⟩
       |none=>
        let⟨q0,q1,q2,q3⟩:=hI;refine Xa ?_;rw[cZ];refine PK (Wm ⟨Y3,na,nb,out,_,rfl,q0,q1,q2,?_⟩);omega
   .rintro c YK ⟨Yn,na1,nb1,Sz,mg1,rfl,_,q1,q2,q3⟩
    have:max 0 total=a.size+b.size:=by show max 0 (a.size+b.size)=_;omega
    omega
   .rintro c YK ⟨Yn,res,_,_,_,_,rfl,hr⟩
    exact Wm (h res YK Yn hr)
end
def kZ(s:Nat):∀(l:List Keyed) (n:Nat) (b:Array Keyed),s+n+l.length<=b.size->((l.zipIdx n).foldl (λa (p,j)=>a.setIfInBounds (s+j) p) b).toList=b.toList.take (s+n)++l++b.toList.drop (s+n+l.length)
 |[],n,b,h=>by simp
 |x::l,n,b,h=>by
  rw[Uc]at h;rw[List.zipIdx_cons,List.foldl_cons,kZ s l (n+1) _ (by rw[Nv];omega)]
  rw[Ni,Uc];have d:(b.toList.set (s+n) x).take (s+(n+1))=b.toList.take (s+n)++[x]:=by
   rw[<-N4,List.take_succ_eq_append_getElem (by simp;omega),List.take_set_of_le (Hx _),List.getElem_set_self]
  have c:(b.toList.set (s+n) x).drop (s+(n+1)+l.length)=b.toList.drop (s+n+(l.length+1)):=by
   rw[List.drop_set_of_lt ()];congr 1;omega
  rw[d,c];simp
def tS(i:Nat):mergeAt' i=(do
 let s<-get
 let(some (sa,na,power),some (sb,nb,_)):=((pendingOf s)[i]?,(pendingOf s)[i+1]?)|unsupported "internal:list.sort.pending"
 set (setPending s (((pendingOf s).setIfInBounds i (sa,na+nb,power)).eraseIdxIfInBounds (i+1)))
 let some k<-IC false (<- elem' (arrOf s) sb) (arrOf s) sa na 0|return false
 let(sa,na):=(sa+k,na-k)
 if na==0 then return true
 let some nb<-IC true (<- elem' (arrOf s) (sa+na-1)) (arrOf s) sb nb (nb-1)|return false
 if nb==0 then return true
 let x:=(arrOf s).extract sa sb
 let y:=(arrOf s).extract sb (sb+nb)
 let merged<-if na<=nb then C4 x y else C6 x y
 modify λs=>setArr s (merged.toList.zipIdx.foldl (λa (p,j)=>a.setIfInBounds (sa+j) p) (arrOf s))
 return (failedOf (<- get)).isNone):=rfl
section
def cI(a:Array Keyed)(i:Nat):IA rk a i=(a.toList[i]?.map rk).getD 0:=by
 unfold IA;rw[U9]
def qD{a:Array Keyed}{l₁ l₂ RW : List Keyed}(h:a.toList=l₁ ++ l₂ ++ RW)(i:Nat):IA rk a i=if i<l₁.length then(l₁[i]?.map rk).getD 0 else if i<l₁.length+l₂.length then(l₂[i-l₁.length]?.map rk).getD 0 else(RW[i-(l₁.length+l₂.length)]?.map rk).getD 0:=by
 rw[cI,h];split
 .rw [WR (by rw[Ww];omega),WR (by assumption)]
 .split
  .rw [WR (by rw[Ww];assumption),VX ()]
  .rw [VX (by rw[Ww];omega),Ww]
def ya{s:Array Keyed}{e p q:Nat}{mg:List Keyed}(J:e<=arr.size)(N:lo<=p)(M:p<=m)(L:m<=q)(K:q<=e)(B:Up (IA rk arr) lo m)(A:Up (IA rk arr) m e)
  (H:∀i,lo<=i->i<p ->∀t,m<=t->t<e->IA rk arr i<=IA rk arr t) (G:∀t,lo<=t->t<m ->∀j,q<=j->j<e->IA rk arr t<=IA rk arr j)
  (l:Res rk ((arr.extract p m).toList) ((arr.extract m q).toList) mg) (F:s.toList=arr.toList.take p++mg++arr.toList.drop q):Up (IA rk s) lo e:=by
 have E:mg.length=q-p:=by
  rw[l.1.length_eq,Ww,X6,X6,OA,OA];omega
 have Iu:(arr.toList.take p).length=p:=by rw[U1,X6];omega
 have u:∀i,IA rk s i=if i<p then IA rk arr i else if i<q then(mg[i-p]?.map rk).getD 0 else IA rk arr i:=λi=>by
  rw[qD F i,Iu,E,show p+(q-p)=q by omega]
  split
  .rw [Oq (by assumption),<-cI]
  .split
   .rfl
   .rw [Nj,show q+(i-q)=i by omega,<-cI]
 have d:∀i,i<q-p ->∃t,p<=t/\t<q/\(mg[i]?.map rk).getD 0=IA rk arr t:=λi hi=>by
  have z:i<mg.length:=by omega
  have hx:=l.1.mem_iff.mp (QJ z);rw[ba,ba]at hx;rw[Xn z];rcases Vj.mp hx with hx|hx
  .obtain ⟨j,a,n⟩:=Py.mp hx
   have r:=a;simp![Rv,U1,X6]at r;refine⟨p+j,by omega,by omega,?_⟩
   rw[aB (by omega:p+j<arr.size),<-n]
   simp
  .obtain ⟨j,a,n⟩:=Py.mp hx
   have r:=a;simp![Rv,U1,X6]at r;refine⟨m+j,by omega,by omega,?_⟩
   rw[aB (by omega:m+j<arr.size),<-n]
   simp
 intro i j hi o a;rw[u i,u j];by_cases h:i<p
 .rw [Y2 h]
  have b:∀t,p<=t->t<e->IA rk arr i<=IA rk arr t:=λt O I=>by
   by_cases f:t<m
   .exact B i t hi () f
   .exact H i hi h t () I
  by_cases x:j<p
  .rw [Y2 x];exact B i j hi o ()
  .rw [YH x]
   by_cases c:j<q
   .rw [Y2 c]
    let⟨t,f,D,g⟩:=d (j-p) ()
    rw[g];exact b t f ()
   .rw [YH c];exact b j () a
 .rw [YH h,YH (by omega : ¬ j<p)]
  by_cases y:i<q
  .rw [Y2 y]
   by_cases c:j<q
   .rw [Y2 c]
    have w:i-p<mg.length:=by omega
    have v:j-p<mg.length:=by omega
    rw[Xn w,Xn v];rcases Nat.lt_or_eq_of_le o with k|k
    .exact QR.mp l.2 (i-p) (j-p) w v ()
    .subst k;exact Hx _
   .rw [YH c]
    let⟨t,f,D,g⟩:=d (i-p) ()
    rw[g];by_cases C:t<m
    .exact G t () C j () a
    .exact A t j () () a
  .rw [YH y,YH (by omega : ¬ j<q)]
   exact A i j () o a
end
section
variable{E:Value->Shared->Prop}
def dU{p q:Nat}{x:Keyed}(h:x∈(arr.extract p q).toList):∃t,p<=t/\t<q/\t<arr.size/\IA rk arr t=rk x/\x∈arr:=by
 rw[ba]at h;let⟨j,a,e⟩:=Py.mp h;have b:=a;simp![Rv,U1,X6]at b;refine⟨p+j,by omega,by omega,by omega,?_,?_⟩
 .rw [aB (by omega:p+j<arr.size),<-e];simp
 .rw [<-e];simp
def nT{p q hi:Nat}(h:Up (IA rk arr) lo hi)(e:lo<=p)(d:q<=hi)(c:hi<=arr.size):SrL rk (arr.extract p q).toList:=by
 rw[ba,SrL,QR];intro i j a b f;have a1:=a;have a2:=b;simp![Rv,U1,X6]at a1 a2;have:=h (p+i) (p+j) () () ()
 rw[aB (by omega:p+i<arr.size),aB (by omega:p+j<arr.size)]at this
 simpa using this
def ze{ZV:SortSt}{Q:PUnit->SortSt->Prop}(h:Q ⟨⟩ ZV):wpS (model prog w) A E s (set ZV:StateT SortSt Sem PUnit) Q st:=PK (f:=λ_=>ZV) h
def xC(Z7:AE prog w A E s κ ZN rk)(B:SB κ ZN st){u F p G q:Nat}(h1:(pendingOf st)[i]?=some (u,F,p))(h2:(pendingOf st)[i+1]?=some (u+F,G,q))(hna:0<F)(hnb:0<G)(hsz:u+F+G<=ZN.size)
  (Wl:Up (IA rk (arrOf st)) u (u+F)) (XH:Up (IA rk (arrOf st)) (u+F) (u+F+G)) {Q:Bool->SortSt->Prop}
  (h:∀ZV,SB κ ZN ZV->(∀j,(j<u\/u+F+G<=j)->IA rk (arrOf ZV) j=IA rk (arrOf st) j)->Up (IA rk (arrOf ZV)) u (u+F+G)->pendingOf ZV=((pendingOf st).setIfInBounds i (u,F+G,p)).eraseIdxIfInBounds (i+1)->Q true ZV) :
  wpS (model prog w) A E s (mergeAt' i) Q st:=by
 rw[tS];refine Xa (O9 ?_);rw[h1,h2]
 dsimp -zeta only
 have hs:=B.size;have XY:∀x∈arrOf st,x∈ZN:=λx hx=>B.perm.mem_iff.mp hx;have WU:u+F < (arrOf st).size:=by omega
 refine Xa (ze ?_);generalize Sr:setPending st (((pendingOf st).setIfInBounds i (u,F+G,p)).eraseIdxIfInBounds (i+1))=YK;have S:SB κ ZN YK:=by rw[<-Sr];exact⟨B.perm,B.failed,B.kind⟩
 have ea:arrOf YK=arrOf st:=by rw[<-Sr]
 have ep:pendingOf YK=((pendingOf st).setIfInBounds i (u,F+G,p)).eraseIdxIfInBounds (i+1):=by rw[<-Sr]
 refine Xa (aq WU ?_);refine Xa (fE Z7 S.kind (XY _ (T1 WU)) XY () hna Wl ?_);rintro k ⟨k1,k2,k3⟩
 dsimp -zeta only
 have kk:∀t,u<=t->t<u+k->IA rk (arrOf st) t<=IA rk (arrOf st) (u+F):=λt L t2=>by
  have:=k2 (t-u) ()
  unfold ID at this;rw[YH Hw,show u+(t-u)=t by omega,R6,Pg]at this
  rw[aB WU];omega
 have kl:∀t,u+k<=t->t<u+F->rk (arrOf st)[u+F]<=IA rk (arrOf st) t:=λt L t2=>by
  have:=k3 (t-u) () ()
  unfold ID at this;rw[YH Hw,show u+(t-u)=t by omega,Bool.not_eq_false',Vw]at this
  omega
 have RU:∀i,u<=i->i<u+k ->∀t,u+F<=t->t<u+F+G->IA rk (arrOf st) i<=IA rk (arrOf st) t:=λi i1 i2 t L t2=>Hv (kk i i1 i2) (XH _ t (Hx _) L t2);by_cases e1:F-k=0
 .rw [Y2 (by simp[e1])]
  refine Wm (h YK S (λj _=>by rw[ea]) ?_ ep)
  rw[ea];intro x y x1 xy y1;by_cases c1:y<u+F
  .exact Wl x y x1 xy c1
  .by_cases c2:x<u+F
   .exact RU x x1 () y () y1
   .exact XH x y () xy y1
 .rw [YH (by simpa using e1)]
  have el:u+k+(F-k)-1=u+F-1:=by omega
  have hl:u+k+(F-k)-1 < (arrOf st).size:=by omega
  refine Xa (aq hl ?_);refine Xa (fE Z7 S.kind (XY _ (T1 hl)) XY () () XH ?_);rintro n ⟨n1,n2,n3⟩
  dsimp -zeta only
  have nn:∀j,u+F+n<=j->j<u+F+G->IA rk (arrOf st) (u+F-1)<=IA rk (arrOf st) j:=λj j1 j2=>by
   have:=n3 (j-(u+F)) () ()
   unfold ID at this;rw[Y2 rfl,show u+F+(j-(u+F))=j by omega,<-aB (rk:=rk) hl,el]at this
   have:=Oz this;omega
  have nm:∀j,u+F<=j->j<u+F+n->IA rk (arrOf st) j<=IA rk (arrOf st) (u+F-1):=λj j1 j2=>by
   have:=n2 (j-(u+F)) ()
   unfold ID at this;rw[Y2 rfl,show u+F+(j-(u+F))=j by omega,<-aB (rk:=rk) hl,el]at this
   have:=HE this;omega
  have RQ:∀t,u<=t->t<u+F ->∀j,u+F+n<=j->j<u+F+G->IA rk (arrOf st) t<=IA rk (arrOf st) j:=λt L t2 j j1 j2=>Hv (Wl t _ L () ()) (nn j j1 j2)
  by_cases e2:n=0
  .rw [Y2 (by simp[e2])]
   refine Wm (h YK S (λj _=>by rw[ea]) ?_ ep)
   rw[ea];intro x y x1 xy y1;by_cases c1:y<u+F
   .exact Wl x y x1 xy c1
   .by_cases c2:x<u+F
    .exact RQ x x1 c2 y () y1
    .exact XH x y () xy y1
  .rw [YH (by simpa using e2)]
   extract_lets x y jp;have sx:x.size=F-k:=by show((arrOf st).extract (u+k) (u+F)).size=_;rw[OA];omega
   have sy:y.size=n:=by show((arrOf st).extract (u+F) (u+F+n)).size=_;rw[OA];omega
   have WT:0<x.size:=by omega
   have hy0:0<y.size:=by omega
   have M:S4 rk ZN x y:=by
    refine⟨λz Z=>?_,λz Z=>?_,nT Wl () () (),nT XH () () (),λz Z v hv=>?_⟩
    .obtain ⟨t,_,_,_,_,hm⟩:=dU (rk:=rk) (Pc.mpr Z)
     exact XY _ hm
    .obtain ⟨t,_,_,_,_,hm⟩:=dU (rk:=rk) (Pc.mpr Z)
     exact XY _ hm
    .obtain ⟨t,L,t2,_,t4,_⟩:=dU (rk:=rk) Z
     have WI:x.size-1<x.size:=by omega
     have ev:v=x[x.size-1]:=by
      rw[Ss (by rw[X6];exact WI),Qr (by rw[X6];omega)]at hv
      rw[V2.mp hv];simp
     have:rk v=IA rk (arrOf st) (u+F-1):=by
      rw[ev,aB (by omega:u+F-1 < (arrOf st).size)]
      show rk (((arrOf st).extract (u+k) (u+F))[x.size-1])=_;rw[Array.getElem_extract];congr 2;omega
     rw[this,<-t4];exact nm t L t2
   have hf:∀z∈x.toList,rk y[0]<=rk z:=λz Z=>by
    let⟨t,L,t2,_,t4,_⟩:=dU (rk:=rk) Z;have:=kl t L t2;rw[t4]at this;have e0:y[0]=(arrOf st)[u+F]:=by
     show((arrOf st).extract (u+F) (u+F+n))[0]=_;rw[Array.getElem_extract];rfl
    rw[e0];exact this
   have WV:∀mg ZV,SmS YK ZV->Res rk x.toList y.toList mg.toList->wpS (model prog w) A E s (jp mg) Q ZV:=by
    intro mg ZV R hR;refine Xa (PK (Xa (O9 ?_)));have Zf:failedOf ZV=none:=R.2.2.2.trans S.failed;have Wk:arrOf ZV=arrOf st:=R.2.1.trans ea;generalize hres:List.foldl (λ(a:Array Keyed) (x:Keyed×Nat)=>a.setIfInBounds (u+k+x.snd) x.fst) (arrOf ZV) mg.toList.zipIdx=res;have lm:mg.toList.length=(F-k)+n:=by
     rw[hR.1.length_eq,Ww,X6,X6,sx,sy]
    have hto:res.toList=(arrOf st).toList.take (u+k)++mg.toList++(arrOf st).toList.drop (u+F+n):=by
     have:=kZ (u+k) mg.toList 0 (arrOf ZV) (by rw[Wk,lm];omega)
     rw[Nat.add_zero,lm,Wk,show u+k+(F-k+n)=u+F+n by omega]at this
     rw[<-hres,Wk];exact this
    have Q7:res.Perm (arrOf st):=by
     rw[Array.perm_iff_toList_perm,hto];have e1:(arrOf st).toList=(arrOf st).toList.take (u+k)++(x.toList++y.toList)++(arrOf st).toList.drop (u+F+n):=by
      have c1:=dh (arrOf st).toList (show u+F<=u+F+n by omega)
      have c2:=dh (arrOf st).toList (show u+k<=u+F by omega)
      show _=_++(((arrOf st).extract (u+k) (u+F)).toList++((arrOf st).extract (u+F) (u+F+n)).toList)++_;rw[ba,ba,VO,VO,<-c1,<-c2,Ug]
     conv=>rhs;rw[e1]
     exact(hR.1.append_left _).append_right _
    show wpS _ _ _ _ (pure (failedOf ZV).isNone) Q _;rw[Zf];refine Wm (h _ ⟨Q7.trans B.perm,Zf,R.1.trans S.kind⟩ ?_ ?_ (R.2.2.1.trans ep))
    .intro j hj
     show IA rk res j=_;have Iu:((arrOf st).toList.take (u+k)).length=u+k:=by rw[U1,X6];omega
     rw[qD hto j,Iu,lm,show u+k+(F-k+n)=u+F+n by omega]
     split
     .rw [Oq (by assumption),<-cI]
     .rw [YH (),Nj,show u+F+n+(j-(u+F+n))=j by omega,<-cI]
    .show Up (IA rk res) u (u+F+G)
     exact ya () (by omega:u<=u+k) () (by omega:u+F<=u+F+n) () Wl XH RU RQ hR hto
   by_cases hc:F-k<=n
   .rw [Y2 hc]
    exact Xa (wA Z7 M S.kind WT hy0 hf λres ZV R hR=>WV res ZV R hR)
   .rw [YH hc]
    exact Xa (wt Z7 M S.kind WT hy0 hf λres ZV R hR=>WV res ZV R hR)
end
def PdR(r:Nat->Nat):List (Nat×Nat×Nat)->Nat->Nat->Prop
 |[],lo,hi=>lo=hi
 |(s,n,_)::l,lo,hi=>s=lo/\0<n/\Up r lo (lo+n)/\PdR r l (lo+n) hi
section
variable{r r':Nat->Nat}
def PdR.le:∀{l:List (Nat×Nat×Nat)} {lo hi:Nat},PdR r l lo hi->lo<=hi
 |[],_,_,h=>by cases h;exact Hx _
 |(s,n,p)::l,lo,hi,h=>by have:=h.2.2.2.le;omega
def PdR.app:∀{l f:List (Nat×Nat×Nat)} {lo hi:Nat},PdR r (l++f) lo hi ↔ ∃m,PdR r l lo m/\PdR r f m hi
 |[],f,lo,hi=>⟨λh=>⟨lo,rfl,h⟩,λ⟨m,h,k⟩=>by cases h;exact k⟩
 |(s,n,p)::l,f,lo,hi=>by
  rw[OU];constructor
  .rintro ⟨a,b,c,d⟩
   let⟨m,g,JP⟩:=PdR.app.mp d;exact⟨m,⟨a,b,c,g⟩,JP⟩
  .rintro ⟨m,⟨a,b,c,d⟩,e⟩
   exact⟨a,b,c,PdR.app.mpr ⟨m,d,e⟩⟩
def PdR.snoc{l:List (Nat×Nat×Nat)}{hi p:Nat}(h:PdR r l lo hi)(b:0<n)(a:Up r hi (hi+n)):PdR r (l++[(hi,n,p)]) lo (hi+n):=
 PdR.app.mpr ⟨hi,h,rfl,b,a,rfl⟩
def PdR.same:∀{l:List (Nat×Nat×Nat)} {lo hi:Nat},PdR r l lo hi->(∀j,lo<=j->j<hi->r' j=r j)->PdR r' l lo hi
 |[],_,_,h,_=>h
 |(s,n,p)::l,lo,hi,⟨a,b,c,d⟩,e=>by
  have:=d.le;refine⟨a,b,λi j g f k=>?_,d.same λj g f=>e j () f⟩
  rw[e i g (),e j () ()]
  exact c i j g f k
def PdR.join{l₁ l₂ : List (Nat×Nat×Nat)}{s p d a q hi:Nat}(h:PdR r (l₁ ++ (s,n,p)::(d,a,q)::l₂) lo hi)(b:∀j,(j<s\/s+n+a<=j)->r' j=r j)(g:Up r' s (s+n+a)):PdR r' (l₁ ++ (s,n+a,p)::l₂) lo hi:=by
 let⟨m,c,k,v,u,t,o,l,i⟩:=PdR.app.mp h;subst k;have k1:=c.le;refine PdR.app.mpr ⟨s,c.same λj _ e=>b j (.inl e),rfl,by omega,by rw[<-N4];exact g,?_⟩
 rw[<-N4];exact i.same λj f _=>b j (.inr f)
def PdR.pair{l₁ l₂ : List (Nat×Nat×Nat)}{s p b a q hi:Nat}(h:PdR r (l₁ ++ (s,n,p)::(b,a,q)::l₂) lo hi):b=s+n/\0<n/\0<a/\s+n+a<=hi/\Up r s (s+n)/\Up r (s+n) (s+n+a):=by
 let⟨m,k,j,i,g,f,e,d,c⟩:=PdR.app.mp h;subst j;exact⟨f,i,e,c.le,g,d⟩
def zS{l:List (Nat×Nat×Nat)}(h:i+1<l.length):∃x y,l[i]?=some x/\l[i+1]?=some y/\l=l.take i++x::y::l.drop (i+2)/\(l.set i (x.1,x.2.1+y.2.1,x.2.2)).eraseIdx (i+1)=l.take i++(x.1,x.2.1+y.2.1,x.2.2)::l.drop (i+2):=by
 have e:l=l.take i++l[i]::l[i+1]::l.drop (i+2):=by
  conv=>lhs;rw[<-Ug i l,Ss (),Ss (by omega:i+1<l.length)]
 refine⟨l[i],l[i+1],Xn _,Xn h,e,?_⟩;have lt:(l.take i).length=i:=by rw[U1];omega
 generalize l[i]=x at e ⊢;generalize l[i+1]=y at e ⊢;generalize l.take i=l₁ at e lt ⊢;generalize l.drop (i+2)=l₂ at e ⊢;subst e;subst lt;rw[List.set_append_right _ _ (Hx _),Nat.sub_self,List.set_cons_zero,List.eraseIdx_append_of_length_le (),show l₁.length+1-l₁.length=1 by omega]
 rfl
end
section
variable{E:Value->Shared->Prop}
structure Ym(κ:SortKind)(ZN : Array Keyed)(rk:Keyed->Nat)(lo:Nat)(st:SortSt):Prop where
 sb:SB κ ZN st
 pr:PdR (IA rk (arrOf st)) (pendingOf st).toList 0 lo
def Ym.merge(Z7:AE prog w A E s κ ZN rk)(P:Ym κ ZN rk lo st)(V4:lo<=ZN.size)(hi:i+1 < (pendingOf st).size){Q:Bool->SortSt->Prop}
  (h:∀ZV,Ym κ ZN rk lo ZV->(∀j,lo<=j->IA rk (arrOf ZV) j=IA rk (arrOf st) j)->(pendingOf ZV).size+1=(pendingOf st).size->Q true ZV):wpS (model prog w) A E s (mergeAt' i) Q st:=by
 let⟨⟨G,na,p⟩,⟨sb,nb,q⟩,B,z,e1,e2⟩:=zS (l:=(pendingOf st).toList) (i:=i) (by rw[X6];exact hi)
 have hp:=P.pr;rw[e1]at hp;let⟨rfl,Z,S,q3,R,L⟩:=hp.pair;rw[U9]at B z;refine xC Z7 P.sb B z Z S () R L λZV B' ho hu u=>?_
 have F:(pendingOf ZV).toList=(pendingOf st).toList.take i++(G,na+nb,p) :: (pendingOf st).toList.drop (i+2):=by
  rw[u,<-e2,Array.toList_eraseIdxIfInBounds,Ni]
 refine h ZV ⟨B',?_⟩ (λj hj=>ho j (.inr ())) ?_
 .rw [F];exact hp.join ho hu
 .have:=QU List.length F
  rw[X6,Ww,Uc,U1,Rv,X6]at this;omega
end
section
variable{E:Value->Shared->Prop}
def PdR.len{r:Nat->Nat}:∀{l:List (Nat×Nat×Nat)} {lo hi:Nat},PdR r l lo hi->lo+l.length<=hi
 |[],_,_,h=>by cases h;exact Hx _
 |(s,n,p)::l,lo,hi,h=>by have:=h.2.2.2.len;have:=h.2.1;rw[Uc];omega
def PdR.modify{r:Nat->Nat}{f:Nat×Nat×Nat->Nat×Nat×Nat}(d:∀x,(f x).1=x.1/\(f x).2.1=x.2.1):∀{l:List (Nat×Nat×Nat)} {k lo hi:Nat},PdR r l lo hi->PdR r (l.modify k f) lo hi
 |[],k,_,_,h=>by cases k<;>exact h
 |(s,n,p)::l,0,lo,hi,h=>by
  have:=d (s,n,p);rw[List.modify_zero_cons];obtain⟨⟨a,b,c⟩,e⟩:∃y,f (s,n,p)=y:=⟨_,rfl⟩;rw[e]at this ⊢;let⟨rfl,rfl⟩:=this;exact h
 |(s,n,p)::l,k+1,lo,hi,h=>by
  rw[List.modify_succ_cons];exact⟨h.1,h.2.1,h.2.2.1,h.2.2.2.modify d⟩
def xj{Q:Unit->SortSt->Prop}(Z7:AE prog w A E s κ ZN rk)(B:SB κ ZN st)(hp:pendingOf st = #[])
  (h:∀ZV,SB κ ZN ZV->Up (IA rk (arrOf ZV)) 0 ZN.size->Q Unit.unit ZV):wpS (model prog w) A E s sortRuns' Q st:=by
 rw[sortRuns'_eq];refine Xa (O9 ?_);rw[B.size];extract_lets size Sq lo0;have P0:Ym κ ZN rk 0 st:=⟨B,by rw[hp];rfl⟩
 refine Xa (Qw (Ql (I:=λx c ZV => ∃ lo,c=(none,lo)/\Ym κ ZN rk lo ZV/\lo<=ZN.size/\(x<=lo\/lo=ZN.size))
  (Q:=λc ZV=>c=(none,ZN.size)/\Ym κ ZN rk ZN.size ZV) ?step ?fin ⟨0,rfl,P0,P7 _,.inl (Hx _)⟩) ?post)
 case fin=>
  rintro c ZV ⟨lo,rfl,P,JV,l2⟩;have:max 0 size=ZN.size:=by show max 0 ZN.size=_;omega
  have:lo=ZN.size:=by omega
  subst this;exact⟨rfl,P⟩
 case step=>
  rintro x c ZV _ hx ⟨lo,rfl,P,JV,l2⟩
  dsimp -zeta only
  extract_lets lo' jp;by_cases hl:lo ≥ ZN.size
  .rw [Y2 hl]
   have:lo=ZN.size:=by omega
   subst this;exact Wm ⟨rfl,P⟩
  .rw [YH hl]
   refine Xa (uR (lo:=lo) Z7 P.sb (by show 1<=ZN.size-lo;omega) (by show lo+(ZN.size-lo)<=_;omega) λm R Zb VE Yq XH=>?_)
   have Yq:m<=ZN.size-lo:=Yq
   dsimp -zeta only
   extract_lets;have WV:∀ (u:PUnit) (n:Nat) (S:SortSt),1<=n->lo+n<=ZN.size->Ym κ ZN rk lo S->Up (IA rk (arrOf S)) lo (lo+n)->wpS (model prog w) A E s (jp u n) (λr ZV=>match r with
     |.done c'=>c'=(none,ZN.size)/\Ym κ ZN rk ZN.size ZV
     |.yield c'=>∃lo,c'=(none,lo)/\Ym κ ZN rk lo ZV/\lo<=ZN.size/\(x+1<=lo\/lo=ZN.size)) S:=by
    intro u n S n1 n2 P3 Z;refine Xa (O9 ?_);extract_lets lo2 T8;have VW:∀ (u:PUnit) (F:SortSt),Ym κ ZN rk lo F->Up (IA rk (arrOf F)) lo (lo+n)->wpS (model prog w) A E s (T8 u) (λr ZV=>match r with
      |.done c'=>c'=(none,ZN.size)/\Ym κ ZN rk ZN.size ZV
      |.yield c'=>∃lo,c'=(none,lo)/\Ym κ ZN rk lo ZV/\lo<=ZN.size/\(x+1<=lo\/lo=ZN.size)) F:=by
     intro u F G Vy;refine Xa (PK (Wm ⟨lo+n,rfl,⟨⟨G.sb.perm,G.sb.failed,G.sb.kind⟩,?_⟩,n2,by omega⟩))
     show PdR (IA rk (arrOf F)) ((pendingOf F).push (lo,n,0)).toList 0 (lo+n);rw[QP];exact G.pr.snoc () Vy
    cases hb:(pendingOf S).back? with
    |none=>
     dsimp -zeta only
     exact Qw (VW Unit.unit S P3 Z) λr ZV h=>by cases r<;>exact h
    |some v=>
     let⟨s1,n1',pv⟩:=v
     dsimp -zeta only
     extract_lets pw;refine Xa (Qw (Ql (I:=λ_ c ZV=>c=(none,Unit.unit)/\Ym κ ZN rk lo ZV/\Up (IA rk (arrOf ZV)) lo (lo+n)) (Q:=λc ZV=>c=(none,Unit.unit)/\Ym κ ZN rk lo ZV/\Up (IA rk (arrOf ZV)) lo (lo+n)) ?_ (λ_ _ hh=>hh) ⟨rfl,P3,Z⟩) ?_)
     .rintro y c F _ _ ⟨rfl,G,Vy⟩
      refine Xa (O9 ?_);extract_lets p;split
      .rename_i f1 f2 older hq
       split
       .exact Wm ⟨rfl,G,Vy⟩
       .have hsz:(pendingOf F).size-2+1<(pendingOf F).size:=by
         by_cases c1:(pendingOf F).size > 1
         .omega
         .rw [YH c1]at hq;cases hq
        refine Xa (G.merge Z7 JV hsz λV5 P5 ho5 _=>?_);refine Wm ⟨rfl,P5,λi j h1 L h3=>?_⟩;rw[ho5 i h1,ho5 j ()]
        exact Vy i j h1 L h3
      .exact Wm ⟨rfl,G,Vy⟩
     .rintro c F ⟨rfl,G,Vy⟩
      refine Xa (PK ?_);refine Qw (VW Unit.unit _ ⟨⟨G.sb.perm,G.sb.failed,G.sb.kind⟩,?_⟩ Vy) λr ZV h=>by cases r<;>exact h
      show PdR (IA rk (arrOf F)) ((pendingOf F).modify ((pendingOf F).size-1) λx=>(x.fst,x.2.fst,pw)).toList 0 lo;rw[Array.toList_modify];exact PdR.modify (f:=λx=>(x.fst,x.2.fst,pw)) (λ_=>⟨rfl,rfl⟩) G.pr
   have z:Ym κ ZN rk lo R:=⟨Zb.sb,by rw[Zb.pend];exact P.pr.same λj _ j2=>by unfold IA;rw[Zb.out j (.inl j2)]⟩
   by_cases Y8:m<Sq
   .rw [Y2 Y8]
    refine Xa (Nh (Oa ⟨rfl,?_⟩));have fo:m<=min (ZN.size-lo) Sq/\lo+min (ZN.size-lo) Sq<=ZN.size:=by omega
    refine Xa (t6 (lo:=lo) Z7 Zb.sb fo.2 fo.1 XH λS Yo Z=>?_);have P3:Ym κ ZN rk lo S:=⟨Yo.sb,by rw[Yo.pend];exact z.pr.same λj _ j2=>by unfold IA;rw[Yo.out j (.inl j2)]⟩
    exact Qw (WV Unit.unit _ S () fo.2 P3 Z) λr ZV h=>by cases r<;>exact h
   .rw [YH Y8]
    exact Qw (WV Unit.unit m R VE () z XH) λr ZV h=>by cases r<;>exact h
 case post=>
  rintro c ZV ⟨rfl,P⟩;have hlen:=P.pr.len;rw[X6]at hlen;refine Xa (Qw (Ql (I:=λx c Yh=>c=(none,Unit.unit)/\Ym κ ZN rk ZN.size Yh/\(pendingOf Yh).size+x<=ZN.size\/c=(none,Unit.unit)/\Ym κ ZN rk ZN.size Yh/\(pendingOf Yh).size<=1) (Q:=λc Yh=>c=(none,Unit.unit)/\Ym κ ZN rk ZN.size Yh/\(pendingOf Yh).size<=1) ?_ ?_ (.inl ⟨rfl,P,by omega⟩)) ?_)
  .intro x c R _ hx hh
   refine Xa (O9 ?_);by_cases h1:(pendingOf R).size<=1
   .rw [Y2 h1]
    rcases hh with⟨rfl,z,_⟩|⟨rfl,z,_⟩<;>exact Wm ⟨rfl,z,h1⟩
   .rw [YH h1]
    rcases hh with⟨rfl,z,L⟩|⟨rfl,z,L⟩
    .extract_lets
     rename_i i';have hi2:∀(c:Prop) [Decidable c] (a:Nat),(if c then a-1 else a)<=a:=λc _ a=>by split<;>omega
     have hi3:i'<=(pendingOf R).size-2:=hi2 _ _;have hi:i'+1<(pendingOf R).size:=by omega
     refine Xa (z.merge Z7 (Hx _) hi λS P3 _ hz=>?_);exact Wm (.inl ⟨rfl,P3,by omega⟩)
    .omega
  .rintro c R (⟨rfl,z,L⟩|⟨rfl,z,L⟩)
   .have:max 0 size=ZN.size:=by show max 0 ZN.size=_;omega
    exact⟨rfl,z,by omega⟩
   .exact ⟨rfl,z,L⟩
  .rintro c R ⟨rfl,z,L⟩
   refine Wm (h R z.sb ?_);have WG:=z.pr;rw[<-X6]at L;generalize(pendingOf R).toList=l at WG L
   match l,WG,L with
   |[],WG,_=>intro i j _ _ h3;have:0=ZN.size:=WG;omega
   |[(a,n,p)],WG,_=>
    let⟨_,_,q3,q4⟩:=WG;have:0+n=ZN.size:=q4;rw[<-this];exact q3
end
open PySem PyProof.Rows PySem.W
def ji{f:α->β}{l g:List β}(h:l.Perm g):∀(D:List α),g=D.map f ->∃a:List α,a.Perm D/\l=a.map f:=by
 induction h with
 |nil=>intro D e;exact⟨[],by rw[List.map_eq_nil_iff.mp e.symm],rfl⟩
 |cons x _ ih=>
  intro D e;cases D with
  |nil=>cases e
  |cons d D=>
   cases e;let⟨a,p,q⟩:=ih D rfl;exact⟨d::a,p.cons d,by rw[q];rfl⟩
 |swap x y l=>
  intro D e;cases D with
  |nil=>cases e
  |cons d D=>
   cases D with
   |nil=>cases e
   |cons d' D=>cases e;exact⟨d'::d::D,.swap _ _ _,rfl⟩
 |trans _ _ c b=>
  intro D e;let⟨n,k,i⟩:=b D e;let⟨o,m,j⟩:=c n i;exact⟨o,m.trans k,j⟩
def refs(D:Za):List Value:=D.map λd=>.ref d.2
def BE(D:Za):Prop:=D.Pairwise λx y=>Ah y.1 x.1=false
section
variable{E:Value->Shared->Prop}{D:Za}
def IsT.keep{k:List Int}(x:IsT prog w h k b)(a:∀o,h.get? b=some o->h'.get? b=some o):IsT prog w h' k b:=
 let⟨o,g,n,f,e,d,c⟩:=x;⟨o,g,n,a o f,e,d,c⟩
def fm(D:Za):(pairsOf (refs D)).toList=D.map λd=>((.ref d.2,.ref d.2):Keyed):=by
 rw[pairsOf_toList];unfold refs
 induction D with
 |nil=>rfl
 |cons d D ih=>rw[W1,PJ,ih];rfl
def mj:∀{D:Za},(∀d∈D,IsT prog w s.heap d.1 d.2/\d.1≠[]) ->∃f:List Value,KatTups s.heap (refs D) f/\f.length=D.length /\∀v∈f,∃i t,v=.int i t
 |[],_=>⟨[],trivial,rfl,λv e=>by cases e⟩
 |d::D,h=>by
  let⟨f,a,b,c⟩:=mj (D:=D) λd j=>h d (Hy _ j);let⟨⟨o,q,n,p,m,k,g⟩,u⟩:=h d HD;cases hk:d.1 with
  |nil=>exact absurd hk u
  |cons i r=>
   rw[hk]at g;generalize hl:q.toList=l at g;cases g with
   |cons h1 _=>
    let⟨t,rfl⟩:=PX h1;refine⟨.int i t::f,KatTups.cons p m k (by rw[<-U9,hl];rfl) a,by rw[Uc,b,Uc],λv e=>?_⟩
    rcases Vh.mp e with rfl|e
    .exact ⟨i,t,rfl⟩
    .exact c v e
def vH(B:2<=D.length)(u:∀d∈D,IsT prog w s.heap d.1 d.2/\d.1≠[]){Q:SortKind->Shared->Prop}(h:Q (tuples' true) s):wpAny (model prog w) A (keyKind' (refs D).toArray) Q E s:=by
 let⟨fs,a,b,c⟩:=mj u;refine kat_kind (T:=.type "int") a () (λv j=>?_) (by decide) (by rw[show(Value.type "int" != Value.type "tuple")=true by decide];exact h)
 let⟨i,t,rfl⟩:=c v j;exactλA Q E z _ q=>ZP q
def aaH{ZV:SortSt}(R:∀d∈D,IsT prog w s.heap d.1 d.2)(B:SB κ (pairsOf (refs D)) ZV)(G:Up (IA (IB D) (arrOf ZV)) 0 (pairsOf (refs D)).size):
  ∃u:Za,u.Perm D/\BE u/\(arrOf ZV).map (·.2)=(refs u).toArray:=by
 have L:(arrOf ZV).toList.Perm (D.map λd=>((.ref d.2,.ref d.2):Keyed)):=by
  rw[<-fm];exact B.perm.toList
 let⟨u,p,e⟩:=ji L D rfl;have F:∀i (hi:i<u.length),(arrOf ZV)[i]?=some (.ref u[i].2,.ref u[i].2):=λi hi=>by
  rw[<-U9,e,VV,Xn hi];rfl
 refine⟨u,p,?_,?_⟩
 .refine QR.mpr λi j hi z S=>?_
  have Z:(pairsOf (refs D)).size=u.length:=by rw[pairsOf_size];unfold refs;rw[Z1,p.length_eq]
  have:=G i j (P7 _) (Pk S) ()
  unfold IA at this;rw[F i hi,F j z]at this;have this:IB D (.ref u[i].2,.ref u[i].2)<=IB D (.ref u[j].2,.ref u[j].2):=this;rw[rW R (p.mem_iff.mp (QJ z)) (p.mem_iff.mp (QJ hi)) (.ref u[j].2) (.ref u[i].2)];exact Ry (Nat.not_lt.mpr this)
 .apply OS.mp
  rw[Array.toList_map,e,Qz]
  rfl
def uJ{P:PySem.Fin->Shared->Prop}(hu:A.units<cLine)(F:s.heap.get? a=some (seqObj "list" (refs D).toArray n))(hD:∀d∈D,IsT prog w s.heap d.1 d.2/\d.1≠[])(h64:D.length<100000)
  (h:∀u:Za,u.Perm D->BE u->P (.done (.ret .none)) {s with heap:=sortedHeap s.heap a (refs D) (refs u).toArray}) :
  wpAny (model prog w) A (Builtin.«list.sort» ⟨[.ref a],[]⟩) P E s:=by
 rw[list_sort_plain];have ha:a<s.heap.objs.size:=Hu F;have j:(refs D).length=D.length:=by unfold refs;rw[Z1]
 refine ZB (listItems_at F rfl ?_);refine ZB (listUpdate_at F rfl ?_);obtain⟨e1,V0⟩:∃e1,(s.heap.update a (Obj.mapSeq λ_=>#[])).get? a=some (seqObj "list" #[] e1):=⟨_,get?_update_seq F (λ_=>#[])⟩;refine ZB (seqEpoch_at V0 rfl ?_);refine ZB (wpAny_newTuple ?_ (by rw[Qh];show(refs D).toArray.toList.length<=_;rw[List.toList_toArray,j];omega))
 refine ZB (wpAny_newList ?_);refine TU ?_;have L:(((s.heap.update a (Obj.mapSeq λ_=>#[])).push (seqObj "tuple" (refs D).toArray 0)).push (seqObj "list" #[] 0)).get? a=some (seqObj "list" #[] e1):=by
  rw[Heap.get?_push_ne _ _ _ (by rw[size_push',Heap.size_update];exact HA (Px ha)),Heap.get?_push_ne _ _ _ (by rw[Heap.size_update];exact HA ha)]
  exact V0
 show wpAny (model prog w) A _ P E {s with heap:=((s.heap.update a (Obj.mapSeq λ_=>#[])).push (seqObj "tuple" (refs D).toArray 0)).push (seqObj "list" #[] 0)}
 have z:∀d∈D,IsT prog w (((s.heap.update a (Obj.mapSeq λ_=>#[])).push (seqObj "tuple" (refs D).toArray 0)).push (seqObj "list" #[] 0)) d.1 d.2/\d.1≠[]:=λd hd=>by
  refine⟨(hD d hd).1.keep λo e=>?_,(hD d hd).2⟩;have YT:d.2≠a:=λq=>by
   let⟨o',ZU,c,z1,S,z3,z4⟩:=(hD d hd).1;rw[q,F]at z1;cases z1;have S:Value.type "list" = Value.type "tuple":=S;exact absurd S (by decide)
  exact Ht _ (Ht _ ((Uv _ _ (Ne.symm YT)).trans e))
 generalize TX:(((s.heap.update a (Obj.mapSeq λ_=>#[])).push (seqObj "tuple" (refs D).toArray 0)).push (seqObj "list" #[] 0))=R at L z ⊢;have G:∀u:Za,u.Perm D->BE u->P (.done (.ret .none)) {s with heap:=R.update a (Obj.mapSeq λ_=>(refs u).toArray)}:=λu p q=>by
  have:=h u p q;unfold sortedHeap at this;rw[TX]at this;exact this
 dsimp only;have Z:(refs D).toArray.size=D.length:=by rw[WQ,j]
 rw[Z];by_cases B:D.length<2
 .rw [Y2 B,Y2 B]
  refine ZB (ZP ?_);rw[StateT.run_pure];refine ZB (ZP ?_);dsimp only;refine ZB (seqEpoch_at L rfl ?_);refine ZB (listUpdate_at L rfl ?_ (hsz2:=by rw[Array.size_map];show (pairsOf (refs D)).size<=_;rw[pairsOf_size,Qh,j];omega))
  simp![P4,Wi,UP];have e:Array.map (λx=>x.2) ((refs D).toArray.zip (refs D).toArray)=(refs D).toArray:=by
   apply OS.mp;show(Array.map (λx:Keyed=>x.2) (pairsOf (refs D))).toList=_;rw[Array.toList_map,fm,Qz];rfl
  rw[show(arrOf (SortSt.mk' general' ((refs D).toArray.zip (refs D).toArray) #[] 7 none))=(refs D).toArray.zip (refs D).toArray from rfl,e];refine ZP (G D (.refl _) ?_)
  match D,B with
  |[],_=>exact .nil
  |[d],_=>exact NA _ _
  |_::_::_,B=>exact absurd B (by simp![Uc];omega)
 .rw [YH B,YH B]
  refine ZB (vH (s:={s with heap:=R}) () z ?_)
  have XY:∀x∈pairsOf (refs D),∃d∈D,x=(.ref d.2,.ref d.2):=λx hx=>by
   have:x∈(pairsOf (refs D)).toList:=Pc.mpr hx;rw[fm]at this;let⟨d,hd,e⟩:=Ud.mp this;exact⟨d,hd,e.symm⟩
  have hz:(pairsOf (refs D)).size=D.length:=by rw[pairsOf_size,j]
  refine ZB (Qg (xj (s:={ s with heap:=R }) (ZN := pairsOf (refs D)) (st:=SortSt.mk' (tuples' true) ((refs D).toArray.zip (refs D).toArray) #[] 7 none) (Q:=λ_ ZV=>SB (tuples' true) (pairsOf (refs D)) ZV/\Up (IA (IB D) (arrOf ZV)) 0 (pairsOf (refs D)).size)
   (acm hu (λd hd=>(z d hd).1) XY) ⟨Array.Perm.refl _,rfl,rfl⟩ rfl λZV a b=>⟨a,b⟩) ?_ λ_ _ e=>e)
  rintro⟨⟨⟩,ZV⟩ s' ⟨rfl,hB,YS⟩;let⟨u,p,q,e⟩:=aaH (s:={s with heap:=R}) (λd hd=>(z d hd).1) hB YS
  dsimp only;rw[e];refine ZB (seqEpoch_at L rfl ?_);refine ZB (listUpdate_at L rfl ?_ (hsz2:=by show(refs u).toArray.size<=_;unfold refs;rw[WQ,Z1,p.length_eq,Qh];omega))
  rw[hB.failed];simp![P4,Wi,UP];exact ZP (G u p q)
end
section
variable{E:Value->Shared->Prop}{D:Za}
def wR{r:Addr}{Q:Bool->Shared->Prop}(z:s.TypeIs (.ref r) "set")(h:Q false s):wpAny (model prog w) A (Builtin.List.listLengthHint (.ref r)) Q E s:=by
 unfold Builtin.List.listLengthHint;refine ZB (NU z PySem.F.slot_set_len.lookup ?_);generalize j:("set.__len__" : String)=u
 wp_delta
 rw[show splitId u=some ("set","__len__")from by subst j;decide +kernel]
 subst j;refine ZB (Nz (T:="set") (b:=true) z (by rw[N1];kernel_rfl) ?_)
 refine wpAny_ite_split (λB=>absurd B (by decide)) (λ_=>?_)
 refine wpAny_ite_split (λ_=>?_) (λB=>absurd (by decide +kernel) B)
 refine ZB (NI z ?_);exact ZP h
def uL{it Z6:Addr}{Q:Value->Shared->Prop}(j:SIt s.heap it Z6 slot i n ep)(h:Q (.ref it) s):wpAny (model prog w) A (pyIter (.ref it)) Q E s:=by
 refine Nr j.typeIs i5 (QG (b:=Builtin.«dict_keyiterator.__iter__») i5 j.typeIs (entryFor_alias (id':="dict_keyiterator.__iter__") (by kernel_rfl) rfl (by decide +kernel) (by kernel_rfl)) ?_ (by unfold argsOk;kernel_rfl))
 show wpAny _ _ (ret (.ref it)) _ _ s;exact ZP ⟨_,rfl,"set_iterator",_,j.typeIs,bK.lookup,h⟩
def vZ{o:Obj}{es:Array (Int×Value)}{t:SetTable}{Z:Z3}(G:A.handled=none){Z6 it:Addr}(YT:Z6≠it)(P:Yw prog w o D es ep t Z):
  Walks prog w A it [it,Z6] [it] es.size (λi v=>∃e,(Iz w Z6 ep es)[i]?=some e/\v=e.2) (λi h=>∃j,SIt h it Z6 j i es.size ep/\SAt w t j i/\h.get? Z6=some o) where
 sub:=λb hb=>by simp at hb;simp[hb]
 frame:=λi h B ⟨j,⟨io,e1,S,R⟩,a,b⟩ hk=>⟨j,⟨io,hk it (by simp) io e1,S,R⟩,a,hk Z6 (by simp) o b⟩
 item:=λi s Q E hi ⟨j,a,b,c⟩ z=>by
  have u:(Iz w Z6 ep es).length=es.size:=by rw[(fT w Z6 ep es).length_eq,X6]
  have F:(Iz w Z6 ep es)[i]?=some (Iz w Z6 ep es)[i]:=Xn ()
  refine w8 a c P b F λB WB a' b' sb=>?_;exact z _ B s.toks ⟨_,F,rfl⟩ ⟨WB,a',b',(sb.2 Z6 YT).trans c⟩ λb o hb e=>(sb.2 b λq=>hb (by simp[q])).trans e
 done:=λs Q E ⟨j,a,b,c⟩ z=>by
  have u:(Iz w Z6 ep es).length=es.size:=by rw[(fT w Z6 ep es).length_eq,X6]
  refine xx G a c P b (Pm ()) λB L=>z B s.toks λb o hb e=>L b o (λq=>hb (by simp[q])) e
 self:=λi s Q E ⟨j,a,_,_⟩ z=>uL a z
def yZ{o:Obj}{es:Array (Int×Value)}{t:SetTable}{Z:Z3}(P:Yw prog w o D es ep t Z)(Z6:Addr):
  KdlSrc prog w "set" Z6 Z6 es.size (λi v=>∃e,(Iz w Z6 ep es)[i]?=some e/\v=e.2) (λh=>h.get? Z6=some o) where
 type:=λ_ j=>⟨o,j,P.ex.1⟩
 there:=λ_ j=>⟨Hu j,Hu j⟩
 keep:=λ_ _ j hk=>hk Z6 (.inl rfl) o j
 notList:=by decide
 notTuple:=by decide
 hint:=λ_ _ _ _ j u=>wR ⟨o,j,P.ex.1⟩ u
 iter:=λ_ s z j=>⟨_,_,(λ_ _ u=>wQ j P u),vZ z (HA (Hu j)) P,⟨0,⟨_,HB _ rfl,rfl,rfl⟩,λ_=>uG P.tb,Ht _ j⟩⟩
def sortedHeap_at{xs out:Array Value}{vs:List Value}(j:h.get? a=some (seqObj "list" xs n)):∃c,(sortedHeap h a vs out).get? a=some (seqObj "list" out c):=by
 have ha:a<h.objs.size:=Hu j;obtain⟨u,z⟩:∃u,(h.update a (Obj.mapSeq λ_=>#[])).get? a=some (seqObj "list" #[] u):=⟨_,get?_update_seq j (λ_=>#[])⟩;unfold sortedHeap;exact⟨_,get?_update_seq (Ht _ (Ht _ z)) _⟩
def sortedHeap_old{o:Obj}{out:Array Value}{vs:List Value}(c:b≠a)(e:h.get? b=some o):(sortedHeap h a vs out).get? b=some o:=by
 unfold sortedHeap;refine(Uv _ _ (Ne.symm c)).trans ?_;exact Ht _ (Ht _ ((Uv _ _ (Ne.symm c)).trans e))
def iB{T:String}{r d:Addr}{P:Nat->Value->Prop}{OK:Heap->Prop}{Q:Value->Shared->Prop}(K:KdlSrc prog w T r d n P OK)(hh:A.handled=none)(hu:A.units+2<cLine)(ZK:OK s.heap)(hn:n<100000)
  (hD:∀ vs:List Value,vs.length=n->(∀ (j:Nat) (v:Value),vs[j]? = some v->P j v) -> ∃ D:Za,vs=refs D/\(∀ d∈D,IsT prog w s.heap d.1 d.2/\d.1≠[]) /\
   ∀(z h':Heap) (tk c:Nat) (u:Za),u.Perm D->BE u->(∀b o,s.heap.get? b=some o->z.get? b=some o)->(∀b o,z.get? b=some o->h'.get? b=some o)->h'.get? z.objs.size=some (seqObj "list" (refs u).toArray c)->Q (.ref z.objs.size) {s with heap:=h',toks:=tk}) :
  wpAny (model prog w) A (call (.builtin "sorted") [.ref r]) Q E s:=by
 refine Calls.call_function_entry kind_sorted plain_sorted entry_sorted (args_sorted1 _) ?_;unfold Builtin.«sorted»;refine ZB (m:=checkCount "sorted" 1 1 _) (ZP ?_);refine ZB (kdu_collect (A:=A.in1) K hh ZK (by rw[Qh];omega) λh' tk S hk Z=>?_)
 have B:S.toList.length=n:=by rw[X6];exact Z.1
 let⟨D,e,L,F⟩:=hD S.toList B (λj v e=>Z.2 j v (by rw[<-U9];exact e))
 have hlD:D.length=n:=by rw[<-B,e];unfold refs;rw[Z1]
 refine ZB (wpAny_newList ?_ (by rw[B,Qh];omega))
 rw[e];have G:(h'.push (seqObj "list" (refs D).toArray 0)).get? h'.objs.size=some (seqObj "list" (refs D).toArray 0):=HB _ rfl;have Xf:∀d∈D,IsT prog w (h'.push (seqObj "list" (refs D).toArray 0)) d.1 d.2/\d.1≠[]:=λd hd=>⟨(L d hd).1.keep λo q=>Ht _ (hk _ _ q),(L d hd).2⟩;show wpAny _ _ _ _ _ {s with heap:=h'.push (seqObj "list" (refs D).toArray 0),toks:=tk}
 refine ZB (TU (QG slot_list_sort ⟨_,G,rfl⟩ entry_list_sort (uJ (s:={s with heap:=h'.push (seqObj "list" (refs D).toArray 0),toks:=tk}) hu G Xf () λu p q=>⟨_,rfl,?_⟩) (args_list_sort _)))
 let⟨c,hc⟩:=sortedHeap_at (vs:=refs D) (out:=(refs u).toArray) G;refine ZP ⟨_,rfl,F h' _ tk c u p q hk (λb o R=>?_) hc⟩;exact sortedHeap_old (HA (Hu R)) (Ht _ R)
end
open PySem
noncomputable section
set_option genInjectivity false in
inductive Z9 where
 |Z5 (xs:List U)|ZF (Z4:List (List Int×U))|YG (Z4:List (List Int×U))|dst (Z4:List (Str×U))|ins (c:Nat) (fs:List (Nat×U))
abbrev G:=List Z9
abbrev Su:=List (Option U)
inductive Out(α:Type) where
 |ok (a:α) (g:G)|exc (c:Nat) (fs:List U) (g:G)|ZX
noncomputable def Out.bind{d b:Type}(o:Out d)(k:d->G->Out b):Out b:=match o with
 |.ok a g=>k a g
 |.exc c fs g=>.exc c fs g
 |.ZX=>.ZX
noncomputable def Out.Zd{b:Type}(o:Out b):Out b:=match o with
 |.ok a g=>.ok a g
 |_=>.ZX
noncomputable def Out.bindB{c b:Type}(o:Out c)(k:c->G->Out b):Out b:=match o with
 |.ok a g=>k a g
 |_=>.ZX
set_option genInjectivity false in
inductive Fl where|nx (O:Su)|rt (u:U)|bk (O:Su)|ct (O:Su)
set_option genInjectivity false in
inductive Iter where|Z5 (id:Nat)|W9 (id:Nat)|zip (id id':Nat)|seq (xs:List U)|YY (lo:Int) (n:Nat)
def Ak(x y:U):Option Bool:=match x with
 |.ZJ=>match y with
  |.ZJ=>some true
  |.bl _=>some false
  |.int _=>some false
  |.str _=>some false
  |_=>none
 |.bl a=>match y with
  |.ZJ=>some false
  |.bl b=>some (a==b)
  |.int b=>some ((if a then 1 else 0)==b)
  |.str _=>some false
  |_=>none
 |.int a=>match y with
  |.ZJ=>some false
  |.bl b=>some (a==(if b then 1 else 0))
  |.int b=>some (a==b)
  |.str _=>some false
  |_=>none
 |.str a=>match y with
  |.ZJ=>some false
  |.bl _=>some false
  |.int _=>some false
  |.str b=>some (a==b)
  |_=>none
 |_=>none
def Ap:List U->List U->Option Bool
 |[],[]=>some true
 |x::xs,y::ys=>match Ak x y with
  |none=>none
  |some b=>match Ap xs ys with
   |none=>none
   |some c=>some (b&&c)
 |_,_=>none
def IF:U->U->Option Bool
 |.ZY xs,.ZY ys=>Ap xs ys
 |x,y=>Ak x y
def B6:U->U->Bool
 |.int _,.int _=>true
 |.bl _,.bl _=>true
 |.str _,.str _=>true
 |.ZJ,.ZJ=>true
 |_,_=>false
def Bz:Int:=18446744073709551616
def An:Int:=115792089237316195423570985008687907853269984665640564039457584007913129639936
def IG(op:Op)(i j:Int):Option U:=match op with
 |.add=>some (.int (i+j))
 |.sub=>some (.int (i-j))
 |.mul=>if(decide (-Bz<i)&&decide (i<Bz))||(decide (-Bz<j)&&decide (j<Bz))||(decide (-An<i)&&decide (i<An)&&decide (-An<j)&&decide (j<An))then some (.int (i*j))else none
 |.fdiv=>if 0<j then(if j<An then some (.int (i / j))else none)
   else if j=0 then none else if -An<j then some (.int (i.fdiv j))else none
 |.mod=>if 0<j then some (.int (i % j))else if j=0 then none else some (.int (i.fmod j))
 |.pow=>if 0<=j/\j<=1000/\i.natAbs<1000000 then some (.int (i ^ j.toNat))else none
def IH(op:Op)(x y:U):Option U:=match x with
 |.int i=>match y with
  |.int j=>IG op i j
  |_=>none
 |_=>none
def DU:Op->U->U->Option U
 |.add,.int a,.int b=>some (.int (a+b))
 |.sub,.int a,.int b=>some (.int (a-b))
 |_,_,_=>none
def II(x:U):List U->Option Bool
 |[]=>some false
 |y::ys=>match IF y x with
  |none=>none
  |some b=>match II x ys with
   |none=>none
   |some c=>some (b||c)
noncomputable def items(u:U)(g:G):Option (List U):=match u with
 |.ZY xs=>some xs
 |.Zy xs=>some xs
 |.xn _ xs=>some xs
 |.ref n=>match g[n]? with
  |some (.Z5 xs)=>some xs
  |_=>none
 |_=>none
def AV:U->Bool
 |.ZJ=>true
 |_=>false
def intsOf:List U->Option (List Int)
 |[]=>some []
 |.int i::r=>(intsOf r).map (i :: ·)
 |_::_=>none
def keyOf(u:U):Option (List Int):=match u with
 |.ZY S=>intsOf S
 |_=>none
def AN(b:List (List Int×U))(k:List Int):Option U:=(b.find? λa=>decide (a.1=k)).map (·.2)
def dput(b:List (List Int×U))(k:List Int)(v:U):List (List Int×U):=
 if(b.any λa=>decide (a.1=k))=true then b.map (λa=>if a.1=k then(a.1,v)else a)else b++[(k,v)]
def B9(b:List (List Int×U))(x:U):Option (List (List Int×U)):=match x with
 |.ZY [k,u]=>(keyOf k).map λa=>dput b a u
 |_=>none
def dfold:List U->List (List Int×U)->Option (List (List Int×U))
 |[],Z4=>some Z4
 |x::r,Z4=>(B9 Z4 x).bind λk=>dfold r k
def BF(b:List (Str×U))(k:Str):Option U:=(b.find? λa=>decide (a.1=k)).map (·.2)
def DW(b:List (Str×U))(k:Str)(v:U):List (Str×U):=
 if(b.any λa=>decide (a.1=k))=true then b.map (λa=>if a.1=k then(a.1,v)else a)else b++[(k,v)]
def IJ(y:U)(g:G):Option (List (Str×U)):=match y with
 |.ref n=>match g[n]? with
  |some (.dst Z4)=>some Z4
  |_=>none
 |_=>none
noncomputable def Ye(y:U)(g:G):Option (List (List Int×U)):=match y with
 |.ref n=>match g[n]? with
  |some (.ZF Z4)=>some Z4
  |some (.YG Z4)=>some Z4
  |_=>none
 |_=>none
def AK(x y:U)(g:G):Option (Option U):=match Ye y g with
 |some Z4=>(keyOf x).map (AN Z4)
 |none=>none
def AX(x y:U)(g:G):Option (List U×List U):=match x with
 |.ref n=>match y with
  |.ref m=>match g[n]? with
   |some (.Z5 xs)=>match g[m]? with
    |some (.Z5 ys)=>some (xs,ys)
    |_=>none
   |_=>none
  |_=>none
 |_=>none
def IK(q:U->U->Option Bool):List U->List U->Option Bool
 |[],[]=>some true
 |x::xs,y::ys=>match q x y with
  |none=>none
  |some b=>match IK q xs ys with
   |none=>none
   |some c=>some (b&&c)
 |_,_=>none
def Cd:U->U->Option Bool
 |.ZY xs,.ZY ys=>IK IF xs ys
 |x,y=>Ak x y
def IL(xs a:List U):Option Bool:=if xs.length=a.length then IK Cd xs a else some false
def He(u:U):Option Int:=match u with
 |.int i=>some i
 |_=>none
def ES:List U->Option (List Int)
 |[]=>some []
 |u::r=>(He u).bind λi=>(ES r).map (i :: ·)
def GI(u:U)(g:G):Option (List Int):=match u with
 |.ref n=>match g[n]? with
  |some (.Z5 S)=>ES S
  |_=>none
 |_=>none
def EX(g:G):List U->Option (List (List Int))
 |[]=>some []
 |u::r=>(GI u g).bind λi=>(EX g r).map (i :: ·)
def EJ(u:U)(g:G):Option (List (List Int)):=match u with
 |.ref n=>match g[n]? with
  |some (.Z5 S)=>EX g S
  |_=>none
 |_=>none
def neT(x y:U):Option Bool:=match x with
 |.ZY xs=>match y with
  |.ZY ys=>(IK IF xs ys).map (!·)
  |_=>none
 |_=>none
def IM(op:Cp)(x y:U)(g:G):Option Bool:=match op with
 |.eq=>match AX x y g with
  |some p=>IL p.1 p.2
  |none=>IF x y
 |.ne=>if B6 x y then(Ak x y).map (!·)else neT x y
 |.lt=>match x,y with|.int i,.int j=>some (decide (i<j))|_,_=>none
 |.le=>match x,y with|.int i,.int j=>some (decide (i<=j))|_,_=>none
 |.gt=>match x,y with|.int i,.int j=>some (decide (j<i))|_,_=>none
 |.ge=>match x,y with|.int i,.int j=>some (decide (j<=i))|_,_=>none
 |.U8=>if AV y then some (AV x)else none
 |.Tf=>if AV y then some (!AV x)else none
 |.WO=>match items y g with|some ys=>II x ys|none=>(AK x y g).map Option.isSome
 |.YB=>match items y g with|some ys=>(II x ys).map (!·)|none=>(AK x y g).map λo=>!o.isSome
def IP(u:U)(g:G):Option Bool:=match u with
 |.ZJ=>some false
 |.bl b=>some b
 |.int i=>some (i != 0)
 |.ZY xs=>some (!xs.isEmpty)
 |.Zy xs=>some (!xs.isEmpty)
 |.ref n=>match g[n]? with
  |some (.Z5 xs)=>some (!xs.isEmpty)
  |_=>none
 |_=>none
def IQ(xs:List U)(i:Int):Option U:=L2.atI xs i
noncomputable def lift{b:Type}(o:Option b)(g:G):Out b:=match o with
 |some a=>.ok a g
 |none=>.ZX
noncomputable def alloc(o:Z9)(g:G):Out U:=.ok (.ref g.length) (g++[o])
def Ab:Nat:=16777000
def A3(op:Op)(x y:U)(g:G):Out U:=match AX x y g with
 |some p=>match op with
  |.add=>if p.1.length+p.2.length<=Ab then alloc (.Z5 (p.1++p.2)) g else .ZX
  |_=>.ZX
 |none=>lift (IH op x y) g
def BM(x:U)(g:G):Option (Nat×List (Nat×U)):=match x with
 |.ref n=>match g[n]? with
  |some (.ins c fs)=>some (c,fs)
  |_=>none
 |_=>none
def CY(j:Nat)(u:U):List (Nat×U)->List (Nat×U)
 |[]=>[(j,u)]
 |(i,x)::r=>if i=j then(i,u)::r else(i,x)::CY j u r
def Dr(j:Nat)(a:List Nat)(p:Nat×List (Nat×U)):Option U:=if a.contains p.1 then p.2.lookup j else none
def C9(x:U)(j:Nat)(a:List Nat)(u:U)(g:G):Option G:=match x with
 |.ref n=>match g[n]? with
  |some (.ins c fs)=>if a.contains c/\fs.length<1000 then some (g.set n (.ins c (CY j u fs)))else none
  |_=>none
 |_=>none
def Dg(j:Nat)(tb:List (Nat×Nat×List (Nat ⊕ U)))(p:Nat×List (Nat×U)):Option (Nat×List (Nat ⊕ U)):=match p.2.lookup j with
 |none=>tb.lookup p.1
 |some _=>none
def B5(t:Ty):Option Bool:=match t with|.U5=>some true|_=>some false
def Aw(t:Ty)(u:U)(g:G):Option Bool:=match u with
 |.ZJ=>some false
 |.bl _=>match t with|.U7=>some true|.U6=>some true|.own _=>none|_=>some false
 |.int _=>match t with|.U7=>some true|.own _=>none|_=>some false
 |.str _=>match t with|.Ut=>some true|.own _=>none|_=>some false
 |.ZY _=>match t with|.Us=>some true|.own _=>none|_=>some false
 |.ref n=>match g[n]? with
  |some (.Z5 _)=>B5 t
  |some (.ins c _)=>match t with|.own c'=>if c=c' then some true else none|_=>none
  |_=>none
 |_=>none
def A0(xs:List U)(lo hi:Option Int):List U:=(xs.drop (HT.sIx xs.length 0 lo)).take (HT.sIx xs.length xs.length hi-HT.sIx xs.length 0 lo)
def best(m:Bool)(a:Int)(r:List Int):Int:=r.foldl (λx y=>if m then(if y<x then y else x)else(if y > x then y else x)) a
def insI(a:Int):List Int->List Int
 |[]=>[a]
 |b::r=>if a<=b then a::b::r else b::insI a r
def sortI:List Int->List Int
 |[]=>[]
 |a::r=>insI a (sortI r)
def CF(S:List U)(g:G):Out U:=match S with
 |[u]=>match items u g with
  |some xs=>.ok (.int xs.length) g
  |none=>.ZX
 |_=>.ZX
def Dp(S:List U)(g:G):Out U:=match S with
 |[u]=>match u with
  |.int i=>.ok (.int (if i<0 then -i else i)) g
  |_=>.ZX
 |_=>.ZX
def tupI(k:List Int):U:=.ZY (k.map .int)
def Bw(S:List U)(g:G):Out U:=match S with
 |[u]=>match items u g with
  |some xs=>alloc (.Z5 xs) g
  |none=>match Ye u g with
   |some Z4=>alloc (.Z5 (Z4.map λa=>tupI a.1)) g
   |none=>.ZX
 |_=>.ZX
def A4(S:List U)(g:G):Option (List Int):=match S with
 |[.ref n]=>match g[n]? with
  |some (.Z5 xs)=>intsOf xs
  |_=>none
 |_=>none
def Fq(m:Bool)(S:List U)(g:G):Out U:=match intsOf S with
 |some ns=>match ns with
  |[a,b]=>.ok (.int (best m a [b])) g
  |[a,b,c]=>.ok (.int (best m a [b,c])) g
  |_=>.ZX
 |none=>match A4 S g with
  |some ns=>match ns with
   |a::r=>.ok (.int (best m a r)) g
   |[]=>.ZX
  |none=>.ZX
def GQ(S:List U)(g:G):Out U:=match A4 S g with
 |some ns=>.ok (.int ns.sum) g
 |none=>.ZX
def GH(S:List U)(g:G):Out U:=match S with
 |[u]=>match u with
  |.ZY xs=>.ok (.ZY xs) g
  |.xn c xs=>.ok (.xn c xs) g
  |.ref n=>match g[n]? with
   |some (.Z5 xs)=>.ok (.ZY xs) g
   |_=>.ZX
  |_=>.ZX
 |_=>.ZX
def E1(g:G):List U->Option (List U)
 |[]=>some []
 |.ref n::r=>match g[n]? with
  |some (.Z5 xs)=>(E1 g r).map (xs ++ ·)
  |_=>none
 |_::_=>none
def GN(S:List U)(g:G):Out U:=match S with
 |[.ref n,.ref m]=>match g[n]? with
  |some (.Z5 (x::xs))=>match g[m]? with
   |some (.Z5 [])=>match E1 g (x::xs)with
    |some zs=>if zs.length<=Ab then alloc (.Z5 zs) g else .ZX
    |none=>.ZX
   |_=>.ZX
  |_=>.ZX
 |_=>.ZX
def Bp:List U->Option (List (List Int))
 |[]=>some []
 |u::r=>match keyOf u with
  |none=>none
  |some k=>match Bp r with
   |none=>none
   |some ks=>some (k::ks)
def AL(a:List Int):List (List Int)->List (List Int)
 |[]=>[a]
 |b::r=>if a=b then b::r else if Ah a b=true then a::b::r else b::AL a r
def IS:List (List Int)->List (List Int)
 |[]=>[]
 |a::r=>AL a (IS r)
def IT(k:List Int):Int:=reduceHash (Builtin.Tuple.tupleHashOf (k.map hashInt))
def IU(ks:List (List Int)):Prop:=ks.length<=300/\(∀k∈ks,k≠[]) /\∀a∈ks,∀b∈ks,IT a=IT b->a=b
def B3(S:List U)(g:G):Out U:=match S with
 |[.ref n]=>match g[n]? with
  |some (.Z5 xs)=>match Bp xs with
   |some ks=>open Classical in if IU ks then alloc (.Z5 ((IS ks).map tupI)) g else .ZX
   |none=>.ZX
  |_=>.ZX
 |_=>.ZX
def De(S:List U)(g:G):Out U:=match S with
 |[u]=>match Ye u g with
  |some Z4=>open Classical in if Z4.length<100000/\(Z4.map (·.1)).Nodup /\∀k∈Z4.map (·.1),k≠[]then alloc (.Z5 ((IS (Z4.map (·.1))).map tupI)) g else .ZX
  |none=>.ZX
 |_=>.ZX
def Cz(S:List U)(g:G):Out U:=match A4 S g with
 |some ns=>if ns.length<64 then alloc (.Z5 ((sortI ns).map U.int)) g else .ZX
 |none=>De S g
def GB(S:List U)(g:G):Out U:=match S with
 |[u]=>match Ye u g with
  |some Z4=>open Classical in if Z4≠[] /\∀a∈Z4.map (·.1),∀b∈Z4.map (·.1),IT a=IT b->a=b then alloc (.ZF Z4) g else .ZX
  |none=>.ZX
 |_=>.ZX
def BS(d:List (List Int)):PySem.PyData:=.list (d.map λr=>.list (r.map .int))
def GW(S:List U)(g:G):Out U:=match S with
 |[u]=>match EJ u g with
  |some d=>open Classical in if(BS d).showable=true/\(BS d).shown.length<=PySem.sizeLine then .ok (.str (BS d).shown) g else .ZX
  |none=>.ZX
 |_=>.ZX
def GJ(S:List U)(g:G):Out U:=match S with
 |[u]=>match u with
  |.bl b=>.ok (.int (if b then 1 else 0)) g
  |_=>.ZX
 |_=>.ZX
def IV(b:Bi)(S:List U)(g:G):Out U:=match b with
 |.len=>CF S g
 |.abs=>Dp S g
 |.list=>Bw S g
 |.mn=>Fq true S g
 |.mx=>Fq false S g
 |.VN=>Cz S g
 |.sum=>GQ S g
 |.tupl=>GH S g
 |.cat=>GN S g
 |.sset=>B3 S g
 |.dct=>GB S g
 |.rpr=>GW S g
 |.int=>GJ S g
def IW(x:U)(g:G):Option Nat:=match x with
 |.ref n=>match g[n]? with
  |some (.Z5 _)=>some n
  |_=>none
 |_=>none
def Bj(n:Nat)(y:U)(g:G):Out U:=match g[n]? with
 |some (.Z5 xs)=>if xs.length<Ab then .ok .ZJ (g.set n (.Z5 (xs++[y])))else .ZX
 |_=>.ZX
def BB(n:Nat)(y:U)(g:G):Out U:=match IW y g with
 |some m=>match g[n]?,g[m]? with
  |some (.Z5 xs),some (.Z5 ys)=>if xs.length+ys.length<Ab then .ok .ZJ (g.set n (.Z5 (xs++ys)))else .ZX
  |_,_=>.ZX
 |none=>.ZX
def Dw(c:Bool)(n:Nat)(g:G):Out U:=match g[n]? with
 |some (.Z5 xs)=>.ok .ZJ (g.set n (.Z5 (match c with|true=>[]|false=>xs.reverse)))
 |_=>.ZX
def Bo(n:Nat)(g:G):Out U:=match g[n]? with
 |some (.Z5 xs)=>match xs[xs.length-1]? with
  |some y=>.ok y (g.set n (.Z5 xs.dropLast))
  |none=>.ZX
 |_=>.ZX
def Gn(n:Nat)(y:U)(g:G):Out U:=match y with
 |.int i=>match g[n]? with
  |some (.Z5 xs)=>if 0<=i/\i<9223372036854775808 then match xs[i.toNat]? with
   |some u=>.ok u (g.set n (.Z5 (xs.eraseIdx i.toNat)))
   |none=>.ZX
   else .ZX
  |_=>.ZX
 |_=>.ZX
def IX(f:E->Su->G->Out U):List E->Su->G->Out (List U)
 |[],_,g=>.ok [] g
 |e::es,O,g=>(f e O g).bind λu g=>(IX f es O g).bind λS g=>.ok (u::S) g
def IY(f:E->Su->G->Out U):Option E->Su->G->Out (Option Int)
 |none,_,g=>.ok none g
 |some e,O,g=>(f e O g).bind λu g=>match u with
  |.int i=>.ok (some i) g
  |_=>.ZX
def next(it:Iter)(i:Nat)(g:G):Option (Option U):=match it with
 |.Z5 id=>match g[id]? with
  |some (.Z5 xs)=>some xs[i]?
  |_=>none
 |.W9 id=>match g[id]? with
  |some (.Z5 xs)=>some ((xs[i]?).map λu=>.ZY [.int i,u])
  |_=>none
 |.zip id id'=>match g[id]? with
  |some (.Z5 xs)=>match g[id']? with
   |some (.Z5 ys)=>some ((xs[i]?).bind λu=>(ys[i]?).map λw=>.ZY [u,w])
   |_=>none
  |_=>none
 |.seq xs=>some xs[i]?
 |.YY lo n=>some (if i<n then some (.int (lo+i))else none)
def bindL:List Nat->List U->Su->Option Su
 |[],[],O=>some O
 |i::is,u::S,O=>if i<O.length then bindL is S (O.set i (some u))else none
 |_,_,_=>none
def AS(t:Tg)(O:Su):Bool:=match t with
 |.nm i=>match O[i]? with|some none=>true|_=>false
 |.tp is=>is.all λi=>match O[i]? with|some none=>true|_=>false
def Ae(t:Tg)(u:U)(O:Su):Option Su:=match t with
 |.nm i=>if i<O.length then some (O.set i (some u))else none
 |.tp is=>match u with
  |.ZY S=>bindL is S O
  |_=>none
def IZ(t:Tg)(u:U)(g:G):U:=match t with
 |.nm _=>u
 |.tp _=>match u with
  |.ref n=>match g[n]? with
   |some (.Z5 xs)=>.ZY xs
   |_=>u
  |_=>u
def pick(S:List U)(p:Nat ⊕ U):U:=match p with
 |.inl i=>S[i]?.getD .ZJ
 |.inr u=>u
def perm(S:List U)(a:List (Nat ⊕ U)):List U:=a.map (pick S)
set_option genInjectivity false in
structure Z7 where
 ev:E->Su->G->Out U
 ts:E->Su->G->Out Bool
 ex:List Z6->Su->G->Out Fl
 wh:E->List Z6->Su->G->Out Fl
 fr:Tg->Iter->Nat->List Z6->Su->G->Out Fl
 cm:Iter->Nat->Tg->List E->List (Tg×E×List E)->E->List U->Su->G->Out (List U)
def I8(r:Z7)(e:E)(O:Su)(g:G):Out Iter:=match e with
 |.Xy a=>(r.ev a O g).bind λu g=>match u with
  |.int j=>if -1000000<j/\j<1000000 then .ok (.YY 0 j.toNat) g else .ZX
  |_=>.ZX
 |.WN a b=>(r.ev a O g).bind λu g=>(r.ev b O g).bind λw g=>match u,w with
  |.int i,.int j=>if -1000000<i/\i<1000000 /\ -1000000<j/\j<1000000 then .ok (.YY i (j-i).toNat) g else .ZX
  |_,_=>.ZX
 |.W9 a=>(r.ev a O g).bind λu g=>match IW u g with
  |some n=>.ok (.W9 n) g
  |none=>.ZX
 |.zip a b=>(r.ev a O g).bind λu g=>(r.ev b O g).bind λw g=>match IW u g with
  |some n=>match IW w g with
   |some m=>.ok (.zip n m) g
   |none=>.ZX
  |none=>.ZX
 |e=>(r.ev e O g).bind λu g=>match u with
  |.ZY xs=>.ok (.seq xs) g
  |.xn _ xs=>.ok (.seq xs) g
  |.ref n=>match g[n]? with
   |some (.Z5 _)=>.ok (.Z5 n) g
   |_=>.ZX
  |_=>.ZX
def Hi(c:Nat)(y:U)(g:G):Bool:=match y with
 |.ZJ=>true
 |.ref m=>match g[m]? with
  |some (.Z5 _)=>true
  |some (.ins c' _)=>c'==c
  |_=>false
 |_=>false
def DD(u:U):Option Bool:=match u with
 |.bl c=>some c
 |_=>none
def BR(tb:List (Nat×Nat×List (Nat ⊕ U)))(x y:U)(g:G):Option (Nat×List (Nat ⊕ U)):=(BM x g).bind λp=>if Hi p.1 y g then tb.lookup p.1 else none
def FE(y:U)(g:G):Option U:=match y with
 |.ref n=>match g[n]? with
  |some (.Z5 xs)=>match xs with
   |[w]=>some w
   |_=>none
  |_=>none
 |_=>none
def GO(x y:U):Bool:=match x with
 |.ref n=>match y with
  |.ref m=>n==m
  |_=>true
 |_=>true
def BK(C:Nat->List U->G->Out U)(op:Cp)(tb:List (Nat×Nat×List (Nat ⊕ U)))(x y:U)(g:G):Out U:=match op with
 |.eq=>match BR tb x y g with
  |some p=>(C p.1 (perm [x,y] p.2) g).bind λu g=>lift ((DD u).map .bl) g
  |none=>.ZX
 |.ne=>match BR tb x y g with
  |some p=>(C p.1 (perm [x,y] p.2) g).bind λu g=>lift ((DD u).map λc=>.bl (!c)) g
  |none=>.ZX
 |.WO=>match FE y g with
  |some w=>if(BM x g).isSome&&!GO w x then match BR tb w x g with
   |some p=>(C p.1 (perm [w,x] p.2) g).bind λu g=>match DD u with
    |some true=>.ok (.bl true) g
    |_=>.ZX
   |none=>.ZX
   else .ZX
  |none=>.ZX
 |_=>.ZX
def I9(C:Nat->List U->G->Out U)(r:Z7)(e:E)(O:Su)(g:G):Out U:=match e with
 |.L i=>match O[i]? with
  |some (some u)=>.ok u g
  |_=>.ZX
 |.ZW u=>.ok u g
 |.ZR op a b=>(r.ev a O g).bind λx g=>(r.ev b O g).bind λy g=>A3 op x y g
 |.cmp op a b=>(r.ev a O g).bind λx g=>(r.ev b O g).bind λy g=>match IM op x y g with
  |some c=>.ok (.bl c) g
  |none=>.ZX
 |.chain op F a b c=>(r.ev a O g).bind λx g=>(r.ev b O g).bind λy g=>match IM op x y g with
  |some true=>(r.ev c O g).bind λz g=>match IM F y z g with
   |some c=>.ok (.bl c) g
   |none=>.ZX
  |some false=>.ok (.bl false) g
  |none=>.ZX
 |.and a b=>(r.ev a O g).bind λx g=>match x with
  |.bl true=>r.ev b O g
  |.bl false=>.ok (.bl false) g
  |_=>.ZX
 |.or a b=>(r.ev a O g).bind λx g=>match x with
  |.bl true=>.ok (.bl true) g
  |.bl false=>r.ev b O g
  |_=>.ZX
 |.not a=>(r.ev a O g).bind λx g=>match IP x g with
  |some c=>.ok (.bl (!c)) g
  |none=>.ZX
 |.neg a=>(r.ev a O g).bind λx g=>match x with
  |.int i=>.ok (.int (-i)) g
  |_=>.ZX
 |.ite c a b=>(r.ts c O g).bind λk g=>if k then r.ev a O g else r.ev b O g
 |.ZY es=>(IX r.ev es O g).bind λS g=>if S.length<=Ab then .ok (.ZY S) g else .ZX
 |.Z5 es=>(IX r.ev es O g).bind λS g=>if S.length<=Ab then alloc (.Z5 S) g else .ZX
 |.idx a b=>(r.ev a O g).bind λx g=>(r.ev b O g).bind λy g=>match y with
  |.int i=>match items x g with
   |some xs=>lift (IQ xs i) g
   |none=>.ZX
  |.ZY _=>lift ((AK y x g).bind id) g
  |.str k=>lift ((IJ x g).bind λZ4=>BF Z4 k) g
  |_=>.ZX
 |.W_ a lo hi=>(r.ev a O g).bind λx g=>(IY r.ev lo O g).bind λl g=>(IY r.ev hi O g).bind λh g=>match x with
  |.ZY xs=>if HT.sIx xs.length 0 l=0/\HT.sIx xs.length xs.length h=xs.length then .ZX else .ok (.ZY (A0 xs l h)) g
  |.Zy xs=>alloc (.Z5 (A0 xs l h)) g
  |.ref n=>match g[n]? with
   |some (.Z5 xs)=>alloc (.Z5 (A0 xs l h)) g
   |_=>.ZX
  |_=>.ZX
 |.rev a=>(r.ev a O g).bind λx g=>match x with
  |.ref n=>match g[n]? with
   |some (.Z5 xs)=>alloc (.Z5 xs.reverse) g
   |_=>.ZX
  |_=>.ZX
 |.call f es=>(IX r.ev es O g).Zd.bind λS g=>C f S g
 |.SS f es ks pm=>(IX r.ev es O g).Zd.bind λS g=>(IX r.ev ks O g).Zd.bind λws g=>if S.length=es.length/\ws.length=ks.length then C f (perm (S++ws) pm) g else .ZX
 |.fld a j cs=>(r.ev a O g).bind λx g=>lift ((BM x g).bind (Dr j cs)) g
 |.make c f es ks pm=>(IX r.ev es O g).Zd.bind λS g=>(IX r.ev ks O g).Zd.bind λws g=>if S.length=es.length/\ws.length=ks.length then
   (C f (perm (.ref g.length::S++ws) pm) (g++[.ins c []])).bind λu B=>if AV u then .ok (.ref g.length) B else .ZX else .ZX
 |.SR a j tb es ks=>(r.ev a O g).Zd.bind λx g=>match(BM x g).bind (Dg j tb)with
  |some p=>(IX r.ev es O g).Zd.bind λS g=>(IX r.ev ks O g).Zd.bind λws g=>if S.length=es.length/\ws.length=ks.length then C p.1 (perm (x::S++ws) p.2) g else .ZX
  |none=>.ZX
 |.Sa c o=>(r.ev o O g).bind λx g=>match IW x g with
  |some n=>Dw c n g
  |none=>.ZX
 |.bi b es=>(IX r.ev es O g).bind λS g=>IV b S g
 |.Yz a t=>(r.ev a O g).bind λx g=>match Aw t x g with
  |some c=>.ok (.bl c) g
  |none=>.ZX
 |.R_ o v=>(r.ev o O g).bind λx g=>match IW x g with
  |some n=>(r.ev v O g).bind λy g=>Gn n y g
  |none=>.ZX
 |.app o v=>(r.ev o O g).bind λx g=>match IW x g with
  |some n=>(r.ev v O g).bind λy g=>Bj n y g
  |none=>.ZX
 |.ext o v=>(r.ev o O g).bind λx g=>match IW x g with
  |some n=>(r.ev v O g).bind λy g=>BB n y g
  |none=>.ZX
 |.pop o=>(r.ev o O g).bind λx g=>match IW x g with
  |some n=>Bo n g
  |none=>.ZX
 |.Xy _=>.ZX
 |.WN _ _=>.ZX
 |.W9 _=>.ZX
 |.oeq op tb a b=>(r.ev a O g).bind λx g=>(r.ev b O g).bind λy g=>BK C op tb x y g
 |.zip _ _=>.ZX
 |.VM=>alloc (.ZF []) g
 |.comp own fr gs elt=>match gs with
  |[]=>.ZX
  |(t,it,cs)::ZS=>(I8 r it O g).bind λi g=>
    (r.cm i 0 t cs ZS elt [] (List.replicate own none++fr.map λj=>(O[j]?).getD none) g).bindB λS g=>
     if S.length<=Ab then alloc (.Z5 S) g else .ZX
 |.R9 ks es=>(IX r.ev es O g).bind λS g=>alloc (.dst (ks.zip S)) g
 |.dgt o k x=>(r.ev o O g).bind λd g=>match Ye d g with
  |some _=>(r.ev k O g).bind λy g=>(r.ev x O g).bind λz g=>match AK y d g with
   |some w=>.ok (w.getD z) g
   |none=>.ZX
  |none=>.ZX
 |.pair k v=>(r.ev k O g).bind λx g=>(r.ev v O g).bind λy g=>match keyOf x with
  |some _=>.ok (.ZY [x,y]) g
  |none=>.ZX
 |.V8 own fr gs k v=>match gs with
  |[]=>.ZX
  |(t,it,cs)::ZS=>(I8 r it O g).bind λi g=>
    (r.cm i 0 t cs ZS (.pair k v) [] (List.replicate own none++fr.map λj=>(O[j]?).getD none) g).bindB λS g=>match dfold S []with
     |some Z4=>alloc (.ZF Z4) g
     |none=>.ZX
def Ja(r:Z7)(e:E)(O:Su)(g:G):Out Bool:=match e with
 |.and a b=>(r.ts a O g).bind λc g=>if c then r.ts b O g else .ok false g
 |.or a b=>(r.ts a O g).bind λc g=>if c then .ok true g else r.ts b O g
 |.not a=>(r.ts a O g).bind λc g=>.ok (!c) g
 |.ite c a b=>(r.ts c O g).bind λk g=>if k then r.ts a O g else r.ts b O g
 |e=>(r.ev e O g).bind λx g=>lift (IP x g) g
def DI(n:Nat)(k:Int)(u:U)(O:Su)(g:G):Out Fl:=match g[n]? with
 |some (.Z5 xs)=>match L2.ixN xs.length k with
  |some j=>.ok (.nx O) (g.set n (.Z5 (xs.set j u)))
  |none=>.ZX
 |_=>.ZX
def D3(n:Nat)(S:List U)(u:U)(O:Su)(g:G):Out Fl:=match g[n]? with
 |some (.ZF Z4)=>match intsOf S with
  |some k=>if Z4.length<Ab then .ok (.nx O) (g.set n (.ZF (dput Z4 k u)))else .ZX
  |none=>.ZX
 |_=>.ZX
def FH(n:Nat)(k:Str)(u:U)(O:Su)(g:G):Out Fl:=match g[n]? with
 |some (.dst Z4)=>if Z4.length<Ab then .ok (.nx O) (g.set n (.dst (DW Z4 k u)))else .ZX
 |_=>.ZX
def Gz(a:List (List Int×U))(k:List Int):List (List Int×U):=a.filter λx=>!decide (x.1=k)
def GF(x y:U)(O:Su)(g:G):Out Fl:=match x with
 |.ref n=>match g[n]? with
  |some (.ZF Z4)=>match keyOf y with
   |some k=>if k∈Z4.map (·.1)then .ok (.nx O) (g.set n (.ZF (Gz Z4 k)))else .ZX
   |none=>.ZX
  |_=>.ZX
 |_=>.ZX
def subAt(x y u:U)(O:Su)(g:G):Out Fl:=match x with
 |.ref n=>match y with
  |.int k=>DI n k u O g
  |.ZY S=>D3 n S u O g
  |.str k=>FH n k u O g
  |_=>.ZX
 |_=>.ZX
def Jb(j:List U):List (Option U)->Option (List U)
 |[]=>some []
 |some u::r=>(Jb j r).map (u :: ·)
 |none::r=>match j with
  |[v]=>(Jb j r).map (v :: ·)
  |_=>none
def Bc(o:Out U)(j c:Nat)(xs:List (Option U))(O:Su):Out Fl:=match o with
 |.ok u g=>if j<O.length then .ok (.nx (O.set j (some u))) g else .ZX
 |.exc c' fs g=>if c'=c/\j<O.length/\xs.length<=Ab/\fs.length=1 then match Jb fs xs with
  |some S=>.ok (.nx ((List.replicate O.length none).set j (some (.ZY S)))) g
  |none=>.ZX
  else .ZX
 |.ZX=>.ZX
def Jc(r:Z7)(s:Z6)(O:Su)(g:G):Out Fl:=match s with
 |.ret e=>(r.ev e O g).bind λu g=>.ok (.rt u) g
 |.retN=>.ok (.rt .ZJ) g
 |.set t e=>(r.ev e O g).bind λu g=>match Ae t (IZ t u g) O with
   |some ZT=>.ok (.nx ZT) g
   |none=>.ZX
 |.par i j a b=>(r.ev a O g).bind λu g=>(r.ev b O g).bind λw g=>
    if i<O.length/\j<O.length then .ok (.nx ((O.set i (some u)).set j (some w))) g else .ZX
 |.del o i=>(r.ev o O g).bind λx g=>(r.ev i O g).bind λy g=>GF x y O g
 |.sub o i e=>(r.ev e O g).bind λu g=>(r.ev o O g).bind λx g=>(r.ev i O g).bind λy g=>subAt x y u O g
 |.aug i op e=>match O[i]? with
   |some (some x)=>(r.ev e O g).bind λy g=>match DU op x y with
    |some z=>.ok (.nx (O.set i (some z))) g
    |none=>.ZX
   |_=>.ZX
 |.exp e=>(r.ev e O g).bind λ_ g=>.ok (.nx O) g
 |.Zu c a b=>(r.ts c O g).bind λk g=>if k then r.ex a O g else r.ex b O g
 |.VL c b=>r.wh c b O g
 |.for t it b=>(I8 r it O g).bind λi g=>r.fr t i 0 b O g
 |.pass=>.ok (.nx O) g
 |.brk=>.ok (.bk O) g
 |.cont=>.ok (.ct O) g
 |.never=>.ZX
 |.fset a j cs e=>(r.ev e O g).bind λu g=>(r.ev a O g).bind λx g=>match C9 x j cs u g with
  |some g'=>.ok (.nx O) g'
  |none=>.ZX
 |.Zi b=>(r.ex b O g).Zd
 |.V7 c a b=>(r.ts c O g).Zd.bind λk g=>if k then r.ex a O g else r.ex b O g
 |.R8 t it b=>(I8 r it O g).Zd.bind λi g=>r.fr t i 0 b O g
 |.raise c es=>(IX r.ev es O g).Zd.bind λS g=>if S.length<=Ab then .exc c S g else .ZX
 |.U4 j f es c xs=>Bc (r.ev (.call f es) O g) j c xs O
def Jd(r:Z7)(a:List Z6)(O:Su)(g:G):Out Fl:=match a with
 |[]=>.ok (.nx O) g
 |s::ZS=>(Jc r s O g).bind λf g=>match f with
  |.nx ZT=>r.ex ZS ZT g
  |f=>.ok f g
def Je(r:Z7)(c:E)(b:List Z6)(O:Su)(g:G):Out Fl:=
 (r.ts c O g).bind λk g=>if k then(r.ex b O g).bind λf g=>match f with
  |.nx ZT=>r.wh c b ZT g
  |.ct ZT=>r.wh c b ZT g
  |.bk ZT=>.ok (.nx ZT) g
  |.rt u=>.ok (.rt u) g
 else .ok (.nx O) g
def Jf(r:Z7)(t:Tg)(it:Iter)(i:Nat)(b:List Z6)(O:Su)(g:G):Out Fl:=match next it i g with
 |none=>.ZX
 |some none=>.ok (.nx O) g
 |some (some u)=>match Ae t u O with
  |none=>.ZX
  |some a=>(r.ex b a g).bind λf g=>match f with
   |.nx ZT=>r.fr t it (i+1) b ZT g
   |.ct ZT=>r.fr t it (i+1) b ZT g
   |.bk ZT=>.ok (.nx ZT) g
   |.rt u=>.ok (.rt u) g
def As(f:E->Su->G->Out Bool):List E->Su->G->Out Bool
 |[],_,g=>.ok true g
 |c::cs,O,g=>(f c O g).bind λk g=>if k then As f cs O g else .ok false g
def Jg(r:Z7)(it:Iter)(i:Nat)(t:Tg)(c:List E)(d:List (Tg×E×List E))(a:E)(b:List U)(O:Su)(g:G):Out (List U):=match next it i g with
 |none=>.ZX
 |some none=>.ok b g
 |some (some u)=>if AS t O then match Ae t u O with
  |none=>.ZX
  |some e=>(As r.ts c e g).bindB λk g=>if k then
    match d with
    |[]=>(r.ev a e g).bindB λv g=>if b.length<Ab then r.cm it (i+1) t c d a (b++[v]) O g else .ZX
    |(t2,Xq,h)::l=>(I8 r Xq e g).bindB λj g=>(r.cm j 0 t2 h l a b e g).bindB λf g=>r.cm it (i+1) t c d a f O g
   else r.cm it (i+1) t c d a b O g
  else .ZX
def Jh(C:Nat->List U->G->Out U):Nat->Z7
 |0=>⟨λ_ _ _=>.ZX,λ_ _ _=>.ZX,λ_ _ _=>.ZX,λ_ _ _ _=>.ZX,λ_ _ _ _ _ _=>.ZX,λ_ _ _ _ _ _ _ _ _=>.ZX⟩
 |n+1=>let r:=Jh C n
  ⟨I9 C r,Ja r,Jd r,Je r,Jf r,Jg r⟩
def Bs(fu:Nat)(C:Nat->List U->G->Out U)(F:Fn)(S:List U)(g:G):Out U:=
 if S.length=F.np then
  ((Jh C fu).ex F.body (S.map some++List.replicate (F.ns-S.length) none) g).bind λf g=>match f with
   |.rt u=>.ok u g
   |.nx _=>.ok .ZJ g
   |_=>.ZX
 else .ZX
def Aa(J:List Fn)(fu:Nat):Nat->Nat->List U->G->Out U
 |0=>λ_ _ _=>.ZX
 |d+1=>λf S g=>match J[f]? with
  |some F=>Bs fu (Aa J fu d) F S g
  |none=>.ZX
end
end
end PI
variable{it:PI.Iter}{Q:PI.U->PI.G->Prop}{g:PI.G}{r:PI.Z7}{C:Nat->List PI.U->PI.G->PI.Out PI.U}{B:PI.Fl->Prop}{Z:PI.Z3}
namespace L2
open PySem PySem.Spec PyProof.Rows
section
variable{E:Value->Shared->Prop}
def x6{d:Addr}{o:Obj}{es:Array DictEntry}{Q:Value->Shared->Prop}(hs:(d==sysModules)=false)(j:s.heap.get? d=some o)(hx:o.ExactDict)(hd:o.data=.dict es ep)
  (h:Q (.ref s.heap.objs.size) {s with heap:=s.heap.push {cls:=.type "dict_keyiterator",data:=.fields #[.ref d,.int 0 0,.int es.size 0,.int ep 0]}}):wpAny (model prog w) A (pyIter (.ref d)) Q E s:=by
 have t:s.TypeIs (.ref d) "dict":=⟨o,j,hx.1⟩;refine Nr t F.slot_dict_iter (QG F.slot_dict_iter t F.entry_dict_iter ?_ (F.args_dict_iter_1 _));unfold Builtin.«dict.__iter__»;refine ZB ?_;unfold Builtin.Dict.dictSlotNone;refine ZB (wpAny_notOrdered_dict t ?_);show wpAny _ _ (pure (Value.ref d)) _ _ s;refine ZP ?_;show wpAny _ _ (Builtin.Dict.showsAll d >>= _) _ _ s;unfold Builtin.Dict.showsAll;rw[hs,YH Hw];refine ZB (ZP (ZB (Nt j hd (ZB (NW j hd ?_)))));exact ZB (RG (ZP ⟨_,rfl,"dict_keyiterator",_,⟨_,HB _ rfl,rfl⟩,F.slot_dict_keyiterator_next.lookup,by simpa[rawInt]using h⟩))
def zr{it d:Addr}{u:Obj}{es:Array DictEntry}{e:DictEntry}{Q:Option Value->Shared->Prop}(j:s.heap.IsKeyIter it d i es.size ep)(z:s.heap.get? d=some u)(B:u.data=.dict es ep)(hx:es[i]?=some e)
  (h:∀h',h'.IsKeyIter it d (i+1) es.size ep->Heap.SameBut it s.heap h'->Q (some e.key) {s with heap:=h'}):wpAny (model prog w) A (pyNext (.ref it)) Q E s:=by
 let⟨o,ho,hc,hd⟩:=id j;let⟨L,G⟩:=Th.mp hx;unfold pyNext;refine ZB (PU (Pf (name:=Str.ofString "__next__") j.typeIs Pj (QG Pj j.typeIs O1 ?_ (OV _))));refine ZB (ZP ?_);refine ZB ?_;refine ZB ?_
 (first|refine ZB (Pd j.typeIs (ZP ?_))|refine ZB (Pz j.typeIs (ZP ?_)))
 refine ZB (Ng ho hd ?_);rw[show Builtin.Dict_items.ownsTuple "dict_keyiterator" = false from by decide];rw[if_neg Bool.false_ne_true]
 show wpAny _ _ (if(Value.ref d==Value.none)=true then _ else _) _ _ s;rw[YH (show ¬ ((Value.ref d==Value.none)=true)from Hw)]
 refine ZB (ZP (ZB (Nt z B ?_)));rw[YH (by simp)];refine ZB (ZP (ZB (NW z B ?_)));rw[YH (by simp)];refine ZP ?_
 dsimp only;rw[if_neg (show ¬((i:Int)<0) from by omega),Int.toNat_natCast,hx];refine ZB ?_
 (first|refine ZB (Pd j.typeIs (ZP ?_))|refine ZB (Pz j.typeIs (ZP ?_)))
 refine ZB (wpAny_isOneOf_keyiter j.typeIs ?_);show wpAny _ _ (setField (.ref it) 1 (rawInt ((i:Int)+1)) >>= _) _ _ s;refine ZB (Pl ho hd (by simp) ?_)
 have n:(s.heap.update it (Obj.mapFields (·.setIfInBounds 1 (rawInt ((i:Int)+1))))).IsKeyIter it d (i+1) es.size ep:=⟨_,Qi _ ho (Q2 (Qb hd _)),(ON ..).trans hc,by rw[Qb hd];simp[rawInt]⟩
 refine ZB (TU (ZB (wpAny_isOneOf_keyiter (s:={s with heap:=s.heap.update it (Obj.mapFields (·.setIfInBounds 1 (rawInt ((i:Int)+1))))}) n.typeIs ?_)));show wpAny _ _ (pure e.key) _ _ _
 exact ZP (ZP ⟨_,rfl,ZP (h _ n (Heap.SameBut.update ..))⟩)
def xV{it d:Addr}{u:Obj}{es:Array DictEntry}{Q:Option Value->Shared->Prop}(G:A.handled=none)(j:s.heap.IsKeyIter it d i es.size ep)(z:s.heap.get? d=some u)(B:u.data=.dict es ep)(hx:es[i]?=none)
  (h:∀h',Heap.ExtBut it s.heap h'->Q none {s with heap:=h'}):wpAny (model prog w) A (pyNext (.ref it)) Q E s:=by
 let⟨o,ho,hc,hd⟩:=id j;unfold pyNext;refine ZB (PU (Pf (name:=Str.ofString "__next__") j.typeIs Pj (QG Pj j.typeIs O1 ?_ (OV _))));refine ZB (ZP ?_);refine ZB ?_;refine ZB ?_
 (first|refine ZB (Pd j.typeIs (ZP ?_))|refine ZB (Pz j.typeIs (ZP ?_)))
 refine ZB (Ng ho hd ?_);rw[show Builtin.Dict_items.ownsTuple "dict_keyiterator" = false from by decide];rw[if_neg Bool.false_ne_true]
 show wpAny _ _ (if(Value.ref d==Value.none)=true then _ else _) _ _ s;rw[YH (show ¬ ((Value.ref d==Value.none)=true)from Hw)]
 refine ZB (ZP (ZB (Nt z B ?_)));rw[YH (by simp)];refine ZB (ZP (ZB (NW z B ?_)));rw[YH (by simp)];refine ZP ?_
 dsimp only;rw[if_neg (show ¬((i:Int)<0) from by omega),Int.toNat_natCast,hx];refine ZB ?_
 (first|refine ZB (Pd j.typeIs (ZP ?_))|refine ZB (Pz j.typeIs (ZP ?_)))
 show wpAny _ _ (setField (.ref it) 0 .none >>= _) _ _ s;refine ZB (Pl ho hd (by simp) ?_);show wpAny _ _ (newExc (.type "StopIteration") [] >>= _) _ _ _
 refine ZB ?_;delta newExc newTuple;try dsimp only;refine ZB (RG ?_ (by size_fits))
 refine ZB (m:=firstArgMember _ _) (NZ (a:=Value.none) (by first|rfl|(simp![firstArgMember];rfl)) (RG ?_ (by size_fits)));delta raiseNew;try dsimp only
 refine ZB (wpAny_handled ?_);rw[show A.in1.handled=none from G];refine ZB (ZP (wpAny_throw ?_));exact ZB (Nz (T:="StopIteration") (b:=true) ⟨_,HB _ rfl,rfl⟩ isSubtype_stop (ZP (h _ (((Heap.SameBut.update ..).extBut.push _).push _))))
end
def adg(z:ObjOk P w H h a (.dT Z4)):Z4.length<=sizeLine/\(a==sysModules)=false /\∃o es ep,h.get? a=some o/\o.ExactDict/\o.data=.dict es ep/\es.size=Z4.length /\
  ∀(i:Nat) (k:List Key) (v:V),Z4[i]?=some (k,v) ->∃(b:Addr) (G:DictEntry),es[i]?=some G/\G.key=.ref b/\H b=some (.ZY (k.map H8)):=by
 let⟨F,hs,xs,B,o,es,ep,ho,hx,hd,u,_⟩:=z;have Z:es.size=xs.length:=by rw[<-X6,u,Z1]
 refine⟨F,hs,o,es,ep,ho,hx,hd,by rw[Z,Oo B],λi k v hk=>?_⟩
 have key:∀{Z4:List (List Key×V)} {xs:List (List Key×Addr×Value)},Paired (λ(p:List Key×V) (q:List Key×Addr×Value)=>p.1=q.1/\H q.2.1=some (.ZY (p.1.map H8))/\RelV p.2 q.2.2) Z4 xs ->∀(i:Nat) (k:List Key) (v:V),Z4[i]?=some (k,v) ->∃q:List Key×Addr×Value,xs[i]?=some q/\H q.2.1=some (.ZY (k.map H8)):=by
  intro Z4 xs B
  induction B with
  |nil=>intro i k v z;simp at z
  |cons h1 _ ih=>
   intro i k v z;cases i with
   |zero=>simp at z;subst z;exact⟨_,by simp,h1.2.1⟩
   |succ j=>let⟨q,R,L⟩:=ih j k v (by simpa using z);exact⟨q,by simpa using R,L⟩
 let⟨q,S,hb⟩:=key B i k v hk;refine⟨q.2.1,entryOfKey (tupleKind (AA P w)) q,?_,rfl,hb⟩;rw[<-U9,u,VV,S];rfl
def G0:R2:=λx y H Q=>∃a v,x=.ref a/\DGet H a y (some v)/\Q v H
def abD{O:St}{o:Option V}(I:Z0 X Y O H s)(g:DGet H a y o):s.TypeIs (.ref a) "dict":=by
 rcases g with⟨Z4,k,e,q⟩|⟨Z4,k,b,e,q⟩
 .exact let⟨_,_,_,_,dd⟩:=cU I.ZK e;dd.typeIs
 .exact let⟨_,_,_,_,dd⟩:=cX I.ZK e;dd.typeIs
def xX(R:X.A.units+1<cLine):IxR X G0:=by
 intro value slice Y s O H x y v u Q I L G ⟨a,z,e,g,q⟩ hs;subst e;obtain rfl:v=Value.ref a:=L;have B:=abD I g;have j:wpAny (model X.prog X.w) X.A (subscripted slice false (.ref a) u) (λr s3=>wpAny (model X.prog X.w) X.A (letTemporaryGo value (.ref a) r >>= λ_=>pure r) (EP X Y O Q) X.xe s3) X.xe s:=by
  rw[hs];exact wpAny_operating (vj R I g G λw' s3 Z S=>ZB (wpAny_letTemporaryGo (ZP ⟨z,H,Z,S,q⟩)))
 unfold subscriptTail;refine ZB ?_;rw[getitemInPython_of_ne B.not_modules];refine ZB (NU B PySem.F.slot_dict_getitem.lookup ?_)
 (first|exact ZP (ZB j)|exact ZB (ZP (ZB j))|exact ZB j)
def Ite(K:HF)(a:Addr):It:=
 ⟨λi H=>∃b x,SqL K H a b/\b[i]?=some x,λi H x c=>∃p v,H p=none/\x=.ref p/\c=upd H p (.ZY [.int i,v]) /\∀b,SqL K H a b->b[i]?=some v,λi H=>∃b,SqL K H a b/\b.length<=i⟩
end L2
namespace L2
open PySem PySem.Spec PyProof.Rows
def Itz(K:HF)(a b:Addr):It:=
 ⟨λi H => ∃ xs ys x y,SqL K H a xs/\SqL K H b ys/\xs[i]? = some x/\ys[i]? = some y,λi H x c => ∃ p v w,H p=none/\x=.ref p/\c=upd H p (.ZY [v,w])/\(∀ xs,SqL K H a xs->xs[i]? = some v) /\ ∀ ys,SqL K H b ys->ys[i]? = some w,
  λi H=>∃xs ys,SqL K H a xs/\SqL K H b ys/\(xs.length<=i\/ys.length<=i)⟩
structure ZA(z TI TO i1 i2:Addr):Prop where
 TIz:TI≠z
 TOz:TO≠z
 i1z:i1≠z
 i2z:i2≠z
 TITO:TI≠TO
 TIi1:TI≠i1
 TIi2:TI≠i2
 TOi1:TO≠i1
 TOi2:TO≠i2
 i12:i1≠i2
end L2
namespace PI
noncomputable section
open PySem PySem.Spec PyProof.Rows L2
def SqF(K:HF)(H:Hp)(a:Addr)(xs:List V):Prop:=
 (∃o,H a=some (.Zn o (.Z5 xs))) \/
  ∃(o:Obj) (b:Array Value) (n:Nat),K.lookup a=some o/\o.cls=.type "list" /\ o.dict=none/\o.data=.seq b n/\b.size<=sizeLine/\ZH xs b.toList
def SqF.sq{xs:List V}(h:SqF K H a xs):SqL K H a xs:=by
 rcases h with h|h
 .exact .inl (.inr h)
 .exact .inr h
def SqU(_:HF)(H:Hp)(a:Addr)(xs:List V):Prop:=H a=some (.ZY xs)
def SqU.sq{xs:List V}(h:SqU K H a xs):SqT K H a xs:=.of h
def SqC(K:HF)(a:Addr)(xs:List V):Prop:=
 ∃(o:Obj) (b:Array Value) (n:Nat),K.lookup a=some o/\o.cls=.type "tuple" /\ o.data=.seq b n/\b.size<=sizeLine/\ZH xs b.toList
def SqC.sq{xs:List V}(h:SqC K a xs):SqT K H a xs:=.inr h
inductive RT(Z6:Addr->List V->Prop)(R:List V->Prop)(v:V):Prop
 |mk (a:Addr) (vs:List V) (e:v=.ref a) (s:Z6 a vs) (r:R vs)
inductive RC{α:Type}(p:α->Prop)(q:List α->Prop)(vs:List α):Prop
 |mk (v:α) (r:List α) (e:vs=v::r) (h:p v) (t:q r)
mutual
def RV(K:HF)(ρ:List Addr)(H:Hp):U->V->Prop
 |.ZJ,v=>v=.ZJ
 |.bl b,v=>v=.bl b
 |.int i,v=>v=.int i
 |.str s,v=>v=.str s
 |.ZY S,v=>RT (SqU K H) (RVs K ρ H S) v
 |.Zy S,v=>RT (SqF K H) (RVs K ρ H S) v
 |.ref n,v=>∃a,v=.ref a/\ρ[n]?=some a
 |.xn _ S,v=>RT (SqC K) (RVs K ρ H S) v
def RVs(K:HF)(ρ:List Addr)(H:Hp):List U->List V->Prop
 |[],vs=>vs=[]
 |u::S,vs=>RC (RV K ρ H u) (RVs K ρ H S) vs
end
structure ZI(K:HF)(ρ:List Addr)(H:Hp)(ZO:List Addr)(H':Hp):Prop where
 ext:∀(n:Nat) (a:Addr),ρ[n]?=some a->ZO[n]?=some a
 new:∀(n:Nat) (a:Addr),ZO[n]?=some a->ρ[n]?=some a\/H a=none
 X4:∀a o,H a=some o->a ∉ ρ->H' a=some o
 live:∀a,H a≠none->H' a≠none
 ZY:∀a xs,SqU K H a xs->SqU K H' a xs
 Zy:∀a xs,SqF K H a xs->SqF K H' a xs
 Zn:∀a o u,H a=some (.Zn o u)->H' a=some (.Zn o u)
section
variable{TR:List Addr}{Yd:Hp}
def ZI.refl:ZI K ρ H ρ H:=⟨λ_ _ h=>h,λ_ _ h=>.inl h,λ_ _ h _=>h,λ_ h=>h,λ_ _ h=>h,λ_ _ h=>h,λ_ _ _ h=>h⟩
def ZI.trans(a:ZI K ρ H ZO H')(b:ZI K ZO H' TR Yd):ZI K ρ H TR Yd where
 ext:=λn x h=>b.ext n x (a.ext n x h)
 new:=λn x h=>by
  rcases b.new n x h with q|q
  .exact a.new n x q
  .refine .inr ?_
   cases e:H x with
   |none=>rfl
   |some o=>exact absurd q (a.live x (by rw[e];simp))
 X4:=λx o h d=>b.X4 x o (a.X4 x o h d) λf=>by
  let⟨n,g⟩:=Qu.mp f;rcases a.new n x g with q|q
  .exact d (Qu.mpr ⟨n,q⟩)
  .rw [q]at h;cases h
 live:=λx h=>b.live x (a.live x h)
 ZY:=λx c h=>b.ZY x c (a.ZY x c h)
 Zy:=λx c h=>b.Zy x c (a.Zy x c h)
 Zn:=λx o u h=>b.Zn x o u (a.Zn x o u h)
mutual
def RV.mono(i:∀(n:Nat) (a:Addr),ρ[n]?=some a->ZO[n]?=some a)(f:∀a xs,SqU K H a xs->SqU K H' a xs)(g:∀a xs,SqF K H a xs->SqF K H' a xs):∀(u:U) (v:V),RV K ρ H u v->RV K ZO H' u v
 |.ZJ,_,h=>h
 |.bl _,_,h=>h
 |.int _,_,h=>h
 |.str _,_,h=>h
 |.ZY S,v,h=>by
  let⟨a,b,e,c,d⟩:=h;exact⟨a,b,e,f _ _ c,RVs.mono i f g S b d⟩
 |.Zy S,v,h=>by
  let⟨a,b,e,c,d⟩:=h;exact⟨a,b,e,g _ _ c,RVs.mono i f g S b d⟩
 |.ref n,v,h=>by
  let⟨a,e,c⟩:=h;exact⟨a,e,i _ _ c⟩
 |.xn _ S,v,h=>by
  let⟨a,b,e,c,d⟩:=h;exact⟨a,b,e,c,RVs.mono i f g S b d⟩
def RVs.mono(d:∀(n:Nat) (a:Addr),ρ[n]?=some a->ZO[n]?=some a)(b:∀a xs,SqU K H a xs->SqU K H' a xs)(c:∀a xs,SqF K H a xs->SqF K H' a xs):∀(S:List U) (vs:List V),RVs K ρ H S vs->RVs K ZO H' S vs
 |[],_,h=>h
 |u::S,vs,h=>by
  let⟨v,r,e,g,f⟩:=h;exact⟨v,r,e,RV.mono d b c u v g,RVs.mono d b c S r f⟩
end
def RV.step(s:ZI K ρ H ZO H')(u:U)(v:V)(h:RV K ρ H u v):RV K ZO H' u v:=RV.mono s.ext s.ZY s.Zy u v h
def RVs.step(s:ZI K ρ H ZO H')(S:List U)(vs:List V)(h:RVs K ρ H S vs):RVs K ZO H' S vs:=RVs.mono s.ext s.ZY s.Zy S vs h
def RVs.length:∀{S:List U} {vs:List V},RVs K ρ H S vs->S.length=vs.length
 |[],_,h=>by cases h;rfl
 |_::S,_,h=>by
  let⟨v,r,rfl,_,a⟩:=h;simp[RVs.length a]
def RVs.get:∀{S:List U} {vs:List V} {i:Nat} {u:U},RVs K ρ H S vs->S[i]?=some u ->∃v,vs[i]?=some v/\RV K ρ H u v
 |[],_,_,_,_,e=>by simp at e
 |x::S,_,0,u,h,e=>by
  let⟨v,r,rfl,b,_⟩:=h;simp at e;subst e;exact⟨v,by simp,b⟩
 |x::S,_,i+1,u,h,e=>by
  let⟨v,r,rfl,_,a⟩:=h;let⟨w,d,c⟩:=RVs.get (i:=i) (u:=u) a (by simpa using e)
  exact⟨w,by simpa using d,c⟩
def RVs.none_of{vs:List V}(h:RVs K ρ H S vs)(e:S[i]?=none):vs[i]?=none:=by
 have h1:=h.length;have a:S.length<=i:=Qd.mp e;exact Qd.mpr ()
def RVs.append:∀{S a:List U} {vs xs:List V},RVs K ρ H S vs->RVs K ρ H a xs->RVs K ρ H (S++a) (vs++xs)
 |[],_,_,_,h,q=>by cases h;exact q
 |u::S,_,_,_,h,q=>by
  let⟨v,r,rfl,c,b⟩:=h;exact⟨v,r++_,rfl,c,RVs.append b q⟩
def RVs.one(h:RV K ρ H u v):RVs K ρ H [u] [v]:=⟨v,[],rfl,h,rfl⟩
def RVs.drop:∀{S:List U} {vs:List V} (n:Nat),RVs K ρ H S vs->RVs K ρ H (S.drop n) (vs.drop n)
 |_,_,0,h=>h
 |[],_,_+1,h=>by cases h;rfl
 |u::S,_,n+1,h=>by
  let⟨v,r,rfl,b,a⟩:=h;exact RVs.drop n a
def RVs.take:∀{S:List U} {vs:List V} (n:Nat),RVs K ρ H S vs->RVs K ρ H (S.take n) (vs.take n)
 |_,_,0,h=>by simp[RVs]
 |[],_,_+1,h=>by cases h;rfl
 |u::S,_,n+1,h=>by
  let⟨v,r,rfl,b,a⟩:=h;exact⟨v,r.take n,rfl,b,RVs.take n a⟩
def RVs.set{u:U}{v:V}(q:RV K ρ H u v):∀{S:List U} {vs:List V} (i:Nat),RVs K ρ H S vs->RVs K ρ H (S.set i u) (vs.set i v)
 |[],_,_,h=>by cases h;rfl
 |x::S,_,0,h=>by
  let⟨w,r,rfl,_,a⟩:=h;exact⟨v,r,rfl,q,a⟩
 |x::S,_,i+1,h=>by
  let⟨w,r,rfl,b,a⟩:=h;exact⟨w,r.set i v,rfl,b,RVs.set q i a⟩
def RVs.reverse:∀{S:List U} {vs:List V},RVs K ρ H S vs->RVs K ρ H S.reverse vs.reverse
 |[],_,h=>by cases h;rfl
 |u::S,_,h=>by
  let⟨v,r,rfl,b,a⟩:=h;rw[OF,OF];exact RVs.append (RVs.reverse a) (.one b)
def RVs.dropLast{S:List U}{vs:List V}(h:RVs K ρ H S vs):RVs K ρ H S.dropLast vs.dropLast:=by
 rw[List.dropLast_eq_take,List.dropLast_eq_take,h.length];exact h.take _
def RD(K:HF)(ρ:List Addr)(H:Hp):List (List Int×U)->List (List Key×V)->Prop
 |[],ws=>ws=[]
 |(k,u)::r,ws=>∃v s,ws=(k.map Sum.inl,v)::s/\RV K ρ H u v/\RD K ρ H r s
def RD.mono(d:∀(n:Nat) (a:Addr),ρ[n]?=some a->ZO[n]?=some a)(b:∀a xs,SqU K H a xs->SqU K H' a xs)(c:∀a xs,SqF K H a xs->SqF K H' a xs):∀(S:List (List Int×U)) (vs:List (List Key×V)),RD K ρ H S vs->RD K ZO H' S vs
 |[],_,h=>h
 |(k,u)::S,vs,h=>by
  let⟨v,r,e,g,f⟩:=h;exact⟨v,r,e,RV.mono d b c u v g,RD.mono d b c S r f⟩
def RK(K:HF)(ρ:List Addr)(H:Hp):List (Str×U)->List (Key×V)->Prop
 |[],ws=>ws=[]
 |(k,u)::r,ws=>∃v s,ws=(Sum.inr k,v)::s/\RV K ρ H u v/\RK K ρ H r s
def RK.mono(d:∀(n:Nat) (a:Addr),ρ[n]?=some a->ZO[n]?=some a)(b:∀a xs,SqU K H a xs->SqU K H' a xs)(c:∀a xs,SqF K H a xs->SqF K H' a xs):∀(S:List (Str×U)) (vs:List (Key×V)),RK K ρ H S vs->RK K ZO H' S vs
 |[],_,h=>h
 |(k,u)::S,vs,h=>by
  let⟨v,r,e,g,f⟩:=h;exact⟨v,r,e,RV.mono d b c u v g,RK.mono d b c S r f⟩
def dig:Nat->Nat->List Nat
 |0,_=>[]
 |f+1,n=>if n=0 then[]else n % 128::dig f (n / 128)
def GC:Nat:=128 ^ 64
def FT(n:Nat):Str:=⟨(dig 64 n).toArray⟩
def RF(K:HF)(ρ:List Addr)(H:Hp):List (Nat×U)->List (Str×V)->Prop
 |[],ws=>ws=[]
 |(j,u)::r,ws=>∃v s,ws=(FT j,v)::s/\j<GC/\RV K ρ H u v/\RF K ρ H r s
def RF.mono(d:∀(n:Nat) (a:Addr),ρ[n]?=some a->ZO[n]?=some a)(b:∀a xs,SqU K H a xs->SqU K H' a xs)(c:∀a xs,SqF K H a xs->SqF K H' a xs):∀(S:List (Nat×U)) (vs:List (Str×V)),RF K ρ H S vs->RF K ZO H' S vs
 |[],_,h=>h
 |(k,u)::S,vs,h=>by
  let⟨v,r,e,i,g,f⟩:=h;exact⟨v,r,e,i,RV.mono d b c u v g,RF.mono d b c S r f⟩
def RHO(K:HF)(ρ:List Addr)(H:Hp):Z9->HO->Prop
 |.Z5 S,o=>∃a,o=.Z5 a/\RVs K ρ H S a
 |.ZF Z4,o=>∃ws,o=.dT ws/\RD K ρ H Z4 ws
 |.YG Z4,o=>∃ob ws,o=.Zn ob (.dT ws)/\RD K ρ H Z4 ws
 |.dst Z4,o=>∃ws,o=.dK ws/\RK K ρ H Z4 ws
 |.ins c S,o=>∃C b a,o=.ins C b a/\PySem.W.nsIn K mainGlobals (FT c)=some (some (.ref C))/\RF K ρ H S a
def RO(K:HF)(ρ:List Addr)(H:Hp)(a:Addr)(o:Z9):Prop:=∃ho,H a=some ho/\RHO K ρ H o ho
def RHO.mono(f:∀(n:Nat) (a:Addr),ρ[n]?=some a->ZO[n]?=some a)(b:∀a xs,SqU K H a xs->SqU K H' a xs)(d:∀a xs,SqF K H a xs->SqF K H' a xs){o:Z9}{i:HO}(h:RHO K ρ H o i):RHO K ZO H' o i:=by
 cases o with
 |Z5 S=>let⟨g,e,r⟩:=h;exact⟨g,e,RVs.mono f b d _ _ r⟩
 |ZF Z4=>let⟨ws,e,r⟩:=h;exact⟨ws,e,RD.mono f b d _ _ r⟩
 |YG Z4=>let⟨ob,ws,e,r⟩:=h;exact⟨ob,ws,e,RD.mono f b d _ _ r⟩
 |dst Z4=>let⟨ws,e,r⟩:=h;exact⟨ws,e,RK.mono f b d _ _ r⟩
 |ins c S=>let⟨C,k,g,e,j,r⟩:=h;exact⟨C,k,g,e,j,RF.mono f b d _ _ r⟩
def RHO.step(s:ZI K ρ H ZO H'){o:Z9}{a:HO}(h:RHO K ρ H o a):RHO K ZO H' o a:=h.mono s.ext s.ZY s.Zy
def RO.step(s:ZI K ρ H ZO H'){a:Addr}{o:Z9}(e:∀b,H a=some b->H' a=some b)(h:RO K ρ H a o):RO K ZO H' a o:=
 let⟨b,c,r⟩:=h;⟨b,e b c,r.step s⟩
structure RH(K:HF)(ρ:List Addr)(H:Hp)(g:G):Prop where
 len:ρ.length=g.length
 inj:∀(i j:Nat) (a:Addr),ρ[i]?=some a->ρ[j]?=some a->i=j
 obj:∀(n:Nat) (a:Addr) (o:Z9),ρ[n]?=some a->g[n]?=some o->RO K ρ H a o
def RH.at(h:RH K ρ H g){o:Z9}(e:g[n]?=some o):∃a,ρ[n]?=some a/\RO K ρ H a o:=by
 have c:n<g.length:=(YE.mp e).1;have b:n<ρ.length:=by rw[h.len];exact c
 exact⟨ρ[n],Xn b,h.obj n ρ[n] _ (Xn b) e⟩
def RH.Z5(h:RH K ρ H g){n:Nat}{S:List U}(e:g[n]?=some (.Z5 S)):∃a vs,ρ[n]?=some a/\H a=some (.Z5 vs)/\RVs K ρ H S vs:=by
 let⟨a,d,ho,c,vs,rfl,b⟩:=h.at e;exact⟨a,vs,d,c,b⟩
def RH.ZF(h:RH K ρ H g){n:Nat}{c:List (List Int×U)}(e:g[n]?=some (.ZF c)):∃a b,ρ[n]?=some a/\H a=some (.dT b)/\RD K ρ H c b:=by
 let⟨a,j,ho,i,d,rfl,f⟩:=h.at e;exact⟨a,d,j,i,f⟩
def RH.YG(h:RH K ρ H g){n:Nat}{d:List (List Int×U)}(e:g[n]?=some (.YG d)):∃a b c,ρ[n]?=some a/\H a=some (.Zn b (.dT c))/\RD K ρ H d c:=by
 let⟨a,k,ho,j,b,f,rfl,i⟩:=h.at e;exact⟨a,b,f,k,j,i⟩
def RH.dst(h:RH K ρ H g){n:Nat}{c:List (Str×U)}(e:g[n]?=some (.dst c)):∃a b,ρ[n]?=some a/\H a=some (.dK b)/\RK K ρ H c b:=by
 let⟨a,j,ho,i,d,rfl,f⟩:=h.at e;exact⟨a,d,j,i,f⟩
def RH.there(h:RH K ρ H g)(e:ρ[n]?=some a):∃o,H a=some o:=by
 have b:n<ρ.length:=(YE.mp e).1;have c:n<g.length:=by rw[<-h.len];exact b
 let⟨ho,d,_⟩:=h.obj n a g[n] e (Xn c);exact⟨ho,d⟩
def xI{p:Addr}{o:HO}{xs:List V}(h:SqU K H a xs)(b:a≠p):SqU K (upd H p o) a xs:=by
 unfold SqU;rw[aa b];exact h
def zh{p:Addr}{o:HO}{xs:List V}(h:SqF K H a xs)(b:a≠p):SqF K (upd H p o) a xs:=by
 rcases h with⟨ob,h⟩|h
 .exact .inl ⟨ob,by rw[aa b];exact h⟩
 .exact .inr h
def Be:HO->Prop
 |.Z5 _=>True
 |.dT _=>True
 |.dK _=>True
 |.ins _ _ _=>True
 |_=>False
def aT{p:Addr}{o:HO}{xs:List V}(h:SqU K H a xs)(c:H p=none \/∃b,H p=some b/\Be b):SqU K (upd H p o) a xs:=
 xI h (by rintro rfl;rcases c with z|⟨ys,z,m⟩<;>· unfold SqU at h;rw[h]at z;cases z;try exact m)
def aS{p:Addr}{o:HO}{xs:List V}(h:SqF K H a xs)(c:H p=none \/∃b,H p=some b/\Be b):SqF K (upd H p o) a xs:=by
 rcases h with⟨ob,h⟩|h
 .exact zh (.inl ⟨ob,h⟩) (by rintro rfl;rcases c with z|⟨ys,z,m⟩<;>· rw[h]at z;cases z;try exact m)
 .exact .inr h
def ZI.fresh{p:Addr}{o:HO}(b:H p=none):ZI K ρ H ρ (upd H p o) where
 ext:=λ_ _ h=>h
 new:=λ_ _ h=>.inl h
 X4:=λa u h _=>by rw[aa (aC h b)];exact h
 live:=λa h=>by
  by_cases e:a=p
  .subst e;rw[upd_same];simp
  .rw [aa e];exact h
 ZY:=λa c h=>aT h (.inl b)
 Zy:=λa c h=>aS h (.inl b)
 Zn:=λa ob u h=>by rw[aa (aC h b)];exact h
def RH.step_fresh{p:Addr}{o:HO}(h:RH K ρ H g)(b:H p=none):RH K ρ (upd H p o) g where
 len:=h.len
 inj:=h.inj
 obj:=λn a ob d c=>(h.obj n a ob d c).step (ZI.fresh b) λho e=>by rw[aa (aC e b)];exact e
def ZI.alloc{p:Addr}{d:HO}(b:H p=none):ZI K ρ H (ρ++[p]) (upd H p d) where
 ext:=λn a h=>by rw[WR (YE.mp h).1];exact h
 new:=λn a h=>by
  by_cases e:n<ρ.length
  .rw [WR e]at h;exact .inl h
  .rw [VX ()]at h
   have:a=p:=by
    cases hk:n-ρ.length with
    |zero=>rw[hk]at h;simpa using h.symm
    |succ k=>rw[hk]at h;simp at h
   subst this;exact .inr b
 X4:=λa u h _=>by rw[aa (aC h b)];exact h
 live:=(ZI.fresh (K:=K) (ρ:=ρ) b).live
 ZY:=λa c h=>aT h (.inl b)
 Zy:=λa c h=>aS h (.inl b)
 Zn:=λa ob u h=>by rw[aa (aC h b)];exact h
def RH.RP{p:Addr}{u:Z9}{f:HO}(h:RH K ρ H g)(t:H p=none)(r:RHO K ρ H u f):RH K (ρ++[p]) (upd H p f) (g++[u]) where
 len:=by simp[h.len]
 inj:=λi j a d c=>by
  have key:∀k b,(ρ++[p])[k]?=some b->(k<ρ.length/\ρ[k]?=some b)\/(k=ρ.length/\b=p):=λk b e=>by
   by_cases hk:k<ρ.length
   .rw [WR hk]at e;exact .inl ⟨hk,e⟩
   .rw [VX ()]at e
    cases hd:k-ρ.length with
    |zero=>rw[hd]at e;exact .inr ⟨by omega,by simpa using e.symm⟩
    |succ m=>rw[hd]at e;simp at e
  have q:∀k,ρ[k]? ≠ some p:=λk e=>by
   let⟨o,f⟩:=h.there e;rw[t]at f;cases f
  rcases key i a d with⟨_,s⟩|⟨s,x⟩
  .rcases key j a c with⟨_,l⟩|⟨l,w⟩
   .exact h.inj i j a s l
   .subst w;exact absurd s (q i)
  .rcases key j a c with⟨_,l⟩|⟨l,w⟩
   .subst x;exact absurd l (q j)
   .omega
 obj:=λn a o d c=>by
  by_cases v:n<ρ.length
  .rw [WR v]at d
   rw[WR (by rw[<-h.len];exact v)]at c
   exact(h.obj n a o d c).step (ZI.alloc t) λf e=>by rw[aa (aC e t)];exact e
  .have hl:=h.len
   rw[VX ()]at d
   rw[VX ()]at c
   rw[<-hl]at c;cases hd:n-ρ.length with
   |zero=>
    rw[hd]at d c;have s:a=p:=by simpa using d.symm
    have l:o=u:=by simpa using c.symm
    subst s;subst l;exact⟨f,upd_same,r.step (ZI.alloc t)⟩
   |succ m=>rw[hd]at d;simp at d
def RH.alloc{p:Addr}{vs:List V}(h:RH K ρ H g)(a:H p=none)(r:RVs K ρ H S vs):RH K (ρ++[p]) (upd H p (.Z5 vs)) (g++[.Z5 S]):=h.RP a ⟨vs,rfl,r⟩
def ZI.V_{x y:HO}(g:ρ[n]?=some a)(d:H a=some x)(c:Be x):ZI K ρ H ρ (upd H a y) where
 ext:=λ_ _ h=>h
 new:=λ_ _ h=>.inl h
 X4:=λb u h i=>by
  have:b≠a:=λe=>i (e ▸ Qu.mpr ⟨n,g⟩);rw[aa this];exact h
 live:=λb h=>by
  by_cases e:b=a
  .subst e;rw[upd_same];simp
  .rw [aa e];exact h
 ZY:=λb f h=>aT h (.inr ⟨_,d,c⟩)
 Zy:=λb f h=>aS h (.inr ⟨_,d,c⟩)
 Zn:=λb ob u h=>by rw[aa (cY h d (by rintro rfl;exact c))];exact h
def ZI.write{xs b:List V}(c:ρ[n]?=some a)(d:H a=some (.Z5 xs)):ZI K ρ H ρ (upd H a (.Z5 b)):=ZI.V_ c d trivial
def RH.V_{n:Nat}{a:Addr}{x y:HO}{i:Z9}(h:RH K ρ H g)(c:ρ[n]?=some a)(k:H a=some x)(j:Be x)(r:RHO K ρ H i y):RH K ρ (upd H a y) (g.set n i) where
 len:=by simp[h.len]
 inj:=h.inj
 obj:=λm b o f d=>by
  by_cases e:m=n
  .subst e
   rw[c]at f;cases f;rw[S3 (by rw[<-h.len];exact(YE.mp c).1)]at d
   cases d;exact⟨y,upd_same,r.step (ZI.V_ c k j)⟩
  .rw [UE (Ne.symm e)]at d
   have l:b≠a:=λz=>e (h.inj m n a (z ▸ f) c);exact(h.obj m b o f d).step (ZI.V_ c k j) λho p=>by rw[aa l];exact p
def RH.write{xs b:List V}(h:RH K ρ H g)(c:ρ[n]?=some a)(d:H a=some (.Z5 xs))(r:RVs K ρ H S b):RH K ρ (upd H a (.Z5 b)) (g.set n (.Z5 S)):=h.V_ c d trivial ⟨b,rfl,r⟩
structure RS(K:HF)(ρ:List Addr)(H:Hp)(ZZ:Su)(O:L2.St):Prop where
 len:ZZ.length=O.length
 val:∀(i:Nat) (u:U),ZZ[i]?=some (some u) ->∃v,O[i]?=some (some v)/\RV K ρ H u v
def RS.step{a:Su}{O:L2.St}(h:RS K ρ H a O)(s:ZI K ρ H ZO H'):RS K ZO H' a O:=
 ⟨h.len,λi u e=>let⟨v,b,r⟩:=h.val i u e;⟨v,b,RV.step s _ _ r⟩⟩
def RS.set{b:Su}{O:L2.St}{i:Nat}{u:U}{v:V}(h:RS K ρ H b O)(r:RV K ρ H u v):RS K ρ H (b.set i (some u)) (O.set i (some v)) where
 len:=by simp[h.len]
 val:=λj w e=>by
  by_cases a:j=i
  .subst a
   have c:j<b.length:=by
    have:=(YE.mp e).1;simpa using this
   rw[S3 c]at e;cases e;exact⟨v,by rw[S3 (by rw[<-h.len];exact c)],r⟩
  .rw [UE (Ne.symm a)]at e
   let⟨x,f,d⟩:=h.val j w e;exact⟨x,by rw[UE (Ne.symm a)];exact f,d⟩
end
abbrev XQ:=Nat->List V->Hp->Prop
section
variable(K:HF)(W:XQ)
def post{e d:Type}(R:List Addr->Hp->e->d->Prop)(o:Out e)(ρ:List Addr)(H:Hp)(Q:d->Hp->Prop):Prop:=match o with
 |.ok u g=>∀v b a,ZI K ρ H b a->RH K b a g->R b a u v->Q v a
 |.exc c fs g=>∀f b a,ZI K ρ H b a->RH K b a g->RVs K b a fs f->W c f a
 |.ZX=>False
def Ji(o:Out Fl)(ρ:List Addr)(H:Hp)(D:Ends):Prop:=match o with
 |.ok (.nx d) g=>∀O b a,ZI K ρ H b a->RH K b a g->RS K b a d O->D.nx O a
 |.ok (.bk d) g=>∀O b a,ZI K ρ H b a->RH K b a g->RS K b a d O->D.bk O a
 |.ok (.ct d) g=>∀O b a,ZI K ρ H b a->RH K b a g->RS K b a d O->D.ct O a
 |.ok (.rt u) g=>∀v b a,ZI K ρ H b a->RH K b a g->RV K b a u v->D.rt v a
 |.exc c fs g=>∀e b a,ZI K ρ H b a->RH K b a g->RVs K b a fs e->W c e a
 |.ZX=>False
abbrev Yc{α:Type}:List Addr->Hp->α->α->Prop:=λ_ _ a b=>a=b
inductive tR{α β:Type}(R:List Addr->Hp->α->β->Prop)(f:Su->G->Out α)(O:L2.St)(H:Hp)(Q:β->Hp->Prop):Prop
 |mk (ZZ:Su) (ρ:List Addr) (g:G) (hs:RS K ρ H ZZ O) (hg:RH K ρ H g) (p:post K W R (f ZZ g) ρ H Q)
abbrev tE(f:Su->G->Out U):TE:=tR K W (RV K) f
abbrev tT(f:Su->G->Out Bool):TT:=tR K W Yc f
abbrev V9(f:Su->G->Out (List U)):TA:=tR K W (RVs K) f
inductive PB{α β VS VR:Type}(R:List Addr->Hp->α->β->Prop)(R':List Addr->Hp->VS->VR->Prop)(ρ:List Addr)(H:Hp)(k:α->G->Out VS)(Q:VR->Hp->Prop)(v:β)(H1:Hp):Prop
 |mk (ZM:List Addr) (u:α) (g1:G) (s:ZI K ρ H ZM H1) (h:RH K ZM H1 g1) (r:R ZM H1 u v) (p:post K W R' (k u g1) ZM H1 Q)
inductive PC{α β:Type}(R:List Addr->Hp->α->β->Prop)(ρ:List Addr)(H:Hp)(k:α->G->Out Fl)(D:Ends)(v:β)(H1:Hp):Prop
 |mk (ZM:List Addr) (u:α) (g1:G) (s:ZI K ρ H ZM H1) (h:RH K ZM H1 g1) (r:R ZM H1 u v) (p:Ji K W (k u g1) ZM H1 D)
inductive Zw(f:Su->G->Out Fl)(D:Ends)(O:L2.St)(H:Hp):Prop
 |mk (ZZ:Su) (ρ:List Addr) (g:G) (hs:RS K ρ H ZZ O) (hg:RH K ρ H g) (p:Ji K W (f ZZ g) ρ H D)
end
section
variable{W:XQ}{VS VR:Type}{R:List Addr->Hp->α->β->Prop}{R':List Addr->Hp->VS->VR->Prop}
def post.from{o:Out α}{Q:β->Hp->Prop}(h:post K W R o ρ H Q)(s:ZI K ρ H ZO H'):post K W R o ZO H' Q:=by
 cases o with
 |ok u g=>exactλv b d a=>h v b d (s.trans a)
 |exc c fs g=>exactλv b d a=>h v b d (s.trans a)
 |ZX=>exact h
def Ji.from{o:Out Fl}{D:Ends}(h:Ji K W o ρ H D)(s:ZI K ρ H ZO H'):Ji K W o ZO H' D:=by
 cases o with
 |ok f g=>cases f<;>exactλv b d a=>h v b d (s.trans a)
 |exc c fs g=>exactλv b d a=>h v b d (s.trans a)
 |ZX=>exact h
def post.bind{o:Out α}{k:α->G->Out VS}{Q:VR->Hp->Prop}(h:post K W R' (o.bind k) ρ H Q):
  post K W R o ρ H (PB K W R R' ρ H k Q):=by
 cases o with
 |ok u g=>exactλv e f a d b=>⟨e,u,g,a,d,b,post.from (o:=k u g) h a⟩
 |exc c fs g=>exact h
 |ZX=>exact h
def Ji.bind{o:Out α}{k:α->G->Out Fl}{D:Ends}(h:Ji K W (o.bind k) ρ H D):
  post K W R o ρ H (PC K W R ρ H k D):=by
 cases o with
 |ok u g=>exactλv e f a d b=>⟨e,u,g,a,d,b,Ji.from (o:=k u g) h a⟩
 |exc c fs g=>exact h
 |ZX=>exact h
def post.mono{o:Out α}{Q Q':β->Hp->Prop}(h:post K W R o ρ H Q)(q:∀v a,Q v a->Q' v a):post K W R o ρ H Q':=by
 cases o with
 |ok u g=>exactλv f a b e d=>q _ _ (h v f a b e d)
 |exc c fs g=>exact h
 |ZX=>exact h
def post.YF{u:α}{v:β}{Q:β->Hp->Prop}(h:post K W R (.ok u g) ρ H Q)(a:RH K ρ H g)(r:R ρ H u v):Q v H:=h v ρ H .refl a r
def post.lift{o:Option α}{g:G}{Q:β->Hp->Prop}(h:post K W R (lift o g) ρ H Q):∃u,o=some u/\post K W R (.ok u g) ρ H Q:=by
 cases o with
 |none=>exact h.elim
 |some u=>exact⟨u,rfl,h⟩
end
def _root_.L2.PE.imp{t t':TE}(h:PE X e t)(q:∀O H Q,t' O H Q->t O H Q):PE X e t':=λY s O H Q I a=>h Y s O H Q I (q O H Q a)
def _root_.L2.PT.imp{t t':TT}(h:PT X e t)(q:∀O H Q,t' O H Q->t O H Q):PT X e t':=λY s O H Q I a=>h Y s O H Q I (q O H Q a)
def _root_.L2.PW.imp{t t':TT}(h:PW X e t)(q:∀O H Q,t' O H Q->t O H Q):PW X e t':=λa Y s O H Q I b=>h a Y s O H Q I (q O H Q b)
def _root_.L2.PA.imp{e:List Expr}{t t':TA}(h:PA X e t)(q:∀O H Q,t' O H Q->t O H Q):PA X e t':=λa Y s O H Q I b=>h a Y s O H Q I (q O H Q b)
def _root_.L2.PS.imp{e:Stmt}{t t':TS}(h:PS X e t)(q:∀D O H,t' D O H->t D O H):PS X e t':=λY s O H Q I a=>h Y s O H Q I (q Q O H a)
def _root_.L2.PSs.imp{e:List Stmt}{t t':TS}(h:PSs X e t)(q:∀D O H,t' D O H->t D O H):PSs X e t':=λY s O H Q I a=>h Y s O H Q I (q Q O H a)
def _root_.L2.PE.ZX{X:Cx}{e:Expr}{K:HF}{W:XQ}{f:Su->G->Out U}(h:∀O g,f O g=.ZX):PE X e (tE K W f):=λY s O H Q I ⟨a,ρ,g,_,_,p⟩=>by rw[h]at p;exact p.elim
def _root_.L2.PT.ZX{X:Cx}{e:Expr}{K:HF}{W:XQ}{f:Su->G->Out Bool}(h:∀O g,f O g=.ZX):PT X e (tT K W f):=λY s O H Q I ⟨a,ρ,g,_,_,p⟩=>by rw[h]at p;exact p.elim
def _root_.L2.PSs.ZX{X:Cx}{e:List Stmt}{K:HF}{W:XQ}{f:Su->G->Out Fl}(h:∀O g,f O g=.ZX):PSs X e (Zw K W f):=λY s O H Q I ⟨a,ρ,g,_,_,p⟩=>by rw[h]at p;exact p.elim
def _root_.L2.PS.ZX{X:Cx}{e:Stmt}{K:HF}{W:XQ}{f:Su->G->Out Fl}(h:∀O g,f O g=.ZX):PS X e (Zw K W f):=λY s O H Q I ⟨a,ρ,g,_,_,p⟩=>by rw[h]at p;exact p.elim
section
variable{W W':XQ}
def uu{o:Out Fl}{D:Ends}(h:Ji K W o.Zd ρ H D):Ji K W' o ρ H D:=by
 cases o with
 |ok a g=>cases a<;>exact h
 |exc _ _ _=>exact h.elim
 |ZX=>exact h
def uO{b d:Type}{R:List Addr->Hp->α->β->Prop}{e:List Addr->Hp->b->d->Prop}{o:Out α}{k:α->G->Out b}{Q:d->Hp->Prop}(h:post K W e (o.Zd.bind k) ρ H Q):
  post K W' R o ρ H (PB K W R e ρ H k Q):=by
 cases o with
 |ok u g=>exactλv j l a i f=>⟨j,u,g,a,i,f,post.from (o:=k u g) h a⟩
 |exc c fs g=>exact h.elim
 |ZX=>exact h
def eW{R:List Addr->Hp->α->β->Prop}{o:Out α}{k:α->G->Out Fl}{D:Ends}(h:Ji K W (o.Zd.bind k) ρ H D):
  post K W' R o ρ H (PC K W R ρ H k D):=by
 cases o with
 |ok u g=>exactλv e f a d b=>⟨e,u,g,a,d,b,Ji.from (o:=k u g) h a⟩
 |exc c fs g=>exact h.elim
 |ZX=>exact h
end
section
def RV.flat{w:U}{x:V}{b:Bool}(c:RV K ρ H u x)(a:RV K ρ H w y)(e:Ak u w=some b):CA x=true/\CA y=true/\Il x y=b:=by
 cases u<;>cases w<;>simp![Ak,Xl,reduceCtorEq]at e<;>(subst e;cases c;cases a;exact⟨rfl,rfl,rfl⟩)
def dm:∀{S f:List U} {vs:List V} {b:Bool},RVs K ρ H S vs->RVs K ρ H f vs->Ap S f=some b->b=true
 |[],[],_,b,_,_,e=>by simpa[Ap]using e.symm
 |[],_::_,_,b,_,_,e=>by simp[Ap]at e
 |_::_,[],_,b,_,_,e=>by simp[Ap]at e
 |u::S,w::f,_,b,h1,h2,e=>by
  let⟨v,r,rfl,l,k⟩:=h1;let⟨m,n,h,j,i⟩:=h2;cases h;simp![Ap]at e;cases a:Ak u w with
  |none=>simp[a]at e
  |some c=>
   cases g:Ap S f with
   |none=>simp[a,g]at e
   |some d=>
    simp![a,g,Xl]at e;subst e;rw[dm k i g];have:c=true:=by
     cases u<;>cases w<;>simp![Ak,Xl,reduceCtorEq]at a<;>(subst a;cases l;cases j;try simp)
    simp[this]
def Jj:U->Bool
 |.ZJ|.bl _|.int _|.str _=>true
 |_=>false
def kN{z:U}{b:Bool}(e:Ak u z=some b):Jj u=true:=by
 cases u<;>first|rfl|(cases z<;>cases e)
def acu{a:U}(c:RV K ρ H u v)(b:RV K ρ H a v)(e:Jj u=true)(d:Jj a=true):u=a:=by
 cases u<;>first|(cases e;done)|(cases c;cases a<;>first|(cases d;done)|(cases b<;>rfl))
def oY{a z c:U}{b h:Bool}(f:RV K ρ H u v)(d:RV K ρ H a v)(e:Ak u z=some b)(g:Ak a c=some h):u=a:=acu f d (kN e) (kN g)
def kX:∀{S g f:List U} {vs:List V} {b j:Bool},RVs K ρ H S vs->RVs K ρ H g vs->Ap S f=some b->Ap g f=some j->S=g
 |[],_,_,_,_,_,h1,h2,_,_=>by
  cases h1;have:=h2.length;simp at this;exact this.symm
 |_::_,_,[],_,_,_,_,_,e,_=>by simp[Ap]at e
 |u::S,[],_,_,_,_,h1,h2,_,_=>by
  let⟨v,r,rfl,_,_⟩:=h1;cases h2
 |u::S,l::g,z::f,_,b,j,h1,h2,e,e'=>by
  let⟨v,r,rfl,p,o⟩:=h1;let⟨s,t,q,n,m⟩:=h2;cases q;simp![Ap]at e e';cases h:Ak u z with
  |none=>simp[h]at e
  |some c=>
   cases i:Ap S f with
   |none=>simp[h,i]at e
   |some d=>
    cases a:Ak l z with
    |none=>simp[a]at e'
    |some c'=>
     cases k:Ap g f with
     |none=>simp[a,k]at e'
     |some d'=>rw[oY p n h a,kX o m i k]
def dw{w:U}{b:Bool}(e:IF u w=some b):(∃S a,u=.ZY S/\w=.ZY a/\Ap S a=some b)\/Ak u w=some b:=by
 cases u<;>cases w<;>first|exact .inr e|exact .inl ⟨_,_,rfl,rfl,e⟩
end
section
variable{O:L2.St}
def xO{w:U}{x:V}{v i:Value}{b:Bool}(h:RV K ρ H u x)(d:RV K ρ H w y)(g:RelV x v)(c:RelV y i)(e:Ak u w=some b):SeqAt.RcAt A s v i b:=by
 cases u with
 |ZJ=>
  cases h;cases g;cases w<;>simp![Ak,Xl,reduceCtorEq]at e
  .subst e;cases d;cases c;exact SeqAt.RcAt.none_none
  .subst e;cases d;cases c;exact SeqAt.RcAt.none_bool _
  .subst e;cases d;let⟨f,rfl⟩:=c;exact SeqAt.RcAt.none_int _ _
  .subst e;cases d;let⟨f,rfl⟩:=c;exact SeqAt.RcAt.none_str _ _
 |bl a=>
  cases h;cases g;cases w<;>simp![Ak,Xl,reduceCtorEq]at e
  .subst e;cases d;cases c;exact SeqAt.RcAt.bool_none _
  .subst e;cases d;cases c;exact SeqAt.RcAt.bool_bool _ _
  .subst e;cases d;let⟨f,rfl⟩:=c;exact SeqAt.RcAt.bool_int _ _ _
  .subst e;cases d;let⟨f,rfl⟩:=c;exact SeqAt.RcAt.bool_str _ _ _
 |int a=>
  cases h;let⟨t,rfl⟩:=g;cases w<;>simp![Ak,Xl,reduceCtorEq]at e
  .subst e;cases d;cases c;exact SeqAt.RcAt.int_none _ _
  .subst e;cases d;cases c;exact SeqAt.RcAt.int_bool _ _ _
  .subst e;cases d;let⟨f,rfl⟩:=c;exact SeqAt.RcAt.int_int _ _ _ _
  .subst e;cases d;let⟨f,rfl⟩:=c;exact SeqAt.RcAt.int_str _ _ _ _
 |str a=>
  cases h;let⟨t,rfl⟩:=g;cases w<;>simp![Ak,Xl,reduceCtorEq]at e
  .subst e;cases d;cases c;exact SeqAt.RcAt.str_none _ _
  .subst e;cases d;cases c;exact SeqAt.RcAt.str_bool _ _ _
  .subst e;cases d;let⟨f,rfl⟩:=c;exact SeqAt.RcAt.str_int _ _ _ _
  .subst e;cases d;let⟨f,rfl⟩:=c;exact SeqAt.RcAt.str_str _ _ _ _
 |_=>simp[Ak]at e
def jd{K:HF}{ρ:List Addr}:∀{S G:List U} {xs Z:List V} {vs R:List Value} {b:Bool},RVs K ρ H S xs->RVs K ρ H G Z->ZH xs vs->ZH Z R->Ap S G=some b ->
  ∃e:Nat->Bool,vs.length=R.length/\(∀j (h1:j<vs.length) (z:j<R.length),SeqAt.EqAt A s vs[j] R[j] (e j))/\(List.range vs.length).all e=b
 |[],[],_,_,_,_,b,h1,z,F,B,e=>by
  cases h1;cases z;cases F;cases B;simp![Ap,Xl]at e;subst e;exact⟨λ_=>true,rfl,λj h1=>absurd h1 (by simp),rfl⟩
 |[],_::_,_,_,_,_,b,h1,z,F,B,e=>by simp[Ap]at e
 |_::_,[],_,_,_,_,b,h1,z,F,B,e=>by simp[Ap]at e
 |u::S,w::G,_,_,_,_,b,h1,z,F,B,e=>by
  let⟨x,xs,rfl,a1,a2⟩:=h1;let⟨y,Z,rfl,b1,b2⟩:=z;cases F with
  |cons rx F=>
  cases B with
  |cons ry B=>
  simp![Ap]at e;cases L:Ak u w with
  |none=>simp[L]at e
  |some c=>
   cases e1:Ap S G with
   |none=>simp[L,e1]at e
   |some d=>
    simp![L,e1,Xl]at e;subst e;let⟨f,l,hf,hd⟩:=jd a2 b2 F B e1;let⟨fx,fy,ev⟩:=a1.flat b1 L;refine⟨λj=>match j with|0=>c|j+1=>f j,by simp[l],λj h1 z=>?_,?_⟩
    .cases j with
     |zero=>subst ev;exact gy rx ry fx fy
     |succ j=>exact hf j (by simpa using h1) (by simpa using z)
    .subst hd
     rw[Uc,NM,List.all_cons,List.all_map]
     rfl
def pU{w:U}{x:V}{v F:Value}{b:Bool}(I:Z0 X Y O H s)(hu:A.units<cLine)(Z:RV X.K ρ H u x)(R:RV X.K ρ H w y)(L:RelV x v)(G:RelV y F)(e:IF u w=some b):SeqAt.RcAt A s v F b:=by
 by_cases ht:∃S ws,u=.ZY S/\w=.ZY ws
 .obtain ⟨S,ws,rfl,rfl⟩:=ht
  let⟨a,xs,rfl,B,z⟩:=Z;let⟨a',ys,rfl,h3,h4⟩:=R;cases L;cases G;let⟨ZU,q1,p1,_⟩:=I.tuple B.sq;let⟨its',q2,p2,_⟩:=I.tuple h3.sq;let⟨f,l,hf,hd⟩:=jd (A:=A.in1) (s:=s) z h4 q1 q2 e;have:=SeqAt.RcAt.tuples (A:=A) (s:=s) (l:=a) (b:=a') (items:=ZU.toArray) (items2:=its'.toArray) (e:=f) p1 p2 hu (λj B z=>by simpa using hf j (by simpa using B) (by simpa using z))
  have e2:((List.range (min ZU.toArray.size its'.toArray.size)).all f&&ZU.toArray.size==its'.toArray.size)=b:=by simp[<-l,hd]
  rw[e2]at this;exact this
 .have e':Ak u w=some b:=by
   cases u<;>cases w<;>first|exact e|exact absurd ⟨_,_,rfl,rfl⟩ ht
  exact xO Z R L G e'
def gU{w:U}{x:V}{v h:Value}{b:Bool}(I:Z0 X Y O H s)(k:A.units<cLine)(g:RV X.K ρ H u x)(f:RV X.K ρ H w y)(d:RelV x v)(c:RelV y h)(e:IF u w=some b):SeqAt.EqAt A s v h b:=by
 by_cases i:∃S ws,u=.ZY S/\w=.ZY ws
 .have rc:=pU I k g f d c e
  let⟨S,ws,rfl,rfl⟩:=i;let⟨a,C,rfl,o,n⟩:=g;let⟨z,B,rfl,m,l⟩:=f;cases d;cases c;by_cases j:a=z
  .subst j
   obtain rfl:=I.Uq o.sq m.sq;have:=dm n l e;subst this;exact NS _
  .exact SeqAt.EqAt.of_refs j rc
 .have t:Ak u w=some b:=by
   cases u<;>cases w<;>first|exact e|exact absurd ⟨_,_,rfl,rfl⟩ i
  let⟨q,p,r⟩:=g.flat f t;subst r;exact gy d c q p
def xt{w:U}{b:Bool}(I:Z0 X Y O H s)(d:RV X.K ρ H u y)(c:RV X.K ρ H w y)(e:IF u w=some b):b=true:=by
 rcases dw e with⟨S,ws,rfl,rfl,e⟩|e
 .obtain ⟨a,k,rfl,i,h⟩:=d
  let⟨l,j,q,g,f⟩:=c;cases q;obtain rfl:=I.Uq i.sq g.sq;exact dm h f e
 .have:=dm (b:=b&&true) (RVs.one d) (RVs.one c) (by simp![Ap,e])
  simpa using this
def dD{ρ:List Addr}{q:U->U->Option Bool}(t:∀u w x y v r b,RV X.K ρ H u x->RV X.K ρ H w y->RelV x v->RelV y r->q u w=some b->SeqAt.EqAt A s v r b):∀{S m:List U} {xs o:List V} {k its':List Value} {b:Bool},RVs X.K ρ H S xs->RVs X.K ρ H m o->ZH xs k->ZH o its'->IK q S m=some b ->
  ∃f:Nat->Bool,k.length=its'.length/\(∀j (h1:j<k.length) (a:j<its'.length),SeqAt.EqAt A s k[j] its'[j] (f j))/\(List.range k.length).all f=b
 |[],[],_,_,_,_,b,h1,a,i,g,e=>by
  cases h1;cases a;cases i;cases g;simp![IK,Xl]at e;subst e;exact⟨λ_=>true,rfl,λj h=>by simp at h,rfl⟩
 |[],_::_,_,_,_,_,_,_,_,_,_,e=>by simp[IK]at e
 |_::_,[],_,_,_,_,_,_,_,_,_,e=>by simp[IK]at e
 |u::S,w::m,_,_,_,_,b,h1,a,i,g,e=>by
  let⟨x,xs,rfl,I,G⟩:=h1;let⟨y,o,rfl,F,E⟩:=a;cases i with
  |cons B i=>
  cases g with
  |cons z g=>
  simp![IK]at e;cases n:q u w with
  |none=>simp[n]at e
  |some c=>
   cases p:IK q S m with
   |none=>simp[n,p]at e
   |some d=>
    simp![n,p,Xl]at e;subst e;let⟨f,l,C,D⟩:=dD t G E i g p;refine⟨λj=>match j with|0=>c|j+1=>f j,by simp[l],λj h1 a=>?_,?_⟩
    .cases j with
     |zero=>exact t u w x y _ _ c I F B z n
     |succ j=>exact C j (by simpa using h1) (by simpa using a)
    .subst D
     rw[Uc,NM,List.all_cons,List.all_map]
     rfl
def lI{ρ:List Addr}{q:U->U->Option Bool}(h:∀u w y b,RV X.K ρ H u y->RV X.K ρ H w y->q u w=some b->b=true):∀{S a:List U} {xs:List V} {b:Bool},RVs X.K ρ H S xs->RVs X.K ρ H a xs->IK q S a=some b->b=true
 |[],[],_,b,_,_,e=>by simpa[IK]using e.symm
 |[],_::_,_,_,_,_,e=>by simp[IK]at e
 |_::_,[],_,_,_,_,e=>by simp[IK]at e
 |u::S,w::a,_,b,h1,h2,e=>by
  let⟨x,xs,rfl,l,k⟩:=h1;let⟨y,m,z,j,i⟩:=h2;cases z;simp![IK]at e;cases f:q u w with
  |none=>simp[f]at e
  |some c=>
   cases g:IK q S a with
   |none=>simp[f,g]at e
   |some d=>
    simp![f,g,Xl]at e;rw[<-e,h u w _ c l j f,lI h k i g]
    rfl
def abf{w:U}{x:V}{v L:Value}{b:Bool}(I:Z0 X Y O H s)(hu:A.units+1<cLine)(r1:RV X.K ρ H u x)(r2:RV X.K ρ H w y)(rx:RelV x v)(Z:RelV y L)(e:Cd u w=some b):SeqAt.EqAt A s v L b:=by
 by_cases ht:∃S ws,u=.ZY S/\w=.ZY ws
 .obtain ⟨S,ws,rfl,rfl⟩:=ht
  let⟨a,xs,rfl,G,F⟩:=r1;let⟨a',ys,rfl,h3,h4⟩:=r2;cases rx;cases Z;have e:IK IF S ws=some b:=e;by_cases ha:a=a'
  .subst ha
   obtain rfl:=I.Uq G.sq h3.sq;have:=lI (λu w y b B z R=>xt I B z R) F h4 e;subst this;exact NS _
  .refine SeqAt.EqAt.of_refs ha ?_
   let⟨ZU,B,p1,_⟩:=I.tuple G.sq;let⟨its',z,p2,_⟩:=I.tuple h3.sq;let⟨f,l,hf,hd⟩:=dD (A:=A.in1) (s:=s) (λu w x y v L b B z R q4 q5=>gU (A:=A.in1) I hu B z R q4 q5) F h4 B z e;have:=SeqAt.RcAt.tuples (A:=A) (s:=s) (l:=a) (b:=a') (items:=ZU.toArray) (items2:=its'.toArray) (e:=f) p1 p2 () (λj G F=>by simpa using hf j (by simpa using G) (by simpa using F))
   have e2:((List.range (min ZU.toArray.size its'.toArray.size)).all f&&ZU.toArray.size==its'.toArray.size)=b:=by simp[<-l,hd]
   rw[e2]at this;exact this
 .have e':Ak u w=some b:=by
   cases u<;>cases w<;>first|exact e|exact absurd ⟨_,_,rfl,rfl⟩ ht
  let⟨fx,fy,ev⟩:=r1.flat r2 e';subst ev;exact gy rx Z fx fy
end
section
variable{W:XQ}
inductive OpX(X:Cx)(f:U->U->G->Option Bool)(x y:V)(H:Hp)(Q:VK):Prop
 |mk (ρ:List Addr) (g:G) (u w:U) (b:Bool) (hg:RH X.K ρ H g) (r1:RV X.K ρ H u x) (r2:RV X.K ρ H w y) (e:f u w g=some b) (q:Q (.bl b) H)
def zL(i:X.A.units<cLine):OpR X (compareOp .Eq) (OpX X λu w _=>IF u w):=by
 intro Y s O H x y v u Q I d c ⟨ρ,g,a,w,b,j,h,f,e,q⟩;exact pU I i h f d c e X.prog X.w X.xe _ ⟨.bl b,H,I,rfl,q⟩
def jR{x y:U}{p:List U×List U}(e:AX x y g=some p):∃n m,x=.ref n/\y=.ref m/\g[n]?=some (.Z5 p.1)/\g[m]?=some (.Z5 p.2):=by
 unfold AX at e;split at e
 .split at e
  .split at e
   .split at e
    .rename_i b _ _ a
     cases e;exact⟨_,_,rfl,rfl,b,a⟩
    .cases e
   .cases e
  .cases e
 .cases e
def abx(L:X.A.units+2<cLine):OpR X (compareOp .Eq) (OpX X λu w g=>(AX u w g).bind λp=>IL p.1 p.2):=by
 intro Y s O H x y v u Q I D C ⟨ρ,g,a,w,b,o,F,E,hl,q⟩;let⟨p,hl,e⟩:=UA.mp hl;let⟨n,m,rfl,rfl,g1,g2⟩:=jR hl;let⟨a1,Z,U,T,t⟩:=o.Z5 g1;let⟨a2,ws,S,JP,r⟩:=o.Z5 g2;let⟨W,rfl,z⟩:=F;rw[U]at z;cases z;let⟨V,rfl,z⟩:=E;rw[S]at z;cases z;cases D;cases C;let⟨ZU,d,i,_⟩:=I.list (.of T);let⟨k,c,h,_⟩:=I.list (.of JP);unfold IL at e;split at e
 case isFalse B=>
  cases e;refine SeqAt.eq_list_lengthsAt i.isList h.isList ?_ () ⟨.bl false,H,I,rfl,q⟩
  rw[t.length,r.length,d.length,c.length]at B;simpa using B
 let⟨f,l,M,N⟩:=dD (A:=X.A.in1) (s:=s) (λu w x y v v' b d c K J G=>abf (A:=X.A.in1) I (by exact L) d c K J G) t r d c e
 refine SeqAt.eq_listAt (e:=f) i.isList h.isList (by simp[l]) () (λj R P=>by simpa using M j (by simpa using R) (by simpa using P)) ?_
 refine⟨.bl b,H,I,?_,q⟩;rw[<-N];simp![WQ]
 rfl
def cj{x:V}(h:RH K ρ H g)(d:RV K ρ H u x)(e:items u g=some S):∃a vs,x=.ref a/\(SqL K H a vs\/SqT K H a vs)/\RVs K ρ H S vs:=by
 cases u with
 |ZY xs=>let⟨a,vs,rfl,b,c⟩:=d;cases e;exact⟨a,vs,rfl,.inr b.sq,c⟩
 |Zy xs=>let⟨a,vs,rfl,b,c⟩:=d;cases e;exact⟨a,vs,rfl,.inl b.sq,c⟩
 |xn _ xs=>let⟨a,vs,rfl,b,c⟩:=d;cases e;exact⟨a,vs,rfl,.inr b.sq,c⟩
 |ref n=>
  let⟨a,rfl,f⟩:=d;simp![items]at e;cases eg:g[n]? with
  |none=>simp[eg]at e
  |some o=>
   cases o with
   |Z5 xs=>
    simp![eg,Xl]at e;subst e;let⟨j,vs,b,c,i⟩:=h.Z5 eg;rw[f]at b;cases b;exact⟨a,vs,rfl,.inl (.of c),i⟩
   |ZF _=>simp[eg]at e
   |YG _=>simp[eg]at e
   |dst _=>simp[eg]at e
   |ins _ _=>simp[eg]at e
 |_=>simp[items]at e
def xQ{O:L2.St}{w d:U}{c i:Bool}(I:Z0 X Y O H s)(h:RV X.K ρ H w y)(g:RV X.K ρ H d y)(e:IF w u=some c)(b:IF d u=some i):c=i:=by
 have key:w=d:=by
  rcases dw e with⟨S,zs,rfl,rfl,e⟩|e
  .rcases dw b with⟨n,f,rfl,q,b⟩|b
   .cases q
    let⟨a,o,rfl,m,l⟩:=h;let⟨p,r,q,k,j⟩:=g;cases q;obtain rfl:=I.Uq m.sq k.sq;rw[kX l j e b]
   .cases d<;>simp[Ak]at b
  .rcases dw b with⟨n,f,rfl,rfl,b⟩|b
   .cases w<;>simp[Ak]at e
   .exact oY h g e b
 subst key;rw[e]at b;exact TQ b
def iF{a:Type}{e f:a->Bool}:∀{l:List a},(∀z∈l,e z=f z)->l.any e=l.any f
 |[],_=>rfl
 |x::l,h=>by rw[S_,S_,h x HD,iF λz b=>h z (Hy _ b)]
def cg{ρ:List Addr}{H:Hp}{Y:List (Addr×Obj)}{O:L2.St}{s:Shared}{A:Around}{u:U}{x:V}{v:Value}(I:Z0 X Y O H s)(C:A.units<cLine)(B:RV X.K ρ H u x)(t:RelV x v):
  ∀{S:List U} {vs:List V} {j:List Value} {b:Bool},RVs X.K ρ H S vs->ZH vs j->II u S=some b ->
   ∃e:Value->Bool,(∀y∈j,SeqAt.EqAt A s y v (e y))/\j.any e=b /\∀w y a c,RV X.K ρ H w y->RelV y a->a∈j->IF w u=some c->e a=c
 |[],_,_,b,h,q,e=>by
  cases h;cases q;simp![II,Xl]at e;subst e;exact⟨λ_=>false,λy n=>by simp at n,rfl,λ_ _ _ _ _ _ o=>by simp at o⟩
 |w::S,_,_,b,h,q,e=>by
  let⟨y,R,rfl,r,Q⟩:=h;cases q with
  |cons l q=>
  rename_i a j;simp![II]at e;cases i:IF w u with
  |none=>simp[i]at e
  |some c=>
   cases p:II u S with
   |none=>simp[i,p]at e
   |some d=>
    simp![i,p,Xl]at e;subst e;let⟨f,M,N,D⟩:=cg I C B t Q q p;have n:SeqAt.EqAt A s a v c:=gU I C r B l t i;have same:∀z∈j,(if z=a then c else f z)=f z:=λz m=>by
     by_cases g:z=a
     .subst g
      rw[Y2 rfl];exact(D w y _ c r l m i).symm
     .rw [YH g]
    refine⟨λz=>if z=a then c else f z,λz m=>?_,?_,λL J k P F E o G=>?_⟩
    .by_cases g:z=a
     .subst g;simpa using n
     .rcases Vh.mp m with h|h
      .exact absurd h g
      .simpa [g]using M z h
    .rw [S_,iF same,N]
     simp
    .by_cases g:k=a
     .subst g
      obtain rfl:=E.inj l;simpa using(xQ I r F i G)
     .rcases Vh.mp o with h|h
      .exact absurd h g
      .simpa [g]using D L J k P F E h G
def abq(t:X.A.units+1<cLine):OpR X (compareOp .In) (OpX X λu w g=>(items w g).bind (II u)):=by
 intro Y s O H x y v u Q I n z ⟨ρ,g,a,w,b,D,r,B,m,q⟩;let⟨S,m,e⟩:=UA.mp m;let⟨p,E,rfl,c,o⟩:=cj D B m;cases z;rcases c with c|c
 .obtain ⟨d,h,i,C⟩:=I.list c
  let⟨f,k,l,_⟩:=cg (A:=X.A.in1) I (by exact t) r n o h e
  exact SeqAt.in_listAt f i.isList (λw j=>k w (by simpa using j)) ⟨.bl b,H,I,by rw[show d.toArray.any f=d.any f by simp,l];rfl,q⟩
 .obtain ⟨d,h,i,C⟩:=I.tuple c
  let⟨f,k,l,_⟩:=cg (A:=X.A.in1) I (by exact t) r n o h e
  exact SeqAt.in_tupleAt f i (λw j=>k w (by simpa using j)) ⟨.bl b,H,I,by rw[show d.toArray.any f=d.any f by simp,l];rfl,q⟩
def zb(r:X.A.units+1<cLine):OpR X (compareOp .NotIn) (OpX X λu w g=>(items w g).bind λS=>(II u S).map (!·)):=by
 intro Y s O H x y v u Q I m t ⟨ρ,g,a,w,J,C,o,z,F,q⟩;let⟨S,D,E⟩:=UA.mp F;let⟨b,e,rfl⟩:=Vu.mp E;let⟨p,G,rfl,c,n⟩:=cj C z D;cases t;rcases c with c|c
 .obtain ⟨d,h,i,B⟩:=I.list c
  let⟨f,k,l,_⟩:=cg (A:=X.A.in1) I (by exact r) o m n h e
  exact SeqAt.notIn_listAt f i.isList (λw j=>k w (by simpa using j)) ⟨.bl (!b),H,I,by rw[show d.toArray.any f=d.any f by simp,l];rfl,q⟩
 .obtain ⟨d,h,i,B⟩:=I.tuple c
  let⟨f,k,l,_⟩:=cg (A:=X.A.in1) I (by exact r) o m n h e
  exact SeqAt.notIn_tupleAt f i (λw j=>k w (by simpa using j)) ⟨.bl (!b),H,I,by rw[show d.toArray.any f=d.any f by simp,l];rfl,q⟩
end
open PySem PySem.Spec PyProof.Rows L2 PySem.W
inductive F2{α β:Type}(R:α->β->Prop):List α->List β->Prop
 |nil:F2 R [] []
 |cons {a:α} {b:β} {l:List α} {m:List β}:R a b->F2 R l m->F2 R (a::l) (b::m)
section
variable{R:α->β->Prop}
def PR(R:α->β->Prop)(p:Str×α)(q:Str×β):Prop:=p.1=q.1/\R p.2 q.2
end
set_option genInjectivity false in
structure KF where
 ns:List Str
 ks:List Str
 dd:List (Str×U)
structure KFok(K:Frag)(fd:FuncData)(F:KF)(nd:Nat)(ddV:List (Str×V))(dd:List (Str×Value)):Prop where
 h1:fd.params.posonlyargs=[]
 h2:fd.params.args.map (·.arg)=F.ns
 h3:fd.params.vararg=none
 h4:fd.params.kwonlyargs.map (·.arg)=F.ks
 h5:fd.params.kwarg=none
 ds:∃(dsv:List Value) (kd:Str->Value),(∀(M:Model) (h:Heap),K.In h ->∃od:Option (Array Value),(od.getD #[]).toList=dsv/\Looks M h (seqItems? fd.defaults) od)/\dsv.length=nd/\nd<=F.ns.length /\
  (∀n∈F.ks,∃d,fd.kwdefaults=.ref d/\nsIn K d n=some (some (kd n)))/\dd=(F.ns.drop (F.ns.length-nd)).zip dsv++F.ks.map λn=>(n,kd n)
 rel:F2 (PR RelV) ddV dd
 urel:F2 (PR λu v=>∀ρ H,RV K ρ H u v) F.dd ddV
open PySem PySem.Spec PyProof.Rows L2
section
def bB{a b:List Int}:(a.map (Sum.inl:Int->Key)=b.map Sum.inl)↔a=b:=
 ⟨λh=>(List.map_inj_right (λx y e=>Sum.inl.inj e)).mp h,λh=>by rw[h]⟩
def RD.val(k:List Int):∀{b:List (List Int×U)} {a:List (List Key×V)},RD K ρ H b a->(AD a (k.map Sum.inl)).isSome=(AN b k).isSome
 |[],_,h=>by cases h;rfl
 |(k',u)::r,_,h=>by
  let⟨v,s,rfl,d,c⟩:=h;by_cases e:k'=k
  .rw [bM (bB.mpr e)]
   simp[AN,Qm,e]
  .rw [bL (λz=>e (bB.mp z)),RD.val k c]
   simp[AN,Qm,e]
def RD.got(k:List Int){u:U}:∀{b:List (List Int×U)} {a:List (List Key×V)},RD K ρ H b a->AN b k=some u ->∃v,AD a (k.map Sum.inl)=some v/\RV K ρ H u v
 |[],_,h,e=>by cases e
 |(k',f)::r,_,h,e=>by
  let⟨v,s,rfl,d,c⟩:=h;by_cases z:k'=k
  .rw [bM (bB.mpr z)]
   simp[AN,Qm,z]at e;subst e;exact⟨v,rfl,d⟩
  .rw [bL (λy=>z (bB.mp y))]
   exact RD.got k c (by simpa[AN,Qm,z]using e)
def RD.at:∀{d:List (List Int×U)} {a:List (List Key×V)} {i:Nat} {k:List Int} {u:U},RD K ρ H d a->d[i]?=some (k,u) ->∃v,a[i]?=some (k.map Sum.inl,v)/\RV K ρ H u v
 |[],_,_,_,_,_,e=>by simp at e
 |(k',f)::r,_,0,k,u,h,e=>by
  let⟨v,s,rfl,c,b⟩:=h;simp at e;let⟨rfl,rfl⟩:=e;exact⟨v,by simp,c⟩
 |(k',f)::r,_,i+1,k,u,h,e=>by
  let⟨v,s,rfl,c,b⟩:=h;let⟨x,j,g⟩:=RD.at (i:=i) b (by simpa using e)
  exact⟨x,by simpa using j,g⟩
def RD.any(k:List Int):∀{c:List (List Int×U)} {b:List (List Key×V)},RD K ρ H c b->(b.any λa=>decide (a.1=k.map Sum.inl))=c.any λa=>decide (a.1=k)
 |[],_,h=>by cases h;rfl
 |(k',u)::r,_,h=>by
  let⟨v,s,rfl,e,d⟩:=h;rw[S_,S_,RD.any k d];congr 1;exact decide_eq_decide.mpr bB
def RD.len:∀{b:List (List Int×U)} {a:List (List Key×V)},RD K ρ H b a->b.length=a.length
 |[],_,h=>by cases h;rfl
 |(k',u)::r,_,h=>by
  let⟨v,s,rfl,d,c⟩:=h;simp[RD.len c]
def RD.snoc{k:List Int}{u:U}{v:V}(q:RV K ρ H u v):∀{b:List (List Int×U)} {a:List (List Key×V)},RD K ρ H b a->RD K ρ H (b++[(k,u)]) (a++[(k.map Sum.inl,v)])
 |[],_,h=>by cases h;exact⟨v,[],rfl,q,rfl⟩
 |(k',e)::r,_,h=>by
  let⟨w,s,rfl,d,c⟩:=h;exact⟨w,_,rfl,d,RD.snoc q c⟩
def RD.WY{k:List Int}{u:U}{v:V}(q:RV K ρ H u v):∀{d:List (List Int×U)} {b:List (List Key×V)},RD K ρ H d b ->
  RD K ρ H (d.map λa=>if a.1=k then(a.1,u)else a) (b.map λa=>if a.1=k.map Sum.inl then(a.1,v)else a)
 |[],_,h=>by cases h;rfl
 |(k',g)::r,_,h=>by
  let⟨w,s,rfl,f,c⟩:=h;rw[W1,W1];by_cases e:k'=k
  .rw [Y2 e,Y2 (bB.mpr e)];exact⟨v,_,rfl,q,RD.WY q c⟩
  .rw [YH e,YH (λz=>e (bB.mp z))];exact⟨w,_,rfl,f,RD.WY q c⟩
def RD.put{k:List Int}(q:RV K ρ H u v){b:List (List Int×U)}{a:List (List Key×V)}(h:RD K ρ H b a):RD K ρ H (dput b k u) (putK a (k.map Sum.inl) v):=by
 unfold dput putK;rw[h.any k];split
 .exact h.WY q
 .exact h.snoc q
def RK.len:∀{b:List (Str×U)} {a:List (Key×V)},RK K ρ H b a->b.length=a.length
 |[],_,h=>by cases h;rfl
 |(k',u)::r,_,h=>by
  let⟨v,s,rfl,d,c⟩:=h;simp[RK.len c]
def RK.got(k:Str){u:U}:∀{b:List (Str×U)} {a:List (Key×V)},RK K ρ H b a->BF b k=some u ->∃v,AD a (Sum.inr k)=some v/\RV K ρ H u v
 |[],_,h,e=>by cases e
 |(k',f)::r,_,h,e=>by
  let⟨v,s,rfl,d,c⟩:=h;by_cases z:k'=k
  .rw [bM (QU Sum.inr z)]
   simp[BF,Qm,z]at e;subst e;exact⟨v,rfl,d⟩
  .rw [bL (λy=>z (NY y))]
   exact RK.got k c (by simpa[BF,Qm,z]using e)
def RK.any(k:Str):∀{c:List (Str×U)} {b:List (Key×V)},RK K ρ H c b->(b.any λa=>decide (a.1=Sum.inr k))=c.any λa=>decide (a.1=k)
 |[],_,h=>by cases h;rfl
 |(k',u)::r,_,h=>by
  let⟨v,s,rfl,e,d⟩:=h;rw[S_,S_,RK.any k d];congr 1;exact decide_eq_decide.mpr ⟨NY,QU Sum.inr⟩
def RK.snoc{k:Str}{u:U}{v:V}(q:RV K ρ H u v):∀{b:List (Str×U)} {a:List (Key×V)},RK K ρ H b a->RK K ρ H (b++[(k,u)]) (a++[(Sum.inr k,v)])
 |[],_,h=>by cases h;exact⟨v,[],rfl,q,rfl⟩
 |(k',e)::r,_,h=>by
  let⟨w,s,rfl,d,c⟩:=h;exact⟨w,_,rfl,d,RK.snoc q c⟩
def RK.WY{k:Str}{u:U}{v:V}(q:RV K ρ H u v):∀{d:List (Str×U)} {b:List (Key×V)},RK K ρ H d b ->
  RK K ρ H (d.map λa=>if a.1=k then(a.1,u)else a) (b.map λa=>if a.1=Sum.inr k then(a.1,v)else a)
 |[],_,h=>by cases h;rfl
 |(k',g)::r,_,h=>by
  let⟨w,s,rfl,f,c⟩:=h;rw[W1,W1];by_cases e:k'=k
  .rw [Y2 e,Y2 (QU Sum.inr e)];exact⟨v,_,rfl,q,RK.WY q c⟩
  .rw [YH e,YH (λz=>e (NY z))];exact⟨w,_,rfl,f,RK.WY q c⟩
def RK.put{k:Str}(q:RV K ρ H u v){b:List (Str×U)}{a:List (Key×V)}(h:RK K ρ H b a):RK K ρ H (DW b k u) (putK a (Sum.inr k) v):=by
 unfold DW putK;rw[h.any k];split
 .exact h.WY q
 .exact h.snoc q
def aaV{y:U}{d:V}{c:List (Str×U)}(k:RH K ρ H g)(i:RV K ρ H y d)(e:IJ y g=some c):∃n a b,y=.ref n/\g[n]?=some (.dst c)/\ρ[n]?=some a/\d=.ref a/\H a=some (.dK b)/\RK K ρ H c b:=by
 cases y with
 |ref n=>
  simp![IJ]at e;cases eg:g[n]? with
  |none=>rw[eg]at e;cases e
  |some ob=>
   cases ob with
   |dst o=>
    rw[eg]at e;cases e;let⟨a,b,f,l,j⟩:=k.dst eg;let⟨m,rfl,h⟩:=i;rw[f]at h;cases h;exact⟨n,_,b,rfl,eg,f,rfl,l,j⟩
   |_=>rw[eg]at e;cases e
 |_=>cases e
def dq:∀{S:List U} {a:List Int} {vs:List V},intsOf S=some a->RVs K ρ H S vs->vs=a.map V.int
 |[],_,_,e,h=>by cases e;cases h;rfl
 |u::S,a,vs,e,h=>by
  let⟨v,r,rfl,c,b⟩:=h;cases u with
  |int i=>
   simp![intsOf]at e;let⟨m,d,rfl⟩:=Vu.mp e;cases c;rw[dq d b];rfl
  |_=>cases e
def eC{x:U}{k:List Int}(e:keyOf x=some k)(r:RV K ρ H x v):∃b,v=.ref b/\H b=some (.ZY ((k.map Sum.inl).map H8)):=by
 cases x with
 |ZY S=>
  let⟨a,c,rfl,f,d⟩:=r;refine⟨a,rfl,?_⟩;rw[show H a=some (.ZY c)from f,dq e d,Qz]
  rfl
 |_=>cases e
def fR{x y:U}{p m:V}{o:Option U}(s:RH K ρ H g)(r:RV K ρ H x p)(q:RV K ρ H y m)(e:AK x y g=some o):∃a h,m=.ref a/\DGet H a p h/\h.isSome=o.isSome /\∀u,o=some u ->∃v,h=some v/\RV K ρ H u v:=by
 unfold AK at e;cases c:Ye y g with
 |none=>rw[c]at e;cases e
 |some Z4=>
  rw[c]at e;let⟨k,w,rfl⟩:=Vu.mp e;cases y with
  |ref n=>
   simp![Ye]at c;cases eg:g[n]? with
   |none=>rw[eg]at c;cases c
   |some ob=>
    cases ob with
    |ZF B=>
     rw[eg]at c;cases c;let⟨a,ws,i,l,d⟩:=s.ZF eg;let⟨A,rfl,f⟩:=q;rw[i]at f;cases f;let⟨b,rfl,j⟩:=eC w r;exact⟨a,_,rfl,DGet.t l j,d.val k,λu z=>d.got k z⟩
    |YG B=>
     rw[eg]at c;cases c;let⟨a,ob,ws,i,l,d⟩:=s.YG eg;let⟨A,rfl,f⟩:=q;rw[i]at f;cases f;let⟨b,rfl,j⟩:=eC w r;exact⟨a,_,rfl,.inr ⟨ws,_,b,.inr ⟨ob,l⟩,rfl,j,rfl⟩,d.val k,λu z=>d.got k z⟩
    |_=>rw[eg]at c;cases c
  |_=>cases c
end
section
def aaf(d:X.A.units+1<cLine):OpR X (compareOp .In) (λy x H Q=>∃a o,x=.ref a/\DGet H a y o/\Q (.bl o.isSome) H):=by
 intro Y s O H y x v u Q I b c ⟨a,o,e,g,q⟩;subst e;obtain rfl:u=Value.ref a:=c;exact ac4 d I g b λh f=>⟨.bl o.isSome,H,f,rfl,q⟩
def zf(d:X.A.units+1<cLine):OpR X (compareOp .NotIn) (λy x H Q=>∃a o,x=.ref a/\DGet H a y o/\Q (.bl (!o.isSome)) H):=by
 intro Y s O H y x v u Q I b c ⟨a,o,e,g,q⟩;subst e;obtain rfl:u=Value.ref a:=c;exact zj d I g b λh f=>⟨.bl (!o.isSome),H,f,rfl,q⟩
def nZ{r c:R2}(h:OpR X f r)(h':OpR X f c):OpR X f (λx y H Q=>r x y H Q\/c x y H Q):=λY s O H x y v u Q I b a q=>
 q.elim (λq=>h Y s O H x y v u Q I b a q) λq=>h' Y s O H x y v u Q I b a q
def acJ{O:L2.St}{k:List Key}{r:Value}{E:Value->Shared->Prop}{Q:Unit->Shared->Prop}(R:X.A.units+1<cLine)(I:L2.Z0 X Y O H s)(e:H a=some (.dT Z4))(G:H b=some (.ZY (k.map H8)))(l:Z4.length<sizeLine)(L:RelV v r)
  (h:∀u,L2.Z0 X Y O (upd H a (.dT (putK Z4 k v))) u->Q Unit.unit u):wpAny (model X.prog X.w) X.A (dictSet a (.ref b) r) Q E s:=by
 let⟨z,hd,xs,j,dd⟩:=qz I.ZK e;refine wpAny_dictSet_heap (hsz:=by rw[<-Oo j];exact z) (by exact Nat.lt_of_succ_lt R) (bU I.ZK G) dd λh' UR hs=>h _ ?_
 let⟨q,es,ep,B,h2,Z,h4,_,S⟩:=UR;refine gq I (by rw[e];exact True.intro) hs ⟨q,B⟩ ⟨by have:=eX Z4 k v;omega,hd,_,(j.put k G L).keeps λc ys F=>?_,q,es,ep,B,h2,Z,h4,S⟩
 rw[aa (cY F e (λz=>nomatch z))];exact F
def GL:Ce:=λo i v H Q=>∃a b,o=.ref a/\DPut H a i v b/\Q b
def set_dict(h:X.A.units+1<cLine):BW X GL:=by
 intro Y s O H o i v f l u Q I c d b ⟨a,H',e,g,q⟩;subst e;obtain rfl:f=Value.ref a:=c;exact u9 h I g d b λk j=>⟨H',j,q⟩
def yR{r d:Ce}(h:BW X r)(h':BW X d):BW X (λo i v H Q=>r o i v H Q\/d o i v H Q):=λY s O H o i v e f u Q I b c a q=>
 q.elim (λq=>h Y s O H o i v e f u Q I b c a q) λq=>h' Y s O H o i v e f u Q I b c a q
end
def insI_perm(a:Int):∀r:List Int,(insI a r).Perm (a::r)
 |[]=>.refl _
 |b::r=>by
  simp![insI];split
  .exact .refl _
  .exact ((insI_perm a r).cons b).trans (.swap a b r)
def sortI_perm:∀r:List Int,(sortI r).Perm r
 |[]=>.refl _
 |a::r=>(insI_perm a _).trans ((sortI_perm r).cons a)
def yC{b:Int}(a:Int):∀{r:List Int},b<=a->(∀x∈r,b<=x) ->∀x∈insI a r,b<=x:=λ{r} h h' x hx=>by
 rcases Vh.mp ((insI_perm a r).mem_iff.mp hx)with rfl|z
 .exact h
 .exact h' x z
def j8(a:Int):∀{r:List Int},r.Pairwise (· <= ·)->(insI a r).Pairwise (· <= ·)
 |[],_=>by simp[insI]
 |b::r,h=>by
  let⟨c,f⟩:=Qa.mp h;simp![insI];split
  .rename_i d
   exact Qa.mpr ⟨λx e=>by rcases Vh.mp e with rfl|z;exact d;exact Int.le_trans d (c x z),h⟩
  .exact Qa.mpr ⟨yC a () c,j8 a f⟩
def i8:∀r:List Int,(sortI r).Pairwise (· <= ·)
 |[]=>.nil
 |a::r=>j8 a (i8 r)
def vY{a b:List Int}(c:a.Perm b)(e:a.Pairwise (· <= ·))(d:b.Pairwise (· <= ·)):a=b:=
 c.eq_of_pairwise (λx y _ _ g f=>Int.le_antisymm g f) e d
def j7:∀{ns:List Int} {S:List Value},ZH (ns.map V.int) S->IntsAre S ns
 |[],S,h=>by cases h;exact .nil
 |n::ns,S,h=>by
  cases h with
  |cons r t=>
   let⟨k,rfl⟩:=r;exact .cons n k (j7 t)
def wj:∀{ns:List Int} {S:List Value},IntsAre S ns->ZH (ns.map V.int) S:=λh=>fA h
section
def xw:CallR X (.builtin "sorted") (λxs H Q=>∃(p:Addr) (ns:List Int),xs=[.ref p]/\H p=some (.Z5 (ns.map V.int))/\ns.length<64 /\∀l,H l=none->Q (.ref l) (upd H l (.Z5 ((sortI ns).map V.int)))):=by
 intro Y s O H xs S Q I r ⟨p,ns,e,hp,hl,q⟩;subst e;let⟨u,rfl,z⟩:=vals1 r;cases z;let⟨ZU,B,F,hz⟩:=I.list (SqL.of hp);have hi:=j7 B;refine sorted_ints F.isList hi (by rw[hi.length];exact hl) λout j a1 a2 Z=>?_
 let⟨c,L⟩:=sortedAll_at s.heap ZU out;have R:j=sortI ns:=vY (a2.trans (sortI_perm ns).symm) Z (i8 ns);subst R;have G:H (s.heap.objs.size+1)=none:=I.ZK.fresh (Nq _);refine⟨.ref (s.heap.objs.size+1),_,I.laid (t':=s.toks) (λ_ _=>sortedAll_old) (Nq _) (show ObjOk X.prog X.w _ _ _ (.Z5 ((sortI ns).map V.int))from⟨?_,out.toList,c,wj a1,?_⟩),rfl,q _ G⟩
 .rw [Z1,(sortI_perm ns).length_eq]
  exact Hv (Pk hl) (by decide)
 .exact L
end
section
def abb(hu:X.A.units+2<cLine):OpR X (compareOp .NotEq) (λx y H Q=>∃ρ S z b,RV X.K ρ H (.ZY S) x/\RV X.K ρ H (.ZY z) y/\IK IF S z=some b/\Q (.bl (!b)) H):=by
 intro Y s O H x y v u Q I Z R ⟨ρ,S,z,b,r1,r2,e,q⟩;let⟨a,xs,rfl,L,G⟩:=r1;let⟨a',ys,rfl,h3,h4⟩:=r2;cases Z;cases R;let⟨ZU,F,p1,_⟩:=I.tuple L.sq;let⟨its',B,p2,_⟩:=I.tuple h3.sq;let⟨f,l,hf,hd⟩:=dD (A:=X.A.in1) (s:=s) (λu w x y v v' b F B q3 q4 q5=>gU (A:=X.A.in1) I (show X.A.units+1<cLine by omega) F B q3 q4 q5) G h4 F B e
 refine SeqAt.RcNeAt.tuples (A:=X.A) (s:=s) (l:=a) (b:=a') (items:=ZU.toArray) (items2:=its'.toArray) (e:=f) p1 p2 () (λj L G=>by simpa using hf j (by simpa using L) (by simpa using G)) X.prog X.w X.xe _ ⟨.bl (!b),H,I,?_,q⟩
 have e2:((List.range (min ZU.toArray.size its'.toArray.size)).all f&&ZU.toArray.size==its'.toArray.size)=b:=by simp[<-l,hd]
 rw[e2]
 rfl
end
section
variable{W:XQ}{O:L2.St}
inductive RprX(X:Cx)(xs:List V)(H:Hp)(Q:VK):Prop
 |mk (ρ:List Addr) (g:G) (u:U) (x:V) (d:List (List Int)) (e:xs=[x]) (hg:RH X.K ρ H g) (r:RV X.K ρ H u x) (er:EJ u g=some d) (h1:(BS d).showable=true) (h2:(BS d).shown.length<=sizeLine) (q:Q (.str (BS d).shown) H)
end
section
variable{W:XQ}{a b c:Expr}{a' b' c':E}
def one{R:List Addr->Hp->α->β->Prop}{f:Su->G->Out U}{k:Su->U->G->Out α}{O:L2.St}{H:Hp}{Q:β->Hp->Prop}{B:V->Hp->Prop}
  (S:tR X.K W R (λj g=>(f j g).bind λx g=>k j x g) O H Q)
  (z:∀j ρ H g u x,RS X.K ρ H j O->RH X.K ρ H g->RV X.K ρ H u x->post X.K W R (k j u g) ρ H Q->B x H):tE X.K W f O H B:=by
 let⟨j,ρ,g,hs,Z,p⟩:=S;exact⟨j,ρ,g,hs,Z,(post.bind p).mono λx H1 ⟨ZM,u,g1,s1,h1,F,L⟩=>z j ZM H1 g1 u x (hs.step s1) h1 F L⟩
def two{R:List Addr->Hp->α->β->Prop}{f h:Su->G->Out U}{k:Su->U->U->G->Out α}{O:L2.St}{H:Hp}{Q:β->Hp->Prop}{B:V->V->Hp->Prop}
  (hp:tR X.K W R (λj g=>(f j g).bind λx g=>(h j g).bind λy g=>k j x y g) O H Q)
  (z:∀j ρ H g u w x y,RS X.K ρ H j O->RH X.K ρ H g->RV X.K ρ H u x->RV X.K ρ H w y->post X.K W R (k j u w g) ρ H Q->B x y H) :
  tE X.K W f O H λx F=>tE X.K W h O F λy H2=>B x y H2:=by
 let⟨j,ρ,g,hs,hg,p⟩:=hp;refine⟨j,ρ,g,hs,hg,(post.bind p).mono λx F ⟨ZM,u,g1,s1,h1,S,Z⟩=>?_⟩;refine⟨j,ZM,g1,hs.step s1,h1,(post.bind Z).mono λy H2 ⟨YZ,w,g2,s2,h2,L,p2⟩=>?_⟩;exact z j YZ H2 g2 u w x y ((hs.step s1).step s2) h2 (RV.step s2 _ _ S) L p2
def zV(d:X.N[i]?=some x)(a:Vis X.env.scope x)(c:(x==("__debug__" : Str))=false)(k:(x==("__classdict__" : Str))=false):PE X (.Name x pos) (tE X.K W (I9 C r (.L i))):=by
 refine(bS d a c k).imp ?_;rintro O H Q ⟨j,ρ,g,hs,b,p⟩
 delta I9 at p;dsimp only at p
 cases e:j[i]? with
 |none=>simp[e]at p;exact p.elim
 |some o=>
  cases o with
  |none=>simp[e]at p;exact p.elim
  |some u=>
   simp![e]at p;let⟨v,h,f⟩:=hs.val i u e;exact⟨v,h,post.YF p b f⟩
def cM(h:PE X e (Ia v))(a:∀ρ H,RV X.K ρ H u v):PE X e (tE X.K W (I9 C r (.ZW u))):=
 h.imp λO H Q ⟨c,ρ,g,hs,b,p⟩=>post.YF (u:=u) p b (a ρ H)
def b7{o:Operator}{j:R2}(Z:OpR X (binaryOp o) j)
  (imp:∀u w z x y ρ (H:Hp) Q,RV X.K ρ H u x->RV X.K ρ H w y->IH op u w=some z->(∀v,RV X.K ρ H z v->Q v H)->j x y H Q)
  (B:∀u w x y ρ (H:Hp) g p Q,RH X.K ρ H g->RV X.K ρ H u x->RV X.K ρ H w y->AX u w g=some p->post X.K W (RV X.K) (A3 op u w g) ρ H Q->j x y H Q)
  (ha:PE X a (tE X.K W (r.ev a'))) (hb:PE X b (tE X.K W (r.ev b'))):PE X (.BinOp a o b pos) (tE X.K W (I9 C r (.ZR op a' b'))):=by
 refine(acP Z ha hb).imp λO H Q S=>two S λZZ ρ H g u w x y hs G F j p=>?_;cases L:AX u w g with
 |some q=>exact B u w x y ρ H g q Q G F j L p
 |none=>
  have p:post X.K W (RV X.K) (A3 op u w g) ρ H Q:=p;unfold A3 at p;rw[L]at p;let⟨z,e,p⟩:=post.lift p;exact imp u w z x y ρ H Q F j e λv R=>post.YF p G R
def cQ(h:op ≠ .add){a:R2}(u w:U)(x y:V)(ρ:List Addr)(H:Hp)(g:G)(q:List U×List U)(Q:VK)(_:RH X.K ρ H g)(_:RV X.K ρ H u x)(_:RV X.K ρ H w y)(b:AX u w g=some q)(p:post X.K W (RV X.K) (A3 op u w g) ρ H Q):a x y H Q:=by
 unfold A3 at p;rw[b]at p;cases op<;>first|exact absurd rfl h|exact p.elim
def gI{r c:R2}(h:OpR X f r)(h':OpR X f c):OpR X f λx y H Q=>r x y H Q\/c x y H Q:=λY s O H x y v u Q I b a q=>q.elim (h Y s O H x y v u Q I b a) (h' Y s O H x y v u Q I b a)
def abC(u w:U)(x y:V)(ρ:List Addr)(H:Hp)(g:G)(q:List U×List U)(Q:VK)(a:RH X.K ρ H g)(i:RV X.K ρ H u x)(h:RV X.K ρ H w y)(b:AX u w g=some q)(p:post X.K W (RV X.K) (A3 .add u w g) ρ H Q):FW x y H Q:=by
 unfold A3 at p;rw[b]at p;dsimp only at p;split at p
 .rename_i j
  let⟨n,m,rfl,rfl,g1,g2⟩:=jR b;let⟨A,f,r,o,d⟩:=a.Z5 g1;let⟨t,ws,k,JP,c⟩:=a.Z5 g2;let⟨v,rfl,z⟩:=i;rw[r]at z;cases z;let⟨s,rfl,z⟩:=h;rw[k]at z;cases z;refine⟨A,t,f,ws,rfl,rfl,o,JP,by rw[<-d.length,<-c.length,Qh];unfold Ab at j;omega,λl e=>?_⟩
  exact p (.ref l) _ _ (ZI.alloc e) (a.alloc e (d.append c)) ⟨l,rfl,by rw[<-a.len];simp⟩
 .exact p.elim
def bP{g:Int->Int->Int}{a:Int->Int->Prop}(h:∀u w z,IH op u w=some z ->∃i j,u=.int i/\w=.int j/\z=.int (g i j)/\a i j)(u w z:U)(x y:V)(ρ:List Addr)(H:Hp)(Q:VK)(c:RV K ρ H u x)(b:RV K ρ H w y)
  (e:IH op u w=some z) (q:∀v,RV K ρ H z v->Q v H):Ig a (λi j=>.int (g i j)) x y H Q:=by
 let⟨i,j,rfl,rfl,rfl,d⟩:=h u w z e;cases c;cases b;exact⟨i,j,rfl,rfl,d,q _ rfl⟩
def mY{g:Int->Int->V}(h:OpR X f (Ih g)):OpR X f (Ig (λ_ _=>True) g):=λY s O H x y v u Q I b a ⟨i,j,d,c,_,q⟩=>h Y s O H x y v u Q I b a ⟨i,j,d,c,q⟩
def log2_small(h:n<115792089237316195423570985008687907853269984665640564039457584007913129639936):n.log2<9000:=by
 by_cases j:n=0
 .subst j;decide
 .exact Hz ((Nat.log2_lt j).mpr (show n<2 ^ 256 from h)) (by decide)
def yi:OpR X (binaryOp .FloorDiv) (Ig (λi j=>j≠0 /\ -An<j/\j<An) λi j=>.int (i.fdiv j)):=opI λi j _ _ _ _ _ a q=>
 floordiv_int a.1 q (.inl (PyProof.noPylong_of_log2 (log2_small (by have:=a.2;unfold An at this;omega))))
def yu:OpR X (binaryOp .Mult) (Ig (λi j=>CMul i j\/((-An<i/\i<An) /\ -An<j/\j<An)) λi j=>.int (i*j)):=opI λi j _ _ _ _ _ hc q=>by
 rcases hc with hc|⟨⟨h1,h2⟩,h3,h4⟩
 .exact mul_int q hc.ok
 .unfold An at h1 h2 h3 h4
  exact mul_int q (IntMulOk.of_bits (Hv (intBits_le (k:=256) (show i.natAbs<115792089237316195423570985008687907853269984665640564039457584007913129639936 by omega)) (by decide)) (Hv (intBits_le (k:=256) (show j.natAbs<115792089237316195423570985008687907853269984665640564039457584007913129639936 by omega)) (by decide)))
def bQ{w z:U}(e:IH op u w=some z):∃i j,u=.int i/\w=.int j:=by
 cases u<;>first|(cases op<;>cases e<;>done)|skip
 cases w<;>first|(cases op<;>cases e<;>done)|skip
 exact⟨_,_,rfl,rfl⟩
def xE{o:Operator}(R:(op=.add/\o = .Add)\/(op=.sub/\o = .Sub)\/(op=.mul/\o = .Mult)\/(op=.fdiv/\o = .FloorDiv)\/(op=.mod/\o = .Mod)\/(op=.pow/\o = .Pow))
  (ha:PE X a (tE X.K W (r.ev a'))) (hb:PE X b (tE X.K W (r.ev b'))):PE X (.BinOp a o b pos) (tE X.K W (I9 C r (.ZR op a' b'))):=by
 rcases R with⟨rfl,rfl⟩|⟨rfl,rfl⟩|⟨rfl,rfl⟩|⟨rfl,rfl⟩|⟨rfl,rfl⟩|⟨rfl,rfl⟩
 .exact b7 (gI (mY eA) zR) (λu w z x y F H Q L G e q => .inl (bP (λu w z e=>by
   let⟨i,j,rfl,rfl⟩:=bQ e;cases e;exact⟨_,_,rfl,rfl,rfl,trivial⟩) u w z x y F H Q L G e q)) (λu w x y F H g q Q Z L G el p=>.inr (abC u w x y F H g q Q Z L G el p)) ha hb
 .exact b7 (mY eJ) (bP λu w z e=>by
   let⟨i,j,rfl,rfl⟩:=bQ e;cases e
   exact⟨_,_,rfl,rfl,rfl,trivial⟩) (cQ (by simp)) ha hb
 .refine b7 yu (bP λu w z e=>?_) (cQ (by simp)) ha hb
  let⟨i,j,rfl,rfl⟩:=bQ e;simp![IH,IG,O2,Xl]at e;let⟨h,rfl⟩:=e;refine⟨_,_,rfl,rfl,rfl,?_⟩;rw[QQ,QQ,Yx,Yx,Yx,Yx,Yx]at h;unfold CMul;rw[show((2:Int) ^ 64)=Bz from rfl];rcases h with(⟨h1,h2⟩|⟨h1,h2⟩)|⟨⟨⟨h1,h2⟩,h3⟩,h4⟩
  .exact .inl (.inl ⟨HE h1,HE h2⟩)
  .exact .inl (.inr ⟨HE h1,HE h2⟩)
  .exact .inr ⟨⟨HE h1,HE h2⟩,HE h3,HE h4⟩
 .refine b7 yi (bP λu w z e=>?_) (cQ (by simp)) ha hb
  let⟨i,j,rfl,rfl⟩:=bQ e;simp![IH,IG]at e;refine⟨i,j,rfl,rfl,?_⟩;by_cases B:0<j
  .rw [Y2 B]at e
   have S:i / j=i.fdiv j:=(Int.fdiv_eq_ediv_of_nonneg i ()).symm
   by_cases h1:j<An
   .rw [Y2 h1]at e
    rw[<-S];exact⟨(Option.some.inj e).symm,by omega,by unfold An;omega,h1⟩
   .rw [YH h1]at e;cases e
  .rw [YH B]at e
   by_cases h1:j=0
   .rw [Y2 h1]at e;cases e
   .rw [YH h1]at e
    by_cases h2 : -An<j
    .rw [Y2 h2]at e
     exact⟨(Option.some.inj e).symm,h1,h2,by unfold An;omega⟩
    .rw [YH h2]at e;cases e
 .refine b7 xY (bP λu w z e=>?_) (cQ (by simp)) ha hb
  let⟨i,j,rfl,rfl⟩:=bQ e;simp![IH,IG]at e;refine⟨i,j,rfl,rfl,?_⟩;by_cases B:0<j
  .rw [Y2 B]at e
   have S:i % j=i.fmod j:=(Int.fmod_eq_emod_of_nonneg i ()).symm
   rw[<-S];exact⟨(Option.some.inj e).symm,by omega⟩
  .rw [YH B]at e
   by_cases h1:j=0
   .rw [Y2 h1]at e;cases e
   .rw [YH h1]at e
    exact⟨(Option.some.inj e).symm,h1⟩
 .exact b7 abE (bP λu w z e=>by
   let⟨i,j,rfl,rfl⟩:=bQ e;simp![IH,IG,O2,Xl]at e;let⟨h,rfl⟩:=e;refine⟨_,_,rfl,rfl,rfl,?_⟩;unfold Fb
   omega) (cQ (by simp)) ha hb
def aan(ha:PE X a (tE X.K W (r.ev a'))):PE X (.UnaryOp .USub a pos) (tE X.K W (I9 C r (.neg a'))):=by
 refine(acV abI ha).imp λO H Q z=>one z λG F H g u x hs B j p=>?_;cases u<;>simp![]at p<;>first|exact p.elim|skip
 cases j;exact⟨_,rfl,post.YF p B rfl⟩
def A9(X:Cx)(op:Cp)(o:CmpOp):Prop:=∃c,OpR X (compareOp o) c /\∀a (H:Hp) g u w x y b Q,RH X.K a H g->RV X.K a H u x->RV X.K a H w y->IM op u w g=some b->Q (V.bl b) H->c x y H Q
def du{op:Cp}{o:CmpOp}{f:Int->Int->Bool}(d:OpR X (compareOp o) (Ih λi j=>.bl (f i j)))(h:∀u w g b,IM op u w g=some b ->∃i j,u=.int i/\w=.int j/\b=f i j):A9 X op o:=
 ⟨_,d,λk H g u w x y b Q l c a e q=>by
  let⟨i,j,rfl,rfl,rfl⟩:=h u w g b e;cases c;cases a;exact⟨i,j,rfl,rfl,q⟩⟩
def jn{x:V}(h:RV K ρ H u x):AV u=decide (x=.ZJ):=by
 cases u with
 |ZY S=>let⟨a,b,rfl,_⟩:=h;rfl
 |Zy S=>let⟨a,b,rfl,_⟩:=h;rfl
 |ref S=>let⟨a,rfl,_⟩:=h;rfl
 |xn _ S=>let⟨a,b,rfl,_⟩:=h;rfl
 |_=>cases h;rfl
def eB{f:Int->Int->Bool}{w:U}{b:Bool}(e:(match u,w with|.int i,.int j=>some (f i j)|_,_=>none)=some b):∃i j,u=.int i/\w=.int j/\b=f i j:=by
 cases u<;>first|(cases e;done)|skip
 cases w<;>first|(cases e;done)|skip
 exact⟨_,_,rfl,rfl,(Option.some.inj e).symm⟩
def uf{w:U}(h:B6 u w=true):(u=.ZJ/\w=.ZJ)\/(∃a b,u=.bl a/\w=.bl b)\/(∃a b,u=.int a/\w=.int b) \/∃a b,u=.str a/\w=.str b:=by
 cases u<;>cases w<;>first|(cases h;done)|exact .inl ⟨rfl,rfl⟩|exact .inr (.inl ⟨_,_,rfl,rfl⟩)|exact .inr (.inr (.inl ⟨_,_,rfl,rfl⟩))|exact .inr (.inr (.inr ⟨_,_,rfl,rfl⟩))
def acQ(v:X.A.units+2<cLine)(op:Cp)(o:CmpOp)(h:(op=.eq/\o = .Eq)\/(op=.ne/\o = .NotEq)\/(op=.lt/\o = .Lt)\/(op=.le/\o = .LtE)\/(op=.gt/\o = .Gt)\/(op=.ge/\o = .GtE)\/(op=.U8/\o = .Is)\/(op=.Tf/\o = .IsNot)\/(op=.WO/\o = .In)\/(op=.YB/\o = .NotIn)):A9 X op o:=by
 rcases h with⟨rfl,rfl⟩|⟨rfl,rfl⟩|⟨rfl,rfl⟩|⟨rfl,rfl⟩|⟨rfl,rfl⟩|⟨rfl,rfl⟩|⟨rfl,rfl⟩|⟨rfl,rfl⟩|⟨rfl,rfl⟩|⟨rfl,rfl⟩
 .refine ⟨_,gI (zL ()) (abx v),λj H g u w x y b Q i f d e q=>?_⟩
  simp![IM]at e;cases s:AX u w g with
  |none=>
   rw[s]at e;exact .inl ⟨j,g,u,w,b,i,f,d,e,q⟩
  |some p=>rw[s]at e;exact .inr ⟨j,g,u,w,b,i,f,d,UA.mpr ⟨p,s,e⟩,q⟩
 .refine ⟨_,gI acy (abb v),λj H g u w x y b Q i f d e q=>?_⟩
  cases hs:B6 u w with
  |false=>
   simp![IM,hs,Wi,UP]at e;cases u<;>first|(cases e;done)|skip
   cases w<;>first|(cases e;done)|skip
   let⟨c,z,rfl⟩:=Vu.mp e;exact .inr ⟨j,_,_,c,f,d,z,q⟩
  |true=>
  refine .inl ?_;rcases uf hs with⟨rfl,rfl⟩|⟨a,c,rfl,rfl⟩|⟨a,c,rfl,rfl⟩|⟨a,c,rfl,rfl⟩<;>simp![IM,B6,Qp,Ak,Sl,Xl]at e<;>subst e<;>cases f<;>cases d<;>refine⟨rfl,?_⟩<;>
   first|exact q|(rw[lr];exact q)|(rw[pK];exact q)|(rw[k6];exact q)|simpa using q
 .exact du ab4 λu w g b e=>eB e
 .exact du ac1 λu w g b e=>eB e
 .exact du ab8 λu w g b e=>eB e
 .exact du acG λu w g b e=>eB e
 .refine ⟨_,abt,λj H g u w x y b Q i f d e q=>?_⟩
  cases w<;>simp![IM,AV,Qp,Wi,UP,Xl,reduceCtorEq]at e
  cases d;subst e;refine⟨rfl,?_⟩;rw[<-jn f];cases u<;>exact q
 .refine ⟨_,yP,λj H g u w x y b Q i f d e q=>?_⟩
  cases w<;>simp![IM,AV,Qp,Wi,UP,Xl,reduceCtorEq]at e
  cases d;subst e;refine⟨rfl,?_⟩;rw[<-jn f];cases u<;>exact q
 .refine ⟨_,nZ (abq ()) (aaf ()),λj H g u w x y b Q i f d e q=>?_⟩
  simp![IM]at e;cases k:items w g with
  |none=>
   simp![k]at e;let⟨o,r,rfl⟩:=Vu.mp e;let⟨a,l,m,t,n,_⟩:=fR i f d r;exact .inr ⟨a,l,m,t,by rw[n];exact q⟩
  |some S=>simp![k]at e;exact .inl ⟨j,g,u,w,b,i,f,d,UA.mpr ⟨S,k,e⟩,q⟩
 .refine ⟨_,nZ (zb ()) (zf ()),λj H g u w x y b Q i f d e q=>?_⟩
  simp![IM]at e;cases k:items w g with
  |none=>
   simp![k]at e;let⟨o,r,rfl⟩:=Vu.mp e;let⟨a,l,m,t,n,_⟩:=fR i f d r;exact .inr ⟨a,l,m,t,by rw[n];exact q⟩
  |some S=>
   simp![k]at e;exact .inl ⟨j,g,u,w,b,i,f,d,UA.mpr ⟨S,k,e⟩,q⟩
def aaT{op:Cp}{o:CmpOp}(j:A9 X op o)(R:behindInMarks o b=false)(ha:PE X a (tE X.K W (r.ev a')))(hb:PE X b (tE X.K W (r.ev b'))):PE X (.Compare a [o] [b] pos) (tE X.K W (I9 C r (.cmp op a' b'))):=by
 let⟨z,j,imp⟩:=j;refine(xT j ha hb R).imp λO H Q L=>two L λS F H g u w x y hs B G z p=>?_;cases e:IM op u w g with
 |none=>simp![e]at p;exact p.elim
 |some k=>simp![e]at p;exact imp F H g u w x y k Q B G z e (post.YF p B rfl)
def aas{op:Cp}{o:CmpOp}(F:A9 X op o)(S:behindInMarks o b=false)(ha:PE X a (tE X.K W (r.ev a')))(hb:PE X b (tE X.K W (r.ev b'))):PT X (.Compare a [o] [b] pos) (tT X.K W (λO g=>(I9 C r (.cmp op a' b') O g).bind λx g=>lift (IP x g) g)):=by
 let⟨G,F,imp⟩:=F;refine(zc F ha hb S).imp λO H Q R=>?_;have Z:tR X.K W Yc (λj g=>(r.ev a' j g).bind λx g=>(r.ev b' j g).bind λy g=>match IM op x y g with|some c=>Out.ok c g|none=>.ZX) O H Q:=by
  let⟨j,z,g,hs,B,p⟩:=R;refine⟨j,z,g,hs,B,?_⟩;have e:((I9 C r (.cmp op a' b') j g).bind λx g=>lift (IP x g) g)=((r.ev a' j g).bind λx g=>(r.ev b' j g).bind λy g=>match IM op x y g with|some c=>Out.ok c g|none=>.ZX):=by
   delta I9;dsimp only
   cases r.ev a' j g with
   |ok x g1=>
    simp![Out.bind];cases r.ev b' j g1 with
    |ok y g2=>simp![Out.bind];cases IM op x y g2<;>rfl
    |exc _ _ _=>rfl
    |ZX=>rfl
   |exc _ _ _=>rfl
   |ZX=>rfl
  have p2:=p
  change post X.K W Yc ((I9 C r (.cmp op a' b') j g).bind λx g=>lift (IP x g) g) z H Q at p2
  rw[e]at p2;exact p2
 refine two Z λj z H g u w x y hs B L G p=>?_;cases e:IM op u w g with
 |none=>simp![e]at p;exact p.elim
 |some k=>simp![e]at p;exact imp z H g u w x y k _ B L G e ⟨k,rfl,post.YF p B rfl⟩
end
section
variable{W:XQ}{a b c:Expr}{a' b' c':E}{ZS:List Expr}
def okE{Q:VK}(p:post X.K W (RV X.K) (.ok u g) ρ H Q)(a:RH X.K ρ H g)(r:RV X.K ρ H u v):Q v H:=post.YF p a r
def js{op R:Cp}{j S:R2}
  (F:∀ρ (H:Hp) g u w x y b Q,RH X.K ρ H g->RV X.K ρ H u x->RV X.K ρ H w y->IM op u w g=some b->Q (V.bl b) H->j x y H Q)
  (B:∀ρ (H:Hp) g u w x y b Q,RH X.K ρ H g->RV X.K ρ H u x->RV X.K ρ H w y->IM R u w g=some b->Q (V.bl b) H->S x y H Q) (O:L2.St) (H:Hp) (Q:VK) (hp:tE X.K W (I9 C r (.chain op R a' b' c')) O H Q) :
  Df j S (tE X.K W (r.ev a')) (tE X.K W (r.ev b')) (tE X.K W (r.ev c')) O H Q:=by
 refine two hp λZZ ρ H g u w x y hs G r1 j p=>?_;cases e:IM op u w g with
 |none=>simp![e]at p;exact p.elim
 |some k=>
  refine F ρ H g u w x y k _ G r1 j e ⟨k,rfl,?_⟩;cases k with
  |false=>simp![e]at p;exact aW (okE p G rfl)
  |true=>
   simp![e]at p;refine aV ?_;refine⟨ZZ,ρ,g,hs,G,(post.bind p).mono λv H2 ⟨YZ,z,g2,s2,h2,Z,p2⟩=>?_⟩;cases L:IM R w z g2 with
   |none=>simp![L]at p2;exact p2.elim
   |some k2=>simp![L]at p2;exact B YZ H2 g2 w z y v k2 Q h2 (RV.step s2 _ _ j) Z L (okE p2 h2 rfl)
def xl{op B:Cp}{o o':CmpOp}(u:A9 X op o)(z:A9 X B o')(F:lastMarks [o,o'] [b,c]=false)(ha:PE X a (tE X.K W (r.ev a')))(hb:PE X b (tE X.K W (r.ev b')))(hc:PE X c (tE X.K W (r.ev c'))):
  PE X (.Compare a [o,o'] [b,c] pos) (tE X.K W (I9 C r (.chain op B a' b' c'))):=by
 let⟨L,u,imp⟩:=u;let⟨G,z,j⟩:=z;exact(wk u z ha hb hc F).imp (js imp j)
def xp{f:Su->G->Out U}(l:∀O g u g',f O g=.ok u g' ->∃c,u=.bl c)(O:L2.St)(H:Hp)(Q:Bool->Hp->Prop)(j:tT X.K W (λO g=>(f O g).bind λx g=>lift (IP x g) g) O H Q):tE X.K W f O H (λx b=>∃c,x=.bl c/\Q c b):=by
 let⟨a,d,g,i,k,p⟩:=j;refine⟨a,d,g,i,k,?_⟩;have hk:=l a g
 change post X.K W Yc ((f a g).bind λx g=>lift (IP x g) g) d H Q at p
 revert p hk;cases f a g with
 |ok u g1=>
  intro hk p;let⟨c,rfl⟩:=hk u g1 rfl;intro v n b e m h;cases h;exact⟨c,rfl,p c n b e m rfl⟩
 |exc c fs g1=>exactλ_ p=>p
 |ZX=>exactλ_ p=>p
def xh{op a:Cp}(O:Su)(g:G)(u:U)(g':G)(h:I9 C r (.chain op a a' b' c') O g=.ok u g'):∃c,u=.bl c:=by
 delta I9 at h;dsimp only at h
 revert h;cases r.ev a' O g with
 |ok x g1=>
  simp![Out.bind];cases r.ev b' O g1 with
  |ok y g2=>
   simp![Out.bind];cases IM op x y g2 with
   |none=>intro h;cases h
   |some k=>
    cases k with
    |false=>intro h;cases h;exact⟨_,rfl⟩
    |true=>
     simp![];cases r.ev c' O g2 with
     |ok z g3=>
      simp![Out.bind];cases IM a y z g3 with
      |none=>intro h;cases h
      |some k=>intro h;cases h;exact⟨_,rfl⟩
     |exc _ _ _=>intro h;cases h
     |ZX=>intro h;cases h
  |exc _ _ _=>intro h;cases h
  |ZX=>intro h;cases h
 |exc _ _ _=>intro h;cases h
 |ZX=>intro h;cases h
def xb{op B:Cp}{o o':CmpOp}(u:A9 X op o)(z:A9 X B o')(G:lastMarks [o,o'] [b,c]=false)(ha:PE X a (tE X.K W (r.ev a')))(hb:PE X b (tE X.K W (r.ev b')))(hc:PE X c (tE X.K W (r.ev c'))):
  PT X (.Compare a [o,o'] [b,c] pos) (tT X.K W (λO g=>(I9 C r (.chain op B a' b' c') O g).bind λx g=>lift (IP x g) g)):=by
 let⟨R,u,imp⟩:=u;let⟨L,z,j⟩:=z;exact(v3 u z ha hb hc G).imp λO H Q F=>js imp j O H _ (xp xh O H Q F)
def abw(ha:PE X a (tE X.K W (r.ev a')))(hb:PE X (.BoolOp .And (b::ZS) pos) (tE X.K W (r.ev b'))):PE X (.BoolOp .And (a::b::ZS) pos) (tE X.K W (I9 C r (.and a' b'))):=by
 refine(aaF ha hb).imp λO H Q F=>one F λG z H g u x hs j B p=>?_;cases u with
 |bl k=>
  cases B;refine⟨k,rfl,?_⟩;cases k with
  |true=>exact aV ⟨G,z,g,hs,j,p⟩
  |false=>exact aW (okE p j rfl)
 |_=>exact p.elim
def acx(ha:PE X a (tE X.K W (r.ev a')))(hb:PE X (.BoolOp .Or (b::ZS) pos) (tE X.K W (r.ev b'))):PE X (.BoolOp .Or (a::b::ZS) pos) (tE X.K W (I9 C r (.or a' b'))):=by
 refine(acC ha hb).imp λO H Q F=>one F λG z H g u x hs j B p=>?_;cases u with
 |bl k=>
  cases B;refine⟨k,rfl,?_⟩;cases k with
  |true=>exact aV (okE p j rfl)
  |false=>exact aW ⟨G,z,g,hs,j,p⟩
 |_=>exact p.elim
def nH{x:V}{k:Bool}(p:RH X.K ρ H g)(f:RV X.K ρ H u x)(e:IP u g=some k):CS X.K x H k:=by
 have c:∀{S:List U} {d:List V},RVs X.K ρ H S d->(!S.isEmpty) = !d.isEmpty:=λ{S d} h=>by
  cases S with
  |nil=>cases h;rfl
  |cons u S=>let⟨v,r,rfl,_⟩:=h;rfl
 cases u with
 |ZJ=>cases f;cases e;rfl
 |bl b=>cases f;cases e;rfl
 |int i=>cases f;cases e;rfl
 |str s=>simp[IP]at e
 |ZY S=>let⟨a,d,rfl,j,l⟩:=f;cases e;exact .inr (.inl ⟨d,j.sq,c l⟩)
 |Zy S=>let⟨a,d,rfl,j,l⟩:=f;cases e;exact .inl ⟨d,j.sq,c l⟩
 |ref n=>
  let⟨a,rfl,m⟩:=f;simp![IP]at e;cases eg:g[n]? with
  |none=>simp[eg]at e
  |some o=>
   cases o with
   |Z5 xs=>
    simp![eg,Xl]at e;subst e;let⟨t,d,j,l,q⟩:=p.Z5 eg;rw[m]at j;cases j;exact .inl ⟨d,.of l,c q⟩
   |ZF _=>simp[eg]at e
   |YG _=>simp[eg]at e
   |dst _=>simp[eg]at e
   |ins _ _=>simp[eg]at e
 |xn _ _=>simp[IP]at e
def abN(ha:PE X a (tE X.K W (r.ev a'))):PE X (.UnaryOp .Not a pos) (tE X.K W (I9 C r (.not a'))):=by
 intro Y s O H Q I L;have R:tE X.K W (r.ev a') O H (λx j=>∃k,CS X.K x j k/\Q (.bl (!k)) j):=one L λZZ ρ H g u x hs B z p=>by
  cases e:IP u g with
  |none=>simp![e]at p;exact p.elim
  |some k=>simp![e]at p;exact⟨k,nH B z e,okE p B rfl⟩
 refine UnaryOp_ (thn (ha Y s O H _ I R) ?_);rintro v s1 ⟨x,j,Z,z,k,tr,G⟩;exact not_of (thn (oB Y s1 O j x v (λb H2=>Q (.bl (!b)) H2) Z z ⟨k,tr,G⟩) λb s2 ⟨H2,S,F⟩=>⟨.bl (!b),H2,S,rfl,F⟩)
def wb(ha:PE X a (tE X.K W (r.ev a')))(he:∀whole,isTrue a X.env whole=(do let v<-whole;standAt a.pos;holding [v] (truthy v))):PT X a (tT X.K W (λO g=>(r.ev a' O g).bind λx g=>lift (IP x g) g)):=by
 refine(wY ha he).imp λO H Q hp=>one (k:=λ_ x g=>lift (IP x g) g) hp λZZ ρ H g u x hs hg r1 p=>?_;let⟨k,e,p⟩:=post.lift p;exact⟨k,nH hg r1 e,post.YF p hg rfl⟩
def abp(h:PT X a (tT X.K W (r.ts a')))(f:PW X (.BoolOp .And (b::ZS) pos) (tT X.K W (r.ts b'))):PW X (.BoolOp .And (a::b::ZS) pos) (tT X.K W (Ja r (.and a' b'))):=by
 refine(z9 h f).imp ?_;rintro O H Q ⟨d,ρ,g,hs,e,p⟩;refine⟨d,ρ,g,hs,e,(post.bind (R:=Yc) p).mono λk l ⟨j,k',g1,s1,h1,i,c⟩=>?_⟩;subst i;cases k' with
 |true=>exact aV ⟨d,j,g1,hs.step s1,h1,c⟩
 |false=>exact aW (post.YF c h1 rfl)
def acz(h:PT X a (tT X.K W (r.ts a')))(f:PW X (.BoolOp .Or (b::ZS) pos) (tT X.K W (r.ts b'))):PW X (.BoolOp .Or (a::b::ZS) pos) (tT X.K W (Ja r (.or a' b'))):=by
 refine(acI h f).imp ?_;rintro O H Q ⟨d,ρ,g,hs,e,p⟩;refine⟨d,ρ,g,hs,e,(post.bind (R:=Yc) p).mono λk l ⟨j,k',g1,s1,h1,i,c⟩=>?_⟩;subst i;cases k' with
 |true=>exact aV (post.YF c h1 rfl)
 |false=>exact aW ⟨d,j,g1,hs.step s1,h1,c⟩
def aap(d:PT X a (tT X.K W (r.ts a'))):PT X (.UnaryOp .Not a pos) (tT X.K W (Ja r (.not a'))):=by
 refine(abL d).imp ?_;rintro O H Q ⟨f,ρ,g,hs,c,p⟩;refine⟨f,ρ,g,hs,c,(post.bind (R:=Yc) p).mono λk i ⟨h,k',g1,s1,h1,e,b⟩=>?_⟩;subst e;exact post.YF b h1 rfl
def me:PA X [] (V9 X.K W (IX r.ev [])):=aN.imp λO H Q ⟨b,ρ,g,hs,a,p⟩=>post.YF (R:=RVs X.K) (u:=[]) p a rfl
def lN(ha:PE X a (tE X.K W (r.ev a')))(F:PA X es (V9 X.K W (IX r.ev es')))(hs:starEach (a::es) X.env=(false,eval a X.env)::starEach es X.env):PA X (a::es) (V9 X.K W (IX r.ev (a'::es'))):=by
 refine(aw ha F hs).imp λO H Q G=>one G λZ j H g u x hs L z p=>?_;refine⟨Z,j,g,hs,L,(post.bind p).mono λxs H1 ⟨ZM,S,g1,s1,h1,rs,B⟩=>?_⟩;exact post.YF (R:=RVs X.K) B h1 ⟨x,xs,rfl,RV.step s1 _ _ z,rs⟩
def szl{vs:List V}(a:RVs X.K ρ H S vs)(h:S.length<=Ab):vs.length<=sizeLine:=by
 rw[<-a.length,Qh];unfold Ab at h;omega
def aa1{k:Nat}(h:PA X es (V9 X.K W (IX r.ev es'))):PE X (.Tuple es k pos) (tE X.K W (I9 C r (.ZY es'))):=by
 refine(gR h).imp ?_;rintro O H Q ⟨F,ρ,g,hs,B,p⟩;refine⟨F,ρ,g,hs,B,(post.bind (R:=RVs X.K) p).mono λxs L ⟨G,S,g1,s1,h1,rs,j⟩=>?_⟩;by_cases z:S.length<=Ab
 .rw [Y2 z]at j
  refine⟨szl rs z,λq u=>?_⟩;exact j _ G _ (ZI.fresh u) (h1.step_fresh u) ⟨q,xs,rfl,upd_same,RVs.step (ZI.fresh u) _ _ rs⟩
 .rw [YH z]at j;exact j.elim
def aX{xs:List V}{Q:VK}(p:post X.K W (RV X.K) (alloc (.Z5 S) g) ρ H Q)(b:RH X.K ρ H g)(c:RVs X.K ρ H S xs)(q:Addr)(a:H q=none):Q (.ref q) (upd H q (.Z5 xs)):=by
 refine p (.ref q) (ρ++[q]) _ (ZI.alloc a) (b.alloc a c) ⟨q,rfl,?_⟩;rw[<-b.len];simp
def aaQ(h:PA X es (V9 X.K W (IX r.ev es'))):PE X (.List es pos) (tE X.K W (I9 C r (.Z5 es'))):=by
 refine(aam h).imp ?_;rintro O H Q ⟨F,ρ,g,hs,B,p⟩;refine⟨F,ρ,g,hs,B,(post.bind (R:=RVs X.K) p).mono λxs L ⟨G,S,g1,s1,h1,rs,j⟩=>?_⟩;by_cases u:S.length<=Ab
 .rw [Y2 u]at j
  exact⟨szl rs u,λq z=>aX j h1 rs q z⟩
 .rw [YH u]at j;exact j.elim
def yJ{vs:List V}{i:Int}(a:RVs X.K ρ H S vs)(e:IQ S i=some u):∃v,atI vs i=some v/\RV X.K ρ H u v:=by
 unfold IQ atI at e;unfold atI;rw[<-a.length];cases b:ixN S.length i with
 |none=>simp[b]at e
 |some j=>
  rw[b]at e;let⟨v,d,c⟩:=a.get (show S[j]?=some u from e);exact⟨v,d,c⟩
def aae(hu:X.A.units+1<cLine)(ha:PE X a (tE X.K W (r.ev a')))(hb:PE X b (tE X.K W (r.ev b')))(hs:C7 b):PE X (.Subscript a b pos) (tE X.K W (I9 C r (.idx a' b'))):=by
 refine(acv ((x9.or aaU).or (xX hu)) ha hb hs).imp λO H Q hp=>two hp λZZ ρ H g u w x y hs j Z R p=>?_;cases w with
 |int i=>
  cases R;cases e:items u g with
  |none=>simp![e]at p;exact p.elim
  |some S=>
   simp![e]at p;let⟨z,L,p⟩:=post.lift p;let⟨q,vs,rfl,G,rs⟩:=cj j Z e;let⟨v,ev,F⟩:=yJ rs L;rcases G with G|G
   .exact .inl (.inl ⟨q,vs,i,v,rfl,rfl,G,ev,okE p j F⟩)
   .exact .inl (.inr ⟨q,vs,i,v,rfl,rfl,G,ev,okE p j F⟩)
 |ZY S=>
  let⟨z,L,p⟩:=post.lift p;let⟨o,eo,B⟩:=UA.mp L;let⟨q,ov,rfl,dg,_,got⟩:=fR j R Z eo;let⟨v,rfl,F⟩:=got z B;exact .inr ⟨q,v,rfl,dg,okE p j F⟩
 |str k=>
  let⟨z,L,p2⟩:=post.lift p;clear p;let⟨Z4,eo,B⟩:=UA.mp L;let⟨n,q,ws,rfl,_,_,rfl,ha,rk⟩:=aaV j Z eo;let⟨v,ev,F⟩:=rk.got k B;cases R;exact .inr ⟨q,v,rfl,by rw[<-ev];exact DGet.k (k:=Sum.inr k) ha,okE p2 j F⟩
 |_=>exact p.elim
def eY{K:HF}{ρ:List Addr}{H:Hp}:∀ns:List Int,RVs K ρ H (ns.map U.int) (ns.map V.int)
 |[]=>rfl
 |n::ns=>⟨.int n,ns.map V.int,rfl,rfl,eY ns⟩
def se_bi{b:Bi}{f:Str}{u:Pos}{j:List V->Hp->VK->Prop}(h:PE X (.Call (.Name f u) (e::es) [] pos) (Ij j (V9 X.K W (IX r.ev es'))))
  (imp:∀ρ H g S xs Q,RH X.K ρ H g->RVs X.K ρ H S xs->post X.K W (RV X.K) (IV b S g) ρ H Q->j xs H Q):PE X (.Call (.Name f u) (e::es) [] pos) (tE X.K W (I9 C r (.bi b es'))):=by
 refine h.imp ?_;rintro O H Q ⟨F,ρ,g,hs,B,p⟩;exact⟨F,ρ,g,hs,B,(post.bind (R:=RVs X.K) p).mono λxs L ⟨G,S,g1,s1,h1,rs,z⟩=>imp G L g1 S xs Q h1 rs z⟩
def imp_len(ρ:List Addr)(H:Hp)(g:G)(S:List U)(xs:List V)(Q:VK)(c:RH X.K ρ H g)(b:RVs X.K ρ H S xs)(p:post X.K W (RV X.K) (IV .len S g) ρ H Q):
  ∃p a,xs=[.ref p]/\(SqL X.K H p a\/SqT X.K H p a)/\Q (.int a.length) H:=by
 match S,b with
 |[u],b=>
  let⟨x,j,rfl,h,e⟩:=b;cases e;simp![IV,CF,Bw]at p;cases e:items u g with
  |none=>simp![e]at p;exact p.elim
  |some zs=>
   simp![e]at p;let⟨q,d,rfl,i,f⟩:=cj c h e;exact⟨q,d,rfl,i,by rw[<-f.length];exact okE p c rfl⟩
 |[],_=>exact p.elim
 |_::_::_,_=>exact p.elim
def imp_abs(ρ:List Addr)(H:Hp)(g:G)(S:List U)(xs:List V)(Q:VK)(c:RH X.K ρ H g)(a:RVs X.K ρ H S xs)(p:post X.K W (RV X.K) (IV .abs S g) ρ H Q):
  ∃i,xs=[.int i]/\Q (.int (if i<0 then -i else i)) H:=by
 match S,a with
 |[u],a=>
  let⟨x,d,rfl,b,e⟩:=a;cases e;cases u with
  |int i=>cases b;exact⟨i,rfl,okE p c rfl⟩
  |_=>exact p.elim
 |[],_=>exact p.elim
 |_::_::_,_=>exact p.elim
def vi{xs:List V}(G:RH X.K ρ H g)(j:RVs X.K ρ H S xs)(e:A4 S g=some ns):∃p,xs=[.ref p]/\H p=some (.Z5 (ns.map V.int)):=by
 match S,j with
 |[],_=>cases e
 |_::_::_,_=>unfold A4 at e;split at e<;>first|cases e|(rename_i h;cases h)
 |[u],j=>
  let⟨x,R,rfl,F,e'⟩:=j;cases e';cases u with
  |ref n=>
   simp![A4]at e;cases eg:g[n]? with
   |none=>rw[eg]at e;cases e
   |some ob=>
    cases ob with
    |Z5 S=>
     rw[eg]at e;let⟨a,L,hn,ha,B⟩:=G.Z5 eg;let⟨a',rfl,z⟩:=F;rw[hn]at z;cases z;exact⟨a,rfl,by rw[ha,dq e B]⟩
    |_=>rw[eg]at e;cases e
  |_=>cases e
def zA:PE X (.Dict [] [] pos) (tE X.K W (I9 C r .VM)):=by
 refine(wV).imp ?_;rintro O H Q ⟨c,ρ,g,hs,b,p⟩ q a;refine p (.ref q) (ρ++[q]) _ (ZI.alloc a) (b.RP a ⟨[],rfl,rfl⟩) ⟨q,rfl,?_⟩;rw[<-b.len];simp
end
def fJ(a:List Int):∀{r:List (List Int)} {x:List Int},x∈AL a r↔x=a\/x∈r
 |[],x=>by simp[AL]
 |b::r,x=>by
  unfold AL;split
  .rename_i e;subst e;simp
  .split
   .simp
   .rw [Vh,fJ a,Vh]
    constructor
    .rintro (h|h|h)
     .exact .inr (.inl h)
     .exact .inl h
     .exact .inr (.inr h)
    .rintro (h|h|h)
     .exact .inr (.inl h)
     .exact .inl h
     .exact .inr (.inr h)
def bD:∀{l:List (List Int)} {x:List Int},x∈IS l↔x∈l
 |[],x=>Y1
 |a::l,x=>by
  show x∈AL a (IS l)↔_;rw[fJ,bD,Vh]
def jv(a:List Int):∀{r:List (List Int)},r.Pairwise (λx y=>Ah x y=true)->(AL a r).Pairwise λx y=>Ah x y=true
 |[],_=>by simp[AL]
 |b::r,h=>by
  let⟨u,z⟩:=Qa.mp h;unfold AL;split
  .exact h
  .rename_i B
   split
   .rename_i j
    refine Qa.mpr ⟨λx hx=>?_,h⟩;rcases Vh.mp hx with rfl|hx
    .exact j
    .exact cP j (u x hx)
   .rename_i j
    refine Qa.mpr ⟨λx hx=>?_,jv a z⟩;rcases(fJ a).mp hx with rfl|hx
    .cases hb:Ah b x with
     |true=>rfl
     |false=>exact absurd (cH (by simpa using j) hb) B
    .exact u x hx
def bE:∀l:List (List Int),(IS l).Pairwise λx y=>Ah x y=true
 |[]=>.nil
 |a::l=>jv a (bE l)
def l5:∀{a:List (List Int)},a.Pairwise (λx y=>Ah x y=true)->a.Nodup:=λh=>h.imp λ{x y} hl e=>by rw[e,cG]at hl;cases hl
def aau{ks l:List (List Int)}(hn:l.Nodup)(h:∀x,x∈l↔x∈ks):l.length=(IS ks).length:=
 ((Nd hn (l5 (bE ks))).mpr λx=>(h x).trans bD.symm).length_eq
def kO(a:List Int):∀r:List (List Int),(AL a r).length<=r.length+1
 |[]=>Hx _
 |b::r=>by
  unfold AL;split
  .exact Nq _
  .split
   .exact Hx _
   .rw [Uc,Uc];exact Nat.succ_le_succ (kO a r)
def g8:∀ks:List (List Int),(IS ks).length<=ks.length
 |[]=>Hx _
 |a::ks=>Hv (kO a (IS ks)) (Nat.succ_le_succ (g8 ks))
def dR:∀{a b:List (List Int)},a.Pairwise (λx y=>Ah x y=true)->b.Pairwise (λx y=>Ah x y=true)->(∀x,x∈a↔x∈b)->a=b
 |[],[],_,_,_=>rfl
 |[],y::b,_,_,h=>absurd ((h y).mpr HD) (by simp)
 |x::a,[],_,_,h=>absurd ((h x).mp HD) (by simp)
 |x::a,y::b,ha,hb,h=>by
  let⟨F,S⟩:=Qa.mp ha;let⟨B,R⟩:=Qa.mp hb;have e:x=y:=by
   rcases Vh.mp ((h x).mp HD)with e|hx
   .exact e
   .rcases Vh.mp ((h y).mpr HD)with e|hy
    .exact e.symm
    .have:=cP (B x hx) (F y hy)
     rw[cG]at this;cases this
  subst e;have u:∀{l:List (List Int)},(∀z∈l,Ah x z=true)->x ∉ l:=λL G=>by have:=L x G;rw[cG]at this;cases this
  rw[dR S R λz=>?_];constructor
  .intro j
   rcases Vh.mp ((h z).mp (Hy _ j))with e|q
   .subst e;exact absurd j (u F)
   .exact q
  .intro j
   rcases Vh.mp ((h z).mpr (Hy _ j))with e|q
   .subst e;exact absurd j (u B)
   .exact q
section
def items_int{P:Program}{w:World}:∀{k:List Int} {S:List Value},ZH (k.map V.int) S->ItemsAre (intKind P w) k S
 |[],S,h=>by cases h;exact .nil
 |i::k,S,h=>by
  cases h with
  |cons r t=>
   let⟨u,rfl⟩:=r;exact .cons (intKind_is _ _ _ _) (items_int t)
def gw{k:List Int}(a:HOk P w H h)(e:H b=some (.ZY (k.map V.int))):IsT P w h k b:=by
 let⟨_,f,r,o,ho,d,n,c⟩:=a b _ e;exact⟨o,f.toArray,n,ho,d,c,items_int r⟩
def FJ(H:Hp)(D:Za):Prop:=∀d∈D,H d.2=some (.ZY (d.1.map V.int))/\d.1≠[]
def FA(X:Cx):List V->Hp->VK->Prop:=λxs H Q=>∃(p:Addr) (j:Za),xs=[.ref p]/\H p=some (.Z5 (j.map λd=>V.ref d.2))/\FJ H j/\j.length<=300/\(∀d∈j,∀e∈j,IT d.1=IT e.1->d.1=e.1) /\
 ∀(Z6:Addr) (D:Za),H Z6=none->(∀d∈D,d∈j)->(∀d∈j,∃e∈D,e.1=d.1)->(D.map (·.1)).Nodup->Q (.ref Z6) (upd H Z6 (.ext (SInv X.prog X.w Z6 D)))
def SInv.Yt{a:Addr}{D:Za}(c b:Heap)(i:SInv P w a D c)(k:∀o,c.get? a=some o->b.get? a=some o):SInv P w a D b:=
 let⟨o,d,e,t,Z,ho,r⟩:=i;⟨o,d,e,t,Z,k o ho,r⟩
def xi(hc:X.calm=true)(hu:X.A.units+3<cLine):CallR X (.type "set") (FA X):=by
 intro Y s O H xs S Q I r ⟨p,z,e,hp,hT,hn,Xi,q⟩;subst e;let⟨u,rfl,rx⟩:=vals1 r;cases rx;let⟨ZU,rv,pl,hz⟩:=I.list (SqL.of hp);have B:ZU.length=z.length:=by rw[<-rv.length,Z1]
 let key:Nat->List Int×Addr:=λi=>(z[i]?).getD ([],0)
 have hk:∀i,i<z.length->key i∈z/\z[i]?=some (key i):=λi hi=>by
  have e:z[i]?=some z[i]:=Xn hi;have R:key i=z[i]:=by show(z[i]?).getD _=_;rw[e];rfl
  rw[R];exact⟨QJ hi,e⟩
 have XY:∀d∈z,∃i,i<z.length/\d=key i:=λd hd=>by
  let⟨i,hi,e⟩:=Ol hd;exact⟨i,hi,by rw[<-e];have:=(hk i hi).2;rw[Xn hi]at this;exact TQ this⟩
 refine vf (key:=key) (I.ok.hd hc) hu pl.isList (λi v G=>?_) (λi hi=>?_) (λi j hi F e=>?_) (by rw[WQ,B];exact hn) λh' tk L Yr=>?_
 .rw [List.getElem?_toArray]at G
  have hi:i<z.length:=by rw[<-B];exact(YE.mp G).1
  let⟨v',e1,R⟩:=rv.get (i:=i) (x:=V.ref (key i).2) (by rw[VV,(hk i hi).2];rfl)
  rw[G]at e1;cases e1;exact R
 .rw [WQ,B]at hi
  exact gw I.ZK (hT _ (hk i hi).1).1
 .rw [WQ,B]at hi F
  exact Xi _ (hk i hi).1 _ (hk j F).1 e
 .have ez:ZU.toArray.size=z.length:=by rw[WQ,B]
  rw [ez] at L;refine ⟨.ref s.heap.objs.size,_,I.laid (t':=tk) Yr (Hx _) (show ObjOk X.prog X.w _ h' _ (.ext (SInv X.prog X.w s.heap.objs.size (dd key z.length))) from ⟨L,?_,λh1 h2 a b=>SInv.Yt h1 h2 a b⟩),rfl,
   q _ (dd key z.length) (I.ZK.fresh (Hx _)) (λd hd=>?_) (λd hd=>?_) (pT key _)⟩
  .obtain ⟨o,es,ep,t,Z,ho,_⟩:=L;exact⟨o,ho⟩
  .obtain ⟨j,F,e⟩:=cL key _ d hd
   rw[e];exact(hk j F).1
  .obtain ⟨i,hi,e⟩:=XY d hd
   rw[e];exact mz key _ i hi
def E4(X:Cx):List V->Hp->VK->Prop:=λxs H Q=>∃(Z6:Addr) (D:Za),xs=[.ref Z6]/\H Z6=some (.ext (SInv X.prog X.w Z6 D))/\FJ H D/\D.length<100000 /\
 ∀(l:Addr) (j:Za),H l=none->j.Perm D->BE j->Q (.ref l) (upd H l (.Z5 (j.map λd=>V.ref d.2)))
def dv:∀D:Za,ZH (D.map λd=>V.ref d.2) (refs D)
 |[]=>.nil
 |d::D=>.cons rfl (dv D)
def vJ(hc:X.calm=true)(hu:X.A.units+2<cLine):CallR X (.builtin "sorted") (E4 X):=by
 intro Y s O H xs S Q I r ⟨Z6,D,e,hS,hT,hn,q⟩;subst e;let⟨u,rfl,rx⟩:=vals1 r;cases rx;let⟨⟨o,es,ep,t,Z,ho,P⟩,_,_⟩:=I.ZK Z6 _ hS;have hlen:es.size=D.length:=by rw[P.tb.len,P.len]
 refine iB (yZ P Z6) (I.ok.hd hc) hu ho () λF hl hv=>?_
 have pm:(Iz X.w Z6 ep es).Perm (D.map λd=>(Yu X.prog X.w d.1,Value.ref d.2)):=by
  refine(fT X.w Z6 ep es).trans ?_;rw[P.tb.he];exact P.pm
 let⟨G,z,e1⟩:=ji pm D rfl;have ev:F=refs G:=by
  apply List.ext_getElem?;intro i;rcases OJ i F.length with hi|hi
  .obtain ⟨e,j,e3⟩:=hv i F[i] (Xn hi)
   rw[Xn hi,e3];unfold refs;rw[e1,VV]at j;rw[VV];cases e4:G[i]? with
   |none=>rw[e4]at j;cases j
   |some d=>rw[e4]at j;cases j;rfl
  .rw [Pm hi,Pm]
   unfold refs;rw[Z1,z.length_eq];omega
 refine⟨G,ev,λd hd=>?_,λh1 h' L c B R qq k1 k2 V1=>?_⟩
 .have:=hT d (z.mem_iff.mp hd)
  exact⟨gw I.ZK this.1,this.2⟩
 .have I1:Z0 X Y O H {s with heap:=h1,toks:=L}:=I.kept k1
  refine⟨.ref h1.objs.size,_,I1.laid (t':=L) k2 (Hx _) (show ObjOk X.prog X.w _ h' _ (.Z5 (B.map λd=>V.ref d.2))from⟨?_,refs B,c,dv B,V1⟩),rfl,q _ B (I1.ZK.fresh (Hx _)) (R.trans z) qq⟩;rw[Z1,(R.trans z).length_eq,Qh];omega
end
section
def ka:∀{xs:List U} {ks:List (List Int)} {vs:List V},Bp xs=some ks->RVs K ρ H xs vs ->∃D:Za,vs=(D.map λd=>V.ref d.2)/\D.map (·.1)=ks /\∀d∈D,H d.2=some (.ZY (d.1.map V.int))
 |[],ks,vs,h,r=>by cases h;exact⟨[],r,rfl,λd hd=>by cases hd⟩
 |u::xs,ks,vs,h,⟨v,r,e,B,rs⟩=>by
  simp![Bp]at h;cases j:keyOf u with
  |none=>rw[j]at h;cases h
  |some k=>
   rw[j]at h;cases z:Bp xs with
   |none=>rw[z]at h;cases h
   |some R=>
    rw[z]at h;cases h;let⟨D,a,b,c⟩:=ka z rs;cases u with
    |ZY S=>
     let⟨p,ws,rfl,F,L⟩:=B;have hi:intsOf S=some k:=j;have G:ws=k.map V.int:=dq hi L;subst G;refine⟨(k,p)::D,by rw[e,a];rfl,by rw[W1,b],λd hd=>?_⟩
     rcases Vh.mp hd with rfl|hd
     .exact F
     .exact c d hd
    |_=>cases j
end
section
variable{W:XQ}{a:Expr}{a':E}{p RN:Pos}
def dC{K:HF}{ρ:List Addr}{H:Hp}:∀{D:Za},(∀d∈D,H d.2=some (.ZY (d.1.map V.int)))->RVs K ρ H ((D.map (·.1)).map tupI) (D.map λd=>V.ref d.2)
 |[],_=>rfl
 |d::D,h=>⟨_,_,rfl,⟨d.2,_,rfl,h d HD,eY _⟩,dC λd a=>h d (Hy _ a)⟩
def wu(ρ:List Addr)(H:Hp)(g:G)(S:List U)(xs:List V)(Q:VK)(hg:RH X.K ρ H g)(Z:RVs X.K ρ H S xs)(q:post X.K W (RV X.K) (IV .sset S g) ρ H Q):
  FA X xs H λx H2=>E4 X [x] H2 Q:=by
 match S,Z with
 |[.ref n],Z=>
  let⟨x,r',rfl,⟨b,rfl,hb⟩,e⟩:=Z;cases e;simp![IV,B3]at q;cases eg:g[n]? with
  |none=>simp![eg]at q;exact q.elim
  |some o=>
   cases o with
   |Z5 ys=>
    simp![eg]at q;cases ek:Bp ys with
    |none=>simp![ek]at q;exact q.elim
    |some ks=>
     simp![ek]at q;by_cases ZK:IU ks
     .rw [Y2 ZK]at q
      let⟨h1,h3,h4⟩:=ZK;let⟨b',vs,hn,ha,rv⟩:=hg.Z5 eg;rw[hb]at hn;cases hn;let⟨D0,ev,ed,hT⟩:=ka ek rv;subst ev;have F:∀d∈D0,d.1∈ks:=λd hd=>by rw[<-ed];exact Ud.mpr ⟨d,hd,rfl⟩
      refine⟨b,D0,rfl,ha,λd hd=>⟨hT d hd,h3 _ (F d hd)⟩,by rw[<-Z1 (f:=λd:List Int×Addr=>d.1),ed];exact h1,λd hd e he=>h4 _ (F d hd) _ (F e he),λZ6 D hS R UH UG=>?_⟩
      have YT:∀d∈D,d.2≠Z6:=λd hd z=>by have:=hT d (R d hd);rw[z,hS]at this;cases this
      have L:∀d∈D,upd H Z6 (.ext (SInv X.prog X.w Z6 D)) d.2=some (.ZY (d.1.map V.int)):=λd hd=>by rw[aa (YT d hd)];exact hT d (R d hd)
      have mem:∀x,x∈D.map (·.1)↔x∈ks:=λx=>by
       constructor
       .intro hx
        let⟨d,hd,rfl⟩:=Ud.mp hx;exact F d (R d hd)
       .intro hx
        rw[<-ed]at hx;let⟨d,hd,rfl⟩:=Ud.mp hx;let⟨e,he,e2⟩:=UH d hd;exact Ud.mpr ⟨e,he,e2⟩
      have same:∀j:Za,j.Perm D->BE j->j.map (·.1)=IS ks:=λj B oo=>by
       refine dR ?_ (bE ks) λx=>((B.map _).mem_iff.trans (mem x)).trans bD.symm;have nd:(j.map (·.1)).Nodup:=(B.map _).nodup_iff.mpr UG;refine QN.mpr ?_;have Vv:=QN.mp nd;exact(oo.and Vv).imp λ{x y} ⟨o1,n1⟩=>by
        cases hl:Ah x.1 y.1 with
        |true=>rfl
        |false=>exact absurd (cH hl o1) n1
      refine⟨Z6,D,rfl,upd_same,λd hd=>⟨L d hd,h3 _ (F d (R d hd))⟩,?_,λl j hl B oo=>?_⟩
      .have:=(aau (ks:=ks) UG mem)
       have:=g8 ks;rw[Z1]at *;omega
      .have e1:=same j B oo
       have st:ZI X.K ρ H ρ (upd H Z6 (.ext (SInv X.prog X.w Z6 D))):=ZI.fresh hS;have q':=q.from st;have Wz:=hg.step_fresh hS (o:=.ext (SInv X.prog X.w Z6 D));rw[<-e1]at q';exact aX q' Wz (dC λd hd=>L d (B.mem_iff.mp hd)) l hl
     .rw [YH ZK]at q;exact q.elim
   |_=>simp![eg]at q;exact q.elim
 |[],_=>exact q.elim
 |[.ZJ],_=>exact q.elim
 |[.bl _],_=>exact q.elim
 |[.int _],_=>exact q.elim
 |[.str _],_=>exact q.elim
 |[.ZY _],_=>exact q.elim
 |[.Zy _],_=>exact q.elim
 |[.xn _ _],_=>exact q.elim
 |u::_::_,_=>cases u<;>exact q.elim
def x8(hc:X.calm=true)(B:X.A.units+3<cLine)(u:Gl X "sorted")(F:X.mg "sorted" = none)(j:Gl X "set")(Z:X.mg "set" = none)(ha:PE X a (tE X.K W (r.ev a')))(hs:starEach [a] X.env=(false,eval a X.env)::starEach [] X.env):
  PE X (.Call (.Name "sorted" p) [.Call (.Name "set" p2) [a] [] RN] [] pos) (tE X.K W (I9 C r (.bi .sset [a']))):=by
 have h1:=pe_callTy (p:=p2) (pos:=RN) (xi hc B) j Z (by rfl) (lN ha me hs) (by decide) (by decide) hs (by rfl)
 have h2:=pe_callB (p:=p) (pos:=pos) (vJ hc ()) u F (by rfl) (aw h1 aN) (by decide) (by decide)
 refine h2.imp ?_;rintro O H Q ⟨G,ρ,g,hs,u,q⟩;exact⟨G,ρ,g,hs,u,(post.bind (R:=RVs X.K) q).mono λxs H1 ⟨L,S,g1,s1,h1,rs,z⟩=>wu L H1 g1 S xs Q h1 rs z⟩
end
open PySem PySem.Spec PyProof.Rows L2 PySem.W
section
def uU{o:Obj}{es:Array DictEntry}(B:A.handled=none){d it:Addr}(G:d≠it)(hd:o.data=.dict es ep):
  Walks prog w A it [it,d] [it] es.size (λi v=>∃e,es[i]?=some e/\v=e.key) (λi h=>h.IsKeyIter it d i es.size ep/\h.get? d=some o) where
 sub:=λb hb=>by simp at hb;simp[hb]
 frame:=λi h u ⟨a,b⟩ hk=>⟨a.at λo e=>hk it (by simp) o e,hk d (by simp) o b⟩
 item:=λi s Q E hi ⟨a,b⟩ j=>by
  have z:es[i]?=some es[i]:=VQ hi;refine zr a b hd z λu a' sb=>?_;exact j _ u s.toks ⟨_,z,rfl⟩ ⟨a',(sb.2 d G).trans b⟩ λb o hb e=>(sb.2 b λq=>hb (by simp[q])).trans e
 done:=λs Q E ⟨a,b⟩ j=>xV B a b hd (NL (Hx _)) λu F=>j u s.toks λb o hb e=>F b o (λq=>hb (by simp[q])) e
 self:=λi s Q E ⟨a,_⟩ j=>wpAny_pyIter_keyiter a j
def jZ{o:Obj}{f:Array DictEntry}{d:Addr}(j:(d==sysModules)=false)(b:o.ExactDict)(g:o.data=.dict f ep):
  KdlSrc prog w "dict" d d f.size (λi v=>∃e,f[i]?=some e/\v=e.key) (λh=>h.get? d=some o) where
 type:=λ_ a=>⟨o,a,b.1⟩
 there:=λ_ a=>⟨Hu a,Hu a⟩
 keep:=λ_ _ a hk=>hk d (.inl rfl) o a
 notList:=by decide
 notTuple:=by decide
 hint:=λ_ _ _ _ a c=>kdl_hint_dict ⟨o,a,b.1⟩ c
 iter:=λ_ s k a=>⟨_,_,(λ_ _ c=>x6 j a b g c),uU k (HA (Hu a)) g,⟨⟨_,HB _ rfl,rfl,rfl⟩,Ht _ a⟩⟩
end
section
variable{W:XQ}
def gB{K:HF}{ρ:List Addr}{H:Hp}:∀{b:List (List Int×U)} {a:List (List Key×V)},RD K ρ H b a->a.map (·.1)=b.map λc=>c.1.map Sum.inl
 |[],a,h=>by cases h;rfl
 |(k,u)::r,a,⟨v,s,e,_,h⟩=>by subst e;rw[W1,W1,gB h]
def pH:∀k:List Int,(k.map (Sum.inl:Int->Key)).map H8=k.map V.int
 |[]=>rfl
 |i::k=>by rw[W1,W1,W1,pH k];rfl
def DKs(H:Hp)(a:Addr)(ks:List (List Int)):Prop:=∃ws,Rd H a (.dT ws)/\ws.map (·.1)=ks.map λk=>k.map Sum.inl
def Dy(H:Hp)(D:Za):Prop:=∀d∈D,H d.2=some (.ZY (d.1.map V.int))
def lK{ks:List (List Int)}(ok:HOk P w H h)(z:DKs H a ks):∃o es ep,ks.length<=sizeLine/\(a==sysModules)=false/\h.get? a=some o/\o.ExactDict/\o.data=.dict es ep/\es.size=ks.length /\
  ∀vs:List Value,vs.length=es.size->(∀(j:Nat) (v:Value),vs[j]?=some v ->∃e,es[j]?=some e/\v=e.key) ->∃D:Za,vs=refs D/\D.map (·.1)=ks/\Dy H D:=by
 let⟨ws,rd,L⟩:=z;let⟨h1,h2,o,es,ep,h3,h4,h5,G,h7⟩:=adg (rd.ok ok);have F:ws.length=ks.length:=by rw[<-Z1 (f:=(·.1)),L,Z1]
 refine⟨o,es,ep,by rw[<-F];exact h1,h2,h3,h4,h5,by rw[G,F],λvs B hs=>?_⟩
 rw[G]at B;clear rd h1 G;have each:∀(j:Nat) (v:Value),vs[j]?=some v ->∃b k,v=.ref b/\ks[j]?=some k/\H b=some (.ZY (k.map V.int)):=λj v e=>by
  let⟨en,S,R⟩:=hs j v e;have hj:j<ws.length:=by rw[<-B];exact(YE.mp e).1
  obtain⟨⟨k0,v0⟩,e3⟩:∃q,ws[j]?=some q:=⟨_,Xn hj⟩;let⟨b,en',e4,e5,e6⟩:=h7 j k0 v0 e3;rw[S]at e4;cases e4;have u:(ws.map (·.1))[j]?=some k0:=by rw[VV,e3];rfl
  rw[L,VV]at u;cases e8:ks[j]? with
  |none=>rw[e8]at u;cases u
  |some k=>
   rw[e8]at u;cases u;exact⟨b,k,R.trans e5,rfl,by rw[<-pH];exact e6⟩
 have Z:vs.length=ks.length:=by rw[B,F]
 clear B hs h7 L F h5 h4 h3
 induction vs generalizing ks with
 |nil=>
  cases ks with
  |nil=>exact⟨[],rfl,rfl,λd hd=>nomatch hd⟩
  |cons _ _=>cases Z
 |cons v vs ih=>
  cases ks with
  |nil=>cases Z
  |cons k ks=>
   let⟨b,k',rfl,S,R⟩:=each 0 v rfl;cases S;let⟨D,d1,JP,d3⟩:=ih (λj v e=>each (j+1) v e) (by simpa using Z)
   refine⟨(k,b)::D,by rw[d1];rfl,by rw[W1,JP],λd hd=>?_⟩
   rcases Vh.mp hd with rfl|hd
   .exact R
   .exact d3 d hd
def EF(X:Cx):List V->Hp->VK->Prop:=λxs H Q=>∃(a:Addr) (j:List (List Int)),xs=[.ref a]/\DKs H a j /\
 ∀(l:Addr) (D:Za),H l=none->D.map (·.1)=j->Dy H D->Q (.ref l) (upd H l (.Z5 (D.map λd=>V.ref d.2)))
def call_listD(hc:X.calm=true):CallR X (.type "list") (EF X):=by
 intro Y s O H xs S Q I r ⟨a,ks,e,z,q⟩;subst e;let⟨u,rfl,R⟩:=vals1 r;cases R;let⟨o,es,ep,B,h2,h3,h4,h5,h6,h7⟩:=lK I.ZK z;refine kdl_call (jZ h2 h4 h5) (I.ok.hd hc) h3 (by rw[h6];exact B) λh' L F c hk Z G=>?_
 let⟨D,d1,JP,d3⟩:=h7 F.toList (by rw[X6];exact G.1) λj v e=>G.2 j v (by rw[<-U9];exact e)
 have ea:F=(refs D).toArray:=by rw[<-d1]
 subst ea;refine⟨.ref s.heap.objs.size,_,I.laid (t':=L) hk (Hx _) (show ObjOk X.prog X.w _ h' _ (.Z5 (D.map λd=>V.ref d.2))from⟨?_,refs D,c,dv D,Z⟩),rfl,q _ D (I.ZK.fresh (Hx _)) JP d3⟩;rw[Z1,<-Z1 (f:=(·.1)),JP];exact B
def Dj(X:Cx):List V->Hp->VK->Prop:=λxs H Q=>∃(a:Addr) (j:List (List Int)),xs=[.ref a]/\DKs H a j/\j.length<100000/\(∀k∈j,k≠[]) /\
 ∀(l:Addr) (D:Za),H l=none->(D.map (·.1)).Perm j->BE D->Dy H D->Q (.ref l) (upd H l (.Z5 (D.map λd=>V.ref d.2)))
def vz(hc:X.calm=true)(hu:X.A.units+2<cLine):CallR X (.builtin "sorted") (Dj X):=by
 intro Y s O H xs S Q I r ⟨a,ks,e,z,hn,YT,q⟩;subst e;let⟨u,rfl,rx⟩:=vals1 r;cases rx;let⟨o,es,ep,h1,h2,h3,h4,h5,h6,h7⟩:=lK I.ZK z;refine iB (jZ h2 h4 h5) (I.ok.hd hc) hu h3 () λZ hl hv=>?_
 let⟨D,d1,JP,G⟩:=h7 Z hl hv;refine⟨D,d1,λd hd=>⟨gw I.ZK (G d hd),YT _ (by rw[<-JP];exact Ud.mpr ⟨d,hd,rfl⟩)⟩,λL h' F c j B qq k1 k2 V1=>?_⟩
 have R:Z0 X Y O H {s with heap:=L,toks:=F}:=I.kept k1
 refine⟨.ref L.objs.size,_,R.laid (t':=F) k2 (Hx _) (show ObjOk X.prog X.w _ h' _ (.Z5 (j.map λd=>V.ref d.2))from⟨?_,refs j,c,dv j,V1⟩),rfl,q _ j (R.ZK.fresh (Hx _)) (by rw[<-JP];exact B.map _) qq λd hd=>G d (B.mem_iff.mp hd)⟩
 rw[Z1,B.length_eq,<-Z1 (f:=(·.1)),JP];exact h1
def nK{x:V}{i:List (List Int×U)}(h:RH K ρ H g)(j:RV K ρ H u x)(e:Ye u g=some i):∃a,x=.ref a/\DKs H a (i.map (·.1)):=by
 cases u with
 |ref n=>
  simp![Ye]at e;cases eg:g[n]? with
  |none=>rw[eg]at e;cases e
  |some ob=>
   let⟨l,rfl,b⟩:=j;cases ob with
   |ZF k=>
    rw[eg]at e;cases e;let⟨a,ws,d,f,c⟩:=h.ZF eg;rw[d]at b;cases b;exact⟨_,rfl,ws,.inl f,by rw[gB c,Qz];rfl⟩
   |YG k=>
    rw[eg]at e;cases e;let⟨a,ob,ws,d,f,c⟩:=h.YG eg;rw[d]at b;cases b;exact⟨_,rfl,ws,.inr ⟨ob,f⟩,by rw[gB c,Qz];rfl⟩
   |_=>rw[eg]at e;cases e
 |_=>cases e
def imp_list(ρ:List Addr)(H:Hp)(g:G)(S:List U)(xs:List V)(Q:VK)(b:RH X.K ρ H g)(d:RVs X.K ρ H S xs)(p:post X.K W (RV X.K) (IV .list S g) ρ H Q):
  (∃p c,xs=[.ref p]/\(SqL X.K H p c\/SqT X.K H p c) /\∀l,H l=none->Q (.ref l) (upd H l (.Z5 c)))\/EF X xs H Q:=by
 match S,d with
 |[u],d=>
  let⟨x,r,rfl,i,e⟩:=d;cases e;simp![IV,Bw]at p;cases e:items u g with
  |none=>
   simp![e]at p;cases h:Ye u g with
   |none=>simp![h]at p;exact p.elim
   |some Z4=>
    simp![h]at p;let⟨a,rfl,z⟩:=nK b i h;refine .inr ⟨a,_,rfl,z,λl D f o n=>aX p b ?_ l f⟩;have:=dC (K:=X.K) (ρ:=ρ) n;rw[o,Qz]at this;exact this
  |some zs=>
   simp![e]at p;let⟨q,j,rfl,m,k⟩:=cj b i e;exact .inl ⟨q,j,rfl,m,λl f=>aX p b k l f⟩
 |[],_=>exact p.elim
 |_::_::_,_=>exact p.elim
def imp_srt(ρ:List Addr)(H:Hp)(g:G)(S:List U)(xs:List V)(Q:VK)(L:RH X.K ρ H g)(F:RVs X.K ρ H S xs)(p:post X.K W (RV X.K) (IV .VN S g) ρ H Q):
  (∃(p:Addr) (ns:List Int),xs=[.ref p]/\H p=some (.Z5 (ns.map V.int))/\ns.length<64 /\∀l,H l=none->Q (.ref l) (upd H l (.Z5 ((sortI ns).map V.int))))\/Dj X xs H Q:=by
 simp![IV,Cz]at p;cases B:A4 S g with
 |none=>
  simp![B,De]at p
  match S,F with
  |[u],F=>
   let⟨x,r',rfl,r1,e⟩:=F;cases e;simp only at p;cases R:Ye u g with
   |none=>simp![R]at p;exact p.elim
   |some Z4=>
    simp![R]at p;by_cases hk:Z4.length<100000/\(Z4.map (·.1)).Nodup /\∀k∈Z4.map (·.1),k≠[]
    .rw [Y2 hk]at p
     let⟨a,rfl,z⟩:=nK L r1 R;refine .inr ⟨a,_,rfl,z,by rw[Z1];exact hk.1,hk.2.2,λl D j Z oo B=>aX p L ?_ l j⟩
     have e1:D.map (·.1)=IS (Z4.map (·.1)):=by
      refine dR ?_ (bE _) λx=>Z.mem_iff.trans bD.symm;have nd:(D.map (·.1)).Nodup:=Z.nodup_iff.mpr hk.2.1;refine QN.mpr ?_;have Vv:=QN.mp nd;exact(List.Pairwise.and oo Vv).imp λ{x y} ⟨o1,n1⟩=>by
       cases j:Ah x.1 y.1 with
       |true=>rfl
       |false=>exact absurd (cH j o1) n1
     rw[<-e1];exact dC B
    .rw [YH hk]at p;exact p.elim
  |[],_=>exact p.elim
  |_::_::_,_=>exact p.elim
 |some ns=>
  simp![B]at p;let⟨q,rfl,hq⟩:=vi L F B;by_cases j:ns.length<64
  .rw [Y2 j]at p
   exact .inl ⟨q,ns,rfl,hq,j,λl h=>aX p L (eY _) l h⟩
  .rw [YH j]at p;exact p.elim
def call_srtX(hc:X.calm=true)(j:X.A.units+2<cLine):CallR X (.builtin "sorted") (λxs H Q=>(∃(p:Addr) (ns:List Int),xs=[.ref p]/\H p=some (.Z5 (ns.map V.int))/\ns.length<64 /\∀l,H l=none->Q (.ref l) (upd H l (.Z5 ((sortI ns).map V.int))))\/Dj X xs H Q):=xw.or (vz hc j)
end
open PySem PySem.Spec PyProof.Rows L2
section
variable{W:XQ}{a b c:Expr}{a' b' c':E}{lo hi:Option Expr}{lo' YL:Option E}
abbrev Cg(K:HF)(W:XQ)(f:Su->G->Out (Option Int)):TO:=tR K W Yc f
def x3:PO X none (Cg X.K W (IY r.ev none)):=λY s O H Q I ⟨b,ρ,g,hs,a,p⟩=>yp Y s O H Q I (post.YF (R:=Yc) p a rfl)
def yB(h:PE X e (tE X.K W (r.ev e'))):PO X (some e) (Cg X.K W (IY r.ev (some e'))):=λY s O H Q I z=>by
 refine yb h Y s O H Q I (one (k:=λ_ u g=>match u with|.int i=>Out.ok (some i) g|_=>.ZX) z λG F H g u x hs B j p=>?_)
 cases u with
 |int i=>cases j;exact⟨i,rfl,post.YF (R:=Yc) p B rfl⟩
 |_=>exact p.elim
def gu{vs:List V}{l h:Option Int}(a:RVs X.K ρ H S vs):RVs X.K ρ H (A0 S l h) (Bt vs l h):=by
 unfold A0 Bt;rw[a.length];exact(a.drop _).take _
def abH(ha:PE X a (tE X.K W (r.ev a')))(hl:PO X lo (Cg X.K W (IY r.ev lo')))(hh:PO X hi (Cg X.K W (IY r.ev YL))):PE X (.Subscript a (.Slice lo hi none p2) pos) (tE X.K W (I9 C r (.W_ a' lo' YL))):=by
 refine(wD (yr.or abF) ha hl hh).imp ?_;rintro O H Q ⟨G,ρ,g,hs,hg,p⟩;refine⟨G,ρ,g,hs,hg,(post.bind p).mono λx H1 ⟨ZM,u,g1,s1,h1,Z,p1⟩=>?_⟩;refine⟨G,ZM,g1,hs.step s1,h1,(post.bind (R:=Yc) p1).mono λl H2 ⟨YZ,l',g2,s2,h2,e2,p2⟩=>?_⟩;subst e2;refine⟨G,YZ,g2,(hs.step s1).step s2,h2,(post.bind (R:=Yc) p2).mono λh H3 ⟨TN,h',g3,s3,h3,e3,j⟩=>?_⟩;subst e3;have F:=RV.step s3 _ _ (RV.step s2 _ _ Z);cases u with
 |ZY S=>
  let⟨q,B,rfl,z,t2⟩:=F;refine .inr ⟨q,B,rfl,z.sq,?_⟩;simp![]at j;rw[t2.length]at j;split at j
  .exact j.elim
  .rename_i hn
   refine⟨hn,λk hk=>?_⟩;exact j _ TN _ (ZI.fresh hk) (h3.step_fresh hk) ⟨k,_,rfl,upd_same,RVs.step (ZI.fresh hk) _ _ (gu t2)⟩
 |Zy S=>
  let⟨q,B,rfl,z,t2⟩:=F;exact .inl ⟨q,B,rfl,z.sq,λk hk=>aX j h3 (gu t2) k hk⟩
 |ref n=>
  let⟨q,rfl,hn⟩:=F;simp![]at j;cases eg:g3[n]? with
  |none=>simp![eg]at j;exact j.elim
  |some o=>
   cases o with
   |Z5 S=>
    simp![eg]at j;let⟨q',B,z,t2,L⟩:=h3.Z5 eg;rw[hn]at z;cases z;exact .inl ⟨q,B,rfl,.of t2,λk hk=>aX j h3 (gu L) k hk⟩
   |ZF _=>simp![eg]at j;exact j.elim
   |YG _=>simp![eg]at j;exact j.elim
   |dst _=>simp![eg]at j;exact j.elim
   |ins _ _=>simp![eg]at j;exact j.elim
 |_=>exact j.elim
def tyName:Ty->String
 |.U7=>"int"|.U6=>"bool"|.Ut=>"str"|.Us=>"tuple"|.U5=>"list"|.own _=>"?"
noncomputable def Ty.isB(t:Ty):Bool:=match t with|.own _=>false|_=>true
def aa5{x:V}{t:Ty}{k:Bool}{O:L2.St}{v:Value}{Q:VK}(I:L2.Z0 X Y O H s)(hg:RH X.K ρ H g)(L:RV X.K ρ H u x)(G:RelV x v)
  (F:t.isB=true) (e:Aw t u g=some k) (q:Q (.bl k) H):wpAny (model X.prog X.w) X.A (call (.builtin "isinstance") [v,.type (tyName t)]) (EP X Y O Q) X.xe s:=by
 have j:∀R,EP X Y O Q (.bool k) {s with toks:=R}:=λR=>⟨.bl k,H,I.tok R,rfl,q⟩
 have isT:∀{p:Addr} {S:List U} {B:List V},SqT X.K H p B->Aw t (.ZY S) g=some k->wpAny (model X.prog X.w) X.A (call (.builtin "isinstance") [.ref p,.type (tyName t)]) (EP X Y O Q) X.xe s:=λ{p S B} h e=>by
  let⟨ZU,_,⟨o,Z,h2,_⟩,_⟩:=I.tuple h;cases t<;>first|(cases F;done)|(simp![Aw,Xl,reduceCtorEq]at e;subst e;exact PQ PySem.W.kitx_tuple I.Yy ⟨o,Z,h2⟩ rfl (λz=>nomatch z) j)
 have isL:∀{p:Addr} {B:List V},SqL X.K H p B->B5 t=some k->wpAny (model X.prog X.w) X.A (call (.builtin "isinstance") [.ref p,.type (tyName t)]) (EP X Y O Q) X.xe s:=λ{p B} h e=>by
  let⟨ZU,_,⟨o,n,Z,h2,_⟩,_⟩:=I.list h;cases t<;>first|(cases F;done)|(simp![B5,Xl,reduceCtorEq]at e;subst e;exact PQ PySem.W.kitx_list I.Yy ⟨o,Z,h2⟩ rfl (λz=>nomatch z) j)
 cases u with
 |ZJ=>cases L;cases G;cases t<;>first|(cases F;done)|(simp![Aw,Xl,reduceCtorEq]at e;subst e;exact PQ PySem.W.kitx_none I.Yy True.intro rfl (λz=>nomatch z) j)
 |bl b=>cases L;cases G;cases t<;>first|(cases F;done)|(simp![Aw,Xl,reduceCtorEq]at e;subst e;exact PQ PySem.W.kitx_bool I.Yy True.intro rfl (λz=>nomatch z) j)
 |int i=>cases L;let⟨R,rfl⟩:=G;cases t<;>first|(cases F;done)|(simp![Aw,Xl,reduceCtorEq]at e;subst e;exact PQ PySem.W.kitx_int I.Yy True.intro rfl (λz=>nomatch z) j)
 |str z=>cases L;let⟨R,rfl⟩:=G;cases t<;>first|(cases F;done)|(simp![Aw,Xl,reduceCtorEq]at e;subst e;exact PQ PySem.W.kitx_str I.Yy True.intro rfl (λz=>nomatch z) j)
 |ZY S=>let⟨p,B,rfl,Z,h2⟩:=L;cases G;exact isT Z.sq e
 |Zy S=>simp[Aw]at e
 |ref n=>
  let⟨p,rfl,hn⟩:=L;cases G;simp![Aw]at e;cases eg:g[n]? with
  |none=>simp![eg]at e;cases e
  |some o=>
   cases o with
   |Z5 S=>
    simp![eg]at e;let⟨q',B,t1,t2,t3⟩:=hg.Z5 eg;rw[hn]at t1;cases t1;exact isL (.of t2) e
   |ZF _=>simp![eg]at e;cases e
   |YG _=>simp![eg]at e;cases e
   |dst _=>simp![eg]at e;cases e
   |ins _ _=>simp![eg]at e;cases t<;>first|(cases F;done)|cases e
 |xn _ _=>simp[Aw]at e
def aaN{t:Ty}{j:Str}{p1:Pos}(hT:t.isB=true)(ht:j=Str.ofString (tyName t))(Z:Gl X j)(R:X.mg j=none)(Xp:bootBuiltins j=some (.type (tyName t)))(hn:j ≠ "__name__")(YU:(j==("__debug__" : Str))=false)
  (z:Gl X "isinstance") (hm:X.mg "isinstance" = none) (ha:PE X a (tE X.K W (r.ev a'))) (hs:∀es,starEach (a::es) X.env=(false,eval a X.env)::starEach es X.env) :
  PE X (.Call (.Name "isinstance" p1) [a,.Name j p2] [] pos) (tE X.K W (I9 C r (.Yz a' t))):=by
 have hc:CallR X (.builtin "isinstance") (λxs H Q=>∃x B g u k,xs=[x,.ty (tyName t)]/\RH X.K B H g/\RV X.K B H u x/\Aw t u g=some k/\Q (.bl k) H):=by
  intro Y s O H xs S Q I F ⟨x,B,g,u,k,e,z,L,G,q⟩;subst e;cases F with
  |cons rx F=>
   cases F with
   |cons ry F=>
    cases F;cases ry;exact aa5 I z L rx hT G q
 refine(pe_callB hc z hm (by rfl) (aw ha (aw (lJ (v:=.ty (tyName t)) Z R Xp rfl hn YU) aN rfl) (hs _)) (by decide) (by decide) (hs _) rfl).imp λO H Q hp=>?_
 refine one hp λZZ B H g u x hs z L p=>?_;cases G:Aw t u g with
 |none=>simp![G]at p;exact p.elim
 |some k=>simp![G]at p;exact⟨x,B,g,u,k,rfl,z,L,G,okE p z rfl⟩
def cV{x:V}(f:RH X.K ρ H g)(e:RV X.K ρ H (.ref n) x)(h:g[n]?=some (.Z5 S)):∃q vs,x=.ref q/\ρ[n]?=some q/\H q=some (.Z5 vs)/\RVs X.K ρ H S vs:=by
 let⟨q,rfl,b⟩:=e;let⟨i,vs,a,d,c⟩:=f.Z5 h;rw[b]at a;cases a;exact⟨q,vs,rfl,b,d,c⟩
def gi{x:U}(e:IW x g=some n):x=.ref n /\∃S,g[n]?=some (.Z5 S):=by
 cases x<;>simp![IW,reduceCtorEq]at e
 rename_i m;cases eg:g[m]? with
 |none=>simp[eg]at e
 |some o=>
  cases o with
  |Z5 S=>simp![eg,Xl]at e;subst e;exact⟨rfl,S,eg⟩
  |ZF _=>simp[eg]at e
  |YG _=>simp[eg]at e
  |dst _=>simp[eg]at e
  |ins _ _=>simp[eg]at e
def nr{o:Expr}{B:String}{L:V->List V->Hp->VK->Prop}{f:Nat->U->G->Out U}(j:Slot "list" name B)(Ui:typeOf (.builtin B)=pure (.type "method_descriptor"))(mt:MtR X B L)
  (imp:∀ρ H g n q y v Q,RH X.K ρ H g->ρ[n]?=some q->RV X.K ρ H y v->post X.K W (RV X.K) (f n y g) ρ H Q->L (.ref q) [v] H Q)
  (ho:PE X o (tE X.K W (r.ev o'))) (ha:PE X a (tE X.K W (r.ev a'))) (Yb:attributeBase o name X.env (eval o X.env)=eval o X.env) (XZ:(apos.endLine==Zr.line)=true)
  (hs:∀ es,starEach (a :: es) X.env=(false,eval a X.env) :: starEach es X.env):PE X (.Call (.Attribute o name apos) [a] [] Zr) (tE X.K W (λO g=>(r.ev o' O g).bind λx g=>match IW x g with
  |some n=>(r.ev a' O g).bind λy g=>f n y g
  |none=>.ZX)):=by
 refine(acB (T:="list") NB j Ui mt ho (aw ha aN (hs _)) Yb (by rw[hs];rfl) XZ (hs _) rfl).imp ?_;rintro O H Q ⟨R,ρ,g,hs,hg,p⟩
 refine⟨R,ρ,g,hs,hg,(post.bind p).mono λx H1 ⟨ZM,u,g1,s1,h1,r1,z⟩=>?_⟩;cases ea:IW u g1 with
 |none=>simp![ea]at z;exact z.elim
 |some n=>
  simp![ea]at z;let⟨rfl,S,eg⟩:=gi ea;let⟨q,Z,rfl,hn,t2,t3⟩:=cV h1 r1 eg;refine⟨.inl ⟨rfl,Z,.of t2⟩,R,ZM,g1,hs.step s1,h1,(post.bind z).mono λy H2 ⟨YZ,w,g2,s2,h2,r2,p2⟩=>?_⟩;exact imp YZ H2 g2 n q w y Q h2 (s2.ext _ _ hn) r2 p2
def aM{q:Addr}(e:RH X.K ρ H g)(d:ρ[n]?=some q)(f:g[n]?=some (.Z5 S)):∃vs,H q=some (.Z5 vs)/\RVs X.K ρ H S vs:=by
 let⟨h,vs,a,c,b⟩:=e.Z5 f;rw[d]at a;cases a;exact⟨vs,c,b⟩
def aaX{o:Expr}(L:PE X o (tE X.K W (r.ev o')))(ha:PE X a (tE X.K W (r.ev a')))(Z:attributeBase o "append" X.env (eval o X.env)=eval o X.env)(XZ:(apos.endLine==Zr.line)=true)
  (hs:∀es,starEach (a::es) X.env=(false,eval a X.env)::starEach es X.env):PE X (.Call (.Attribute o "append" apos) [a] [] Zr) (tE X.K W (I9 C r (.app o' a'))):=by
 refine nr PySem.F.slot_list_append PySem.F.type_list_append jc (λz H g n q y v Q u hn G p=>?_) L ha Z XZ hs;simp![Bj]at p;cases eg:g[n]? with
 |none=>simp![eg]at p;exact p.elim
 |some o=>
  cases o with
  |Z5 S=>
   simp![eg]at p;let⟨B,t2,j⟩:=aM u hn eg;split at p
   .rename_i R
    exact⟨q,B,v,rfl,rfl,t2,by rw[<-j.length,Qh];unfold Ab at R;omega,p _ z _ (ZI.write hn t2) (u.write hn t2 (j.append (.one G))) rfl⟩
   .exact p.elim
  |ZF _=>simp![eg]at p;exact p.elim
  |YG _=>simp![eg]at p;exact p.elim
  |dst _=>simp![eg]at p;exact p.elim
  |ins _ _=>simp![eg]at p;exact p.elim
def z6{o:Expr}(ho:PE X o (tE X.K W (r.ev o')))(ha:PE X a (tE X.K W (r.ev a')))(Yb:attributeBase o "extend" X.env (eval o X.env)=eval o X.env)(XZ:(apos.endLine==Zr.line)=true)
  (hs:∀es,starEach (a::es) X.env=(false,eval a X.env)::starEach es X.env):PE X (.Call (.Attribute o "extend" apos) [a] [] Zr) (tE X.K W (I9 C r (.ext o' a'))):=by
 refine nr PySem.F.slot_list_extend PySem.F.type_list_extend vS (λG H g n q y v Q j hn Z p=>?_) ho ha Yb XZ hs;simp![BB]at p;cases ea:IW y g with
 |none=>simp![ea]at p;exact p.elim
 |some m=>
  simp![ea]at p;let⟨rfl,zs,B⟩:=gi ea;let⟨q2,ws,rfl,hm,L,u⟩:=cV j Z B;cases eg:g[n]? with
  |none=>simp![eg]at p;exact p.elim
  |some o=>
   cases o with
   |Z5 S=>
    simp![eg,B]at p;let⟨R,t2,z⟩:=aM j hn eg;split at p
    .rename_i hl
     exact⟨q,q2,R,ws,rfl,rfl,t2,L,by rw[<-z.length,<-u.length,Qh];unfold Ab at hl;omega,p _ G _ (ZI.write hn t2) (j.write hn t2 (z.append u)) rfl⟩
    .exact p.elim
   |ZF _=>simp![eg]at p;exact p.elim
   |YG _=>simp![eg]at p;exact p.elim
   |dst _=>simp![eg]at p;exact p.elim
   |ins _ _=>simp![eg]at p;exact p.elim
def abB{o:Expr}(ho:PE X o (tE X.K W (r.ev o')))(Yb:attributeBase o "pop" X.env (eval o X.env)=eval o X.env)(XZ:(apos.endLine==Zr.line)=true):
  PE X (.Call (.Attribute o "pop" apos) [] [] Zr) (tE X.K W (I9 C r (.pop o'))):=by
 refine(zU (T:="list") NB PySem.F.slot_list_pop PySem.F.type_list_pop abR ho Yb XZ).imp λO H Q hp=>one hp λZZ R H g u x hs G r1 p=>?_;cases ea:IW u g with
 |none=>simp![ea]at p;exact p.elim
 |some n=>
  simp![ea]at p;let⟨rfl,S,L⟩:=gi ea;let⟨q,B,rfl,hn,t2,j⟩:=cV G r1 L;refine⟨.inl ⟨rfl,B,.of t2⟩,?_⟩;simp![Bo,L]at p;cases z:S[S.length-1]? with
  |none=>simp![z]at p;exact p.elim
  |some y=>
   simp![z]at p;let⟨v,ev,Z⟩:=j.get z;exact⟨q,B,v,rfl,rfl,t2,by rw[<-j.length];exact ev,p _ R _ (ZI.write hn t2) (G.write hn t2 j.dropLast) (RV.step (ZI.write hn t2) _ _ Z)⟩
end
section
variable(K:HF)
inductive tG(t:Tg)(v:V)(O:L2.St)(H:Hp)(Q:L2.St->Hp->Prop):Prop
 |mk (ZZ:Su) (ρ:List Addr) (g:G) (u:U) (XE:Su) (hs:RS K ρ H ZZ O) (hg:RH K ρ H g) (r:RV K ρ H u v) (e:Ae t (IZ t u g) ZZ=some XE) (q:∀ZT,RS K ρ H XE ZT->Q ZT H)
inductive TM(is:List Nat)(vs:List V)(O:L2.St)(H:Hp)(Q:L2.St->Hp->Prop):Prop
 |mk (ZZ:Su) (ρ:List Addr) (S:List U) (XE:Su) (hs:RS K ρ H ZZ O) (r:RVs K ρ H S vs) (e:bindL is S ZZ=some XE) (q:∀ZT,RS K ρ H XE ZT->Q ZT H)
def RI(ρ:List Addr)(H:Hp)(i:Iter)(c:It):Prop:=match i with
 |.Z5 n=>∃a,ρ[n]?=some a/\c=Itl K a
 |.W9 n=>∃a,ρ[n]?=some a/\c=Ite K a
 |.zip n m=>∃a b,ρ[n]?=some a/\ρ[m]?=some b/\c=Itz K a b
 |.seq S=>∃a d,(SqU K H a d\/SqC K a d)/\RVs K ρ H S d/\c=Itt K a
 |.YY lo n=>c=Itr lo n
abbrev tI(W:XQ)(f:Su->G->Out Iter):TI:=tR K W (RI K) f
end
def RI.step{K:HF}{ρ f:List Addr}{H j:Hp}{i:Iter}{g:It}(s:ZI K ρ H f j)(h:RI K ρ H i g):RI K f j i g:=by
 cases i with
 |Z5 n=>let⟨a,d,c⟩:=h;exact⟨a,s.ext _ _ d,c⟩
 |W9 n=>let⟨a,d,c⟩:=h;exact⟨a,s.ext _ _ d,c⟩
 |zip n m=>let⟨a,b,d,c,e⟩:=h;exact⟨a,b,s.ext _ _ d,s.ext _ _ c,e⟩
 |seq S=>let⟨a,k,d,c,e⟩:=h;exact⟨a,k,d.imp_left (s.ZY _ _),RVs.step s _ _ c,e⟩
 |YY lo n=>exact h
section
variable{W:XQ}{a b c:Expr}{a' b' c':E}{t:Tg}
def i0{t:Tg}{O a:Su}(h:Ae t u O=some a):Ae t (IZ t u g) O=some a:=by
 cases t with
 |nm i=>exact h
 |tp is=>
  cases u with
  |ref n=>simp[Ae]at h
  |_=>exact h
def GD(K:HF)(n:Nat)(t:Wq):TG:=λv O H Q=>∃a b,v=.ref a/\SqL K H a b/\b.length=n/\t b O H Q
def y4{k:Nat}{t:Wq}(hc:X.calm=true)(h:PGs X es t)
  (hn:(assignEach es X.env).length=n) (Zz:(assignEach es X.env).findIdx? (·.1)=none):PG X (.Tuple es k pos) (GD X.K n t):=by
 intro Y s O H v u Q I r B;let⟨a,xs,e1,L,R,B⟩:=B;subst e1;cases r;let⟨ZU,F,⟨o,m,e,Wr,G,z⟩,hz⟩:=I.list L;have S:s.heap.IsList a ZU.toArray:=⟨o,e,Wr,m,z⟩;rw[assign_Tuple];refine ZB (QD ?_);unfold unpack;have j:(assignEach es X.env).length=ZU.toArray.size:=by simp[hn,<-R,F.length]
 rw[j,Zz];refine ZB (TU (PySem.W.kun_itemsOf (I.ok.hd hc) S λZ hx=>?_));have I1:Z0 X Y O H {s with heap:=Z}:=I.kept (t':=s.toks) λb o e=>hx b o (HA (Hu e)) e
 exact h Y _ O H xs _ Q I1 (by simpa using F) B
def acF(d:X.N.Nodup)(hi:X.N[i]?=some x)(b:Loc X.env.scope x)(c:X.fn x=true\/X.env.scope.names.lookup x=some .local):PG X (.Name x pos) (tG X.K (.nm i)):=by
 intro Y s O H v u Q I a ⟨j,ρ,g,w,k,hs,h,f,e,q⟩;refine km d hi b c Y s O H v u Q I a ?_;simp![IZ,Ae]at e;split at e
 .cases e;exact q _ (hs.set f)
 .cases e
def sgs_nil:PGs X [] (TM X.K []):=by
 intro Y s O H a S Q I b ⟨d,ρ,ws,f,hs,c,e,q⟩;refine yv Y s O H a S Q I b ?_;cases ws with
 |nil=>cases c;cases e;exact⟨rfl,q _ hs⟩
 |cons _ _=>cases e
def wc{is:List Nat}(k:X.N.Nodup)(hi:X.N[i]?=some x)(g:Loc X.env.scope x)(j:X.fn x=true\/X.env.scope.names.lookup x=some .local)(h:PGs X ts (TM X.K is)):PGs X (.Name x pos::ts) (TM X.K (i::is)):=by
 intro Y s O H a S Q I c ⟨n,ρ,ws,m,hs,l,e,q⟩;refine wJ (km k hi g j) h rfl Y s O H a S Q I c ?_;cases ws with
 |nil=>cases e
 |cons w ws=>
  let⟨v,b,rfl,f,d⟩:=l;simp![bindL]at e;split at e
  .exact ⟨v,b,rfl,_,ρ,ws,m,hs.set f,d,e,q⟩
  .cases e
def fw:∀{is:List Nat} {S:List U} {O a:Su},bindL is S O=some a->S.length=is.length
 |[],[],_,_,_=>rfl
 |_::is,_::S,_,_,e=>by
  simp![bindL]at e;split at e
  .simp [fw e]
  .cases e
 |[],_::_,_,_,e=>by simp[bindL]at e
 |_::_,[],_,_,e=>by simp[bindL]at e
def acA{is:List Nat}{k:Nat}(hc:X.calm=true)(h:PGs X ts (TM X.K is))(hn:(assignEach ts X.env).length=is.length)(R:(assignEach ts X.env).findIdx? (·.1)=none):PG X (.Tuple ts k pos) (tG X.K (.tp is)):=by
 intro Y s O H v u Q I L ⟨B,ρ,g,w,F,hs,hg,Z,e,q⟩;cases w with
 |ZY S=>
  refine abU hc h hn R Y s O H v u Q I L ?_;let⟨a,G,rfl,h1,z⟩:=Z;have e':bindL is S B=some F:=e;exact⟨a,G,rfl,h1.sq,by rw[<-z.length];exact fw e',B,ρ,S,F,hs,z,e',q⟩
 |ref n=>
  simp![IZ]at e;cases eg:g[n]? with
  |none=>simp[eg,Ae]at e
  |some o=>
   cases o with
   |Z5 xs=>
    refine y4 hc h hn R Y s O H v u Q I L ?_;let⟨a,G,hr,hH,z⟩:=hg.Z5 eg;let⟨a',rfl,j⟩:=Z;rw[hr]at j;cases j;have e':bindL is xs B=some F:=by simpa[eg,Ae]using e
    exact⟨a,G,rfl,.of hH,by rw[<-z.length];exact fw e',B,ρ,xs,F,hs,z,e',q⟩
   |_=>simp[eg,Ae]at e
 |_=>simp[IZ,Ae]at e
def abh{l:Expr}{m:E}(J:PE X l (tE X.K W (r.ev m))):PI X tg l (tI X.K W (λO g=>(r.ev m O g).bind λu g=>match u with
  |.ZY xs=>Out.ok (Iter.seq xs) g
  |.xn _ xs=>Out.ok (Iter.seq xs) g
  |.ref n=>match g[n]? with
   |some (.Z5 _)=>.ok (.Z5 n) g
   |_=>.ZX
  |_=>.ZX)):=by
 intro Y s O H R I F;have L:tE X.K W (r.ev m) O H (λx h=>(∃a,x=.ref a/\(∃xs,SqL X.K h a xs)/\R (Itl X.K a) h)\/(∃a,x=.ref a/\(∃xs,SqT X.K h a xs)/\R (Itt X.K a) h)):=by
  refine one (R:=RI X.K) F λQ M H g u x P k i p=>?_;cases u with
  |ZY S=>let⟨a,f,rfl,j,y⟩:=i;exact .inr ⟨a,rfl,⟨f,j.sq⟩,post.YF (R:=RI X.K) p k ⟨a,f,.inl j,y,rfl⟩⟩
  |xn _ S=>let⟨a,f,rfl,j,y⟩:=i;exact .inr ⟨a,rfl,⟨f,j.sq⟩,post.YF (R:=RI X.K) p k ⟨a,f,.inr j,y,rfl⟩⟩
  |ref n=>
   simp![]at p;cases eg:g[n]? with
   |none=>simp![eg]at p;exact p.elim
   |some o=>
    cases o with
    |Z5 S=>
     simp![eg]at p;let⟨q,f,rfl,G,A,N⟩:=cV k i eg;exact .inl ⟨q,rfl,⟨f,.of A⟩,post.YF (R:=RI X.K) p k ⟨q,G,rfl⟩⟩
    |ZF _=>simp![eg]at p;exact p.elim
    |YG _=>simp![eg]at p;exact p.elim
    |dst _=>simp![eg]at p;exact p.elim
    |ins _ _=>simp![eg]at p;exact p.elim
  |_=>exact p.elim
 refine thn (J Y s O H _ I L) ?_;rintro v c ⟨x,h,d,i,C⟩;rcases C with⟨a,e,⟨xs,t⟩,q⟩|⟨a,e,⟨xs,t⟩,q⟩
 .subst e
  cases i;let⟨z,B,p,D⟩:=d.list t;refine wpAny_pyIter_list p.isList ?_;refine⟨c.heap.objs.size,[c.heap.objs.size],_,_,h,rfl,d.kept (t':=c.toks) λb o e=>Ht _ e,uZ a _,⟨_,HB _ rfl,rfl,rfl⟩,λb w=>?_,q⟩;have e:b=c.heap.objs.size:=by simpa using w
  subst e;exact d.SN (Hx _) (d.ZK.fresh (Hx _))
 .subst e
  cases i;let⟨z,B,p,D⟩:=d.tuple t;refine wpAny_pyIter_tuple (show c.heap.IsTuple a z.toArray from p) ?_;refine⟨c.heap.objs.size,[c.heap.objs.size],_,_,h,rfl,d.kept (t':=c.toks) λb o e=>Ht _ e,ug a _,⟨_,HB _ rfl,rfl,rfl⟩,λb w=>?_,q⟩;have e:b=c.heap.objs.size:=by simpa using w
  subst e;exact d.SN (Hx _) (d.ZK.fresh (Hx _))
def PI.imp{iter:Expr}{t t':TI}(h:PI X tg iter t)(q:∀O H Q,t' O H Q->t O H Q):PI X tg iter t':=λY s O H Q I a=>h Y s O H Q I (q O H Q a)
def zB{p:Pos}(z:Gl X "range")(G:X.mg "range" = none)(ha:PE X a (tE X.K W (r.ev a')))(hs:∀es,starEach (a::es) X.env=(false,eval a X.env)::starEach es X.env):
  PI X tg (.Call (.Name "range" p) [a] [] pos) (tI X.K W (I8 r (.Xy a'))):=by
 refine PI.imp (vI z G (aw ha aN (hs _)) (hs _)) λO H R F=>one (R:=RI X.K) F λZ L H g u x hs z B p=>?_;cases u with
 |int j=>
  cases B;simp![]at p;split at p
  .rename_i S
   exact⟨j,rfl,by omega,by omega,post.YF (R:=RI X.K) p z rfl⟩
  .exact p.elim
 |_=>exact p.elim
def yK{p:Pos}(z:Gl X "range")(S:X.mg "range" = none)(ha:PE X a (tE X.K W (r.ev a')))(hb:PE X b (tE X.K W (r.ev b')))(hs:∀es,starEach (a::es) X.env=(false,eval a X.env)::starEach es X.env)
  (B:∀es,starEach (b::es) X.env=(false,eval b X.env)::starEach es X.env):PI X tg (.Call (.Name "range" p) [a,b] [] pos) (tI X.K W (I8 r (.WN a' b'))):=by
 refine PI.imp (vm z S (aw ha (aw hb aN (B _)) (hs _)) (by rw[hs,B];rfl) (B _)) λO H R L=>two (R:=RI X.K) L λZZ Z H g u w x y hs z G F p=>?_
 cases u with
 |int i=>
  cases w with
  |int j=>
   cases G;cases F;simp![]at p;split at p
   .exact ⟨i,j,rfl,by omega,post.YF (R:=RI X.K) p z rfl⟩
   .exact p.elim
  |_=>exact p.elim
 |_=>cases w<;>exact p.elim
def kQ{t:It}(l:RH X.K ρ H g)(k:RI X.K ρ H it t)(e:next it i g=some none):t.stop i H:=by
 cases it with
 |Z5 n=>
  let⟨a,d,rfl⟩:=k;simp![next]at e;cases eg:g[n]? with
  |none=>simp[eg]at e
  |some o=>
   cases o with
   |Z5 S=>
    simp![eg,Xl]at e;let⟨c,j,f⟩:=aM l d eg;exact⟨c,.of j,Qd.mp (f.none_of e)⟩
   |ZF _=>simp[eg]at e
   |YG _=>simp[eg]at e
   |dst _=>simp[eg]at e
   |ins _ _=>simp[eg]at e
 |W9 n=>
  let⟨a,d,rfl⟩:=k;simp![next]at e;cases eg:g[n]? with
  |none=>simp[eg]at e
  |some o=>
   cases o with
   |Z5 S=>
    simp![eg,Xl,NN]at e;let⟨c,j,f⟩:=aM l d eg;exact⟨c,.of j,Qd.mp (f.none_of e)⟩
   |_=>simp[eg]at e
 |zip n m=>
  let⟨a,b,d,s,rfl⟩:=k;simp![next]at e;cases eg:g[n]? with
  |none=>simp[eg]at e
  |some o=>
   cases o with
   |Z5 S=>
    cases p:g[m]? with
    |none=>simp[eg,p]at e
    |some o'=>
     cases o' with
     |Z5 v=>
      simp![eg,p,Xl]at e;let⟨c,j,f⟩:=aM l d eg;let⟨u,r,q⟩:=aM l s p;refine⟨c,u,.of j,.of r,?_⟩;cases ex:S[i]? with
      |none=>exact .inl (Qd.mp (f.none_of ex))
      |some z=>
       rw[ex,PD,NN]at e;exact .inr (Qd.mp (q.none_of e))
     |_=>simp[eg,p]at e
   |_=>simp[eg]at e
 |seq S=>
  let⟨a,c,d,s,rfl⟩:=k;simp![next,Xl]at e;exact⟨c,d.elim SqU.sq SqC.sq,Qd.mp (s.none_of e)⟩
 |YY lo n=>
  cases k;simp![next,Xl]at e;split at e
  .cases e
  .rename_i h;exact Nat.le_of_not_lt h
def qV{L:It}(q:RH X.K ρ H g)(B:RI X.K ρ H it L)(e:next it i g=some (some u)):L.go i H /\∀x c,L.yld i H x c->ZI X.K ρ H ρ c/\RH X.K ρ c g/\RV X.K ρ c u x:=by
 have here:∀{x:V} {c:Hp},c=H->RV X.K ρ H u x->ZI X.K ρ H ρ c/\RH X.K ρ c g/\RV X.K ρ c u x:=λe r=>by subst e;exact⟨.refl,q,r⟩
 cases it with
 |Z5 n=>
  let⟨a,f,rfl⟩:=B;simp![next]at e;cases eg:g[n]? with
  |none=>simp[eg]at e
  |some o=>
   cases o with
   |Z5 S=>
    simp![eg,Xl]at e;let⟨d,k,y⟩:=aM q f eg;let⟨v,j,l⟩:=y.get e;refine⟨⟨d,v,.of k,j⟩,λx c ⟨f,h2⟩=>here f ?_⟩;have:=h2 d (.of k);rw[j]at this;cases this;exact l
   |ZF _=>simp[eg]at e
   |YG _=>simp[eg]at e
   |dst _=>simp[eg]at e
   |ins _ _=>simp[eg]at e
 |W9 n=>
  let⟨a,f,rfl⟩:=B;simp![next]at e;cases eg:g[n]? with
  |none=>simp[eg]at e
  |some o=>
   cases o with
   |Z5 S=>
    simp![eg,Xl]at e;let⟨w,J,I⟩:=Vu.mp e;let⟨d,k,y⟩:=aM q f eg;let⟨v,j,l⟩:=y.get J;refine⟨⟨d,v,.of k,j⟩,λx c ⟨p,s,hp,ex,G,all⟩=>?_⟩;have:=all d (.of k);rw[j]at this;cases this;subst ex;subst G;subst I;have t:ZI X.K ρ H ρ (upd H p (.ZY [.int i,v])):=ZI.fresh hp;exact⟨t,q.step_fresh hp,p,[.int i,v],rfl,upd_same,.int i,[v],rfl,rfl,v,[],rfl,RV.step t _ _ l,rfl⟩
   |_=>simp[eg]at e
 |zip n m=>
  let⟨a,b,f,h2,rfl⟩:=B;simp![next]at e;cases eg:g[n]? with
  |none=>simp[eg]at e
  |some o=>
   cases o with
   |Z5 S=>
    cases E:g[m]? with
    |none=>simp[eg,E]at e
    |some o'=>
     cases o' with
     |Z5 W=>
      simp![eg,E,Xl]at e;let⟨w,J,e⟩:=UA.mp e;let⟨U,Q,I⟩:=Vu.mp e;let⟨d,k,y⟩:=aM q f eg;let⟨O,A,F⟩:=aM q h2 E;let⟨v,j,l⟩:=y.get J;let⟨s,C,R⟩:=F.get Q;refine⟨⟨d,O,v,s,.of k,.of A,j,C⟩,λx c ⟨p,z,T,hp,ex,G,all,D⟩=>?_⟩;have N:=all d (.of k);have M:=D O (.of A);rw[j]at N;cases N;rw[C]at M;cases M;subst ex;subst G;subst I;have t:ZI X.K ρ H ρ (upd H p (.ZY [v,s])):=ZI.fresh hp;exact⟨t,q.step_fresh hp,p,[v,s],rfl,upd_same,v,[s],rfl,RV.step t _ _ l,s,[],rfl,RV.step t _ _ R,rfl⟩
     |_=>simp[eg,E]at e
   |_=>simp[eg]at e
 |seq S=>
  let⟨a,d,f,h2,rfl⟩:=B;simp![next,Xl]at e;let⟨v,j,l⟩:=h2.get e;have P:SqT X.K H a d:=f.elim SqU.sq SqC.sq;refine⟨⟨d,v,P,j⟩,λx c ⟨h3,h4⟩=>here h3 ?_⟩;have:=h4 d P;rw[j]at this;cases this;exact l
 |YY lo n=>
  cases B;simp![next,Xl]at e;split at e
  .rename_i h
   cases e;exact⟨h,λx c ⟨f,h2⟩=>here f h2⟩
  .cases e
variable{st:Stmt}{ZS:List Stmt}{s':Z6}{ZC:List Z6}
def nR:PSs X [] (Zw X.K W (Jd r [])):=cJ.imp λD O H ⟨b,ρ,g,hs,a,p⟩=>p O ρ H .refl a hs
def lM(i:PS X st (Zw X.K W (Jc r s')))(b:PSs X ZS (Zw X.K W (r.ex ZC))):PSs X (st::ZS) (Zw X.K W (Jd r (s'::ZC))):=by
 refine(dA i b).imp λD O H ⟨d,ρ,g,hs,h,p⟩=>⟨d,ρ,g,hs,h,?_⟩;revert p;simp![Jd];cases Jc r s' d g with
 |ok f g1=>
  cases f with
  |nx a=>exactλp l j m e b k=>⟨a,j,g1,k,b,Ji.from (o:=r.ex ZC a g1) p e⟩
  |rt u=>exactλp=>p
  |bk a=>exactλp=>p
  |ct a=>exactλp=>p
 |exc c fs g1=>exactλp=>p
 |ZX=>exactλp=>p
def eS{f:Su->G->Out U}{k:Su->U->G->Out Fl}{O:L2.St}{H:Hp}{D:Ends}{B:V->Hp->Prop}
  (R:Zw X.K W (λj g=>(f j g).bind λx g=>k j x g) D O H)
  (z:∀j ρ H g u x,RS X.K ρ H j O->RH X.K ρ H g->RV X.K ρ H u x->Ji X.K W (k j u g) ρ H D->B x H):tE X.K W f O H B:=by
 let⟨j,ρ,g,hs,S,p⟩:=R;exact⟨j,ρ,g,hs,S,(Ji.bind p).mono λx H1 ⟨Z,u,g1,s1,h1,F,L⟩=>z j Z H1 g1 u x (hs.step s1) h1 F L⟩
def aag(h:PE X e (tE X.K W (r.ev e'))):PS X (.Return (some e) pos) (Zw X.K W (Jc r (.ret e'))):=
 (aaq h).imp λD O H B=>eS B λG j H g u x hs F z p=>p x j H .refl F z
def aby(h:PE X e (tE X.K W (r.ev e')))(hs:swapsWith e none pos.line X.env=pure false):PS X (.Expr e pos) (Zw X.K W (Jc r (.exp e'))):=
 (zv h hs).imp λD O H z=>eS z λG j H g u x hs B F p=>p _ j H .refl B hs
def aaE{a:Su}{O:L2.St}{D:Ends}(d:RS X.K ρ H a O)(b:RH X.K ρ H g)(c:RV X.K ρ H u v)(p:Ji X.K W (match Ae t (IZ t u g) a with|some ZT=>Out.ok (.nx ZT) g|none=>.ZX) ρ H D):tG X.K t v O H D.nx:=by
 cases e:Ae t (IZ t u g) a with
 |none=>simp![e]at p;exact p.elim
 |some f=>simp![e]at p;exact⟨a,ρ,g,u,f,d,b,c,e,λZT h=>p ZT ρ H .refl b h⟩
def abZ(h:PE X e (tE X.K W (r.ev e')))(j:PG X tg (tG X.K t))(hs:swapsWithSole [tg] e pos.line X.env=pure false)(B:swappedStores [tg] e X.env=pure none)(G:(assignEach [tg] X.env).map (·.2)=[assign tg X.env]):
  PS X (.Assign [tg] e pos) (Zw X.K W (Jc r (.set t e'))):=
 (oK h j hs B G).imp λD O H F=>eS F λR L H g u x hs j z p=>aaE hs j z p
def ml{j:Pos}(S:X.N.Nodup)(hi:X.N[i]?=some x)(hx:Loc X.env.scope x)(R:X.fn x=true\/X.env.scope.names.lookup x=some .local)(h:PE X e (tE X.K W (r.ev e')))(hs:swapsWith e (some (.Name x j)) pos.line X.env=pure false):
  PS X (.Assign [.Name x j] e pos) (Zw X.K W (Jc r (.set (.nm i) e'))):=
 (oE S hi hx h hs R).imp λD O H G=>eS G λZ B H g u x hs L F p=>by
  simp![IZ,Ae]at p;by_cases z:i<Z.length
  .rw [Y2 z]at p;exact p _ B H .refl L (hs.set F)
  .rw [YH z]at p;exact p.elim
def aaC{o i:Expr}{i':E}{WS:Pos}(hu:X.A.units+1<cLine)(h:PE X e (tE X.K W (r.ev e')))(ho:PE X o (tE X.K W (r.ev o')))(hi:PE X i (tE X.K W (r.ev i')))(hs:swapsWithSole [.Subscript o i WS] e pos.line X.env=pure false)(hw:swappedStores [.Subscript o i WS] e X.env=pure none)
  (ha:∀ v,assign (.Subscript o i WS) X.env v=(do
   let ov<-holding [v] (eval o X.env)
   let iv<-holding [v,ov] (eval i X.env)
   standAt WS
   holding [v,ov,iv] (setItem ov iv v)
   release [v,ov,iv] [])):PS X (.Assign [.Subscript o i WS] e pos) (Zw X.K W (Jc r (.sub o' i' e'))):=by
 refine(oK h (aaG ho hi (yR set_list (set_dict hu)) ha) hs hw rfl).imp ?_;rintro D O H ⟨ZZ,ρ,g,hs,hg,p⟩;refine⟨ZZ,ρ,g,hs,hg,(Ji.bind p).mono λv H1 ⟨ZM,u,g1,s1,h1,r1,p1⟩=>?_⟩;refine⟨ZZ,ZM,g1,hs.step s1,h1,(Ji.bind p1).mono λw H2 ⟨YZ,u2,g2,s2,h2,r2,p2⟩=>?_⟩;refine⟨ZZ,YZ,g2,(hs.step s1).step s2,h2,(Ji.bind p2).mono λz H3 ⟨TN,u3,g3,s3,h3,r3,p3⟩=>?_⟩;cases u2 with
 |ref n=>
  cases u3 with
  |int k=>
   cases r3;simp![subAt,DI]at p3;cases eg:g3[n]? with
   |none=>simp![eg]at p3;exact p3.elim
   |some ob=>
    cases ob with
    |Z5 S=>
     simp![eg]at p3;let⟨q,vs,rfl,hn,t2,t3⟩:=cV h3 (RV.step s3 _ _ r2) eg;cases ej:ixN S.length k with
     |none=>simp![ej]at p3;exact p3.elim
     |some j=>
      simp![ej]at p3;have rv:=RV.step s3 _ _ (RV.step s2 _ _ r1);exact .inl ⟨q,vs,k,j,rfl,rfl,t2,by rw[<-t3.length];exact ej,p3 _ TN _ (ZI.write hn t2) (h3.write hn t2 (t3.set rv j)) ((((hs.step s1).step s2).step s3).step (ZI.write hn t2))⟩
    |ZF _=>simp![eg]at p3;exact p3.elim
    |YG _=>simp![eg]at p3;exact p3.elim
    |dst _=>simp![eg]at p3;exact p3.elim
    |ins _ _=>simp![eg]at p3;exact p3.elim
  |ZY S=>
   simp![subAt,D3]at p3;cases eg:g3[n]? with
   |none=>simp![eg]at p3;exact p3.elim
   |some ob=>
    cases ob with
    |ZF Z4=>
     simp![eg]at p3;cases ek:intsOf S with
     |none=>simp![ek]at p3;exact p3.elim
     |some k=>
      simp![ek]at p3;by_cases hl:Z4.length<Ab
      .rw [Y2 hl]at p3
       let⟨q,ws,hn,ha,rd⟩:=h3.ZF eg;let⟨q',rfl,Zp⟩:=RV.step s3 _ _ r2;rw[hn]at Zp;cases Zp;let⟨b,rfl,hb⟩:=eC (x:=.ZY S) (k:=k) ek r3;have rv:=RV.step s3 _ _ (RV.step s2 _ _ r1);refine .inr ⟨q,_,rfl,DPut.t ha hb ?_,p3 _ TN _ (ZI.V_ hn ha trivial) (h3.V_ hn ha trivial ⟨_,rfl,rd.put rv⟩) ((((hs.step s1).step s2).step s3).step (ZI.V_ hn ha trivial))⟩;rw[<-rd.len,Qh];unfold Ab at hl;omega
      .rw [YH hl]at p3;exact p3.elim
    |Z5 _=>simp![eg]at p3;exact p3.elim
    |YG _=>simp![eg]at p3;exact p3.elim
    |dst _=>simp![eg]at p3;exact p3.elim
    |ins _ _=>simp![eg]at p3;exact p3.elim
  |str k=>
   simp![subAt,FH]at p3;cases eg:g3[n]? with
   |none=>simp![eg]at p3;exact p3.elim
   |some ob=>
    cases ob with
    |dst Z4=>
     simp![eg]at p3;by_cases hl:Z4.length<Ab
     .rw [Y2 hl]at p3
      let⟨q,ws,hn,ha,rk⟩:=h3.dst eg;let⟨q',rfl,Zp⟩:=RV.step s3 _ _ r2;rw[hn]at Zp;cases Zp;cases r3;have rv:=RV.step s3 _ _ (RV.step s2 _ _ r1);refine .inr ⟨q,_,rfl,DPut.k (k:=Sum.inr k) ha ?_,p3 _ TN _ (ZI.V_ hn ha trivial) (h3.V_ hn ha trivial ⟨_,rfl,rk.put rv⟩) ((((hs.step s1).step s2).step s3).step (ZI.V_ hn ha trivial))⟩;rw[<-rk.len,Qh];unfold Ab at hl;omega
     .rw [YH hl]at p3;exact p3.elim
    |_=>simp![eg]at p3;exact p3.elim
  |_=>exact False.elim p3
 |_=>exact False.elim p3
def acO{as bs:List Stmt}{as' e:List Z6}(h:PT X c (tT X.K W (r.ts c')))(j:PSs X as (Zw X.K W (r.ex as')))(i:PSs X bs (Zw X.K W (r.ex e))):PS X (.If c as bs pos) (Zw X.K W (Jc r (.Zu c' as' e))):=by
 refine(pM h j i).imp ?_;rintro D O H ⟨a,ρ,g,hs,f,p⟩;refine⟨a,ρ,g,hs,f,(Ji.bind (R:=Yc) p).mono λk m ⟨d,k',g1,s1,h1,l,b⟩=>?_⟩;subst l;cases k' with
 |true=>exact aV ⟨a,d,g1,hs.step s1,h1,b⟩
 |false=>exact aW ⟨a,d,g1,hs.step s1,h1,b⟩
def r8{o:Out Fl}{k:Su->G->Out Fl}{D:Ends}{N:L2.St->Hp->Prop}
  (p:Ji X.K W (o.bind λf g=>match f with|.nx ZT=>k ZT g|.ct ZT=>k ZT g|.bk ZT=>.ok (.nx ZT) g|.rt u=>.ok (.rt u) g) ρ H D)
  (i:∀a g1 O d b,ZI X.K ρ H d b->RH X.K d b g1->RS X.K d b a O->Ji X.K W (k a g1) d b D->N O b):Ji X.K W o ρ H {D with nx:=N,ct:=N,bk:=D.nx}:=by
 cases o with
 |ok f g=>
  cases f with
  |nx a=>exactλO d b s h e=>i a g O d b s h e (Ji.from (o:=k a g) p s)
  |ct a=>exactλO d b s h e=>i a g O d b s h e (Ji.from (o:=k a g) p s)
  |bk a=>exact p
  |rt u=>exact p
 |exc c fs g=>exact p
 |ZX=>exact p
def aah{bs:List Stmt}{u:List Z6}{n:Nat}(hp:PassesOwn (model X.prog X.w) X.A X.env X.xe)(hc:∀n,PT X c (tT X.K W ((Jh C n).ts c')))(hb:∀n,PSs X bs (Zw X.K W ((Jh C n).ex u))):
  PS X (.While c bs [] pos) (Zw X.K W (Jc (Jh C n) (.VL c' u))):=by
 intro Y s O H D I hw;have key:∀m O H,Zw X.K W ((Jh C m).wh c' u) D O H ->∃S,m=S+1:=λm O H ⟨Z,ρ,g,_,_,p⟩=>by
  cases m with
  |zero=>exact p.elim
  |succ S=>exact⟨S,rfl⟩
 refine wpAny_While (codeAny_whileLoop (λn s'=>∃j z,L2.Z0 X Y j z s'/\Zw X.K W ((Jh C n).wh c' u) D j z) ?_ n ⟨O,H,I,hw⟩);rintro n s1 ⟨B,H1,I1,w1⟩;let⟨m,rfl⟩:=key n B H1 w1;let⟨Z,ρ,g,hs,hg,p⟩:=w1;refine Pp hp (thn (hc m Y s1 B H1 (λb H2=>if b=true then Zw X.K W ((Jh C m).ex u) {D with nx:=λj z=>Zw X.K W ((Jh C m).wh c' u) D j z,ct:=λj z=>Zw X.K W ((Jh C m).wh c' u) D j z,bk:=D.nx} B H2 else D.nx B H2) I1 ?_) λb s2 ⟨H2,I2,G⟩=>?_)
 .refine ⟨Z,ρ,g,hs,hg,(Ji.bind (R:=Yc) p).mono λk H1 ⟨ZM,k',g1,s1,h1,e1,p1⟩=>?_⟩
  subst e1;cases k' with
  |true=>exact aV ⟨Z,ZM,g1,hs.step s1,h1,r8 (k:=λj g=>(Jh C m).wh c' u j g) p1 λW3 g2 O ZO z s2 h2 Y3 p2=>⟨W3,ZO,g2,Y3,h2,p2⟩⟩
  |false=>exact aW (p1 _ ZM _ .refl h1 (hs.step s1))
 .cases b with
  |true=>
   rw[Y2 rfl]at G;rw[Y2 rfl];refine Pp hp (thn (hb m Y s2 B H2 _ I2 G) λf s3 F=>?_);cases f with
   |next=>
    let⟨W2,H3,I3,L⟩:=F;exact⟨m,Of _,W2,H3,I3,L⟩
   |cont=>
    let⟨W2,H3,I3,L⟩:=F;exact⟨m,Of _,W2,H3,I3,L⟩
   |brk=>exact F
   |ret v=>exact F
  |false=>
   rw[YH Hw]at G;rw[YH Hw];exact NP ⟨B,H2,I2,G⟩
end
section
variable{YO:List Addr}{H0:Hp}{D:Addr}{o1 o2:HO}
def ZI.Vs(s:ZI K YO H0 ρ H)(g:H0 D=none)(d:H D=some o1)(c:Be o1):ZI K YO H0 ρ (upd H D o2) where
 ext:=s.ext
 new:=s.new
 X4:=λa o h f=>by rw[aa (aC h g)];exact s.X4 a o h f
 live:=λa h=>by
  by_cases e:a=D
  .subst e;rw[upd_same];simp
  .rw [aa e];exact s.live a h
 ZY:=λa b h=>aT (s.ZY a b h) (.inr ⟨_,d,c⟩)
 Zy:=λa b h=>aS (s.Zy a b h) (.inr ⟨_,d,c⟩)
 Zn:=λa ob u h=>by rw[aa (cY (s.Zn a ob u h) d (by rintro rfl;exact c))];exact s.Zn a ob u h
def RV.Vs(b:H D=some o1)(a:Be o1)(h:RV K ρ H u v):RV K ρ (upd H D o2) u v:=RV.mono (λ_ _ e=>e) (λ_ _ h=>aT h (.inr ⟨_,b,a⟩)) (λ_ _ h=>aS h (.inr ⟨_,b,a⟩)) u v h
def RVs.Vs(b:H D=some o1)(a:Be o1){u:List U}{v:List V}(h:RVs K ρ H u v):RVs K ρ (upd H D o2) u v:=RVs.mono (λ_ _ e=>e) (λ_ _ h=>aT h (.inr ⟨_,b,a⟩)) (λ_ _ h=>aS h (.inr ⟨_,b,a⟩)) u v h
def RH.Vs(h:RH K ρ H g)(c:H D=some o1)(b:Be o1)(i:D ∉ ρ):RH K ρ (upd H D o2) g where
 len:=h.len
 inj:=h.inj
 obj:=λn a o d j=>by
  have q:=h.obj n a o d j;have f:a≠D:=λe=>i (e ▸ Qu.mpr ⟨n,d⟩);let⟨ho,e,r⟩:=q;exact⟨ho,by rw[aa f];exact e,r.mono (λ_ _ e=>e) (λ_ _ h=>aT h (.inr ⟨_,c,b⟩)) (λ_ _ h=>aS h (.inr ⟨_,c,b⟩))⟩
def RH.named{p:Z9}(h:RH K ρ H g)(y:H D=some o1)(x:D ∉ ρ)(r:RHO K ρ H p o1):RH K (ρ++[D]) H (g++[p]):=by
 have u:∀(n:Nat) (a:Addr),ρ[n]?=some a->(ρ++[D])[n]?=some a:=λn a e=>by rw[WR (YE.mp e).1];exact e
 have key:∀k b,(ρ++[D])[k]?=some b->(k<ρ.length/\ρ[k]?=some b)\/(k=ρ.length/\b=D):=λk b e=>by
  by_cases hk:k<ρ.length
  .rw [WR hk]at e;exact .inl ⟨hk,e⟩
  .rw [VX ()]at e
   cases hd:k-ρ.length with
   |zero=>rw[hd]at e;exact .inr ⟨by omega,by simpa using e.symm⟩
   |succ m=>rw[hd]at e;simp at e
 have l:∀k:Nat,ρ[k]? ≠ some D:=λk e=>x (Qu.mpr ⟨k,e⟩);refine⟨by simp[h.len],λi j a s c=>?_,λn a o s c=>?_⟩
 .rcases key i a s with⟨_,f⟩|⟨f,t⟩
  .rcases key j a c with⟨_,d⟩|⟨d,v⟩
   .exact h.inj i j a f d
   .subst v;exact absurd f (l i)
  .rcases key j a c with⟨_,d⟩|⟨d,v⟩
   .subst t;exact absurd d (l j)
   .omega
 .rcases key n a s with⟨hl,f⟩|⟨f,t⟩
  .rw [WR (by rw[<-h.len];exact hl)]at c
   have q:=h.obj n a o f c;let⟨ho,e,w⟩:=q;exact⟨ho,e,w.mono u (λ_ _ h=>h) (λ_ _ h=>h)⟩
  .subst t
   rw[VX (by rw[<-h.len];omega),<-h.len,f]at c
   have d:o=p:=by simpa using c.symm
   subst d;exact⟨_,y,r.mono u (λ_ _ h=>h) (λ_ _ h=>h)⟩
def ZI.named(s:ZI K YO H0 ρ H)(b:H0 D=none):ZI K YO H0 (ρ++[D]) H where
 ext:=λn a h=>by have:=s.ext n a h;rw[WR (YE.mp this).1];exact this
 new:=λn a h=>by
  by_cases hk:n<ρ.length
  .rw [WR hk]at h;exact s.new n a h
  .rw [VX ()]at h
   cases hd:n-ρ.length with
   |zero=>
    rw[hd]at h;have e:a=D:=by simpa using h.symm
    subst e;exact .inr b
   |succ m=>rw[hd]at h;simp at h
 X4:=s.X4
 live:=s.live
 ZY:=s.ZY
 Zy:=s.Zy
 Zn:=s.Zn
def fg(s:ZI K ρ H ZO H')(a:D ∉ ρ)(c:H D=some o1):D ∉ ZO:=λb=>by
 let⟨n,e⟩:=Qu.mp b;rcases s.new n D e with q|q
 .exact a (Qu.mpr ⟨n,q⟩)
 .rw [c]at q;cases q
def RS.unbind{t:Tg}{b l:Su}{O:L2.St}(o:AS t b=true)(d:Ae t u b=some l)(h:RS K ρ H l O):RS K ρ H b O:=by
 have one:∀(i:Nat) (w:U) (a:Su),(match a[i]? with|some none=>true|_=>false)=true ->∀(j:Nat) (z:U),a[j]?=some (some z)->(a.set i (some w))[j]?=some (some z):=λi w a hi j z e=>by
  by_cases g:j=i
  .subst g;rw[e]at hi;cases hi
  .rw [UE (Ne.symm g)];exact e
 cases t with
 |nm i=>
  simp![Ae]at d;split at d
  .cases d
   exact⟨by have:=h.len;simpa using this,λj z e=>h.val j z (one i u b o j z e)⟩
  .cases d
 |tp is=>
  cases u with
  |ZY S=>
   have s:bindL is S b=some l:=d;have all:∀(is:List Nat) (S:List U) (a f:Su),(∀i∈is,∀z,b[i]? ≠ some (some z))->(∀(j:Nat) (z:U),b[j]?=some (some z)->a[j]?=some (some z))->bindL is S a=some f->f.length=a.length /\∀(j:Nat) (z:U),b[j]?=some (some z)->f[j]?=some (some z):=λis=>by
    induction is with
    |nil=>
     intro S a f _ c e;cases S with
     |nil=>cases e;exact⟨rfl,c⟩
     |cons _ _=>cases e
    |cons i is ih=>
     intro S a f hi c e;cases S with
     |nil=>cases e
     |cons w S=>
      simp![bindL]at e;split at e
      .obtain ⟨n,m⟩:=ih S _ f (λk hk=>hi k (Hy _ hk)) (λj z p=>by
        have g:j≠i:=λq=>hi i HD z (q ▸ p);rw[UE (Ne.symm g)];exact c j z p) e
       exact⟨by rw[n];simp,m⟩
      .cases e
   have hi:∀i∈is,∀z,b[i]? ≠ some (some z):=λi r z e=>by
    have:=Tc.mp o i r;rw[e]at this;cases this
   let⟨n,m⟩:=all is S b l hi (λ_ _ e=>e) s;exact⟨by rw[<-n];exact h.len,λj z e=>h.val j z (m j z e)⟩
  |_=>simp[Ae]at d
def dN{o:Out α}{k:α->G->Out β}{b:β}{g':G}(h:o.bindB k=.ok b g'):∃a g1,o=.ok a g1/\k a g1=.ok b g':=by
 cases o with
 |ok a g1=>exact⟨a,g1,rfl,h⟩
 |exc _ _ _=>cases h
 |ZX=>cases h
end
section
abbrev So(ifs:List Expr)(env:Env):Sem Bool:=forIn ifs true λc r=>if r=true then do let ok<-isTrue c env (eval c env);pure (ForInStep.yield ok)else pure (ForInStep.yield r)
def iZ{env:Env}{M:Model}{A:Around}{E:Value->Shared->Prop}{Q:Bool->Shared->Prop}{s:Shared}(h:Q false s):∀ifs:List Expr,wpAny M A (forIn ifs false λc r=>if r=true then do let ok<-isTrue c env (eval c env);pure (ForInStep.yield ok)else pure (ForInStep.yield r)) Q E s
 |[]=>ZP h
 |c::cs=>by
  simp![NX,Wi,UP];exact ZB (ZP (iZ h cs))
def PTs(X:Cx)(j:List Expr)(f:Su->G->Out Bool):Prop:=
 ∀(Y:List (Addr×Obj)) (s:Shared) (O:L2.St) (H:Hp) (Q:Bool->Hp->Prop),L2.Z0 X Y O H s->tT X.K XN f O H Q->wpAny (model X.prog X.w) X.A (So j X.env) (TP X Y O Q) X.xe s
where XN:XQ:=λ_ _ _=>False
def xF:PTs X [] (As r.ts []):=λY s O H Q I ⟨b,ρ,g,hs,a,p⟩=>ZP ⟨H,I,post.YF (R:=Yc) p a rfl⟩
def wO{c:Expr}{h:E}{e:List Expr}{a:List E}(m:PT X c (tT X.K PTs.XN (r.ts h)))(q:PTs X e (As r.ts a)):PTs X (c::e) (As r.ts (h::a)):=by
 intro Y s O H Q I ⟨i,ρ,g,hs,l,p⟩;unfold So;simp![NX,Qp];refine ZB (ZB (thn (m Y s O H (λk b=>if k=true then tT X.K PTs.XN (As r.ts a) O b Q else Q false b) I ⟨i,ρ,g,hs,l,(post.bind (R:=Yc) p).mono λk b ⟨o,k',g1,s1,h1,n,f⟩=>?_⟩) λk s1 ⟨b,j,d⟩=>?_))
 .subst n
  cases k' with
  |true=>exact aV ⟨i,o,g1,hs.step s1,h1,f⟩
  |false=>exact aW (post.YF (R:=Yc) f h1 rfl)
 .cases k with
  |true=>rw[Y2 rfl]at d;exact ZP (q Y s1 O b Q j d)
  |false=>rw[YH Hw]at d;exact ZP (iZ ⟨b,j,d⟩ e)
structure Mon(K:HF)(ρ:List Addr)(H:Hp)(ZO:List Addr)(H':Hp):Prop where
 ext:∀(n:Nat) (a:Addr),ρ[n]?=some a->ZO[n]?=some a
 ZY:∀a xs,SqU K H a xs->SqU K H' a xs
 Zy:∀a xs,SqF K H a xs->SqF K H' a xs
 Zn:∀a o u,H a=some (.Zn o u)->H' a=some (.Zn o u)
def ZI.mon(s:ZI K ρ H ZO H'):Mon K ρ H ZO H':=⟨s.ext,s.ZY,s.Zy,s.Zn⟩
def Mon.trans{e:List Addr}{d:Hp}(a:Mon K ρ H ZO H')(b:Mon K ZO H' e d):Mon K ρ H e d:=⟨λn x h=>b.ext n x (a.ext n x h),λx c h=>b.ZY x c (a.ZY x c h),λx c h=>b.Zy x c (a.Zy x c h),λx o u h=>b.Zn x o u (a.Zn x o u h)⟩
def RI.mon{i:Iter}{f:It}(s:Mon K ρ H ZO H')(h:RI K ρ H i f):RI K ZO H' i f:=by
 cases i with
 |Z5 n=>let⟨a,d,c⟩:=h;exact⟨a,s.ext _ _ d,c⟩
 |W9 n=>let⟨a,d,c⟩:=h;exact⟨a,s.ext _ _ d,c⟩
 |zip n m=>let⟨a,b,d,c,e⟩:=h;exact⟨a,b,s.ext _ _ d,s.ext _ _ c,e⟩
 |seq S=>let⟨a,g,d,c,e⟩:=h;exact⟨a,g,d.imp_left (s.ZY _ _),RVs.mono s.ext s.ZY s.Zy _ _ c,e⟩
 |YY lo n=>exact h
def A6(X:Cx)(C:Nat->List U->G->Out U):List Comprehension->List (Tg×E×List E)->Prop
 |[],[]=>True
 |g::r,(t,Zs,cs)::r'=>g.is_async=0/\PG X g.target (tG X.K t)/\(∀n,PTs X g.ifs (As (Jh C n).ts cs))/\(∀n,PI X g.target g.iter (tI X.K PTs.XN (I8 (Jh C n) Zs)))/\(∀x,foldedSetIterable g.iter X.env x=pure x)/\A6 X C r r'
 |_,_=>False
set_option genInjectivity false in
inductive CK where|Z5 (elt:Expr)|ZF (k v:Expr)
noncomputable def CK.exp(c:CK)(gens:List Comprehension)(scope:Scope)(pos:Pos):Expr:=match c with
 |.Z5 elt=>.ListComp elt gens scope pos
 |.ZF k v=>.DictComp k v gens scope pos
noncomputable def CK.emit(c:CK)(ZQ:Value)(env:Env):Sem Unit:=match c with
 |.Z5 elt=>(do let _<-call (.builtin "list.append") [ZQ,<-eval elt env])
 | .ZF k v=>(do
   let kv<-eval k env
   let vv<-holding [kv] (eval v env)
   match ZQ with
   |.ref d=>do
    standAt {k.pos with endLine:=v.pos.endLine,endCol:=v.pos.endCol}
    holding [kv,vv] (dictSet d kv vv)
   |_=>unsupported "internal:dictcomp")
noncomputable def CK.new(c:CK):Sem Value:=match c with
 |.Z5 _=>newList []
 |.ZF _ _=>newDict
noncomputable def CK.obj(c:CK):Obj:=match c with
 |.Z5 _=>{cls:=.type "list",dict:=none,data:=.seq ([]:List Value).toArray}
 |.ZF _ _=>{cls:=.type "dict",data:=.dict #[]}
noncomputable def CK.ini(c:CK):HO:=match c with
 |.Z5 _=>.Z5 []
 |.ZF _ _=>.dT []
noncomputable def CK.ho(K:HF)(ρ:List Addr)(H:Hp)(c:CK)(b:List U)(o:HO):Prop:=match c with
 |.Z5 _=>∃a,o=.Z5 a/\RVs K ρ H b a
 |.ZF _ _=>∃d ws,o=.dT ws/\dfold b []=some d/\RD K ρ H d ws
def CK.ho.mut{c:CK}{o:HO}(h:CK.ho K ρ H c ZQ o):Be o:=by
 cases c with
 |Z5 e=>let⟨a,rfl,_⟩:=h;trivial
 |ZF k v=>let⟨_,ws,rfl,_⟩:=h;trivial
def CK.ho.mono{K:HF}{ρ l:List Addr}{H b:Hp}{c:CK}{j:List U}{o:HO}(h:CK.ho K ρ H c j o)(i:∀(n:Nat) (a:Addr),ρ[n]?=some a->l[n]?=some a)(f:∀a xs,SqU K H a xs->SqU K b a xs)(g:∀a xs,SqF K H a xs->SqF K b a xs):CK.ho K l b c j o:=by
 cases c with
 |Z5 e=>let⟨m,e,r⟩:=h;exact⟨m,e,RVs.mono i f g _ _ r⟩
 |ZF k v=>let⟨p,ws,e,d,r⟩:=h;exact⟨p,ws,e,d,RD.mono i f g _ _ r⟩
def CK.ho.step{c:CK}{o:HO}(s:ZI K ρ H ZO H')(h:CK.ho K ρ H c ZQ o):CK.ho K ZO H' c ZQ o:=h.mono s.ext s.ZY s.Zy
def CK.ho0{c:CK}:CK.ho K ρ H c [] c.ini:=by
 cases c with
 |Z5 e=>exact⟨[],rfl,rfl⟩
 |ZF k v=>exact⟨[],[],rfl,rfl,rfl⟩
def CK.Q6{M:Model}{E:Value->Shared->Prop}{Q:Value->Shared->Prop}{c:CK}(h:Q (.ref s.heap.objs.size) {s with heap:=s.heap.push c.obj}):wpAny M A c.new Q E s:=by
 cases c with
 |Z5 e=>exact RG h
 |ZF k v=>exact RG h
def CK.Q5(c:CK)(h:Heap)(a:sysModules<h.objs.size):ObjOk P w H (h.push c.obj) h.objs.size c.ini:=by
 cases c with
 |Z5 e=>exact⟨P7 _,[],0,.nil,HB _ rfl⟩
 |ZF k v=>exact jE h a
inductive RR(X:Cx)(c:CK)(D:Addr)(Y:List (Addr×Obj))(YO:List Addr)(H0:Hp)(Wh:List Addr)(Hs:Hp)(ZZ:Su)(S:List U)(g':G)(r:Result)(s':Shared):Prop
 |mk (f:∃f,r=.ok f) (ZT:L2.St) (H':Hp) (ZO:List Addr) (Y5:HO) (I:L2.Z0 X Y ZT H' s') (sp:ZI X.K YO H0 ZO H') (hg:RH X.K ZO H' g') (hs:RS X.K ZO H' ZZ ZT) (hD:H' D=some Y5) (hn:D ∉ ZO) (rv:CK.ho X.K ZO H' c S Y5) (mo:Mon X.K Wh Hs ZO H')
def t8{c:CK}{k:Nat}{g:Comprehension}{it ZQ:Value}(hk:gens[k]?=some g)(ha:g.is_async=0):
  compTurn (c.exp gens scope pos) k it ZQ env=(do
   standAt g.iter.pos
   match<-pyNext it with
   |none=>pure (.done .next)
   |some v=>
    letOwnedTupleGo g.target it v
    assign g.target env v
    let ok<-So g.ifs env
    if ok then
     match gens[k+1]? with
     |some g'=>
      let x<-eval g'.iter env
      standAt g'.iter.pos
      let x<-if g'.is_async != 0 then foldedIterable g'.iter x else foldedSetIterable g'.iter env x
      let _<-runOwn (.compStart (c.exp gens scope pos) (k+1) (<- holding [x] (if g'.is_async != 0 then asyncIter x else pyIter x)) ZQ env) env
     |none=>c.emit ZQ env
    again (.compLoop (c.exp gens scope pos) k it ZQ env)):=by
 cases c with
 |Z5 elt=>unfold compTurn;simp![CK.exp,hk,ha];rfl
 |ZF kx vx=>unfold compTurn;simp![CK.exp,hk,ha];rfl
end
section
variable{R:Result->Shared->Prop}
def ie{c:CK}{k:Nat}{g:Comprehension}{it ZQ:Value}(hk:gens[k]?=some g)(ha:g.is_async=0)
  (h0:codeAny (model prog w) A (.compLoop (c.exp gens scope pos) k it ZQ env) R s)
  (h:wpAny (model prog w) A (pyIter it) (λZs s'=>codeAny (model prog w) A (.compLoop (c.exp gens scope pos) k Zs ZQ env) R s')
   (notedBy (model prog w) A env λx s'=>R (.error x) s') s) :
  codeAny (model prog w) A (.compStart (c.exp gens scope pos) k it ZQ env) R s:=by
 refine O5 ?_;have key:(model prog w).den (.compStart (c.exp gens scope pos) k it ZQ env)=(compStart (c.exp gens scope pos) k it ZQ env).onRaise (λx=>do noteFrame x env;standAt theWindowsPlace):=by cases c<;>rfl
 have ku:A.under (.compStart (c.exp gens scope pos) k it ZQ env)=A:=by cases c<;>rfl
 rw[key,ku];refine wpAny_notedAt ?_;unfold compStart;have hc:(clausesOf (c.exp gens scope pos))[k]?=some g:=by cases c<;>exact hk
 simp![hc,ha,Option.elim];show wpAny _ _ (ask >>= _) _ _ s;refine ZB (QH (wpAny_ite ?_));split
 .first
   |exact ZB (ZP (ZP (And.intro rfl h0)))
   |exact ZP (And.intro rfl h0)
 .first
   |exact ZB (Oa (ZB (QD (ZB (Qg h (λZs s' h'=>ZP (And.intro rfl h')) λ_ _ x=>x)))))
   |(refine ZB (Oa ?_);show wpAny _ _ (standAt g.iter.pos >>= _) _ _ s;exact ZB (QD (ZB (Qg h (λZs s' h'=>ZP (And.intro rfl h')) λ_ _ x=>x))))
end
section
def noE{t:Sem α}{Q:α->Shared->Prop}{E:Value->Shared->Prop}(j:X.xe=λ_ _=>False)(h:wpAny (model X.prog X.w) X.A t Q X.xe s):wpAny (model X.prog X.w) X.A t Q E s:=
 Qg h (λ_ _ q=>q) λe u z=>by rw[j]at z;exact z.elim
def Ct(X:Cx)(C:Nat->List U->G->Out U)(c:CK)(Zl:E):Prop:=
 ∀(n:Nat) (Y:List (Addr×Obj)) (s:Shared) (L:Su) (O:L2.St) (H:Hp) (j:List Addr) (g1:G) (B:List U) (o:HO) (v:U) (g2:G) (D:Addr),(Jh C n).ev Zl L g1=.ok v g2->B.length<Ab->L2.Z0 X Y O H s->RS X.K j H L O->RH X.K j H g1->H D=some o->D ∉ j->CK.ho X.K j H c B o ->
  wpAny (model X.prog X.w) X.A (c.emit (.ref D) X.env) (λ_ s2=>∃F u z,L2.Z0 X Y O (upd u D z) s2/\ZI X.K j H F u/\RH X.K F u g2/\u D=some o/\CK.ho X.K F (upd u D z) c (B++[v]) z) X.xe s
def jC{B:Expr}(Sn:∀n,PE X B (tE X.K PTs.XN ((Jh C n).ev Zl))):Ct X C (.Z5 B) Zl:=by
 intro n Y s ZL O H R g1 ZQ o v g2 D e1 hl I hs hg hD hn ⟨vs,eo,S⟩;subst eo;refine ZB (thn (Sn n Y s O H (λx j=>∃z,ZI X.K R H z j/\RH X.K z j g2/\RV X.K z j v x) I ⟨ZL,R,g1,hs,hg,by rw[e1];exactλv z j s1 h1 F=>⟨z,s1,h1,F⟩⟩) ?_);rintro u s1 ⟨x,j,I1,F,z,G,Yl,Z⟩
 have L:j D=some (.Z5 vs):=G.X4 D _ hD hn;refine ZB (thn (jc Y s1 O j (.ref D) [x] (.ref D) [u] (λ_ H2=>H2=upd j D (.Z5 (vs++[x]))) I1 rfl (.cons F .nil) ⟨D,vs,x,rfl,rfl,L,by rw[<-S.length,Qh];unfold Ab at hl;omega,rfl⟩) ?_);rintro u2 s2 ⟨x2,H2,I2,r2,eh⟩
 subst eh;exact ZP ⟨z,j,_,I2,G,Yl,L,_,rfl,((RVs.step G _ _ S).append (.one Z)).Vs L trivial⟩
def jr:∀{xs a:List U} {k0 b:List (List Int×U)},dfold xs k0=some b->dfold (xs++a) k0=dfold a b
 |[],_,_,_,e=>by cases e;rfl
 |x::xs,a,k0,b,e=>by
  simp![OU,dfold]at e ⊢;let⟨f,d,c⟩:=UA.mp e;rw[d];exact jr c
def wN{a:List (List Int×U)}{k:List Int}:(dput a k u).length<=a.length+1:=by
 unfold dput;split<;>simp
def u1{a k1:List (List Int×U)}{x:U}(e:B9 a x=some k1):k1.length<=a.length+1:=by
 unfold B9 at e;split at e
 .obtain ⟨b,_,rfl⟩:=Vu.mp e;exact wN
 .cases e
def jj:∀{xs:List U} {k0 a:List (List Int×U)},dfold xs k0=some a->a.length<=k0.length+xs.length
 |[],_,_,e=>by cases e;simp
 |x::xs,k0,a,e=>by
  simp![dfold]at e;let⟨d,c,b⟩:=UA.mp e;have:=u1 c;have:=jj b;simp![Uc];omega
def wK{N J:Expr}{r q:E}(hu:X.A.units+1<cLine)(hk:∀n,PE X N (tE X.K PTs.XN ((Jh C n).ev r)))(hv:∀n,PE X J (tE X.K PTs.XN ((Jh C n).ev q))):Ct X C (.ZF N J) (.pair r q):=by
 intro n Y s i O H G g1 ZQ o v g2 D S hl I Q hg hD hn ⟨Z4,ws,eo,R,M⟩;subst eo;cases n with
 |zero=>cases S
 |succ n=>
  have a:(((Jh C n).ev r i g1).bind λx g=>((Jh C n).ev q i g).bind λy g=>match keyOf x with|some _=>.ok (.ZY [x,y]) g|none=>.ZX)=Out.ok v g2:=S
  cases t:(Jh C n).ev r i g1 with
  |exc _ _ _=>rw[t]at a;cases a
  |ZX=>rw[t]at a;cases a
  |ok P ga=>
   rw[t]at a;cases ev:(Jh C n).ev q i ga with
   |exc _ _ _=>simp![Out.bind,ev]at a;cases a
   |ZX=>simp![Out.bind,ev]at a;cases a
   |ok L gb=>
    simp![Out.bind,ev]at a;cases d:keyOf P with
    |none=>rw[d]at a;cases a
    |some Z=>
     rw[d]at a;cases a;refine ZB (thn (hk n Y s O H (λx f=>∃c,ZI X.K G H c f/\RH X.K c f ga/\RV X.K c f P x) I ⟨i,G,g1,Q,hg,by rw[t];exactλv c f l F m=>⟨c,l,F,m⟩⟩) ?_);rintro u l ⟨x,f,I1,m,c,T,Yl,V⟩
     refine ZB (TU (thn (hv n Y l O f (λx j=>∃p,ZI X.K c f p j/\RH X.K p j g2/\RV X.K p j L x) I1 ⟨i,c,ga,Q.step T,Yl,by rw[ev];exactλv c f l F m=>⟨c,l,F,m⟩⟩) ?_));rintro w s2 ⟨y,j,I2,W,p,k,B,U⟩
     let⟨b,rfl,hb⟩:=eC d (RV.step k _ _ V);obtain rfl:u=Value.ref b:=m;have sp:=T.trans k;have z:j D=some (.dT ws):=sp.X4 D _ hD hn;refine ZB (QD (TU (acJ hu I2 z hb ?_ W λs3 I3=>⟨p,j,_,I3,sp,B,z,dput Z4 Z L,_,rfl,?_,?_⟩)))
     .have:=jj R;rw[<-M.len,Qh];unfold Ab at hl;simp at this;omega
     .rw [jr R];simp![dfold,B9,d,Sl,PD]
     .exact RD.mono (λ_ _ e=>e) (λ_ _ h=>aT h (.inr ⟨_,z,trivial⟩)) (λ_ _ h=>aS h (.inr ⟨_,z,trivial⟩)) _ _ ((M.mono sp.ext sp.ZY sp.Zy).put U)
abbrev postC(c:Code)(R:Result->Shared->Prop)(N:Shared->Prop):PySem.Fin->Shared->Prop:=λfin s'=>match fin with|.done f=>R (.ok f) s'|.again c'=>c'=c/\N s'
inductive LpI(X:Cx)(f:Nat->Tg->List E->List (Tg×E×List E)->E->List U->Su->G->Out (List U))(t:Tg)(cs:List E)(ZC:List (Tg×E×List E))(Zl:E)(ZZ:Su)(S:List U)(g':G)(Y:List (Addr×Obj))(tn:Nat->Heap->Prop)(fp:List Addr)(Yk:Iter)(Z8:It)(YO:List Addr)(H0:Hp)(D:Addr)(c:CK)(Wh:List Addr)(Hs:Hp)(s:Shared):Prop
 |mk (i:Nat) (ZQ:List U) (vs:HO) (O:L2.St) (H:Hp) (ρ:List Addr) (g0:G) (eq:f i t cs ZC Zl ZQ ZZ g0=.ok S g') (I:L2.Z0 X Y O H s) (st:tn i s.heap) (hf:∀b∈fp,H b=none) (hs:RS X.K ρ H ZZ O) (XD:RH X.K ρ H g0) (ri:RI X.K ρ H Yk Z8) (sp:ZI X.K YO H0 ρ H) (hD:H D=some vs) (hn:D ∉ ρ) (rv:CK.ho X.K ρ H c ZQ vs) (mo:Mon X.K Wh Hs ρ H)
def l0(hc:X.calm=true)(Wy:X.xe=λ_ _=>False){c:CK}{Zl:E}{scope:Scope}{pos:Pos}{D:Addr}{k:Nat}{t:Tg}{YO Wh:List Addr}{H0 Hs:Hp}
  {it:Addr} {fp:List Addr} {tn:Nat->Heap->Prop} {Z8:It} {Yk:Iter} {Y:List (Addr×Obj)} {ZZ:Su} {S:List U} {g':G}
  (hk:gens[k]?=some gc) (ha:gc.is_async=0) (hg:PG X gc.target (tG X.K t)) (Vr:∀n,PTs X gc.ifs (As (Jh C n).ts cs)) (T:Turn X.prog X.w X.K gc.target Z8 fp it tn) (Zz:∀b∈fp,∀H':Hp,H' b=none->AQ X Y H' b) (h0:H0 D=none)
  (inner:∀ (n:Nat) (X3:List (Addr×Obj)) (s:Shared) (ZL:Su) (O:L2.St) (H:Hp) (ρ:List Addr) (g1:G) (ZQ:List U) (vs:HO) (i:Nat) (N:Shared->Prop) (E:Value->Shared->Prop),
   (match ZC with
    |[]=>((Jh C n).ev Zl ZL g1).bindB λv g=>if ZQ.length<Ab then(Jh C n).cm Yk (i+1) t cs ZC Zl (ZQ++[v]) ZZ g else .ZX
    |(t2,Xq,Wj)::VT=>(I8 (Jh C n) Xq ZL g1).bindB λj g=>((Jh C n).cm j 0 t2 Wj VT Zl ZQ ZL g).bindB λX5 g=>(Jh C n).cm Yk (i+1) t cs ZC Zl X5 ZZ g)=.ok S g' ->
   L2.Z0 X X3 O H s->RS X.K ρ H ZL O->RH X.K ρ H g1->ZI X.K YO H0 ρ H->H D=some vs->D ∉ ρ->CK.ho X.K ρ H c ZQ vs ->
   (∀s' ZT H' ZO g2 X5 Vq,(Jh C n).cm Yk (i+1) t cs ZC Zl X5 ZZ g2=.ok S g'->L2.Z0 X X3 ZT H' s'->RS X.K ZO H' ZL ZT->RH X.K ZO H' g2->ZI X.K YO H0 ZO H'->Mon X.K ρ H ZO H'->H' D=some Vq->D ∉ ZO->CK.ho X.K ZO H' c X5 Vq->N s') ->
   wpAny (model X.prog X.w) X.A (match gens[k+1]? with
     | some g'=>(do
      let x<-eval g'.iter X.env
      standAt g'.iter.pos
      if(g'.is_async != 0)=true then do
        let x<-foldedIterable g'.iter x
        let y<-holding [x] (if(g'.is_async != 0)=true then asyncIter x else pyIter x)
        let _<-runOwn (.compStart (c.exp gens scope pos) (k+1) y (.ref D) X.env) X.env
        again (.compLoop (c.exp gens scope pos) k (.ref it) (.ref D) X.env)
       else do
        let x<-foldedSetIterable g'.iter X.env x
        let y<-holding [x] (if(g'.is_async != 0)=true then asyncIter x else pyIter x)
        let _<-runOwn (.compStart (c.exp gens scope pos) (k+1) y (.ref D) X.env) X.env
        again (.compLoop (c.exp gens scope pos) k (.ref it) (.ref D) X.env))
     | none=>(do
      c.emit (.ref D) X.env
      again (.compLoop (c.exp gens scope pos) k (.ref it) (.ref D) X.env))) (postC (.compLoop (c.exp gens scope pos) k (.ref it) (.ref D) X.env) (RR X c D Y YO H0 Wh Hs ZZ S g') N) E s)
  (n:Nat) (s:Shared) (i:Nat) (ZQ:List U) (vs:HO) (O:L2.St) (H:Hp) (ρ:List Addr) (g0:G) (eq:(Jh C n).cm Yk i t cs ZC Zl ZQ ZZ g0=.ok S g') (I:L2.Z0 X Y O H s) (st:tn i s.heap) (hf:∀b∈fp,H b=none)
  (hs:RS X.K ρ H ZZ O) (XD:RH X.K ρ H g0) (ri:RI X.K ρ H Yk Z8) (sp:ZI X.K YO H0 ρ H) (hD:H D=some vs) (hn:D ∉ ρ) (rv:CK.ho X.K ρ H c ZQ vs) (mo:Mon X.K Wh Hs ρ H) :
  codeAny (model X.prog X.w) X.A (.compLoop (c.exp gens scope pos) k (.ref it) (.ref D) X.env) (RR X c D Y YO H0 Wh Hs ZZ S g') s:=by
 refine codeAny_loop (by cases c<;>rfl) (λn s=>LpI X ((Jh C n).cm Yk) t cs ZC Zl ZZ S g' Y tn fp Yk Z8 YO H0 D c Wh Hs s) ?_ n ⟨i,ZQ,vs,O,H,ρ,g0,eq,I,st,hf,hs,XD,ri,sp,hD,hn,rv,mo⟩
 clear eq I st hf hs XD ri sp hD hn rv mo;rintro n s ⟨i,ZQ,vs,O,H,ρ,g0,eq,I,st,hf,hs,XD,ri,sp,hD,hn,rv,mo⟩;cases n with
 |zero=>cases eq
 |succ n=>
  have Xd:Jg (Jh C n) Yk i t cs ZC Zl ZQ ZZ g0=.ok S g':=eq;clear eq;simp![Jg]at Xd;have key:(model X.prog X.w).den (.compLoop (c.exp gens scope pos) k (.ref it) (.ref D) X.env)=(compTurn (c.exp gens scope pos) k (.ref it) (.ref D) X.env).onRaise (λx=>do noteFrame x X.env;theTreesLotGoes x):=by cases c<;>rfl
  have ku:X.A.under (.compLoop (c.exp gens scope pos) k (.ref it) (.ref D) X.env)=X.A:=by cases c<;>rfl
  rw[key,ku];refine wpAny_noted ?_;rw[t8 hk ha];refine ZB (QD (ZB ?_));have stat:∀{H':Hp},(∀b∈fp,H' b=none) ->∀b∈fp,AQ X Y H' b:=λh b hb=>Zz b hb _ (h b hb);cases en:next Yk i g0 with
  |none=>simp![en]at Xd;cases Xd
  |some o=>
   cases o with
   |none=>
    simp![en]at Xd;cases Xd;refine thn (T.done X rfl rfl rfl hc i Y s O H _ I (stat hf) st (kQ XD ri en)) ?_;rintro r s1 ⟨hr,I1⟩;subst hr;exact ZP ⟨⟨_,rfl⟩,O,H,ρ,vs,I1,sp,XD,hs,hD,hn,rv,mo⟩
   |some u=>
    simp![en]at Xd;let⟨go,yl⟩:=qV XD ri en;refine thn (T.item X rfl rfl rfl hc i Y s O H _ I (stat hf) st go) ?_;rintro r s1 ⟨u',hr,h4⟩;subst hr;refine ZB (thn h4 ?_);rintro _ s5 ⟨x,H5,I5,r5,y5,V5,fr5⟩;let⟨Wx,hgg5,rx⟩:=yl x H5 y5;replace hs:=hs.step Wx;replace XD:=hgg5;replace ri:=ri.step Wx;replace sp:=sp.trans Wx;replace hD:=Wx.X4 D _ hD hn;replace rv:=rv.step Wx;replace mo:=mo.trans Wx.mon;have I5':=I5.pinned (stat fr5) (T.obj _ _ V5);split at Xd
    .rename_i UY
     cases eb:Ae t u ZZ with
     |none=>simp![eb]at Xd;cases Xd
     |some ZL=>
      simp![eb]at Xd;let⟨kk,g1,e1,e2⟩:=dN Xd;refine ZB (noE Wy (thn (hg _ s5 O H5 x u' (λZT H'=>H'=H5/\RS X.K ρ H5 ZL ZT) I5' r5 ⟨ZZ,ρ,g0,u,ZL,hs,XD,rx,i0 eb,λZT h=>⟨rfl,h⟩⟩) ?_));rintro _ s6 ⟨Uo,H6,I6,eh,TX⟩;subst eh;refine ZB (noE Wy (thn (Vr n _ s6 Uo H6 (λk' H'=>k'=kk /\∃ZM,ZI X.K ρ H6 ZM H'/\RH X.K ZM H' g1) I6 ⟨ZL,ρ,g0,TX,XD,by rw[e1];exactλv ZM H1 s1 h1 e=>⟨e.symm,ZM,s1,h1⟩⟩) ?_));rintro k' s7 ⟨H7,I7,ek,ZM,Zm,Yl⟩
      subst ek;have back:∀(s':Shared) (ZT:L2.St) (H':Hp) (ZO:List Addr) (g2:G) (X5:List U) (Vq:HO),(Jh C n).cm Yk (i+1) t cs ZC Zl X5 ZZ g2=.ok S g'->L2.Z0 X (Y++B2 fp s5.heap) ZT H' s'->RS X.K ZO H' ZL ZT->RH X.K ZO H' g2->ZI X.K YO H0 ZO H'->Mon X.K ZM H7 ZO H'->H' D=some Vq->D ∉ ZO->CK.ho X.K ZO H' c X5 Vq ->
        ∃m,m<n+1/\LpI X ((Jh C m).cm Yk) t cs ZC Zl ZZ S g' Y tn fp Yk Z8 YO H0 D c Wh Hs s':=λs' ZT H' ZO g2 X5 Vq q1 q2 q3 q4 q5 q6 q7 q8 q9=>by
       refine⟨n,Of _,i+1,X5,Vq,ZT,H',ZO,g2,q1,q2.Td,T.keep _ _ _ V5 λb hb o e=>(q2.pin (b,o) (TV _ (TV _ (di hb e)))).1,λb hb=>?_,RS.unbind UY eb q3,q4,(ri.step Zm).mon q6,q5,q7,q8,q9,(mo.trans Zm.mon).trans q6⟩;let⟨o,e,d⟩:=T.obj _ _ V5 b hb;exact(q2.pin (b,o) (TV _ (TV _ (di hb e)))).2.1
      have hD7:H7 D=some vs:=Zm.X4 D _ hD hn;have hn7:D ∉ ZM:=fg Zm hn hD;have rv7:=rv.step Zm;cases k' with
      |false=>
       simp![Wi,UP]at e2 ⊢;exact ZP ⟨rfl,back s7 Uo H7 ZM g1 ZQ vs e2 I7 (TX.step Zm) Yl (sp.trans Zm) ⟨λ_ _ h=>h,λ_ _ h=>h,λ_ _ h=>h,λ_ _ _ h=>h⟩ hD7 hn7 rv7⟩
      |true=>
       simp![Qp]at e2 ⊢;exact inner n _ s7 ZL Uo H7 ZM g1 ZQ vs i _ _ e2 I7 (TX.step Zm) Yl (sp.trans Zm) hD7 hn7 rv7 back
    .cases Xd
def vL(hc:X.calm=true)(Wy:X.xe=λ_ _=>False){c:CK}(hem:Ct X C c Zl){D:Addr}:
  ∀(ZS:List Comprehension) (ZC:List (Tg×E×List E)) (k:Nat) (gc:Comprehension) (t:Tg) (cs:List E),gens[k]?=some gc->gens.drop (k+1)=ZS->gc.is_async=0->PG X gc.target (tG X.K t) ->
   (∀n,PTs X gc.ifs (As (Jh C n).ts cs))->A6 X C ZS ZC ->
   ∀(n:Nat) (Y:List (Addr×Obj)) (s:Shared) (it:Addr) (fp:List Addr) (tn:Nat->Heap->Prop) (Z8:It) (Yk:Iter) (i:Nat) (B:List U) (vs:HO) (ZZ:Su) (O:L2.St) (H:Hp) (ρ YO:List Addr) (H0:Hp) (g0:G) (S:List U) (g':G),
    Turn X.prog X.w X.K gc.target Z8 fp it tn->(Jh C n).cm Yk i t cs ZC Zl B ZZ g0=.ok S g'->L2.Z0 X Y O H s->tn i s.heap->(∀b∈fp,AQ X Y H b)->RS X.K ρ H ZZ O->RH X.K ρ H g0->RI X.K ρ H Yk Z8 ->
    ZI X.K YO H0 ρ H->H0 D=none->H D=some vs->D ∉ ρ->CK.ho X.K ρ H c B vs ->
    codeAny (model X.prog X.w) X.A (.compLoop (c.exp gens scope pos) k (.ref it) (.ref D) X.env) (RR X c D Y YO H0 ρ H ZZ S g') s:=by
 intro ZS
 induction ZS with
 |nil=>
  intro ZC k gc t cs hk S1 ha hg Vr L n Y s it fp tn Z8 Yk i B vs ZZ O H ρ YO H0 g0 S g' T eq I st hf hs XD ri sp h0 R hn Z;have YJ:gens[k+1]?=none:=by
   have:=QU List.length S1;rw[Rv]at this;exact Qd.mpr (by simp at this;omega)
  cases ZC with
  |cons _ _=>exact False.elim L
  |nil=>
   refine l0 hc Wy hk ha hg Vr T (λb hb H' h=>⟨h,(hf b hb).2⟩) h0 ?_ n s i B vs O H ρ g0 eq I st (λb hb=>(hf b hb).1) hs XD ri sp R hn Z ⟨λ_ _ h=>h,λ_ _ h=>h,λ_ _ h=>h,λ_ _ _ h=>h⟩;intro n X3 s ZL O H ρ g1 B vs i N E eq I hs hg sp R hn Z back;let⟨v,g2,e1,e2⟩:=dN eq;rw[YJ];split at e2
   .rename_i hl
    refine ZB (noE Wy (thn (hem n X3 s ZL O H ρ g1 B vs v g2 D e1 hl I hs hg R hn Z) ?_));rintro _ s2 ⟨F,H1,o2,I2,u,Yl,X7,rv2⟩;have Yp:D ∉ F:=fg u hn R;have hm:=Z.mut;refine ZP ⟨rfl,?_⟩;refine back s2 O _ F g2 (B++[v]) o2 e2 I2 ?_ (Yl.Vs X7 hm Yp) ((sp.trans u).Vs h0 X7 hm) (u.mon.trans ⟨λ_ _ h=>h,λ_ _ h=>aT h (.inr ⟨_,X7,hm⟩),λ_ _ h=>aS h (.inr ⟨_,X7,hm⟩),λ_ _ _ h=>by rw[aa (cY h X7 (by rintro rfl;exact hm))];exact h⟩) upd_same Yp rv2
    exact⟨hs.len,λj z e=>let⟨w,w1,w2⟩:=(hs.step u).val j z e;⟨w,w1,w2.Vs X7 hm⟩⟩
   .cases e2
 |cons gn ZS ih=>
  intro ZC k gc t cs hk S1 ha hg Vr L n Y s it fp tn Z8 Yk i B vs ZZ O H ρ YO H0 g0 S g' T eq I st hf hs XD ri sp h0 R hn Z;have YJ:gens[k+1]?=some gn:=by
   have:=QU (λl=>l[0]?) S1;simpa[Nj]using this
  have Q4:gens.drop (k+1+1)=ZS:=by
   rw[<-OO,S1];rfl
  cases ZC with
  |nil=>exact False.elim L
  |cons q2 VT=>
   let⟨t2,Xq,Wj⟩:=q2;let⟨a2,pg2,pts2,pi2,Q3,hgo2⟩:=L;refine l0 hc Wy hk ha hg Vr T (λb hb H' h=>⟨h,(hf b hb).2⟩) h0 ?_ n s i B vs O H ρ g0 eq I st (λb hb=>(hf b hb).1) hs XD ri sp R hn Z ⟨λ_ _ h=>h,λ_ _ h=>h,λ_ _ h=>h,λ_ _ _ h=>h⟩;intro n X3 s ZL O H ρ g1 B vs i N E eq I hs hg sp R hn Z back;let⟨j,g3,e1,e2⟩:=dN eq;let⟨X5,g4,e3,e4⟩:=dN e2;rw[YJ];refine ZB (noE Wy (thn (pi2 n X3 s O H (λZ8 H1=>∃F,ZI X.K ρ H F H1/\RH X.K F H1 g3/\RI X.K F H1 j Z8) I ⟨ZL,ρ,g1,hs,hg,by rw[e1];exactλv F H1 s1 h1 r1=>⟨F,s1,h1,r1⟩⟩) λv s1 h1=>ZB (QD ?_)))
   rw[a2];rw[YH (by decide)]
   refine ZB (NZ (Q3 v) (ZB (TU ?_)));rw[YH (by decide)]
   refine noE Wy (thn h1 λUW s2 h2=>?_);let⟨ita,fp2,tn2,J2,H2,e,I2,T2,Zx,f2,F,u,Yl,Wg⟩:=h2;subst e;have X7:H2 D=some vs:=u.X4 D _ R hn;have Yp:D ∉ F:=fg u hn R;have loop:=ih VT (k+1) gn t2 Wj YJ Q4 a2 pg2 pts2 hgo2 n X3 s2 ita fp2 tn2 J2 j 0 B vs ZL O H2 F YO H0 g3 X5 g4 T2 e3 I2 Zx f2 (hs.step u) Yl Wg (sp.trans u) h0 X7 Yp (Z.step u);refine ZB (wpAny_runOwn (PF (ie YJ a2 loop (T2.self _ 0 s2 _ _ Zx loop)) λr s3 hr=>?_));let⟨⟨f,rfl⟩,ZT,H',ZO,Y5,I3,sp3,TK,YQ,hD3,WA,rv3,mo3⟩:=hr;exact ZP ⟨rfl,back s3 ZT H' ZO g4 X5 Y5 e4 I3 YQ TK sp3 (u.mon.trans mo3) hD3 WA rv3⟩
end
def Jk(cells:List (Str×Addr)):List (Str×NameKind)->List (Str×Addr)->List (Str×Addr)
 |[],ZQ=>ZQ
 |(x,k)::r,ZQ=>if k==.free then(match cells.lookup x with|some c=>Jk cells r ((x,c)::ZQ)|none=>Jk cells r ZQ)else Jk cells r ZQ
def fq{scope:Scope}(h:∀x∈scope.names,x.2=.free ->∃c,env.cells.lookup x.1=some c):closureFor scope env=pure (Jk env.cells scope.names []):=by
 have all:∀(names:List (Str×NameKind)) (ZQ:List (Str×Addr)),(∀x∈names,x.2=.free ->∃c,env.cells.lookup x.1=some c) ->
   (forIn names ZQ λ(x:Str×NameKind) (cs:List (Str×Addr))=>match x with|(name,kind)=>if(kind==NameKind.free)=true then do let c<-cellOf env name;pure (ForInStep.yield ((name,c)::cs))else pure (ForInStep.yield cs):Sem (List (Str×Addr)))=pure (Jk env.cells names ZQ):=λnames=>by
  induction names with
  |nil=>intro ZQ _;rfl
  |cons p r ih=>
   intro ZQ hp;let⟨x,k⟩:=p;simp![NX,Jk];by_cases hk:k=.free
   .subst hk
    let⟨c,hc⟩:=hp (x,.free) HD rfl;have hco:cellOf env x=pure c:=by unfold cellOf;simp only at hc;rw[hc]
    simp![OW,Qp,hco,hc];exact ih _ λy hy=>hp y (Hy _ hy)
   .have hb:(k==NameKind.free)=false:=by simpa using hk
    simp![hb,Wi,UP];exact ih _ λy hy=>hp y (Hy _ hy)
 unfold closureFor;show((forIn scope.names [] λ(x:Str×NameKind) (cs:List (Str×Addr))=>match x with|(name,kind)=>if(kind==NameKind.free)=true then do let c<-cellOf env name;pure (ForInStep.yield ((name,c)::cs))else pure (ForInStep.yield cs):Sem (List (Str×Addr))) >>= λs=>pure s)=_
 rw[all scope.names [] h]
 rfl
def br{cells:List (Str×Addr)}:∀(names:List (Str×NameKind)) (a:List (Str×Addr)),(∀x c,a.lookup x=some c->cells.lookup x=some c) ->∀x c,(Jk cells names a).lookup x=some c->cells.lookup x=some c
 |[],_,h=>h
 |(y,k)::r,a,h=>by
  unfold Jk;split
  .split
   .rename_i c f
    refine br r _ λx d e=>?_;rw[Qo]at e;split at e
    .rename_i b
     cases e;rw[eq_of_beq b];exact f
    .exact h x d e
   .exact br r _ h
  .exact br r _ h
def dH{cells:List (Str×Addr)}{x:Str}:∀(names:List (Str×NameKind)) (a:List (Str×Addr)),(a.lookup x).isSome=true->((Jk cells names a).lookup x).isSome=true
 |[],_,h=>h
 |(y,k)::r,a,h=>by
  unfold Jk;split
  .split
   .refine dH r _ ?_
    rw[Qo];split
    .rfl
    .exact h
   .exact dH r _ h
  .exact dH r _ h
def cC{cells:List (Str×Addr)}{x:Str}{c:Addr}(hc:cells.lookup x=some c):∀(names:List (Str×NameKind)) (j:List (Str×Addr)),(x,NameKind.free)∈names->((Jk cells names j).lookup x).isSome=true
 |(y,k)::r,j,h=>by
  unfold Jk;rcases Vh.mp h with e|h
  .cases e
   simp![OW,Qp,hc];exact dH r _ (by simp)
  .split
   .split
    .exact cC hc r _ h
    .exact cC hc r _ h
   .exact cC hc r _ h
def bX:∀(names:List (Str×NameKind)) (n:Nat) (a:List (Str×Addr)),cellsFrom n names a=cellsFrom n names []++a
 |[],_,_=>rfl
 |(x,k)::r,n,a=>by
  unfold cellsFrom;split
  .rw [bX r (n+1) ((x,n)::a),bX r (n+1) [(x,n)],VO];rfl
  .exact bX r n a
def be{x:Str}{c:Addr}:∀(names:List (Str×NameKind)) (n:Nat),(x,c)∈cellsFrom n names []->(x,NameKind.cell)∈names/\n<=c
 |[],_,h=>nomatch h
 |(y,k)::r,n,h=>by
  unfold cellsFrom at h;split at h
  .rename_i hk
   rw[bX,Vj]at h;rcases h with h|h
   .exact ⟨.tail _ (be r _ h).1,Nu (be r _ h).2⟩
   .cases V2.mp h;rw[eq_of_beq hk];exact⟨.head _,Hx _⟩
  .exact ⟨.tail _ (be r _ h).1,(be r _ h).2⟩
def cT{c:Addr}(h:(cellsFrom n names cl).lookup x=some c):(cellsFrom n names []).lookup x=some c\/((cellsFrom n names []).lookup x=none/\cl.lookup x=some c):=by
 rw[bX,List.lookup_append]at h;cases e:(cellsFrom n names []).lookup x with
 |some d=>rw[e]at h;exact .inl h
 |none=>rw[e]at h;exact .inr ⟨rfl,h⟩
def abv{c:Addr}(h:cl.lookup x=some c)(a:(x,NameKind.cell) ∉ names):(cellsFrom n names cl).lookup x=some c:=by
 rw[bX,List.lookup_append];cases e:(cellsFrom n names []).lookup x with
 |some d=>exact absurd (be _ _ (SF e)).1 a
 |none=>exact h
def gN{c:Addr}(h:(cellsFrom n names (Jk cells names [])).lookup x=some c):cells.lookup x=some c\/n<=c:=by
 rcases cT h with z|⟨_,z⟩
 .exact .inr (be _ _ (SF z)).2
 .exact .inl (br names [] (λx c h=>by cases h) x c z)
def qb(h:Heap)(names:List (Str×NameKind))(o:Obj):CellsOk (pushCells (h.push o) names) (h.objs.size+1) (cellsFrom (h.objs.size+1) names []):=by
 have:=cellsFrom_ok names (h.push o) (h.objs.size+1) [] ⟨λ_ _ a=>(nomatch a),List.Pairwise.nil⟩ (by rw[OL];exact Hx _)
 rwa[OL]at this
def wy{M:Model}{E:Value->Shared->Prop}{u:Addr}{qual:Str}{Q:Env->Shared->Prop}
  (h:Q {scope,locals:=s.heap.objs.size,globals:=u,cells:=cellsFrom (s.heap.objs.size+1) scope.names cl,qual,func:=none,code:=env.code,frame:=env.frame,builtins:=env.builtins} {s with heap:=pushCells (s.heap.push {cls:=.type "dict",data:=.dict #[]}) scope.names}) :
  wpAny M A (newFunctionEnv scope u cl [] qual none .none (some env)) Q E s:=by
 simp![newFunctionEnv,Option.isSome_some,Qp];refine ZB (wpAny_alloc ?_);refine ZB (wpAny_layCells _ (λname kind cells=>by cases j:kind==NameKind.cell<;>simp[j]) _ _ _ _ ?_)
 rw[show({s with heap:=s.heap.push {cls:=.type "dict",data:=.dict #[]}}:Shared).heap.objs.size=s.heap.objs.size+1 from OL ..]
 exact ZB (ZP (ZP h))
def Ag(X:Cx)(Y:List (Addr×Obj))(scope:Scope)(a:Shared)(d:Hp)(b:List Addr)(c:List Str):Cx:=
 {X with env:=compEnvC scope (cellsFrom (a.heap.objs.size+1) scope.names (Jk X.env.cells scope.names [])) a.heap.objs.size X.env,N:=c,ZG:=a,WM:=d,outer:=X.stack,stack:=X.stack,ex:=b,fn:=λx=>scope.names.lookup x==some .cell,pn:=X.pn++Y,xe:=λ_ _=>False}
section
variable{s3 s4:Shared}{O:L2.St}{H3:Hp}{own fr:List Str}
structure We(X:Cx)(scope:Scope)(own fr:List Str)(Zt:List Nat):Prop where
 kind:scope.kind=.function
 names:∀x∈scope.names,x.2=.local->scope.names.lookup x.1=some .local
 cells:∀x∈scope.names,x.2=.cell->scope.names.lookup x.1=some .cell
 frees:∀x∈scope.names,x.2=.free->X.env.kindOf x.1=some .cell
 loc:∀x∈own,scope.names.lookup x=some .local\/scope.names.lookup x=some .cell
 nd:(own++fr).Nodup
 frs:∀x∈fr,scope.names.lookup x=some .free
 ix:Zt.length=fr.length /\∀(j:Nat) (x:Str) (i:Nat),fr[j]?=some x->Zt[j]?=some i->X.N[i]?=some x
def eV{a:Type}{x:Str}{k:a}:∀{l:List (Str×a)},l.lookup x=some k->(x,k)∈l
 |[],h=>by cases h
 |(y,z)::r,h=>by
  rw[Qo]at h;split at h
  .rename_i b;cases h;rw[eq_of_beq b];exact HD
  .exact Hy _ (eV h)
def c9{env:Env}{x:Str}:∀{names:List (Str×NameKind)},(names.map λ(n,k)=>if(k==NameKind.free&&env.scope.kind==.function&&env.kindOf n==some .cell)then(n,NameKind.cell)else(n,k)).lookup x =
  (names.lookup x).map λk=>if(k==NameKind.free&&env.scope.kind==.function&&env.kindOf x==some .cell)then NameKind.cell else k
 |[]=>rfl
 |(n,k)::r=>by
  have ih:=@c9 env x r;rw[W1,Qo (as:=r)];show List.lookup x ((if(k==NameKind.free&&env.scope.kind==.function&&env.kindOf n==some .cell)=true then(n,NameKind.cell)else(n,k))::_)=_
  cases hx:x==n with
  |true=>
   obtain rfl:=eq_of_beq hx;by_cases a:(k==NameKind.free&&env.scope.kind==.function&&env.kindOf x==some .cell)=true
   .rw [Y2 a,Qo,hx]
    simp![Sl];rw[Y2 a]
   .rw [YH a,Qo,hx]
    simp![Sl];rw[YH a]
  |false=>
   by_cases a:(k==NameKind.free&&env.scope.kind==.function&&env.kindOf n==some .cell)=true
   .rw [Y2 a,Qo,hx];exact ih
   .rw [YH a,Qo,hx];exact ih
def yE(Z6:We X scope own fr Zt)(I:L2.Z0 X Y O H3 s3)(B:∀b∈fp,AQ X Y H3 b)(R:∀b∈fp,b<s3.heap.objs.size):(Ag X Y scope s3 H3 fp (own++fr)).Ok:=by
 have sub:=br (cells:=X.env.cells) scope.names [] (λx c h=>by cases h)
 have Q1:(Ag X Y scope s3 H3 fp (own++fr)).env.scope.kind=.function:=Z6.kind;have u:∀x c,X.env.cells.lookup x=some c->c<s3.heap.objs.size:=λx c h=>let⟨_,_,ho,_⟩:=I.cell x c h;Hu ho
 have S:=qb s3.heap scope.names {cls:=.type "dict",data:=.dict #[]};refine⟨I.ok.mod,Q1,I.ok.glob,I.ok.blt,Hx _,λx y c L G=>?_,λx hx=>?_,λx c L G=>?_,I.ok.hd,I.ok.frames,.inl rfl,λb hb=>⟨HA (R b hb),λx c h=>?_⟩,λb o e=>I.bs b o e,Hv I.ok.W7 I.sz,λb o e hb=>?_,λb hb F=>?_,I.stack,I.Te⟩
 .have Wp:∀{z},(cellsFrom (s3.heap.objs.size+1) scope.names []).lookup z=some c->s3.heap.objs.size<c:=λh=>(be _ _ (SF h)).2
  rcases cT L with z|⟨_,z⟩<;>rcases cT G with j|⟨_,j⟩
  .exact name_of_addr S.apart (SF z) (SF j)
  .exact absurd (OH (Wp z) (u _ _ (sub _ _ j))) (Pa _)
  .exact absurd (OH (Wp j) (u _ _ (sub _ _ z))) (Pa _)
  .exact I.ok.inj x y c (sub x c z) (sub y c j)
 .
  have UO:(Ag X Y scope s3 H3 fp (own++fr)).env.kindOf x=(scope.names.lookup x).map λk=>if(k==NameKind.free&&X.env.scope.kind==.function&&X.env.kindOf x==some .cell)then NameKind.cell else k:=c9
  rw[UO]at hx;cases hl:scope.names.lookup x with
  |none=>rw[hl]at hx;rcases hx with h|h<;>cases h
  |some k=>
   rw[hl]at hx;have hm:=eV hl;refine Qs.mp (PH _ _ _ ?_);cases k with
   |free=>
    let⟨c,hc⟩:=I.ok.has x (.inl (Z6.frees _ hm rfl));exact .inr (cC hc scope.names [] hm)
   |cell=>exact .inl hl
   |«local»=>rcases hx with h|h<;>simp at h
   |globalExplicit=>rcases hx with h|h<;>simp at h
   |globalImplicit=>rcases hx with h|h<;>simp at h
 .have Z:scope.names.lookup x=some .cell:=eq_of_beq L
  rcases cT G with z|⟨z,_⟩
  .exact Nu (be _ _ (SF z)).2
  .have:=PH scope.names (s3.heap.objs.size+1) [] (.inl Z)
   rw[z]at this;cases this
 .rcases gN h with z|z
  .exact (B b hb).2.2.2.2.1 x c z
  .exact Od (Hz (Px (R b hb)) z)
 .rcases (B b hb).2.2.2.1 with z|z
  .exact I.ok.Zd b o e z
  .exact absurd (Hz (show b<X.base.objs.size from Hu e) (Hv I.ok.W7 z)) (Pa _)
 .rcases Vh.mp (I.VJ b F)with z|z
  .exact (B b hb).2.1 z
  .exact (B b hb).2.2.1 z
def getD_none{o:Option (Option α)}{v:α}(h:o.getD none=some v):o=some (some v):=by
 cases o with
 |none=>cases h
 |some w=>cases h;rfl
def wI(f:We X scope own fr Zt)(I:L2.Z0 X Y O H3 s3)(G:∀b∈fp,AQ X Y H3 b)(K:∀b∈fp,b<s3.heap.objs.size){g:Heap}{tk:Nat}{y:Str->Option Value}(P:g.Ns s3.heap.objs.size y)(kept:∀b o,s3.heap.get? b=some o->g.get? b=some o)(L:∀x c,(x,c)∈cellsFrom (s3.heap.objs.size+1) scope.names [] ->∃v,g.IsCell c v):
  L2.Z0 (Ag X Y scope s3 H3 fp (own++fr)) [] (List.replicate own.length none++Zt.map λj=>(O[j]?).getD none) H3 {s3 with heap:=g,toks:=tk}:=by
 have sub:=br (cells:=X.env.cells) scope.names [] (λx c h=>by cases h)
 refine⟨yE f I G K,rfl,I.bare,Un.kept kept,⟨y,P,λi x v H a T=>?_⟩,λx c h=>?_,I.ZK.fresh (Hx _),λx c h=>(gN h).elim (I.Yg x c) λz=>I.ZK.fresh (Nu z),λp E=>?_,I.ZK.kept kept,?_⟩
 .
  have s:(own++fr)[i]?=some x:=H;by_cases hi:i<own.length
  .rw [WR (by simpa using hi),Pe,Y2 hi]at a
   cases a
  .rw [VX (by simpa using hi),QV,VV]at a
   rw[VX ()]at s
   cases r:Zt[i-own.length]? with
   |none=>rw[r]at a;cases a
   |some k=>
    rw[r]at a;have M:=getD_none (TQ a);have hN:=f.ix.2 _ x k s r;have w:=f.frs x (TY s);have hm:=eV w;have t:=f.frees _ hm rfl;let⟨m,S,F⟩:=I.loc;let⟨u,B,lk⟩:=F k x v hN M (.inr (.inl t));refine⟨u,B,?_⟩;rcases lk with⟨hk,_⟩|⟨_,c,hc,R⟩
    .rw [t]at hk;cases hk
    .have Q:(Ag X Y scope s3 H3 fp (own++fr)).env.kindOf x=some .cell:=by
      have:=@c9 X.env x scope.names;show List.lookup x _=_;refine this.trans ?_;rw[w];have hk:=I.ok.kind;simp[hk,t]
     let⟨J,A⟩:=Qs.mp (cC hc scope.names [] hm);have:=sub x J A;rw[hc]at this;cases this;let⟨o,ho,l⟩:=R;exact .inr ⟨.inl Q,c,abv A (λz=>by have:=f.cells _ z rfl;rw[w]at this;cases this),o,kept c o ho,l⟩
 .rcases cT h with z|⟨_,z⟩
  .exact L x c (SF z)
  .obtain ⟨v,o,ho,l⟩:=I.cell x c (sub x c z)
   exact⟨v,o,kept c o ho,l⟩
 .have N:p∈X.pn++Y:=by
   have:p∈(X.pn++Y)++[]:=E;simpa using this
  let⟨e,n,D,C,d⟩:=I.pin p N;refine⟨kept _ _ e,n,HA (Hu e),λz=>?_,d⟩;rcases Vh.mp (I.VJ p.1 z)with q|q
  .exact D q
  .exact C q
 .show (List.replicate own.length none++Zt.map λj=>(O[j]?).getD none).length=(own++fr).length
  simp[f.ix.1]
def yw{B:Su}(h:RS K ρ H B O):RS K ρ H (List.replicate n none++Zt.map λj=>(B[j]?).getD none) (List.replicate n none++Zt.map λj=>(O[j]?).getD none):=by
 refine⟨by simp,λi u e=>?_⟩
 by_cases hi:i<n
 .rw [WR (by simpa using hi),Pe,Y2 hi]at e
  cases e
 .rw [VX (by simpa using hi),QV,VV]at e
  rw[VX (by simpa using hi),QV,VV]
  cases z:Zt[i-n]? with
  |none=>rw[z]at e;cases e
  |some k=>
   rw[z]at e;let⟨v,G,F⟩:=h.val k u (getD_none (Option.some.inj e));exact⟨v,by simp[G],F⟩
end
section
variable{own fr:List Str}
def ff(hc:X.calm=true)(Z6:We X scope own fr Zt){t:Tg}{c:CK}{n:Nat}(ha:gc.is_async=0)
  (R:∀ Y s3 H3 fp,PG (Ag X Y scope s3 H3 fp (own++fr)) gc.target (tG X.K t)/\(∀ n,PTs (Ag X Y scope s3 H3 fp (own++fr)) gc.ifs (As (Jh C n).ts cs))/\A6 (Ag X Y scope s3 H3 fp (own++fr)) C ZS ZC /\
   Ct (Ag X Y scope s3 H3 fp (own++fr)) C c Zl)
  {Y:List (Addr×Obj)} {s2:Shared} {O:L2.St} {H2:Hp} {Z:List Addr} {g1:G} {ZZ:Su} {it:Addr} {fp:List Addr} {tn:Nat->Heap->Prop} {Z8:It} {iI:Iter} {S:List U} {g2:G} {E:Value->Shared->Prop} {P:Value->Addr->Result->Shared->Prop}
  (I2:L2.Z0 X Y O H2 s2) (T:Turn X.prog X.w X.K gc.target Z8 fp it tn) (Zx:tn 0 s2.heap) (f2:∀b∈fp,AQ X Y H2 b) (hs:RS X.K Z H2 ZZ O) (Yl:RH X.K Z H2 g1) (Wg:RI X.K Z H2 iI Z8)
  (Vp:(Jh C n).cm iI 0 t cs ZC Zl [] (List.replicate own.length none++Zt.map λj=>(ZZ[j]?).getD none) g1=.ok S g2)
  (fin:∀ (D Cc:Addr) (L:Shared) (F:Hp) (ZO:List Addr) (Y5:HO) (m:Str->Option Value) (f:Flow),L2.Z0 X Y O F L->ZI X.K Z H2 ZO F->RH X.K ZO F g2->H2 D=none->F D=some Y5->D ∉ ZO->CK.ho X.K ZO F c S Y5->L.heap.Ns Cc m->Cc≠X.env.locals->(∀ x c,X.env.cells.lookup x=some c->c≠Cc) ->
   (∀(X1:Shared) (W3:L2.St) (Yd:Hp) (h':Heap),L2.Z0 X Y W3 Yd X1->(∀b,F b=none->b<L.heap.objs.size->Yd b=none)->Heap.SameBut Cc X1.heap h'->L2.Z0 X Y W3 Yd {X1 with heap:=h'})->P (.ref D) Cc (.ok f) L) :
  wpAny (model X.prog X.w) X.A c.new (λZQ Vo => wpAny (model X.prog X.w) X.A (newFunctionEnv scope X.env.globals (Jk X.env.cells scope.names []) [] X.env.qual none .none (some X.env)) (λRM s₄ =>
    codeAny (model X.prog X.w) X.A (.compStart (c.exp (gc::ZS) scope pos) 0 (.ref it) ZQ {RM with scope:=relabel scope X.env}) (P ZQ RM.locals) s₄) E Vo) E s2:=by
 refine CK.Q6 (wy ?_);dsimp only;have ckk:=qb (s2.heap.push c.obj) scope.names {cls:=.type "dict",data:=.dict #[]};have RL:=(Heap.Ns.new (s2.heap.push c.obj) (.type "dict")).keeps (pushCells_keeps scope.names _);have kept:∀b o,(s2.heap.push c.obj).get? b=some o->(pushCells ((s2.heap.push c.obj).push {cls:=.type "dict",data:=.dict #[]}) scope.names).get? b=some o:=λb o e=>pushCells_keeps _ _ b o (Ht _ e);generalize pushCells ((s2.heap.push c.obj).push {cls:=.type "dict",data:=.dict #[]}) scope.names=XO at ckk RL kept ⊢;have Vn:H2 s2.heap.objs.size=none:=I2.ZK.fresh (Hx _);have B:L2.Z0 X Y O (upd H2 s2.heap.objs.size c.ini) {s2 with heap:=s2.heap.push c.obj}:=I2.laid (t':=s2.toks) (λb ob q=>Ht _ q) (Hx _) (c.Q5 _ I2.Wp)
 have below:∀b∈fp,b<s2.heap.objs.size:=λb hb=>let⟨o,e,_⟩:=T.obj _ _ Zx b hb;Hu e
 have u:∀b∈fp,AQ X Y (upd H2 s2.heap.objs.size c.ini) b:=λb hb=>⟨by rw[aa (HA (below b hb))];exact(f2 b hb).1,(f2 b hb).2⟩
 have hsz:(s2.heap.push c.obj).objs.size=s2.heap.objs.size+1:=OL _ _;have Zf:∀b∈fp,b < (s2.heap.push c.obj).objs.size:=λb hb=>by rw[hsz];exact Px (below b hb)
 have I4:=wI (tk:=s2.toks) Z6 B u Zf RL kept λx c h=>⟨_,(ckk.empty x c h).1⟩;let⟨pg,pts,go,Sn⟩:=R Y {s2 with heap:=s2.heap.push c.obj} (upd H2 s2.heap.objs.size c.ini) fp
 have QZ:∀b o,s2.heap.get? b=some o->XO.get? b=some o:=λb o e=>kept b o (Ht _ e);have Y0:tn 0 XO:=T.keep _ _ _ Zx λb _ o e=>QZ b o e;have hn:s2.heap.objs.size ∉ Z:=λhm=>by
  let⟨k,e⟩:=Qu.mp hm;let⟨o,ho⟩:=Yl.there e;rw[Vn]at ho;cases ho
 have sub:=br (cells:=X.env.cells) scope.names [] (λx c h=>by cases h)
 have f4:∀b∈fp,AQ (Ag X Y scope {s2 with heap:=s2.heap.push c.obj} (upd H2 s2.heap.objs.size c.ini) fp (own++fr)) [] (upd H2 s2.heap.objs.size c.ini) b:=λb hb=>by
  refine⟨(u b hb).1,HA (Zf b hb),λz=>?_,.inl hb,λx c h=>(gN h).elim ((u b hb).2.2.2.2.1 x c) λz=>Od (Hz (Px (Zf b hb)) z),λp hp=>(u b hb).2.2.2.2.2 p ?_⟩
  .rcases Vh.mp (B.VJ b z)with q|q
   .exact (u b hb).2.1 q
   .exact (u b hb).2.2.1 q
  .have:p∈(X.pn++Y)++[]:=hp
   simpa using this
 have loop:=vL (X:=Ag X Y scope {s2 with heap:=s2.heap.push c.obj} (upd H2 s2.heap.objs.size c.ini) fp (own++fr)) (C:=C) hc rfl Sn (c:=c) (gens:=gc::ZS) (scope:=scope) (pos:=pos) (D:=s2.heap.objs.size) ZS ZC 0 gc t cs rfl rfl ha pg pts go n [] _ it fp tn Z8 iI 0 [] c.ini _ _ _ Z Z H2 g1 S g2 T Vp I4 Y0 f4 (yw (hs.step (ZI.fresh Vn))) (Yl.step_fresh Vn) (Wg.step (ZI.fresh Vn)) (ZI.fresh Vn) Vn upd_same hn CK.ho0
 refine PF (ie (k:=0) (g:=gc) rfl ha loop (T.self _ 0 _ _ _ Y0 loop)) λr L hr=>?_;let⟨⟨f,rfl⟩,ZT,F,ZO,Y5,I5,sp5,hg5,hs5,hD5,hn5,rv5,_⟩:=hr;have chk:∀b∈fp,(b∈X.ex\/X.ZG.heap.objs.size<=b)/\b≠X.env.locals/\(∀x c,X.env.cells.lookup x=some c->c≠b) /\∀p∈X.pn++Y,p.1≠b:=λb hb=>⟨(u b hb).2.2.2.1,(u b hb).2.1,(u b hb).2.2.2.2.1,(u b hb).2.2.2.2.2⟩;have I6:L2.Z0 X Y O F L:=B.SO (ch:=fp) I5.os I5.base I5.ZK I5.bare chk;let⟨m',Vm,_⟩:=I5.loc;refine fin s2.heap.objs.size _ L F ZO Y5 m' f I6 sp5 hg5 Vn hD5 hn5 rv5 Vm (Od B.lt) (λx c h=>by let⟨v,o,ho,hd⟩:=B.cell x c h;exact HA (Hu ho)) λX1 W3 Yd h' I7 hH WU=>?_
 have hCn:Yd (s2.heap.push c.obj).objs.size=none:=hH _ I5.free I5.lt;refine I7.turned (t':=X1.toks) (it:=(s2.heap.push c.obj).objs.size) (λb o hb e=>(WU.2 b hb).trans e) hCn ?_ (.inr ?_) (λx c h=>?_) λp hp=>?_
 .exact Od B.lt
 .exact B.sz
 .obtain ⟨v,o,ho,hd⟩:=B.cell x c h
  exact HA (Hu ho)
 .exact HA (Hu (B.pin p hp).1)
def yW(hc:X.calm=true)(Z6:We X scope own fr Zt){t:Tg}{B:Expr}{n:Nat}(ha:gc.is_async=0)
  (hi:PI X gc.target gc.iter (tI X.K PTs.XN (I8 (Jh C n) Zs))) (Vl:∀x,foldedSetIterable gc.iter X.env x=pure x)
  (z:∀ Y s3 H3 fp,PG (Ag X Y scope s3 H3 fp (own++fr)) gc.target (tG X.K t)/\(∀ n,PTs (Ag X Y scope s3 H3 fp (own++fr)) gc.ifs (As (Jh C n).ts cs))/\A6 (Ag X Y scope s3 H3 fp (own++fr)) C ZS ZC /\
   ∀n,PE (Ag X Y scope s3 H3 fp (own++fr)) B (tE X.K PTs.XN ((Jh C n).ev Zl))) :
  PE X (.ListComp B (gc::ZS) scope pos) (tE X.K PTs.XN (I9 C (Jh C n) (.comp own.length Zt ((t,Zs,cs)::ZC) Zl))):=by
 intro Y s O H Q I ⟨G,ρ,g,hs,hg,p⟩;rw[eval_ListComp];let⟨tg,iter,ifs,TJ⟩:=gc;obtain rfl:TJ=0:=ha;refine Ot (use:=none) rfl Vl (fq λx hx hk=>I.ok.has x.1 (.inl (Z6.frees x hx hk))) Z6.kind Z6.names ?_;refine thn (hi Y s O H _ I ⟨G,ρ,g,hs,hg,post.bind p⟩) λv s1 h1=>thn h1 λUW s2 h2=>?_;let⟨it,fp,tn,Z8,H2,e,I2,T,Zx,f2,ZM,Z,g1,Zm,Yl,Wg,u⟩:=h2;subst e;revert u;cases Vp:(Jh C n).cm Z 0 t cs ZC Zl [] (List.replicate own.length none++Zt.map λj=>(G[j]?).getD none) g1 with
 |exc c fs g2=>intro u;exact False.elim u
 |ZX=>intro u;exact False.elim u
 |ok S g2=>
  intro u;simp![Out.bindB]at u;split at u
  .refine ff (c:=.Z5 B) hc Z6 rfl (λY s3 H3 fp=>let⟨a,b,c,d⟩:=z Y s3 H3 fp;⟨a,b,c,jC d⟩) I2 T Zx f2 (hs.step Zm) Yl Wg Vp λD Cc R F ZO Y5 m f I' UD L UC TH Zp ⟨vs,eo,Vt⟩ Vm _ _ Yt=>?_
   subst eo;refine⟨m,Vm,λh' WU=>?_⟩;refine⟨.ref D,F,Yt R O F h' I' (λ_ h _=>h) WU,rfl,?_⟩;refine u (.ref D) (ZO++[D]) F (UD.named UC) (L.named TH Zp ⟨_,rfl,Vt⟩) ⟨D,rfl,?_⟩;rw[<-L.len];simp
  .exact False.elim u
def yq(k v gens scope pos):eval (.DictComp k v gens scope pos) env=comprehension (.DictComp k v gens scope pos) scope env (firstIterPos gens pos) newDict (firstAsync gens) (firstIter gens env):=rfl
def xv(hc:X.calm=true)(hu:X.A.units+1<cLine)(Z6:We X scope own fr Zt){t:Tg}{G B:Expr}{L F:E}{n:Nat}(ha:gc.is_async=0)
  (hi:PI X gc.target gc.iter (tI X.K PTs.XN (I8 (Jh C n) Zs))) (Vl:∀x,foldedSetIterable gc.iter X.env x=pure x)
  (z:∀ Y s3 H3 fp,PG (Ag X Y scope s3 H3 fp (own++fr)) gc.target (tG X.K t)/\(∀ n,PTs (Ag X Y scope s3 H3 fp (own++fr)) gc.ifs (As (Jh C n).ts cs))/\A6 (Ag X Y scope s3 H3 fp (own++fr)) C ZS ZC /\
   (∀n,PE (Ag X Y scope s3 H3 fp (own++fr)) G (tE X.K PTs.XN ((Jh C n).ev L))) /\∀n,PE (Ag X Y scope s3 H3 fp (own++fr)) B (tE X.K PTs.XN ((Jh C n).ev F))) :
  PE X (.DictComp G B (gc::ZS) scope pos) (tE X.K PTs.XN (I9 C (Jh C n) (.V8 own.length Zt ((t,Zs,cs)::ZC) L F))):=by
 intro Y s O H Q I ⟨Z,ρ,g,hs,hg,p⟩;rw[yq];let⟨tg,iter,ifs,TJ⟩:=gc;obtain rfl:TJ=0:=ha;refine Ot (use:=none) rfl Vl (fq λx hx hk=>I.ok.has x.1 (.inl (Z6.frees x hx hk))) Z6.kind Z6.names ?_;refine thn (hi Y s O H _ I ⟨Z,ρ,g,hs,hg,post.bind p⟩) λv s1 h1=>thn h1 λUW s2 h2=>?_;let⟨it,fp,tn,Z8,H2,e,I2,T,Zx,f2,ZM,iI,g1,Zm,Yl,Wg,u⟩:=h2;subst e;revert u;cases Vp:(Jh C n).cm iI 0 t cs ZC (.pair L F) [] (List.replicate own.length none++Zt.map λj=>(Z[j]?).getD none) g1 with
 |exc c fs g2=>intro u;exact False.elim u
 |ZX=>intro u;exact False.elim u
 |ok S g2=>
  intro u;simp![Out.bindB]at u;refine ff (c:=.ZF G B) hc Z6 rfl (λY s3 H3 fp=>let⟨a,b,c,d,e⟩:=z Y s3 H3 fp;⟨a,b,c,wK (X:=Ag X Y scope s3 H3 fp (own++fr)) hu d e⟩) I2 T Zx f2 (hs.step Zm) Yl Wg Vp ?_;rintro D Cc s' R ZO Y5 m f I' UD Wz UC TH Zp ⟨Z4,ws,eo,ed,Vt⟩ Vm _ _ Yt
  subst eo;rw[ed]at u;refine⟨m,Vm,λh' WU=>?_⟩;refine⟨.ref D,R,Yt s' O R h' I' (λ_ h _=>h) WU,rfl,?_⟩;refine u (.ref D) (ZO++[D]) R (UD.named UC) (Wz.named TH Zp ⟨_,rfl,Vt⟩) ⟨D,rfl,?_⟩;rw[<-Wz.len];simp
def bind_assoc{c:Type}(o:Out α)(k:α->G->Out β)(b:β->G->Out c):(o.bind k).bind b=o.bind λa g=>(k a g).bind b:=by
 cases o<;>rfl
def ux(hc:X.calm=true)(Z6:We X scope own fr Zt){t:Tg}{elt:Expr}{WS py:Pos}{n:Nat}{y:Str}(ha:gc.is_async=0)
  (hi:PI X gc.target gc.iter (tI X.K PTs.XN (I8 (Jh C n) Zs))) (Vl:∀x,foldedSetIterable gc.iter X.env x=pure x)
  (inner:∀ Y s3 H3 fp,PG (Ag X Y scope s3 H3 fp (own++fr)) gc.target (tG X.K t)/\(∀ n,PTs (Ag X Y scope s3 H3 fp (own++fr)) gc.ifs (As (Jh C n).ts cs))/\A6 (Ag X Y scope s3 H3 fp (own++fr)) C ZS ZC /\
   ∀n,PE (Ag X Y scope s3 H3 fp (own++fr)) elt (tE X.K PTs.XN ((Jh C n).ev Zl)))
  (hN:X.N.Nodup) (hiy:X.N[i]?=some y) (hy:X.env.scope.names.lookup y=some .local) (TF:swapsWith (.ListComp elt (gc::ZS) scope pos) (some (.Name y py)) WS.line X.env=pure true) :
  PS X (.Assign [.Name y py] (.ListComp elt (gc::ZS) scope pos) WS) (Zw X.K PTs.XN (Jc (Jh C (n+1)) (.set (.nm i) (.comp own.length Zt ((t,Zs,cs)::ZC) Zl)))):=by
 intro Y s O H Dd I ⟨ZZ,ρ,g,hs,hg,p⟩;have p':Ji X.K PTs.XN ((I8 (Jh C n) Zs ZZ g).bind λa g=>(((Jh C n).cm a 0 t cs ZC Zl [] (List.replicate own.length none++Zt.map λj=>(ZZ[j]?).getD none) g).bindB λS g=>if S.length<=Ab then PI.alloc (.Z5 S) g else .ZX).bind λu g=>match Ae (.nm i) u ZZ with|some ZT=>Out.ok (.nx ZT) g|none=>.ZX) ρ H Dd:=by
  have e:Jc (Jh C (n+1)) (.set (.nm i) (.comp own.length Zt ((t,Zs,cs)::ZC) Zl)) ZZ g=_:=rfl;rw[<-bind_assoc];exact p
 rw[exec_Assign_Name_used _ _ _ _ TF];refine ZB (QD (ZB ?_));let⟨tg,iter,ifs,TJ⟩:=gc;obtain rfl:TJ=0:=ha;show wpAny _ _ (do let _<-comprehension (.ListComp elt (⟨tg,iter,ifs,0⟩::ZS) scope pos) scope X.env _ (newList []) false (eval iter X.env) (some (assign (.Name y py) X.env))) _ _ s
 refine ZB (thn (Ot (use:=some (assign (.Name y py) X.env)) (Q:=λ_ s'=>SP X Y Dd .next s') rfl Vl (fq λx hx hk=>I.ok.has x.1 (.inl (Z6.frees x hx hk))) Z6.kind Z6.names ?_) λ_ s' hq=>ZP (ZP hq));refine thn (hi Y s O H _ I ⟨ZZ,ρ,g,hs,hg,Ji.bind p'⟩) λv s1 h1=>thn h1 λUW s2 h2=>?_;let⟨it,fp,tn,Z8,H2,e,I2,T,Zx,f2,ZM,iI,g1,Zm,Yl,Wg,p1⟩:=h2;subst e;revert p1;cases Vp:(Jh C n).cm iI 0 t cs ZC Zl [] (List.replicate own.length none++Zt.map λj=>(ZZ[j]?).getD none) g1 with
 |exc c fs g2=>intro p1;exact False.elim p1
 |ZX=>intro p1;exact False.elim p1
 |ok S g2=>
  intro p1;simp![Out.bindB]at p1;split at p1
  .refine ff (c:=.Z5 elt) hc Z6 rfl (λY s3 H3 fp=>let⟨a,b,c,d⟩:=inner Y s3 H3 fp;⟨a,b,c,jC d⟩) I2 T Zx f2 (hs.step Zm) Yl Wg Vp λD Cc s' H' ZO Y5 m f I' UD Wz UC TH Zp ⟨vs,eo,Vt⟩ Vm nl nc Yt=>?_
   subst eo;show wpAny _ _ (assign (.Name y py) X.env (.ref D)) _ _ s';refine wpAny_assign_Name (iM (v:=.ref D) I' hN hiy (.inl hy) rfl (λs3 I3 ⟨a,WU,ha⟩=>?_) (.inr hy));have YT:Cc≠a:=by
    rcases ha with rfl|ha
    .exact nl
    .exact Ne.symm (nc y a ha)
   refine⟨m,Vm.sameBut WU YT,λh' YQ=>⟨_,H',Yt s3 _ H' h' I3 (λ_ h _=>h) YQ,?_⟩⟩;simp![PI.alloc,Out.bind,IZ,Ae]at p1;by_cases hl:i<ZZ.length
   .simp only [hl,Qp]at p1
    refine p1 _ (ZO++[D]) H' (UD.named UC) (Wz.named TH Zp ⟨_,rfl,Vt⟩) ((hs.step (Zm.trans (UD.named UC))).set (u:=.ref g2.length) (v:=.ref D) ?_);refine⟨D,rfl,?_⟩;rw[<-Wz.len];simp
   .simp only [hl,UP]at p1
    exact False.elim p1
  .exact False.elim p1
end
section
variable{W:XQ}
inductive DOk(X:Cx)(W:XQ)(r:Z7):List (Option Expr)->List Expr->List Str->List E->Prop
 |nil:DOk X W r [] [] [] []
 |cons {k a b ks e es kk e' es'}:PE X e (tE X.K W (r.ev e'))->DOk X W r ks es kk es'->DOk X W r (some (.Constant (.str k) a b)::ks) (e::es) (k::kk) (e'::es')
end
abbrev W0:XQ:=PTs.XN
inductive FrI(X:Cx)(W:XQ)(it:Iter)(Z8:It)(D:Ends)(f:Su->G->Out Fl)(O:L2.St)(H:Hp):Prop
 |mk (ZZ:Su) (ρ:List Addr) (g:G) (hs:RS X.K ρ H ZZ O) (hg:RH X.K ρ H g) (ri:RI X.K ρ H it Z8) (p:Ji X.K W (f ZZ g) ρ H D)
section
variable{W:XQ}{a b c:Expr}{a' b' c':E}{t:Tg}
def abO{iter:Expr}{bs:List Stmt}{B:List Z6}{n:Nat}(hp:PassesOwn (model X.prog X.w) X.A X.env X.xe)(hc:X.calm=true)(hi:PI X tg iter (tI X.K W (I8 (Jh C n) Zs)))(z:PG X tg (tG X.K t))(hb:∀n,PSs X bs (Zw X.K W ((Jh C n).ex B)))
  (hs:∀x,foldedSetIterable iter X.env x=pure x):PS X (.For tg iter bs [] pos) (Zw X.K W (Jc (Jh C n) (.for t Zs B))):=by
 have Y7:PSs X bs (λD O H=>∃m,Zw X.K W ((Jh C m).ex B) D O H):=λY s O H D I ⟨m,h⟩=>hb m Y s O H D I h;refine(aao hp hc hi z Y7 hs).imp ?_;rintro D O H ⟨F,ρ,g,hs,z,p⟩;refine⟨F,ρ,g,hs,z,(Ji.bind (R:=RI X.K) p).mono λZ8 H1 ⟨ZM,it,g1,s1,h1,G,p1⟩=>?_⟩;refine⟨λi m O H=>FrI X W it Z8 D ((Jh C m).fr t it i B) O H,⟨n,F,ZM,g1,hs.step s1,h1,G,p1⟩,?_⟩;rintro i m O H ⟨F,ρ,g,hs,z,G,p⟩;cases m with
 |zero=>exact p.elim
 |succ m=>
  have j:Ji X.K W (Jf (Jh C m) t it i B F g) ρ H D:=p;simp![Jf]at j;cases S:next it i g with
  |none=>simp![S]at j;exact j.elim
  |some o=>
   cases o with
   |none=>simp![S]at j;exact .inl ⟨kQ z G S,j _ ρ H .refl z hs⟩
   |some u=>
    simp![S]at j;let⟨go,yl⟩:=qV z G S;refine .inr ⟨go,λZT Z=>FrI X W it Z8 D ((Jh C m).fr t it (i+1) B) ZT Z,λZT Z q=>⟨m,Of _,q⟩,λx Z y=>?_⟩;let⟨Wx,L,rv⟩:=yl x Z y;cases eb:Ae t u F with
    |none=>simp![eb]at j;exact j.elim
    |some ZL=>
     simp![eb]at j;refine⟨F,ρ,g,u,ZL,hs.step Wx,L,rv,i0 eb,λW3 Y3=>⟨m,ZL,ρ,g,Y3,L,?_⟩⟩;exact r8 (k:=λZT g=>(Jh C m).fr t it (i+1) B ZT g) (Ji.from j Wx) λW2 g3 O ZO Z s3 h3 YQ p3=>⟨W2,ZO,g3,YQ,h3,(G.step Wx).step s3,p3⟩
inductive spW(K:HF)(Wf:XK->XQ)(J:List Fn)(d i np:Nat)(vs:List V)(H:Hp)(Q:VK)(E:XK):Prop
 |mk (fu:Nat) (ρ:List Addr) (g:G) (S:List U) (hg:RH K ρ H g) (r:RVs K ρ H S vs) (l:S.length=np) (p:post K (Wf E) (RV K) (Aa J fu d i S g) ρ H Q)
abbrev TC(K:HF)(J:List Fn)(d i np:Nat):Sp:=spW K (λ_=>W0) J d i np
def jm{J:List Fn}{np:Nat}{Q:VK}(a:∀F,J[i]?=some F->F.np=np){W:XQ}(p:post K W (RV K) (Aa J fu d i S g) ρ H Q):S.length=np:=by
 cases d with
 |zero=>exact p.elim
 |succ d=>
  simp![Aa]at p;cases e:J[i]? with
  |none=>simp![e]at p;exact p.elim
  |some F=>
   simp![e,Bs]at p;split at p
   .rename_i h;rw[h,a F e]
   .exact p.elim
def lL{J:List Fn}{k:Nat}{f:Addr}{p:Pos}{z:XK->XQ}{B:XK}(F:X2 X.prog X.w X.K X.mg X.base CX k f fd ps (spW X.K z J d i ps.length))(hx:A2 CX X B)(Vk:∀F,J[i]?=some F->F.np=ps.length)
  (G:Y9 k X.A) (j:Gl X x) (L:X.mg x=some (.ref f)) (Z:PySem.W.keepIn X.K (.ref f)=true) (hb:Binds X.K fd ps []) (YU:(x==("__debug__" : Str))=false) (ha:PA X (a::es) (V9 X.K W0 (IX r.ev es')))
  (Zz:starEach (a::es) X.env=(false,eval a X.env)::starEach es X.env) (Zc:(backTo pos (starEach es X.env)).any (·.1)=false) :
  PE X (.Call (.Name x p) (a::es) [] pos) (tE X.K (z B) (I9 (Aa J fu d) r (.call i es'))):=by
 refine(zo F G j L Z hb .nil hx ha YU Zz Zc).imp ?_;rintro O H Q ⟨ZZ,ρ,g,hs,j,p⟩;refine⟨ZZ,ρ,g,hs,j,(uO (R:=RVs X.K) p).mono λvs H1 ⟨ZM,S,g1,s1,h1,rs,u⟩=>?_⟩;exact⟨fu,ZM,g1,S,h1,by rw[Qe];exact rs,jm Vk u,u⟩
def xr{J:List Fn}{k:Nat}{f:Addr}{p:Pos}{u:XK->XQ}{z:XK}(F:X2 X.prog X.w X.K X.mg X.base CX k f fd ps (spW X.K u J d i ps.length))(hx:A2 CX X z)(Z:∀F,J[i]?=some F->F.np=ps.length)
  (G:Y9 k X.A) (j:Gl X x) (L:X.mg x=some (.ref f)) (R:PySem.W.keepIn X.K (.ref f)=true) (hb:Binds X.K fd ps []) (S:(x==("__debug__" : Str))=false) :
  PE X (.Call (.Name x p) [] [] pos) (tE X.K (u z) (I9 (Aa J fu d) r (.call i []))):=by
 refine(wC F G j L R hb .nil hx S).imp ?_;rintro O H Q ⟨ZZ,ρ,g,hs,j,p⟩;have B:post X.K (u z) (RV X.K) (Aa J fu d i [] g) ρ H Q:=p;exact⟨fu,ρ,g,[],j,rfl,jm Z B,B⟩
end
structure OwnCl(K:HF)(C:Addr):Prop where
 ne:PySem.W.findIn K (.ref C) "__ne__" = some (some (.builtin "object.__ne__"))
 ob:PySem.W.mroIn K C (.type "object")=some true
 ci:(PySem.W.clsIn K C).isSome=true
 ty:PySem.W.typeIn K (.ref C)=some (.type "type")
 ca:PySem.W.findIn K (.ref C) "__class__" = some (some (.builtin "object.__class__"))
 sg:PySem.W.specialIn K (.builtin "object.__class__") "__get__" = some (some (.builtin "getset_descriptor.__get__"))
 tk:PySem.W.takesIn K (.builtin "object.__class__")=some true
def ixOf_get(h:AB N x=some i):N[i]?=some x:=by
 let⟨b,a,_⟩:=OE.mp h;rw[Xn b];exact QU some (eq_of_beq a)
def aE(h:HH e=some x):∃p,e = .Name x p:=by
 cases e with
 |Name y p=>cases h;exact⟨p,rfl⟩
 |_=>cases h
def dy{c:Str×List Expr}(h:BH e=some c):∃p q,e = .Call (.Name c.1 p) c.2 [] q:=by
 cases e with
 |Call f es Ze q=>
  cases Ze with
  |nil=>
   let⟨n,a,rfl⟩:=Vu.mp h;let⟨p,rfl⟩:=aE a;exact⟨p,q,rfl⟩
  |cons _ _=>cases h
 |_=>cases h
def ve{a:Expr}(h:setArg es=some a):isStar a=false /\∃p pos,es=[.Call (.Name "set" p) [a] [] pos]:=by
 cases es with
 |nil=>cases h
 |cons e es=>cases es with
  |cons _ _=>cases h
  |nil=>
   let⟨c,f,g⟩:=UA.mp h;clear h;let⟨p,q,rfl⟩:=dy f;let⟨n,as⟩:=c;have h:=g;dsimp only at h;by_cases d:n = "set"
   .rw [Y2 d]at h
    subst d;cases as with
    |nil=>cases h
    |cons b as=>cases as with
     |cons _ _=>cases h
     |nil=>
      cases hs:isStar b with
      |true=>
       have h:HG (!isStar b) (some b)=some a:=h;rw[hs]at h;cases h
      |false=>
       have h:HG (!isStar b) (some b)=some a:=h;rw[hs]at h;cases h;exact⟨hs,p,q,rfl⟩
   .rw [YH d]at h;cases h
open PySem PySem.Spec PyProof.Rows L2 PySem.W
def star_ne{a:Expr}(h:isStar a=false)(b:List Expr):starEach (a::b) env=(false,eval a env)::starEach b env:=by
 cases a<;>first|rfl|cases h
def cB{env:Env}{pos:Pos}:∀{b:List Expr},b.any isStar=false->(backTo pos (starEach b env)).any (·.1)=false
 |[],_=>rfl
 |a::b,h=>by
  rw[S_,Qy]at h;rw[star_ne h.1];show(false||(backTo pos (starEach b env)).any (·.1))=false;rw[cB h.2]
  rfl
def base_of{o:Expr}{m:Str}(h:Co o=false)(w:Sem Value):attributeBase o m env w=w:=by
 cases o<;>first|rfl|cases h
open PySem PySem.Spec PyProof.Rows L2
structure Zq(T:Tab)(J:List Fn)(d:Nat)(X:Cx)(sc:Scope)(N:List Str):Prop where
 hF:∀(i:Nat) (x:Str),T.J[i]?=some x->(x==("__debug__" : Str))=false ->∃f fd ps,X.mg x=some (.ref f)/\PySem.W.keepIn X.K (.ref f)=true/\Binds X.K fd ps []/\X2 X.prog X.w X.K X.mg X.base V3 (2*d+2) f fd ps (TC X.K J d i ps.length) /\∀F,J[i]?=some F->F.np=ps.length
 cs:∀x u,T.cs.lookup x=some u ->∃v val,X.mg x=some val/\RelV v val /\∀ρ H,RV X.K ρ H u v
 bt:∀x∈T.bt,X.mg x=none
 room:Y9 (2*d+3) X.A
 hN:X.N=N
 YA:X.env.scope=sc
 nd:N.Nodup
 calm:X.calm=true
 xe:X.xe=λ_ _=>False
def EB:Expr->Bool
 |.BoolOp ..=>true
 |_=>false
def Good(X:Cx)(C:Nat->List U->G->Out U)(e:Expr)(a:E):Prop:=
 (∀n,PE X e (tE X.K W0 ((Jh C n).ev a)))/\(∀n,PT X e (tT X.K W0 ((Jh C n).ts a)))/\(EB e=true ->∀n,PW X e (tT X.K W0 ((Jh C n).ts a)))
section
variable{T:Tab}{J:List Fn}
def qN{r:α}{P:Prop}(h:(none:Option α)=some r):P:=by cases h
def qB{o:Option α}{f:α->Option β}{r:β}{P:Prop}(h:o.bind f=some r)(k:∀a,o=some a->f a=some r->P):P:=by
 cases o with
 |none=>cases h
 |some a=>exact k a rfl h
def qM{o:Option α}{f:α->β}{r:β}{P:Prop}(h:o.map f=some r)(k:∀a,o=some a->f a=r->P):P:=by
 cases o with
 |none=>cases h
 |some a=>exact k a rfl (TQ h)
def qI{c:Bool}{x:Option α}{r:α}{P:Prop}(h:HG c x=some r)(k:c=true->x=some r->P):P:=by
 cases c with
 |false=>cases h
 |true=>exact k rfl h
def qE{c:Prop}[Decidable c]{x y:Option α}{r:α}{P:Prop}(h:(if c then x else y)=some r)(k1:c->x=some r->P)(k2:y=some r->P):P:=by
 by_cases a:c
 .rw [Y2 a]at h;exact k1 a h
 .rw [YH a]at h;exact k2 h
def aA{l:List α}(h:HI l=true):l=[]:=by
 cases l with
 |nil=>rfl
 |cons _ _=>cases h
def lC{k:E->E}{r:E}{P:Prop}(h:CT ce k es=some r)(K:∀a b,es=[a]->ce a=some b->k b=r->P):P:=by
 cases es with
 |nil=>cases h
 |cons a es=>cases es with
  |nil=>exact qM h λb d c=>K a b rfl d c
  |cons _ _=>cases h
def yD{k:E->E->E}{r:E}{P:Prop}(h:DO ce k es=some r)(K:∀a b d c,es=[a,b]->ce a=some d->ce b=some c->k d c=r->P):P:=by
 cases es with
 |nil=>cases h
 |cons a es=>cases es with
  |nil=>cases h
  |cons b es=>cases es with
   |nil=>exact qB h λd g h=>qM h λc f e=>K a b d c rfl g f e
   |cons _ _=>cases h
def aJ{b:Bool}(h:(!b)=true):b=false:=by cases b with
 |false=>rfl
 |true=>cases h
def Good.plain(pe:∀n,PE X e (tE X.K W0 (I9 C (Jh C n) e')))(he:∀whole,isTrue e X.env whole=(do let v<-whole;standAt e.pos;holding [v] (truthy v)))
  (Vr:∀r O g,Ja r e' O g=(r.ev e' O g).bind λx g=>lift (IP x g) g) (hb:EB e=false):Good X C e e':=by
 have pe':∀n,PE X e (tE X.K W0 ((Jh C n).ev e')):=λn=>by
  cases n with
  |zero=>exact PE.ZX λ_ _=>rfl
  |succ n=>exact pe n
 refine⟨pe',λn=>?_,λh=>?_⟩
 .cases n with
  |zero=>exact PT.ZX λ_ _=>rfl
  |succ n=>
   have:((Jh C (n+1)).ts e')=λO g=>((Jh C n).ev e' O g).bind λx g=>lift (IP x g) g:=by funext O g;exact Vr _ _ _
   rw[this];exact wb (pe' n) he
 .rw [hb]at h;cases h
def bC{f:Expr->Option E}(d:∀e g,f e=some g->Good X C e g):∀{b:List Expr} {es':List E},b.any isStar=false->Ac (b.map f)=some es' ->∀n,PA X b (V9 X.K W0 (IX (Jh C n).ev es'))
 |[],_,_,h=>λn=>by cases h;exact me
 |a::b,es',hs,h=>λn=>by
  rw[S_,Qy]at hs;rw[W1]at h;cases ea:f a with
  |none=>rw[ea]at h;cases h
  |some a'=>
   rw[ea]at h;simp![Ac]at h;cases c:Ac (b.map f)with
   |none=>rw[c]at h;cases h
   |some r'=>
    rw[c]at h;cases h;exact lN ((d a a' ea).1 n) (bC d hs.2 c n) (star_ne hs.1 _)
def zx{o:Operator}{o':Op}(h:DF o=some o'):(o'=.add/\o = .Add)\/(o'=.sub/\o = .Sub)\/(o'=.mul/\o = .Mult)\/(o'=.fdiv/\o = .FloorDiv)\/(o'=.mod/\o = .Mod)\/(o'=.pow/\o = .Pow):=by
 cases o<;>simp![DF,reduceCtorEq,Xl]at h<;>subst h<;>simp
def Zq.S0(a:Zq T J d X sc N):Y9 (2*d+2) X.A:=⟨a.room.hd,by have:=a.room.dp;omega,by have:=a.room.un;omega,a.room.gd⟩
def Zq.units(a:Zq T J d X sc N):X.A.units+2<cLine:=by have:=a.room.units;omega
def bO(a:Zq T J d X sc N){o:CmpOp}{o':Cp}(h:Ck o=some o'):A9 X o' o:=by
 refine acQ a.units o' o ?_;cases o<;>simp![Ck,reduceCtorEq,Xl]at h<;>subst h<;>simp
def j5{b:Expr}{o:CmpOp}(h:Cu b=false):behindInMarks o b=false:=by
 cases b<;>first|rfl|cases h
def Zq.gl(a:Zq T J d X sc N)(h:sc.names.lookup x=some .globalImplicit):Gl X x:=by
 show X.env.scope.names.lookup x=_;rw[a.YA];exact h
def aF(h:AU x=true):(x==("__debug__" : Str))=false/\(x==("__classdict__" : Str))=false/\x ≠ "__name__":=by
 unfold AU at h;simp![Yx,R6]at h;exact⟨h.1.1,h.1.2,λe=>by have:=h.2;rw[e]at this;simp at this⟩
def xS{t:Ty}(h:CO x=some t):x=Str.ofString (tyName t)/\bootBuiltins x=some (.type (tyName t))/\x ≠ "__name__" /\ (x==("__debug__" : Str))=false:=by
 unfold CO at h;split at h
 .rename_i e;cases h;subst e;exact⟨rfl,by rfl,by decide,by decide⟩
 split at h
 .rename_i e;cases h;subst e;exact⟨rfl,by rfl,by decide,by decide⟩
 split at h
 .rename_i e;cases h;subst e;exact⟨rfl,by rfl,by decide,by decide⟩
 split at h
 .rename_i e;cases h;subst e;exact⟨rfl,by rfl,by decide,by decide⟩
 split at h
 .rename_i e;cases h;subst e;exact⟨rfl,by rfl,by decide,by decide⟩
 .cases h
def uc{b:Expr}(h:B0 b=false):C7 b:=by
 cases b<;>first|exactλ_ _=>rfl|cases h
section
variable{a:Expr}{a':E}{p:Pos}
def zH{b:Bi}{f:Str}(hb:HK f=some b)(hc:X.calm=true)(B:X.A.units+64<cLine)(z:X.A.guards=some [])(u:Gl X f)(j:X.mg f=none)(ha:PA X (a::es) (V9 X.K W0 (IX r.ev es')))(hs:(a::es).any isStar=false):
  PE X (.Call (.Name f p) (a::es) [] pos) (tE X.K W0 (I9 C r (.bi b es'))):=by
 rw[S_,Qy]at hs;have h1:=star_ne (env:=X.env) hs.1 es;have h2:=cB (env:=X.env) (pos:=pos) hs.2;unfold HK at hb;split at hb
 .rename_i e;subst e;cases hb;exact se_bi (pe_callB call_len_seq u j PySem.boot_len ha (by decide) (by decide) h1 h2) imp_len
 split at hb
 .rename_i e;subst e;cases hb;exact se_bi (pe_callB call_abs u j (by rfl) ha (by decide) (by decide) h1 h2) imp_abs
 split at hb
 .rename_i e;subst e;cases hb;exact se_bi (pe_callTy (call_list_of.or (call_listD hc)) u j (by rfl) ha (by decide) (by decide) h1 h2) imp_list
 split at hb
 .rename_i e;subst e;cases hb;exact se_bi (pe_callB (call_srtX hc ()) u j (by rfl) ha (by decide) (by decide) h1 h2) imp_srt
 cases hb
end
def jt(ok:Zq T J d X sc N)(j:∀e e',ce e=some e'->Good X (Aa J fu d) e e'){f:Str}{e':E}(h:B7 T sc ce f es Ze=some e')(p pos:Pos):Good X (Aa J fu d) (.Call (.Name f p) es Ze pos) e':=by
 exact qN h
def jK(ok:Zq T J d X sc N)(F:∀e e',ce e=some e'->Good X (Aa J fu d) e e'){o:Expr}{u j:Pos}(B:Co o=false)(z:Good X (Aa J fu d) o o'){m:Str}{e':E}(h:Dx T ce o' m u j es Ze=some e'):Good X (Aa J fu d) (.Call (.Attribute o m u) es Ze j) e':=by
 exact qN h
def eT{a:Expr}(h:[a].any isStar=false):isStar a=false:=by simpa using h
def fY{b:Bool}(h:BA b sc x=true):L2.Loc sc x/\(b=false->sc.names.lookup x=some .local):=by
 unfold BA at h;simp![QQ,Yx,Sm]at h;rcases h with h|⟨h1,h2⟩
 .exact ⟨.inl h,λ_=>h⟩
 .exact ⟨.inr h2,λe=>by rw[e]at h1;cases h1⟩
def dQ{b:Bool}(h:Bm b sc N x=some i):N[i]?=some x/\BA b sc x=true:=by
 unfold Bm at h;split at h
 .rename_i a;exact⟨ixOf_get h,a⟩
 .cases h
def jV{b:Bool}(h:Bm b sc N x=some i):N[i]?=some x/\L2.Loc sc x/\(b=false->sc.names.lookup x=some .local):=⟨(dQ h).1,fY (dQ h).2⟩
def Zq.RJ(a:Zq T J d X sc N)(h:L2.Loc sc x):L2.Loc X.env.scope x:=by rw[a.YA];exact h
def Zq.fnX(a:Zq T J d X sc N){b:Bool}(c:b=true ->∀x,X.fn x=true){x:Str}(h:b=false->sc.names.lookup x=some .local):X.fn x=true\/X.env.scope.names.lookup x=some .local:=by
 rw[a.YA];cases b with
 |true=>exact .inl (c rfl x)
 |false=>exact .inr (h rfl)
def Zq.ndX(a:Zq T J d X sc N):X.N.Nodup:=by rw[a.hN];exact a.nd
def Zq.own(ok:Zq T J d X sc N):PassesOwn (model X.prog X.w) X.A X.env X.xe:=by rw[ok.xe];exact PassesOwn.never
def iY(ok:Zq T J d X sc N){b:Bool}{j:Scope}(z:∀x,BA b j x=true->L2.Loc X.env.scope x/\(X.fn x=true\/X.env.scope.names.lookup x=some .local)){t:Tg}(h:A8 b j N tg=some t):PG X tg (tG X.K t):=by
 unfold A8 at h;split at h
 .cases e:Bm b j N ‹Str› with
  |none=>rw[e]at h;cases h
  |some i=>
   rw[e]at h;cases h;let⟨R,u⟩:=dQ e;exact acF ok.ndX (by rw[ok.hN];exact R) (z _ u).1 (z _ u).2
 .rename_i ts k p
  cases e:Ac (ts.map (BI b j N))with
  |none=>rw[e]at h;cases h
  |some is=>
   rw[e]at h;cases h;have all:∀(ts:List Expr) (is:List Nat),Ac (ts.map (BI b j N))=some is->PGs X ts (TM X.K is)/\(assignEach ts X.env).length=is.length/\(assignEach ts X.env).findIdx? (·.1)=none:=λts=>by
    induction ts with
    |nil=>intro is e;cases e;exact⟨sgs_nil,rfl,rfl⟩
    |cons a ts ih=>
     intro is e;rw[W1]at e;cases ea:BI b j N a with
     |none=>rw[ea]at e;cases e
     |some i=>
      rw[ea]at e;simp![Ac]at e;cases S:Ac (ts.map (BI b j N))with
      |none=>rw[S]at e;cases e
      |some L=>
       rw[S]at e;cases e;let⟨G,F,B⟩:=ih L S;cases a<;>simp![BI,reduceCtorEq]at ea
       let⟨R,u⟩:=dQ ea;refine⟨wc ok.ndX (by rw[ok.hN];exact R) (z _ u).1 (z _ u).2 G,?_,?_⟩
       .show (assignEach ts X.env).length+1=_
        rw[F];rfl
       .show List.findIdx? (·.1) ((false,_)::assignEach ts X.env)=none
        rw[List.findIdx?_cons];simp[B]
   let⟨G,F,B⟩:=all ts is e;exact acA ok.calm G F B
 .cases h
def fK(ok:Zq T J d X sc N){b:Bool}(hb:b=true ->∀x,X.fn x=true){t:Tg}(h:A8 b sc N tg=some t):PG X tg (tG X.K t):=iY ok (λ_ z=>⟨ok.RJ (fY z).1,ok.fnX hb (fY z).2⟩) h
def yH{s3:Shared}{H3:Hp}{N':List Str}(h:BA true scope x=true):L2.Loc (Ag X Y scope s3 H3 fp N').env.scope x/\((Ag X Y scope s3 H3 fp N').fn x=true\/(Ag X Y scope s3 H3 fp N').env.scope.names.lookup x=some .local):=by
 have e:(Ag X Y scope s3 H3 fp N').env.scope.names.lookup x=_:=c9;simp![BA,QQ,N3,Sm]at h;rcases h with h|h
 .rw [h]at e;exact⟨.inl e,.inr e⟩
 .rw [h]at e;exact⟨.inr e,.inl (Sm.mpr h)⟩
def yx(h:Cs e'=true):I8 r e'=(λO g=>(r.ev e' O g).bind λu g=>match u with
  |.ZY xs=>Out.ok (Iter.seq xs) g
  |.xn _ xs=>Out.ok (Iter.seq xs) g
  |.ref n=>match g[n]? with
   |some (.Z5 _)=>.ok (.Z5 n) g
   |_=>.ZX
  |_=>.ZX):=by
 cases e'<;>first|rfl|cases h
def xA(ok:Zq T J d X sc N){f:Expr->Option E}(u:∀e e',f e=some e'->Good X (Aa J fu d) e e'){it:Expr}(h:Dl T sc f it=some Zs):(∀n,PI X tg it (tI X.K W0 (I8 (Jh (Aa J fu d) n) Zs))) /\∀x,foldedSetIterable it X.env x=pure x:=by
 have val:HJ f it=some Zs->(∀n,PI X tg it (tI X.K W0 (I8 (Jh (Aa J fu d) n) Zs))) /\∀x,foldedSetIterable it X.env x=pure x:=λh=>qI h λhs h=>qB h λe' G h=>qI h λF h=>by
  cases h;have hs:=aJ hs;exact⟨λn=>by rw[yx F];exact abh ((u it Zs G).1 n),λx=>by cases it<;>first|rfl|cases hs⟩
 unfold Dl at h;cases hc:BH it with
 |none=>rw[hc]at h;exact val h
 |some c=>
  rw[hc]at h;refine qE h (λz h=>?_) val;let⟨p,q,rfl⟩:=dy hc;let⟨n,es⟩:=c;have z:n = "range":=z;subst z;refine qI h λhc h=>?_;simp![Yx,R6,Sm]at hc;let⟨⟨L,B⟩,j⟩:=hc;have hm:=ok.bt _ (Qc.mp L);cases es with
  |nil=>cases h
  |cons a es=>
   cases es with
   |nil=>
    refine qM h λa' ha e=>?_;subst e;exact⟨λn=>zB (ok.gl B) hm ((u _ _ ha).1 n) (star_ne (eT j)),λx=>rfl⟩
   |cons b es=>
    refine yD (show DO f .WN (a::b::es)=some Zs from h) λa b a' b' R ha hb e=>?_;cases R;subst e;rw[S_,Qy]at j;exact⟨λn=>yK (ok.gl B) hm ((u _ _ ha).1 n) ((u _ _ hb).1 n) (star_ne j.1) (star_ne (eT j.2)),λx=>rfl⟩
def bJ(ok:Zq T J d X sc N){f:Expr->Option E}(j:∀e e',f e=some e'->Good X (Aa J fu d) e e'){it:Expr}(h:Cr T sc f tg it=some Zs):(∀n,PI X tg it (tI X.K W0 (I8 (Jh (Aa J fu d) n) Zs))) /\∀x,foldedSetIterable it X.env x=pure x:=by
 exact xA ok j h
def uo(h:env.scope=sc):relabel scope env=A1 scope sc:=by subst h;rfl
def Zq.comp(ok:Zq T J d X sc N){own fr:List Str}(nd:(own++fr).Nodup)(Y:List (Addr×Obj))(s3:Shared)(H3:Hp)(fp:List Addr):Zq T J d (Ag X Y scope s3 H3 fp (own++fr)) (A1 scope sc) (own++fr):=
 ⟨ok.hF,ok.cs,ok.bt,ok.room,rfl,uo ok.YA,nd,ok.calm,rfl⟩
def gm{f:Expr->Option E}(d:∀e g,f e=some g->Good X C e g):∀{b:List Expr} {es':List E},Ac (b.map f)=some es' ->∀n,PTs X b (As (Jh C n).ts es')
 |[],_,h=>λn=>by cases h;exact xF
 |a::b,es',h=>λn=>by
  rw[W1]at h;cases ea:f a with
  |none=>rw[ea]at h;cases h
  |some a'=>
   rw[ea]at h;simp![Ac]at h;cases c:Ac (b.map f)with
   |none=>rw[c]at h;cases h
   |some r'=>
    rw[c]at h;cases h;exact wO ((d a a' ea).2.1 n) (gm d c n)
def jS(ok:Zq T J d X sc N){f:Expr->Option E}(z:∀e e',f e=some e'->Good X (Aa J fu d) e e'):∀{gs:List Comprehension} {j:List (Tg×E×List E)},Dk T sc N f gs=some j->A6 X (Aa J fu d) gs j
 |[],_,h=>by cases h;trivial
 |g::gs,j,h=>qI h λha h=>qB h λt B h=>qB h λit u h=>qB h λcs G h=>qM h λL F e=>by
  subst e;exact⟨eq_of_beq ha,fK ok (λe=>by cases e) B,gm z G,(bJ ok z u).1,(bJ ok z u).2,jS ok z F⟩
def vK(m:Zq T J d X sc N){own:List Str}(h:C5 scope sc own (freeOf scope)=true)(p:Ac ((freeOf scope).map (AB N))=some Zt):We X scope own (freeOf scope) Zt:=by
 unfold C5 at h;simp![Yx,Sm,Tc,QQ,bne_iff_ne,Vw]at h;let⟨⟨⟨⟨⟨⟨A,w⟩,v⟩,u⟩,t⟩,s⟩,q⟩:=h;refine⟨A,λx a b=>(w x a).resolve_left λz=>z b,λx a b=>(v x a).resolve_left λz=>z b,λx a b=>?_,t,s,q,?_⟩
 .show X.env.scope.names.lookup x.1=_
  rw[m.YA];exact(u x a).resolve_left λz=>z b
 .have all:∀(l:List Str) (r:List Nat),Ac (l.map (AB N))=some r->r.length=l.length /\∀(j:Nat) (x:Str) (i:Nat),l[j]?=some x->r[j]?=some i->N[i]?=some x:=λl=>by
   induction l with
   |nil=>intro r e;cases e;exact⟨rfl,λj x i e=>by simp at e⟩
   |cons y l ih=>
    intro r e;rw[W1]at e;cases ea:AB N y with
    |none=>rw[ea]at e;cases e
    |some k=>
     rw[ea]at e;simp![Ac]at e;cases c:Ac (l.map (AB N))with
     |none=>rw[c]at e;cases e
     |some r'=>
      rw[c]at e;cases e;let⟨o,n⟩:=ih r' c;refine⟨by simp[o],λj x i g f=>?_⟩
      cases j with
      |zero=>simp at g f;subst g;subst f;exact ixOf_get ea
      |succ j=>exact n j x i (by simpa using g) (by simpa using f)
  rw[m.hN];exact all _ _ p
def wa(ok:Zq T J d X sc N)(h:E6 T sc N x=some e'):Good X (Aa J fu d) (.Name x pos) e':=by
 refine qI h λhx h=>qB h λk hk h=>?_;let⟨j,G,h3⟩:=aF hx;have L:(k=.local\/k=.cell\/k=.free)->(AB N x).map E.L=some e'->Good X (Aa J fu d) (.Name x pos) e':=λZ h=>qM h λi R e=>by
  subst e;refine .plain (λn=>zV (by rw[ok.hN];exact ixOf_get R) ?_ j G) (λ_=>rfl) (λ_ _ _=>rfl) rfl
  show X.env.scope.names.lookup x=_\/_;rw[ok.YA];rcases Z with rfl|rfl|rfl
  .exact .inl hk
  .exact .inr (.inl hk)
  .exact .inr (.inr hk)
 cases k with
 |«local»=>exact L (.inl rfl) h
 |cell=>exact L (.inr (.inl rfl)) h
 |free=>exact L (.inr (.inr rfl)) h
 |globalImplicit=>
  refine qM h λu S e=>?_;subst e;let⟨v,val,F,B,z⟩:=ok.cs x u S;exact .plain (λn=>cM (lh (ok.gl hk) F B j) z) (λ_=>rfl) (λ_ _ _=>rfl) rfl
 |globalExplicit=>exact qN h
def zw{v:Const}{k:Nat}(h:Gb v=some e'):Good X C (.Constant v k pos) e':=by
 cases v with
 |int i=>cases h;exact .plain (λn=>cM abi λ_ _=>rfl) (λ_=>rfl) (λ_ _ _=>rfl) rfl
 |bool b=>cases h;exact .plain (λn=>cM acN λ_ _=>rfl) (λ_=>rfl) (λ_ _ _=>rfl) rfl
 |none=>cases h;exact .plain (λn=>cM zZ λ_ _=>rfl) (λ_=>rfl) (λ_ _ _=>rfl) rfl
 |str s=>cases h;exact .plain (λn=>cM l4 λ_ _=>rfl) (λ_=>rfl) (λ_ _ _=>rfl) rfl
 |_=>exact qN h
section
variable(ok:Zq T J d X sc N)(ih:∀e e',ce e=some e'->Good X (Aa J fu d) e e')
include ok in
def wg(j:∀e e',ce e=some e'->Good X (Aa J fu d) e e'){a b:Expr}{o:CmpOp}(h:ET ce a o b=some e'):Good X (Aa J fu d) (.Compare a [o] [b] pos) e':=by
 refine qI h λu h=>qB h λo' ho h=>qB h λa' ha h=>qM h λb' hb e=>?_;subst e;have hm:=j5 (o:=o) (aJ u);refine⟨λn=>?_,λn=>?_,λh=>by cases h⟩
 .cases n with
  |zero=>exact PE.ZX λ_ _=>rfl
  |succ n=>exact aaT (C:=Aa J fu d) (bO ok ho) hm ((j _ _ ha).1 n) ((j _ _ hb).1 n)
 .cases n with
  |zero=>exact PT.ZX λ_ _=>rfl
  |succ n=>
   cases n with
   |zero=>exact PT.ZX λ_ _=>rfl
   |succ n=>exact aas (C:=Aa J fu d) (bO ok ho) hm ((j _ _ ha).1 n) ((j _ _ hb).1 n)
include ok in
def w6(j:∀e e',ce e=some e'->Good X (Aa J fu d) e e'){a b c:Expr}{o q:CmpOp}(h:EK ce a o q b c=some e'):Good X (Aa J fu d) (.Compare a [o,q] [b,c] pos) e':=by
 refine qI h λz h=>qB h λo' ho h=>qB h λB u h=>qB h λa' ha h=>qB h λb' hb h=>qM h λF hc e=>?_;subst e;have hm:=j5 (o:=q) (aJ z);refine⟨λn=>?_,λn=>?_,λh=>by cases h⟩
 .cases n with
  |zero=>exact PE.ZX λ_ _=>rfl
  |succ n=>exact xl (C:=Aa J fu d) (bO ok ho) (bO ok u) hm ((j _ _ ha).1 n) ((j _ _ hb).1 n) ((j _ _ hc).1 n)
 .cases n with
  |zero=>exact PT.ZX λ_ _=>rfl
  |succ n=>
   cases n with
   |zero=>exact PT.ZX λ_ _=>rfl
   |succ n=>exact xb (C:=Aa J fu d) (bO ok ho) (bO ok u) hm ((j _ _ ha).1 n) ((j _ _ hb).1 n) ((j _ _ hc).1 n)
include ok in
def yX(z:∀e e',ce e=some e'->Good X (Aa J fu d) e e'){a:Expr}{j:List CmpOp}{bs:List Expr}(h:Fy ce a j bs=some e'):Good X (Aa J fu d) (.Compare a j bs pos) e':=by
 cases j with
 |nil=>exact qN h
 |cons o j=>cases bs with
  |nil=>exact qN h
  |cons b bs=>cases j with
   |nil=>
    refine qI h λhb u=>?_;cases aA hb;exact wg ok z u
   |cons q j=>cases bs with
    |nil=>exact qN h
    |cons c bs=>
     refine qI h λhb u=>?_;rw[Yx]at hb;cases aA hb.1;cases aA hb.2;exact w6 ok z u
def zy(j:∀e e',ce e=some e'->Good X (Aa J fu d) e e'){o:BoolOp}(h:FQ ce o es pos=some e'):Good X (Aa J fu d) (.BoolOp o es pos) e':=by
 cases es with
 |nil=>exact qN h
 |cons a es=>cases es with
  |nil=>
   let⟨g1,g2,g3⟩:=j _ _ h;have u:∀n,PW X (.BoolOp o [a] pos) (tT X.K W0 ((Jh (Aa J fu d) n).ts e')):=λn=>by
    cases o with
    |And=>exact zg (g2 n)
    |Or=>exact abl (g2 n)
   exact⟨λn=>abK (g1 n),λn=>(u n).pt,λ_ n=>u n⟩
  |cons b ZS=>cases o with
   |And=>
    refine qB h λa' ha h=>qM h λb' hb e=>?_;subst e;have u:∀n,PW X (.BoolOp .And (a::b::ZS) pos) (tT X.K W0 ((Jh (Aa J fu d) n).ts (.and a' b'))):=λn=>by
     cases n with
     |zero=>exactλz Y s O H Q I ⟨_,_,_,_,_,p⟩=>p.elim
     |succ n=>exact abp ((j _ _ ha).2.1 n) ((j _ _ hb).2.2 rfl n)
    refine⟨λn=>?_,λn=>(u n).pt,λ_ n=>u n⟩;cases n with
    |zero=>exact PE.ZX λ_ _=>rfl
    |succ n=>exact abw (C:=Aa J fu d) ((j _ _ ha).1 n) ((j _ _ hb).1 n)
   |Or=>
    refine qB h λa' ha h=>qM h λb' hb e=>?_;subst e;have u:∀n,PW X (.BoolOp .Or (a::b::ZS) pos) (tT X.K W0 ((Jh (Aa J fu d) n).ts (.or a' b'))):=λn=>by
     cases n with
     |zero=>exactλz Y s O H Q I ⟨_,_,_,_,_,p⟩=>p.elim
     |succ n=>exact acz ((j _ _ ha).2.1 n) ((j _ _ hb).2.2 rfl n)
    refine⟨λn=>?_,λn=>(u n).pt,λ_ n=>u n⟩;cases n with
    |zero=>exact PE.ZX λ_ _=>rfl
    |succ n=>exact acx (C:=Aa J fu d) ((j _ _ ha).1 n) ((j _ _ hb).1 n)
def aar(j:∀e e',ce e=some e'->Good X (Aa J fu d) e e'){o:UnaryOp}{a:Expr}(h:HL ce o a=some e'):Good X (Aa J fu d) (.UnaryOp o a pos) e':=by
 cases o with
 |Not=>
  refine qM h λa' ha e=>?_;subst e;refine⟨λn=>?_,λn=>?_,λh=>by cases h⟩
  .cases n with
   |zero=>exact PE.ZX λ_ _=>rfl
   |succ n=>exact abN (C:=Aa J fu d) ((j _ _ ha).1 n)
  .cases n with
   |zero=>exact PT.ZX λ_ _=>rfl
   |succ n=>exact aap ((j _ _ ha).2.1 n)
 |USub=>
  refine qM h λa' ha e=>?_;subst e;exact .plain (λn=>aan ((j _ _ ha).1 n)) (λ_=>rfl) (λ_ _ _=>rfl) rfl
 |_=>exact qN h
def yT{o:Option α}(h:Fs o=true):o=none:=by
 cases o with
 |none=>rfl
 |some _=>cases h
def lT(u:∀e e',ce e=some e'->Good X (Aa J fu d) e e'){lo:Option Expr}{j:Option E}(h:DZ ce lo=some j)(n:Nat):PO X lo (Cg X.K W0 (IY (Jh (Aa J fu d) n).ev j)):=by
 cases lo with
 |none=>cases h;exact x3
 |some l=>exact qM h λB z e=>by subst e;exact yB ((u _ _ z).1 n)
def yn(G:X.A.units+2<cLine)(j:∀e e',ce e=some e'->Good X (Aa J fu d) e e'){a s:Expr}(h:DA ce a s=some e'):Good X (Aa J fu d) (.Subscript a s pos) e':=by
 unfold DA at h;cases u:B0 s with
 |true=>
  rw[u]at h;cases s with
  |Slice lo hi st p=>cases st with
   |none=>
    refine qB h λa' ha h=>qB h λF z h=>qM h λL B e=>?_;subst e;exact .plain (λn=>abH ((j _ _ ha).1 n) (lT j z n) (lT j B n)) (λ_=>rfl) (λ_ _ _=>rfl) rfl
   |some st=>exact qN h
  |_=>exact qN h
 |false=>
  rw[u]at h;refine qB h λa' ha h=>qM h λb' hb e=>?_;subst e;exact .plain (λn=>aae () ((j _ _ ha).1 n) ((j _ _ hb).1 n) (uc u)) (λ_=>rfl) (λ_ _ _=>rfl) rfl
include ok in
def oi(u:∀e e',ce e=some e'->Good X (Aa J fu d) e e'){f:Str}{p:Pos}(F:sc.names.lookup f=some .globalImplicit)(z:X.mg f=none)(j:es.any isStar=false)(h:HM ce f es=some e'):Good X (Aa J fu d) (.Call (.Name f p) es [] pos) e':=by
 refine qB h λb hb h=>qI h λB h=>qM h λes' ha e=>?_;subst e;cases es with
 |nil=>cases B
 |cons a es=>
  unfold EW at hb;exact .plain (λn=>zH hb ok.calm ok.room.units ok.room.gd (ok.gl F) z (bC u j ha n) j) (λ_=>rfl) (λ_ _ _=>rfl) rfl
include ok in
def zt(R:∀e e',ce e=some e'->Good X (Aa J fu d) e e'){p:Pos}(Xc:sc.names.lookup ("isinstance" : Str)=some .globalImplicit)(S:X.mg "isinstance" = none)(z:es.any isStar=false)(h:Ge T sc ce es=some e'):Good X (Aa J fu d) (.Call (.Name "isinstance" p) es [] pos) e':=by
 cases es with
 |nil=>exact qN h
 |cons a es=>cases es with
  |nil=>exact qN h
  |cons t es=>
   refine qI h λhb h1=>qB h1 λB Wo h2=>?_;cases aA hb;refine qB h2 λtn hn h=>qB h λty j h=>qB h λa' ha h=>qI h λu Z=>?_;let⟨p2,rfl⟩:=aE hn;simp![Yx,Sm]at u;cases Z;let⟨L,t2,G,F⟩:=xS j;rw[S_,Qy]at z;exact .plain (λn=>aaN (by unfold CO at j;revert j;(repeat' split)<;>(intro j;cases j)<;>rfl) L (ok.gl u.2) (ok.bt tn (Qc.mp u.1)) t2 G F (ok.gl Xc) S ((R _ _ ha).1 n) (star_ne z.1)) (λ_=>rfl) (λ_ _ _=>rfl) rfl
include ok in
def zq(j:∀e e',ce e=some e'->Good X (Aa J fu d) e e'){f:Str}{p:Pos}(z:sc.names.lookup f=some .globalImplicit)(u:X.mg f=none)(G:es.any isStar=false)(h:CP T sc ce f es=some e'):Good X (Aa J fu d) (.Call (.Name f p) es [] pos) e':=by
 refine qE h (λF h=>by subst F;exact zt ok j z u G h) λh=>?_
 refine qE h (λF h=>?_) (oi ok j z u G);cases R:setArg es with
 |none=>rw[R]at h;exact oi ok j z u G h
 |some a=>
  rw[R]at h;refine qI h λL h=>qM h λa' ha e=>?_;subst F;subst e;simp![Yx,Sm]at L;let⟨B,Z,S,rfl⟩:=ve R;exact .plain (λn=>x8 ok.calm (by have:=ok.room.units;omega) (ok.gl z) u (ok.gl L.2) (ok.bt _ (Qc.mp L.1)) ((j _ _ ha).1 n) (star_ne B _)) (λ_=>rfl) (λ_ _ _=>rfl) rfl
include ok in
def yF(j:∀e e',ce e=some e'->Good X (Aa J fu d) e e'){f:Str}{p:Pos}(h:Fu T sc ce f es=some e'):Good X (Aa J fu d) (.Call (.Name f p) es [] pos) e':=by
 refine qI h λhc h=>?_;simp![Yx,R6,Sm]at hc;let⟨⟨Vi,z⟩,F⟩:=hc;let⟨u,h2,h3⟩:=aF Vi;cases hi:AB T.J f with
 |some i=>
  rw[hi]at h;refine qM h λes' ha e=>?_;subst e;let⟨fa,fd,ps,q1,Z,S,R,L⟩:=ok.hF i f (ixOf_get hi) u;refine .plain (λn=>?_) (λ_=>rfl) (λ_ _ _=>rfl) rfl;cases es with
  |nil=>cases ha;exact xr R qw L ok.S0 (ok.gl F) q1 Z S u
  |cons a es=>
   have G:=z;rw[S_,Qy]at G;exact lL R qw L ok.S0 (ok.gl F) q1 Z S u (bC j z ha n) (star_ne G.1 _) (cB G.2)
 |none=>
  rw[hi]at h;cases B:T.bt.contains f with
  |true=>
   have h:(match T.bt.contains f with|true=>CP T sc ce f es|false=>B7 T sc ce f es [])=some e':=h
   rw[B]at h;exact zq ok j F (ok.bt f (Qc.mp B)) z h
  |false=>
   have h:(match T.bt.contains f with|true=>CP T sc ce f es|false=>B7 T sc ce f es [])=some e':=h
   rw[B]at h;exact jt ok j h _ _
include ok in
def abV(B:∀e e',ce e=some e'->Good X (Aa J fu d) e e'){o:Expr}{m:Str}{L G:Pos}(z:Co o=false)(u:Good X (Aa J fu d) o o')(R:(L.endLine==G.line)=true)(Z:es.any isStar=false)(h:HN T ce o' m L G es=some e'):Good X (Aa J fu d) (.Call (.Attribute o m L) es [] G) e':=by
 refine qE h (λj h=>?_) λh=>?_
 .subst j
  refine lC h λa a' F ha e=>?_;subst F;subst e;exact .plain (λn=>aaX (u.1 n) ((B _ _ ha).1 n) (base_of z _) R (star_ne (eT Z))) (λ_=>rfl) (λ_ _ _=>rfl) rfl
 refine qE h (λj h=>?_) λh=>?_
 .subst j
  refine lC h λa a' F ha e=>?_;subst F;subst e;exact .plain (λn=>z6 (u.1 n) ((B _ _ ha).1 n) (base_of z _) R (star_ne (eT Z))) (λ_=>rfl) (λ_ _ _=>rfl) rfl
 refine qE h (λj S=>?_) λh=>?_
 .subst j
  cases es with
  |nil=>
   cases S;exact .plain (λn=>abB (u.1 n) (base_of z _) R) (λ_=>rfl) (λ_ _ _=>rfl) rfl
  |cons b es=>
   exact qN S
 exact jK ok B z u h
include ok in
def yY(j:∀e e',ce e=some e'->Good X (Aa J fu d) e e'){fn:Expr}(h:FZ T sc ce fn es Ze pos=some e'):Good X (Aa J fu d) (.Call fn es Ze pos) e':=by
 cases fn with
 |Name f p=>cases Ze with
  |nil=>exact yF ok j h
  |cons k Ze=>exact jt ok j h _ _
 |Attribute o m ap=>
  refine qI h λu h=>qB h λo' ho h=>?_;have u:=aJ u;cases Ze with
  |nil=>
   refine qI h λhc h=>?_;rw[Yx]at hc;exact abV ok j u (j _ _ ho) hc.1 (aJ hc.2) h
  |cons k Ze=>exact jK ok j u (j _ _ ho) h
 |_=>exact qN h
def zl(u:∀e e',ce e=some e'->Good X (Aa J fu d) e e'){keys:List (Option Expr)}{vs:List Expr}(h:FV ce keys vs=some e'):Good X (Aa J fu d) (.Dict keys vs pos) e':=by
 cases keys with
 |nil=>
  refine qI h λj h=>?_;cases aA j;cases h;exact .plain (λn=>zA) (λ_=>rfl) (λ_ _ _=>rfl) rfl
 |cons k0 keys=>
  exact qN h
include ok in
def gj(G:∀e e',ce e=some e'->Good X (Aa J fu d) e e'){L:Expr->Option E}{g:Comprehension}{q:List Nat×List (Tg×E×List E)}
  (j:∀{R:Cx},Zq T J d R (A1 scope sc) (ownOf (g::ZS)++freeOf scope) ->∀e e',L e=some e'->Good R (Aa J fu d) e e') (h:D5 T sc ce N L g ZS scope=some q) :
  ∃t Zs cs F B,q=(B,(t,Zs,cs)::F)/\We X scope (ownOf (g::ZS)) (freeOf scope) B/\g.is_async=0/\(∀n,PI X g.target g.iter (tI X.K W0 (I8 (Jh (Aa J fu d) n) Zs)))/\(∀x,foldedSetIterable g.iter X.env x=pure x) /\
   ∀Y s3 H3 fp,Zq T J d (Ag X Y scope s3 H3 fp (ownOf (g::ZS)++freeOf scope)) (A1 scope sc) (ownOf (g::ZS)++freeOf scope)/\PG (Ag X Y scope s3 H3 fp (ownOf (g::ZS)++freeOf scope)) g.target (tG X.K t)/\(∀n,PTs (Ag X Y scope s3 H3 fp (ownOf (g::ZS)++freeOf scope)) g.ifs (As (Jh (Aa J fu d) n).ts cs)) /\
    A6 (Ag X Y scope s3 H3 fp (ownOf (g::ZS)++freeOf scope)) (Aa J fu d) ZS F:=by
 refine qI h λhc h=>qB h λZs u h=>qB h λt S h=>qB h λcs X0 h=>qB h λF Tz h=>qM h λB Z e=>?_;rw[Yx,Sm]at hc;have Z6:=vK ok hc.1 Z;refine⟨t,Zs,cs,F,B,e.symm,Z6,hc.2,(bJ ok G u).1,(bJ ok G u).2,λY s3 H3 fp=>?_⟩;have z:=ok.comp (scope:=scope) Z6.nd Y s3 H3 fp;exact⟨z,iY z (λ_=>yH) S,gm (j z) X0,jS z (j z) Tz⟩
end
def av:∀(m:Nat) {X:Cx} {sc:Scope} {N:List Str} (ok:Zq T J d X sc N) (e:Expr) (e':E),Ai T sc N m e=some e'->Good X (Aa J fu d) e e'
 |0,_,_,_,_,_,_,h=>by cases h
 |m+1,X,sc,N,ok,e,e',h=>by
  have ih:=av m ok;cases e with
  |Name x p=>exact wa ok h
  |Constant v k p=>exact zw h
  |BinOp a o b p=>
   refine qB h λo' ho h=>qB h λa' ha h=>qM h λb' hb e=>?_;subst e;exact .plain (λn=>xE (zx ho) ((ih _ _ ha).1 n) ((ih _ _ hb).1 n)) (λ_=>rfl) (λ_ _ _=>rfl) rfl
  |Compare a os bs p=>exact yX ok ih h
  |BoolOp o es p=>exact zy ih h
  |UnaryOp o a p=>exact aar ih h
  |Tuple es k p=>
   refine qI h λhs h=>qM h λa' ha e=>?_;subst e;exact .plain (λn=>aa1 (bC ih (aJ hs) ha n)) (λ_=>rfl) (λ_ _ _=>rfl) rfl
  |List es p=>
   refine qI h λhs h=>qM h λa' ha e=>?_;subst e;exact .plain (λn=>aaQ (bC ih (aJ hs) ha n)) (λ_=>rfl) (λ_ _ _=>rfl) rfl
  |Subscript a s p=>exact yn ok.units ih h
  |Call fn es Ze cp=>exact yY ok ih h
  |Dict keys vs p=>exact zl ih h
  |ListComp elt gs scope p=>cases gs with
   |nil=>exact qN h
   |cons g ZS=>
    refine qB h λq j h=>qM h λZl L e=>?_;subst e;let⟨t,Zs,cs,S,R,rfl,Z6,B,z,u,h4⟩:=gj (fu:=fu) ok ih (λF=>av m F) j;exact .plain (λn=>yW ok.calm Z6 B (z n) u λY s3 H3 fp=>⟨(h4 Y s3 H3 fp).2.1,(h4 Y s3 H3 fp).2.2.1,(h4 Y s3 H3 fp).2.2.2,(av m (h4 Y s3 H3 fp).1 _ _ L).1⟩) (λ_=>rfl) (λ_ _ _=>rfl) rfl
  |DictComp kx Z gs scope p=>cases gs with
   |nil=>exact qN h
   |cons g ZS=>
    refine qB h λq j h=>qB h λk' hk h=>qM h λv' G e=>?_;subst e;let⟨t,Zs,cs,S,R,rfl,Z6,B,z,u,h4⟩:=gj (fu:=fu) ok ih (λF=>av m F) j;exact .plain (λn=>xv ok.calm (by have:=ok.units;omega) Z6 B (z n) u λY s3 H3 fp=>⟨(h4 Y s3 H3 fp).2.1,(h4 Y s3 H3 fp).2.2.1,(h4 Y s3 H3 fp).2.2.2,(av m (h4 Y s3 H3 fp).1 _ _ hk).1,(av m (h4 Y s3 H3 fp).1 _ _ G).1⟩) (λ_=>rfl) (λ_ _ _=>rfl) rfl
  |_=>exact qN h
def t7(ok:Zq T J d X sc N){j:Expr}{g:Comprehension}(h:Ai T sc N (m+1) (.ListComp j (g::ZS) scope pos)=some e'):
  ∃t Zs cs z Zl u,e'=.comp (ownOf (g::ZS)).length u ((t,Zs,cs)::z) Zl/\We X scope (ownOf (g::ZS)) (freeOf scope) u/\g.is_async=0/\(∀n,PI X g.target g.iter (tI X.K W0 (I8 (Jh (Aa J fu d) n) Zs)))/\(∀x,foldedSetIterable g.iter X.env x=pure x) /\
   ∀Y s3 H3 fp,PG (Ag X Y scope s3 H3 fp (ownOf (g::ZS)++freeOf scope)) g.target (tG X.K t)/\(∀n,PTs (Ag X Y scope s3 H3 fp (ownOf (g::ZS)++freeOf scope)) g.ifs (As (Jh (Aa J fu d) n).ts cs)) /\
    A6 (Ag X Y scope s3 H3 fp (ownOf (g::ZS)++freeOf scope)) (Aa J fu d) ZS z /\∀n,PE (Ag X Y scope s3 H3 fp (ownOf (g::ZS)++freeOf scope)) j (tE X.K W0 ((Jh (Aa J fu d) n).ev Zl)):=by
 refine qB h λq B h=>qM h λZl F e=>?_;let⟨t,Zs,cs,z,u,rfl,Z6,R,L,G,h4⟩:=gj (fu:=fu) ok (av m ok) (λS=>av m S) B;exact⟨t,Zs,cs,z,Zl,u,e.symm,Z6,R,L,G,λY s3 H3 fp=>⟨(h4 Y s3 H3 fp).2.1,(h4 Y s3 H3 fp).2.2.1,(h4 Y s3 H3 fp).2.2.2,(av m (h4 Y s3 H3 fp).1 _ _ F).1⟩⟩
end
section
variable{T:Tab}{J:List Fn}
def iq{t:Option Expr}{l:Nat}(h:BG e=false):swapsWith e t l env=pure false:=by
 cases e<;>first|rfl|cases h
def tf{t:Expr}{l:Nat}(h:BG e=false):swapsWithSole [t] e l env=pure false:=by
 cases e<;>first|rfl|cases h
def tq{k:Nat}{p:Pos}{l:Nat}:swapsWithSole [.Tuple ts k p] e l env=pure false:=by
 cases e<;>rfl
def bR{f:Stmt->Option Z6}(F:∀s u,f s=some u ->∀n,PS X s (Zw X.K W0 (Jc (Jh (Aa J fu d) n) u))):∀{j:List Stmt} {B:List Z6},Ac (j.map f)=some B ->∀n,PSs X j (Zw X.K W0 ((Jh (Aa J fu d) n).ex B))
 |[],_,h=>λn=>by
  cases h;cases n with
  |zero=>exact PSs.ZX λ_ _=>rfl
  |succ n=>exact nR (r:=Jh (Aa J fu d) n)
 |s::j,B,h=>λn=>by
  rw[W1]at h;cases ea:f s with
  |none=>rw[ea]at h;cases h
  |some u=>
   rw[ea]at h;simp![Ac]at h;cases z:Ac (j.map f)with
   |none=>rw[z]at h;cases h
   |some r'=>
    rw[z]at h;cases h;cases n with
    |zero=>exact PSs.ZX λ_ _=>rfl
    |succ n=>exact lM (F s u ea n) (bR F z n)
def uh{o i:Expr}{WS:Pos}(h:B0 i=false)(v:Value):assign (.Subscript o i WS) env v=(do
   let ov<-holding [v] (eval o env)
   let iv<-holding [v,ov] (eval i env)
   standAt WS
   holding [v,ov,iv] (setItem ov iv v)
   release [v,ov,iv] []):=by
 cases i<;>first|rfl|cases h
def vX(ok:Zq T J d X sc N)(hk:X.env.blockKind=.function)(Xz:∀x,X.fn x=true){x:Str}{u:Pos}{ZV:Z6}(h:EG sc N (Ai T sc N m) x u e=some ZV)(n:Nat):PS X (.Assign [.Name x u] e pos) (Zw X.K W0 (Jc (Jh (Aa J fu d) n) ZV)):=by
 refine qI h λhc h=>qB h λi hi h=>qM h λe' F e=>?_;subst e;let⟨L,h2,h3⟩:=jV hi;have plain:BG e=false->PS X (.Assign [.Name x u] e pos) (Zw X.K W0 (Jc (Jh (Aa J fu d) n) (.set (.nm i) e'))):=λhc=>ml ok.ndX (by rw[ok.hN];exact L) (ok.RJ h2) (.inl (Xz _)) ((av m ok _ _ F).1 n) (iq hc)
 cases e with
 |ListComp elt gs scope p=>cases gs with
  |nil=>cases hc
  |cons g ZS=>
   have G:DN sc x u scope p=true:=hc;cases m with
   |zero=>cases F
   |succ m=>
    let⟨t,Zs,cs,ZC,Zl,Zt,rfl,Sc,ha,z,Vl,j⟩:=t7 ok F;unfold DN at G;rw[Yx,Yx,Sm,Sm]at G;let⟨⟨q1,Z⟩,S⟩:=G;have R:X.env.scope.names.lookup x=some .local:=by rw[ok.YA];exact q1
    have B:X.env.kindOf x=some .local:=R;cases n with
    |zero=>exact PS.ZX λ_ _=>rfl
    |succ n=>
     refine ux ok.calm Sc ha (z n) Vl j ok.ndX (by rw[ok.hN];exact L) R ?_
     show(pure (X.env.blockKind==.function&&X.env.kindOf x==some .local&&u.line==p.line&&!(scope.names.any λ(n,k)=>n==x&&(k==.local||k==.cell))):Sem Bool)=pure true;rw[hk,B,Z,S];simp
 |_=>exact plain (aJ hc)
def uj(ok:Zq T J d X sc N)(B:X.env.blockKind=.function)(Xz:∀x,X.fn x=true){t:Expr}{ZV:Z6}(h:EC T sc N (Ai T sc N m) t e=some ZV)(n:Nat):PS X (.Assign [t] e pos) (Zw X.K W0 (Jc (Jh (Aa J fu d) n) ZV)):=by
 have j:=av (fu:=fu) m ok;cases t with
 |Name x L=>exact vX ok B Xz h n
 |Tuple ts k p=>
  cases hc:Cv e with
  |true=>
   have h:(match Cv e with|true=>none|false=>(A8 true sc N (.Tuple ts k p)).bind λt=>(Ai T sc N m e).map (Z6.set t))=some ZV:=h
   rw[hc]at h;exact qN h
  |false=>
   have h:(match Cv e with|true=>none|false=>(A8 true sc N (.Tuple ts k p)).bind λt=>(Ai T sc N m e).map (Z6.set t))=some ZV:=h
   rw[hc]at h;refine qB h λt z h=>qM h λe' u G=>?_;subst G;refine abZ ((j _ _ u).1 n) (fK ok (λ_=>Xz) z) tq ?_ rfl;revert hc;cases e<;>first|exactλ_=>rfl|exactλF=>nomatch F
 |Subscript o i p=>
  refine qI h λhc h=>qB h λo' ho h=>qB h λR hi h=>qM h λe' u e=>?_;subst e;rw[Yx]at hc;exact aaC (by have:=ok.units;omega) ((j _ _ u).1 n) ((j _ _ ho).1 n) ((j _ _ hi).1 n) (tf (aJ hc.2)) rfl (uh (aJ hc.1))
 |_=>exact qN h
def fN(ok:Zq T J d X sc N)(z:X.env.blockKind=.function)(Xz:∀x,X.fn x=true):∀m st ZV,Bl T sc N m st=some ZV ->∀n,PS X st (Zw X.K W0 (Jc (Jh (Aa J fu d) n) ZV))
 |0,_,_,h=>by cases h
 |m+1,st,ZV,h=>λn=>by
  have ih:=fN ok z Xz m;have j:=av (fu:=fu) m ok;cases st with
  |Return o p=>cases o with
   |none=>exact qN h
   |some e=>exact qM h λa' ha e=>by subst e;exact aag ((j _ _ ha).1 n)
  |Assign ts e p=>cases ts with
   |nil=>exact qN h
   |cons t r=>
    refine qI h λu h=>?_;cases aA u;exact uj ok z Xz h n
  |Expr e p=>exact qI h λhc h=>qM h λa' ha e=>by subst e;exact aby ((j _ _ ha).1 n) (iq (aJ hc))
  |If c a b p=>exact qB h λF hc h=>qB h λa' ha h=>qM h λb' hb e=>by subst e;exact acO ((j _ _ hc).2.1 n) (bR ih ha n) (bR ih hb n)
  |While c b o p=>
   refine qI h λu h=>qB h λF hc h=>qM h λb' hb e=>?_;subst e;cases aA u;exact aah ok.own (λn=>(j _ _ hc).2.1 n) (λn=>bR ih hb n)
  |For tg it b o p=>
   refine qI h λu h=>qB h λt B h=>qB h λZs hi h=>qM h λb' hb e=>?_;subst e;cases aA u;exact abO ok.own ok.calm ((bJ ok j hi).1 n) (fK ok (λ_=>Xz) B) (λn=>bR ih hb n) (bJ (fu:=fu) ok j hi).2
  |Raise a b p=>cases h;exact PS.ZX λ_ _=>rfl
  |_=>exact qN h
end
open PySem PySem.Spec PyProof.Rows L2 PySem.W
def _root_.L2.ObjOk.QY{o:HO}(x:ObjOk P w H h a o):∃u,h.get? a=some u:=by
 cases o with
 |Z5 xs=>let⟨_,_,_,_,e⟩:=x;exact⟨_,e⟩
 |ZY xs=>let⟨_,_,_,ob,e,_⟩:=x;exact⟨_,e⟩
 |dK Z4=>let⟨_,_,_,_,o,_,_,e,_⟩:=x;exact⟨_,e⟩
 |dT Z4=>let⟨_,_,_,_,o,_,_,e,_⟩:=x;exact⟨_,e⟩
 |set Z6 n=>let⟨o,_,_,_,e,_⟩:=x;exact⟨_,e⟩
 |ins C dx fs=>let⟨_,_,_,e,_⟩:=x;exact⟨_,e⟩
 |own y=>exact x
 |xd fs=>let⟨_,⟨_,_,_,e,_⟩,_⟩:=x;exact⟨_,e⟩
 |YY lo hi=>let⟨_,_,_,e⟩:=x;exact⟨_,e⟩
 |Zn ob u=>let⟨e,_⟩:=x;exact⟨_,e⟩
 |V6 ps=>exact⟨_,(show h.get? a=some _ from x)⟩
 |met f y=>exact⟨_,(show h.get? a=some _ from x)⟩
 |ext b=>let⟨_,e,_⟩:=x;exact e
def _root_.L2.HOk.off(x:HOk P w H h)(e:h.get? a=none):H a=none:=by
 cases q:H a with
 |none=>rfl
 |some o=>let⟨u,z⟩:=(x a o q).QY;rw[e]at z;cases z
def Tr(h:Heap)(e:Addr)(C:Value)(g:Option Addr)(T:Addr)(f:Value):Prop:=
 ∃a b d c,h.get? e=some a/\a.cls=C/\a.dict=g/\a.data=.fields b/\b[1]?=some (.ref T)/\T≠e/\h.get? T=some d/\d.data=.fields c/\c[3]?=some f
structure Yj(fr ch:List Addr)(h h':Heap):Prop where
 keep:∀b o,h.get? b=some o->b ∉ fr->b ∉ ch->h'.get? b=some o
 slot:∀b o,h.get? b=some o->b∈fr ->∃sl,h'.get? b=some {o with slots:=sl}
def Yj.trans{fr:List Addr}{f d c:Heap}(a:Yj fr ch f d)(b:Yj fr ch d c):Yj fr ch f c:=by
 refine⟨λx o e n m=>b.keep x o (a.keep x o e n m) n m,λx o e n=>?_⟩;let⟨j,h⟩:=a.slot x o e n;let⟨i,g⟩:=b.slot x _ h n;exact⟨i,g⟩
def Yj.mono{fr ch c:List Addr}(a:Yj fr ch h h')(s:∀b∈ch,b∈c):Yj fr c h h':=⟨λx o e n m=>a.keep x o e n λz=>m (s x z),a.slot⟩
section
variable{M:Model}{E:Value->Shared->Prop}{Z7 e:Addr}
def j6{o:Obj}{vs:Array Value}{fr:List Addr}{x:Value}(g:h.get? a=some o)(f:o.data=.fields vs)(d:a∈ch)(c:a ∉ fr):Yj fr ch h (h.update a (Obj.mapFields (·.setIfInBounds i x))):=
 ⟨λb u e _ m=>by
  have z:a≠b:=λz=>m (z ▸ d)
  rw [Uv _ _ z];exact e,λb u e n=>⟨u.slots,by
  have z:a≠b:=λz=>c (z ▸ n);rw[Uv _ _ z];exact e⟩⟩
def jF{vs:Array Value}{head:Value}{hn:Bool}{Q:Unit->Shared->Prop}(Xo:A.frames=some (env::outer))(hl:s.heap.FunFrames base (env::outer))(hf:env.frame=some Z7)
  (he:s.heap.get? e=some oe) (hd:oe.data=.fields vs) (hsz:1<vs.size)
  (h:∀h' T,Yj (frs (env::outer)) [e] s.heap h'->s.heap.get? T=none->Tr h' e oe.cls oe.dict T (rawInt Z7)->Q Unit.unit {s with heap:=h'}) :
  wpAny M A (do let a<-frameOf env;let pl<-entryPlaceOf Z7 hn;let b<-EntryCells.newEntry head a .none (rawInt Z7) .none pl;setField (.ref e) 1 b) Q E s:=by
 have RE:e ∉ frs (env::outer):=λhm=>by
  let⟨_,o,ho,Tx⟩:=hl.mem hm;rw[he]at ho;cases ho;exact Tx vs hd
 refine ZB (wpAny_frameOf_fun Xo hl hf λXO SY=>?_);refine ZB (wpAny_entryPlaceOf λpl Zc=>?_);unfold EntryCells.newEntry newFields;refine ZB (RG ?_ (Zc.sizeOk5 _ _ _ _ _));have RB : XO.get? e=some oe:=(SY.2.1 e RE).trans he;generalize hO:({cls:=.type "traceback",dict:=none,data:=.fields ([head,.ref Z7,.none,rawInt Z7,.none]++(if pl.isEmpty then List.replicate 6 Value.none else pl)).toArray}:Obj)=Z9
 have RA:=Ht (h:=XO) Z9 RB;refine Pl RA hd hsz (h _ XO.objs.size ?_ ?_ ?_)
 .refine ⟨λb o q n m=>?_,λb o q n=>?_⟩
  .have W8:b≠e:=λz=>m (by simp[z])
   rw[Uv _ _ (Ne.symm W8)];exact Ht _ ((SY.2.1 b n).trans q)
  .have W8:b≠e:=λz=>RE (z ▸ n)
   let⟨sl,TB⟩:=SY.2.2 b o q;exact⟨sl,by rw[Uv _ _ (Ne.symm W8)];exact Ht _ TB⟩
 .exact Pu (Nat.le_of_eq SY.1.symm)
 .have VP:XO.objs.size≠e:=Od (Hu RB)
  have Rz:=Qb hd (·.setIfInBounds 1 (Value.ref XO.objs.size));refine⟨_,_,Z9,([head,.ref Z7,.none,rawInt Z7,.none]++(if pl.isEmpty then List.replicate 6 Value.none else pl)).toArray,Qi _ RA (Q2 Rz),ON _ _,?_,Rz,by simp[hsz],VP,?_,?_,?_⟩
  .obtain ⟨c1,d1,dd1,s1⟩:=oe
   dsimp only at hd;subst hd
   rfl
  .rw [Uv _ _ (Ne.symm VP)]
   exact HB XO (by rw[<-hO];rfl)
  .rw [<-hO]
  .rcases Zc with rfl|⟨_,_,_,_,_,_,_,rfl⟩<;>simp
def uC{vs:Array Value}{Q:Unit->Shared->Prop}(F:A.frames=some (env::outer))(B:s.heap.FunFrames base (env::outer))(j:env.frame=some Z7)
  (u:s.heap.get? e=some oe) (hd:oe.data=.fields vs) (z:vs[1]?=some .none)
  (h:∀h' T,Yj (frs (env::outer)) [e] s.heap h'->s.heap.get? T=none->Tr h' e oe.cls oe.dict T (rawInt Z7)->Q Unit.unit {s with heap:=h'}):wpAny M A (noteFrame (.ref e) env) Q E s:=by
 unfold noteFrame;simp![j];refine ZB (OB u hd z ?_);rw[YH (by decide)]
 exact jF F B j u hd (Th.mp z).1 h
def kE{C:Value}{T:Addr}{Q:Unit->Shared->Prop}(Xo:A.frames=some (env::outer))(S:s.heap.FunFrames base (env::outer))(Z:env.frame=some Z7)(tr:Tr s.heap e C dx T .none)
  (h:∀h' F,Yj (frs (env::outer)) [e,T] s.heap h'->s.heap.get? F=none->Tr h' e C dx F (rawInt Z7)->Q Unit.unit {s with heap:=h'}):wpAny M A (noteFrame (.ref e) env) Q E s:=by
 let⟨oe,vs,oT,ts,he,rfl,rfl,hd,h1,VP,j,u,h3⟩:=tr;have Wv:T ∉ frs (env::outer):=λhm=>by
  let⟨_,o,ho,R⟩:=S.mem hm;rw[j]at ho;cases ho;exact R ts u
 unfold noteFrame;simp![Z];refine ZB (OB he hd h1 ?_);rw[Y2 (show(Value.ref T != Value.none)=true from by simp)]
 refine ZB (OB j u h3 ?_);rw[YH (show ¬ ((Value.none==rawInt Z7)=true)from by simp[rawInt])]
 refine ZB (Pl j u (Th.mp h3).1 ?_);have K1:Yj (frs (env::outer)) [T] s.heap (s.heap.update T (Obj.mapFields (·.setIfInBounds 3 Value.none))):=j6 j u (by simp) Wv
 have L:(s.heap.update T (Obj.mapFields (·.setIfInBounds 3 Value.none))).get? e=some oe:=by rw[Uv _ _ VP];exact he
 have WI:(s.heap.update T (Obj.mapFields (·.setIfInBounds 3 Value.none))).FunFrames base (env::outer):=S.of_keeps λb o hb R=>by
  have z:T≠b:=λz=>by rw[<-z,j]at hb;cases hb;exact R ts u
  exact⟨o,by rw[Uv _ _ z];exact hb,rfl⟩
 refine jF Xo WI Z L hd (Th.mp h1).1 λh' F K2 B G=>h h' F ((K1.mono (by simp)).trans (K2.mono (by simp))) ?_ G
 have:T≠F:=λz=>by
  rw[<-z]at B;rw[Qi _ j (Q2 (Qb u _))]at B;cases B
 rw[Uv _ _ this]at B;exact B
def df{C fl:Value}{T:Addr}{fr:List Addr}{Q:Unit->Shared->Prop}(Wv:T ∉ fr)(R:Tr s.heap e C dx T fl)
  (h:∀h',Yj fr [T] s.heap h'->Tr h' e C dx T .none->Q Unit.unit {s with heap:=h'}):wpAny M A (setFlight (.ref e) none) Q E s:=by
 let⟨S,L,oT,ts,B,rfl,rfl,hd,F,G,z,u,Z⟩:=R;unfold setFlight;refine ZB (OB B hd F ?_);rw[Y2 (show(Value.ref T != Value.none)=true from by simp)]
 have j:3<ts.size:=(Th.mp Z).1;refine Pl z u j (h _ (j6 z u (by simp) Wv) ?_)
 refine⟨S,L,_,_,?_,rfl,rfl,hd,F,G,Qi _ z (Q2 (Qb u _)),Qb u _,?_⟩
 .rw [Uv _ _ G];exact B
 .simp [j]
def tL{vs:Array Value}{Q:Unit->Shared->Prop}(Z:A.frames=some (env::outer))(u:s.heap.FunFrames base (env::outer))(L:env.frame=some Z7)
  (R:s.heap.get? e=some oe) (hd:oe.data=.fields vs) (B:vs[1]?=some .none)
  (h:∀h' T,Yj (frs (env::outer)) [e,T] s.heap h'->s.heap.get? T=none->Tr h' e oe.cls oe.dict T .none->Q Unit.unit {s with heap:=h'}):wpAny M A (leaving env (.ref e)) Q E s:=by
 unfold leaving;refine ZB (uC Z u L R hd B λB T K1 z F=>?_);have Wv:T ∉ frs (env::outer):=λG=>by
  let⟨_,o,ho,_⟩:=u.mem G;rw[z]at ho;cases ho
 exact df Wv F λS K2 j=>h S T ((K1.mono (by simp)).trans (K2.mono (by simp))) z j
def vB{C:Value}{T:Addr}{Q:Unit->Shared->Prop}(S:A.frames=some (env::outer))(B:s.heap.FunFrames base (env::outer))(L:env.frame=some Z7)(z:Tr s.heap e C dx T .none)
  (h:∀h' j,Yj (frs (env::outer)) [e,T,j] s.heap h'->s.heap.get? j=none->Tr h' e C dx j .none->Q Unit.unit {s with heap:=h'}):wpAny M A (leaving env (.ref e)) Q E s:=by
 unfold leaving;refine ZB (kE S B L z λh1 j K1 F z=>?_);have Z:j ∉ frs (env::outer):=λG=>by
  let⟨_,o,ho,_⟩:=B.mem G;rw[F]at ho;cases ho
 exact df Z z λR K2 u=>h R j ((K1.mono (by simp)).trans (K2.mono (by simp))) F u
end
open PySem PySem.Spec PySem.Calls PyProof.Rows L2 PySem.W PySem.Builtin PySem.Builtin.ObjectAttr
def aQ(a:Value){l:List Value}(h:Du.contains l=true):refuseLoop a "__setattr__" l=pure Unit.unit:=by
 have h:=Qc.mp h;unfold Du at h;simp![Vh,NC,or_false]at h;rcases h with rfl|rfl|rfl|rfl<;>kernel_rfl
def iQ(a:Value):∀{l:List Value},AR l=true->refuseLoop a "__setattr__" l=pure Unit.unit
 |.ref C::r,h=>by rw[refuseLoop_ref];exact iQ a (by simpa[AR]using h)
 |[],h=>aQ a (by simpa[AR]using h)
 |.type T::r,h=>aQ a (by simpa[AR]using h)
 |.none::r,h=>aQ a (by simpa[AR]using h)
 |.bool _::r,h=>aQ a (by simpa[AR]using h)
 |.int _ _::r,h=>aQ a (by simpa[AR]using h)
 |.float _ _::r,h=>aQ a (by simpa[AR]using h)
 |.str _ _::r,h=>aQ a (by simpa[AR]using h)
 |.bytes _ _::r,h=>aQ a (by simpa[AR]using h)
 |.builtin _::r,h=>aQ a (by simpa[AR]using h)
section
variable{E:Value->Shared->Prop}{K:Frag}{x C:Addr}{ox:Obj}{od:Option Obj}{v:Value}
def vh{tk:Tok}{R:Result->Shared->Prop}(X:K.In s.heap)(I:PySem.W.InstAt s.heap x ox C od)(Z:CB K C=true)(S:takerIn K C name=some none)
  (h:∀ b,wpAny (model prog w) A.in1 (storeInOwnDict (.ref x) (.ref C) (.str name tk) name v b)
   (λG z=>match G with|.done f=>R (.ok f) z|.again c'=>c'.quiet=true/\codeAny (model prog w) A c' R z) (λe z=>R (.error e) z) s) :
  codeAny (model prog w) A (.call (.builtin "object.__setattr__") ⟨[.ref x,.str name tk,v],[]⟩) R s:=by
 have u:=PySem.F.store_object;let⟨cd,hc,ho⟩:=any_some Z;simp![Yx,R6]at ho;let⟨⟨h1,h2⟩,L⟩:=ho;have sub:Looks (model prog w) s.heap (isInstance (.ref x) (.type "object")) true:=I.type.andThen (looks_mroIn X (by unfold mroIn;rw[hc,PD,YH (by rw[L];decide),h2]))
 refine P_ u.slot.plain u.entry (@check_slot (model prog w) _ _ s "object.__setattr__" "object" "__setattr__" (.ref x) [.str name tk,v] [] _ u.kind u.split sub (u.args (.ref x) (.str name tk) v) ?_);let⟨j,ha,B⟩:=UA.mp S;have hm:Looks (model prog w) s.heap (mroOf (.ref C)) cd.mro:=(looks_clsIn X hc).andThen .now;have L3:Looks (model prog w) s.heap (storeTaker? j) none:=by
  cases j with
  |none=>exact .now
  |some a=>
   let⟨b,hb,B⟩:=Vu.mp B;refine(looks_takesIn X hb).andThen ?_;cases b with
   |true=>cases B
   |false=>exact .now
 rw[osa_eq,refuse_eq];refine ZB (ZB (I.type.here (ZB (hm.here ?_))));rw[iQ _ h1];refine ZP (ZB (I.type.here (ZB ((NO X ha).here (ZB (L3.here ?_))))));exact h _
def wG{Q:Unit->Shared->Prop}(X:K.In s.heap)(he:s.heap.get? x=some ox)(hc:ox.cls=.ref C)(Tw:ox.dict=none)(Xj:notCls ox=true)(hs:findIn K (.ref C) "__setattr__" = some (some (.builtin "object.__setattr__")))(hp:CB K C=true)(ht:takerIn K C name=some none)(hh:hasDictIn K C=true)
  (h:∀h' dx,s.heap.get? dx=none->h'.get? x=some {ox with dict:=some dx}->h'.Ns1 dx (λy=>if y=name then some v else none)->(∀b o,b≠x->s.heap.get? b=some o->h'.get? b=some o)->Q Unit.unit {s with heap:=h',toks:=s.toks+2}) :
  wpAny (model prog w) A (setAttr (.ref x) name v) Q E s:=by
 have I:PySem.W.InstAt s.heap x ox C none:=⟨he,hc,Xj,by rw[Tw];trivial⟩
 refine set_plain X I hs (vh (s:={s with toks:=s.toks+1}) X I hp ht λb=>?_)
 let⟨cd,Y_,Ys⟩:=any_some hh;let⟨JH,odi,Vg,YM⟩:=ox;dsimp only at hc Tw;subst hc;subst Tw;refine ZB (ZP (ZB ?_));show wpAny _ _ (instanceDict x true) _ _ _;unfold instanceDict;refine ZB (wpAny_loadPart he ?_);dsimp only;refine ZB ((looks_clsIn X Y_).here (s:={s with toks:=s.toks+1}) ?_)
 rw[Ys];have he1:(s.heap.push {cls:=.type "dict",data:=.dict #[]}).get? x=some ⟨.ref C,none,Vg,YM⟩:=Ht _ he;have hxs:x≠s.heap.objs.size:=HA (Hu he);show wpAny _ _ (match Vg with|.cls _=>pure none|_=>_) _ _ _
 have fin:∀{R:Option Addr->Shared->Prop} {E':Value->Shared->Prop},R (some s.heap.objs.size) {s with heap:=(s.heap.push {cls:=.type "dict",data:=.dict #[]}).update x λo=>{cls:=o.cls,dict:=some s.heap.objs.size,data:=o.data,slots:=o.slots},toks:=s.toks+1}->wpAny (model prog w) A.in1 (do
   let d<-PySem.alloc {cls:=.type "dict",data:=.dict #[]}
   update x λo=>{cls:=o.cls,dict:=some d,data:=o.data,slots:=o.slots}
   dictMade (.ref C) x d) R E' {s with toks:=s.toks+1}:=λq=>ZB (wpAny_alloc' (ZB (wpAny_update' he1 (ZP q))))
 have key:∀{Q':Fin->Shared->Prop} {E':Value->Shared->Prop},(∀h',h'.get? x=some ⟨.ref C,some s.heap.objs.size,Vg,YM⟩->h'.Ns1 s.heap.objs.size (λy=>if y=name then some v else none)->(∀b o,b≠x->s.heap.get? b=some o->h'.get? b=some o)->Q' (.done (.ret .none)) {s with heap:=h',toks:=s.toks+2}) ->
   wpAny (model prog w) A.in1 (storeInDict s.heap.objs.size (.str name s.toks) name v) Q' E' {s with heap:=(s.heap.push {cls:=.type "dict",data:=.dict #[]}).update x λo=>{cls:=o.cls,dict:=some s.heap.objs.size,data:=o.data,slots:=o.slots},toks:=s.toks+1}:=λ{Q' E'} q=>by
  generalize Tv:((s.heap.push {cls:=.type "dict",data:=.dict #[]}).update x λo=>{cls:=o.cls,dict:=some s.heap.objs.size,data:=o.data,slots:=o.slots})=h1;have hgd:h1.get? s.heap.objs.size=some {cls:=.type "dict",data:=.dict #[]}:=by
   rw[<-Tv];exact(Heap.get?_update_ne _ _ _ _ hxs.symm).trans (Heap.get?_push_at rfl rfl)
  have hgx:h1.get? x=some ⟨.ref C,some s.heap.objs.size,Vg,YM⟩:=by
   rw[<-Tv];refine Qi _ he1 ?_;have Xo:=(Heap.get?_some_iff.mp he).2;cases Vg<;>first|rfl|exact Xo
  have UG:h1.Ns s.heap.objs.size (λ_=>none):=⟨_,#[],_,hgd,rfl,λe he=>absurd he (by simp),λ_=>rfl⟩
  unfold storeInDict newKeyGuard;refine ZB (ZP (ZB (wpAny_nsSet1 (s:={s with heap:=h1,toks:=s.toks+1}) (Heap.Ns1.of_empty UG) λh' Zp VZ=>?_)))
  let⟨oD,esD,epD,hoD,hdD,Wc⟩:=Zp.count (PySem.Within.cons name v PySem.Within.nil);refine ZB (wpAny_lookBehind hoD (by rw[hdD];exact pastItsLine_dict (Hv Wc (by rw[Uc,Qn,Qh];omega))) ?_)
  refine ZP (q h' ((VZ.2 x hxs).trans hgx) Zp λb o hb e=>?_);refine(VZ.2 b (HA (Hu e))).trans ?_;rw[<-Tv];exact(Heap.get?_update_ne _ _ _ _ hb).trans (Ht _ e)
 cases Vg with
 |cls cd'=>cases Xj
 |_=>exact fin (key λh' a1 a2 a3=>h h' _ (Pu (Hx _)) a1 a2 a3)
end
open PySem PySem.Spec PySem.Calls PyProof.Rows L2 PySem.W
section
variable{E:Value->Shared->Prop}{g:Array GenState}{d:Drawn}{t:Nat}{os:OsState}
variable{nm q:Str}{C N:Addr}{bs:List Value}{hdct:Bool}{sn:List Str}{ab:Bool}{dd:Option Addr}{k0 k1 k2 k3 k5:Option Value}{B Yi:String}
def tj(F:ExcBaseFacts B newId Yi YC)(T:OwnTail h YC bm){mN:Str->Option Value}{j:List Value}{S:Obj}{Q:Fin->Shared->Prop}
  (z:h.get? C=some (excClassObj nm q C N bs bm hdct sn sub ab col dd k0 k1 k2 k3 k5 newId)) (hn:h.Ns N mN) (hi:mN "__init__" = some (.ref fI)) (UB:h.get? fI=some S) (Vf:S.cls=.type "function")
  (hq:∀h' e,Heap.MadeExcOf h h' e (.ref C) j->wpAny (model prog w) A (call (.ref fI) (.ref e::j)) (λr R=>r=.none/\Q (.done (.ret (.ref e))) R) E ⟨h',g,d,t,os⟩) (Tz:j.length<=sizeLine) :
  wpAny (model prog w) A (Builtin.«type.__call__» ⟨.ref C::j,[]⟩) Q E ⟨h,g,d,t,os⟩:=by
 repeat (first|with_reducible refine P6 z ?_|with_reducible refine wpAny_madeBy_exc z ?_|wp_step)
 refine codeAny_call_builtin_code (Oy _ F.quiet) (wpAny_check_new_subT F T z ?_);refine codeAny_exc_new_subT F T z ?_ Tz;show wpAny _ _ _ _ _ _;have u:∀(b:Addr) (o:Obj),h.get? b=some o->((h.push {cls:=.type "tuple",data:=.seq j.toArray}).push {cls:=.ref C,data:=.fields #[.ref h.objs.size,.none,.none,.none,.bool false,.none]}).get? b=some o:=
  λb o e=>Ht _ (Ht _ e)
 have Z:=u _ _ z;have QX:=u _ _ UB;have QW:=hn.keeps u;have G:=T.keeps u;have Rx:((h.push {cls:=.type "tuple",data:=.seq j.toArray}).push {cls:=.ref C,data:=.fields #[.ref h.objs.size,.none,.none,.none,.bool false,.none]}).get? (h.objs.size+1)=some
   {cls:=.ref C,data:=.fields #[.ref h.objs.size,.none,.none,.none,.bool false,.none]}:=by heap_get
 have L:(Value.ref C::bm).contains (.ref C)=true:=by simp
 unfold isInstance
 repeat (first|with_reducible refine P6 Rx ?_|(with_reducible refine wpAny_isSubtype_exc Z ?_;rw[L])|wp_step)
 show wpAny _ _ (typeLookup (.ref C) _) _ _ _;refine wpAny_typeLookup_tail Z QW G F.mroIs F.init.lookup ?_;rw[hi];refine TU (ZB ?_);unfold bindSpecial;refine ZB (NI (T:="function") ⟨_,QX,Vf⟩ ?_);rw[Y2 (by decide)]
 refine ZP (ZB (Qg (hq _ (h.objs.size+1) ⟨u,Pu (Nq _),h.objs.size,Rx,Pu (Hx _),?_⟩) (λr R hr=>?_) λ_ _ x=>x))
 .exact Ht _ (Heap.get?_push_at rfl rfl)
 .obtain ⟨rfl,hQ⟩:=hr
  wp_walk
  exact hQ
def vT(F:ExcBaseFacts B newId Yi YC)(T:OwnTail h YC bm){mN:Str->Option Value}{j:List Value}{z:Obj}{Q:Value->Shared->Prop}
  (u:h.get? C=some (excClassObj nm q C N bs bm hdct sn sub ab col dd k0 k1 k2 k3 k5 newId)) (hn:h.Ns N mN) (hi:mN "__init__" = some (.ref fI)) (Z:h.get? fI=some z) (S:z.cls=.type "function")
  (L:∀h' e,Heap.MadeExcOf h h' e (.ref C) j->wpAny (model prog w) (A.under (.builtin "type.__call__" ⟨.ref C::j,[]⟩)) (call (.ref fI) (.ref e::j)) (λr G=>r=.none/\Q (.ref e) G) E ⟨h',g,d,t,os⟩) (Tz:j.length<=sizeLine) :
  wpAny (model prog w) A (call (.ref C) j) Q E ⟨h,g,d,t,os⟩:=by
 have f1:=tc_lookup;have f2:=tc_bind (.ref C);have hT:(⟨h,g,d,t,os⟩:Shared).TypeIs (.ref C) "type":=⟨_,u,rfl⟩;refine Nc (O5 ?_);show wpAny _ _ (callAny (.ref C) _) _ _ _
 repeat (any_goals (first|assumption|with_reducible refine P6 u ?_|wp_step))
 refine⟨rfl,?_⟩;refine codeAny_call_builtin_at (Oy _ (by decide +kernel)) entry_typeCall (wpAny_check_type_call_sub u (tj F T u hn hi Z S (λh' e R=>?_) Tz))
 exact L h' e R
end
section
variable{M:Model}{E:Value->Shared->Prop}
variable{nm q:Str}{C N:Addr}{bs:List Value}{hdct:Bool}{sn:List Str}{ab:Bool}{dd:Option Addr}{k0 k1 k2 k3 k5:Option Value}
def tY{x:Sem Value}{Q:Flow->Shared->Prop}(L:bm.contains (.type "BaseException")=true)(B:A.handled=none)
  (h:wpAny M A x (λv j => ∃ e t dx,v=.ref e/\j.heap.get? C=some (excClassObj nm q C N bs bm hdct sn sub ab col dd k0 k1 k2 k3 k5 newId) /\
   j.heap.get? e=some {cls:=.ref C,dict:=dx,data:=.fields #[.ref t,.none,.none,.none,.bool false,.none]}/\E (.ref e) j) E s) :
  wpAny M A (raiseStmt env (some x) none) Q E s:=by
 have u:(Value.ref C::bm).contains (.type "BaseException")=true:=by rw[List.contains_cons,L,Bool.or_true]
 unfold raiseStmt;refine ZB (Qg h (λv j R=>?_) λ_ _ x=>x);let⟨e,t,dx,rfl,z,F,G⟩:=R;let⟨hp,g,d,S,Z⟩:=j
 repeat (first|with_reducible refine P6 F ?_|with_reducible refine P6 z ?_|(with_reducible refine wpAny_isSubtype_exc z ?_;rw[u])|wp_step)
 exact wpAny_raiseNew_none B G
end
section
variable{E:Value->Shared->Prop}
variable{nm q:Str}{C N:Addr}{bs:List Value}{hdct:Bool}{sn:List Str}{ab:Bool}{dd:Option Addr}{k0 k1 k2 k3 k5:Option Value}{B Yi:String}
def uD(F:ExcBaseFacts B newId Yi YC){mN:Str->Option Value}{np:Pos}{args:List Expr}{oI:Obj}{Q:Flow->Shared->Prop}
  (Yb:bm.contains (.type "BaseException")=true) (hh:A.handled=none) (SK:(backTo Zr (starEach args env)).any (·.1)=false) (hi:mN "__init__" = some (.ref fI)) (Vf:oI.cls=.type "function")
  (h:wpAny (model prog w) A (eval (.Name x np) env) (λf ZE => f=.ref C/\wpAny (model prog w) A (evalArgs (.ref C) true (backTo Zr (starEach args env)) [])
   (λa j => a.kw=[]/\a.pos.length<=sizeLine/\j.heap.get? C=some (excClassObj nm q C N bs bm hdct sn sub ab col dd k0 k1 k2 k3 k5 newId)/\j.heap.Ns N mN/\OwnTail j.heap YC bm/\j.heap.get? fI=some oI /\
    ∀h' e,Heap.MadeExcOf j.heap h' e (.ref C) a.pos->wpAny (model prog w) (A.under (.builtin "type.__call__" ⟨.ref C::a.pos,[]⟩)) (call (.ref fI) (.ref e::a.pos))
     (λr L=>r=.none/\L.heap.get? C=some (excClassObj nm q C N bs bm hdct sn sub ab col dd k0 k1 k2 k3 k5 newId)/\(∃t Z,L.heap.get? e=some {cls:=.ref C,dict:=Z,data:=.fields #[.ref t,.none,.none,.none,.bool false,.none]})/\E (.ref e) L) E {j with heap:=h'}) E ZE) E s) :
  wpAny (model prog w) A (exec (.Raise (some (.Call (.Name x np) args [] Zr)) none pos) env) Q E s:=by
 rw[arm_exec_Raise];refine ZB (QD (tY (C:=C) (nm:=nm) (q:=q) (N:=N) (bs:=bs) (bm:=bm) (hdct:=hdct) (sn:=sn) (sub:=sub) (ab:=ab) (col:=col) (dd:=dd) (k0:=k0) (k1:=k1) (k2:=k2) (k3:=k3) (k5:=k5) (newId:=newId) Yb hh (ZB (Qg (wpAny_Call_ofName (Qg h (λf ZE XO=>?_) λ_ _ x=>x)) (λv L u=>ZB (QD (ZP u))) λ_ _ x=>x))));let⟨rfl,XO⟩:=XO;unfold callWith;refine ZB (TU (Qg XO (λa j Sk=>ZB (QD ?_)) λ_ _ x=>x));let⟨apos,akw⟩:=a;let⟨R,G,hC,hn,T,UB,Sk⟩:=Sk;obtain rfl:akw=[]:=R;let⟨hp,g,d,tk,os⟩:=j;simp![SK];refine ZB (wpAny_keeperOf_exc hC ?_);refine ZB (vT F T hC hn hi UB Vf (λh' e hm=>?_) G);refine Qg (Sk h' e hm) (λr L ⟨hr,S,⟨t,Z,he⟩,hE⟩=>⟨hr,ZB (TU (wpAny_point (ZP ⟨e,t,Z,rfl,S,he,hE⟩)))⟩) λ_ _ z=>z
end
abbrev Xb(e:Addr)(oe:Obj):HO:=.ext λh=>h.get? e=some oe
def Bk(H:Hp)(e:Addr):Hp:=λa=>if a=e then none else H a
def bz{e:Addr}(h:a≠e):Bk H e a=H a:=by unfold Bk;rw[YH h]
def iN{e:Addr}:Bk H e e=none:=by unfold Bk;rw[Y2 rfl]
section
variable{O:L2.St}{e:Addr}
def aca(I:L2.Z0 X Y O H s)(g:s.heap.get? e=some oe)(t:H e=none)(v:X.ZG.heap.get? e=none)(r:e≠X.env.locals)(l:∀x c,X.env.cells.lookup x=some c->c≠e)(j:∀p∈X.pn++Y,p.1≠e):L2.Z0 X Y O (upd H e (Xb e oe)) s:=by
 have d:∀b u,H b=some u->b≠e:=λb u q z=>by rw[z,t]at q;cases q
 refine⟨I.ok,I.os,I.bare,⟨I.base.keep,I.base.slot,λb o q n i=>?_,I.base.there,λb f q=>?_,λb o u q=>?_,λb h q=>?_⟩,I.loc,I.cell,?_,λx c q=>?_,λp q=>?_,λa o q=>?_,I.len⟩
 .rw [aa (λz=>by rw[z,v]at q;cases q)];exact I.base.free b o q n i
 .have:=I.base.Xx b f q;rw[aa (d b _ this)];exact this
 .have:=I.base.XM b o u q;rw[aa (d b _ this)];exact this
 .obtain ⟨m,this⟩:=I.base.Xw b h q;exact⟨m,by rw[aa (d b _ this)];exact this⟩
 .rw [aa (Ne.symm r)];exact I.free
 .rw [aa (l x c q)];exact I.Yg x c q
 .obtain ⟨C,B,A,y,w⟩:=I.pin p q
  exact⟨C,by rw[aa (j p q)];exact B,A,y,w⟩
 .by_cases z:a=e
  .subst z
   rw[upd_same]at q;cases q;exact⟨g,⟨oe,g⟩,λE D p k=>k _ p⟩
  .rw [aa z]at q
   exact(I.ZK a o q).Yt (λ_ _ _ k=>k) (λb k=>by rw[aa (d b _ k)];exact k) λb f k=>by rw[aa (d b _ k)];exact k
def ye{h:Heap->Prop}(I:L2.Z0 X Y O H s)(l:H e=some (.ext h)):L2.Z0 X Y O (Bk H e) s:=by
 have sub:∀b,H b=none->Bk H e b=none:=λb q=>by
  unfold Bk;split
  .rfl
  .exact q
 have f:∀b u,H b=some u->(∀d,u ≠ .ext d)->b≠e:=λb u q k z=>by rw[z,l]at q;cases q;exact k _ rfl
 refine⟨I.ok,I.os,I.bare,⟨I.base.keep,I.base.slot,λb o q n j=>sub b (I.base.free b o q n j),I.base.there,λb g q=>?_,λb o u q=>?_,λb i q=>?_⟩,I.loc,I.cell,sub _ I.free,λx c q=>sub _ (I.Yg x c q),λp q=>?_,λa o q=>?_,I.len⟩
 .have:=I.base.Xx b g q;rw[bz (f b _ this (by intro d z;cases z))];exact this
 .have:=I.base.XM b o u q;rw[bz (f b _ this (by intro d z;cases z))];exact this
 .obtain ⟨m,this⟩:=I.base.Xw b i q;exact⟨m,by rw[bz (f b _ this (by intro d z;cases z))];exact this⟩
 .obtain ⟨y,w,v,t,r⟩:=I.pin p q
  exact⟨y,sub _ w,v,t,r⟩
 .have z:a≠e:=λz=>by rw[z,iN]at q;cases q
  rw[bz z]at q;exact(I.ZK a o q).Yt (λ_ _ _ k=>k) (λb k=>by rw[bz (f b _ k (by intro d z;cases z))];exact k) λb g k=>by rw[bz (f b _ k (by intro d z;cases z))];exact k
end
structure SX(K:Frag)(C:Addr)(f:Str):Prop where
 sa:findIn K (.ref C) "__setattr__" = some (some (.builtin "object.__setattr__"))
 ov:CB K C=true
 tk:takerIn K C f=some none
 hd:hasDictIn K C=true
section
def GR(C:Addr)(f:Str)(i j:Nat):TS:=λD O H=>∃e a v,O[i]?=some (some (.ref e))/\O[j]?=some (some v)/\H e=some (Xb e a)/\a.cls=.ref C/\a.dict=none/\notCls a=true /\
 ∀b,H b=none->D.nx O (upd (upd H b (.xd [(f,v)])) e (Xb e {a with dict:=some b}))
def zC{G p f:Str}{p1 p3:Pos}{C:Addr}(F:SX X.K C f)(hi:PE X (.Name G p1) (DE i))(hj:PE X (.Name p p2) (DE j)):PS X (.Assign [.Attribute (.Name G p1) f p3] (.Name p p2) pos) (GR C f i j):=by
 intro Y s O H D I ⟨e,oe,v,ei,ej,B,hc,Tw,Xj,q⟩;refine plainObj_wpAny_Assign_Attribute (thn (hj Y s O H (λy H1=>y=v/\H1=H) I ⟨v,ej,rfl,rfl⟩) λu s1 ⟨y,H1,I1,ry,e1,e2⟩=>thn (hi Y s1 O H1 (λy H2=>y=.ref e/\H2=H) (by rw[e2]at I1 ⊢;exact I1) ⟨_,ei,rfl,e2⟩) λov s2 ⟨x,H2,S,rx,e3,e4⟩=>?_) (by rfl)
 subst e1;subst e2;subst e3;subst e4;obtain rfl:ov=Value.ref e:=rx;let⟨he,_,_⟩:=(show ObjOk X.prog X.w _ s2.heap e (Xb e oe)from S.ZK e _ B);refine wG S.Yy he hc Tw Xj F.sa F.ov F.tk F.hd λh' dx Z hx US hk=>?_;have R:=S.ZK.off Z;have Ve:dx≠e:=λz=>by rw[z,he]at Z;cases Z
 refine⟨O,_,S.un (h':=h') (t':=s2.toks+2) ⟨λb o q n _ _=>?_,λb o q n _ _=>?_,λb o q n _=>?_,λb o q _=>?_,λb xs q=>?_,λb o u q=>?_,λb ps q=>?_⟩ ?_,q dx R⟩
 .exact hk b o (λz=>by rw[z,B]at n;cases n) q
 .exact ⟨o.slots,hk b o (λz=>by rw[z,B]at n;cases n) q⟩
 .rw [aa (λz=>by rw[z,B]at n;cases n),aa (λz=>by rw[z,Z]at q;cases q)];exact n
 .by_cases z:b=e
  .subst z;exact⟨_,hx⟩
  .exact ⟨o,hk b o z q⟩
 .rw [aa (λz=>by rw[z,B]at q;cases q),aa (λz=>by rw[z,R]at q;cases q)];exact q
 .rw [aa (λz=>by rw[z,B]at q;cases q),aa (λz=>by rw[z,R]at q;cases q)];exact q
 .exact ⟨#[],by rw[aa (λz=>by rw[z,B]at q;cases q),aa (λz=>by rw[z,R]at q;cases q),q];simp⟩
 .intro a o L
  by_cases z:a=e
  .subst z
   rw[upd_same]at L;cases L;exact⟨hx,⟨_,hx⟩,λh1 h2 p k=>k _ p⟩
  .rw [aa z]at L
   by_cases z2:a=dx
   .subst z2
    rw[upd_same]at L;cases L;refine⟨_,US,λf'=>?_⟩;by_cases hf:f'=f
    .subst hf;simp[List.lookup];exact ry
    .have hf':(f'==f)=false:=by simpa using hf
     simp[List.lookup,hf',hf];trivial
   .rw [aa z2]at L
    refine(S.ZK a o L).Yt (λb u hb k=>hk b u (λzz=>?_) k) (λb k=>?_) λb xs k=>?_
    .rcases hb with rfl|hb
     .exact z zz
     .rw [zz,B]at hb;cases hb
    .rw [aa (λz=>by rw[z,B]at k;cases k),aa (λz=>by rw[z,R]at k;cases k)];exact k
    .rw [aa (λz=>by rw[z,B]at k;cases k),aa (λz=>by rw[z,R]at k;cases k)];exact k
end
def Gq(C:Addr)(f:Str):Sp:=λc H Q _=>∃e a v,c=[.ref e,v]/\H e=some (Xb e a)/\a.cls=.ref C/\a.dict=none/\notCls a=true /\∀b,H b=none->Q .ZJ (upd (upd H b (.xd [(f,v)])) e (Xb e {a with dict:=some b}))
structure SW(K:Frag)(C fI:Addr)(f:Str):Prop where
 ex:∃(JH:Value) (od:Option Addr) (name qual self p:Str) (params:Arguments) (scope:Scope) (dV H8 doc pm Zj ct:Value) (an:Option Addr) (YM:Array (Option Value)) (p1 p2 p3 pos:Pos),
  K.lookup fI=some ⟨JH,od,.func (fnOf name qual params [.Assign [.Attribute (.Name self p1) f p3] (.Name p p2) pos] scope dV H8 doc pm an Zj ct),YM⟩/\JH=.type "function" /\ codeIn K Zj qual=true/\Ul [self,p] [self,p] scope /\
  Binds K (fnOf name qual params [.Assign [.Attribute (.Name self p1) f p3] (.Name p p2) pos] scope dV H8 doc pm an Zj ct) [self,p] []/\AU self=true/\AU p=true
def y6{K:Frag}{C:Addr}{f:Str}{k:Nat}(F:SX K C f)(N:SW K C fI f):
  ∃fd ps,Binds K fd ps []/\X2 P w K mg base V3 (k+1) fI fd ps (Gq C f) /\∃R,K.lookup fI=some R/\R.cls=.type "function":=by
 let⟨JH,od,name,qual,B,p,G,scope,dV,H8,doc,pm,Zj,ct,an,YM,p1,p2,p3,pos,lk,L,Y_,Z6,hb,n1,Z⟩:=N.ex;let⟨m1,m2,_⟩:=aF n1;let⟨m3,m4,_⟩:=aF Z;refine⟨_,_,hb,gX lk Y_ Z6 (λS H Q E ⟨e,oe,v,q,_⟩=>by rw[q];rfl) λA outer s H S Q E hr ⟨e,oe,v,q,hH,hc,hd,Xj,hq⟩=>?_,_,lk,L⟩
 subst q;have u:∀y∈[B,p],Vis scope y:=λy hy=>by
  rcases Z6.par y hy with z|z
  .exact .inl z
  .exact .inr (.inl z)
 refine⟨_,dA (zC (C:=C) (i:=0) (j:=1) F (bS rfl (u _ (by simp)) m1 m2) (bS rfl (u _ (by simp)) m3 m4)) cJ,?_⟩
 exact⟨e,oe,v,rfl,rfl,hH,hc,hd,Xj,λdx YX=>hq dx YX⟩
section
def vg{f:Str}{C:Addr}{B Yi:String}{a:Expr}{np:Pos}{t:TA}{k:Nat}{W:Addr->V->Hp->Prop}
  (Z9:∃bm N nm q bs hdct sn sub ab col dd k0 k1 k2 k3 k5 mN,X.base.get? C=some (excClassObj nm q C N bs bm hdct sn sub ab col dd k0 k1 k2 k3 k5 newId)/\X.base.Ns N mN/\mN "__init__" = some (.ref fI)/\OwnTail X.base YC bm) (hm:X.mg x=some (.ref C))
  (FB:ExcBaseFacts B newId Yi YC) (F:SX X.K C f) (N:SW X.K C fI f) (hr:Y9 (k+2) X.A) (hex:X.ex=[]) (Zz:X.stack=X.env::X.outer) (hc:X.calm=true) (hg:Gl X x) (ha:PA X [a] t)
  (hx:∀Y O H s e oe j v,L2.Z0 X Y O H s->s.heap.get? e=some oe->oe.cls=.ref C->oe.dict=some j->(∃vs,oe.data=.fields vs/\vs[1]?=some .none)->H e=none->X.ZG.heap.get? e=none->H j=some (.xd [(f,v)])->W j v H->X.xe (.ref e) s)
  (hd:(x==("__debug__" : Str))=false) (he:starEach [a] X.env=(false,eval a X.env)::starEach [] X.env) :
  PS X (.Raise (some (.Call (.Name x np) [a] [] Zr)) none pos) (λ_ O H=>t O H λvs H1=>∃v,vs=[v] /\∀e j,H1 e=none->H1 j=none->j≠e->W j v (upd H1 j (.xd [(f,v)]))):=by
 intro Y s O H D I h;let⟨bm,N',nm,q,bs,hdct,sn,sub,ab,col,dd,k0,k1,k2,k3,k5,mN,hC,hN,hi,T⟩:=Z9;let⟨fd,ps,hb,FO,oI,hoI,Vf⟩:=y6 (P:=X.prog) (w:=X.w) (mg:=X.mg) (base:=X.base) (k:=k) F N;refine uD (C:=C) (nm:=nm) (q:=q) (N:=N') (bs:=bs) (bm:=bm) (hdct:=hdct) (sn:=sn) (sub:=sub) (ab:=ab) (col:=col) (dd:=dd) (k0:=k0) (k1:=k1) (k2:=k2) (k3:=k3) (k5:=k5)
  FB (mN:=mN) (T.hasType FB.hasBase) (I.ok.hd hc) (by rw[he];rfl) hi Vf (bN I hg hm ⟨rfl,?_⟩ hd)
 have Wk:=ha Zr Y s O H _ I h;rw[he]at Wk ⊢;refine OZ (Qg Wk (λS s2 ⟨vs,H2,G,r,v,ev,q⟩=>⟨rfl,?_,G.bk _ _ hC,hN.keeps G.bk,T.keeps G.bk,G.Yy _ _ hoI,λh' e UQ=>?_⟩) λ_ _ y=>y)
 .subst ev
  have:=r.length;simp at this;show S.length<=sizeLine;rw[<-this];decide
 .subst ev
  let⟨R,he3,_,_⟩:=UQ.there;have nw:=UQ.new;have I3:L2.Z0 X Y O H2 {s2 with heap:=h'}:=G.kept (t':=s2.toks) UQ.keeps
  have old:X.ZG.heap.get? e=none:=by
   cases q:X.ZG.heap.get? e with
   |none=>rfl
   |some o=>let⟨o',z⟩:=G.base.there e o q (by rw[hex];simp);rw[nw]at z;cases z
  have L:=G.ZK.off nw;have hL:e≠X.env.locals:=λz=>by let⟨m,⟨o,_,_,ho,_⟩,_⟩:=G.loc;rw[<-z,nw]at ho;cases ho
  have I4:=aca I3 he3 L old hL (λy c ec z=>by let⟨v,o,ho,_⟩:=G.cell y c ec;rw[z,nw]at ho;cases ho) λp hp z=>by let⟨e1,_⟩:=G.pin p hp;rw[z,nw]at e1;cases e1
  have r2:ZH [V.ref e,v] (Value.ref e::S):=.cons rfl r;have hl:((Value.ref e::S)++[]).length=ps.length:=by
   have e1:=FO.len [V.ref e,v] (upd H2 e (Xb e {cls:=.ref C,data:=.fields #[.ref R,.none,.none,.none,.bool false,.none]})) (λ_ _=>True) E0 ⟨e,_,v,rfl,upd_same,rfl,rfl,rfl,λ_ _=>trivial⟩;rw[Qe,<-r2.length];exact e1
  refine Nc (PF (FO.run (X.A.under (.builtin "type.__call__" ⟨.ref C::S,[]⟩)) X.stack _ _ ⟨Value.ref e::S,[]⟩ (Value.ref e::S) [V.ref e,v]
   (λr H3=>r=.ZJ /\∃j,j≠e/\H2 j=none/\H3=upd (upd (upd H2 e (Xb e {cls:=.ref C,data:=.fields #[.ref R,.none,.none,.none,.bool false,.none]})) j (.xd [(f,v)])) e (Xb e {cls:=.ref C,dict:=some j,data:=.fields #[.ref R,.none,.none,.none,.bool false,.none]})) E0 (hr.make C S []) (I4.R3.make C S []) (by have:=hb _ (Value.ref e::S) I4.Yy hl;rw[Qe]at this;exact this) r2
   ⟨e,_,v,rfl,upd_same,rfl,rfl,rfl,λj Z=>?_⟩) λrr s' hq=>?_)
  .have Ve:j≠e:=λz=>by rw[z,upd_same]at Z;cases Z
   rw[aa Ve]at Z;exact⟨rfl,j,Ve,Z,rfl⟩
  .cases rr with
   |error z=>exact False.elim hq
   |ok fl=>
    cases fl with
    |ret u=>
     let⟨v',H',I5,rv,ev,j,Ve,Z,eH⟩:=I4.after hq;subst ev;subst eH;let⟨ho,_,_⟩:=(show ObjOk X.prog X.w _ s'.heap e (Xb e _)from I5.ZK e _ upd_same);have I6:=ye I5 (e:=e) upd_same;have eqH:Bk (upd (upd (upd H2 e (Xb e {cls:=.ref C,data:=.fields #[.ref R,.none,.none,.none,.bool false,.none]})) j (.xd [(f,v)])) e (Xb e {cls:=.ref C,dict:=some j,data:=.fields #[.ref R,.none,.none,.none,.bool false,.none]})) e=upd H2 j (.xd [(f,v)]):=by
      funext b;by_cases z:b=e
      .subst z;rw[iN,aa (Ne.symm Ve)];exact L.symm
      .rw [bz z,aa z]
       by_cases z2:b=j
       .subst z2;rw[upd_same,upd_same]
       .rw [aa z2,aa z2,aa z]
     rw[eqH]at I6;exact⟨rv,I5.bk _ _ hC,⟨R,some j,ho⟩,hx Y O _ s' e _ j v I6 ho rfl rfl ⟨_,rfl,rfl⟩ (by rw[aa (Ne.symm Ve)];exact L) old upd_same (q e j L Z Ve)⟩
    |next=>exact False.elim hq
    |brk=>exact False.elim hq
    |cont=>exact False.elim hq
end
open PySem PySem.Spec PyProof.Rows L2
structure Fly(P:Program)(w:World)(outer:List Env)(H0:Hp)(s0:Shared)(e:Addr)(C:Value)(dx:Option Addr)(H:Hp)(s:Shared):Prop where
 os:s.os=s0.os
 bare:AllBare s.gens
 un:Un (frs outer) [] H0 H s0.heap s.heap
 ZK:HOk P w H s.heap
 free:H e=none
 new:s0.heap.get? e=none
 tr:∃T,Tr s.heap e C dx T .none/\H T=none/\s0.heap.get? T=none
def CX1(P:Program)(w:World):Xs:=λa H s E e f=>∃b C c d,e=.ref b/\Fly P w a H s b C c d f/\E C c d
section
variable{O:L2.St}
def kg{ch:List Addr}(I:L2.Z0 X Y O H s)(hex:X.ex=[])(k:Yj (frs X.stack) ch s.heap h')(R:∀b∈ch,X.ZG.heap.get? b=none):Un (frs X.outer) [] X.WM H X.ZG.heap h':=by
 have S:∀b,b∈frs X.stack->b=X.env.locals\/b∈frs X.outer:=λb hb=>Vh.mp (I.VJ b hb);have old:∀b o,X.ZG.heap.get? b=some o->b≠X.env.locals:=λb o e z=>by
  have h1:=Hu e;have h2:=I.ok.above;rw[z]at h1;exact absurd (Hz h1 h2) (Pa _)
 have B:=I.base;rw[hex]at B;have j:∀b:Addr,b ∉ ([]:List Addr):=λb z=>absurd z (by simp)
 have F:∀b o,X.ZG.heap.get? b=some o->b ∉ ch:=λb o e z=>by rw[R b z]at e;cases e
 have step:∀b o,s.heap.get? b=some o->b ∉ ch ->∃G,h'.get? b=some {o with slots:=G}:=λb o e hc=>by
  by_cases hb:b∈frs X.stack
  .exact k.slot b o e hb
  .exact ⟨o.slots,k.keep b o e hb hc⟩
 refine⟨λb o e n hb _=>?_,λb o e n hb _=>?_,λb o e n _=>B.free b o e n (j b),λb o e _=>?_,B.Xx,B.XM,B.Xw⟩
 .refine k.keep b o (B.keep b o e n hb (j b)) (λz=>?_) (F b o e)
  rcases S b z with z|z
  .exact old b o e z
  .exact hb z
 .obtain ⟨G,q⟩:=B.slot b o e n hb (j b)
  let⟨L,u⟩:=step b _ q (F b o e);exact⟨L,u⟩
 .obtain ⟨o',q⟩:=B.there b o e (j b)
  let⟨L,u⟩:=step b _ q (F b o e);exact⟨_,u⟩
def jM{ch:List Addr}(I:L2.Z0 X Y O H s)(k:Yj (frs X.stack) ch s.heap h')(g:∀b∈ch,H b=none):HOk X.prog X.w H h':=λa o e=>by
 have d:∀b u,H b=some u->b ∉ ch:=λb u q z=>by rw[g b z]at q;cases q
 have f:∀b u,H b=some u->b ∉ frs X.stack:=λb u q z=>by rw[I.Te b z]at q;cases q
 refine(I.ZK a o e).Yt (λb u c q=>?_) (λ_ q=>q) λ_ _ q=>q;rcases c with rfl|c
 .exact k.keep b u q (f b _ e) (d b _ e)
 .exact k.keep b u q (f b _ c) (d b _ c)
def gh(I:L2.Z0 X Y O H s)(j:X.stack=X.env::X.outer):X.env.frame=some X.env.locals:=by
 rcases I.ok.WL with z|⟨_,z⟩
 .rw [j]at z;exact absurd (QU List.length z) (by simp)
 .exact z
def leave_new{e:Addr}{vs:Array Value}{B:XK}(I:L2.Z0 X Y O H s)(hex:X.ex=[])(j:X.stack=X.env::X.outer)(Z:s.heap.get? e=some oe)(hd:oe.data=.fields vs)(h1:vs[1]?=some .none)(G:H e=none)(L:X.ZG.heap.get? e=none)(q:B oe.cls oe.dict H):
  wpAny (model X.prog X.w) X.A (leaving X.env (.ref e)) (λ_ u=>CX1 X.prog X.w X.outer X.WM X.ZG B (.ref e) u) (λe' u=>CX1 X.prog X.w X.outer X.WM X.ZG B e' u) s:=by
 have hf:=gh I j;have FF:s.heap.FunFrames X.base (X.env::X.outer):=by rw[<-j];exact I.stack
 refine tL (by rw[I.ok.frames,j]) FF hf Z hd h1 λh' T K F S=>?_
 rw[<-j]at K;have old:X.ZG.heap.get? T=none:=by
  cases q:X.ZG.heap.get? T with
  |none=>rfl
  |some o=>let⟨o',z⟩:=I.base.there T o q (by rw[hex];simp);rw[F]at z;cases z
 have R:=I.ZK.off F;refine⟨e,oe.cls,oe.dict,H,rfl,⟨I.os,I.bare,kg I hex K λb hb=>?_,jM I K λb hb=>?_,G,L,T,S,R,old⟩,q⟩
 .have:b=e\/b=T:=by simpa using hb
  rcases this with rfl|rfl
  .exact L
  .exact old
 .have:b=e\/b=T:=by simpa using hb
  rcases this with rfl|rfl
  .exact G
  .exact R
end
section
def w5{C:Addr}{B Yi:String}{SV : Expr}{np:Pos}{t:TA}{W:Hp->Prop}(L:OwnCls x C bm newId X.mg X.base)(Z:ExcBaseFacts B newId Yi bm)(hc:X.calm=true)(hg:Gl X x)(ha:PA X (SV::es) t)
  (hx:∀Y O H s G e args,L2.Z0 X Y O H s->Heap.MadeExcOf s.heap G e (.ref C) args->W H->X.xe (.ref e) {s with heap:=G})
  (hd:(x==("__debug__" : Str))=false) (F:starEach (SV::es) X.env=(false,eval SV X.env)::starEach es X.env) (Zc:(backTo Zr (starEach es X.env)).any (·.1)=false) :
  PS X (.Raise (some (.Call (.Name x np) (SV::es) [] Zr)) none pos) (λ_ O H=>t O H λvs H1=>vs.length<=sizeLine/\W H1):=by
 intro Y s O H D I h;let⟨tl,N,nm,q,bs,hdct,sn,sub,ab,col,dd,k0,k1,k2,k3,k5,mN,hC,hN,u,T⟩:=L.obj;refine wpAny_Raise_call_subT (C:=C) (nm:=nm) (q:=q) (N:=N) (bs:=bs) (bm:=tl) (hdct:=hdct) (sn:=sn) (sub:=sub) (ab:=ab) (col:=col) (dd:=dd) (k0:=k0) (k1:=k1) (k2:=k2) (k3:=k3) (k5:=k5)
  Z (mN:=mN) (T.hasType Z.hasBase) (I.ok.hd hc) (by rw[F];show(false||(backTo Zr (starEach es X.env)).any (·.1))=false;rw[Zc];rfl) u (bN I hg L.bound ⟨rfl,?_⟩ hd)
 have R:=ha Zr Y s O H _ I h;rw[F]at R ⊢;exact OZ (Qg R (λS s2 ⟨vs,H2,j,r,z,q⟩=>⟨rfl,by show S.length<=sizeLine;rw[<-r.length];exact z,j.bk _ _ hC,hN.keeps j.bk,T.keeps j.bk,λh' e hm=>hx Y O H2 s2 h' e S j hm q⟩) λ_ _ y=>y)
end
section
variable{O:L2.St}
def uF{ch:List Addr}(I:L2.Z0 X Y O H s)(hex:X.ex=[])(keep:∀b o,s.heap.get? b=some o->b ∉ frs X.stack->b ∉ ch->h'.get? b=some o)
  (slot:∀b o,s.heap.get? b=some o->b∈frs X.stack ->∃F,h'.get? b=some {o with slots:=F}) (hL:X.env.locals∈frs X.stack)
  (G:∀b∈ch,X.ZG.heap.get? b=none/\H b=none/\b ∉ frs X.stack/\(∀x c,X.env.cells.lookup x=some c->c≠b) /\∀p∈X.pn++Y,p.1≠b):L2.Z0 X Y O H {s with heap:=h'}:=by
 have WC:∀b,b∈frs X.stack->b=X.env.locals\/b∈frs X.outer:=λb hb=>Vh.mp (I.VJ b hb);have old:∀b o,X.ZG.heap.get? b=some o->b≠X.env.locals:=λb o e z=>by
  have h1:=Hu e;have h2:=I.ok.above;rw[z]at h1;exact absurd (Hz h1 h2) (Pa _)
 have B:=I.base;rw[hex]at B;have L:∀b:Addr,b ∉ ([]:List Addr):=λb z=>absurd z (by simp)
 have any:∀b o,s.heap.get? b=some o->b ∉ ch ->∃F,h'.get? b=some {o with slots:=F}:=λb o e hc=>by
  by_cases hb:b∈frs X.stack
  .exact slot b o e hb
  .exact ⟨o.slots,keep b o e hb hc⟩
 have S:∀b o,X.ZG.heap.get? b=some o->b ∉ ch:=λb o e z=>by rw[(G b z).1]at e;cases e
 have j:∀x c,X.env.cells.lookup x=some c ->∀v,s.heap.IsCell c v->h'.IsCell c v:=λx c e v ⟨o,ho,hd⟩=>by
  let⟨F,q⟩:=any c o ho λz=>(G c z).2.2.2.1 x c e rfl;exact⟨_,q,hd⟩
 refine⟨I.ok,I.os,I.bare,?_,?_,λx c e=>?_,I.free,I.Yg,λp hp=>?_,λa o e=>?_,I.len⟩
 .rw [hex]
  refine⟨λb o e n hb _=>?_,λb o e n hb _=>?_,λb o e n _=>B.free b o e n (L b),λb o e _=>?_,B.Xx,B.XM,B.Xw⟩
  .refine keep b o (B.keep b o e n hb (L b)) (λz=>?_) (S b o e)
   rcases WC b z with z|z
   .exact old b o e z
   .exact hb z
  .obtain ⟨F,q⟩:=B.slot b o e n hb (L b)
   let⟨W5,R⟩:=any b _ q (S b o e);exact⟨W5,R⟩
  .obtain ⟨o',q⟩:=B.there b o e (L b)
   let⟨W5,R⟩:=any b _ q (S b o e);exact⟨_,R⟩
 .obtain ⟨m,⟨o,es,ep,ho,r⟩,hl⟩:=I.loc
  let⟨F,q⟩:=slot _ o ho hL;refine⟨m,⟨_,es,ep,q,r⟩,λi x v e1 e2 e3=>?_⟩;let⟨u,ru,l⟩:=hl i x v e1 e2 e3;refine⟨u,ru,?_⟩;rcases l with l|⟨k,c,e,z⟩
  .exact .inl l
  .exact .inr ⟨k,c,e,j x c e _ z⟩
 .obtain ⟨v,z⟩:=I.cell x c e
  exact⟨v,j x c e v z⟩
 .obtain ⟨e,n,ne,Z,d⟩:=I.pin p hp
  exact⟨keep p.1 p.2 e (λz=>(WC _ z).elim ne Z) λz=>(G _ z).2.2.2.2 p hp rfl,n,ne,Z,d⟩
 .have Rw:∀b u,H b=some u->b ∉ ch:=λb u q z=>by rw[(G b z).2.1]at q;cases q
  have Vd:∀b u,H b=some u->b ∉ frs X.stack:=λb u q z=>by rw[I.Te b z]at q;cases q
  refine(I.ZK a o e).Yt (λb u hb q=>?_) (λ_ q=>q) λ_ _ q=>q;rcases hb with rfl|hb
  .exact keep b u q (Vd b _ e) (Rw b _ e)
  .exact keep b u q (Vd b _ hb) (Rw b _ hb)
abbrev Bh(X:Cx)(Y:List (Addr×Obj))(ea:Addr)(oe:Obj):Cx:={X with A:=X.A.mark (some (.ref ea)),calm:=false,pn:=X.pn++Y++[(ea,oe)],xe:=λ_ _=>False}
def jf{a:Addr}(I:L2.Z0 X Y O H s)(e:s.heap.get? a=some oe)(c:H a=none)(g:a≠X.env.locals)(d:a ∉ X.fs)(f:∀v,oe.data ≠ .cell v):L2.Z0 (Bh X Y a oe) [] O H s:=
 ⟨⟨I.ok.mod,I.ok.kind,I.ok.glob,I.ok.blt,I.ok.above,I.ok.inj,I.ok.has,I.ok.Uu,(λz=>by cases z),I.ok.frames,I.ok.WL,I.ok.exf,I.ok.bs,I.ok.W7,I.ok.Zd,I.ok.U0,I.ok.XJ,I.ok.Wt⟩,I.os,I.bare,I.base,I.loc,I.cell,I.free,I.Yg,λp b=>by
  rw[Qe]at b;rcases Vj.mp b with z|z
  .exact I.pin p z
  .have:p=(a,oe):=by simpa using z
   subst this;exact⟨e,c,g,d,f⟩,I.ZK,I.len⟩
def dk{d:Addr}{b:L2.St}(I:L2.Z0 X Y O H s)(a:L2.Z0 (Bh X Y d oe) [] b H' s'):L2.Z0 X Y b H' s':=
 ⟨I.ok,a.os,a.bare,a.base,a.loc,a.cell,a.free,a.Yg,λp c=>a.pin p (by rw[Qe];exact Qf _ c),a.ZK,a.len⟩
def dz{M:Model}{E:Value->Shared->Prop}{n:Str}{Q:Unit->Shared->Prop}(I:L2.Z0 X Y O H s)(hN:X.N.Nodup)(hi:X.N[i]?=some n)(hk:X.env.scope.names.lookup n=some .local)
  (h:∀s',L2.Z0 X Y (O.set i none) H s'->Q Unit.unit s'):wpAny M A (do bindName X.env n .none;unbindBehindTheSuite X.env n pos) Q E s:=by
 let⟨m,hn,hl⟩:=id I.loc;have Wr:(X.env.scope.kind==.class||(X.env.scope.kind==.module&&X.env.locals != X.env.globals))=false:=by rw[I.ok.kind];rfl
 have W6:=I.W6;have UZ:∀b o,X.ZG.heap.get? b=some o->b≠X.env.locals:=λb o e=>HA (Hz (Hu e) I.ok.above);refine wpAny_nameGoes_keeps hk hn Wr λh' v Zp hs=>h _ ?_;refine⟨I.ok,I.os,I.bare,⟨λb o e n hb hx=>?_,λb o e n hb hx=>?_,I.base.free,λb o e hx=>?_,I.base.Xx,I.base.XM,I.base.Xw⟩,⟨_,Zp,λj y v' e1 e2 e3=>?_⟩,λy c e=>?_,I.free,I.Yg,λp hp=>?_,λb ob e=>?_,by simpa using I.len⟩
 .exact (hs.2 b (UZ b o e)).trans (I.base.keep b o e n hb hx)
 .obtain ⟨sl,e1⟩:=I.base.slot b o e n hb hx
  exact⟨sl,(hs.2 b (UZ b o e)).trans e1⟩
 .obtain ⟨o',e1⟩:=I.base.there b o e hx
  exact⟨o',(hs.2 b (UZ b o e)).trans e1⟩
 .have hj:j≠i:=λz=>by
   subst z;have hl:j<O.length:=by have:=(YE.mp e2).1;simpa using this
   rw[S3 hl]at e2;cases e2
  rw[UE (Ne.symm hj)]at e2;let⟨u',r',q⟩:=hl j y v' e1 e2 e3;refine⟨u',r',?_⟩;rcases q with⟨k,e⟩|⟨k,c,e,z⟩
  .refine .inl ⟨k,?_⟩
   have:y≠n:=λe=>hj (fX hN e1 (e ▸ hi));simp[this,e]
  .exact .inr ⟨k,c,e,z.sameBut hs (W6 y c e)⟩
 .obtain ⟨w',z⟩:=I.cell y c e
  exact⟨w',z.sameBut hs (W6 y c e)⟩
 .obtain ⟨e,n,ne,nf,d⟩:=I.pin p hp
  exact⟨(hs.2 p.1 ne).trans e,n,ne,nf,d⟩
 .refine (I.ZK b ob e).Yt (λc w' hc q=>(hs.2 c ?_).trans q) (λ_ q=>q) λ_ _ q=>q
  rintro rfl;rcases hc with rfl|hc
  .rw [I.free]at e;cases e
  .rw [I.free]at hc;cases hc
end
section
variable{O:L2.St}
def C3(base:Heap)(C:Addr):Prop:=∃bm N nm q bs hdct sn sub ab col dd k0 k1 k2 k3 k5 newId,base.get? C=some (excClassObj nm q C N bs bm hdct sn sub ab col dd k0 k1 k2 k3 k5 newId)/\bm.contains (.type "BaseException")=true
def aab{n:Str}{C ea:Addr}{Tt : Stmt}{Ts:List Stmt}{np:Pos}{ZS:List ExceptHandler}{Q:Flow->Shared->Prop}{E:Value->Shared->Prop}
  (I:L2.Z0 X Y O H s) (hex:X.ex=[]) (Zz:X.stack=X.env::X.outer) (F:Fly X.prog X.w X.stack H s ea (.ref C) dx H' s') (Z9:C3 X.base C) (hm:X.mg x=some (.ref C)) (hg:Gl X x)
  (hN:X.N.Nodup) (hi:X.N[i]?=some n) (hk:X.env.scope.names.lookup n=some .local) (hd:(x==("__debug__" : Str))=false)
  (k:∀ oe s4,oe.cls=.ref C->oe.dict=dx->(∃ vs,oe.data=.fields vs)->L2.Z0 (Bh X Y ea oe) [] (O.set i (some (.ref ea))) H' s4 ->
   wpAny (model X.prog X.w) (X.A.mark (some (.ref ea))) (execs (Tt::Ts) X.env) (λf s5=>wpAny (model X.prog X.w) X.A (do bindName X.env n .none;unbindBehindTheSuite X.env n pos) (λ_ s6=>Q f s6) E s5) (λ_ _=>False) s4) :
  wpAny (model X.prog X.w) X.A (noteFrame (.ref ea) X.env) (λ_ s2=>wpAny (model X.prog X.w) X.A (setFlight (.ref ea) none) (λ_ s3 =>
   wpAny (model X.prog X.w) X.A (handleBy (.ref ea) X.env (.ExceptHandler (some (.Name x np)) (some n) (Tt::Ts) pos::ZS)) Q E s3) E s2) E s':=by
 have hf:=gh I Zz;have fin:X.env.locals∈frs X.stack:=by rw[Zz];unfold frs;rw[Qt,hf];exact HD
 have I1:L2.Z0 X Y O H' s':=I.SO F.os F.un F.ZK F.bare (λb z=>absurd z (by simp))
 let⟨T,tr,hHT,hsT⟩:=F.tr;have FF:s'.heap.FunFrames X.base (X.env::X.outer):=by rw[<-Zz];exact I1.stack
 have old:∀b,s.heap.get? b=none->X.ZG.heap.get? b=none:=λb e=>by
  cases q:X.ZG.heap.get? b with
  |none=>rfl
  |some o=>let⟨o',z⟩:=I.base.there b o q (by rw[hex];simp);rw[e]at z;cases z
 have Vd:∀(b:Addr) (o:Obj) (ws:Array Value),s'.heap.get? b=some o->o.data=.fields ws->b ∉ frs X.stack:=λb o ws e d z=>by
  let⟨_,o',e1,e2⟩:=I1.stack.mem z;rw[e]at e1;cases e1;exact e2 ws d
 have one:∀b o ws,s'.heap.get? b=some o->o.data=.fields ws->s.heap.get? b=none->H' b=none->X.ZG.heap.get? b=none/\H' b=none/\b ∉ frs X.stack/\(∀x c,X.env.cells.lookup x=some c->c≠b) /\∀p∈X.pn++Y,p.1≠b:=λb o ws e d z hz=>by
  refine⟨old b z,hz,Vd b o ws e d,λy c ec q=>?_,λp hp q=>?_⟩
  .obtain ⟨v,o',e1,e2⟩:=I.cell y c ec
   rw[q,z]at e1;cases e1
  .obtain ⟨e1,_⟩:=I.pin p hp
   rw[q,z]at e1;cases e1
 have two:∀b,s'.heap.get? b=none->X.ZG.heap.get? b=none/\H' b=none/\b ∉ frs X.stack/\(∀x c,X.env.cells.lookup x=some c->c≠b) /\∀p∈X.pn++Y,p.1≠b:=λb z=>by
  refine⟨?_,I1.ZK.off z,λq=>?_,λy c ec q=>?_,λp hp q=>?_⟩
  .cases q:X.ZG.heap.get? b with
   |none=>rfl
   |some o=>let⟨o',z'⟩:=I1.base.there b o q (by rw[hex];simp);rw[z]at z';cases z'
  .obtain ⟨_,o',e1,_⟩:=I1.stack.mem q;rw[z]at e1;cases e1
  .obtain ⟨v,o',e1,e2⟩:=I1.cell y c ec
   rw[q,z]at e1;cases e1
  .obtain ⟨e1,_⟩:=I1.pin p hp
   rw[q,z]at e1;cases e1
 have tr0:=tr;let⟨oe,vs,oT,ts,he,_,_,hd0,_,VP,hT,Xm,_⟩:=tr0;refine kE (by rw[I.ok.frames,Zz]) FF hf tr λh4 T' K4 Xf tr4=>?_
 rw[<-Zz]at K4;have YV:∀b∈[ea,T,T'],X.ZG.heap.get? b=none/\H' b=none/\b ∉ frs X.stack/\(∀x c,X.env.cells.lookup x=some c->c≠b) /\∀p∈X.pn++Y,p.1≠b:=λb hb=>by
  have hb:b=ea\/b=T\/b=T':=by simpa using hb
  rcases hb with rfl|rfl|rfl
  .exact one _ oe vs he hd0 F.new F.free
  .exact one _ oT ts hT Xm hsT hHT
  .exact two _ Xf
 have Wv:T' ∉ frs X.stack:=(YV T' (by simp)).2.2.1
 refine df (fr:=frs X.stack) Wv tr4 λh5 K5 tr5=>?_;have K45:Yj (frs X.stack) [ea,T,T'] s'.heap h5:=(K4.mono (by simp)).trans (K5.mono (by simp))
 have back:∀h5,Yj (frs X.stack) [ea,T,T'] s'.heap h5->L2.Z0 X Y O H' {s' with heap:=h5}:=λh5 K=>uF (ch:=[ea,T,T']) I1 hex K.keep K.slot fin YV
 have I5:=back h5 K45;have ne:ea≠X.env.locals/\ea ∉ X.fs:=by
  have z:=(YV ea (by simp)).2.2.1
  refine⟨λq=>z (q ▸ fin),λq=>z ?_⟩;rw[Zz];unfold frs;rw[Qt,hf];exact Hy _ q
 let⟨oe5,vs5,_,_,he5,hc5,_,hd5,_⟩:=id tr5;have S5:=jf (oe:=oe5) I5 he5 F.free ne.1 ne.2 (λv q=>by rw[hd5]at q;cases q)
 let⟨bm,N,nm,q,bs,hdct,sn,sub,ab,col,dd,k0,k1,k2,k3,k5,newId,hC,Yb⟩:=Z9;refine wpAny_handleBy_cons (codeAny_handlers_test (bN S5 hg hm ?_ hd)) (by intro q;cases q)
 refine wpAny_excMatches_sub_self (I5.bk _ _ hC) he5 hc5 Yb (codeAny_handlers_suite_as ?_);refine df (fr:=frs X.stack) Wv tr5 λh6 K6 tr6=>?_;have I6:=back h6 (K45.trans (K6.mono (by simp)))
 let⟨oe6,vs6,_,_,he6,hc6,hdx6,hd6,_⟩:=id tr6;have S6:=jf (oe:=oe6) I6 he6 F.free ne.1 ne.2 (λv q=>by rw[hd6]at q;cases q)
 refine fO (X:=Bh X Y ea oe6) (v:=.ref ea) S6 hN hi (.inl hk) rfl (λs7 I7=>?_) (.inr hk);exact Qg (k oe6 s7 hc6 hdx6 ⟨_,hd6⟩ I7) (λ_ _ q=>q) λ_ _ z=>z.elim
end
section
abbrev Bn(X:Cx)(pn:List (Addr×Obj))(E':Value->Shared->Prop):Cx:={X with pn:=pn,xe:=E'}
def yt{O:L2.St}(I:L2.Z0 X Y O H s):L2.Z0 (Bn X (X.pn++Y) E') [] O H s:=
 ⟨⟨I.ok.mod,I.ok.kind,I.ok.glob,I.ok.blt,I.ok.above,I.ok.inj,I.ok.has,I.ok.Uu,I.ok.hd,I.ok.frames,I.ok.WL,I.ok.exf,I.ok.bs,I.ok.W7,I.ok.Zd,I.ok.U0,I.ok.XJ,I.ok.Wt⟩,I.os,I.bare,I.base,I.loc,I.cell,I.free,I.Yg,λp a=>I.pin p (by rw[Qe]at a;exact a),I.ZK,I.len⟩
def cF{d:List (Addr×Obj)}{O:L2.St}(b:X.Ok)(a:L2.Z0 (Bn X (X.pn++Y) E') d O H s):L2.Z0 X Y O H s:=
 ⟨b,a.os,a.bare,a.base,a.loc,a.cell,a.free,a.Yg,λp c=>a.pin p (Qf _ c),a.ZK,a.len⟩
def Dm(i:Nat)(D:Ends):Ends:={nx:=λO H=>D.nx (O.set i none) H,rt:=D.rt,bk:=λO H=>D.bk (O.set i none) H,ct:=λO H=>D.ct (O.set i none) H}
def G5(C:Addr)(i n:Nat)(tb:XK->TS)(ts:Addr->Option Addr->TS):TS:=λD O H=>
 tb (λB z u=>B=.ref C /\∀(ea:Addr) (j:L2.St),u ea=none->j.length=n->ts ea z (Dm i D) (j.set i (some (.ref ea))) u) D O H
def abd{n:Str}{C:Addr}{Tt : Stmt}{y:List Stmt}{G Z:Pos}{tb:XK->TS}{p:Addr->Option Addr->TS}
  (hex:X.ex=[]) (Q:X.stack=X.env::X.outer) (T:C3 X.base C) (K:X.mg x=some (.ref C)) (L:Gl X x)
  (k:X.N.Nodup) (hi:X.N[i]?=some n) (j:X.env.scope.names.lookup n=some .local) (M:(x==("__debug__" : Str))=false)
  (P:∀(A:XK) (pn:List (Addr×Obj)) (B:Value->Shared->Prop),A2 (CX1 X.prog X.w) (Bn X pn B) A->PSs (Bn X pn B) body (tb A))
  (J:∀(l:Addr) (m:Option Addr) (oe:Obj) (Y:List (Addr×Obj)),oe.cls=.ref C->oe.dict=m->(∃vs,oe.data=.fields vs)->PSs (Bh X Y l oe) (Tt::y) (p l m)) :
  PS X (.Try body [.ExceptHandler (some (.Name x G)) (some n) (Tt::y) Z] [] [] pos) (G5 C i X.N.length tb p):=by
 intro Y s O H D I h;rw[arm_exec_Try];refine ZB (QD (wpAny_tryStmt_except ?_));refine Qg (P _ (X.pn++Y) _ ?_ [] s O H D (yt I) h) (λf t q=>?_) (λe t q=>q)
 .rintro X3 S H' X1 e s' U ⟨l,C',m,H2,rfl,F,rfl,q⟩
  have g:=cF I.ok U;refine aab g hex Q F T K L k hi j M λoe E W V R J4=>?_;refine Qg (J l m oe Y W V R [] E _ H2 (Dm i D) J4 (q l S F.free g.len)) (λf s5 z=>?_) λ_ _ z=>z;cases f with
  |next=>let⟨b,c,a,z⟩:=z;exact dz (dk g a) k hi j λo d=>⟨_,_,d,z⟩
  |brk=>let⟨b,c,a,z⟩:=z;exact dz (dk g a) k hi j λo d=>⟨_,_,d,z⟩
  |cont=>let⟨b,c,a,z⟩:=z;exact dz (dk g a) k hi j λo d=>⟨_,_,d,z⟩
  |ret u=>let⟨v,b,c,a,r,z⟩:=z;exact dz (dk g a) k hi j λo d=>⟨v,_,_,d,r,z⟩
 .cases f with
  |next=>let⟨b,c,a,z⟩:=q;exact cJ Y t b c D (cF I.ok a) z
  |brk=>let⟨b,c,a,z⟩:=q;exact⟨b,c,cF I.ok a,z⟩
  |cont=>let⟨b,c,a,z⟩:=q;exact⟨b,c,cF I.ok a,z⟩
  |ret u=>let⟨v,b,c,a,r,z⟩:=q;exact⟨v,b,c,cF I.ok a,r,z⟩
end
open PySem PySem.Spec PySem.Calls PyProof.Rows L2 PySem.W PySem.Builtin PySem.Builtin.ObjectAttr PySem.Builtin.Getset_descriptor
section
variable{E:Value->Shared->Prop}{x C:Addr}{ox:Obj}{odo:Option Obj}
def abk{g:Array GenState}{d:Drawn}{t:Nat}{b:OsState}{M:Model}{c:Value}{Q:Unit->Shared->Prop}(X:K.In h)(i:Looks M h (typeOf (.ref x)) (.ref C))(a:mroIn K C (.type "BaseException")=some true)(j:Q Unit.unit ⟨h,g,d,t,b⟩):wpAny M A (checkBuiltinCall "BaseException.__getattribute__" ⟨[.ref x,c],[]⟩) Q E ⟨h,g,d,t,b⟩:=by
 have hk:builtinKind "BaseException.__getattribute__" = some .slot:=by decide +kernel
 have e:splitId "BaseException.__getattribute__" = some ("BaseException","__getattribute__"):=by decide +kernel
 have ha:=F.args_bexc_ga (.ref x) c;have f:=looks_mroIn (M:=M) X a;have LI:Looks M h (isInstance (.ref x) (.type "BaseException")) true:=i.andThen f;simp![checkBuiltinCall,hk,e];refine ZB (LI.at ?_)
 repeat (any_goals (first|assumption|wp_step))
def lY{g:Array GenState}{d:Drawn}{t:Nat}{R:OsState}{tk:Tok}{G j:Bool}{u:Builtin.ObjectAttr.Found}{Q:Value->Shared->Prop}(X:K.In h)(L0:Looks (model prog w) h (typeOf (.ref x)) (.ref C))(Z:findIn K (.ref C) "__getattribute__" = some (some (.builtin "BaseException.__getattribute__")))
  (hk:findIn K (.ref C) "__getattr__" = some none) (S:mroIn K C (.type "BaseException")=some true) (LF:Looks (model prog w) h (Builtin.ObjectAttr.find (.ref x) (.ref C) name) u)
  (L:∀(A':Around) (E':Value->Shared->Prop),match u with|.value v=>wpAny (model prog w) A (handedOut v) Q E ⟨h,g,d,t,R⟩|.bind gg a=>wpAny (model prog w) A' (Builtin.ObjectAttr.bindTo gg a (.ref x) (.ref C)) (λB s'=>match B with|.done (.ret v)=>wpAny (model prog w) A (handedOut v) Q E s'|_=>False) E' ⟨h,g,d,t,R⟩|.missing=>False) :
  wpAny (model prog w) A (getAttrBy (.ref x) (.str name tk) G j) Q E ⟨h,g,d,t,R⟩:=by
 have L1:=NO (M:=model prog w) X Z;have L2:=NO (M:=model prog w) X hk;have f3:=F.excAttr_ValueError.ga.bind (.ref x);have WT:(j&&onTheHeap (Value.builtin "BaseException.__getattribute__"))=false:=by cases j<;>rfl
 have Uz:(Value.builtin "BaseException.__getattribute__" == Value.builtin "object.__getattribute__")=false:=by decide +kernel
 unfold getAttrBy;refine TU (ZB (L0.at (ZB (L1.at ?_))));simp![Uz,Bool.and_false,Wi,UP];unfold getAttrByItsOwn hookBefore;refine ZB ?_;show wpAny _ _ (typeLookup (.ref C) "__getattr__") _ _ _;refine L2.at ?_;refine ZB (PU (TU ?_));unfold callGetattribute;simp![WT,Wi,UP];unfold boundAndCalled;rw[f3];refine ZB (ZP ?_);refine Nc (P_ F.excAttr_ValueError.ga.plain F.entry_bexc_ga (abk X L0 S ?_));unfold Builtin.«object.__getattribute__»
 repeat (any_goals (first|assumption|lk|wp_step))
 have hq':=L;cases u with
 |value v=>exact ZP (L A E)
 |bind gg a=>
  refine Qg (L A.in1 (λ_ _=>False)) (λB s' z=>?_) λ_ _ z=>z.elim;rcases B with(_|_|_|_)|_<;>first|exact z|exact z.elim
 |missing=>exact(L A E).elim
def uX{M:Model}{a g:Value}(X:K.In h)(d:findIn K (.ref C) name=some (some a))(c:specialIn K a "__get__" = some (some g))(b:takesIn K a=some true):
  Looks M h (Builtin.ObjectAttr.find (.ref x) (.ref C) name) (.bind g a):=by
 have f:=NO (M:=M) X d;have L2:Looks M h (Builtin.ObjectAttr.getOf (some a)) (some g):=looks_specialIn X c;have e:=looks_takesIn (M:=M) X b;refine f.andThen (L2.andThen ?_);exact(show Looks M h (Builtin.ObjectAttr.dataDescriptor? (some a) (some g)) (some (g,a))from e.andThen .now).andThen (Looks.tag .now)
def uI{j:Value}{R:Result->Shared->Prop}(X:K.In s.heap)(hx:s.heap.get? x=some ox)(hc:ox.cls=.ref C)(u:mroIn K C (.type "object")=some true)
  (h:R (.ok (.ret (.ref C))) s):codeAny (model prog w) A (.call (.builtin "getset_descriptor.__get__") ⟨[.builtin "object.__class__",.ref x,j],[]⟩) R s:=by
 let⟨z,g,F,t,B⟩:=s;have L:Looks (model prog w) z (typeOf (.ref x)) (.ref C):=hc ▸ (Looks.ld hx).andThen .now;have G:=looks_mroIn (M:=model prog w) X u;refine P_ KF.slot_gs.plain KF.entry_gs (KF.slot_gs.check _ _ _ _ _ _ _ _ KF.type_class (KF.args_gs _ _ _) ?_);unfold Builtin.«getset_descriptor.__get__» descrGet;rw[dga_obj];refine ZB (ZP ?_);unfold descrGetter descrCheckInstance descrNameAndClass isInstance;simp![KF.owner_class]
 repeat lk
 refine⟨Oy _ (by decide +kernel),Ou KF.entry_class ?_⟩
 unfold Builtin.«object.__class__» shownTypeOf
 repeat lk
 exact h
structure Vc(K:HF)(C:Addr):Prop where
 ga:findIn K (.ref C) "__getattribute__" = some (some (.builtin "BaseException.__getattribute__"))
 gt:findIn K (.ref C) "__getattr__" = some none
 mb:mroIn K C (.type "BaseException")=some true
 cl:findIn K (.ref C) "__class__" = some (some (.builtin "object.__class__"))
 gn:specialIn K (.builtin "object.__class__") "__get__" = some (some (.builtin "getset_descriptor.__get__"))
 tk:takesIn K (.builtin "object.__class__")=some true
 mo:mroIn K C (.type "object")=some true
 cs:(clsIn K C).isSome=true
def aa6{Q:Option Value->Shared->Prop}(F:Vc K C)(X:K.In s.heap)(hx:s.heap.get? x=some ox)(hc:ox.cls=.ref C)
  (h:Q (some (.ref C)) {s with toks:=s.toks+1}):wpAny (model prog w) A (getAttr? (.ref x) "__class__") Q E s:=by
 let⟨j,g,d,t,z⟩:=s;have u:Looks (model prog w) j (typeOf (.ref x)) (.ref C):=hc ▸ (Looks.ld hx).andThen .now;unfold getAttr? getAttrBy?;refine ZB (wpAny_mkText (ZB (PU (lY X u F.ga F.gt F.mb (uX X F.cl F.gn F.tk) λG B=>?_))));show wpAny _ _ (Builtin.ObjectAttr.bindTo _ _ _ _) _ _ _;unfold Builtin.ObjectAttr.bindTo;show wpAny _ _ (holding [.builtin "object.__class__"] (call (.builtin "getset_descriptor.__get__") [.builtin "object.__class__",.ref x,.ref C]) >>= ret) _ _ _;refine ZB (TU (Nc (uI X hx hc F.mo ?_)));exact ZP (handed_on rfl (ZP h))
def jD(F:Vc K C):KitX K (.ref x) (.ref C) (λh=>∃f,h.get? x=some f/\f.cls=.ref C) where
 ty:=λ_ _ _ ⟨_,hx,hc⟩=>hc ▸ (Looks.ld hx).andThen .now
 it:=λ_ _ X _=>by
  let⟨c,a⟩:=Qs.mp F.cs;unfold clsIn at a;split at a
  .rename_i j i d l ho
   intro t r s o k q;unfold isType loadHead;exact ZB (wpAny_loadPart (k _ _ (X _ _ ho)) (ZP q))
  .cases a
 ne:=λh g dd p n m X b=>by
  let⟨c,a⟩:=Qs.mp F.cs;refine Bool.eq_false_iff.mpr λq=>?_;have e:C=g:=Value.ref.inj (Sm.mp q);subst e;unfold clsIn at a;split at a
  .rename_i j i d l ho
   have z:=(X _ _ ho).symm.trans b;cases z
  .cases a
 ca:=λX q k=>q.elim λ_ h=>aa6 F X h.1 h.2 k
end
open PySem PySem.Spec PyProof.Rows L2 PySem.W
structure Gr(H H':Hp):Prop where
 Tq:∀K ρ,ZI K ρ H ρ H'
 rh:∀K ρ g,RH K ρ H g->RH K ρ H' g
def Gr.refl{H:Hp}:Gr H H:=⟨λ_ _=>.refl,λ_ _ _ h=>h⟩
def Gr.trans{H e d:Hp}(a:Gr H e)(b:Gr e d):Gr H d:=⟨λK c=>(a.Tq K c).trans (b.Tq K c),λK c g h=>b.rh K c g (a.rh K c g h)⟩
def Gr.fresh{H:Hp}{t:Addr}{o:HO}(h:H t=none):Gr H (upd H t o):=⟨λ_ _=>.fresh h,λ_ _ _ k=>k.step_fresh h⟩
def Gr.at(g:Gr H H'){o:HO}(h:H a=some o):H' a=some o:=(g.Tq [] []).X4 a o h (by simp)
def XMk(K:HF)(mg:Str->Option Value)(base:Heap)(x:Str)(C:Addr):Option Str->Prop
 |none=>∃bm newId B j,OwnCls x C bm newId mg base/\ExcBaseFacts B newId j bm
 |some f=>∃u z newId B j,(∃bm N nm q bs hdct sn sub ab col dd k0 k1 k2 k3 k5 mN,base.get? C=some (excClassObj nm q C N bs bm hdct sn sub ab col dd k0 k1 k2 k3 k5 newId)/\base.Ns N mN/\mN "__init__" = some (.ref u)/\OwnTail base z bm) /\
   ExcBaseFacts B newId j z/\SX K C f/\SW K C u f/\findIn K (.ref C) f=some none
structure XC(K:HF)(mg:Str->Option Value)(base:Heap)(x:Str)(fo:Option Str)(as:List (Str×Bool))(C:Addr):Prop where
 bound:mg x=some (.ref C)
 cls:C3 base C
 made:XMk K mg base x C fo
 kit:Vc K C
 ans:∀y b,as.lookup y=some b ->∃c v,RelV v c/\(∀u,RelV v u->u=c)/\((bootBuiltins y=some c/\mg y=none/\y ≠ "__name__")\/mg y=some c)/\(y==("__debug__" : Str))=false/\kitOne K (.ref C) c=some b
abbrev XF:=Option (Addr×Str×V)
def XFok(H:Hp):XF->Prop
 |none=>True
 |some (dx,f,v)=>H dx=some (.xd [(f,v)])
def XFok.gr{xf:XF}(g:Gr H H')(h:XFok H xf):XFok H' xf:=by
 cases xf with
 |none=>trivial
 |some p=>exact g.at h
def Jl(i:Nat)(ea:Addr)(xf:XF)(v:V):TE:=λO H Q=>O[i]?=some (some (.ref ea))/\XFok H xf /\∀j,Gr H j->Q v j
def Jm(i:Nat)(ea:Addr)(xf:XF)(vs:List V):TA:=λO H Q=>O[i]?=some (some (.ref ea))/\XFok H xf /\∀j,Gr H j->Q vs j
def lP{q:Expr×Expr}(h:DQ es=some q):es=[q.1,q.2]:=by
 cases es with
 |nil=>exact qN h
 |cons y es=>cases es with
  |nil=>exact qN h
  |cons z es=>cases es with
   |nil=>cases h;rfl
   |cons _ _=>exact qN h
def yN{q:Expr×Expr}(h:FC e=some q):∃c p,e = .Tuple [q.1,q.2] c p:=by
 cases e with
 |Tuple ts c p=>exact⟨c,p,by rw[lP h]⟩
 |_=>exact qN h
def XR(K:HF)(xf:XF):Option U->V->Prop
 |some u,w=>∀a H,RV K a H u w
 |none,w=>∃b f,xf=some (b,f,w)
def XRs(K:HF)(xf:XF):List (Option U)->List V->Prop
 |[],vs=>vs=[]
 |x::xs,vs=>∃v r,vs=v::r/\XR K xf x v/\XRs K xf xs r
section
variable{n:Str}{C ea:Addr}{bt:List Str}{xf:XF}
def aaO{c:Value}{b:Bool}(F:Vc X.K C)(i:(ea,oe)∈X.pn)(j:oe.cls=.ref C)(h:∀u,RelV v u->u=c)(k:kitOne X.K (.ref C) c=some b):CallR X (.builtin "isinstance") (λxs H Q=>xs=[.ref ea,v]/\Q (.bl b) H):=by
 intro Y s O H xs S Q I a ⟨e,q⟩;subst e;cases a with
 |cons g a=>
  cases a with
  |cons f a=>
   cases a;cases g;cases h _ f;exact kia_one (jD F) I.Yy ⟨oe,(I.pin _ (Qf _ i)).1,j⟩ k (λz=>nomatch z) λd=>⟨.bl b,H,I.tok d,rfl,q⟩
def abg{c i:Value}{f:V}{a b:Bool}(F:Vc X.K C)(A:(ea,oe)∈X.pn)(B:oe.cls=.ref C)(x:∀u,RelV v u->u=c)(E:∀u,RelV f u->u=i)(k:kitOne X.K (.ref C) c=some a)(k2:kitOne X.K (.ref C) i=some b):
  CallR X (.builtin "isinstance") (λxs H Q=>∃t,xs=[.ref ea,.ref t]/\H t=some (.ZY [v,f])/\Q (.bl (a||b)) H):=by
 intro Y s O H xs S Q I d ⟨t,e,y,q⟩;subst e;cases d with
 |cons n d=>
  cases d with
  |cons l d=>
   cases d;cases n;cases l;let⟨_,J,r,o,D,h,m,g⟩:=I.ZK t _ y;cases r with
   |cons w r=>
    cases r with
    |cons p r=>
     cases r;cases x _ w;cases E _ p;let⟨JH,G,M,L⟩:=o;dsimp only at h g;subst h;subst g;refine kia_tup (jD F) I.Yy ⟨oe,(I.pin _ (Qf _ A)).1,B⟩ D (b:=a||b) ?_ (λz=>nomatch z) λj=>⟨.bl (a||b),H,I.tok j,rfl,q⟩;simp![kitAny,k,k2];cases a<;>cases b<;>rfl
def gC{y:Str}{c:Value}(d:Gl X y)(r:RelV v c)(h:(bootBuiltins y=some c/\X.mg y=none/\y ≠ "__name__")\/X.mg y=some c)(e:(y==("__debug__" : Str))=false):PE X (.Name y pos) (Ia v):=by
 rcases h with⟨a,b,c⟩|h
 .exact lJ d b a r c e
 .exact lh d h r e
def yk{f:Str}{B:Addr}{p1:Pos}(F:Vc X.K C)(hf:findIn X.K (.ref C) f=some none)(hh:hasDictIn X.K C=true)(hp:(ea,oe)∈X.pn)(hc:oe.cls=.ref C)(YX:oe.dict=some B)(R:∃vs,oe.data=.fields vs)(hN:X.N[i]?=some n)(hv:Vis X.env.scope n)(hd:(n==("__debug__" : Str))=false)(Y_:(n==("__classdict__" : Str))=false):
  PE X (.Attribute (.Name n p1) f pos) (Jl i ea (some (B,f,v)) v):=by
 intro Y s O H Q I ⟨q1,q2,q3⟩;refine zu (by rfl) (thn (bS hN hv hd Y_ Y s O H (λy G=>y=.ref ea/\G=H) I ⟨_,q1,rfl,rfl⟩) ?_);rintro u s1 ⟨y,G,z,ry,e1,e2⟩
 subst e1;subst e2;obtain rfl:u=Value.ref ea:=ry;let⟨mA,ns,L⟩:=(show ObjOk X.prog X.w _ s1.heap B (.xd [(f,v)])from z.ZK B _ q2);let⟨S,Vx,hl⟩:=vk ns;have j:=L f;simp![List.lookup,OW]at j;cases hm:mA f with
 |none=>rw[hm]at j;exact j.elim
 |some u'=>
  rw[hm]at j;have Z:PySem.W.InstAt s1.heap ea oe C (some S):=⟨(z.pin _ (Qf _ hp)).1,hc,by let⟨vs,R⟩:=R;unfold notCls;rw[R],by rw[YX];exact Vx⟩
  have Vb:findObj X.K C (some S) f=some (.value u'):=findObj_own hh hf rfl (by rw[hl,hm])
  let⟨hp1,g1,d1,t1,o1⟩:=s1;unfold getAttr;refine ZB (wpAny_mkText (lY z.Yy Z.type F.ga F.gt F.mb (looks_find z.Yy Z Vb) λA' E'=>?_));exact handed_on (vA j) ⟨v,G,z.tok _,j,q3 G .refl⟩
def wq(F:XC X.K X.mg X.base x fo as C)(hp:(ea,oe)∈X.pn)(hc:oe.cls=.ref C)(hxf:∀f,fo=some f ->∃Z v,oe.dict=some Z/\xf=some (Z,f,v))(Zf:∃vs,oe.data=.fields vs)(YA:X.env.scope=sc)(Xp:∀y∈bt,X.mg y=none)(hN:X.N[i]?=some n)(hv:Vis X.env.scope n)(hd:(n==("__debug__" : Str))=false)(Y_:(n==("__classdict__" : Str))=false){u:Option U}(h:Ca bt sc n fo as e=some u):
  isStar e=false /\∃v,XR X.K xf u v/\PE X e (Jl i ea xf v):=by
 have gl:∀y,glob sc y=true->Gl X y:=λy hy=>by
  show X.env.scope.names.lookup y=_;rw[YA];exact Sm.mp hy
 cases e with
 |Constant c k p=>cases c with
  |str s=>cases h;exact⟨rfl,_,λ_ _=>rfl,l4.imp λO H Q ⟨_,_,q⟩=>q H .refl⟩
  |_=>exact qN h
 |Attribute o f p=>
  refine qB h λn' hn h=>qI h λR j=>?_;let⟨p1,rfl⟩:=aE hn;simp![Yx,Vw]at R;let⟨rfl,Vb⟩:=R;cases j;let⟨Z,v,YX,rfl⟩:=hxf _ Vb;have M:=F.made;rw[Vb]at M;let⟨fI,YC,newId,B,Yi,_,_,XS,_,hfi⟩:=M;exact⟨rfl,v,⟨Z,_,rfl⟩,yk F.kit hfi XS.hd hp hc YX Zf hN hv hd Y_⟩
 |Call f es ks p=>cases ks with
  |cons _ _=>exact qN h
  |nil=>
   refine qB h λf' hf h=>qB h λq hq h=>qB h λn' hn h=>qI h λR j=>?_;let⟨S,L⟩:=q;let⟨pf,rfl⟩:=aE hf;cases lP hq;let⟨pn,rfl⟩:=aE hn;simp![Yx,Vw]at R;let⟨⟨⟨rfl,rfl⟩,c3⟩,c4⟩:=R;unfold HQ at j;cases hb:HH L with
   |some y=>
    rw[hb]at j;let⟨py,rfl⟩:=aE hb;refine qI j λc5 h=>qM h λb G e=>?_;subst e;let⟨c,v,r,hu,b2,b4,b5⟩:=F.ans _ _ G;refine⟨rfl,_,λ_ _=>rfl,(pe_callB (aaO F.kit hp hc hu b5) (gl _ c4) (Xp _ (Qc.mp c3)) (by rfl) (aw (bS hN hv hd Y_) (aw (gC (gl _ c5) r b2 b4) aN rfl) rfl)).imp λO H Q ⟨S,_,L⟩=>?_⟩
    exact⟨_,S,rfl,L H .refl⟩
   |none=>
    rw[hb]at j;refine qB j λw hw h=>qB h λy hy h=>qB h λz hz h=>qI h λhg h=>qB h λa G h=>qM h λb ea2 e=>?_;subst e;let⟨w1,w2⟩:=w;let⟨_,_,rfl⟩:=yN hw;let⟨_,rfl⟩:=aE hy;let⟨_,rfl⟩:=aE hz;rw[Yx]at hg;let⟨c,v,r,hu,b2,b4,b5⟩:=F.ans _ _ G;let⟨c',v',r',YS,JP,d4,d5⟩:=F.ans _ _ ea2;refine⟨rfl,_,λ_ _=>rfl,(pe_callB (abg F.kit hp hc hu YS b5 d5) (gl _ c4) (Xp _ (Qc.mp c3)) (by rfl) (aw (bS hN hv hd Y_) (aw (gR (aw (gC (gl _ hg.1) r b2 b4) (aw (gC (gl _ hg.2) r' JP d4) aN rfl) rfl)) aN rfl) rfl)).imp λO H Q ⟨S,_,L⟩=>?_⟩
    exact⟨_,S,by show 2<=sizeLine;decide,λt ht=>⟨t,rfl,upd_same,L _ (.fresh ht)⟩⟩
 |_=>exact qN h
def iO(F:XC X.K X.mg X.base x fo as C)(R:(ea,oe)∈X.pn)(hc:oe.cls=.ref C)(j:∀f,fo=some f ->∃dx v,oe.dict=some dx/\xf=some (dx,f,v))(Zf:∃vs,oe.data=.fields vs)(YA:X.env.scope=sc)(Xp:∀y∈bt,X.mg y=none)(Z:X.N[i]?=some n)(L:Vis X.env.scope n)(hd:(n==("__debug__" : Str))=false)(Y_:(n==("__classdict__" : Str))=false):∀{es:List Expr} {S:List (Option U)},Ac (es.map (Ca bt sc n fo as))=some S ->
  ∃vs,XRs X.K xf S vs/\PA X es (Jm i ea xf vs)
 |[],S,h=>by cases h;exact⟨[],rfl,λp Y s O H Q I ⟨_,_,q⟩=>aN p Y s O H Q I (q H .refl)⟩
 |e::es,S,h=>by
  rw[W1]at h;cases z:Ca bt sc n fo as e with
  |none=>rw[z]at h;cases h
  |some u=>
   rw[z]at h;let⟨XG,e2,rfl⟩:=Vu.mp h;let⟨st,v,r,P1⟩:=wq F R hc j Zf YA Xp Z L hd Y_ z;let⟨vs,rs,P2⟩:=iO F R hc j Zf YA Xp Z L hd Y_ e2;exact⟨v::vs,⟨v,vs,rfl,r,rs⟩,(aw P1 P2 (star_ne st es)).imp λO H Q ⟨G,B,q2⟩=>⟨G,B,λH1 g1=>⟨G,B.gr g1,λH2 g2=>q2 H2 (g1.trans g2)⟩⟩⟩
end
abbrev CL:=List (Addr×Option Str)
def WE1(C:Addr)(fo:Option Str)(E:XK)(vs:List V)(H:Hp):Prop:=match fo with
 |none=>E (.ref C) none H
 |some f=>∃v,vs=[v] /\∀a,H a=none->E (.ref C) (some a) (upd H a (.xd [(f,v)]))
def WE(d:CL)(E:XK):XQ:=λc b H=>∃C a,d[c]?=some (C,a)/\WE1 C a E b H
abbrev spX(K:HF)(cl:CL)(J:List Fn)(d i np:Nat):Sp:=spW K (WE cl) J d i np
section
variable{W:XQ}
def _root_.L2.PA.Zi{a:List Expr}{t:TA}(h:PA X.Zi a t):PA X a t:=λp Y s O H Q I b=>
 Qg (h p Y s O H Q (I.Xv _) b) (λ_ _ ⟨v,H',c,r,q⟩=>⟨v,H',c.W4,r,q⟩) λ_ _ z=>False.elim z
def _root_.L2.PS.Zi{st:Stmt}{t:TS}(h:PS X.Zi st t):PS X st t:=λY s O H D I a=>
 Qg (h Y s O H D (I.Xv _) a) (λ_ _ q=>q.W4) λ_ _ z=>False.elim z
def _root_.L2.PS.impI{e:Stmt}{t t':TS}(h:PS X e t)(q:∀Y s D O H,L2.Z0 X Y O H s->t' D O H->t D O H):PS X e t':=λY s O H D I a=>h Y s O H D I (q Y s D O H I a)
def aaJ{st:Stmt}{b:Z6}(h:PS X.Zi st (Zw X.K W0 (Jc r b))):∀n C,r=Jh C n->PS X st (Zw X.K W (Jc (Jh C (n+1)) (.Zi [b]))):=by
 intro n C e;refine h.Zi.imp λD O H ⟨d,ρ,g,hs,j,p⟩=>⟨d,ρ,g,hs,j,?_⟩;have a:=uu (W':=W0) p;have k:(Jh C (n+1)).ex [b] d g=(Jc r b d g).bind λf g=>match f with|.nx ZT=>r.ex [] ZT g|f=>.ok f g:=by rw[e];rfl
 rw[k]at a;revert a;cases Jc r b d g with
 |ok f g1=>
  cases f with
  |nx i=>
   intro a;cases n with
   |zero=>rw[e]at a;exact a.elim
   |succ n=>rw[e]at a;exact a
  |rt u=>exactλp=>p
  |bk i=>exactλp=>p
  |ct i=>exactλp=>p
 |exc c fs g1=>exactλp=>p
 |ZX=>exactλp=>p
def aaS{c:Expr}{d:E}{as bs:List Stmt}{as' f:List Z6}(i:PT X c (tT X.K W0 (r.ts d)))(l:PSs X as (Zw X.K W (r.ex as')))(j:PSs X bs (Zw X.K W (r.ex f))):PS X (.If c as bs pos) (Zw X.K W (Jc r (.V7 d as' f))):=by
 refine(pM i l j).imp ?_;rintro D O H ⟨a,ρ,g,hs,h,p⟩;refine⟨a,ρ,g,hs,h,(eW (R:=Yc) p).mono λk n ⟨e,k',g1,s1,h1,m,b⟩=>?_⟩;subst m;cases k' with
 |true=>exact aV ⟨a,e,g1,hs.step s1,h1,b⟩
 |false=>exact aW ⟨a,e,g1,hs.step s1,h1,b⟩
def xk{C:Addr}{a:Expr}{np:Pos}{k:Nat}(Z9:XC X.K X.mg X.base x fo as C)(hr:Y9 (d+2) X.A)(hex:X.ex=[])(Zz:X.stack=X.env::X.outer)(hc:X.calm=true)(L:Gl X x)(ha:PA X (a::es) (V9 X.K W0 (IX r.ev es')))
  (Z:fo=none\/es=[]) (h2:∀f,fo=some f ->∀vs H,W k vs H ->∃v,vs=[v])
  (WT:fo=none ->∀Y O H s e oe vs,L2.Z0 X Y O H s->s.heap.get? e=some oe->oe.cls=.ref C->oe.dict=none->(∃fs,oe.data=.fields fs/\fs[1]?=some .none)->H e=none->X.ZG.heap.get? e=none->W k vs H->X.xe (.ref e) s)
  (Uy:∀f,fo=some f ->∀Y O H s e oe u v F,L2.Z0 X Y O H s->s.heap.get? e=some oe->oe.cls=.ref C->oe.dict=some u->(∃fs,oe.data=.fields fs/\fs[1]?=some .none)->H e=none->X.ZG.heap.get? e=none->H=upd F u (.xd [(f,v)])->F u=none->W k [v] F->X.xe (.ref e) s)
  (hd:(x==("__debug__" : Str))=false) (he:starEach (a::es) X.env=(false,eval a X.env)::starEach es X.env) (Zc:(backTo Zr (starEach es X.env)).any (·.1)=false) :
  PS X (.Raise (some (.Call (.Name x np) (a::es) [] Zr)) none pos) (Zw X.K W (Jc r (.raise k es'))):=by
 have M:=Z9.made;cases fo with
 |none=>
  let⟨bm,newId,B,Yi,OC,FB⟩:=M;refine(w5 (W:=λH=>∃vs,W k vs H) OC FB hc L ha (λY O H s Z e args I hm ⟨vs,q⟩=>?_) hd he Zc).imp λD O H ⟨ZZ,ρ,g,hs,L,p⟩=>?_
  .obtain ⟨t,he3,_,_⟩:=hm.there
   have old:X.ZG.heap.get? e=none:=by
    cases q:X.ZG.heap.get? e with
    |none=>rfl
    |some o=>let⟨o',z⟩:=I.base.there e o q (by rw[hex];simp);rw[hm.new]at z;cases z
   exact WT rfl Y O H _ e _ vs (I.kept (t':=s.toks) hm.keeps) he3 rfl rfl ⟨_,rfl,rfl⟩ (I.ZK.off hm.new) old q
  .refine ⟨ZZ,ρ,g,hs,L,(eW (R:=RVs X.K) p).mono λvs G ⟨ZM,S,g1,s1,Z,rs,j⟩=>?_⟩
   have j:Ji X.K W (if S.length<=Ab then .exc k S g1 else .ZX) ZM G D:=j
   split at j
   .rename_i hl
    exact⟨by rw[<-rs.length,Qh];unfold Ab at hl;omega,vs,j vs ZM G .refl Z rs⟩
   .exact j.elim
 |some f=>
  rcases Z with z|rfl
  .cases z
  let⟨fI,YC,newId,B,Yi,OC,FB,XS,IN,_⟩:=M;refine(vg (W:=λu v H=>∃F,H=upd F u (.xd [(f,v)])/\F u=none/\W k [v] F) OC Z9.bound FB XS IN hr hex Zz hc L ha (λY O H s e oe u v I q1 q2 q3 q4 q5 q6 _ ⟨F,q7,q8,q9⟩=>Uy f rfl Y O H s e oe u v F I q1 q2 q3 q4 q5 q6 q7 q8 q9) hd he).imp ?_;rintro D O H ⟨ZZ,ρ,g,hs,L,p⟩;refine⟨ZZ,ρ,g,hs,L,(eW (R:=RVs X.K) p).mono λvs G ⟨ZM,S,g1,s1,Z,rs,j⟩=>?_⟩;have j:Ji X.K W (if S.length<=Ab then .exc k S g1 else .ZX) ZM G D:=j
  split at j
  .have q:=j vs ZM G .refl Z rs
   let⟨v,rfl⟩:=h2 f rfl vs G q;exact⟨v,rfl,λe u _ YX _=>⟨G,rfl,YX,q⟩⟩
  .exact j.elim
def gK{K:HF}{ρ:List Addr}{H:Hp}{xf:XF}{F:List U}{v0:V}(h:∀w Z f,xf=some (Z,f,w)->RVs K ρ H F [w]):∀{xs:List (Option U)} {S:List U} {vs:List V},Jb F xs=some S->XRs K xf xs vs->RVs K ρ H S vs
 |[],S,vs,e,r=>by cases e;cases r;rfl
 |some u::xs,S,vs,e,r=>by
  let⟨v,R,rfl,z,j⟩:=r;let⟨XG,L,rfl⟩:=Vu.mp e;exact⟨v,R,rfl,z _ _,gK (v0:=v0) h L j⟩
 |none::xs,S,vs,e,r=>by
  let⟨v,R,rfl,⟨Z,f,z⟩,j⟩:=r;have B:=h _ _ _ z;cases F with
  |nil=>cases B
  |cons u0 t=>
   cases t with
   |cons _ _=>let⟨_,_,G,_,_,_,e3,_⟩:=B;cases G;cases e3
   |nil=>
    simp![Jb]at e;let⟨XG,L,rfl⟩:=Vu.mp e;let⟨w,t,G,r3,_⟩:=B;cases G;exact⟨_,R,rfl,r3,gK (v0:=v0) h L j⟩
def kh{K:HF}{xf:XF}:∀{xs:List (Option U)} {vs:List V},XRs K xf xs vs->vs.length=xs.length
 |[],vs,h=>by cases h;rfl
 |_::xs,vs,h=>by let⟨v,r,rfl,_,j⟩:=h;simp[kh j]
def yO{cl:CL}{J:List Fn}{fi ci kk:Nat}{n c:Str}{C f:Addr}{p1 p3 p4 p5 p6 p7 p8 p9:Pos}{k1 kt:Nat}{a:Expr}{R:List Expr}{xs:List (Option U)}{bt:List Str}
  (hr0:r=Jh (Aa J fu d) k1) (hex:X.ex=[]) (Zz:X.stack=X.env::X.outer) (Z9:XC X.K X.mg X.base c fo as C) (X8:cl[ci]?=some (C,fo)) (hg:Gl X c) (hN:X.N.Nodup) (hi:X.N[i]?=some n) (hj:X.N[j]?=some x) (Y6:i≠j) (hk:X.env.scope.names.lookup n=some .local)
  (hx:Loc X.env.scope x) (Xz:∀y,X.fn y=true) (hd:(c==("__debug__" : Str))=false) (UG:(n==("__debug__" : Str))=false) (hncd:(n==("__classdict__" : Str))=false) (YA:X.env.scope=sc) (Xp:∀y∈bt,X.mg y=none) (hv:Ac (R.map (Ca bt sc n fo as))=some xs)
  (F:X2 X.prog X.w X.K X.mg X.base (CX1 X.prog X.w) kk f fd ps (spX X.K cl J d fi ps.length)) (Vk:∀F,J[fi]?=some F->F.np=ps.length) (hr:Y9 kk X.A) {y:Str} (hgy:Gl X y) (hm:X.mg y=some (.ref f)) (hkp:PySem.W.keepIn X.K (.ref f)=true) (hb:Binds X.K fd ps []) (YU:(y==("__debug__" : Str))=false)
  (ha:∀pn E',PA (Bn X pn E') (a::es) (V9 X.K W0 (IX (Jh (Aa J fu d) (k1-1)).ev es')))
  (he:starEach (a::es) X.env=(false,eval a X.env)::starEach es X.env) (Zc:(backTo pos (starEach es X.env)).any (·.1)=false) :
  PS X (.Try [.Assign [.Name x p1] (.Call (.Name y p3) (a::es) [] pos) p2] [.ExceptHandler (some (.Name c p4)) (some n) [.Assign [.Name x p5] (.Tuple R kt p6) p7] p8] [] [] p9) (Zw X.K W (Jc r (.U4 j fi es' ci xs))):=by
 cases k1 with
 |zero=>exact PS.ZX λ_ _=>by rw[hr0];rfl
 |succ m=>
  subst hr0;have hs:∀(ea:Addr) (U_:Option Addr) (oe:Obj) (Y:List (Addr×Obj)),oe.cls=.ref C->oe.dict=U_->(∃L,oe.data=.fields L)->PSs (Bh X Y ea oe) [.Assign [.Name x p5] (.Tuple R kt p6) p7]
    (λD O H=>xs.length<=Ab/\O[i]?=some (some (.ref ea)) /\∃xf:XF,XFok H xf/\(∀f,fo=some f ->∃G v,U_=some G/\xf=some (G,f,v)) /\∀L,XRs X.K xf xs L ->∀H' t,Gr H H'->H' t=none->D.nx (O.set j (some (.ref t))) (upd H' t (.ZY L))):=λea U_ oe Y Wr hdxo Zf=>by
   intro X3 s O H D I ⟨hl,q1,xf,qf,qx,q2⟩;let⟨L,rs,PAv⟩:=iO (X:=Bh X Y ea oe) (x:=c) (fo:=fo) (as:=as) (C:=C) (i:=i) (xf:=xf) ⟨Z9.bound,Z9.cls,Z9.made,Z9.kit,Z9.ans⟩ (TV _ HD) Wr (λf hf=>by let⟨G,v,e1,e2⟩:=qx f hf;exact⟨G,v,hdxo.trans e1,e2⟩) Zf YA Xp hi (.inl hk) UG hncd hv
   refine dA (oE (X:=Bh X Y ea oe) hN hj hx (gR PAv) (by rfl) (.inl (Xz x))) cJ X3 s O H D I ?_
   refine⟨q1,qf,λH' g=>⟨?_,λt ht=>q2 L rs H' t g ht⟩⟩;rw[kh rs,Qh];unfold Ab at hl;omega
  refine(abd (tb:=λE0=>F0 (Zw X.K (WE cl E0) (Jc (Jh (Aa J fu d) (m+1)) (.set (.nm j) (.call fi es')))) EI) hex Zz Z9.cls Z9.bound hg hN hi hk hd (λE0 pn E' hP=>?_) hs).impI λY s D O H I ⟨ZZ,ρ,g,hsu,hg,p0⟩=>?_
  .exact dA (ml (X:=Bn X pn E') hN hj hx (.inl (Xz x)) (lL (X:=Bn X pn E') (r:=Jh (Aa J fu d) m) F hP Vk hr hgy hm hkp hb YU (ha pn E') he Zc) (by rfl)) cJ
  .refine ⟨ZZ,ρ,g,hsu,hg,?_⟩
   have p:Ji X.K W (Bc ((Jh (Aa J fu d) (m+1)).ev (.call fi es') ZZ g) j ci xs ZZ) ρ H D:=p0;clear p0;show Ji X.K _ (((Jh (Aa J fu d) (m+1)).ev (.call fi es') ZZ g).bind _) ρ H _;revert p;cases(Jh (Aa J fu d) (m+1)).ev (.call fi es') ZZ g with
   |ok u g1=>
    intro p;simp![Bc]at p;simp![Out.bind,IZ,Ae];split at p
    .rename_i hl;rw[Y2 hl];exact p
    .exact p.elim
   |exc c' fs g1=>
    intro p;simp![Bc]at p;split at p
    .rename_i VI
     let⟨rfl,hl,hz,hf1⟩:=VI;split at p
     .rename_i S XI
      intro L ZO H' st rh rv;have fin:∀(U_:Option Addr) (H1:Hp) (xf:XF),ZI X.K ZO H' ZO H1->RH X.K ZO H1 g1->XFok H1 xf->(∀f,fo=some f ->∃G v,U_=some G/\xf=some (G,f,v))->(∀w G f,xf=some (G,f,w)->L=[w]) ->∀(ea:Addr) (ZT:L2.St),H1 ea=none->ZT.length=X.N.length ->
        (xs.length<=Ab/\(ZT.set i (some (.ref ea)))[i]?=some (some (.ref ea)) /\∃xf:XF,XFok H1 xf/\(∀f,fo=some f ->∃G v,U_=some G/\xf=some (G,f,v)) /\∀L,XRs X.K xf xs L ->∀Yd t,Gr H1 Yd->Yd t=none->(Dm i D).nx ((ZT.set i (some (.ref ea))).set j (some (.ref t))) (upd Yd t (.ZY L))):=λU_ H1 xf s1 r1 f1 f2 f3 ea ZT Z B=>by
       refine⟨hz,by rw[S3 (by rw[B];exact(YE.mp hi).1)],xf,f1,f2,λws rws H2 t gr ht=>?_⟩
       have S2:=((st.trans s1).trans (gr.Tq X.K ZO)).trans (.fresh (o:=.ZY ws) ht);refine p _ ZO _ S2 ((gr.rh _ _ _ r1).step_fresh ht) ⟨?_,λk u e=>?_⟩
       .simp only [NR,QV]
        rw[hsu.len,B,I.len]
       .have hjl:j<(List.replicate ZZ.length (none:Option U)).length:=by rw[QV];exact hl
        by_cases hkj:k=j
        .subst hkj
         rw[S3 hjl]at e;cases e;refine⟨.ref t,?_,t,ws,rfl,upd_same,gK (v0:=.ZJ) (λw G f z=>?_) XI rws⟩
         .rw [UE Y6,S3 (by rw[NR,B];exact(YE.mp hj).1)]
         .rw [<-f3 w G f z]
          exact RVs.step ((s1.trans (gr.Tq X.K ZO)).trans (.fresh ht)) _ _ rv
        .rw [UE (Ne.symm hkj),Pe]at e
         split at e<;>cases e
      refine⟨C,fo,X8,?_⟩;cases fo with
      |none=>exact⟨rfl,λea ZT Z B=>fin none H' none .refl rh trivial (λf z=>by cases z) (λw G f z=>by cases z) ea ZT Z B⟩
      |some f0=>
       have hvl:L.length=1:=by rw[<-rv.length];exact hf1
       let⟨v,rfl⟩:=List.length_eq_one_iff.mp hvl;refine⟨v,rfl,λG YX=>⟨rfl,λea ZT Z B=>?_⟩⟩;exact fin (some G) (upd H' G (.xd [(f0,v)])) (some (G,f0,v)) (.fresh YX) (rh.step_fresh YX) upd_same (λf z=>by cases z;exact⟨G,v,rfl,rfl⟩) (λw dx' f z=>by cases z;rfl) ea ZT Z B
     .exact p.elim
    .exact p.elim
   |ZX=>exactλp=>p
end
open PySem PySem.Spec PyProof.Rows L2
section
variable{O:L2.St}
def wW{ea:Addr}{C:Value}{Z:XK}(I:L2.Z0 X Y O H s)(hex:X.ex=[])(B:X.stack=X.env::X.outer)(F:Fly X.prog X.w X.stack H s ea C dx H' s')(q:Z C dx H'):
  wpAny (model X.prog X.w) X.A (leaving X.env (.ref ea)) (λ_ S=>CX1 X.prog X.w X.outer X.WM X.ZG Z (.ref ea) S) (λe' S=>CX1 X.prog X.w X.outer X.WM X.ZG Z e' S) s':=by
 have hf:=gh I B;have j:L2.Z0 X Y O H' s':=I.SO F.os F.un F.ZK F.bare (λb z=>absurd z (by simp))
 let⟨T,tr,R,L⟩:=F.tr;have FF:s'.heap.FunFrames X.base (X.env::X.outer):=by rw[<-B];exact j.stack
 have old:∀b,s.heap.get? b=none->X.ZG.heap.get? b=none:=λb e=>by
  cases q:X.ZG.heap.get? b with
  |none=>rfl
  |some o=>let⟨o',z⟩:=I.base.there b o q (by rw[hex];simp);rw[e]at z;cases z
 refine vB (by rw[I.ok.frames,B]) FF hf tr λh' u K Xf G=>?_
 rw[<-B]at K;have Ru:X.ZG.heap.get? u=none:=by
  cases q:X.ZG.heap.get? u with
  |none=>rfl
  |some o=>let⟨o',z⟩:=j.base.there u o q (by rw[hex];simp);rw[Xf]at z;cases z
 have Tu:=j.ZK.off Xf;refine⟨ea,C,dx,H',rfl,⟨j.os,j.bare,kg j hex K λb hb=>?_,jM j K λb hb=>?_,F.free,old ea F.new,u,G,Tu,Ru⟩,q⟩
 .have:b=ea\/b=T\/b=u:=by simpa using hb
  rcases this with rfl|rfl|rfl
  .exact old _ F.new
  .exact old _ L
  .exact Ru
 .have:b=ea\/b=T\/b=u:=by simpa using hb
  rcases this with rfl|rfl|rfl
  .exact F.free
  .exact R
  .exact Tu
end
def vo{a:Str}{f:Addr}{d:Value}{H:Hp}{E c:XK}(h:∀C b H,c C b H->E C b H):
  A2 (CX1 P w) (Bd (CX1 P w) P w K mg base N a scope f d A outer s H E) c:=by
 rintro Y O j g e i I ⟨ea,C,b,H2,rfl,F,q⟩;exact wW I rfl rfl F (h C b H2 q)
open PySem PySem.Spec PyProof.Rows L2 PySem.W
def jO{T:Tab}{k:Nat}(h:DT T x=some k):∃fo as,T.xc[k]?=some (x,fo,as):=by
 let⟨b,a,_⟩:=OE.mp h;refine⟨T.xc[k].2.1,T.xc[k].2.2,?_⟩;rw[Xn b,<-eq_of_beq a]
def dO{l:List α}{a:α}(h:Cb l=some a):l=[a]:=by
 cases l with
 |nil=>exact qN h
 |cons b r=>
  refine qI h λc h=>?_;cases aA c;cases h
  rfl
def jU{s:Stmt}{q:List Expr×Expr}(h:Ds s=some q):∃p,s = .Assign q.1 q.2 p:=by
 cases s with
 |Assign ts v p=>cases h;exact⟨p,rfl⟩
 |_=>exact qN h
def lZ{c:List Stmt}{q:Str×Expr}(h:Dz c=some q):∃p b,c=[.Assign [.Name q.1 p] q.2 b]:=by
 refine qB h λs g h=>qB h λa i h=>qB h λt f h=>qM h λx d e=>?_;let⟨b,rfl⟩:=jU i;subst e;let⟨p,rfl⟩:=aE d;rw[dO g,dO f];exact⟨p,b,rfl⟩
def y0{d:List ExceptHandler}{q:Str×Str×List Stmt}(h:FP d=some q):∃p a,d=[.ExceptHandler (some (.Name q.1 p)) (some q.2.1) q.2.2 a]:=by
 cases d with
 |nil=>exact qN h
 |cons s r=>
  cases s with
  |ExceptHandler c n b a=>
   refine qI h λj h=>qB h λl i h=>qB h λx f h=>qM h λk g e=>?_;cases aA j;subst i;subst g;subst e;let⟨p,rfl⟩:=aE f;exact⟨p,a,rfl⟩
def y7{vs:List Expr}(h:FK e=some vs):∃k p,e = .Tuple vs k p:=by
 cases e with
 |Tuple ws k p=>cases h;exact⟨k,p,rfl⟩
 |_=>exact qN h
structure Ux(T:Tab)(cl:CL)(J:List Fn)(d:Nat)(X:Cx)(sc:Scope)(N:List Str)(W:XQ):Prop where
 ok:Zq T J d X.Zi sc N
 X8:∀(k:Nat) (x:Str) (fo:Option Str) (as:List (Str×Bool)),T.xc[k]?=some (x,fo,as) ->∃C,cl[k]?=some (C,fo)/\XC X.K X.mg X.base x fo as C
 hF1:∀(i:Nat) (x:Str),T.J[i]?=some x->(x==("__debug__" : Str))=false->x∈T.fs ->∃f fd ps,X.mg x=some (.ref f)/\PySem.W.keepIn X.K (.ref f)=true/\Binds X.K fd ps []/\X2 X.prog X.w X.K X.mg X.base (CX1 X.prog X.w) (2*d+2) f fd ps (spX X.K cl J d i ps.length) /\∀F,J[i]?=some F->F.np=ps.length
 WT:∀(k:Nat) (C:Addr),cl[k]?=some (C,none) ->∀Y O H s e oe vs,L2.Z0 X Y O H s->s.heap.get? e=some oe->oe.cls=.ref C->oe.dict=none->(∃fs,oe.data=.fields fs/\fs[1]?=some .none)->H e=none->X.ZG.heap.get? e=none->W k vs H->X.xe (.ref e) s
 Uy:∀(k:Nat) (C:Addr) (f:Str),cl[k]?=some (C,some f) ->∀Y O H s e oe dx v H0,L2.Z0 X Y O H s->s.heap.get? e=some oe->oe.cls=.ref C->oe.dict=some dx->(∃fs,oe.data=.fields fs/\fs[1]?=some .none)->H e=none->X.ZG.heap.get? e=none->H=upd H0 dx (.xd [(f,v)])->H0 dx=none->W k [v] H0->X.xe (.ref e) s
 Uz:∀(k:Nat) (C:Addr) (f:Str),cl[k]?=some (C,some f) ->∀vs H,W k vs H ->∃v,vs=[v]
 hp:∃E0,A2 (CX1 X.prog X.w) X E0 /\∀c vs H,W c vs H->WE cl E0 c vs H
 own:PassesOwn (model X.prog X.w) X.A X.env X.xe
 ex:X.ex=[]
 WL:X.stack=X.env::X.outer
 blk:X.env.blockKind=.function
 fn:∀x,X.fn x=true
section
variable{T:Tab}{cl:CL}{J:List Fn}{W:XQ}
def cu{f:Stmt->Option Z6}(F:∀s u,f s=some u ->∀n,PS X s (Zw X.K W (Jc (Jh (Aa J fu d) n) u))):∀{j:List Stmt} {B:List Z6},Ac (j.map f)=some B ->∀n,PSs X j (Zw X.K W ((Jh (Aa J fu d) n).ex B))
 |[],_,h=>λn=>by
  cases h;cases n with
  |zero=>exact PSs.ZX λ_ _=>rfl
  |succ n=>exact nR (r:=Jh (Aa J fu d) n)
 |s::j,B,h=>λn=>by
  rw[W1]at h;cases ea:f s with
  |none=>rw[ea]at h;cases h
  |some u=>
   rw[ea]at h;simp![Ac]at h;cases z:Ac (j.map f)with
   |none=>rw[z]at h;cases h
   |some r'=>
    rw[z]at h;cases h;cases n with
    |zero=>exact PSs.ZX λ_ _=>rfl
    |succ n=>exact lM (F s u ea n) (cu F z n)
def Ux.glob(ok:Ux T cl J d X sc N W){x:Str}(h:glob sc x=true):Gl X x:=by
 show X.env.scope.names.lookup x=_;have:X.env.scope=sc:=ok.ok.YA;rw[this];exact Sm.mp h
def aa3(ok:Ux T cl J d X sc N W){c:Str×List Expr}{B:Z6}{p cp:Pos}(h:HR T sc (Ai T sc N m) c=some B)(n:Nat):PS X (.Raise (some (.Call (.Name c.1 p) c.2 [] cp)) none pos) (Zw X.K W (Jc (Jh (Aa J fu d) n) B)):=by
 let⟨x,es⟩:=c;cases es with
 |nil=>exact qN h
 |cons a es=>
  refine qI h λhc h=>qB h λk hk h=>qB h λes' S h=>qB h λq F h=>qI h λR Z=>?_;simp![Yx,R6]at hc;let⟨⟨c1,c2⟩,G⟩:=hc;let⟨fo,as,L⟩:=jO hk;rw[L]at F;cases F;cases Z;let⟨C,z,Z9⟩:=ok.X8 _ _ _ _ L;have j:=G;rw[S_,Qy]at j;refine xk (d:=2*d) Z9 ok.ok.S0 ok.ex ok.WL ok.ok.calm (ok.glob c2) (bC (av (fu:=fu) m ok.ok) G S n).Zi ?_ (λf u=>by subst u;exact ok.Uz k C f z) (λu=>by subst u;exact ok.WT k C z) (λf u=>by subst u;exact ok.Uy k C f z) (aF c1).1 (star_ne j.1 _) (cB j.2)
  rw[QQ,Oi]at R;exact R.imp id aA
def abW(ok:Ux T cl J d X sc N W){c n' x':Str}{F:Str×List Expr}{u:List Expr}{s':Z6}{p1 p3 p4 p5 p6 p7 p8 p9:Pos}{kt:Nat}(h:HS T sc N (Ai T sc N m) x F c n' x' u=some s')(n:Nat):
  PS X (.Try [.Assign [.Name x p1] (.Call (.Name F.1 p3) F.2 [] pos) p2] [.ExceptHandler (some (.Name c p4)) (some n') [.Assign [.Name x' p5] (.Tuple u kt p6) p7] p8] [] [] p9) (Zw X.K W (Jc (Jh (Aa J fu d) n) s')):=by
 let⟨y,es⟩:=F;cases es with
 |nil=>exact qN h
 |cons a es=>
  refine qI h λhc h=>qB h λj hj h=>qB h λi hi h=>qB h λfi R h=>qB h λci hci h=>qB h λes' Z h=>qI h λY6 h=>qB h λq hq h=>qM h λS XI e=>?_;subst e;simp![EM,Yx,R6,Sm]at hc;let⟨⟨⟨⟨⟨⟨⟨⟨c0,c1⟩,c2⟩,c3⟩,c4⟩,c5⟩,c6⟩,c7⟩,c8⟩:=hc;rw[R6,Pg]at Y6;let⟨fo',as',Yr⟩:=jO hci;rw[Yr]at hq;cases hq;let⟨C,hC,Z9⟩:=ok.X8 _ _ _ _ Yr;let⟨f,fd,ps,q1,q2,q3,q4,q5⟩:=ok.hF1 fi _ (ixOf_get R) (aF c4).1 (Qc.mp c0);have z:=c7;rw[S_,Qy]at z;have YA:X.env.scope=sc:=ok.ok.YA;have hN:X.N=N:=ok.ok.hN;subst c1;have L:∀B G,Zq T J d (Bn X B G).Zi sc N:=λB G=>⟨ok.ok.hF,ok.ok.cs,ok.ok.bt,ok.ok.room,ok.ok.hN,ok.ok.YA,ok.ok.nd,ok.ok.calm,rfl⟩;let⟨JV,l2,_⟩:=jV hj;exact yO rfl ok.ex ok.WL Z9 hC (ok.glob c5) (by rw[hN];exact ok.ok.nd) (by rw[hN];exact ixOf_get hi) (by rw[hN];exact JV) Y6 (by rw[YA];exact c8) (by rw[YA];exact l2) ok.fn (aF c2).1 (aF c3).1 (aF c3).2.1 YA ok.ok.bt XI q4 q5 ok.ok.S0 (ok.glob c6) q1 q2 q3 (aF c4).1
   (λB G=>(bC (av (fu:=fu) m (L B G)) c7 Z (n-1)).Zi) (star_ne z.1 _) (cB z.2)
def fD(ok:Ux T cl J d X sc N W):∀m st ZV,Cy T sc N m st=some ZV ->∀n,PS X st (Zw X.K W (Jc (Jh (Aa J fu d) n) ZV))
 |0,_,_,h=>by cases h
 |m+1,st,ZV,h=>λn=>by
  have ih:=fD ok m;have Z:=av (fu:=fu) m ok.ok;have j:∀st:Stmt,((Bl T sc N m st).map λs=>Z6.Zi [s])=some ZV->PS X st (Zw X.K W (Jc (Jh (Aa J fu d) n) ZV)):=λst h=>by
   refine qM h λs' VZ e=>?_;subst e;cases n with
   |zero=>exact PS.ZX λ_ _=>rfl
   |succ n=>exact aaJ (fN ok.ok ok.blk ok.fn m _ _ VZ n) n _ rfl
  cases st with
  |If c a b p=>
   refine qB h λc' hc h=>qB h λa' ha h=>qM h λb' hb e=>?_;subst e;exact aaS (((Z _ _ hc).2.1 n).Zi) (cu ih ha n) (cu ih hb n)
  |Raise e c p=>
   refine qI h λhc h=>qB h λe' S h=>qB h λq z h=>?_;cases yT hc;subst S;let⟨_,_,rfl⟩:=dy z;exact aa3 ok h n
  |Try b hs o f p=>
   refine qI h λhc h=>qB h λq z h=>qB h λcy B h=>qB h λR Tv h=>qB h λG u h=>qB h λF L h=>?_;rw[Yx]at hc;cases aA hc.1;cases aA hc.2;let⟨x,v⟩:=q;let⟨x',v'⟩:=G;let⟨c,n',bb⟩:=R;let⟨_,_,rfl⟩:=lZ z;let⟨_,_,rfl⟩:=y0 Tv;let⟨_,_,rfl⟩:=lZ u;let⟨_,_,rfl⟩:=dy B;let⟨_,_,rfl⟩:=y7 L;exact abW ok h n
  |_=>exact j _ h
end
open PySem PySem.Spec PyProof.Rows L2
set_option genInjectivity false in
structure FI where
 x:Str
 st:Stmt
 N:List Str
 ps:List Str
 cm:Option (Str×Str)
structure Si(K:HF)(x qual:Str)(st:Stmt)(f:Addr)(fd:FuncData):Prop where
 ex:∃(JH:Value) (od:Option Addr) (dV H8 doc pm:Value) (an:Option Addr) (Zj ct:Value) (YM:Array (Option Value)),
  fd=PySem.W.fnOf x qual (BY st) (BZ st) (AH st) dV H8 doc pm an Zj ct/\K.lookup f=some ⟨JH,od,.func fd,YM⟩/\PySem.W.codeIn K Zj qual=true
 kp:PySem.W.keepIn K (.ref f)=true
noncomputable def FI.nm(fi:FI):Str:=match fi.cm with|none=>fi.x|some c=>c.2
noncomputable def FI.tn(fi:FI):Str:=if fi.cm.isSome then "__debug__" else fi.x
def FAt(K:HF)(mg:Str->Option Value)(fi:FI)(f:Addr):Prop:=match fi.cm with
 |none=>mg fi.x=some (.ref f)
 |some _=>False
structure FOk(T:Tab)(K:HF)(mg:Str->Option Value)(fi:FI)(F:Fn):Prop where
 sc:Ul fi.N fi.ps (AH fi.st)
 np:F.np=fi.ps.length
 ns:F.ns=fi.N.length
 body:∃m,Ac ((BZ fi.st).map (B8 T fi.x (AH fi.st) fi.N m))=some F.body
 obj:∃f fd,FAt K mg fi f/\Si K fi.nm fi.x fi.st f fd/\Binds K fd fi.ps []
def AllOk(T:Tab)(K:HF)(mg:Str->Option Value):List FI->List Fn->Prop
 |[],[]=>True
 |fi::r,F::s=>FOk T K mg fi F/\AllOk T K mg r s
 |_,_=>False
section
variable{T:Tab}
def AllOk.get:∀{a:List FI} {J:List Fn} {i:Nat} {fi:FI},AllOk T K mg a J->a[i]?=some fi ->∃F,J[i]?=some F/\FOk T K mg fi F
 |[],_,_,_,_,e=>by simp at e
 |_::_,[],_,_,h,_=>False.elim h
 |_::_,F::_,0,_,h,e=>by simp at e;subst e;exact⟨F,rfl,h.1⟩
 |_::r,_::s,i+1,fi,h,e=>by
  let⟨F,c,b⟩:=AllOk.get (i:=i) (fi:=fi) h.2 (by simpa using e)
  exact⟨F,by simpa using c,b⟩
structure Rt(T:Tab)(K:HF)(mg:Str->Option Value)(YD:List FI)(J:List Fn):Prop where
 names:T.J=YD.map FI.tn
 all:AllOk T K mg YD J
 cs:∀x u,T.cs.lookup x=some u ->∃v val,mg x=some val/\RelV v val /\∀ρ H,RV K ρ H u v
 bt:∀x∈T.bt,mg x=none
def jy{vs:List V}(b:n=N.length)(h:RVs K ρ H S vs)(f:S.length<=N.length):RS K ρ H (S.map some++List.replicate (n-S.length) none) (L2.start N vs) where
 len:=by unfold L2.start;simp[h.length,b]
 val:=λi u e=>by
  subst b;unfold L2.start;by_cases hi:i<S.length
  .rw [WR (by simpa using hi),VV]at e
   rw[WR (by rw[Z1,<-h.length];exact hi),VV]
   cases a:S[i]? with
   |none=>rw[a]at e;cases e
   |some w=>
    rw[a]at e;cases e;let⟨v,d,c⟩:=h.get a;exact⟨v,by rw[d];rfl,c⟩
  .rw [VX (by simpa using hi),Pe]at e
   split at e<;>cases e
def gM(h:env.scope.kind=.function):env.blockKind=.function:=by
 unfold Env.blockKind;rw[h]
 rfl
def kK{W:XQ}{o:Out Fl}{Q:VK}(p:post K W (RV K) (o.bind λf g=>match f with|.rt u=>.ok u g|.nx _=>.ok .ZJ g|_=>.ZX) ρ H Q):Ji K W o ρ H {nx:=λ_ a=>Q .ZJ a,rt:=Q}:=by
 revert p;cases o with
 |ok fl g1=>
  cases fl with
  |nx b=>exactλp O d a s h e=>p .ZJ d a s h rfl
  |rt u=>exactλp=>p
  |bk b=>exactλp=>p.elim
  |ct b=>exactλp=>p.elim
 |exc c fs g1=>exactλp=>p
 |ZX=>exactλp=>p
def EZ(T:Tab)(b:CL)(K:HF)(mg:Str->Option Value):Prop:=∀(k:Nat) (x:Str) (a:Option Str) (as:List (Str×Bool)),T.xc[k]?=some (x,a,as) ->∃C,b[k]?=some (C,a) /\∀base:Heap,K.In base->base.Ns mainGlobals mg->XC K mg base x a as C
def AF(T:Tab)(a:CL)(P:Program)(w:World)(K:HF)(mg:Str->Option Value)(base:Heap)(J:List Fn)(d i:Nat)(fi:FI)(f:Addr)(fd:FuncData):Prop:=X2 P w K mg base V3 (2*d+2) f fd fi.ps (TC K J d i fi.ps.length)/\(fi.x∈T.fs->X2 P w K mg base (CX1 P w) (2*d+2) f fd fi.ps (spX K a J d i fi.ps.length))
def oP{R:CL}{YD:List FI}{J:List Fn}(G:Rt T K mg YD J)(xo:EZ T R K mg)(kb:K.In base)(nb:base.Ns mainGlobals mg):∀(d i:Nat) (fi:FI),YD[i]?=some fi ->∀f fd,Si K fi.nm fi.x fi.st f fd->AF T R P w K mg base J d i fi f fd
 |0,i,fi,_,f,fd,_=>⟨⟨λu H Q E ⟨_,ρ,g,S,_,_,_,p⟩=>p.elim,λA outer s H args S u Q E _ _ _ _ ⟨_,ρ,g,S,_,_,_,p⟩=>p.elim⟩,λ_=>⟨λu H Q E ⟨_,ρ,g,S,_,_,_,p⟩=>p.elim,λA outer s H args S u Q E _ _ _ _ ⟨_,ρ,g,S,_,_,_,p⟩=>p.elim⟩⟩
 |d+1,i,fi,hi,f,fd,F=>by
  let⟨Fi,ei,Z9⟩:=G.all.get hi;let⟨m,hb⟩:=Z9.body;have Zc:fi.ps.length<=fi.N.length:=by have:=QU List.length Z9.sc.pre;rw[U1]at this;omega
  have callee:∀j B,YD[j]?=some B ->∃f fd,FAt K mg B f/\PySem.W.keepIn K (.ref f)=true/\Binds K fd B.ps []/\AF T R P w K mg base J d j B f fd /\∀F,J[j]?=some F->F.np=B.ps.length:=λj B ej=>by
   let⟨Fj,ej',Oj⟩:=G.all.get ej;let⟨f',Wu,m1,m2,m3⟩:=Oj.obj;exact⟨f',Wu,m1,m2.kp,m3,oP G xo kb nb d j B ej f' Wu m2,λF' e=>by rw[ej']at e;cases e;exact Oj.np⟩
  have Rr:∀j x,T.J[j]?=some x->(x==("__debug__" : Str))=false ->∃f fd B,FI.x B=x/\mg x=some (.ref f)/\PySem.W.keepIn K (.ref f)=true/\Binds K fd B.ps []/\AF T R P w K mg base J d j B f fd /\∀F,J[j]?=some F->F.np=B.ps.length:=λj x hx YU=>by
   rw[G.names,VV]at hx;cases ej:YD[j]? with
   |none=>rw[ej]at hx;cases hx
   |some B=>
    rw[ej]at hx;have hx:B.tn=x:=by simpa using hx
    unfold FI.tn at hx;let⟨f',Wu,m1,m2,m3,m5,m6⟩:=callee j B ej;cases hc:B.cm with
    |some c=>rw[hc]at hx;subst hx;cases YU
    |none=>
     rw[hc]at hx;have hx:B.x=x:=hx;subst hx;have m1':mg B.x=some (.ref f'):=by unfold FAt at m1;rw[hc]at m1;exact m1
     exact⟨f',Wu,B,rfl,m1',m2,m3,m5,m6⟩
  have okN:∀(CX:Xs) Zj A outer s H E,Y9 (2*d+3) (A.deeper (envOfC fi.x (AH fi.st) s.heap.objs.size f Zj))->Zq T J d (Bd CX P w K mg base fi.N fi.x (AH fi.st) f Zj A outer s H E).Zi (AH fi.st) fi.N:=λCX Zj A outer s H E hr=>by
   refine⟨λj x hx YU=>?_,G.cs,G.bt,hr,rfl,rfl,Z9.sc.nd,rfl,rfl⟩
   .obtain ⟨f',Wu,B,_,a1,a2,a3,a4,a5⟩:=Rr j x hx YU
    have a4:=a4.1;exact⟨f',Wu,B.ps,a1,a2,a3,a4,a5⟩
  have okX:∀(CX:Xs) (W:XQ) Zj A outer s H E X,(X=Bd CX P w K mg base fi.N fi.x (AH fi.st) f Zj A outer s H E\/X=(Bd CX P w K mg base fi.N fi.x (AH fi.st) f Zj A outer s H E).Zi)->Y9 (2*d+3) (A.deeper (envOfC fi.x (AH fi.st) s.heap.objs.size f Zj)) ->
    (∀(k:Nat) (C:Addr) (Z:Option Str),R[k]?=some (C,Z) ->∀Y O H s e L u H0,L2.Z0 X Y O H s->s.heap.get? e=some L->L.cls=.ref C->(∃fs,L.data=.fields fs/\fs[1]?=some .none)->H e=none->X.ZG.heap.get? e=none->W k u H0->(Z=none->L.dict=none/\H=H0)->(∀f,Z=some f ->∃dx v,L.dict=some dx/\u=[v]/\H=upd H0 dx (.xd [(f,v)])/\H0 dx=none)->X.xe (.ref e) s) ->
    (∀(k:Nat) (C:Addr) (f:Str),R[k]?=some (C,some f) ->∀u H,W k u H ->∃v,u=[v])->(∃E0,A2 (CX1 P w) X E0 /\∀c u H,W c u H->WE R E0 c u H)->Ux T R J d X (AH fi.st) fi.N W:=λCX W Zj A outer s H E X hX hr hx Uz hp=>by
   have WT:∀(k:Nat) (C:Addr),R[k]?=some (C,none) ->∀Y O H s e L u,L2.Z0 X Y O H s->s.heap.get? e=some L->L.cls=.ref C->L.dict=none->(∃fs,L.data=.fields fs/\fs[1]?=some .none)->H e=none->X.ZG.heap.get? e=none->W k u H->X.xe (.ref e) s:=
    λk C hk Y O H s e L u I a1 a2 a3 a4 a5 a6 q=>hx k C none hk Y O H s e L u H I a1 a2 a4 a5 a6 q (λ_=>⟨a3,rfl⟩) λf z=>by cases z
   have Uy:∀(k:Nat) (C:Addr) (f:Str),R[k]?=some (C,some f) ->∀Y O H s e L dx v H0,L2.Z0 X Y O H s->s.heap.get? e=some L->L.cls=.ref C->L.dict=some dx->(∃fs,L.data=.fields fs/\fs[1]?=some .none)->H e=none->X.ZG.heap.get? e=none->H=upd H0 dx (.xd [(f,v)])->H0 dx=none->W k [v] H0->X.xe (.ref e) s:=
    λk C f hk Y O H s e L dx v H0 I a1 a2 a3 a4 a5 a6 a7 a8 q=>hx k C (some f) hk Y O H s e L [v] H0 I a1 a2 a4 a5 a6 q (λz=>by cases z) λf' z=>by cases z;exact⟨dx,v,a3,rfl,a7,a8⟩
   have X8:∀(k:Nat) (x:Str) (Z:Option Str) (as:List (Str×Bool)),T.xc[k]?=some (x,Z,as) ->∃C,R[k]?=some (C,Z)/\XC K mg base x Z as C:=λk x Z as h=>let⟨C,h1,h2⟩:=xo k x Z as h;⟨C,h1,h2 base kb nb⟩
   have hF1:∀(i:Nat) (x:Str),T.J[i]?=some x->(x==("__debug__" : Str))=false->x∈T.fs ->∃f fd ps,mg x=some (.ref f)/\PySem.W.keepIn K (.ref f)=true/\Binds K fd ps []/\X2 P w K mg base (CX1 P w) (2*d+2) f fd ps (spX K R J d i ps.length) /\∀F,J[i]?=some F->F.np=ps.length:=λj x h YU h'=>by
    let⟨f',Wu,B,rfl,a1,a2,a3,a4,a5⟩:=Rr j x h YU;exact⟨f',Wu,B.ps,a1,a2,a3,a4.2 h',a5⟩
   rcases hX with rfl|rfl
   .exact ⟨okN CX Zj A outer s H E hr,X8,hF1,WT,Uy,Uz,hp,PassesOwn.leaving,rfl,rfl,gM Z9.sc.kind,λ_=>rfl⟩
   .exact ⟨okN CX Zj A outer s H E hr,X8,hF1,WT,Uy,Uz,hp,PassesOwn.never,rfl,rfl,gM Z9.sc.kind,λ_=>rfl⟩
  have fin0:X2 P w K mg base V3 (2*(d+1)+2) f fd fi.ps (TC K J (d+1) i fi.ps.length):=by
   let⟨JH,od,dV,H8,doc,pm,an,Zj,ct,YM,rfl,lk,Y_⟩:=F.ex;refine gX (k:=2*d+3) lk Y_ Z9.sc (λu H Q E ⟨_,ρ,g,S,_,rs,hl,_⟩=>by rw[<-rs.length];exact hl) λA outer s H u Q E hr h=>?_
   let⟨fu,ρ,g,S,hg,rs,hl,p⟩:=h;simp![Aa,ei,Bs]at p;rw[Y2 (by rw[hl,Z9.np])]at p
   refine⟨Zw K W0 ((Jh (Aa J fu d) fu).ex Fi.body),PSs.Zi ?_,_,ρ,g,jy Z9.ns rs (),hg,kK p⟩
   unfold B8 at hb;split at hb
   .exact cu (fD (okX V3 W0 Zj A outer s H E _ (.inr rfl) hr (λk C Z _ Y O H s e L u H0 _ _ _ _ _ _ z=>z.elim) (λk C f _ u H z=>z.elim) ⟨λ_ _ _=>False,λ_ _ _ _ _ _ _ ⟨_,_,_,_,_,_,z⟩=>z.elim,λ_ _ _ z=>z.elim⟩) m) hb fu
   .exact bR (fN (okN V3 Zj A outer s H E hr) (gM Z9.sc.kind) (λ_=>rfl) m) hb fu
  refine⟨fin0,λXY=>?_⟩;let⟨JH,od,dV,H8,doc,pm,an,Zj,ct,YM,rfl,lk,Y_⟩:=F.ex;refine gX (k:=2*d+3) lk Y_ Z9.sc (λu H Q E ⟨_,ρ,g,S,_,rs,hl,_⟩=>by rw[<-rs.length];exact hl) λA outer s H u Q E hr h=>?_
  let⟨fu,ρ,g,S,hg,rs,hl,p⟩:=h;simp![Aa,ei,Bs]at p;rw[Y2 (by rw[hl,Z9.np])]at p
  refine⟨Zw K (WE R E) ((Jh (Aa J fu d) fu).ex Fi.body),?_,_,ρ,g,jy Z9.ns rs (),hg,kK p⟩
  unfold B8 at hb;rw[Y2 (Qc.mpr XY)]at hb;refine cu (fD (okX (CX1 P w) (WE R E) Zj A outer s H E _ (.inl rfl) hr (λk C Z hC Y O H' s' e L u H0 I a1 a2 ⟨fs,a3,a4⟩ a5 a6 ⟨C',fo',Tp,q⟩ z1 z2=>?_) (λk C f hC u H ⟨C',fo',Tp,q⟩=>?_) ⟨E,vo λ_ _ _ z=>z,λ_ _ _ z=>z⟩) m) hb fu
  .rw [hC]at Tp
   cases Tp;refine leave_new I rfl rfl a1 a3 a4 a5 a6 ?_;rw[a2];cases Z with
   |none=>let⟨b1,rfl⟩:=z1 rfl;rw[b1];exact q
   |some f=>
    let⟨dx,v,b1,rfl,rfl,b2⟩:=z2 f rfl;let⟨v',b3,q⟩:=q;cases b3;rw[b1];exact q dx b2
  .rw [hC]at Tp
   cases Tp;let⟨v,b,_⟩:=q;exact⟨v,b⟩
def aaZ{xs:List V}(b:CV H)(h:SqL K H a xs):SqF K H a xs:=by
 rcases h with(h|h)|h
 .rcases b a with z|⟨o,ys,z⟩
  .rw [h]at z;cases z
  .rw [h]at z;cases z
 .exact .inl h
 .exact .inr h
def jT{ρ:List Addr}{H:Hp}:∀ns:List Int,RVs K ρ H (ns.map U.int) (ns.map V.int)
 |[]=>rfl
 |n::ns=>⟨.int n,ns.map V.int,rfl,rfl,jT ns⟩
def aaB{J:List Fn}{E:XK}(z:CV H)(u:SqL K H a (ns.map V.int)){g':G}(h:Aa J fu d i [.Zy (ns.map U.int)] []=.ok (.bl true) g'):
  TC K J d i 1 [.ref a] H (λv _=>v=.bl true) E:=by
 refine⟨fu,[],[],[.Zy (ns.map U.int)],⟨rfl,λi j a e=>by simp at e,λn a o e=>by simp at e⟩,⟨_,_,rfl,⟨a,_,rfl,aaZ z u,jT ns⟩,rfl⟩,rfl,?_⟩
 rw[h];exactλv B F _ _ r=>r
end
open PySem PySem.Spec PyProof.Rows L2 PySem.W
def jJ{b c:Type}{f g:b->Option c}:∀{l:List b},(∀x∈l,f x=g x)->l.filterMap f=l.filterMap g
 |[],_=>rfl
 |a::l,h=>by rw[Qt,Qt,h a (.head _),jJ λx d=>h x (.tail _ d)]
def ud:∀{ps:List Str} {S:List α},ps.Nodup->S.length=ps.length->(ps.filterMap λn=>((ps.zip S).lookup n).map (n,·))=ps.zip S:=by
 intro ps
 induction ps with
 |nil=>intro S _ _;cases S<;>rfl
 |cons p ps ih=>
  intro S nd j;cases S with
  |nil=>simp at j
  |cons u S=>
   have z:p ∉ ps:=(List.nodup_cons.mp nd).1;rw[Qt];simp![PJ,Qo,OW,Sl];congr 1;refine(jJ λx hx=>?_).trans (ih (List.nodup_cons.mp nd).2 (by simpa using j))
   have:(x==p)=false:=by
    rw[O6];rintro rfl;exact z hx
   simp![this]
def ly{b:Type}:∀{a:List Str} {S:List b},S.length=a.length ->∀x∈a,((a.zip S).lookup x).isNone=false
 |[],_,_,x,hx=>by simp at hx
 |p::a,[],hl,_,_=>by simp at hl
 |p::a,u::S,hl,x,hx=>by
  simp![PJ,Qo];cases e:x==p with
  |true=>rfl
  |false=>
   rcases Vh.mp hx with rfl|h
   .simp at e
   .exact ly (by simpa using hl) x h
def iA{S:List Value}(l:fd.params.posonlyargs=[])(k:fd.params.args.map (·.arg)=ps)(j:fd.params.vararg=none)(i:fd.params.kwonlyargs=[])(h:fd.params.kwarg=none)
  (g:fd.defaults=.none) (b:ps.Nodup) (a:S.length=ps.length):bindArgs fd ⟨S,[]⟩=pure (ps.zip S):=by
 unfold bindArgs;have e:(List.filter (λn=>((ps.zip S).lookup n).isNone) ps)=[]:=by
  rw[List.filter_eq_nil_iff];intro x c;rw[ly a x c];decide
 have m:=ud b a;have d:seqItems? Value.none=pure none:=rfl;have f : ¬ S.length > ps.length:=by omega
 simp![l,k,j,i,h,g,NJ,Pq,Qe,List.forIn_nil,pure_bind,d,Nx,Qn,Nat.zero_sub,List.drop_nil,Nat.sub_zero,List.take_length,e,List.drop_length,List.zip_nil_right,Og,QK,Wi,UP,Ry f,Na,m]
def kP{b:Addr}{o:Obj}:∀{l:List Obj} {n:Nat},(BN n l).lookup b=some o->n<=b/\l[b-n]?=some o/\o.data ≠ .freed
 |[],_,e=>by cases e
 |x::l,n,e=>by
  have B:(BN (n+1) l).lookup b=some o->n<=b/\(x::l)[b-n]?=some o/\o.data ≠ .freed:=λe=>by
   let⟨u,j,G⟩:=kP e;let⟨k,rfl⟩:=Nat.exists_eq_add_of_le u;rw[ND]at j;refine⟨Hv (Nat.le_succ n) u,?_,G⟩;rw[show n+1+k-n=k+1 by omega,NF]
   exact j
  unfold BN at e;split at e
  .exact B e
  .rename_i F
   rw[Qo]at e;split at e
   .rename_i z
    cases e;have:=eq_of_beq z;subst this;exact⟨Hx _,by rw[Nat.sub_self];rfl,F⟩
   .exact B e
def xG(h:Heap):(AO h).In h:=λb o e=>by
 let⟨_,a,c⟩:=kP e;rw[Nat.sub_zero,U9]at a;unfold Heap.get?;rw[a];split
 .rename_i q;cases q;exact absurd rfl c
 .rfl
def j4(h:Cq N ps sc=true):Ul N ps sc:=by
 simp![Cq,Yx,R6,Vw,Tc,QQ]at h;let⟨⟨⟨⟨⟨⟨a,b⟩,c⟩,d⟩,e⟩,f⟩,g⟩:=h;exact⟨a,b,c,d,e,f,g⟩
def BC(fd:FuncData)(b:List Stmt):Stmt:=.FunctionDef fd.name fd.params b [] none [] fd.scope none fd.name ⟨0,0,0,0⟩
def kT{v:Value}(h:DJ v=true):v=.none:=by cases v<;>first|rfl|cases h
def Jn:U->V
 |.int i=>.int i
 |.bl b=>.bl b
 |.str s=>.str s
 |_=>.ZJ
def nt{K:Frag}{a:Value}(h:CZ u a=true):RelV (Jn u) a /\∀ρ H,RV K ρ H u (Jn u):=by
 unfold CZ at h;split at h
 .cases HE h;exact⟨⟨_,rfl⟩,λ_ _=>rfl⟩
 .exact ⟨rfl,λ_ _=>rfl⟩
 .cases eq_of_beq h;exact⟨rfl,λ_ _=>rfl⟩
 .cases HE h;exact⟨⟨_,rfl⟩,λ_ _=>rfl⟩
 .cases h
def lE{K:Frag}:∀{S:List U} {e:List Value},CG S e=true->ZH (S.map Jn) e /\∀ρ H,RVs K ρ H S (S.map Jn)
 |[],[],_=>⟨.nil,λ_ _=>rfl⟩
 |[],_::_,h=>by cases h
 |_::_,[],h=>by cases h
 |u::S,v::vs,h=>by
  rw[CG,Yx]at h;let⟨a,b⟩:=nt (K:=K) h.1;let⟨c,d⟩:=lE (K:=K) h.2;exact⟨.cons a c,λρ H=>⟨_,_,rfl,b ρ H,d ρ H⟩⟩
def x5{K:Frag}{j:Value}(h:HU K u j=true):∃v,RelV v j /\∀ρ H,RV K ρ H u v:=by
 unfold HU at h;split at h
 .split at h
  .rename_i G ZU n F ho
   rw[Yx,Vw]at h;let⟨B,z⟩:=lE (K:=K) h.2;exact⟨.ref _,rfl,λρ H=>⟨_,_,rfl,⟨_,ZU,n,ho,rfl,rfl,Hv h.1 (by decide),B⟩,z ρ H⟩⟩
  .cases h
 .cases h
def za{K:Frag}{c:Value}(e:DY K u c=true):∃v,RelV v c /\∀ρ H,RV K ρ H u v:=by
 unfold DY at e;rw[QQ]at e;rcases e with e|e
 .obtain ⟨a,b⟩:=nt (K:=K) e;exact⟨_,a,b⟩
 .exact x5 e
def ab6{K:Frag}(X:K.In h)(G:h.Ns mainGlobals mg)(e:HV K (x,u)=true):∃v c,mg x=some c/\RelV v c /\∀ρ H,RV K ρ H u v:=by
 unfold HV at e;split at e
 .rename_i c d
  have f:mg x=some c:=mg_of X G d;let⟨v,a,b⟩:=za e;exact⟨v,c,f,a,b⟩
 .cases e
open PySem PySem.Spec PyProof.Rows L2 PySem.W PySem.Calls
def uY(h:(bm,newId)∈Dc):∃B a,ExcBaseFacts B newId a bm:=by
 unfold Dc at h;simp![Vh,Nw,NC,or_false]at h;rcases h with⟨rfl,rfl⟩|⟨rfl,rfl⟩|⟨rfl,rfl⟩
 .exact ⟨_,_,PySem.F.excBase_ZeroDivisionError⟩
 .exact ⟨_,_,PySem.F.excBase_ValueError⟩
 .exact ⟨_,_,PySem.F.excBase_LookupError⟩
def gx{o:Option α}{f:α->Bool}(h:o.any f=true):∃a,o=some a/\f a=true:=by
 cases o with
 |none=>cases h
 |some a=>exact⟨a,rfl,h⟩
def xN{K:Frag}{C:Addr}(h:Di K C=true):Vc K C:=by
 simp![Di,Yx,Sm]at h;let⟨⟨⟨⟨⟨⟨⟨a,b⟩,c⟩,d⟩,e⟩,f⟩,g⟩,i⟩:=h;exact⟨a,b,c,d,e,f,g,i⟩
def ab0{q:Str×Str}(h:HX e=some q):∃p a,e = .Attribute (.Name q.1 p) q.2 a:=by
 cases e with
 |Attribute o f a=>
  refine qM h λx b e=>?_;subst e;let⟨p,rfl⟩:=aE b;exact⟨p,a,rfl⟩
 |_=>exact qN h
def yL{g:List Stmt}{q:(Str×Str)×Str}(h:F5 g=some q):∃f c d pos,g=[.Assign [.Attribute (.Name q.1.1 f) q.1.2 c] (.Name q.2 d) pos]:=by
 refine qB h λs j h=>qB h λb l h=>qB h λt i h=>qB h λa m h=>qM h λp k e=>?_;let⟨pos,rfl⟩:=jU l;subst e;let⟨f,c,rfl⟩:=ab0 m;let⟨d,n⟩:=aE k;rw[dO j,dO i,n];exact⟨f,c,d,pos,rfl⟩
def wo{K:Frag}{C:Addr}{e:ClassData}{o:Obj}(h:clsIn K C=some e)(f:K.lookup C=some o):o.data=.cls e:=by
 unfold clsIn at h;rw[f]at h;let⟨a,b,g,d⟩:=o;cases g with
 |cls c=>cases h;rfl
 |_=>cases h
def zD{K:Frag}{fd:FuncData}(h:Fv K a=some fd):∃b c,K.lookup a=some ⟨.type "function",b,.func fd,c⟩:=by
 refine qB h λo ho h=>qI h λd h=>?_;let⟨f,b,e,c⟩:=o;cases Sm.mp d;cases e with
 |func g=>cases h;exact⟨b,c,ho⟩
 |_=>exact qN h
def wd{b:FuncBody}{a:List Stmt}(h:EN b=some a):b=.stmts a:=by
 cases b with
 |stmts b=>cases h;rfl
 |_=>exact qN h
def uy{K:Frag}{N:Addr}{n:Str}{v:Value}(X:K.In h)(G:h.Ns N mg)(e:nsIn K N n=some (some v)):mg n=some v:=by
 let⟨o,k,l,ho,f,_,a⟩:=G;unfold nsIn at e;split at e
 .rename_i c d g j i q
  have:=X _ _ q;rw[ho]at this;cases this;cases f;split at e
  .rename_i m b
   cases e;rw[<-a];unfold nsFind findBy;rw[<-Array.find?_toList,b]
   rfl
  .split at e<;>cases e
 .cases e
def zI:∀{l:List α} {a:α},l.length=6->l[4]?=some a ->∃k0 k1 k2 k3 k5,l=[k0,k1,k2,k3,a,k5]
 |[k0,k1,k2,k3,b,k5],a,_,h=>by cases h;exact⟨k0,k1,k2,k3,k5,rfl⟩
def xD{K:Frag}{C:Addr}(X:K.In h)(q:C8 K C YC newId fI=true):
  ∃bm N nm q bs hdct sn sub ab col dd k0 k1 k2 k3 k5 mN,h.get? C=some (excClassObj nm q C N bs bm hdct sn sub ab col dd k0 k1 k2 k3 k5 newId)/\h.Ns N mN/\mN "__init__" = some (.ref fI)/\OwnTail h YC bm:=by
 unfold C8 at q;cases ho:K.lookup C with
 |none=>rw[ho]at q;cases q
 |some o=>
  rw[ho]at q;simp![Yx,Sm,Vw]at q;let⟨⟨⟨S,R⟩,h4⟩,hc⟩:=q;let⟨cd,Y_,hc⟩:=gx hc;let⟨cl,dd,Z,⟨l⟩⟩:=o;cases S;let⟨k0,k1,k2,k3,k5,rfl⟩:=zI (by simpa using R) (by simpa using h4)
  have B:Z=.cls cd:=wo Y_ ho;subst B;let⟨nm,bs,j,ns,G,hd,sn,sub,ab,col,del⟩:=cd;simp![HW,Yx,R6,Sm]at hc;let⟨⟨⟨rfl,z⟩,ZK⟩,u⟩:=hc;cases j with
  |nil=>cases z
  |cons v bm=>
   simp![FX,Yx,Sm]at z;let⟨rfl,L⟩:=z;have F:h.Ns ns (h.nsMap ns):=.of_isNs (isNs_of_in X ZK);exact⟨bm,ns,nm,G,bs,hd,sn,sub,ab,col,dd,k0,k1,k2,k3,k5,_,X _ _ ho,F,uy X F u,tail_of_in X L⟩
def vb{K:Frag}{C:Addr}{f:Str}(h:E9 K fI f=true):SW K C fI f:=by
 let⟨a,g,h⟩:=gx h;let⟨v,I,A⟩:=zD g;simp![Yx,Sm,Oh]at h;let⟨⟨⟨⟨⟨F,E⟩,e⟩,D⟩,G⟩,h⟩:=h;have e:=kT e;let⟨⟨⟨b,B⟩,p⟩,d,h⟩:=gx h;refine qB d λss z d=>?_;let⟨k,i,j,c,rfl⟩:=yL d;have hb:=wd z;simp![Yx,Vw]at h;let⟨⟨⟨⟨rfl,H⟩,l⟩,x⟩,w⟩:=h;have sc:=j4 H;simp![CD,Yx,Vw,Oh,Oi]at l;let⟨⟨⟨⟨u,t⟩,s⟩,r⟩,o⟩:=l;have g:a=fnOf a.name a.qualname a.params [.Assign [.Attribute (.Name b k) B i] (.Name p j) c] a.scope .none a.kwdefaults a.doc a.pyModule a.annotations a.code a.closureTuple:=by
  let⟨n,q,L,U,m,gl,Q,N,M,O,J,an,R,P,T⟩:=a;simp only at *;subst F;subst E;subst e;subst D;subst hb
  rfl
 refine⟨.type "function",v,a.name,a.qualname,b,p,a.params,a.scope,.none,a.kwdefaults,a.doc,a.pyModule,a.code,a.closureTuple,a.annotations,I,k,j,i,c,by rw[<-g];exact A,rfl,G,sc,?_,x,w⟩
 exact .all λS y=>iA u t s r o rfl (by have:=sc.nd;exact this) y
def yf{K:Frag}{C:Addr}(X:K.In h)(G:h.Ns mainGlobals mg)(e:Cw K (x,fo,as)=some C):∀base:Heap,K.In base->base.Ns mainGlobals mg->XC K mg base x fo as C:=by
 intro base g j;unfold Cw at e;split at e
 .rename_i C' R
  split at e
  .rename_i m
   cases e;simp![Yx]at m;let⟨⟨c,W⟩,V⟩:=m;have mk:C3 base C/\XMk K mg base x C fo:=by
    cases fo with
    |none=>cases c
    |some f=>
     simp![HY]at c;split at c
     .rename_i S UB
      simp![Yx]at c;let⟨⟨U,JP⟩,n⟩:=c;let⟨⟨Y,a⟩,O,L⟩:=NG.mp U;let⟨B,Yi,o⟩:=uY O;have Z9:=xD g L;simp![setB,Yx,Sm]at n;let⟨⟨⟨⟨A,w⟩,v⟩,t⟩,s⟩:=n;refine⟨?_,S,Y,a,B,Yi,Z9,o,⟨A,w,v,t⟩,vb JP,s⟩;let⟨l,N,nm,q,bs,d,r,sub,Z,k,dd,J,I,H,F,k5,mN,Q,hN,hi,TL⟩:=Z9;exact⟨l,N,nm,q,bs,d,r,sub,Z,k,dd,J,I,H,F,k5,a,Q,TL.hasType o.hasBase⟩
     .cases c
   refine⟨mg_of g j R,mk.1,mk.2,xN W,λy b M=>?_⟩;have:=Tc.mp V (y,b) (mem_of_lookup M);simp![Ft,Yx]at this;let⟨p,this⟩:=this;let⟨o1,o2,E⟩:=aF p;split at this
   .rename_i i
    split at this
    .rename_i T P
     exact⟨.type T,.ty T,rfl,λu z=>z,.inl ⟨P,mg_none_of g j i,E⟩,o1,Sm.mp this⟩
    .cases this
   .rename_i D i
    exact⟨.ref D,.ref D,rfl,λu z=>z,.inr (mg_of g j i),o1,Sm.mp this⟩
   .cases this
  .cases e
 .cases e
open PySem PySem.Spec PyProof.Rows L2 PySem.W
def BJ(T:Tab)(K:Frag)(i:Inf):Option Fn:=mkF T (i,Bq K i)
def wH{T:Tab}{i:Inf}{o:Option (Scope×List Stmt)}{F:Fn}(h:mkF T (i,o)=some F):∃r,o=some r/\(Ac (r.2.map (B8 T i.x r.1 i.N 60))).map (λa=>(⟨i.ps.length,i.N.length,a⟩:Fn))=some F:=by
 cases o with
 |none=>cases h
 |some r=>exact⟨r,rfl,h⟩
def nI{K:Frag}(X:K.In h)(G:h.Ns mainGlobals mg){i:Inf}{fi:FI}(b:fi.x=i.x)(c:fi.cm=i.cm)(e:DH K i=some a):FAt K mg fi a:=by
 unfold FAt;rw[c,b];unfold DH at e;split at e
 .rename_i f
  try rw[f]
  split at e
  .rename_i d;cases e;exact mg_of X G d
  .cases e
 .cases e
def Plain(K:Frag)(mg:Str->Option Value)(i:Inf)(fi:FI):Prop:=
 i.cm=none ->∀f a,mg fi.x=some (.ref f)->Si K fi.nm fi.x fi.st f a ->∀S:List Value,S.length=i.ps.length->bindArgs a ⟨S,[]⟩=pure (i.ps.zip S)
def yQ{T:Tab}{K:Frag}{i:Inf}{F:Fn}(X:K.In h)(G:h.Ns mainGlobals mg)(e:BJ T K i=some F):
  ∃fi:FI,fi.x=i.x/\fi.ps=i.ps/\fi.cm=i.cm /\
  FOk T K mg fi F/\Plain K mg i fi:=by
 unfold BJ at e;let⟨r,d,e⟩:=wH e;unfold Bq at d;split at d
 .rename_i a s
  split at d
  .rename_i JH I c v p
   split at d
   .rename_i b L
    split at d
    .rename_i o
     cases d;simp![Yx]at o;let⟨⟨⟨⟨t,Y⟩,m⟩,W⟩,V⟩:=o;have sc:=j4 Y;simp![EL,Yx,Vw,Sm,Oh]at t;let⟨⟨⟨⟨R,JP⟩,Q⟩,P⟩,O⟩:=t;let⟨b',Z,rfl⟩:=Vu.mp e;have Wb:i.ps.Nodup:=by rw[<-sc.pre];exact sc.nd.sublist (PZ _ _)
     have To:c=fnOf i.nm i.x (BY (BC c b)) (BZ (BC c b)) (AH (BC c b)) c.defaults c.kwdefaults c.doc c.pyModule c.annotations c.code c.closureTuple:=by
      let⟨n,q,pa,bo,w,gl,cl,de,kw,dc,y,an,cd,U,bu⟩:=c;simp![BC,BY,BZ,AH]at *;subst R;subst JP;subst Q;subst P;subst O;subst L
      rfl
     have u:∀S:List Value,S.length=i.ps.length->bindArgs c ⟨S,[]⟩=pure (i.ps.zip S):=λS j=>by
      unfold FU at m;simp![CD,Yx,Vw,Oh,Oi]at m;let⟨⟨⟨⟨⟨E,D⟩,C⟩,B⟩,A⟩,z⟩:=m;exact iA E D C B A (kT z) Wb j
     have Vi:(⟨i.x,BC c b,i.N,i.ps,i.cm⟩:FI).nm=i.nm:=rfl;refine⟨⟨i.x,BC c b,i.N,i.ps,i.cm⟩,rfl,rfl,rfl,⟨sc,rfl,rfl,⟨60,Z⟩,a,c,nI X G rfl rfl s,⟨⟨JH,I,c.defaults,c.kwdefaults,c.doc,c.pyModule,c.annotations,c.code,c.closureTuple,v,by rw[Vi];exact To,p,W⟩,V⟩,.all λS j=>u S j⟩,λl f Wu k M S j=>?_⟩
     have g:FAt K mg ⟨i.x,BC c b,i.N,i.ps,i.cm⟩ a:=nI X G rfl rfl s;unfold FAt at g;dsimp only at g;rw[l]at g;have k:mg i.x=some (.ref f):=k;rw[show mg i.x=some (.ref a)from g]at k;cases k;let⟨J,H,dV,H8,doc,y,an,Zj,U,YM,_,lk,_⟩:=M.ex;rw[p]at lk;cases lk;exact u S j
    .cases d
   .cases d
  .cases d
 .cases d
noncomputable def Inf.tn(i:Inf):Str:=if i.cm.isSome then "__debug__" else i.x
def allFrom(T:Tab)(K:Frag)(is:List Inf):Option (List Fn):=if HZ T K&&T.cs.all (HV K)then Ac (is.map (BJ T K))else none
def jP{T:Tab}{K:Frag}{h:Heap}{mg:Str->Option Value}(X:K.In h)(G:h.Ns mainGlobals mg):∀{is:List Inf} {J:List Fn},Ac (is.map (BJ T K))=some J ->
  ∃d:List FI,d.map FI.tn=is.map Inf.tn/\AllOk T K mg d J /\∀(j:Nat) (i:Inf),is[j]?=some i ->∃fi,d[j]?=some fi/\fi.x=i.x/\fi.ps=i.ps/\fi.cm=i.cm /\
   Plain K mg i fi
 |[],J,e=>by cases e;exact⟨[],rfl,trivial,λj i h=>by simp at h⟩
 |i::is,J,e=>by
  rw[W1]at e;cases q:BJ T K i with
  |none=>rw[q]at e;cases e
  |some F=>
   rw[q]at e;let⟨r,m,rfl⟩:=Vu.mp e;let⟨d,a,b,c⟩:=jP X G m;let⟨fi,f1,f2,f,l,g⟩:=yQ X G q;refine⟨fi::d,by simp[a,FI.tn,Inf.tn,f1,f],⟨l,b⟩,λj k h=>?_⟩
   cases j with
   |zero=>simp at h;subst h;exact⟨fi,rfl,f1,f2,f,g⟩
   |succ j=>exact c j k (by simpa using h)
def EH(T:Tab)(is:List Inf)(J:List Fn)(h:Heap):Prop:=∃K:Frag,K.In h/\allFrom T K is=some J
def vM{T:Tab}{J:List Fn}{K:Frag}(k:T.J=is.map Inf.tn)(X:K.In h)(e:allFrom T K is=some J)(G:h.Ns mainGlobals mg):
  ∃f:List FI,Rt T K mg f J /\∀(j:Nat) (i:Inf),is[j]?=some i ->∃fi,f[j]?=some fi/\fi.x=i.x/\fi.ps=i.ps/\fi.cm=i.cm /\
   Plain K mg i fi:=by
 unfold allFrom at e;split at e
 .rename_i d
  simp![Yx]at d;let⟨d,l⟩:=d;unfold HZ at d;rw[Yx]at d;have d:=d.1;let⟨f,a,b,c⟩:=jP X G e;refine⟨f,⟨k.trans a.symm,b,λx u h=>ab6 X G (Tc.mp l (x,u) (mem_of_lookup h)),λx g=>?_⟩,c⟩
  .have:=Tc.mp d x g
   cases q:nsIn K mainGlobals x with
   |none=>rw[q]at this;cases this
   |some v=>
    cases v with
    |some v=>rw[q]at this;cases this
    |none=>exact mg_none_of X G q
 .cases e
def wM{T:Tab}{J:List Fn}{K:Frag}(X:K.In h)(e:allFrom T K is=some J)(G:h.Ns mainGlobals mg):EZ T (T.xc.map λc=>((Cw K c).getD 0,c.2.1)) K mg:=λk x d as hk=>by
 unfold allFrom at e;split at e
 .rename_i a
  simp![Yx]at a;have a:=a.1;unfold HZ at a;rw[Yx]at a;let⟨C,b⟩:=Qs.mp (Tc.mp a.2 (x,d,as) (TY hk));refine⟨C,?_,yf X G b⟩;rw[VV,hk,Sl,b]
  rfl
 .cases e
def acU{l:OpenLaw}{q:Program}{loose:List Str}{XP:(Str->Option Value)->Heap->Prop}{S:DefRec}{T:Tab}{J:List Fn}
  (hn:l.most=some 63) (R:S.params.defaults=[]) (hr:Y9 (2*d+2) callerA) (Vi:T.J=is.map Inf.tn) (hi:is[i]?=some ⟨S.name,N,[x],none⟩)
  (Sh:∀ns:List Int,ns.length<=63 ->∃fu g',Aa J fu d i [.Zy (ns.map U.int)] []=.ok (.bl true) g') :
  WalkO q loose XP (λ_ h=>EH T is J h) l.row.toRowW S [] (λf vs=>PySem.call f vs):=by
 refine Att.attach_call hn R λw ZG ZE mg mb fa o pm cd doc a vs ns G Z_ ho hd Y_ L SI B j hg=>?_;let⟨K,Z,hK⟩:=Z_;let⟨YD,PG,hf⟩:=vM Vi Z hK G.T.g;let⟨fi,e1,e2,e3,e5,e4⟩:=hf i _ hi;let⟨Fi,ei,Z9⟩:=PG.all.get e1;let⟨f,fd,m1,m2,m3⟩:=Z9.obj;unfold FAt at m1;rw[e5]at m1;have F:mg fi.x=some (.ref f):=m1;have m1:=F;rw[e2,L]at m1;cases m1;refine v9 (CX:=V3) (k:=2*d+2) (x:=x) (fd:=fd) (sp:=TC K J d i 1) Z G.T.g G.T.b G.T.builtins G.T.nolimit hg SI B (Hv j (by decide)) hr (λbase kb nb=>?_) (λs u=>?_) (λH hO hS=>?_) λH e s' z=>z
 .have:=(oP (P:=l.prog) (w:=w) (base:=base) PG (wM Z hK G.T.g) kb nb d i fi e1 fa fd m2).1
  rw[e3]at this;exact this
 .exact .of_eq (e4 rfl fa fd F m2 [u] rfl)
 .obtain ⟨fu,g',e⟩:=Sh ns j
  exact aaB hO hS e
open PySem PySem.Spec PyProof.Rows L2 PySem.W PySem.Calls
noncomputable section
def ym(p:Program)(w:World)(N:Nat):openEnds treeTable p w N=endsF p w N:=by
 unfold openEnds fencedOpening topFrom endsF Fx;rw[Fast.te10274390034422433532,Fast.te14364793385576792824,Fast.te1435165496053646825,Fast.te14289696077712309145,Fast.te14082659384304107361]
 rfl
def Ba(p:Program):DefRec:=match p.main.body.getD (p.main.body.length-1) (.Pass ⟨0,0,0,0⟩)with
 |.FunctionDef n a b _ _ _ sc _ _ ps=>⟨n,a,b,sc,ps⟩
 |_=>⟨"",BY (.Pass ⟨0,0,0,0⟩),[],AH (.Pass ⟨0,0,0,0⟩),⟨0,0,0,0⟩⟩
def aa8{c:Type}{o:Option α}{f:α->β}{g:α->c}{a:β}{b:c}(h:o.map (λs=>(f s,g s))=some (a,b)):o.map f=some a:=by
 cases o with
 |none=>cases h
 |some s=>cases h;rfl
def abe{c:Type}{o:Option α}{f:α->β}{g:α->c}{a:β}{b:c}(h:o.map (λs=>(f s,g s))=some (a,b)):o.map g=some b:=by
 cases o with
 |none=>cases h
 |some s=>cases h;rfl
def kG{d c:Type}{f:d->Option c}:∀{l m:List d} {a b:List c},Ac (l.map f)=some a->Ac (m.map f)=some b->Ac ((l++m).map f)=some (a++b)
 |[],m,a,b,h1,h2=>by cases h1;exact h2
 |x::l,m,a,b,h1,h2=>by
  rw[W1]at h1;rw[OU,W1];cases hx:f x with
  |none=>rw[hx]at h1;cases h1
  |some y=>
   rw[hx]at h1;cases hl:Ac (l.map f)with
   |none=>simp![Ac,hl]at h1;cases h1
   |some ys=>
    have ih:=kG hl h2;simp![Ac,hl]at h1;simp![Ac,ih];cases h1
    rfl
def fG{f:α->Option β}{l:List α}{m:List β}{k c:Nat}(b:Ac ((l.take k).map f)=some (m.take k))(a:Ac (((l.drop k).take c).map f)=some ((m.drop k).take c)):Ac ((l.take (k+c)).map f)=some (m.take (k+c)):=by
 rw[OY,OY];exact kG b a
def w9{o:Option Shared}{k c:Nat}(a:o.map (λs=>(is.take k).map (Bq (AO s.heap)))=some (rs.take k))(b:o.map (λs=>((is.drop k).take c).map (Bq (AO s.heap)))=some ((rs.drop k).take c)):o.map (λs=>(is.take (k+c)).map (Bq (AO s.heap)))=some (rs.take (k+c)):=by
 cases o with
 |none=>cases a
 |some s=>
  simp![Sl,Xl]at a b ⊢;rw[OY,OY,Ph,a,b]
def aaM{o:Option Shared}{f:Shared->β}{b:β}{T:Tab}{J:List Fn}{k:Nat}(a:o.map (λs=>D4 T (AO s.heap) is)=some true)(d:o.map f=some b)
  (c:o.map (λs=>(is.take k).map (Bq (AO s.heap)))=some (rs.take k)) (h:Ac (((is.zip rs).take k).map (mkF T))=some (J.take k)) (e:is.length<=k) (j:J.length<=k) (g:rs.length<=k):o.map (λs=>(f s,allFrom T (AO s.heap) is))=some (b,some J):=by
 rw[Qq (Hv (List.length_zip ▸ Nat.min_le_left _ _) e),Qq j]at h;rw[Qq e,Qq g]at c;cases o with
 |none=>cases a
 |some s=>
  simp![Sl,Xl,Nw]at a d c ⊢;refine⟨d,?_⟩;unfold allFrom;unfold D4 at a;rw[Y2 a,<-h];congr 1;rw[<-c];generalize is=l
  induction l with
  |nil=>rfl
  |cons i l ih=>rw[W1,W1,PJ,W1,ih,BJ]
def zQ{l:OpenLaw}{T:Tab}{J:List Fn}{loose N0:List Str}{N:Nat}
  (j:Fast.tw9446332074065402090 l=true)
  (B:∀w,(endsF l.prog w N).map (λs=>(Fast.tw4187177175401517315 (lastOf l.prog) loose (importedModules l.prog.main.body) (λ_=>true) true s,allFrom T (AO s.heap) is))=some (openGood (lastOf l.prog) loose,some J))
  (L:defOf (lastOf l.prog) l.name=some (Ba l.prog,[])) (G:l.prog.theDef l.name=some ((Ba l.prog).params,(Ba l.prog).body,(Ba l.prog).scope)) (F:kwWritten? (Ba l.prog).params.kwonlyargs (Ba l.prog).params.kw_defaults=some [])
  (h4:(Ba l.prog).params.defaults=[])
  (ok:(chainsOk (lastOf l.prog)&&opensWell l.prog&&(frees l.row.toRowW&&l.row.within.isEmpty))=true) (hb:l.prog.bare) (u:l.row.toRowW.promised)
  (hn:l.most=some 63) (z:Y9 (2*d+2) callerA) (R:T.J=is.map Inf.tn) (hi:is[i]?=some ⟨(Ba l.prog).name,N0,[x],none⟩)
  (S:∀ns:List Int,ns.length<=63 ->∃fu g',Aa J fu d i [.Zy (ns.map U.int)] []=.ok (.bl true) g'):l.Holds:=by
 have sd:l.wellSaid=true:=by rw[Fast.te9446332074065402090];exact j
 refine holds_law sd λZ=>?_;refine holds_open (r:=l.row) (q:=lastOf l.prog) (loose:=loose) (Xt:=λ_=>true) (XP:=λ_ _=>True) (Yf:=λs=>allFrom T (AO s.heap) is) (Ya:=λ_=>some J) (YP:=λ_ h=>EH T is J h) (N:=N) (d:=Ba l.prog) (kwd:=[]) ?_
  (λw s e=>⟨AO s.heap,xG _,e⟩) (λw h h' ⟨K,k1,k2⟩ hk=>⟨K,k1.keeps hk,k2⟩) (λ_ _=>trivial) (λ_ _ _ _ _=>trivial) L G F (λs _=>recFacts_nil rfl) (by simp[OpenLaw.row]) Z ok hb u (acU hn h4 z R hi S)
 intro w;have:=B w;rw[<-ym,<-Fast.te4187177175401517315]at this;exact this
end
end
end PI
section
open PySem PySem.W PyProof.Rows
def ZD.all(w:World):(PI.endsF PySem.Challenge.rw_braemantle_k17_chains_that_ask.prog w 20000).map (λs=>(Fast.tw4187177175401517315 (PI.lastOf PySem.Challenge.rw_braemantle_k17_chains_that_ask.prog) ZD.loose (PySem.importedModules (PySem.Challenge.rw_braemantle_k17_chains_that_ask.prog.main.body)) (λ_=>true) true s,PI.allFrom ZD.T (PI.AO s.heap) ZD.Bg))=some (openGood (PI.lastOf PySem.Challenge.rw_braemantle_k17_chains_that_ask.prog) ZD.loose,some ZD.J):=PI.aaM (k:=33) (PI.abe (ZD.R7 w)) (PI.aa8 (ZD.R7 w)) (PI.w9 (k:=26) (c:=7) (ZD.chk1 w) (ZD.chk2 w)) (PI.fG (k:=32) (c:=1) (PI.fG (k:=24) (c:=8) (PI.fG (k:=14) (c:=10) (ZD.part0) ZD.part1) ZD.part2) ZD.part3) (by decide) (by decide) (by decide)
end
variable{W:PI.XQ}
namespace PI
noncomputable section
noncomputable def Out.le{a:Type}(o o':Out a):Prop:=o=.ZX\/o=o'
def Out.le.rfl{o:Out α}:o.le o:=.inr (Eq.refl _)
def Out.le.bot{o:Out α}:(Out.ZX:Out α).le o:=.inl (Eq.refl _)
def Out.le.trans{a b c:Out α}(h:a.le b)(k:b.le c):a.le c:=by
 rcases h with rfl|rfl
 .exact .bot
 .exact k
def ah{o o':Out α}{k b:α->G->Out β}(h:o.le o')(d:∀a g,(k a g).le (b a g)):(o.bind k).le (o'.bind b):=by
 rcases h with rfl|rfl
 .exact .bot
 .cases o with
  |ok a g=>exact d a g
  |exc c fs g=>exact .rfl
  |ZX=>exact .bot
def aY{o o':Out α}{k b:α->G->Out β}(h:o.le o')(d:∀a g,(k a g).le (b a g)):(o.bindB k).le (o'.bindB b):=by
 rcases h with rfl|rfl
 .exact .bot
 .cases o with
  |ok a g=>exact d a g
  |exc c fs g=>exact .rfl
  |ZX=>exact .bot
def aD{o o':Out α}(h:o.le o'):o.Zd.le o'.Zd:=by
 rcases h with rfl|rfl
 .exact .bot
 .exact .rfl
def xK{o o':Out U}{c:Nat}{xs:List (Option U)}{O:Su}(h:o.le o'):(Bc o j c xs O).le (Bc o' j c xs O):=by
 rcases h with rfl|rfl
 .exact .bot
 .exact .rfl
abbrev CC:=Nat->List U->G->Out U
structure Z7.le(r r':Z7):Prop where
 ev:∀e O g,(r.ev e O g).le (r'.ev e O g)
 ts:∀e O g,(r.ts e O g).le (r'.ts e O g)
 ex:∀e O g,(r.ex e O g).le (r'.ex e O g)
 wh:∀e b O g,(r.wh e b O g).le (r'.wh e b O g)
 fr:∀t it i b O g,(r.fr t it i b O g).le (r'.fr t it i b O g)
 cm:∀it i t cs ZS elt ZQ O g,(r.cm it i t cs ZS elt ZQ O g).le (r'.cm it i t cs ZS elt ZQ O g)
section
variable{C C':CC}{r':Z7}
def aH{f b:E->Su->G->Out U}(h:∀e O g,(f e O g).le (b e O g)):∀a O g,(IX f a O g).le (IX b a O g)
 |[],_,_=>.rfl
 |e::a,O,g=>ah (h e O g) λ_ _=>ah (aH h a _ _) λ_ _=>.rfl
def nk{f a:E->Su->G->Out U}(h:∀e O g,(f e O g).le (a e O g)):∀e O g,(IY f e O g).le (IY a e O g)
 |none,_,_=>.rfl
 |some e,O,g=>ah (h e O g) λ_ _=>.rfl
def dX{f b:E->Su->G->Out Bool}(h:∀e O g,(f e O g).le (b e O g)):∀a O g,(As f a O g).le (As b a O g)
 |[],_,_=>.rfl
 |e::a,O,g=>ah (h e O g) λk _=>by
  cases k
  .exact .rfl
  .exact dX h a _ _
local macro_rules | `(tactic| sleep 8) => `(tactic| (repeat (first | exact Out.le.rfl | exact Out.le.bot | assumption | apply Z7.le.ev | apply Z7.le.ts | apply Z7.le.ex | apply Z7.le.wh | apply Z7.le.fr | apply Z7.le.cm | apply aH | apply nk | apply dX | apply ah | apply aY | intro _ | split)))
def bZ(h:r.le r')(e:E)(O:Su)(g:G):(I8 r e O g).le (I8 r' e O g):=by
 unfold I8;split<;>sleep 8
def va{C C':CC}(a:∀f S g,(C f S g).le (C' f S g)){op:Cp}{x y:U}{g:G}:(BK C op tb x y g).le (BK C' op tb x y g):=by
 cases op with
 |eq=>
  simp![BK];cases BR tb x y g with
  |none=>exact .rfl
  |some p=>exact ah (a _ _ _) λ_ _=>.rfl
 |ne=>
  simp![BK];cases BR tb x y g with
  |none=>exact .rfl
  |some p=>exact ah (a _ _ _) λ_ _=>.rfl
 |WO=>
  simp![BK];cases FE y g with
  |none=>exact .rfl
  |some w=>
   dsimp only;split
   .cases BR tb w x g with
    |none=>exact .rfl
    |some p=>exact ah (a _ _ _) λ_ _=>.rfl
   .exact .rfl
 |_=>exact .rfl
def gL(d:∀f S g,(C f S g).le (C' f S g))(h:r.le r')(e:E)(O:Su)(g:G):(I9 C r e O g).le (I9 C' r' e O g):=by
 cases e with
 |call f es=>exact ah (aD (aH h.ev _ _ _)) λS g=>d f S g
 |oeq op tb a b=>exact ah (h.ev _ _ _) λx g=>ah (h.ev _ _ _) λy g=>va d
 |SS f es ks pm=>
  refine ah (aD (aH h.ev _ _ _)) λS g=>ah (aD (aH h.ev _ _ _)) λws g=>?_;split
  .exact d _ _ _
  .exact .rfl
 |make c f es ks pm=>
  refine ah (aD (aH h.ev _ _ _)) λS g=>ah (aD (aH h.ev _ _ _)) λws g=>?_;split
  .exact ah (d _ _ _) λu g=>.rfl
  .exact .rfl
 |SR a j tb es ks=>
  refine ah (aD (h.ev _ _ _)) λx g=>?_;split
  .refine ah (aD (aH h.ev _ _ _)) λS g=>ah (aD (aH h.ev _ _ _)) λws g=>?_
   split
   .exact d _ _ _
   .exact .rfl
  .exact .rfl
 |comp own fr gs elt=>
  cases gs with
  |nil=>exact .rfl
  |cons t ZS=>
   let⟨t,it,l⟩:=t;exact ah (bZ h _ _ _) λi g=>aY (h.cm _ _ _ _ _ _ _ _ _) λ_ _=>.rfl
 |V8 own fr gs k v=>
  cases gs with
  |nil=>exact .rfl
  |cons t ZS=>
   let⟨t,it,l⟩:=t;exact ah (bZ h _ _ _) λi g=>aY (h.cm _ _ _ _ _ _ _ _ _) λ_ _=>.rfl
 |dgt o k x=>
  refine ah (h.ev _ _ _) λx g=>?_;split
  .exact ah (h.ev _ _ _) λ_ g=>ah (h.ev _ _ _) λ_ g=>.rfl
  .exact .rfl
 |_=>delta I9;dsimp only;sleep 8
def gH(h:r.le r')(e:E)(O:Su)(g:G):(Ja r e O g).le (Ja r' e O g):=by
 unfold Ja;split<;>sleep 8
def nG(h:r.le r')(s:Z6)(O:Su)(g:G):(Jc r s O g).le (Jc r' s O g):=by
 cases s with
 |«for» t it b=>exact ah (bZ h _ _ _) λi g=>h.fr _ _ _ _ _ _
 |Zi b=>exact aD (h.ex _ _ _)
 |V7 c a b=>exact ah (aD (h.ts _ _ _)) λk g=>by cases k<;>exact h.ex _ _ _
 |R8 t it b=>exact ah (aD (bZ h _ _ _)) λi g=>h.fr _ _ _ _ _ _
 |raise c es=>exact ah (aD (aH h.ev _ _ _)) λS g=>.rfl
 |U4 j f es c xs=>exact xK (h.ev _ _ _)
 |_=>delta Jc;dsimp only;sleep 8
def gz(h:r.le r')(a:List Z6)(O:Su)(g:G):(Jd r a O g).le (Jd r' a O g):=by
 cases a with
 |nil=>exact .rfl
 |cons s ZS=>exact ah (nG h _ _ _) λf g=>by cases f<;>sleep 8
def gE(h:r.le r')(c:E)(b:List Z6)(O:Su)(g:G):(Je r c b O g).le (Je r' c b O g):=by
 unfold Je;sleep 8
def gG(h:r.le r')(t:Tg)(it:Iter)(i:Nat)(b:List Z6)(O:Su)(g:G):(Jf r t it i b O g).le (Jf r' t it i b O g):=by
 unfold Jf;sleep 8
def gv(h:r.le r')(it:Iter)(i:Nat)(t:Tg)(c:List E)(b:List (Tg×E×List E))(a:E)(d:List U)(O:Su)(g:G):(Jg r it i t c b a d O g).le (Jg r' it i t c b a d O g):=by
 unfold Jg;split
 .sleep 8
 .sleep 8
 .split
  .split
   .sleep 8
   .refine aY (dX h.ts _ _ _) λk g=>?_
    split
    .cases b with
     |nil=>exact aY (h.ev _ _ _) λv g=>by sleep 8
     |cons t b=>
      let⟨e,f,l⟩:=t;exact aY (bZ h _ _ _) λj g=>aY (h.cm _ _ _ _ _ _ _ _ _) λ_ _=>h.cm _ _ _ _ _ _ _ _ _
    .sleep 8
  .sleep 8
def az(a:∀f S g,(C f S g).le (C' f S g)):∀{m n:Nat},m<=n->(Jh C m).le (Jh C' n)
 |0,n,_=>⟨λ_ _ _=>.bot,λ_ _ _=>.bot,λ_ _ _=>.bot,λ_ _ _ _=>.bot,λ_ _ _ _ _ _=>.bot,λ_ _ _ _ _ _ _ _ _=>.bot⟩
 |m+1,0,h=>absurd h ()
 |m+1,n+1,h=>by
  have ih:=az a (m:=m) (n:=n) ()
  exact⟨gL a ih,gH ih,gz ih,gE ih,gG ih,gv ih⟩
def zk(a:∀f S g,(C f S g).le (C' f S g))(h:m<=n)(F:Fn)(S:List U)(g:G):(Bs m C F S g).le (Bs n C' F S g):=by
 unfold Bs;split
 .exact ah ((az a h).ex _ _ _) λf g=>.rfl
 .exact .rfl
def fz{J:List Fn}{m n:Nat}(h:m<=n):∀(d f:Nat) (S:List U) (g:G),(Aa J m d f S g).le (Aa J n d f S g)
 |0,_,_,_=>.rfl
 |d+1,f,S,g=>by
  simp![Aa];split
  .exact zk (fz h d) h _ _ _
  .exact .rfl
end
abbrev XP:=Nat->List U->G->Prop
def holds{b:Type}(o:Out b)(X:XP)(Q:b->G->Prop):Prop:=match o with
 |.ok a g=>Q a g
 |.exc c fs g=>X c fs g
 |.ZX=>False
def wp{a:Type}(f:Nat->Out a)(X:XP)(Q:a->G->Prop):Prop:=∃n,holds (f n) X Q
def Aq{a:Type}(f:Nat->Out a):Prop:=∀m n,m<=n->(f m).le (f n)
section
variable{f f':Nat->Out α}{k k':Nat->α->G->Out β}{X:XP}{Q:α->G->Prop}{R:β->G->Prop}
def dG{o o':Out α}(h:o.le o')(q:holds o X Q):holds o' X Q:=by
 rcases h with rfl|rfl
 .exact q.elim
 .exact q
def fh{o:Out α}{k:α->G->Out β}:holds (o.bind k) X R↔holds o X λa g=>holds (k a g) X R:=by cases o<;>exact Y1
def ig{o:Out α}{k:α->G->Out β}:holds (o.bindB k) X R↔holds o (λ_ _ _=>False) λa g=>holds (k a g) X R:=by cases o<;>exact Y1
def fe{o:Out α}{Q':α->G->Prop}(h:∀a g,Q a g->Q' a g)(q:holds o X Q):holds o X Q':=by
 cases o with
 |ok a g=>exact h a g q
 |exc c fs g=>exact q
 |ZX=>exact q
def wp_mono{Q':α->G->Prop}(q:wp f X Q)(h:∀a g,Q a g->Q' a g):wp f X Q':=let⟨n,z⟩:=q;⟨n,fe h z⟩
def ae{o:Out α}:wp (λ_=>o) X Q↔holds o X Q:=⟨λ⟨_,h⟩=>h,λh=>⟨0,h⟩⟩
def wp_bind(d:Aq f)(b:∀a g,Aq λn=>k n a g):wp (λn=>(f n).bind (k n)) X R↔wp f X λa g=>wp (λn=>k n a g) X R:=by
 constructor
 .rintro ⟨n,h⟩
  rw[fh]at h;exact⟨n,fe (λa g q=>⟨n,q⟩) h⟩
 .rintro ⟨n,h⟩
  cases e:f n with
  |ok a g=>
   rw[e]at h;let⟨m,h⟩:=h;refine⟨max n m,?_⟩;rw[fh];have i:f (max n m)=.ok a g:=by
    rcases d n (max n m) (Nat.le_max_left _ _)with z|z
    .rw [e]at z;cases z
    .rw [<-z,e]
   rw[i];show holds (k (max n m) a g) X R;exact dG (b a g m (max n m) (Nat.le_max_right _ _)) h
  |exc c fs g=>rw[e]at h;exact⟨n,by rw[fh,e];exact h⟩
  |ZX=>rw[e]at h;exact h.elim
def aK(d:Aq f)(b:∀a g,Aq λn=>k n a g):wp (λn=>(f n).bindB (k n)) X R↔wp f (λ_ _ _=>False) λa g=>wp (λn=>k n a g) X R:=by
 constructor
 .rintro ⟨n,h⟩
  rw[ig]at h;exact⟨n,fe (λa g q=>⟨n,q⟩) h⟩
 .rintro ⟨n,h⟩
  cases e:f n with
  |ok a g=>
   rw[e]at h;let⟨m,h⟩:=h;refine⟨max n m,?_⟩;rw[ig];have i:f (max n m)=.ok a g:=by
    rcases d n (max n m) (Nat.le_max_left _ _)with z|z
    .rw [e]at z;cases z
    .rw [<-z,e]
   rw[i];show holds (k (max n m) a g) X R;exact dG (b a g m (max n m) (Nat.le_max_right _ _)) h
  |exc c fs g=>rw[e]at h;exact h.elim
  |ZX=>rw[e]at h;exact h.elim
def bT(h:∀n,∃m,(f n).le (f' m))(h':∀n,∃m,(f' n).le (f m)):wp f X Q↔wp f' X Q:=
 ⟨λ⟨n,q⟩=>let⟨m,z⟩:=h n;⟨m,dG z q⟩,λ⟨n,q⟩=>let⟨m,z⟩:=h' n;⟨m,dG z q⟩⟩
end
section
variable(J:List Fn)(d:Nat)
abbrev cA(n:Nat):CC:=Aa J n d
abbrev lv(n:Nat):Z7:=Jh (Aa J n d) n
def Jo(f:Nat)(S:List U)(g:G)(X:XP)(Q:U->G->Prop):Prop:=wp (λn=>Aa J n d f S g) X Q
def Jp(e:E)(O:Su)(g:G)(X:XP)(Q:U->G->Prop):Prop:=wp (λn=>(lv J d n).ev e O g) X Q
def Jq(e:E)(O:Su)(g:G)(X:XP)(Q:Bool->G->Prop):Prop:=wp (λn=>(lv J d n).ts e O g) X Q
def Au(es:List E)(O:Su)(g:G)(X:XP)(Q:List U->G->Prop):Prop:=wp (λn=>IX (lv J d n).ev es O g) X Q
def Jr(e:Option E)(O:Su)(g:G)(X:XP)(Q:Option Int->G->Prop):Prop:=wp (λn=>IY (lv J d n).ev e O g) X Q
def Js(es:List E)(O:Su)(g:G)(X:XP)(Q:Bool->G->Prop):Prop:=wp (λn=>As (lv J d n).ts es O g) X Q
def Jt(e:E)(O:Su)(g:G)(X:XP)(Q:Iter->G->Prop):Prop:=wp (λn=>I8 (lv J d n) e O g) X Q
def Ju(s:Z6)(O:Su)(g:G)(X:XP)(Q:Fl->G->Prop):Prop:=wp (λn=>Jc (lv J d n) s O g) X Q
def wpS(j:List Z6)(O:Su)(g:G)(X:XP)(Q:Fl->G->Prop):Prop:=wp (λn=>(lv J d n).ex j O g) X Q
def Jv(c:E)(b:List Z6)(O:Su)(g:G)(X:XP)(Q:Fl->G->Prop):Prop:=wp (λn=>(lv J d n).wh c b O g) X Q
def Jw(t:Tg)(it:Iter)(i:Nat)(b:List Z6)(O:Su)(g:G)(X:XP)(Q:Fl->G->Prop):Prop:=wp (λn=>(lv J d n).fr t it i b O g) X Q
def Jx(it:Iter)(i:Nat)(t:Tg)(cs:List E)(u:List (Tg×E×List E))(j:E)(z:List U)(O:Su)(g:G)(X:XP)(Q:List U->G->Prop):Prop:=wp (λn=>(lv J d n).cm it i t cs u j z O g) X Q
end
section
variable{J:List Fn}{X:XP}{O:Su}
def bf(h:m<=n)(f:Nat)(S:List U)(g:G):(cA J d m f S g).le (cA J d n f S g):=fz h d f S g
def aI(h:m<=n):(lv J d m).le (lv J d n):=az (bf h) h
def mC(f:Nat)(S:List U)(g:G):Aq λn=>Aa J n d f S g:=λ_ _ h=>fz h d f S g
def mE(e:E)(O:Su)(g:G):Aq λn=>(lv J d n).ev e O g:=λ_ _ h=>(aI h).ev _ _ _
def mT(e:E)(O:Su)(g:G):Aq λn=>(lv J d n).ts e O g:=λ_ _ h=>(aI h).ts _ _ _
def mEs(e:List E)(O:Su)(g:G):Aq λn=>IX (lv J d n).ev e O g:=λ_ _ h=>aH (aI h).ev _ _ _
def mO(e:Option E)(O:Su)(g:G):Aq λn=>IY (lv J d n).ev e O g:=λ_ _ h=>nk (aI h).ev _ _ _
def mA(e:List E)(O:Su)(g:G):Aq λn=>As (lv J d n).ts e O g:=λ_ _ h=>dX (aI h).ts _ _ _
def mI(e:E)(O:Su)(g:G):Aq λn=>I8 (lv J d n) e O g:=λ_ _ h=>bZ (aI h) _ _ _
def m1(e:Z6)(O:Su)(g:G):Aq λn=>Jc (lv J d n) e O g:=λ_ _ h=>nG (aI h) _ _ _
def mS(e:List Z6)(O:Su)(g:G):Aq λn=>(lv J d n).ex e O g:=λ_ _ h=>(aI h).ex _ _ _
def mW(e:E)(b:List Z6)(O:Su)(g:G):Aq λn=>(lv J d n).wh e b O g:=λ_ _ h=>(aI h).wh _ _ _ _
def mF(t:Tg)(it:Iter)(i:Nat)(b:List Z6)(O:Su)(g:G):Aq λn=>(lv J d n).fr t it i b O g:=λ_ _ h=>(aI h).fr _ _ _ _ _ _
def mM(it:Iter)(i:Nat)(t:Tg)(cs:List E)(u:List (Tg×E×List E))(j:E)(z:List U)(O:Su)(g:G):Aq λn=>(lv J d n).cm it i t cs u j z O g:=λ_ _ h=>(aI h).cm _ _ _ _ _ _ _ _ _
def mK(o:Out α):Aq λ_=>o:=λ_ _ _=>.rfl
def mB{f:Nat->Out α}{k:Nat->α->G->Out β}(h:Aq f)(b:∀a g,Aq λn=>k n a g):Aq λn=>(f n).bind (k n):=λm n z=>ah (h m n z) λa g=>b a g m n z
def mBB{f:Nat->Out α}{k:Nat->α->G->Out β}(h:Aq f)(b:∀a g,Aq λn=>k n a g):Aq λn=>(f n).bindB (k n):=λm n z=>aY (h m n z) λa g=>b a g m n z
def ak{e:E}:Jp J d e O g X Q↔wp (λn=>I9 (cA J d n) (lv J d n) e O g) X Q:=
 bT (λn=>match n with
  |0=>⟨0,.bot⟩
  |n+1=>⟨n+1,gL (C:=cA J d (n+1)) (λ_ _ _=>.rfl) (az (λ_ _ _=>.rfl) (Nat.le_succ n)) e O g⟩) λn=>⟨n+1,gL (C:=cA J d n) (C':=cA J d (n+1)) (bf (Nat.le_succ n)) (az (bf (Nat.le_succ n)) (Hx n)) e O g⟩
def eE{e:E}{Q:Bool->G->Prop}:Jq J d e O g X Q↔wp (λn=>Ja (lv J d n) e O g) X Q:=
 bT (λn=>match n with
  |0=>⟨0,.bot⟩
  |n+1=>⟨n+1,gH (az (λ_ _ _=>.rfl) (Nat.le_succ n)) e O g⟩) λn=>⟨n+1,gH (az (bf (Nat.le_succ n)) (Hx n)) e O g⟩
def nW{e:List Z6}{Q:Fl->G->Prop}:wpS J d e O g X Q↔wp (λn=>Jd (lv J d n) e O g) X Q:=
 bT (λn=>match n with
  |0=>⟨0,.bot⟩
  |n+1=>⟨n+1,gz (az (λ_ _ _=>.rfl) (Nat.le_succ n)) e O g⟩) λn=>⟨n+1,gz (az (bf (Nat.le_succ n)) (Hx n)) e O g⟩
def abc{b:List Z6}{Q:Fl->G->Prop}:Jv J d c b O g X Q↔wp (λn=>Je (lv J d n) c b O g) X Q:=
 bT (λn=>match n with
  |0=>⟨0,.bot⟩
  |n+1=>⟨n+1,gE (az (λ_ _ _=>.rfl) (Nat.le_succ n)) c b O g⟩) λn=>⟨n+1,gE (az (bf (Nat.le_succ n)) (Hx n)) c b O g⟩
def aad{t:Tg}{b:List Z6}{Q:Fl->G->Prop}:Jw J d t it i b O g X Q↔wp (λn=>Jf (lv J d n) t it i b O g) X Q:=
 bT (λn=>match n with
  |0=>⟨0,.bot⟩
  |n+1=>⟨n+1,gG (az (λ_ _ _=>.rfl) (Nat.le_succ n)) t it i b O g⟩) λn=>⟨n+1,gG (az (bf (Nat.le_succ n)) (Hx n)) t it i b O g⟩
def abP{t:Tg}{j:List (Tg×E×List E)}{Q:List U->G->Prop}:Jx J d it i t cs j elt ZQ O g X Q↔wp (λn=>Jg (lv J d n) it i t cs j elt ZQ O g) X Q:=
 bT (λn=>match n with
  |0=>⟨0,.bot⟩
  |n+1=>⟨n+1,gv (az (λ_ _ _=>.rfl) (Nat.le_succ n)) it i t cs j elt ZQ O g⟩) λn=>⟨n+1,gv (az (bf (Nat.le_succ n)) (Hx n)) it i t cs j elt ZQ O g⟩
end
local macro_rules | `(tactic| sleep 9) => `(tactic| (intros; repeat (first | exact mE _ _ _ | exact mT _ _ _ | exact mEs _ _ _ | exact mO _ _ _ | exact mA _ _ _ | exact mI _ _ _ | exact mS _ _ _ | exact mC _ _ _ | exact mW _ _ _ _ | exact mF _ _ _ _ _ _ | exact mM _ _ _ _ _ _ _ _ _ | exact mK _ | apply mB | apply mBB | intro _)))
def wp_congr{f:Nat->Out α}{X:XP}{Q Q':α->G->Prop}(h:∀a g,Q a g↔Q' a g):wp f X Q↔wp f X Q':=⟨λq=>wp_mono q λa g=>(h a g).1,λq=>wp_mono q λa g=>(h a g).2⟩
inductive Lk{α:Sort u}(a:α):Type
 |mk:Lk a
@[reducible] def lk{b:Sort u}(a:b):Lk a:=.mk
def Jy{b:Type}(o:Option b){Q:b->Prop}(_:Lk Q):Prop:=match o with
 |some a=>Q a
 |none=>False
def Jz(k:Bool){A B:Prop}(_:Lk A)(_:Lk B):Prop:=match k with
 |true=>A
 |false=>B
def JA(f:Fl){A:Su->Prop}{B:Fl->Prop}(_:Lk A)(_:Lk B):Prop:=match f with
 |.nx O=>A O
 |f=>B f
def JB(f:Fl){A:Su->Prop}{B:Fl->Prop}(_:Lk A)(_:Lk B):Prop:=match f with
 |.nx O=>A O
 |.ct O=>A O
 |.bk O=>B (.nx O)
 |.rt u=>B (.rt u)
def JC(f:Fl){Q:U->Prop}(_:Lk Q):Prop:=match f with
 |.rt u=>Q u
 |.nx _=>Q .ZJ
 |_=>False
def d8{a:α}{Q:α->Prop}:Jy (some a) (lk Q)=Q a:=propext Y1
def hV{A B:Prop}:Jz true (lk A) (lk B)=A:=propext Y1
def hY{A B:Prop}:Jz false (lk A) (lk B)=B:=propext Y1
def af{k:Bool}{A B:Prop}(h:k=true->A)(h':k=false->B):Jz k (lk A) (lk B):=by cases k;exact h' rfl;exact h rfl
def bG{k:Bool}{A B:Prop}:(if k=true then A else B)↔Jz k (lk A) (lk B):=by cases k<;>simp[Jz]
def ach{O:Su}{A:Su->Prop}:JA (.nx O) (lk A) (lk B)=A O:=propext Y1
def ack{A:Su->Prop}:JA (.rt u) (lk A) (lk B)=B (.rt u):=propext Y1
def acR{O:Su}{A:Su->Prop}:JA (.bk O) (lk A) (lk B)=B (.bk O):=propext Y1
def acs{O:Su}{A:Su->Prop}:JA (.ct O) (lk A) (lk B)=B (.ct O):=propext Y1
def qu{O:Su}{A:Su->Prop}:JB (.nx O) (lk A) (lk B)=A O:=propext Y1
def pY{A:Su->Prop}:JB (.rt u) (lk A) (lk B)=B (.rt u):=propext Y1
def acY{O:Su}{A:Su->Prop}:JB (.bk O) (lk A) (lk B)=B (.nx O):=propext Y1
def acH{O:Su}{A:Su->Prop}:JB (.ct O) (lk A) (lk B)=A O:=propext Y1
def r9{Q:U->Prop}:JC (.rt u) (lk Q)=Q u:=propext Y1
def ab7{O:Su}{Q:U->Prop}:JC (.nx O) (lk Q)=Q .ZJ:=propext Y1
def bj{o:Option α}{Q:α->Prop}:(∃a,o=some a/\Q a)↔Jy o (lk Q):=by
 cases o with
 |none=>exact⟨λ⟨_,e,_⟩=>(by cases e),λh=>h.elim⟩
 |some a=>exact⟨λ⟨_,e,h⟩=>(by cases e;exact h),λh=>⟨a,rfl,h⟩⟩
def hk{a:Type}(o:Out a)(X:XP){Q:a->G->Prop}(_:Lk Q):Prop:=holds o X Q
def sj{a:α}{X:XP}{Q:α->G->Prop}:hk (.ok a g) X (lk Q)=Q a g:=propext Y1
def abS{c:Nat}{a:List U}{X:XP}{Q:α->G->Prop}:hk (.exc c a g) X (lk Q)=X c a g:=propext Y1
section
variable{J:List Fn}{X:XP}{O:Su}
def JD(J:List Fn)(d f:Nat)(S:List U)(g:G)(X:XP){Q:U->G->Prop}(_:Lk Q):Prop:=Jo J d f S g X Q
def JE(J:List Fn)(d:Nat)(it:Iter)(i:Nat)(t:Tg)(b:List E)(c:List (Tg×E×List E))(a:E)(e:List U)(O:Su)(g:G)(X:XP){Q:List U->G->Prop}(_:Lk Q):Prop:=Jx J d it i t b c a e O g X Q
def JF(J:List Fn)(d:Nat)(t:Tg)(it:Iter)(i:Nat)(b:List Z6)(O:Su)(g:G)(X:XP){Q:Fl->G->Prop}(_:Lk Q):Prop:=Jw J d t it i b O g X Q
def JG(J:List Fn)(d:Nat)(c:E)(b:List Z6)(O:Su)(g:G)(X:XP){Q:Fl->G->Prop}(_:Lk Q):Prop:=Jv J d c b O g X Q
def CI(x:U)(l h:Option Int)(g:G):Out U:=match x with
  |.ZY xs=>if HT.sIx xs.length 0 l=0/\HT.sIx xs.length xs.length h=xs.length then .ZX else .ok (.ZY (A0 xs l h)) g
  |.Zy xs=>alloc (.Z5 (A0 xs l h)) g
  |.ref n=>match g[n]? with
   |some (.Z5 xs)=>alloc (.Z5 (A0 xs l h)) g
   |_=>.ZX
  |_=>.ZX
def AY(n:Nat):Bool:=@decide (n<=Ab) (Classical.propDecidable _)
def fH(h:n<=16777000):AY n=true:=by unfold AY;exact @decide_eq_true _ (Classical.propDecidable _) h
def iX:AY n=true↔n<=Ab:=by unfold AY;exact @decide_eq_true_iff _ (Classical.propDecidable _)
def Fh(x:U)(g:G):Option (List U):=match x with
 |.ref n=>match g[n]? with
  |some (.Z5 xs)=>some xs
  |_=>none
 |_=>none
def ue{o:Option α}{Q:α->G->Prop}:holds (lift o g) X Q ↔ ∃a,o=some a/\Q a g:=by
 cases o with
 |none=>exact⟨λh=>h.elim,λ⟨_,e,_⟩=>by cases e⟩
 |some a=>exact⟨λh=>⟨a,rfl,h⟩,λ⟨b,e,h⟩=>by cases e;exact h⟩
def dY{o:Option α}{Q:α->G->Prop}:holds (lift o g) X Q↔Jy o (lk λa=>Q a g):=by cases o<;>exact Y1
def gk{o:Option Bool}:holds (match o with|some c=>Out.ok (U.bl c) g|none=>.ZX) X Q↔Jy o (lk λc=>Q (.bl c) g):=by cases o<;>exact Y1
def fQ{o:Option α}{Q Q':α->Prop}(h:∀a,Q a↔Q' a):Jy o (lk Q)↔Jy o (lk Q'):=by
 cases o with
 |none=>exact Y1
 |some a=>exact h a
def optN{o:Option Nat}{f:Nat->Nat->Out α}{Q:α->G->Prop}:wp (λn=>match o with|some k=>f n k|none=>.ZX) X Q↔Jy o (lk λk=>wp (λn=>f n k) X Q):=by
 cases o with
 |none=>exact ae
 |some a=>exact Y1
def rE{g':G}:holds (if n<=Ab then Out.ok u g' else .ZX) X Q↔Jz (AY n) (lk (Q u g')) (lk False):=by
 rw[<-bG];by_cases h:n<=Ab
 .rw [Y2 h,Y2 (iX.mpr h)];exact Y1
 .rw [YH h,YH (λz=>h (iX.mp z))];exact Y1
def ob(op:Op)(x y:U)(g:G)(X:XP){Q:U->G->Prop}(_:Lk Q):Prop:=holds (A3 op x y g) X Q
def sP{i:Int}{y:U}{X:XP}:ob op (.int i) y g X (lk Q)=Jy (IH op (.int i) y) (lk λz=>Q z g):=propext (by
 unfold ob;refine Iff.trans (?_:_↔holds (lift (IH op (.int i) y) g) X Q) dY;exact Y1)
def zW{a:List U}{X:XP}(d:g[n]?=some (.Z5 xs))(c:g[m]?=some (.Z5 a))(b:xs.length+a.length<=Ab)(h:Q (.ref g.length) (g++[.Z5 (xs++a)])):ob .add (.ref n) (.ref m) g X (lk Q):=by
 unfold ob A3 AX;simp![d,c];rw[Y2 b];exact h
section
def si:Jp J d (.L i) O g X Q↔Jy O[i]? (lk λo=>Jy o (lk λu=>Q u g)):=by
 rw[ak];delta I9;simp![ae];cases O[i]? with
 |none=>exact Y1
 |some o=>cases o<;>exact Y1
def sf:Jp J d (.ZW u) O g X Q↔Q u g:=by rw[ak];delta I9;simp![ae];rfl
def qJ{a b:E}:Jp J d (.ZR op a b) O g X Q↔Jp J d a O g X λx g=>Jp J d b O g X λy g=>ob op x y g X (lk Q):=by
 rw[ak];delta I9;dsimp only;refine (wp_bind (by sleep 9) (by sleep 9)).trans (wp_congr λ_ _=>?_);refine (wp_bind (by sleep 9) (by sleep 9)).trans (wp_congr λ_ _=>?_);exact ae
abbrev nX:XP:=λ_ _ _=>False
def fB{o:Out α}{k:α->G->Out β}:o.Zd.bind k=o.bindB k:=by cases o<;>rfl
def acd{op:Cp}{a b:E}:Jp J d (.cmp op a b) O g X Q↔Jp J d a O g X λx g=>Jp J d b O g X λy g=>Jy (IM op x y g) <| lk λz=>Q (.bl z) g:=by
 rw[ak];delta I9;dsimp only;refine (wp_bind (by sleep 9) (by sleep 9)).trans (wp_congr λ_ _=>?_);refine (wp_bind (by sleep 9) (by sleep 9)).trans (wp_congr λ_ _=>?_);exact ae.trans gk
def y9{op j:Cp}{a b:E}:Jp J d (.chain op j a b c) O g X Q↔Jp J d a O g X λx g=>Jp J d b O g X λy g=>Jy (IM op x y g) <| lk λz=>Jz z (lk (Jp J d c O g X λw g=>Jy (IM j y w g) <| lk λz=>Q (.bl z) g)) (lk (Q (.bl false) g)):=by
 rw[ak];delta I9;dsimp only;refine(wp_bind (by sleep 9) (by intro x g;refine mB (mE _ _ _) λy g=>?_;generalize IM op x y g=o;cases o with|none=>exact mK _|some z=>cases z;exact mK _;exact mB (mE _ _ _) λ_ _=>mK _)).trans (wp_congr λx g=>?_)
 refine(wp_bind (by sleep 9) (by intro y g;generalize IM op x y g=o;cases o with|none=>exact mK _|some z=>cases z;exact mK _;exact mB (mE _ _ _) λ_ _=>mK _)).trans (wp_congr λy g=>?_)
 generalize IM op x y g=o;cases o with
 |none=>exact ae
 |some z=>
  cases z
  .exact ae
  .exact (wp_bind (by sleep 9) (by sleep 9)).trans (wp_congr λ_ _=>ae.trans gk)
def acD{a b:E}:Jp J d (.and a b) O g X Q↔Jp J d a O g X λx g=>Jy (match x with|.bl z=>some z|_=>none) <| lk λz=>Jz z (lk (Jp J d b O g X Q)) (lk (Q (.bl false) g)):=by
 rw[ak];delta I9;dsimp only;refine(wp_bind (by sleep 9) (by intro x g;cases x with|bl b=>cases b;exact mK _;exact mE _ _ _|_=>exact mK _)).trans (wp_congr λx g=>?_)
 cases x with
 |bl z=>cases z;exact ae;exact Y1
 |_=>exact ae
def adb{a b:E}:Jp J d (.or a b) O g X Q↔Jp J d a O g X λx g=>Jy (match x with|.bl z=>some z|_=>none) <| lk λz=>Jz z (lk (Q (.bl true) g)) (lk (Jp J d b O g X Q)):=by
 rw[ak];delta I9;dsimp only;refine(wp_bind (by sleep 9) (by intro x g;cases x with|bl b=>cases b;exact mE _ _ _;exact mK _|_=>exact mK _)).trans (wp_congr λx g=>?_)
 cases x with
 |bl z=>cases z;exact Y1;exact ae
 |_=>exact ae
def acT{a:E}:Jp J d (.not a) O g X Q↔Jp J d a O g X λx g=>Jy (IP x g) <| lk λc=>Q (.bl !c) g:=by
 rw[ak];delta I9;dsimp only;refine (wp_bind (by sleep 9) (by sleep 9)).trans (wp_congr λx g=>ae.trans ?_)
 cases IP x g<;>exact Y1
def acp{a:E}:Jp J d (.neg a) O g X Q↔Jp J d a O g X λx g=>Jy (match x with|.int i=>some i|_=>none) <| lk λi=>Q (.int (-i)) g:=by
 rw[ak];delta I9;dsimp only;refine (wp_bind (by sleep 9) (by sleep 9)).trans (wp_congr λx g=>ae.trans ?_)
 cases x<;>exact Y1
def qP{es:List E}:Jp J d (.ZY es) O g X Q↔Au J d es O g X λS g=>Jz (AY S.length) (lk (Q (.ZY S) g)) (lk False):=by
 rw[ak];delta I9;dsimp only;exact (wp_bind (by sleep 9) (by sleep 9)).trans (wp_congr λx g=>ae.trans rE)
def ace{es:List E}:Jp J d (.Z5 es) O g X Q↔Au J d es O g X λS g=>Jz (AY S.length) (lk (Q (.ref g.length) (g++[.Z5 S]))) (lk False):=by
 rw[ak];delta I9;dsimp only;exact (wp_bind (by sleep 9) (by sleep 9)).trans (wp_congr λx g=>ae.trans rE)
def qY{a b:E}:Jp J d (.idx a b) O g X Q↔Jp J d a O g X λx g=>Jp J d b O g X λy g=>match y with|.ZY S=>Jy ((AK (.ZY S) x g).bind id) <| lk λz=>Q z g|.str k=>Jy ((IJ x g).bind λZ4=>BF Z4 k) <| lk λz=>Q z g|y=>Jy (match y with|.int i=>some i|_=>none) <| lk λi=>Jy (items x g) <| lk λxs=>Jy (IQ xs i) <| lk λz=>Q z g:=by
 rw[ak];delta I9;dsimp only;refine (wp_bind (by sleep 9) (by sleep 9)).trans (wp_congr λx g=>(wp_bind (by sleep 9) (by sleep 9)).trans (wp_congr λy g=>ae.trans ?_))
 cases y with
 |int i=>
  show holds (match items x g with|some xs=>lift (IQ xs i) g|none=>.ZX) X Q↔Jy (items x g) (lk λxs=>Jy (IQ xs i) (lk λz=>Q z g))
  cases items x g with
  |none=>exact Y1
  |some xs=>exact dY
 |ZY S=>exact dY
 |str k=>exact dY
 |_=>exact Y1
def acW{a:E}{lo hi:Option E}:Jp J d (.W_ a lo hi) O g X Q↔Jp J d a O g X λx g=>Jr J d lo O g X λl g=>Jr J d hi O g X λh g=>hk (CI x l h g) X (lk Q):=by
 rw[ak];delta I9;dsimp only;refine (wp_bind (by sleep 9) (by sleep 9)).trans (wp_congr λ_ _=>?_);refine (wp_bind (by sleep 9) (by sleep 9)).trans (wp_congr λ_ _=>?_);refine (wp_bind (by sleep 9) (by sleep 9)).trans (wp_congr λ_ _=>?_);exact ae
def mi{f:Nat}{a:List E}:Jp J d (.call f a) O g X Q↔Au J d a O g nX λS g=>JD J d f S g X (lk Q):=by
 rw[ak];delta I9;dsimp only;simp![fB];exact aK (mEs _ _ _) λ_ _=>mC _ _ _
def ac7{b:Bi}{es:List E}:Jp J d (.bi b es) O g X Q↔Au J d es O g X λS g=>hk (IV b S g) X (lk Q):=by
 rw[ak];delta I9;dsimp only;exact (wp_bind (by sleep 9) (by sleep 9)).trans (wp_congr λx g=>ae)
def z7:Jp J d .VM O g X Q↔Q (.ref g.length) (g++[.ZF []]):=by
 rw[ak];delta I9;dsimp only;exact ae
def aci{a:E}{t:Ty}:Jp J d (.Yz a t) O g X Q↔Jp J d a O g X λx g=>Jy (Aw t x g) <| lk λc=>Q (.bl c) g:=by
 rw[ak];delta I9;dsimp only;exact (wp_bind (by sleep 9) (by sleep 9)).trans (wp_congr λx g=>ae.trans gk)
def mN{o:Option Nat}{f:Nat->Nat->Out α}(h:∀k,Aq λn=>f n k):Aq λn=>(match o with|some k=>f n k|none=>.ZX:Out α):=by
 cases o with
 |none=>exact mK _
 |some k=>exact h k
def ab5{o v:E}:Jp J d (.app o v) O g X Q↔Jp J d o O g X λx g=>Jy (IW x g) <| lk λk=>Jp J d v O g X λy g=>hk (Bj k y g) X (lk Q):=by
 rw[ak];delta I9;dsimp only;refine(wp_bind (by sleep 9) (by intro x g;exact mN λk=>mB (mE _ _ _) λ_ _=>mK _)).trans (wp_congr λx g=>optN.trans (fQ λk=>?_))
 refine (wp_bind (by sleep 9) (by sleep 9)).trans (wp_congr λ_ _=>?_);exact ae
def acn{o v:E}:Jp J d (.ext o v) O g X Q↔Jp J d o O g X λx g=>Jy (IW x g) <| lk λk=>Jp J d v O g X λy g=>hk (BB k y g) X (lk Q):=by
 rw[ak];delta I9;dsimp only;refine(wp_bind (by sleep 9) (by intro x g;exact mN λk=>mB (mE _ _ _) λ_ _=>mK _)).trans (wp_congr λx g=>optN.trans (fQ λk=>?_))
 refine (wp_bind (by sleep 9) (by sleep 9)).trans (wp_congr λ_ _=>?_);exact ae
def ab2{o:E}:Jp J d (.pop o) O g X Q↔Jp J d o O g X λx g=>Jy (IW x g) <| lk λk=>hk (Bo k g) X (lk Q):=by
 rw[ak];delta I9;dsimp only;exact(wp_bind (by sleep 9) (by intro x g;exact mN λk=>mK _)).trans (wp_congr λx g=>optN.trans (fQ λk=>ae))
def abM{own:Nat}{fr:List Nat}{t:Tg}{it:E}{u:List (Tg×E×List E)}{k v:E}:Jp J d (.V8 own fr ((t,it,cs)::u) k v) O g X Q ↔
  Jt J d it O g X λi g=>JE J d i 0 t cs u (.pair k v) [] (List.replicate own none++fr.map λj=>(O[j]?).getD none) g (λ_ _ _=>False) (lk λS g=>Jy (dfold S []) <| lk λZ4=>Q (.ref g.length) (g++[.ZF Z4])):=by
 rw[ak];delta I9;dsimp only;refine (wp_bind (by sleep 9) (by sleep 9)).trans (wp_congr λx g=>(aK (by sleep 9) (by sleep 9)).trans (wp_congr λS g=>ae.trans ?_))
 cases dfold S []<;>exact Y1
def aa4{k v:E}:Jp J d (.pair k v) O g X Q↔Jp J d k O g X λx g=>Jp J d v O g X λy g=>Jy (keyOf x) <| lk λ_=>Q (.ZY [x,y]) g:=by
 rw[ak];delta I9;dsimp only;refine (wp_bind (by sleep 9) (by sleep 9)).trans (wp_congr λx g=>(wp_bind (by sleep 9) (by sleep 9)).trans (wp_congr λy g=>ae.trans ?_))
 cases keyOf x<;>exact Y1
def z5{own:Nat}{fr:List Nat}{t:Tg}{it:E}{u:List (Tg×E×List E)}:Jp J d (.comp own fr ((t,it,cs)::u) elt) O g X Q ↔
  Jt J d it O g X λi g=>JE J d i 0 t cs u elt [] (List.replicate own none++fr.map λj=>(O[j]?).getD none) g (λ_ _ _=>False) (lk λS g=>S.length<=Ab/\Q (.ref g.length) (g++[.Z5 S])):=by
 rw[ak];delta I9;dsimp only;refine (wp_bind (by sleep 9) (by sleep 9)).trans (wp_congr λx g=>(aK (by sleep 9) (by sleep 9)).trans (wp_congr λS g=>ae.trans ?_))
 split
 .rename_i h;exact⟨λq=>⟨h,q⟩,λq=>q.2⟩
 .rename_i h;exact⟨λq=>q.elim,λq=>h q.1⟩
end
def oQ{Q:List U->G->Prop}:Au J d [] O g X Q↔Q [] g:=by unfold Au;simp![IX,ae];rfl
def lR{e:E}{es:List E}{Q:List U->G->Prop}:Au J d (e::es) O g X Q↔Jp J d e O g X λu g=>Au J d es O g X λS g=>Q (u::S) g:=by
 unfold Au;simp![IX];refine (wp_bind (by sleep 9) (by sleep 9)).trans (wp_congr λ_ _=>?_);refine (wp_bind (by sleep 9) (by sleep 9)).trans (wp_congr λ_ _=>?_);exact ae
def pI{Q:Option Int->G->Prop}:Jr J d none O g X Q↔Q none g:=by unfold Jr;simp![IY,ae];rfl
def aaP{e:E}{Q:Option Int->G->Prop}:Jr J d (some e) O g X Q↔Jp J d e O g X λu g=>∃i,u=.int i/\Q (some i) g:=by
 unfold Jr;simp![IY];refine (wp_bind (by sleep 9) (by sleep 9)).trans (wp_congr λx g=>ae.trans ?_)
 cases x with
 |int a=>exact⟨λh=>⟨a,rfl,h⟩,λ⟨b,e,h⟩=>by cases e;exact h⟩
 |_=>exact⟨λh=>h.elim,λ⟨_,e,_⟩=>by cases e⟩
section
variable{Q:Bool->G->Prop}
def acw{a b:E}:Jq J d (.and a b) O g X Q↔Jq J d a O g X λk g=>if k then Jq J d b O g X Q else Q false g:=by
 rw[eE];delta Ja;dsimp only;refine(wp_bind (by sleep 9) (by intro k g;cases k;exact mK _;exact mT _ _ _)).trans (wp_congr λx g=>?_)
 cases x
 .exact ae
 .exact Y1
def adf{a b:E}:Jq J d (.or a b) O g X Q↔Jq J d a O g X λk g=>if k then Q true g else Jq J d b O g X Q:=by
 rw[eE];delta Ja;dsimp only;refine(wp_bind (by sleep 9) (by intro k g;cases k;exact mT _ _ _;exact mK _)).trans (wp_congr λx g=>?_)
 cases x
 .exact Y1
 .exact ae
def acS{a:E}:Jq J d (.not a) O g X Q↔Jq J d a O g X λk g=>Q (!k) g:=by
 rw[eE];delta Ja;dsimp only;refine (wp_bind (by sleep 9) (by sleep 9)).trans (wp_congr λ_ _=>?_);exact ae
def plainT:E->Bool
 |.and _ _=>false|.or _ _=>false|.not _=>false|.ite _ _ _=>false|_=>true
theorem T_e{e:E}(h:plainT e=true):Jq J d e O g X Q↔Jp J d e O g X λx g=>∃c,IP x g=some c/\Q c g:=by
 rw[eE];have:(λn=>Ja (lv J d n) e O g)=λn=>((lv J d n).ev e O g).bind λx g=>lift (IP x g) g:=by
  funext n;cases e<;>first|rfl|cases h
 rw[this];refine (wp_bind (by sleep 9) (by sleep 9)).trans (wp_congr λ_ _=>?_);exact ae.trans ue
def gY:Js J d [] O g X Q↔Q true g:=by unfold Js;simp![As,ae];rfl
def zX:Js J d (c::cs) O g X Q↔Jq J d c O g X λk g=>if k then Js J d cs O g X Q else Q false g:=by
 unfold Js;simp![As];refine(wp_bind (by sleep 9) (by intro k g;cases k;exact mK _;exact mA _ _ _)).trans (wp_congr λx g=>?_)
 cases x
 .exact ae
 .exact Y1
end
section
variable{Q:Iter->G->Prop}
def aaA{a:E}:Jt J d (.Xy a) O g X Q↔Jp J d a O g X λu g=>∃j,u=.int j/\(-1000000<j/\j<1000000)/\Q (.YY 0 j.toNat) g:=by
 unfold Jt;delta I8;dsimp only;refine (wp_bind (by sleep 9) (by sleep 9)).trans (wp_congr λx g=>ae.trans ?_)
 cases x with
 |int a=>
  simp![];split
  .rename_i h;exact⟨λq=>⟨a,rfl,h,q⟩,λ⟨b,e,_,q⟩=>by cases e;exact q⟩
  .rename_i h;exact⟨λq=>q.elim,λ⟨b,e,h',q⟩=>by cases e;exact h h'⟩
 |_=>exact⟨λh=>h.elim,λ⟨_,e,_⟩=>by cases e⟩
def zF{a b:E}:Jt J d (.WN a b) O g X Q↔Jp J d a O g X λu g=>Jp J d b O g X λw g=>∃i j,u=.int i/\w=.int j/\(-1000000<i/\i<1000000 /\ -1000000<j/\j<1000000)/\Q (.YY i (j-i).toNat) g:=by
 unfold Jt;delta I8;dsimp only;refine (wp_bind (by sleep 9) (by sleep 9)).trans (wp_congr λx g=>(wp_bind (by sleep 9) (by sleep 9)).trans (wp_congr λy g=>ae.trans ?_))
 cases x with
 |int a=>
  cases y with
  |int b=>
   simp![];split
   .rename_i h;exact⟨λq=>⟨a,b,rfl,rfl,h,q⟩,λ⟨_,_,e,e',_,q⟩=>by cases e;cases e';exact q⟩
   .rename_i h;exact⟨λq=>q.elim,λ⟨_,_,e,e',h',q⟩=>by cases e;cases e';exact h h'⟩
  |_=>exact⟨λh=>h.elim,λ⟨_,_,_,e,_⟩=>by cases e⟩
 |_=>exact⟨λh=>h.elim,λ⟨_,_,e,_⟩=>by cases e⟩
theorem I_e{e:E}(h:Cs e=true):Jt J d e O g X Q ↔ Jp J d e O g X λu g=>holds (match u with
  |.ZY xs=>.ok (.seq xs) g
  |.xn _ xs=>.ok (.seq xs) g
  |.ref n=>match g[n]? with
   |some (.Z5 _)=>.ok (.Z5 n) g
   |_=>.ZX
  |_=>.ZX) X Q:=by
 unfold Jt;have:(λn=>I8 (lv J d n) e O g)=λn=>((lv J d n).ev e O g).bind λu g=>match u with
  |.ZY xs=>.ok (.seq xs) g
  |.xn _ xs=>.ok (.seq xs) g
  |.ref n=>match g[n]? with
   |some (.Z5 _)=>.ok (.Z5 n) g
   |_=>.ZX
  |_=>.ZX:=by
  funext n;cases e<;>first|rfl|cases h
 rw[this];refine (wp_bind (by sleep 9) (by sleep 9)).trans (wp_congr λ_ _=>?_);exact ae
end
section
variable{Q:Fl->G->Prop}
def eO:wpS J d [] O g X Q↔Q (.nx O) g:=by rw[nW];simp![Jd,ae];rfl
def z8{s:Z6}{a:List Z6}:wpS J d (s::a) O g X Q↔Ju J d s O g X λf g=>match f with|.nx ZT=>wpS J d a ZT g X Q|f=>Q f g:=by
 rw[nW];simp![Jd];refine(wp_bind (by exact m1 _ _ _) (by intro f g;cases f;exact mS _ _ _;exact mK _;exact mK _;exact mK _)).trans (wp_congr λx g=>?_)
 cases x<;>first|exact Y1|exact ae
def ac0{e:E}:Ju J d (.ret e) O g X Q↔Jp J d e O g X λu g=>Q (.rt u) g:=by
 unfold Ju;delta Jc;dsimp only;exact (wp_bind (by sleep 9) (by sleep 9)).trans (wp_congr λx g=>ae)
def acr{t:Tg}{e:E}:Ju J d (.set t e) O g X Q↔Jp J d e O g X λu g=>∃j,Ae t (IZ t u g) O=some j/\Q (.nx j) g:=by
 unfold Ju;delta Jc;dsimp only;refine (wp_bind (by sleep 9) (by sleep 9)).trans (wp_congr λx g=>ae.trans ?_)
 cases Ae t (IZ t x g) O with
 |none=>exact⟨λh=>h.elim,λ⟨_,e,_⟩=>by cases e⟩
 |some a=>exact⟨λh=>⟨a,rfl,h⟩,λ⟨b,e,h⟩=>by cases e;exact h⟩
def acE{o i e:E}:Ju J d (.sub o i e) O g X Q↔Jp J d e O g X λu g=>Jp J d o O g X λx g=>Jp J d i O g X λy g=>holds (subAt x y u O g) X Q:=by
 unfold Ju;delta Jc;dsimp only;refine (wp_bind (by sleep 9) (by sleep 9)).trans (wp_congr λ_ _=>?_);refine (wp_bind (by sleep 9) (by sleep 9)).trans (wp_congr λ_ _=>?_);refine (wp_bind (by sleep 9) (by sleep 9)).trans (wp_congr λ_ _=>?_);exact ae
def acZ{e:E}:Ju J d (.exp e) O g X Q↔Jp J d e O g X λ_ g=>Q (.nx O) g:=by
 unfold Ju;delta Jc;dsimp only;exact (wp_bind (by sleep 9) (by sleep 9)).trans (wp_congr λx g=>ae)
def acg{a b:List Z6}:Ju J d (.Zu c a b) O g X Q↔Jq J d c O g X λk g=>if k then wpS J d a O g X Q else wpS J d b O g X Q:=by
 unfold Ju;delta Jc;dsimp only;refine(wp_bind (by sleep 9) (by intro k g;cases k;exact mS _ _ _;exact mS _ _ _)).trans (wp_congr λx g=>?_)
 cases x<;>exact Y1
def aco{t:Tg}{it:E}{b:List Z6}:Ju J d (.for t it b) O g X Q↔Jt J d it O g X λi g=>Jw J d t i 0 b O g X Q:=by
 unfold Ju;delta Jc;dsimp only;exact wp_bind (by sleep 9) (by sleep 9)
def aaW{b:List Z6}:Jv J d c b O g X Q↔Jq J d c O g X λk g=>if k then wpS J d b O g X λf g=>(match f with
  |.nx ZT=>Jv J d c b ZT g X Q
  |.ct ZT=>Jv J d c b ZT g X Q
  |.bk ZT=>Q (.nx ZT) g
  |.rt u=>Q (.rt u) g)else Q (.nx O) g:=by
 rw[abc];simp![Je];refine(wp_bind (mT _ _ _) λk g=>by cases k;exact mK _;refine mB (mS _ _ _) λf g=>?_;cases f;exact mW _ _ _ _;exact mK _;exact mK _;exact mW _ _ _ _).trans (wp_congr λx g=>?_)
 cases x
 .exact ae
 .simp only [Qp]
  refine(wp_bind (by sleep 9) (by intro f g;cases f;exact mW _ _ _ _;exact mK _;exact mK _;exact mW _ _ _ _)).trans (wp_congr λf g=>?_)
  cases f<;>first|exact Y1|exact ae
def gJ{t:Tg}{b:List Z6}:Jw J d t it i b O g X Q ↔ ∃o,next it i g=some o/\match o with
  |none=>Q (.nx O) g
  |some u=>∃a,Ae t u O=some a/\wpS J d b a g X λf g=>match f with
   |.nx ZT=>Jw J d t it (i+1) b ZT g X Q
   |.ct ZT=>Jw J d t it (i+1) b ZT g X Q
   |.bk ZT=>Q (.nx ZT) g
   |.rt u=>Q (.rt u) g:=by
 rw[aad];simp![Jf];cases next it i g with
 |none=>simp![ae];exact⟨λh=>h.elim,λ⟨_,e,_⟩=>by cases e⟩
 |some o=>
  cases o with
  |none=>simp![ae];exact⟨λh=>⟨none,rfl,h⟩,λ⟨o,e,h⟩=>by cases e;exact h⟩
  |some u=>
   simp![];cases c:Ae t u O with
   |none=>simp![ae];exact⟨λh=>h.elim,λ⟨_,e,h⟩=>by cases e;let⟨_,e,_⟩:=h;rw[c]at e;cases e⟩
   |some a=>
    simp![];refine(wp_bind (by sleep 9) (by intro f g;cases f;exact mF _ _ _ _ _ _;exact mK _;exact mK _;exact mF _ _ _ _ _ _)).trans ?_
    refine Iff.trans (wp_congr (Q':=λf g=>match f with
       |.nx ZT=>Jw J d t it (i+1) b ZT g X Q
       |.ct ZT=>Jw J d t it (i+1) b ZT g X Q
       |.bk ZT=>Q (.nx ZT) g
       |.rt u=>Q (.rt u) g) λf g=>?_) ?_
    .cases f<;>first|exact Y1|exact ae
    exact⟨λh=>⟨some u,rfl,a,c,h⟩,λ⟨o,e,h⟩=>by cases e;let⟨j,e,h⟩:=h;rw[c]at e;cases e;exact h⟩
end
def bW{t:Tg}{B:List (Tg×E×List E)}{Q:List U->G->Prop}:Jx J d it i t cs B elt ZQ O g X Q ↔ ∃o,next it i g=some o/\match o with
  |none=>Q ZQ g
  |some u=>AS t O=true /\∃z,Ae t u O=some z/\Js J d cs z g (λ_ _ _=>False) λk g=>if k then
    match B with
    |[]=>Jp J d elt z g (λ_ _ _=>False) λv g=>ZQ.length<Ab/\Jx J d it (i+1) t cs B elt (ZQ++[v]) O g X Q
    |(t2,Xq,Wj)::VT=>Jt J d Xq z g (λ_ _ _=>False) λj g=>Jx J d j 0 t2 Wj VT elt ZQ z g (λ_ _ _=>False) λS g=>Jx J d it (i+1) t cs B elt S O g X Q
   else Jx J d it (i+1) t cs B elt ZQ O g X Q:=by
 rw[abP];simp![Jg];cases next it i g with
 |none=>simp![ae];exact⟨λh=>h.elim,λ⟨_,e,_⟩=>by cases e⟩
 |some o=>
  cases o with
  |none=>simp![ae];exact⟨λh=>⟨none,rfl,h⟩,λ⟨o,e,h⟩=>by cases e;exact h⟩
  |some u=>
   simp![];by_cases R:AS t O=true
   .simp only [R,Qp]
    cases L:Ae t u O with
    |none=>simp![ae];exact⟨λh=>h.elim,λ⟨_,e,h⟩=>by cases e;let⟨_,_,e,_⟩:=h;rw[L]at e;cases e⟩
    |some z=>
     simp![];refine Iff.trans ?_ ⟨λh=>⟨some u,rfl,trivial,z,L,h⟩,λ⟨o,e,h⟩=>by cases e;let⟨_,Z,e,h⟩:=h;rw[L]at e;cases e;exact h⟩
     cases B with
     |nil=>
      refine(aK (by sleep 9) (by intro k g;cases k;exact mM _ _ _ _ _ _ _ _ _;refine mBB (mE _ _ _) λv g=>?_;by_cases h:ZQ.length<Ab;simp![h,Qp];exact mM _ _ _ _ _ _ _ _ _;simp![h,UP];exact mK _)).trans (wp_congr λk g=>?_)
      cases k
      .exact Y1
      .refine Iff.trans (aK (by sleep 9) (by intro v g;by_cases h:ZQ.length<Ab;simp![h,Qp];exact mM _ _ _ _ _ _ _ _ _;simp![h,UP];exact mK _)) (wp_congr λv g=>?_)
       by_cases h:ZQ.length<Ab
       .simp only [h,Qp];exact⟨λq=>⟨trivial,q⟩,λq=>q.2⟩
       .simp only [h,UP];exact⟨λ⟨_,q⟩=>q.elim,λq=>q.1.elim⟩
     |cons t2 VT=>
      let⟨t2,Xq,Wj⟩:=t2;refine(aK (by sleep 9) (by intro k g;cases k;exact mM _ _ _ _ _ _ _ _ _;exact mBB (mI _ _ _) λ_ _=>mBB (mM _ _ _ _ _ _ _ _ _) λ_ _=>mM _ _ _ _ _ _ _ _ _)).trans (wp_congr λk g=>?_)
      cases k
      .exact Y1
      .refine Iff.trans (aK (by sleep 9) (by sleep 9)) (wp_congr λj g=>?_)
       exact aK (by sleep 9) (by sleep 9)
   .have F:AS t O=false:=by cases h:AS t O;rfl;exact absurd h R
    simp![F];exact⟨λ⟨_,h⟩=>h.elim,λ⟨_,e,h⟩=>by cases e;exact absurd h.1 (by simp)⟩
def abo{f:Nat}{F:Fn}(z:J[f]?=some F)(j:S.length=F.np):Jo J (d+1) f S g X Q↔wpS J d F.body (S.map some++List.replicate (F.ns-S.length) none) g X λB g=>match B with
  |.rt u=>Q u g
  |.nx _=>Q .ZJ g
  |_=>False:=by
 unfold Jo;simp![Aa,z,Bs,j,Qp];refine(wp_bind (f:=λn=>(lv J d n).ex F.body (S.map some++List.replicate (F.ns-F.np) none) g) (mS _ _ _) (by sleep 9)).trans (wp_congr λx g=>ae.trans ?_)
 cases x<;>exact Y1
def yd{f:Nat}(h:Jo J d f S g (λ_ _ _=>False) Q):∃fu u g',Aa J fu d f S g=.ok u g'/\Q u g':=by
 let⟨n,h⟩:=h;have h:holds (Aa J n d f S g) (λ_ _ _=>False) Q:=h;revert h;cases e:Aa J n d f S g with
 |ok u g'=>exactλh=>⟨n,u,g',e,h⟩
 |exc c fs g=>exactλh=>h.elim
 |ZX=>exactλh=>h.elim
end
section
variable{J:List Fn}{X:XP}{O ZT:Su}{g':G}
def nQ{b:List Z6}{Q:Fl->G->Prop}:Ju J d (.VL c b) O g X Q↔JG J d c b O g X (lk Q):=Y1
def zO{t:Tg}{it:E}{b:List Z6}{Q:Fl->G->Prop}:Ju J d (.for t it b) O g X Q↔Jt J d it O g X λi g=>JF J d t i 0 b O g X (lk Q):=aco
def aaw{e:E}{Q:Option Int->G->Prop}:Jr J d (some e) O g X Q↔Jp J d e O g X λu g=>Jy (match u with|.int i=>some i|_=>none) <| lk λi=>Q (some i) g:=aaP.trans (wp_congr λx g=>by
 cases x with
 |int z=>exact⟨λ⟨_,e,h⟩=>(by cases e;exact h),λh=>⟨z,rfl,h⟩⟩
 |_=>exact⟨λ⟨_,e,h⟩=>(by cases e),λh=>h.elim⟩)
section
variable{Q:Bool->G->Prop}
def acX{a b:E}:Jq J d (.and a b) O g X Q↔Jq J d a O g X λk g=>Jz k (lk (Jq J d b O g X Q)) (lk (Q false g)):=acw.trans (wp_congr λk g=>bG)
def ac5{a b:E}:Jq J d (.or a b) O g X Q↔Jq J d a O g X λk g=>Jz k (lk (Q true g)) (lk (Jq J d b O g X Q)):=adf.trans (wp_congr λk g=>bG)
def t_e{e:E}(h:plainT e=true):Jq J d e O g X Q↔Jp J d e O g X λx g=>Jy (IP x g) <| lk λc=>Q c g:=(T_e h).trans (wp_congr λx g=>bj)
def aaK:Js J d (c::cs) O g X Q↔Jq J d c O g X λk g=>Jz k (lk (Js J d cs O g X Q)) (lk (Q false g)):=zX.trans (wp_congr λk g=>bG)
end
section
variable{Q:Iter->G->Prop}
def Am(j:Int):Bool:=@decide (-1000000<j/\j<1000000) (Classical.propDecidable _)
def a0{j:Int}(h : -1000000<j)(h':j<1000000):Am j=true:=by unfold Am;exact @decide_eq_true _ (Classical.propDecidable _) ⟨h,h'⟩
def abA{a:E}:Jt J d (.Xy a) O g X Q↔Jp J d a O g X λu g=>Jy (match u with|.int i=>some i|_=>none) <| lk λj=>Jz (Am j) (lk (Q (.YY 0 j.toNat) g)) (lk False):=aaA.trans (wp_congr λu g=>by
 cases u with
 |int i=>
  show _↔Jz (Am i) (lk _) (lk _);by_cases h : -1000000<i/\i<1000000
  .rw [show Am i=true by unfold Am;exact @decide_eq_true _ (Classical.propDecidable _) h]
   exact⟨λ⟨_,e,_,q⟩=>(by cases e;exact q),λq=>⟨i,rfl,h,q⟩⟩
  .rw [show Am i=false by unfold Am;exact @decide_eq_false _ (Classical.propDecidable _) h]
   exact⟨λ⟨_,e,q,_⟩=>(by cases e;exact h q),λq=>q.elim⟩
 |_=>exact⟨λ⟨_,e,h⟩=>(by cases e),λh=>h.elim⟩)
def aai{a b:E}:Jt J d (.WN a b) O g X Q↔Jp J d a O g X λu g=>Jp J d b O g X λw g=>Jy (match u with|.int i=>some i|_=>none) <| lk λi=>Jy (match w with|.int i=>some i|_=>none) <| lk λj=>Jz (Am i&&Am j) (lk (Q (.YY i (j-i).toNat) g)) (lk False):=zF.trans (wp_congr λu g=>wp_congr λw g=>by
 cases u with
 |int i=>
  cases w with
  |int j=>
   show _↔Jz (Am i&&Am j) (lk _) (lk _);by_cases h:(Am i&&Am j)=true
   .rw [h]
    have h':=h;simp![Am,Yx,Vw]at h';exact⟨λ⟨_,_,e,e',_,q⟩=>(by cases e;cases e';exact q),λq=>⟨i,j,rfl,rfl,⟨h'.1.1,h'.1.2,h'.2.1,h'.2.2⟩,q⟩⟩
   .rw [Bool.not_eq_true]at h
    rw[h];exact⟨λ⟨_,_,e,e',q,_⟩=>by cases e;cases e';simp[Am,q]at h,λq=>q.elim⟩
  |_=>exact⟨λ⟨_,_,e,e',h⟩=>(by cases e'),λh=>h.elim⟩
 |_=>exact⟨λ⟨_,_,e,h⟩=>(by cases e),λh=>h.elim⟩)
def BV(u:U)(g:G):Option (Iter×G):=match u with
 |.ZY xs=>some (.seq xs,g)
 |.xn _ xs=>some (.seq xs,g)
 |.ref n=>match g[n]? with
  |some (.Z5 _)=>some (.Z5 n,g)
  |_=>none
 |_=>none
def i_e{e:E}(h:Cs e=true):Jt J d e O g X Q↔Jp J d e O g X λu g=>Jy (BV u g) <| lk λp=>Q p.1 p.2:=(I_e h).trans (wp_congr λu g=>by
 cases u with
 |ref n=>
  simp![BV];cases g[n]? with
  |none=>exact Y1
  |some o=>cases o<;>exact Y1
 |_=>exact Y1)
end
section
variable{Q:Fl->G->Prop}
def aaj{s:Z6}{a:List Z6}:wpS J d (s::a) O g X Q↔Ju J d s O g X λf g=>JA f (lk (λb=>wpS J d a b g X Q)) (lk λf=>Q f g):=z8.trans (wp_congr λf g=>by cases f<;>exact Y1)
def zY{t:Tg}{e:E}:Ju J d (.set t e) O g X Q↔Jp J d e O g X λu g=>Jy (Ae t (IZ t u g) O) <| lk λa=>Q (.nx a) g:=acr.trans (wp_congr λx g=>bj)
def zP{o i e:E}:Ju J d (.sub o i e) O g X Q↔Jp J d e O g X λu g=>Jp J d o O g X λx g=>Jp J d i O g X λy g=>hk (subAt x y u O g) X (lk Q):=acE
def aat{a b:List Z6}:Ju J d (.Zu c a b) O g X Q↔Jq J d c O g X λk g=>Jz k (lk (wpS J d a O g X Q)) (lk (wpS J d b O g X Q)):=acg.trans (wp_congr λk g=>bG)
def abY{b:List Z6}:Jv J d c b O g X Q↔Jq J d c O g X λk g=>Jz k (lk (wpS J d b O g X λf g=>JB f (lk (λa=>Jv J d c b a g X Q)) (lk λf=>Q f g))) (lk (Q (.nx O) g)):=aaW.trans (wp_congr λk g=>bG.trans (by
 cases k
 .exact Y1
 .exact wp_congr λf g=>by cases f<;>exact Y1))
def nh{f:Nat}{F:Fn}{Q:U->G->Prop}(b:J[f]?=some F)(a:S.length=F.np):Jo J (d+1) f S g X Q↔wpS J d F.body (S.map some++List.replicate (F.ns-S.length) none) g X λc g=>JC c <| lk λu=>Q u g:=(abo b a).trans (wp_congr λf g=>by cases f<;>exact Y1)
def b8{t:Tg}{it:Iter}{b:List Z6}(S:List U)(a:Nat->Su->G->Prop)
  (j:∀k O g,a k O g->next it k g=some S[k]?)
  (l:∀k u O g,S[k]?=some u->a k O g->Jy (Ae t u O) (lk λo=>wpS J d b o g X λf g=>JB f (lk (λc=>a (k+1) c g)) (lk λf=>Q f g)))
  (m:∀O g,a S.length O g->Q (.nx O) g):∀(n i:Nat) (O:Su) (g:G),i+n=S.length->a i O g->Jw J d t it i b O g X Q
 |0,i,O,g,e,h=>by
  have e:i=S.length:=by omega
  subst e;rw[gJ];exact⟨none,by rw[j _ _ _ h];simp,m _ _ h⟩
 |n+1,i,O,g,e,h=>by
  have hi:i<S.length:=by omega
  rw[gJ];let⟨o,p,w⟩:=bj.2 (l i S[i] O g (Xn hi) h);refine⟨some S[i],by rw[j _ _ _ h,Xn hi],o,p,wp_mono w λf g q=>?_⟩
  cases f with
  |nx c=>exact b8 S a j l m n (i+1) c g () q
  |ct c=>exact b8 S a j l m n (i+1) c g () q
  |bk c=>exact q
  |rt u=>exact q
def gT{b:List Z6}(i:Nat->Su->G->Prop)
  (j:∀n O g,i n O g->Jq J d c O g X λk g=>Jz k (lk (wpS J d b O g X λf g=>JB f (lk (λa=>∃m,m<n/\i m a g)) (lk λf=>Q f g))) (lk (Q (.nx O) g))):∀(n:Nat) (O:Su) (g:G),i n O g->Jv J d c b O g X Q:=by
 intro n
 induction n using Nat.strongRecOn with
 |_ n ih=>
  intro O g h;rw[abY];refine wp_mono (j n O g h) λk g q=>?_;cases k
  .exact q
  .refine wp_mono q λf g q=>?_
   cases f with
   |nx a=>let⟨m,e,q⟩:=q;exact ih m e _ _ q
   |ct a=>let⟨m,e,q⟩:=q;exact ih m e _ _ q
   |bk a=>exact q
   |rt u=>exact q
end
def JH{b:Type}(o:Option b){A:Prop}{Q:b->Prop}(_:Lk A)(_:Lk Q):Prop:=match o with
 |none=>A
 |some a=>Q a
def sV{A:Prop}{Q:α->Prop}:JH none (lk A) (lk Q)=A:=propext Y1
def sT{a:α}{A:Prop}{Q:α->Prop}:JH (some a) (lk A) (lk Q)=Q a:=propext Y1
def bg{t:Tg}{b:List Z6}{Q:Fl->G->Prop}:JF J d t (.seq xs) i b O g X (lk Q)↔JH xs[i]? (lk (Q (.nx O) g)) (lk λu=>Jy (Ae t u O) (lk λc=>wpS J d b c g X λf g=>JB f (lk λk=>JF J d t (.seq xs) (i+1) b k g X (lk Q)) (lk λf=>Q f g))):=by
 refine Iff.trans gJ ?_;constructor
 .rintro ⟨o,e,h⟩
  cases e;cases a:xs[i]? with
  |none=>rw[a]at h;exact h
  |some u=>
   rw[a]at h;let⟨c,j,h⟩:=h;refine bj.1 ⟨c,j,wp_mono h λf g q=>?_⟩;cases f<;>exact q
 .intro h
  refine⟨xs[i]?,rfl,?_⟩;cases a:xs[i]? with
  |none=>rw[a]at h;exact h
  |some u=>
   rw[a]at h;let⟨c,j,h⟩:=bj.2 h;refine⟨c,j,wp_mono h λf g q=>?_⟩;cases f<;>exact q
end
def AG(f:E->Su->Option U):List E->Su->Option (List U)
 |[],_=>some []
 |e::es,O=>match f e O with
  |some u=>match AG f es O with
   |some S=>some (u::S)
   |none=>none
  |none=>none
def Bu(x y:Option U):Option U:=match x with
 |some (.int i)=>match y with
  |some (.int j)=>some (.int (i+j))
  |_=>none
 |_=>none
def BD(x y:Option U):Option U:=match x with
 |some (.int i)=>match y with
  |some (.int j)=>some (.int (i-j))
  |_=>none
 |_=>none
def tupP(x:Option (List U)):Option U:=match x with
 |some S=>match Nat.ble S.length 1000 with
  |true=>some (.ZY S)
  |false=>none
 |none=>none
def JI(x:Option U)(k:Int):Option U:=match x with
 |some (.ZY xs)=>IQ xs k
 |_=>none
def DC(o:Option (Option U)):Option U:=match o with
 |some o=>o
 |none=>none
def JJ:Nat->E->Su->Option U
 |0,_,_=>none
 |n+1,e,O=>match e with
  |.L i=>DC O[i]?
  |.ZW u=>some u
  |.ZY es=>tupP (AG (JJ n) es O)
  |.ZR .add a b=>Bu (JJ n a O) (JJ n b O)
  |.ZR .sub a b=>BD (JJ n a O) (JJ n b O)
  |.idx a (.ZW (.int k))=>JI (JJ n a O) k
  |_=>none
section
variable{J:List Fn}{X:XP}{O:Su}
def pEs{f:E->Su->Option U}(b:∀e u (Q:U->G->Prop),f e O=some u->(Jp J d e O g X Q↔Q u g)):∀(a:List E) (S:List U) (Q:List U->G->Prop),AG f a O=some S->(Au J d a O g X Q↔Q S g)
 |[],S,Q,h=>by cases h;exact oQ
 |e::a,S,Q,h=>by
  cases he:f e O with
  |none=>simp![AG,he]at h;cases h
  |some u=>
   cases hs:AG f a O with
   |none=>simp![AG,he,hs]at h;cases h
   |some c=>
    simp![AG,he,hs]at h;cases h;exact lR.trans ((b e u _ he).trans (pEs b a c _ hs))
def rT{f:Option U->Option U->Option U}{a b:E}{x y:Option U}{u:U}{Q:U->G->Prop}(h:∀u (Q:U->G->Prop),x=some u->(Jp J d a O g X Q↔Q u g))(e:∀u (Q:U->G->Prop),y=some u->(Jp J d b O g X Q↔Q u g))(c:f x y=some u)(k:∀u,f x y=some u ->∃i j,x=some (.int i)/\y=some (.int j)/\IH op (.int i) (.int j)=some u):Jp J d (.ZR op a b) O g X Q↔Q u g:=by
 let⟨i,j,n,m,l⟩:=k u c;refine qJ.trans ((h _ _ n).trans ((e _ _ m).trans ?_));rw[sP,l,d8]
def pE:∀(n:Nat) (e:E) (u:U) (Q:U->G->Prop),JJ n e O=some u->(Jp J d e O g X Q↔Q u g)
 |0,_,_,_,h=>by cases h
 |n+1,e,u,Q,h=>by
  have ih:=pE n;unfold JJ at h;split at h
  .rename_i i
   refine si.trans ?_;cases hs:O[i]? with
   |none=>rw[hs]at h;cases h
   |some o=>rw[hs]at h;have h:o=some u:=h;subst h;exact Y1
  .cases h;exact sf
  .rename_i c
   cases hs:AG (JJ n) c O with
   |none=>rw[hs]at h;cases h
   |some S=>
    rw[hs]at h;simp![tupP]at h;cases hb:Nat.ble S.length 1000 with
    |true=>
     rw[hb]at h;cases h;refine qP.trans ((pEs (λe u Q h=>ih e u Q h) c S _ hs).trans ?_);rw[fH (by have:=Nat.le_of_ble_eq_true hb;omega),hV]
    |false=>rw[hb]at h;cases h
  .rename_i a b
   refine rT (f:=Bu) (λu Q h=>ih a u Q h) (λu Q h=>ih b u Q h) h λu h=>?_;unfold Bu at h;split at h
   .split at h
    .cases h;exact⟨_,_,‹_›,‹_›,rfl⟩
    .cases h
   .cases h
  .rename_i a b
   refine rT (f:=BD) (λu Q h=>ih a u Q h) (λu Q h=>ih b u Q h) h λu h=>?_;unfold BD at h;split at h
   .split at h
    .cases h;exact⟨_,_,‹_›,‹_›,rfl⟩
    .cases h
   .cases h
  .rename_i a k
   cases ha:JJ n a O with
   |none=>rw[ha]at h;cases h
   |some x=>
    rw[ha]at h;refine qY.trans ((ih a x _ ha).trans (sf.trans ?_));cases x with
    |ZY xs=>
     have h:IQ xs k=some u:=h;show Jy (IQ xs k) (lk _)↔_;rw[h,d8]
    |_=>cases h
  .cases h
def JK(J:List Fn)(d:Nat)(e:E)(O:Su)(g:G)(X:XP)(Q:U->G->Prop):Prop:=Jp J d e O g X Q
def JL(J:List Fn)(d:Nat)(a:List E)(O:Su)(g:G)(X:XP)(Q:List U->G->Prop):Prop:=Au J d a O g X Q
def p_E{e:E}:Jp J d e O g X Q=JH (JJ 8 e O) (lk (JK J d e O g X Q)) (lk λu=>Q u g):=propext (by
 cases h:JJ 8 e O with
 |none=>exact Y1
 |some u=>exact pE 8 e u Q h)
def ade{a:List E}{Q:List U->G->Prop}:Au J d a O g X Q=JH (AG (JJ 8) a O) (lk (JL J d a O g X Q)) (lk λS=>Q S g):=propext (by
 cases h:AG (JJ 8) a O with
 |none=>exact Y1
 |some S=>exact pEs (λe u Q h=>pE 8 e u Q h) a S Q h)
def lW{own:Nat}{fr:List Nat}{t:Tg}{it:E}{a:List (Tg×E×List E)}{k v:E}:JK J d (.V8 own fr ((t,it,cs)::a) k v) O g X Q↔Jt J d it O g X λi g=>JE J d i 0 t cs a (.pair k v) [] (List.replicate own none++fr.map λj=>(O[j]?).getD none) g (λ_ _ _=>False) (lk λS g=>Jy (dfold S []) <| lk λb=>Q (.ref g.length) (g++[.ZF b])):=abM
def lX{k v:E}:JK J d (.pair k v) O g X Q↔Jp J d k O g X λx g=>Jp J d v O g X λy g=>Jy (keyOf x) <| lk λ_=>Q (.ZY [x,y]) g:=aa4
def kj{own:Nat}{fr:List Nat}{t:Tg}{it:E}{a:List (Tg×E×List E)}:JK J d (.comp own fr ((t,it,cs)::a) elt) O g X Q↔Jt J d it O g X λi g=>JE J d i 0 t cs a elt [] (List.replicate own none++fr.map λj=>(O[j]?).getD none) g (λ_ _ _=>False) (lk λS g=>S.length<=Ab/\Q (.ref g.length) (g++[.Z5 S])):=z5
def ky:JK J d .VM O g X Q↔Q (.ref g.length) (g++[.ZF []]):=z7
def aaI:JK J d (.L i) O g X Q↔Jy O[i]? (lk λo=>Jy o (lk λu=>Q u g)):=si
end
section
variable{O:Su}
def ql{f:E->Su->Option U}:AG f [] O=some []:=rfl
def oV{f:E->Su->Option U}{e:E}{a:List E}:AG f (e::a) O=match f e O with
  |some u=>match AG f a O with
   |some S=>some (u::S)
   |none=>none
  |none=>none:=rfl
def rK:JJ (n+1) (.L i) O=DC O[i]?:=rfl
def rR:JJ (n+1) (.ZW u) O=some u:=rfl
def qK{a:List E}:JJ (n+1) (.ZY a) O=tupP (AG (JJ n) a O):=rfl
def qv{a b:E}:JJ (n+1) (.ZR .add a b) O=Bu (JJ n a O) (JJ n b O):=rfl
def sE{a b:E}:JJ (n+1) (.ZR .sub a b) O=BD (JJ n a O) (JJ n b O):=rfl
def qh{a:E}{k:Int}:JJ (n+1) (.idx a (.ZW (.int k))) O=JI (JJ n a O) k:=rfl
def oS{o:Option U}:DC (some o)=o:=rfl
def oq{a:U}:tupP (some [a])=some (.ZY [a]):=rfl
def og{a b:U}:tupP (some [a,b])=some (.ZY [a,b]):=rfl
def oO{a b c:U}:tupP (some [a,b,c])=some (.ZY [a,b,c]):=rfl
def pG{a b c d:U}:tupP (some [a,b,c,d])=some (.ZY [a,b,c,d]):=rfl
def nY{a b c d e:U}:tupP (some [a,b,c,d,e])=some (.ZY [a,b,c,d,e]):=rfl
def nv{a b c d e f:U}:tupP (some [a,b,c,d,e,f])=some (.ZY [a,b,c,d,e,f]):=rfl
def oX{a b c d e f g:U}:tupP (some [a,b,c,d,e,f,g])=some (.ZY [a,b,c,d,e,f,g]):=rfl
def mw{a b c d e f g h:U}:tupP (some [a,b,c,d,e,f,g,h])=some (.ZY [a,b,c,d,e,f,g,h]):=rfl
def pB:tupP none=none:=rfl
def oJ{i j:Int}:Bu (some (.int i)) (some (.int j))=some (.int (i+j)):=rfl
def oH{i j:Int}:BD (some (.int i)) (some (.int j))=some (.int (i-j)):=rfl
def ny{y:Option U}:Bu none y=none:=rfl
def nu{y:Option U}:BD none y=none:=rfl
def mh{i:Int}:Bu (some (.int i)) none=none:=rfl
def md{i:Int}:BD (some (.int i)) none=none:=rfl
def nC{y:Option U}:Bu (some (.ref i)) y=none:=rfl
def pS{k:Int}:JI (some (.ZY xs)) k=IQ xs k:=rfl
def rm{k:Int}:JI (some (.ref n)) k=none:=rfl
def rq{k:Int}:JI (some (.Zy xs)) k=none:=rfl
def qo{c:Nat}{k:Int}:JI (some (.xn c xs)) k=none:=rfl
def rB{k:Int}:JI none k=none:=rfl
def qj{a b:E}:JJ (n+1) (.ZR .mul a b) O=none:=rfl
def mU{a b:E}:JJ (n+1) (.ZR .fdiv a b) O=none:=rfl
def rP{a b:E}:JJ (n+1) (.ZR .mod a b) O=none:=rfl
def rY{a b:E}:JJ (n+1) (.ZR .pow a b) O=none:=rfl
def rL{o:Cp}{a b:E}:JJ (n+1) (.cmp o a b) O=none:=rfl
def lx{o q:Cp}{a b:E}:JJ (n+1) (.chain o q a b c) O=none:=rfl
def rQ{a b:E}:JJ (n+1) (.and a b) O=none:=rfl
def sJ{a b:E}:JJ (n+1) (.or a b) O=none:=rfl
def sH{a:E}:JJ (n+1) (.not a) O=none:=rfl
def sG{a:E}:JJ (n+1) (.neg a) O=none:=rfl
def qG{a b:E}:JJ (n+1) (.ite c a b) O=none:=rfl
def qt{a:List E}:JJ (n+1) (.Z5 a) O=none:=rfl
def rV{a:E}{lo hi:Option E}:JJ (n+1) (.W_ a lo hi) O=none:=rfl
def pR{a:E}:JJ (n+1) (.rev a) O=none:=rfl
def mv{f:Nat}{a:List E}:JJ (n+1) (.call f a) O=none:=rfl
def qL{a:E}{b:List Nat}:JJ (n+1) (.fld a j b) O=none:=rfl
def ko{f:Nat}{a ks:List E}:JJ (n+1) (.SS f a ks pm) O=none:=rfl
def ou{c f:Nat}{a ks:List E}:JJ (n+1) (.make c f a ks pm) O=none:=rfl
def sA{op:Cp}{a b:E}:JJ (n+1) (.oeq op tb a b) O=none:=rfl
def oN{a:E}{b ks:List E}:JJ (n+1) (.SR a j tb b ks) O=none:=rfl
def oC{c:Bool}{a:E}:JJ (n+1) (.Sa c a) O=none:=rfl
def sN{b:Bi}{a:List E}:JJ (n+1) (.bi b a) O=none:=rfl
def qS{a:E}{t:Ty}:JJ (n+1) (.Yz a t) O=none:=rfl
def pW{o v:E}:JJ (n+1) (.app o v) O=none:=rfl
def l7{o v:E}:JJ (n+1) (.R_ o v) O=none:=rfl
def sF{o v:E}:JJ (n+1) (.ext o v) O=none:=rfl
def rA{o:E}:JJ (n+1) (.pop o) O=none:=rfl
def nP  : JJ (n+1) .VM O=none:=rfl
def nM{fr:List Nat}{e:E}:JJ (n+1) (.comp m fr gs e) O=none:=rfl
def l6{ks:List PySem.Str}{a:List E}:JJ (n+1) (.R9 ks a) O=none:=rfl
def rZ{o k x:E}:JJ (n+1) (.dgt o k x) O=none:=rfl
def pz{k v:E}:JJ (n+1) (.pair k v) O=none:=rfl
def nB{fr:List Nat}{k v:E}:JJ (n+1) (.V8 m fr gs k v) O=none:=rfl
def sm{a:E}:JJ (n+1) (.idx a (.L i)) O=none:=rfl
def rM{a:E}{f:Nat}{b:List E}:JJ (n+1) (.idx a (.call f b)) O=none:=rfl
def qT{a:E}{b:List E}:JJ (n+1) (.idx a (.ZY b)) O=none:=rfl
def rS{a b:E}{o:Op}:JJ (n+1) (.idx a (.ZR o b c)) O=none:=rfl
def pO{a:E}{s:PySem.Str}:JJ (n+1) (.idx a (.ZW (.str s))) O=none:=rfl
def sC{a b:E}:JJ (n+1) (.idx a (.idx b c)) O=none:=rfl
def pN{a b:E}:JJ (n+1) (.idx a (.neg b)) O=none:=rfl
end
section
variable{J:List Fn}{X:XP}{O:Su}{QF:Fl->G->Prop}{QB:Bool->G->Prop}{QI:Iter->G->Prop}{QL:List U->G->Prop}{QO:Option Int->G->Prop}{cp:Cp}{cq:Cp}{a:E}{b:E}{e:E}{it:E}{o:E}{v:E}{k:Nat}{f:Nat}{cc:Nat}{cs:List Nat}{es:List E}{ks:List E}{p:Nat×List (Nat ⊕ U)}{x:U}{y:U}{w:U}{ws:List U}{lo:Option E}{hi:Option E}{l:Option Int}{h:Option Int}{t:Tg}{ty:Ty}{z:Bool}{n:Int}{s:Z6}{ss:List Z6}{A:List Z6}{B:List Z6}{ao:Op}{st:Su}{bb:Bi}{Xq:Iter}{pq:Iter×G}{g2:G}{nn:Nat}{ces:List E}{os:Option U}
def KV{b:Type}(g:G)(Q:b->G->Prop)(a:b):Prop:=Q a g
def ada{Q:α->G->Prop}{a:α}:Jy (some a) (lk (KV g Q))=Q a g:=propext Y1
def ac6{Q:α->G->Prop}{a:α}{A:Prop}:JH (some a) (lk A) (lk (KV g Q))=Q a g:=propext Y1
def adh{Q:α->G->Prop}{A:Prop}:JH none (lk A) (lk (KV g Q))=A:=propext Y1
def sM{Q:α->G->Prop}{a:α}:KV g Q a=Q a g:=propext Y1
def k_E  : Jp J d e O g X Q=JH (JJ 8 e O) (lk (JK J d e O g X Q)) (lk (KV g Q)):=p_E
def sO  : Au J d es O g X QL=JH (AG (JJ 8) es O) (lk (JL J d es O g X QL)) (lk (KV g QL)):=ade
def KB(g:G)(Q:U->G->Prop)(z:Bool):Prop:=Q (.bl z) g
def ac8  : Jy (some z) (lk (KB g Q))=(Q (.bl z) g):=propext Y1
def sR  : KB g Q z=(Q (.bl z) g):=propext Y1
def Kl2(u:U)(a:List U->G->Prop)(S:List U)(g:G):Prop:=a (u::S) g
def qF  : Kl2 u QL S g=(QL (u::S) g):=propext Y1
def Kl1(J:List Fn)(d:Nat)(a:List E)(O:Su)(X:XP)(b:List U->G->Prop)(u:U)(g:G):Prop:=Au J d a O g X (Kl2 u b)
def qm  : Kl1 J d es O X QL u g=(Au J d es O g X (Kl2 u QL)):=propext Y1
def aac  : JL J d [] O g X QL↔QL [] g:=oQ
def lG  : JL J d (e::es) O g X QL↔Jp J d e O g X (Kl1 J d es O X QL):=lR
def Dh(op:Op)(x:U)(X:XP)(Q:U->G->Prop)(y:U)(g:G):Prop:=ob op x y g X (lk Q)
def lz  : Dh op x X Q y g=(ob op x y g X (lk Q)):=propext Y1
def EO(J:List Fn)(d:Nat)(op:Op)(b:E)(O:Su)(X:XP)(Q:U->G->Prop)(x:U)(g:G):Prop:=Jp J d b O g X (Dh op x X Q)
def lQ  : EO J d op b O X Q x g=(Jp J d b O g X (Dh op x X Q)):=propext Y1
def qy  : JK J d (.ZR op a b) O g X Q↔Jp J d a O g X (EO J d op b O X Q):=qJ
def sY{i:Int}{y:U}{X:XP}:ob op (.int i) y g X (lk Q)=Jy (IH op (.int i) y) (lk (KV g Q)):=sP
def BP(a:Cp)(x:U)(Q:U->G->Prop)(y:U)(g:G):Prop:=Jy (IM a x y g) (lk (KB g Q))
def k7  : BP cp x Q y g=(Jy (IM cp x y g) (lk (KB g Q))):=propext Y1
def E7(J:List Fn)(d:Nat)(a:Cp)(b:E)(O:Su)(X:XP)(Q:U->G->Prop)(x:U)(g:G):Prop:=Jp J d b O g X (BP a x Q)
def kB  : E7 J d cp b O X Q x g=(Jp J d b O g X (BP cp x Q)):=propext Y1
def rG  : JK J d (.cmp cp a b) O g X Q↔Jp J d a O g X (E7 J d cp b O X Q):=acd
def C1(J:List Fn)(d:Nat)(cq:Cp)(y:U)(c:E)(O:Su)(g:G)(X:XP)(Q:U->G->Prop)(z:Bool):Prop:=Jz z (lk (Jp J d c O g X (BP cq y Q))) (lk (Q (.bl false) g))
def abr  : Jy (some z) (lk (C1 J d cq y c O g X Q))=(Jz z (lk (Jp J d c O g X (BP cq y Q))) (lk (Q (.bl false) g))):=propext Y1
def n5  : C1 J d cq y c O g X Q z=(Jz z (lk (Jp J d c O g X (BP cq y Q))) (lk (Q (.bl false) g))):=propext Y1
def DK(J:List Fn)(d:Nat)(b:Cp)(a:Cp)(x:U)(c:E)(O:Su)(X:XP)(Q:U->G->Prop)(y:U)(g:G):Prop:=Jy (IM b x y g) (lk (C1 J d a y c O g X Q))
def pk  : DK J d cp cq x c O X Q y g=(Jy (IM cp x y g) (lk (C1 J d cq y c O g X Q))):=propext Y1
def Fg(J:List Fn)(d:Nat)(e:Cp)(a:Cp)(b:E)(c:E)(O:Su)(X:XP)(Q:U->G->Prop)(x:U)(g:G):Prop:=Jp J d b O g X (DK J d e a x c O X Q)
def pD  : Fg J d cp cq b c O X Q x g=(Jp J d b O g X (DK J d cp cq x c O X Q)):=propext Y1
def lu  : JK J d (.chain cp cq a b c) O g X Q↔Jp J d a O g X (Fg J d cp cq b c O X Q):=y9
def FR(J:List Fn)(d:Nat)(b:E)(O:Su)(X:XP)(Q:U->G->Prop)(x:U)(g:G):Prop:=Jy (match x with|.bl z=>some z|_=>none) <| lk λz=>Jz z (lk (Jp J d b O g X Q)) (lk (Q (.bl false) g))
def ng{J:List Fn}{b:E}{O:Su}{X:XP}{z:Bool}:FR J d b O X Q (.bl z) g=Jz z (lk (Jp J d b O g X Q)) (lk (Q (.bl false) g)):=propext Y1
def qU  : JK J d (.and a b) O g X Q↔Jp J d a O g X (FR J d b O X Q):=acD
def Kor(J:List Fn)(d:Nat)(b:E)(O:Su)(X:XP)(Q:U->G->Prop)(x:U)(g:G):Prop:=Jy (match x with|.bl z=>some z|_=>none) <| lk λz=>Jz z (lk (Q (.bl true) g)) (lk (Jp J d b O g X Q))
def ab9{J:List Fn}{b:E}{O:Su}{X:XP}{z:Bool}:Kor J d b O X Q (.bl z) g=Jz z (lk (Q (.bl true) g)) (lk (Jp J d b O g X Q)):=propext Y1
def ac9  : JK J d (.or a b) O g X Q↔Jp J d a O g X (Kor J d b O X Q):=adb
def Knt(g:G)(Q:U->G->Prop)(z:Bool):Prop:=Q (.bl !z) g
def acK  : Jy (some z) (lk (Knt g Q))=(Q (.bl !z) g):=propext Y1
def rH  : Knt g Q z=(Q (.bl !z) g):=propext Y1
def Fz(Q:U->G->Prop)(x:U)(g:G):Prop:=Jy (IP x g) (lk (Knt g Q))
def mD  : Fz Q x g=(Jy (IP x g) (lk (Knt g Q))):=propext Y1
def qA  : JK J d (.not a) O g X Q↔Jp J d a O g X (Fz Q):=acT
def Fo(Q:U->G->Prop)(x:U)(g:G):Prop:=Jy (match x with|.int i=>some i|_=>none) <| lk λi=>Q (.int (-i)) g
def oW{i:Int}:Fo Q (.int i) g=Q (.int (-i)) g:=propext Y1
def rg  : JK J d (.neg a) O g X Q↔Jp J d a O g X (Fo Q):=acp
def F6(Q:U->G->Prop)(S:List U)(g:G):Prop:=Jz (AY S.length) (lk (Q (.ZY S) g)) (lk False)
def oG  : F6 Q S g=(Jz (AY S.length) (lk (Q (.ZY S) g)) (lk False)):=propext Y1
def qC  : JK J d (.ZY es) O g X Q↔Au J d es O g X (F6 Q):=qP
def Fd(Q:U->G->Prop)(S:List U)(g:G):Prop:=Jz (AY S.length) (lk (Q (.ref g.length) (g++[.Z5 S]))) (lk False)
def n8  : Fd Q S g=(Jz (AY S.length) (lk (Q (.ref g.length) (g++[.Z5 S]))) (lk False)):=propext Y1
def pV  : JK J d (.Z5 es) O g X Q↔Au J d es O g X (Fd Q):=ace
def DB(i:Int)(g:G)(Q:U->G->Prop)(xs:List U):Prop:=Jy (IQ xs i) (lk (KV g Q))
def zK{i:Int}:Jy (some xs) (lk (DB i g Q))=Jy (IQ xs i) (lk (KV g Q)):=propext Y1
def mf{i:Int}:DB i g Q xs=Jy (IQ xs i) (lk (KV g Q)):=propext Y1
def Cj(x:U)(Q:U->G->Prop)(y:U)(g:G):Prop:=match y with|.ZY S=>Jy ((AK (.ZY S) x g).bind id) <| lk λz=>Q z g|.str k=>Jy ((IJ x g).bind λb=>BF b k) <| lk λz=>Q z g|y=>Jy (match y with|.int i=>some i|_=>none) <| lk λi=>Jy (items x g) <| lk λa=>Jy (IQ a i) <| lk λz=>Q z g
def ow{x:U}{i:Int}:Cj x Q (.int i) g=Jy (items x g) (lk (DB i g Q)):=propext Y1
def aaR{x:U}:Cj x Q (.ZY S) g=Jy ((AK (.ZY S) x g).bind id) (lk (KV g Q)):=propext Y1
def abQ{x:U}{k:PySem.Str}:Cj x Q (.str k) g=Jy ((IJ x g).bind λZ4=>BF Z4 k) (lk (KV g Q)):=propext Y1
def FN(J:List Fn)(d:Nat)(b:E)(O:Su)(X:XP)(Q:U->G->Prop)(x:U)(g:G):Prop:=Jp J d b O g X (Cj x Q)
def oM  : FN J d b O X Q x g=(Jp J d b O g X (Cj x Q)):=propext Y1
def sk  : JK J d (.idx a b) O g X Q↔Jp J d a O g X (FN J d b O X Q):=qY
def DL(x:U)(l:Option Int)(X:XP)(Q:U->G->Prop)(h:Option Int)(g:G):Prop:=hk (CI x l h g) X (lk Q)
def om  : DL x l X Q h g=(hk (CI x l h g) X (lk Q)):=propext Y1
def DP(J:List Fn)(d:Nat)(x:U)(hi:Option E)(O:Su)(X:XP)(Q:U->G->Prop)(l:Option Int)(g:G):Prop:=Jr J d hi O g X (DL x l X Q)
def nF  : DP J d x hi O X Q l g=(Jr J d hi O g X (DL x l X Q)):=propext Y1
def Gd(J:List Fn)(d:Nat)(lo:Option E)(hi:Option E)(O:Su)(X:XP)(Q:U->G->Prop)(x:U)(g:G):Prop:=Jr J d lo O g X (DP J d x hi O X Q)
def mZ  : Gd J d lo hi O X Q x g=(Jr J d lo O g X (DP J d x hi O X Q)):=propext Y1
def qe  : JK J d (.W_ a lo hi) O g X Q↔Jp J d a O g X (Gd J d lo hi O X Q):=acW
def E8(J:List Fn)(d:Nat)(f:Nat)(X:XP)(Q:U->G->Prop)(S:List U)(g:G):Prop:=JD J d f S g X (lk Q)
def kU  : E8 J d f X Q S g=(JD J d f S g X (lk Q)):=propext Y1
def l8  : JK J d (.call f es) O g X Q↔Au J d es O g nX (E8 J d f X Q):=mi
def CU(g:G)(X:XP)(Q:U->G->Prop)(k:Nat):Prop:=hk (Bo k g) X (lk Q)
def abz  : Jy (some k) (lk (CU g X Q))=(hk (Bo k g) X (lk Q)):=propext Y1
def mV  : CU g X Q k=(hk (Bo k g) X (lk Q)):=propext Y1
def Ff(X:XP)(Q:U->G->Prop)(x:U)(g:G):Prop:=Jy (IW x g) (lk (CU g X Q))
def mr  : Ff X Q x g=(Jy (IW x g) (lk (CU g X Q))):=propext Y1
def qp  : JK J d (.pop o) O g X Q↔Jp J d o O g X (Ff X Q):=ab2
def CN(k:Nat)(X:XP)(Q:U->G->Prop)(y:U)(g:G):Prop:=hk (Bj k y g) X (lk Q)
def mm  : CN k X Q y g=(hk (Bj k y g) X (lk Q)):=propext Y1
def CQ(J:List Fn)(d:Nat)(v:E)(O:Su)(g:G)(X:XP)(Q:U->G->Prop)(k:Nat):Prop:=Jp J d v O g X (CN k X Q)
def zN  : Jy (some k) (lk (CQ J d v O g X Q))=(Jp J d v O g X (CN k X Q)):=propext Y1
def nD  : CQ J d v O g X Q k=(Jp J d v O g X (CN k X Q)):=propext Y1
def FG(J:List Fn)(d:Nat)(v:E)(O:Su)(X:XP)(Q:U->G->Prop)(x:U)(g:G):Prop:=Jy (IW x g) (lk (CQ J d v O g X Q))
def pd  : FG J d v O X Q x g=(Jy (IW x g) (lk (CQ J d v O g X Q))):=propext Y1
def qR  : JK J d (.app o v) O g X Q↔Jp J d o O g X (FG J d v O X Q):=ab5
def C0(k:Nat)(X:XP)(Q:U->G->Prop)(y:U)(g:G):Prop:=hk (BB k y g) X (lk Q)
def pL  : C0 k X Q y g=(hk (BB k y g) X (lk Q)):=propext Y1
def C2(J:List Fn)(d:Nat)(v:E)(O:Su)(g:G)(X:XP)(Q:U->G->Prop)(k:Nat):Prop:=Jp J d v O g X (C0 k X Q)
def abJ  : Jy (some k) (lk (C2 J d v O g X Q))=(Jp J d v O g X (C0 k X Q)):=propext Y1
def oA  : C2 J d v O g X Q k=(Jp J d v O g X (C0 k X Q)):=propext Y1
def Fe(J:List Fn)(d:Nat)(v:E)(O:Su)(X:XP)(Q:U->G->Prop)(x:U)(g:G):Prop:=Jy (IW x g) (lk (C2 J d v O g X Q))
def pJ  : Fe J d v O X Q x g=(Jy (IW x g) (lk (C2 J d v O g X Q))):=propext Y1
def sh  : JK J d (.ext o v) O g X Q↔Jp J d o O g X (Fe J d v O X Q):=acn
def Kbi(a:Bi)(X:XP)(Q:U->G->Prop)(S:List U)(g:G):Prop:=hk (IV a S g) X (lk Q)
def qW  : Kbi bb X Q S g=(hk (IV bb S g) X (lk Q)):=propext Y1
def sQ  : JK J d (.bi bb es) O g X Q↔Au J d es O g X (Kbi bb X Q):=ac7
def F4(a:Ty)(Q:U->G->Prop)(x:U)(g:G):Prop:=Jy (Aw a x g) (lk (KB g Q))
def oj  : F4 ty Q x g=(Jy (Aw ty x g) (lk (KB g Q))):=propext Y1
def qg  : JK J d (.Yz a ty) O g X Q↔Jp J d a O g X (F4 ty Q):=aci
def Ko(Q:Option Int->G->Prop)(x:U)(g:G):Prop:=Jy (match x with|.int i=>some i|_=>none) <| lk λi=>Q (some i) g
def sI{Q:Option Int->G->Prop}{i:Int}:Ko Q (.int i) g=Q (some i) g:=propext Y1
def k9  : Jr J d (some e) O g X QO↔Jp J d e O g X (Ko QO):=aaw
def Ktr(a:Bool->G->Prop)(x:U)(g:G):Prop:=Jy (IP x g) (lk (KV g a))
def qk  : Ktr QB x g=(Jy (IP x g) (lk (KV g QB))):=propext Y1
def Kta(J:List Fn)(d:Nat)(b:E)(O:Su)(X:XP)(QB:Bool->G->Prop)(z:Bool)(g:G):Prop:=Jz z (lk (Jq J d b O g X QB)) (lk (QB false g))
def rC  : Kta J d b O X QB z g=(Jz z (lk (Jq J d b O g X QB)) (lk (QB false g))):=propext Y1
def Kto(J:List Fn)(d:Nat)(b:E)(O:Su)(X:XP)(QB:Bool->G->Prop)(z:Bool)(g:G):Prop:=Jz z (lk (QB true g)) (lk (Jq J d b O g X QB))
def qZ  : Kto J d b O X QB z g=(Jz z (lk (QB true g)) (lk (Jq J d b O g X QB))):=propext Y1
def Ktn(a:Bool->G->Prop)(z:Bool)(g:G):Prop:=a (!z) g
def pP  : Ktn QB z g=(QB (!z) g):=propext Y1
def mL  : Jq J d (.and a b) O g X QB↔Jq J d a O g X (Kta J d b O X QB):=acX
def rj  : Jq J d (.or a b) O g X QB↔Jq J d a O g X (Kto J d b O X QB):=ac5
def ot  : Jq J d (.not a) O g X QB↔Jq J d a O g X (Ktn QB):=acS
def oU  : Jq J d (.L i) O g X QB↔Jp J d (.L i) O g X (Ktr QB):=t_e rfl
def aa2  : Jq J d (.ZW u) O g X QB↔Jp J d (.ZW u) O g X (Ktr QB):=t_e rfl
def nA  : Jq J d (.cmp cp a b) O g X QB↔Jp J d (.cmp cp a b) O g X (Ktr QB):=t_e rfl
def xq  : Jq J d (.chain cp cq a b c) O g X QB↔Jp J d (.chain cp cq a b c) O g X (Ktr QB):=t_e rfl
def kR  : Jq J d (.call f es) O g X QB↔Jp J d (.call f es) O g X (Ktr QB):=t_e rfl
def acL  : Jq J d (.bi bb es) O g X QB↔Jp J d (.bi bb es) O g X (Ktr QB):=t_e rfl
def nS  : Jq J d (.Yz a ty) O g X QB↔Jp J d (.Yz a ty) O g X (Ktr QB):=t_e rfl
def z0  : Jq J d (.idx a b) O g X QB↔Jp J d (.idx a b) O g X (Ktr QB):=t_e rfl
def aba  : Jq J d (.ZR op a b) O g X QB↔Jp J d (.ZR op a b) O g X (Ktr QB):=t_e rfl
def abn  : Jq J d (.W_ a lo hi) O g X QB↔Jp J d (.W_ a lo hi) O g X (Ktr QB):=t_e rfl
def aaD  : Jq J d (.ZY es) O g X QB↔Jp J d (.ZY es) O g X (Ktr QB):=t_e rfl
def abj  : Jq J d (.Z5 es) O g X QB↔Jp J d (.Z5 es) O g X (Ktr QB):=t_e rfl
def zm{J:List Fn}{X:XP}{O:Su}{fr:List Nat}{e:E}{a:Bool->G->Prop}:Jq J d (.comp m fr gs e) O g X a↔Jp J d (.comp m fr gs e) O g X (Ktr a):=t_e rfl
def Kac(J:List Fn)(d:Nat)(b:List E)(O:Su)(X:XP)(a:Bool->G->Prop)(z:Bool)(g:G):Prop:=Jz z (lk (Js J d b O g X a)) (lk (a false g))
def qr  : Kac J d es O X QB z g=(Jz z (lk (Js J d es O g X QB)) (lk (QB false g))):=propext Y1
def lH  : Js J d (c::es) O g X QB↔Jq J d c O g X (Kac J d es O X QB):=aaK
def F3(Q:Iter->G->Prop)(x:U)(g:G):Prop:=Jy (match x with|.int i=>some i|_=>none) <| lk λj=>Jz (Am j) (lk (Q (.YY 0 j.toNat) g)) (lk False)
def mP{Q:Iter->G->Prop}{j:Int}:F3 Q (.int j) g=Jz (Am j) (lk (Q (.YY 0 j.toNat) g)) (lk False):=propext Y1
def lO  : Jt J d (.Xy a) O g X QI↔Jp J d a O g X (F3 QI):=abA
def DG(u:U)(Q:Iter->G->Prop)(w:U)(g:G):Prop:=Jy (match u with|.int i=>some i|_=>none) <| lk λi=>Jy (match w with|.int i=>some i|_=>none) <| lk λj=>Jz (Am i&&Am j) (lk (Q (.YY i (j-i).toNat) g)) (lk False)
def pF{Q:Iter->G->Prop}{i j:Int}:DG (.int i) Q (.int j) g=Jz (Am i&&Am j) (lk (Q (.YY i (j-i).toNat) g)) (lk False):=propext Y1
def Fm(J:List Fn)(d:Nat)(b:E)(O:Su)(X:XP)(a:Iter->G->Prop)(u:U)(g:G):Prop:=Jp J d b O g X (DG u a)
def m7  : Fm J d b O X QI u g=(Jp J d b O g X (DG u QI)):=propext Y1
def kY  : Jt J d (.WN a b) O g X QI↔Jp J d a O g X (Fm J d b O X QI):=aai
def CJ(Q:Iter->G->Prop)(p:Iter×G):Prop:=Q p.1 p.2
def aaa{Q:Iter->G->Prop}{i:Iter}:Jy (some (i,g)) (lk (CJ Q))=Q i g:=propext Y1
def mq{Q:Iter->G->Prop}{i:Iter}:CJ Q (i,g)=Q i g:=propext Y1
def Kit(a:Iter->G->Prop)(u:U)(g:G):Prop:=Jy (BV u g) (lk (CJ a))
def qd  : Kit QI u g=(Jy (BV u g) (lk (CJ QI))):=propext Y1
def nJ  : Jt J d (.L i) O g X QI↔Jp J d (.L i) O g X (Kit QI):=i_e rfl
def kf  : Jt J d (.call f es) O g X QI↔Jp J d (.call f es) O g X (Kit QI):=i_e rfl
def qX  : Jt J d (.bi bb es) O g X QI↔Jp J d (.bi bb es) O g X (Kit QI):=i_e rfl
def oy  : Jt J d (.idx a b) O g X QI↔Jp J d (.idx a b) O g X (Kit QI):=i_e rfl
def aaz  : Jt J d (.W_ a lo hi) O g X QI↔Jp J d (.W_ a lo hi) O g X (Kit QI):=i_e rfl
def m8  : Jt J d (.ZY es) O g X QI↔Jp J d (.ZY es) O g X (Kit QI):=i_e rfl
def zG  : Jt J d (.Z5 es) O g X QI↔Jp J d (.Z5 es) O g X (Kit QI):=i_e rfl
def yh{J:List Fn}{X:XP}{O:Su}{fr:List Nat}{e:E}{a:Iter->G->Prop}:Jt J d (.comp m fr gs e) O g X a↔Jp J d (.comp m fr gs e) O g X (Kit a):=i_e rfl
def Cf(J:List Fn)(d:Nat)(a:List Z6)(X:XP)(Q:Fl->G->Prop)(f:Fl)(g:G):Prop:=JA f (lk (λb=>wpS J d a b g X Q)) (lk λf=>Q f g)
def cD  : Cf J d ss X QF (.nx O) g=(wpS J d ss O g X QF):=propext Y1
def ki  : Cf J d ss X QF (.rt u) g=(QF (.rt u) g):=propext Y1
def yA  : Cf J d ss X QF (.bk O) g=(QF (.bk O) g):=propext Y1
def xR  : Cf J d ss X QF (.ct O) g=(QF (.ct O) g):=propext Y1
def kI  : wpS J d (s::ss) O g X QF↔Ju J d s O g X (Cf J d ss X QF):=aaj
def F8(a:Fl->G->Prop)(u:U)(g:G):Prop:=a (.rt u) g
def mH  : F8 QF u g=(QF (.rt u) g):=propext Y1
def l9  : Ju J d (.ret e) O g X QF↔Jp J d e O g X (F8 QF):=ac0
def CM(g:G)(a:Fl->G->Prop)(st:Su):Prop:=a (.nx st) g
def zT  : Jy (some st) (lk (CM g QF))=(QF (.nx st) g):=propext Y1
def pA  : CM g QF st=(QF (.nx st) g):=propext Y1
def Kst(t:Tg)(O:Su)(a:Fl->G->Prop)(u:U)(g:G):Prop:=Jy (Ae t (IZ t u g) O) (lk (CM g a))
def rJ  : Kst t O QF u g=(Jy (Ae t (IZ t u g) O) (lk (CM g QF))):=propext Y1
def oR  : Ju J d (.set t e) O g X QF↔Jp J d e O g X (Kst t O QF):=zY
def DR(u:U)(x:U)(O:Su)(X:XP)(a:Fl->G->Prop)(y:U)(g:G):Prop:=hk (subAt x y u O g) X (lk a)
def nj  : DR u x O X QF y g=(hk (subAt x y u O g) X (lk QF)):=propext Y1
def DM(J:List Fn)(d:Nat)(u:U)(b:E)(O:Su)(X:XP)(a:Fl->G->Prop)(x:U)(g:G):Prop:=Jp J d b O g X (DR u x O X a)
def mQ  : DM J d u b O X QF x g=(Jp J d b O g X (DR u x O X QF)):=propext Y1
def FY(J:List Fn)(d:Nat)(o:E)(b:E)(O:Su)(X:XP)(a:Fl->G->Prop)(u:U)(g:G):Prop:=Jp J d o O g X (DM J d u b O X a)
def oZ  : FY J d o b O X QF u g=(Jp J d o O g X (DM J d u b O X QF)):=propext Y1
def ni  : Ju J d (.sub o b e) O g X QF↔Jp J d e O g X (FY J d o b O X QF):=zP
def Kxp(O:Su)(a:Fl->G->Prop)(u:U)(g:G):Prop:=a (.nx O) g
def sD  : Kxp O QF u g=(QF (.nx O) g):=propext Y1
def nq  : Ju J d (.exp e) O g X QF↔Jp J d e O g X (Kxp O QF):=acZ
def Kif(J:List Fn)(d:Nat)(A:List Z6)(B:List Z6)(O:Su)(X:XP)(a:Fl->G->Prop)(z:Bool)(g:G):Prop:=Jz z (lk (wpS J d A O g X a)) (lk (wpS J d B O g X a))
def gZ  : Kif J d A B O X QF z g=(Jz z (lk (wpS J d A O g X QF)) (lk (wpS J d B O g X QF))):=propext Y1
def mX  : Ju J d (.Zu c A B) O g X QF↔Jq J d c O g X (Kif J d A B O X QF):=aat
def Gc(J:List Fn)(d:Nat)(t:Tg)(A:List Z6)(O:Su)(X:XP)(b:Fl->G->Prop)(a:Iter)(g:G):Prop:=JF J d t a 0 A O g X (lk b)
def nV  : Gc J d t A O X QF Xq g=(JF J d t Xq 0 A O g X (lk QF)):=propext Y1
def mG  : Ju J d (.for t it A) O g X QF↔Jt J d it O g X (Gc J d t A O X QF):=zO
def Kfn(Q:U->G->Prop)(f:Fl)(g:G):Prop:=JC f (lk λu=>Q u g)
def m9:Kfn Q (.rt u) g=Q u g:=propext Y1
def ph{O:Su}:Kfn Q (.nx O) g=Q .ZJ g:=propext Y1
def ag{J:List Fn}{X:XP}{f:Nat}{F:Fn}(b:J[f]?=some F)(a:S.length=F.np)(h:wpS J d F.body (S.map some++List.replicate (F.ns-S.length) none) g X (Kfn Q)):Jo J (d+1) f S g X Q:=(nh b a).2 h
end
section
variable{J:List Fn}{X:XP}{O:Su}{Q:Fl->G->Prop}
def iJ{o:Out α}{Q:α->G->Prop}:holds o.Zd X Q↔holds o nX Q:=by cases o<;>exact Y1
def yy{f:Nat->Out α}{Q:α->G->Prop}:wp (λn=>(f n).Zd) X Q↔wp f nX Q:=⟨λ⟨n,h⟩=>⟨n,iJ.1 h⟩,λ⟨n,h⟩=>⟨n,iJ.2 h⟩⟩
def acM{b:List Z6}:Ju J d (.Zi b) O g X Q↔wpS J d b O g nX Q:=yy
def acf{a b:List Z6}:Ju J d (.V7 c a b) O g X Q↔Jq J d c O g nX λk g=>Jz k (lk (wpS J d a O g X Q)) (lk (wpS J d b O g X Q)):=by
 unfold Ju;delta Jc;dsimp only;simp![fB];refine(aK (mT _ _ _) (by intro k g;cases k;exact mS _ _ _;exact mS _ _ _)).trans (wp_congr λx g=>?_)
 rw[<-bG];cases x<;>exact Y1
def xW{c:Nat}{b:List E}:Ju J d (.raise c b) O g X Q↔Au J d b O g nX λS g=>S.length<=Ab/\X c S g:=by
 unfold Ju;delta Jc;dsimp only;simp![fB];refine(aK (k:=λ_ S g=>if S.length<=Ab then Out.exc c S g else Out.ZX) (mEs _ _ _) (λa g=>mK _)).trans (wp_congr λS g=>ae.trans ?_)
 split
 .rename_i h;exact⟨λq=>⟨h,q⟩,λq=>q.2⟩
 .rename_i h;exact⟨λq=>q.elim,λq=>(h q.1).elim⟩
def ui{o:Out U}{c:Nat}{xs:List (Option U)}(q:holds o (λB z g2=>B=c/\j<O.length/\xs.length<=Ab/\z.length=1 /\∃S,Jb z xs=some S/\Q (.nx ((List.replicate O.length none).set j (some (.ZY S)))) g2) λu g2=>j<O.length/\Q (.nx (O.set j (some u))) g2):holds (Bc o j c xs O) X Q:=by
 cases o with
 |ok u g2=>let⟨h,q⟩:=(show j<O.length/\Q (.nx (O.set j (some u))) g2 from q);simp![Bc];rw[Y2 h];exact q
 |exc B z g2=>
  let⟨R,L,G,h4,S,F,q⟩:=(show B=c/\j<O.length/\xs.length<=Ab/\z.length=1 /\∃S,Jb z xs=some S/\Q (.nx ((List.replicate O.length none).set j (some (.ZY S)))) g2 from q);simp![Bc];rw[Y2 ⟨R,L,G,h4⟩];simp![F];exact q
 |ZX=>exact q.elim
def abu{f c:Nat}{es:List E}{xs:List (Option U)}
  (h:Au J d es O g nX λS g1=>Jo J d f S g1 (λB z g2=>B=c/\j<O.length/\xs.length<=Ab/\z.length=1 /\∃S,Jb z xs=some S/\Q (.nx ((List.replicate O.length none).set j (some (.ZY S)))) g2) λu g2=>j<O.length/\Q (.nx (O.set j (some u))) g2) :
  Ju J d (.U4 j f es c xs) O g X Q:=by
 let⟨n,q⟩:=mi.2 h;refine⟨n,?_⟩;simp![Jc];exact ui q
end
def bw(h:i<xs.length):IQ xs (i:Int)=xs[i]?:=by
 unfold IQ L2.atI L2.ixN;rw[Y2 (),Y2 ()]
 simp
def b6{i:Int}(a:0<=i)(h:i<xs.length):IQ xs i=xs[i.toNat]?:=by
 have:=bw (xs:=xs) (i:=i.toNat) ()
 rwa[Int.toNat_of_nonneg a]at this
def pX{x:U}:IQ (x::xs) 0=some x:=bw (i:=0) (by simp)
def qQ{x y:U}:IQ (x::y::xs) 1=some y:=bw (i:=1) (by simp)
def rN{x y z:U}:IQ (x::y::z::xs) 2=some z:=bw (i:=2) (by simp)
def se{x y z a:U}:IQ (x::y::z::a::xs) 3=some a:=bw (i:=3) (by simp)
def qO{x y z a b:U}:IQ (x::y::z::a::b::xs) 4=some b:=bw (i:=4) (by simp)
def rF{x y z a b c:U}:IQ (x::y::z::a::b::c::xs) 5=some c:=bw (i:=5) (by simp)
def small(i:Int):Prop:=-Bz<i/\i<Bz
def bp{i:Int}(h:(decide (-18446744073709551616<i)&&decide (i<18446744073709551616))=true):small i:=by simp at h;exact h
section
variable{i j:Int}
def eA:IH .add (.int i) (.int j)=some (.int (i+j)):=rfl
def eJ:IH .sub (.int i) (.int j)=some (.int (i-j)):=rfl
def pC(h:0<j):IH .mod (.int i) (.int j)=some (.int (i % j)):=by simp![IH,IG,Y2 h]
def lg(h:0<j)(h':j<An):IH .fdiv (.int i) (.int j)=some (.int (i / j)):=by simp![IH,IG,Y2 h,Y2 h']
def ke(h:small i):IH .mul (.int i) (.int j)=some (.int (i*j)):=by
 let⟨b,a⟩:=h;simp[IH,IG,b,a]
def ls(h:small j):IH .mul (.int i) (.int j)=some (.int (i*j)):=by
 let⟨b,a⟩:=h;simp[IH,IG,b,a]
def pZ:IM .eq (.int i) (.int j) g=some (decide (i=j)):=by
 simp![IM,IF,Ak];congr 1
def sv{a b:Bool}:IM .eq (.bl a) (.bl b) g=some (a==b):=rfl
def pQ{a b:PySem.Str}:IM .eq (.str a) (.str b) g=some (a==b):=rfl
def rl{a:List U}:IM .eq (.ZY xs) (.ZY a) g=Ap xs a:=rfl
def gS{a:List U}:Ap (.int i::xs) (.int j::a)=(Ap xs a).map λc=>decide (i=j)&&c:=by
 simp![Ap,Ak];cases Ap xs a with
 |none=>rfl
 |some c=>simp![Sl];congr 1
def fP:Ap [] []=some true:=rfl
def rn:IM .ne (.int i) (.int j) g=some (!decide (i=j)):=by simp![IM,B6,Qp,Ak,Sl];congr 1
def sS{x:U}:IM .U8 x .ZJ g=some (AV x):=rfl
def rX{x:U}:IM .Tf x .ZJ g=some (!AV x):=rfl
def cin{x y:U}:IM .WO x y g=match items y g with|some ys=>II x ys|none=>(AK x y g).map Option.isSome:=rfl
def hJ{x y:U}:IM .YB x y g=match items y g with|some ys=>(II x ys).map (!·)|none=>(AK x y g).map λo=>!o.isSome:=rfl
def clt:IM .lt (.int i) (.int j) g=some (decide (i<j)):=rfl
def cle:IM .le (.int i) (.int j) g=some (decide (i<=j)):=rfl
def cgt:IM .gt (.int i) (.int j) g=some (decide (j<i)):=rfl
def cge:IM .ge (.int i) (.int j) g=some (decide (j<=i)):=rfl
end
section
variable{J:List Fn}{X:XP}{O:Su}
def gW{it:Iter}{t:Tg}{z:List E}{m:E}{Q:List U->G->Prop}{p:Type}(a:List p)(b:p->U)(c:p->Bool)(e:p->U)(f:G->Prop)
  (s:∀k g,f g->next it k g=some (a.map b)[k]?)
  (w:∀y,y∈a->AS t O=true/\Jy (Ae t (b y) O) (lk λu=>∀g,f g->Js J d z u g (λ_ _ _=>False) λk g=>k=c y/\Jz (c y) (lk (Jp J d m u g (λ_ _ _=>False) λv g=>v=e y/\f g)) (lk (f g)))) :
  ∀(n i:Nat) (o:List U) (g:G),i+n=a.length->o.length+n<Ab->f g->(∀g,f g->Q (o++((a.drop i).filter c).map e) g)->Jx J d it i t z [] m o O g X Q
 |0,i,o,g,D,_,h,r=>by
  rw[bW];refine⟨none,by rw[s _ _ h];simp;omega,?_⟩
  have:=r g h;rw[Qr ()]at this
  simpa using this
 |n+1,i,o,g,D,hl,h,r=>by
  have hi:i<a.length:=by omega
  have x:a.drop i=a[i]::a.drop (i+1):=Ss hi;let⟨B,F⟩:=w a[i] (QJ hi);let⟨u,C,A⟩:=bj.2 F;rw[bW];refine⟨some (b a[i]),by rw[s _ _ h];simp[hi],B,u,C,wp_mono (A g h) λk g q=>?_⟩
  let⟨rfl,q⟩:=q;by_cases j:c a[i]=true
  .rw [Y2 j]
   rw[j]at q;refine wp_mono q λv g ⟨ev,l⟩=>⟨by omega,?_⟩
   subst ev;refine gW a b c e f s w n (i+1) _ g () (by simp;omega) l λg l=>?_
   have:=r g l;rw[x,List.filter_cons_of_pos j]at this;simpa using this
  .rw [YH j]
   rw[Bool.not_eq_true]at j;rw[j]at q;refine gW a b c e f s w n (i+1) _ g () () q λg l=>?_
   have:=r g l;rw[x,List.filter_cons_of_neg (by simp[j])]at this
   exact this
def bF{t:Tg}{Q:List U->G->Prop}(f:List α)(a:α->U)(c:α->Bool)(e:α->U)(b:G->Prop)(i:List U)
  (p:(f.filter c).map e=i)
  (m:∀k g,b g->next it k g=some (f.map a)[k]?)
  (j:∀y,y∈f->AS t O=true/\Jy (Ae t (a y) O) (lk λh=>∀g,b g->Js J d cs h g (λ_ _ _=>False) λk g=>k=c y/\Jz (c y) (lk (Jp J d elt h g (λ_ _ _=>False) λv g=>v=e y/\b g)) (lk (b g))))
  (n:f.length<16777000) (q:b g) (l:∀g,b g->Q i g):Jx J d it 0 t cs [] elt [] O g X Q:=
 gW f a c e b m j f.length 0 [] g (Pb _) (by simpa[Ab]using n) q λg o=>by
  have:=l g o;rw[<-p]at this;simpa using this
def eP{t:Tg}{b:List Z6}{Q:Fl->G->Prop}(S:List U)(a:Nat->Su->G->Prop)
  (h:∀k O g,a k O g->next it k g=some S[k]?) (i:a 0 O g)
  (c:∀k u O g,S[k]?=some u->a k O g->Jy (Ae t u O) (lk λl=>wpS J d b l g X λf g=>JB f (lk (λj=>a (k+1) j g)) (lk λf=>Q f g)))
  (e:∀O g,a S.length O g->Q (.nx O) g):Jw J d t it 0 b O g X Q:=b8 S a h c e S.length 0 O g (Pb _) i
end
def wB{l:List α}:(l.filter λ_=>true)=l:=List.filter_eq_self.mpr (by simp)
abbrev BU(g:G)(xs:List U)(Q:U->G->Prop):Prop:=∀gs n,g.length<=n->(g++gs)[n]?=some (.Z5 xs)->Q (.ref n) (g++gs)
inductive Dt where
 |ZJ|bl (b:Bool)|int (i:Int)|str (s:PySem.Str)|ZY (ds:List Dt)|Z5 (ds:List Dt)
mutual
def Rep(g:G):Dt->U->Prop
 |.ZJ,u=>u=.ZJ
 |.bl b,u=>u=.bl b
 |.int i,u=>u=.int i
 |.str s,u=>u=.str s
 |.ZY ds,u=>∃S,u=.ZY S/\Reps g ds S
 |.Z5 ds,u=>∃n S,u=.ref n/\g[n]?=some (.Z5 S)/\Reps g ds S
def Reps(g:G):List Dt->List U->Prop
 |[],S=>S=[]
 |d::ds,S=>∃v a,S=v::a/\Rep g d v/\Reps g ds a
end
noncomputable def Dt.ok:Nat->Dt->Prop
 |0,_=>False
 |n+1,.ZY ds=>ds.length<1000000 /\∀D∈ds,D.ok n
 |n+1,.Z5 ds=>ds.length<1000000 /\∀D∈ds,D.ok n
 |_+1,_=>True
def Dt.Rq{a:List Dt}:Dt.ok (n+1) (.ZY a)↔a.length<1000000 /\∀D∈a,D.ok n:=by rw[Dt.ok]
def Dt.QT{a:List Dt}:Dt.ok (n+1) (.Z5 a)↔a.length<1000000 /\∀D∈a,D.ok n:=by rw[Dt.ok]
def Reps.length{g:G}:∀{a:List Dt} {S:List U},Reps g a S->S.length=a.length
 |[],_,h=>by cases h;rfl
 |_::a,_,h=>by let⟨v,c,rfl,_,b⟩:=h;simp[Reps.length b]
def Reps.get{g:G}:∀{a:List Dt} {S:List U} {i:Nat} {D:Dt},Reps g a S->a[i]?=some D ->∃v,S[i]?=some v/\Rep g D v
 |[],_,_,_,_,e=>by simp at e
 |x::a,_,0,D,h,e=>by
  let⟨v,b,rfl,d,_⟩:=h;simp at e;subst e;exact⟨v,by simp,d⟩
 |x::a,_,i+1,D,h,e=>by
  let⟨v,b,rfl,_,c⟩:=h;let⟨w,j,f⟩:=Reps.get (i:=i) (D:=D) c (by simpa using e)
  exact⟨w,by simpa using j,f⟩
structure Plan where
 w:Int
 d:Int
 s:Int
abbrev Pt:=Int×Int
abbrev Zo(P:Plan):U:=.ZY [.int P.w,.int P.d,.int P.s]
abbrev uP(p:Pt):U:=.ZY [.int p.1,.int p.2]
structure Plan.ok(P:Plan):Prop where
 w:P.w=1\/P.w=2\/P.w=3
 d:P.d=1\/P.d=2\/P.d=3
 s:P.s=2\/P.s=4\/P.s=8
def Plan.ok.sd{P:Plan}(h:P.ok):small P.d:=by rcases h.d with e|e|e<;>rw[e]<;>exact bp (by decide)
def Plan.ok.ss{P:Plan}(h:P.ok):small P.s:=by rcases h.s with e|e|e<;>rw[e]<;>exact bp (by decide)
def Plan.ok.s0{P:Plan}(h:P.ok):0<P.s:=by rcases h.s with e|e|e<;>rw[e]<;>decide
def Plan.ok.sb{P:Plan}(h:P.ok):P.s<An:=by rcases h.s with e|e|e<;>rw[e]<;>decide
def Plan.ok.ws{P:Plan}(h:P.ok):2<=P.w*P.s/\P.w*P.s<=24:=by rcases h.w with e|e|e<;>rcases h.s with f|f|f<;>rw[e,f]<;>decide
def Plan.ok.ds{P:Plan}(h:P.ok):2<=P.d*P.s/\P.d*P.s<=24:=by rcases h.d with e|e|e<;>rcases h.s with f|f|f<;>rw[e,f]<;>decide
def Ar(P:Plan)(p:Pt):Bool:=decide (0<=p.1)&&decide (p.1<=P.w*P.s)&&decide (0<=p.2)&&decide (p.2<=P.d*P.s)
def Ax(P:Plan)(p:Pt):Bool:=decide (p.1 % P.s=0)&&decide (p.2 % P.s=0)
def JM(n:Int):List Int:=(List.range n.toNat).map λ(i:Nat)=>(i:Int)
def bA(n:Int):(JM n).length=n.toNat:=by simp[JM]
def kz{n i:Int}:i∈JM n↔0<=i/\i<n:=by
 simp![JM,Ud,QC];exact⟨λ⟨k,h,e⟩=>by omega,λ⟨h,k⟩=>⟨i.toNat,by omega,by omega⟩⟩
def cv{j:Int}{k:Nat}:next (.YY 0 j.toNat) k g=some ((JM j).map U.int)[k]?:=by
 simp![next,JM];by_cases h:k<j.toNat
 .simp [h]
 .simp [h]
def aL{k:Nat}(h:g[n]?=some (.Z5 xs)):next (.Z5 n) k g=some xs[k]?:=by
 simp![next,h]
def w4{k:Nat}:next (.seq xs) k g=some xs[k]?:=rfl
def A5(P:Plan):List Pt:=(JM (P.w*P.s+1)).flatMap λx=>(JM (P.d*P.s+1)).map λy=>(x,y)
def Ad(P:Plan):List Pt:=(A5 P).filter λp=>!Ax P p
def tX{P:Plan}{p:Pt}:p∈A5 P↔Ar P p=true:=by
 let⟨x,y⟩:=p;simp![A5,OX,Ud,kz,Ar,Yx,Vw];constructor
 .rintro ⟨a,d,b,c,e⟩
  cases e;omega
 .intro h
  exact⟨x,by omega,y,by omega,rfl⟩
def fM{j u:Type}{f:j->List u}{B:Nat}:∀{l:List j},(∀a∈l,(f a).length<=B)->(l.flatMap f).length<=l.length*B
 |[],_=>by simp
 |a::l,h=>by
  rw[List.flatMap_cons,Ww,Uc,Nat.succ_mul];have h1:=h a (by simp)
  have h2:=fM (f:=f) (B:=B) (l:=l) λb hb=>h b (by simp[hb])
  omega
def fb{P:Plan}(h:P.ok):(A5 P).length<=625:=by
 have h1:=h.ws;have h2:=h.ds;have:=fM (f:=λx=>(JM (P.d*P.s+1)).map λy=>((x,y):Pt)) (B:=25) (l:=JM (P.w*P.s+1)) λa _=>by simp[bA];omega
 have b:(JM (P.w*P.s+1)).length<=25:=by rw[bA];omega
 have c:(JM (P.w*P.s+1)).length*25<=25*25:=Nat.mul_le_mul_right _ b;unfold A5;omega
def aj{gs:G}{o:Z9}(h:g[n]?=some o):(g++gs)[n]?=some o:=by
 rw[WR (YE.mp h).1];exact h
def ai{o:Z9}:(g++[o])[g.length]?=some o:=by simp
def dI{gs:G}(h:BU g xs Q)(j:xs.length<=16777000):xs.length<=16777000/\Q (.ref (g++gs).length) (g++gs++[.Z5 xs]):=by
 refine⟨j,?_⟩;have:=h (gs++[.Z5 xs]) (g++gs).length (by simp) (by rw[<-VO];exact ai)
 rw[<-VO]at this;exact this
def DV(xs:List Int)(lo hi:Option Int):List Int:=(xs.drop (HT.sIx xs.length 0 lo)).take (HT.sIx xs.length xs.length hi-HT.sIx xs.length 0 lo)
def zd(ns:List Int)(l h:Option Int):A0 (ns.map U.int) l h=(DV ns l h).map U.int:=by
 unfold A0 DV;rw[Z1,<-List.map_drop,<-List.map_take]
abbrev Bf(c:Nat)(at_ Wa:Int):Z9:=.Z5 [.ref c,.int at_,.int Wa]
def Bag(g:G):Prop:=∃(b:List Int) (a c:Int),g[1]?=some (.Z5 (b.map .int))/\g[2]?=some (Bf 1 a c)
structure Fr(g g':G):Prop where
 YW:Bag g'
 len:g.length<=g'.length
 get:∀(k:Nat) (o:Z9),3<=k->g[k]?=some o->g'[k]?=some o
def Bag.app{gs:G}(h:Bag g):Bag (g++gs):=let⟨b,a,s,d,c⟩:=h;⟨b,a,s,aj d,aj c⟩
def Bag.len(h:Bag g):3<=g.length:=by let⟨c,a,s,d,b⟩:=h;exact(YE.mp b).1
def Fr.app{g gs:G}(h:Bag g):Fr g (g++gs):=⟨h.app,by simp,λk o _ e=>aj e⟩
def Fr.refl(h:Bag g):Fr g g:=⟨h,Hx _,λk o _ e=>e⟩
def Fr.trans{a b c:G}(h:Fr a b)(k:Fr b c):Fr a c:=⟨k.YW,Hv h.len k.len,λi o hi e=>k.get i o hi (h.get i o hi e)⟩
def CH(xs:List Int)(at_:Int):Int:=if h:0<xs.length then xs.getD (at_ % xs.length).toNat 0 else 0
def gF{xs:List Int}{at_:Int}(h:0<xs.length):0<=at_ % (xs.length:Int)/\at_ % (xs.length:Int)<xs.length:=⟨O3 _ (),Ox _ ()⟩
def v7{xs:List Int}{at_:Int}(h:0<xs.length):IQ (xs.map U.int) (at_ % xs.length)=some (.int (CH xs at_)):=by
 let⟨b,a⟩:=gF (at_:=at_) h;rw[b6 b (by simpa using a)]
 have:(at_ % (xs.length:Int)).toNat<xs.length:=by omega
 simp[CH,h,Xn this,List.getD]
def xH{xs:List Int}{at_:Int}(h:0<xs.length):L2.ixN xs.length (at_ % xs.length)=some (at_ % xs.length).toNat:=by
 let⟨b,a⟩:=gF (at_:=at_) h;unfold L2.ixN;rw[Y2 b,Y2 a]
def vn{P:Plan}{p:Pt}(h:0<=p.1/\p.1<=P.w*P.s/\0<=p.2/\p.2<=P.d*P.s):Ar P p=true:=by
 simp![Ar,Yx,Vw];omega
def JN(p:Pt):Dt:=.ZY [.int p.1,.int p.2]
def kH{i:Int}:Rep g (.int i) (.int i):=by simp![Rep]
def eQ{p:Pt}:Rep g (JN p) (uP p):=by
 simp![JN,Rep];refine⟨_,rfl,?_⟩;simp![Reps];exact⟨_,_,rfl,kH,_,_,rfl,kH,rfl⟩
def aaL{i:Int}:(Dt.int i).ok (n+1):=by simp[Dt.ok]
def sX{p:Pt}:(JN p).ok (n+2):=by
 unfold JN;rw[Dt.Rq];refine⟨by simp,λD h=>?_⟩
 simp at h;rcases h with rfl|rfl<;>exact aaL
def jG:IH .pow (.int 10) (.int 18)=some (.int 1000000000000000000):=by simp[IH,IG]
def fF{k:Int}{O:Su}(h:g[n]?=some (.Z5 xs))(b:0<=k)(a:k<xs.length):subAt (.ref n) (.int k) u O g=.ok (.nx O) (g.set n (.Z5 (xs.set k.toNat u))):=by
 simp![subAt,DI,h];unfold L2.ixN;rw[Y2 b,Y2 a]
def iU{y:U}(h:g[n]?=some (.Z5 xs))(a:xs.length<16777000):Bj n y g=.ok .ZJ (g.set n (.Z5 (xs++[y]))):=by
 simp![Bj,h];rw[Y2 (by simpa[Ab]using a)]
def uq{y:U}(a:xs.length<16777000):Bj g.length y (g++[.Z5 xs])=.ok .ZJ (g++[.Z5 (xs++[y])]):=by
 rw[iU ai a];simp
def aG{o o':Z9}(h:g[n]?=some o):(g.set n o')[n]?=some o':=S3 (YE.mp h).1
def Fr.set1(h:Bag g)(xs:List Int):Fr g (g.set 1 (.Z5 (xs.map U.int))):=by
 let⟨z,a,s,u,j⟩:=h;refine⟨⟨xs,a,s,aG u,by rw[UE (by decide)];exact j⟩,by simp,λk o hk e=>by rw[UE ()];exact e⟩
def Fr.Sg(h:Bag g)(a' j:Int):Fr g (g.set 2 (Bf 1 a' j)):=by
 let⟨u,a,s,B,z⟩:=h;refine⟨⟨u,a',j,by rw[UE (by decide)];exact B,aG z⟩,by simp,λk o hk e=>by rw[UE ()];exact e⟩
def stride(p:Pt):Int:=if p.1 % 4=0/\p.2 % 4=0 then 4 else if p.1 % 2=0/\p.2 % 2=0 then 2 else 1
def cw(p:Pt):(stride p=4/\p.1 % 4=0/\p.2 % 4=0)\/(stride p=2/\p.1 % 2=0/\p.2 % 2=0)\/stride p=1:=by
 unfold stride;by_cases h:p.1 % 4=0/\p.2 % 4=0
 .rw [Y2 h];exact .inl ⟨rfl,h⟩
 .rw [YH h]
  by_cases k:p.1 % 2=0/\p.2 % 2=0
  .rw [Y2 k];exact .inr (.inl ⟨rfl,k⟩)
  .rw [YH k];exact .inr (.inr rfl)
def cf(p:Pt):0<stride p/\stride p<=4:=by rcases cw p with⟨e,_⟩|⟨e,_⟩|e<;>rw[e]<;>decide
def ic(p:Pt):small (stride p):=by rcases cw p with⟨e,_⟩|⟨e,_⟩|e<;>rw[e]<;>exact bp (by decide)
def dE(p:Pt):stride p<An:=by rcases cw p with⟨e,_⟩|⟨e,_⟩|e<;>rw[e]<;>decide
def jo(p:Pt):2*stride p<An:=by rcases cw p with⟨e,_⟩|⟨e,_⟩|e<;>rw[e]<;>decide
def A7(p:Pt):Bool:=decide (p.1 / stride p % 2=1)&&decide (p.2 / stride p % 2=1)
abbrev Pr:=Pt×Pt
def lying(p:Pt):Pr:=((p.1-stride p,p.2),(p.1+stride p,p.2))
def upright(p:Pt):Pr:=((p.1,p.2-stride p),(p.1,p.2+stride p))
def rising(p:Pt):Pr:=((p.1-stride p,p.2-stride p),(p.1+stride p,p.2+stride p))
def falling(p:Pt):Pr:=((p.1-stride p,p.2+stride p),(p.1+stride p,p.2-stride p))
def Bx(p:Pt):Pr×Pr:=if p.1 / stride p % 2=1 then(lying p,upright p)else(upright p,lying p)
def BL(p:Pt):Prop:=((p.1-stride p) / (2*stride p)+(p.2-stride p) / (2*stride p)) % 2=0
instance(p:Pt):Decidable (BL p):=by unfold BL;infer_instance
def Bv(p:Pt):Pr×Pr:=if BL p then(rising p,falling p)else(falling p,rising p)
def Av(p:Pt):Pr×Pr:=if A7 p=true then Bv p else Bx p
abbrev u2(q:Pr):U:=.ZY [uP q.1,uP q.2]
abbrev u4(q:Pr×Pr):U:=.ZY [u2 q.1,u2 q.2]
def vc{p:Pt}(h:A7 p=true):(p.1-stride p+p.2-stride p) / (2*stride p) % 2=0↔BL p:=by
 have a:2*stride p ∣ p.1-stride p:=by
  simp![A7,Yx,Vw]at h;have h:=h.1;rcases cw p with⟨e,f⟩|⟨e,f⟩|e<;>rw[e]at h ⊢<;>omega
 unfold BL;rw[show p.1-stride p+p.2-stride p=(p.1-stride p)+(p.2-stride p)from Int.add_sub_assoc ..,Int.add_ediv_of_dvd_left a]
def JO(P:Plan)(p:Pt):List Pt:=[(Av p).2.1,(Av p).2.2].filter λq=>Ar P q&&!Ax P q
def bH(P:Plan)(p:Pt):(JO P p).length<=2:=Qk _ _
def aR{P:Plan}{p:Pt}:p∈Ad P↔Ar P p=true/\Ax P p=false:=by
 unfold Ad;rw[QE,tX];simp
def BO(P:Plan)(p:Pt)(t:Int×Int):Int×Int:=if stride p<t.1 then(t.1 / 2,t.2+2)else t
def AI(P:Plan)(p:Pt):Int:=if A7 p=true then(BO P p (BO P p (BO P p (P.s / 2,0)))).2 else(BO P p (BO P p (BO P p (P.s / 2,0)))).2+1
def Dq:List Plan:=[1,2,3].flatMap λw=>[1,2,3].flatMap λd=>[2,4,8].map λs=>⟨w,d,s⟩
def i9{P:Plan}(h:P.ok):P∈Dq:=by
 have e:∀{x a b c:Int},x=a\/x=b\/x=c->x∈[a,b,c]:=λh=>by simpa using h
 exact OX.mpr ⟨P.w,e h.w,OX.mpr ⟨P.d,e h.d,Ud.mpr ⟨P.s,e h.s,rfl⟩⟩⟩
def u6:(Dq.all λP=>(Ad P).all λp=>(JO P p).all (λq=>decide (AI P q+1=AI P p))&&((JO P p).isEmpty==decide (AI P p=0))&&decide (0<=AI P p)&&decide (AI P p<=5))=true:=by decide +kernel
def iC{P:Plan}(h:P.ok){p:Pt}(a:p∈Ad P):(∀q∈JO P p,AI P q+1=AI P p)/\((JO P p=[])↔AI P p=0)/\0<=AI P p/\AI P p<=5:=by
 have:=Tc.mp (Tc.mp u6 P (i9 h)) p a;simp![Yx,Tc,Vw,Sm]at this;let⟨⟨⟨e,d⟩,c⟩,b⟩:=this;refine⟨e,?_,c,b⟩;rw[<-Oh,d];simp
def dW{p q:List U}{a b c d:Z9}{i j n:Nat}(h:∀gs n i j,(g++gs)[n]?=some (.Z5 [.ref i,.ref j])->(g++gs)[i]?=some (.Z5 p)->(g++gs)[j]?=some (.Z5 q)->Q (.ref n) (g++gs))(hi:[a,b,c,d][i]?=some (.Z5 p))(z:[a,b,c,d][j]?=some (.Z5 q))(hn:n=g.length+i)(u:m=g.length+j):
  Q (.ref (g++[a]++[b]++[c]++[d]).length) (g++[a]++[b]++[c]++[d]++[.Z5 [.ref n,.ref m]]):=by
 subst hn u;have key:∀(k:Nat) (o:Z9),[a,b,c,d][k]?=some o->(g++([a,b,c,d]++[.Z5 [.ref (g.length+i),.ref (g.length+j)]]))[g.length+k]?=some o:=λk o e=>by
  rw[VX (),ND]
  exact aj e
 have:=h ([a,b,c,d]++[.Z5 [.ref (g.length+i),.ref (g.length+j)]]) (g++[a]++[b]++[c]++[d]).length (g.length+i) (g.length+j) (by simp) (key i _ hi) (key j _ z)
 simpa using this
def rD{k i:Int}:II (.int k) (.int i::xs)=(II (.int k) xs).map λc=>decide (i=k)||c:=by
 simp![II,IF,Ak];cases II (.int k) xs with
 |none=>rfl
 |some c=>simp![Sl];congr 1
def gp{x:U}:II x []=some false:=rfl
def JP(q:Pr):Dt:=.ZY [JN q.1,JN q.2]
def d9{l:List α}{f:α->U}{i:Int}(b:0<=i)(h:i<l.length):∃a∈l,IQ (l.map f) i=some (f a):=by
 have hi:i.toNat<l.length:=by omega
 refine⟨l[i.toNat],QJ hi,?_⟩;rw[b6 b (by simpa using h)]
 simp[hi]
def acj{P:Plan}(h:P.ok):((1,1):Pt)∈Ad P:=by
 have h1:=h.ws;have h2:=h.ds;refine aR.mpr ⟨vn (by simp![];omega),?_⟩
 rcases h.s with e|e|e<;>simp[Ax,e]
def u5{P:Plan}(h:P.ok):0<(Ad P).length/\(Ad P).length<=625:=
 ⟨List.length_pos_of_mem (acj h),Hv (Qk _ _) (fb h)⟩
def ltP(p q:Pt):Prop:=p.1<q.1\/(p.1=q.1/\p.2<q.2)
instance(p q:Pt):Decidable (ltP p q):=by unfold ltP;infer_instance
def AJ(p:Pt):List Pt:=if A7 p=true then[(p.1-stride p,p.2),(p.1,p.2-stride p),(p.1,p.2+stride p),(p.1+stride p,p.2)]
 else if 1<stride p then[(p.1-stride p / 2,p.2-stride p / 2),(p.1-stride p / 2,p.2+stride p / 2),(p.1+stride p / 2,p.2-stride p / 2),(p.1+stride p / 2,p.2+stride p / 2)]else[]
def JQ(P:Plan)(p:Pt):List Pt:=(AJ p).filter (Ar P)
def Ga(i:Int):Int:=if i<0 then -i else i
def Cn:List Pt->Bool
 |a::b::l=>decide (ltP a b)&&Cn (b::l)
 |_=>true
def u7:(Dq.all λP=>(Ad P).all λp=>(JO P p).all (λr=>decide (p∈JQ P r))&&(JQ P p).all (λc=>!Ax P c&&decide (Ga (c.1-p.1)<=4)&&decide (p∈JO P c))&&Cn (JQ P p))=true:=by decide +kernel
def vp{p q r:Pt}(h:ltP p q)(k:ltP q r):ltP p r:=by unfold ltP at h k ⊢;omega
def iE:∀{l:List Pt},Cn l=true->l.Pairwise ltP
 |[],_=>.nil
 |[a],_=>by simp
 |a::b::l,h=>by
  simp![Cn,Yx,Vw]at h;have ih:=iE h.2;rw[Qa];refine⟨λx c=>?_,ih⟩;rcases Vh.mp c with rfl|c
  .exact h.1
  .exact vp h.1 ((Qa.mp ih).1 x c)
def iw{P:Plan}(h:P.ok){p:Pt}(d:p∈Ad P):(∀r∈JO P p,p∈JQ P r)/\(∀c∈JQ P p,Ax P c=false/\Ga (c.1-p.1)<=4/\p∈JO P c)/\(JQ P p).Pairwise ltP:=by
 have:=Tc.mp (Tc.mp u7 P (i9 h)) p d;simp![Yx,Tc,Vw]at this;let⟨⟨f,b⟩,e⟩:=this;exact⟨f,λc a=>⟨by simpa using(b c a).1.1,(b c a).1.2,(b c a).2⟩,iE e⟩
def tH{P:Plan}{p c:Pt}(h:c∈JQ P p):Ar P c=true:=(QE.mp h).2
def iW{P:Plan}(h:P.ok){p q:Pt}(d:p∈Ad P):q∈JQ P p↔q∈Ad P/\p∈JO P q:=by
 constructor
 .intro a
  let⟨_,c,_⟩:=iw h d;exact⟨aR.mpr ⟨tH a,(c q a).1⟩,(c q a).2.2⟩
 .rintro ⟨a,b⟩
  exact(iw h a).1 p b
def b9{p:Pt}:∀{l:List Pt},II (uP p) (l.map uP)=some (decide (p∈l))
 |[]=>by simp[gp]
 |q::l=>by
  have:IF (uP q) (uP p)=some (decide (q=p)):=by
   simp![IF,gS,fP,Sl,Bool.and_true];congr 1;rw[PM];simp![Yx,Vw,Prod.ext_iff]
  simp![W1,II,this,b9 (l:=l),Vh];congr 1;rw[PM];simp![QQ,Vw];exact or_congr eq_comm Y1
structure XB where
 ax:Int
 ay:Int
 bx:Int
 bY:Int
 cx:Int
 cy:Int
deriving DecidableEq
def iP{y:U}(h:g[n]?=some (.Z5 (xs++[y]))):Bo n g=.ok y (g.set n (.Z5 xs)):=by
 simp![Bo,h];simp
def jq{a:List U}(h:g[n]?=some (.Z5 xs))(k:g[m]?=some (.Z5 a))(b:xs.length+a.length<16777000):BB n (.ref m) g=.ok .ZJ (g.set n (.Z5 (xs++a))):=by
 simp![BB,IW,h,k];rw[Y2 (by simpa[Ab]using b)]
def dT(t:XB):Dt:=.ZY [.int t.ax,.int t.ay,.int t.bx,.int t.bY,.int t.cx,.int t.cy]
def yg{l:List α}{a:α}:(l++[a]).isEmpty=false:=by cases l<;>rfl
noncomputable def Wp(i:Int):Prop:=-An<i/\i<An
def mid(i:Int):Prop:=-10000000000000000000000000000<i/\i<10000000000000000000000000000
def mid.Wp{i:Int}(h:mid i):Wp i:=by unfold mid at h;unfold PI.Wp An;omega
structure NT where
 a:Nat
 b:Nat
 c:Nat
 d:Nat
 e:Nat
 f:Nat
def JR(x y z v:Nat):Bool:=Nat.ble v x||(Nat.ble v y||Nat.ble v z)
def inL{P:Plan}{p:Pt}:Ar P p=true↔0<=p.1/\p.1<=P.w*P.s/\0<=p.2/\p.2<=P.d*P.s:=by
 simp![Ar,Yx,Vw,and_assoc]
def jg{a:List (List Int×U)}{k:List Int}{O:Su}(h:g[n]?=some (.ZF a))(c:intsOf S=some k)(b:a.length<16777000):subAt (.ref n) (.ZY S) u O g=.ok (.nx O) (g.set n (.ZF (dput a k u))):=by
 simp![subAt,D3,h,c];rw[Y2 (by simpa[Ab]using b)]
def F1(a b:Int):List Int:=(List.range (b-a).toNat).map λ(i:Nat)=>a+(i:Int)
abbrev Fk(t:XB):Int:=best true t.ax [t.bx,t.cx]
abbrev Fp(t:XB):Int:=best true t.ay [t.bY,t.cy]
abbrev FL(t:XB):Int:=best false t.ax [t.bx,t.cx]
abbrev FD(t:XB):Int:=best false t.ay [t.bY,t.cy]
def Gm(t:XB)(p:Pt):Bool:=decide (Fk t<=p.1)&&decide (p.1<=FL t)&&(decide (Fp t<=p.2)&&decide (p.2<=FD t))
def Dv(b a c d:Int)(p:Pt):Int:=(c-b)*(p.2-a)-(d-a)*(p.1-b)
abbrev tu1(t:XB)(p:Pt):Int:=Dv t.ax t.ay t.bx t.bY p
abbrev tu2(t:XB)(p:Pt):Int:=Dv t.bx t.bY t.cx t.cy p
abbrev tu3(t:XB)(p:Pt):Int:=Dv t.cx t.cy t.ax t.ay p
def Gg(t:XB)(p:Pt):Bool:=Gm t p&&(decide (0<=best true (tu1 t p) [tu2 t p,tu3 t p])||decide (best false (tu1 t p) [tu2 t p,tu3 t p]<=0))
def JS(t:XB):List Pt:=(F1 (Fk t) (FL t+1)).flatMap λx=>((F1 (Fp t) (FD t+1)).filter λy=>Gg t (x,y)).map λy=>(x,y)
def Gs(a b c:Pt):Int:=(b.1-a.1)*(c.2-a.2)-(c.1-a.1)*(b.2-a.2)
def JT(t:XB):Pt:=(t.cx,t.cy)
def E3(t:XB):Prop:=(-100<=t.ax/\t.ax<=100)/\(-100<=t.ay/\t.ay<=100)/\(-100<=t.bx/\t.bx<=100)/\(-100<=t.bY/\t.bY<=100)/\(-100<=t.cx/\t.cx<=100)/\(-100<=t.cy/\t.cy<=100)
section
variable{J:List Fn}{O:Su}{X:XP}
def kD{it:Iter}{t:Tg}{B:E}{Q:List U->G->Prop}(S:List U)(Z:U->Prop)(j:G->Prop)
  (hn:∀k g,j g->next it k g=some S[k]?)
  (hs:∀u,u∈S->AS t O=true/\Jy (Ae t u O) (lk λR=>∀g,j g->Jp J d B R g (λ_ _ _=>False) λv g=>Z v/\j g)) :
  ∀(n i:Nat) (F:List U) (g:G),i+n=S.length->F.length+n<Ab->j g->(∀vs g,vs.length=n->(∀v∈vs,Z v)->j g->Q (F++vs) g)->Jx J d it i t [] [] B F O g X Q
 |0,i,F,g,e1,_,h,L=>by
  rw[bW];refine⟨none,by rw[hn _ _ h];simp;omega,?_⟩
  have:=L [] g rfl (by simp) h
  simpa using this
 |n+1,i,F,g,e1,hl,h,L=>by
  have hi:i<S.length:=by omega
  let⟨hf,Yn⟩:=hs S[i] (QJ hi);let⟨R,hb,hw⟩:=bj.2 Yn;rw[bW];refine⟨some S[i],by rw[hn _ _ h];simp[hi],hf,R,hb,gY.2 ?_⟩
  rw[Y2 rfl];refine wp_mono (hw g h) λv g ⟨ev,hg⟩=>⟨by omega,?_⟩
  refine kD S Z j hn hs n (i+1) _ g () (by simp;omega) hg λvs g h1 h2 h3=>?_
  have:=L (v::vs) g (by simp[h1]) (λx hx=>by rcases Vh.mp hx with rfl|z;exact ev;exact h2 x z) h3
  simpa using this
def aav{t:Tg}{Q:List U->G->Prop}{g:G}(S:List U)(b:U->Prop)(a:G->Prop)
  (f:∀k g,a g->next it k g=some S[k]?)
  (c:∀u,u∈S->AS t O=true/\Jy (Ae t u O) (lk λn=>∀g,a g->Jp J d elt n g (λ_ _ _=>False) λv g=>b v/\a g))
  (h:S.length<16777000) (m:a g) (e:∀vs g,vs.length=S.length->(∀v∈vs,b v)->a g->Q vs g):Jx J d it 0 t [] [] elt [] O g X Q:=
 kD S b a f c S.length 0 [] g (Pb _) (by simpa[Ab]using h) m λvs g l j i=>by simpa using e vs g l j i
def ee{it:Iter}{t:Tg}{cs:List E}{B:E}{Q:List U->G->Prop}(S:List U)(Z:U->Prop)(j:G->Prop)
  (hn:∀k g,j g->next it k g=some S[k]?)
  (hs:∀u,u∈S->AS t O=true/\Jy (Ae t u O) (lk λR=>∀g,j g->Js J d cs R g (λ_ _ _=>False) λk g=>j g/\(k=true->Jp J d B R g (λ_ _ _=>False) λv g=>Z v/\j g))) :
  ∀(n i:Nat) (F:List U) (g:G),i+n=S.length->F.length+n<Ab->j g->(∀vs g,vs.length<=n->(∀v∈vs,Z v)->j g->Q (F++vs) g)->Jx J d it i t cs [] B F O g X Q
 |0,i,F,g,e1,_,h,L=>by
  rw[bW];refine⟨none,by rw[hn _ _ h];simp;omega,?_⟩
  have:=L [] g (Hx _) (by simp) h
  simpa using this
 |n+1,i,F,g,e1,hl,h,L=>by
  have hi:i<S.length:=by omega
  let⟨hf,Yn⟩:=hs S[i] (QJ hi);let⟨R,hb,hw⟩:=bj.2 Yn;rw[bW];refine⟨some S[i],by rw[hn _ _ h];simp[hi],hf,R,hb,wp_mono (hw g h) λk g q=>?_⟩
  let⟨q1,q2⟩:=q;cases k with
  |true=>
   rw[Y2 rfl];refine wp_mono (q2 rfl) λv g ⟨ev,hg⟩=>⟨by omega,?_⟩
   refine ee S Z j hn hs n (i+1) _ g () (by simp;omega) hg λvs g h1 h2 h3=>?_
   have:=L (v::vs) g (by simp;omega) (λx hx=>by rcases Vh.mp hx with rfl|z;exact ev;exact h2 x z) h3
   simpa using this
  |false=>
   rw[YH (by simp)]
   exact ee S Z j hn hs n (i+1) _ g () () q1 λvs g h1 h2 h3=>L vs g () h2 h3
end
def AM(p:Pt):List Int:=[p.1,p.2]
def dF{p q:Pt}(h:AM p=AM q):p=q:=by
 let⟨a,b⟩:=p;let⟨c,d⟩:=q;simpa[AM]using h
def gO{a b:Int}:intsOf [.int a,.int b]=some (AM (a,b)):=rfl
def JU{a:Type}(key:a->List Int)(f:a->U)(b:List a):List (List Int×U):=b.map λq=>(key q,f q)
def oF{c:Type}{key:c->List Int}(hi:∀a b,key a=key b->a=b){f:c->U}{a:c}:∀{d:List c},a∈d->AN (JU key f d) (key a)=some (f a)
 |[],h=>nomatch h
 |b::r,h=>by
  unfold AN JU;rw[W1,Qm];by_cases e:key b=key a
  .have:=hi _ _ e;subst this;simp
  .have g:a∈r:=by
    rcases Vh.mp h with z|z
    .subst z;exact absurd rfl e
    .exact z
   have ih:=oF hi (f:=f) g;unfold AN JU at ih;simp![e,PL];exact ih
def wx[DecidableEq α]{key:α->List Int}(hi:∀a b,key a=key b->a=b){f:α->U}{a:α}{v:U}{c:List α}(h:a ∉ c):dput (JU key f c) (key a) v=JU key (λq=>if q=a then v else f q) (c++[a]):=by
 unfold dput;rw[YH]
 .unfold JU
  rw[Ph];congr 1
  .refine List.map_congr_left λq d=>?_
   show(key q,f q)=(key q,if q=a then v else f q)
   rw[YH (λe=>h (by rw[<-e];exact d))]
  .simp
 .intro g
  simp![JU,List.any_map,NG,Function.comp,Vw]at g;let⟨q,d,e⟩:=g;exact h (by rw[<-hi _ _ e];exact d)
def xB[DecidableEq α]{key:α->List Int}(hi:∀a b,key a=key b->a=b){f:α->U}{a:α}{v:U}{c:List α}(h:a∈c):dput (JU key f c) (key a) v=JU key (λq=>if q=a then v else f q) c:=by
 unfold dput;rw[Y2]
 .unfold JU
  rw[Qz];refine List.map_congr_left λq d=>?_;simp![Function.comp];by_cases e:q=a
  .subst e;simp
  .rw [YH (λz=>e (hi _ _ z)),YH e]
 .simp only [JU,List.any_map,NG,Function.comp,Vw]
  exact⟨a,h,rfl⟩
def xg{a:List (List Int×U)}{k:List Int}(h:Ye u g=some a)(b:intsOf S=some k):AK (.ZY S) u g=some (AN a k):=by
 simp![AK,h,keyOf,b,Sl]
def E2(a b:Pt):Prop:=a.1*b.2<b.1*a.2
instance{a b:Pt}:Decidable (E2 a b):=by unfold E2;infer_instance
structure Low(a:Pt):Prop where
 pos:0<a.2
 cop:Nat.gcd a.1.natAbs a.2.natAbs=1
def o1(e d c f b a:Nat):Bool:=Nat.ble (f*b+c*d+e*a) (c*a+f*e+d*b)
def JV(e d c f b a:Nat):Bool:=Nat.ble (c*a+f*e+d*b) (f*b+c*d+e*a)
def JW:List (Nat×Nat):=(List.range 9).flatMap λx=>(List.range 9).map λy=>(x,y)
def Ay:List Plan:=[⟨1,1,2⟩,⟨1,1,4⟩,⟨2,1,2⟩,⟨1,2,2⟩,⟨2,2,2⟩,⟨1,1,4⟩,⟨3,1,2⟩,⟨1,3,2⟩,⟨2,1,4⟩,⟨1,2,4⟩,⟨3,2,2⟩,⟨1,1,8⟩]
set_option maxRecDepth 1000000 in
def xU:((JW.map λz=>IT [(z.1:Int),(z.2:Int)]).Nodup):=by decide +kernel
def my{c d:Type}{f:c->d}:∀{l:List c},(l.map f).Nodup ->∀{a b:c},a∈l->b∈l->f a=f b->a=b
 |[],_,_,_,h,_,_=>by cases h
 |x::l,hn,a,b,ha,hb,e=>by
  rw[W1,List.nodup_cons]at hn;rcases Vh.mp ha with rfl|ha
  .rcases Vh.mp hb with rfl|hb
   .rfl
   .exact absurd (Ud.mpr ⟨b,hb,e.symm⟩) hn.1
  .rcases Vh.mp hb with g|hb
   .exact absurd (Ud.mpr ⟨a,ha,by rw[e,g]⟩) hn.1
   .exact my hn.2 ha hb e
def kyP(p:Pt):List Int:=[p.1,p.2]
def dZ{p q:Pt}(h:kyP p=kyP q):p=q:=by
 simp![kyP,NV,and_true]at h;exact N5 h.1 h.2
def JX(z:Nat×Nat):Pt:=((z.1:Int),(z.2:Int))
def wU{x y:Nat}:(x,y)∈JW↔x<=8/\y<=8:=by
 unfold JW;simp![OX,Ud,QC,Nw];constructor
 .rintro ⟨a,d,b,c,rfl,rfl⟩;omega
 .intro h;exact⟨x,by omega,y,by omega,rfl,rfl⟩
def yG{p q:Pt}(d:∃z∈JW,p=JX z)(c:∃z∈JW,q=JX z)(e:IT (kyP p)=IT (kyP q)):p=q:=by
 let⟨z,a,rfl⟩:=d;let⟨y,b,rfl⟩:=c;rw[my xU a b e]
structure Half14(t one two:XB)(m:Pt):Prop where
 near1:E3 one
 near2:E3 two
 same:IS ((JS one++JS two).map kyP)=(JS t).map kyP
 ok:IU ((JS one++JS two).map kyP)
 line:∀p∈JS one,p∈JS two->Gs m (JT t) p=0
 mid1:m∈JS one
 mid2:m∈JS two
def kJ:∀l:List Pt,Bp (l.map uP)=some (l.map kyP)
 |[]=>rfl
 |p::l=>by
  have e:keyOf (uP p)=some (kyP p):=rfl;rw[W1];simp![Bp,e,kJ l]
  rfl
def nN(l:List Pt):(l.map kyP).map tupI=l.map uP:=by rw[Qz];rfl
def yS{l m:List Pt}(z:g[n]?=some (.Z5 (l.map uP)))(u:IU (l.map kyP))(j:IS (l.map kyP)=m.map kyP):B3 [.ref n] g=.ok (.ref g.length) (g++[.Z5 (m.map uP)]):=by
 unfold B3;simp![z,kJ];rw[Y2 u,j,nN]
 rfl
def sr:∀l:List Pt,IK Cd (l.map uP) (l.map uP)=some true
 |[]=>rfl
 |p::l=>by
  have e:Cd (uP p) (uP p)=some true:=by simp[Cd,IK,IF,Ak]
  rw[W1];simp![IK,e,sr l]
  rfl
def sW(l:List Pt):IL (l.map uP) (l.map uP)=some true:=by unfold IL;rw[Y2 rfl];exact sr l
def rp{a:List U}(c:g[n]?=some (.Z5 xs))(b:g[m]?=some (.Z5 a)):IM .eq (.ref n) (.ref m) g=IL xs a:=by
 simp![IM,AX,c,b]
def map_inj{c e:Type}{f:c->e}(d:∀a b,f a=f b->a=b):∀{l m:List c},l.map f=m.map f->l=m
 |[],[],_=>rfl
 |[],_::_,h=>by cases h
 |_::_,[],h=>by cases h
 |a::l,b::m,h=>by
  rw[W1,W1,NV]at h;rw[d a b h.1,map_inj d h.2]
def CW(a:Pt):List Pt->List Pt
 |[]=>[a]
 |b::r=>if a=b then b::r else if Ah (kyP a) (kyP b)=true then a::b::r else b::CW a r
def Al:List Pt->List Pt
 |[]=>[]
 |a::r=>CW a (Al r)
def kL(a:Pt):∀r:List Pt,AL (kyP a) (r.map kyP)=(CW a r).map kyP
 |[]=>rfl
 |b::r=>by
  rw[W1];unfold AL CW;by_cases h:a=b
  .rw [Y2 h,Y2 (by rw[h]),W1]
  .rw [YH h,YH λe=>h (dZ e)]
   split
   .rfl
   .rw [kL a r];rfl
def a9:∀l:List Pt,IS (l.map kyP)=(Al l).map kyP
 |[]=>rfl
 |a::l=>by
  show AL (kyP a) (IS (l.map kyP))=_;rw[a9 l,kL];rfl
def eI{p:Pt}{l:List Pt}:kyP p∈l.map kyP↔p∈l:=
 ⟨λh=>let⟨q,a,e⟩:=Ud.mp h;by rw[<-dZ e];exact a,λh=>Ud.mpr ⟨p,h,rfl⟩⟩
def aZ{p:Pt}{l:List Pt}:p∈Al l↔p∈l:=by
 rw[<-eI,<-a9,bD,eI]
def vU{f:α->β}{l:List α}(h:(l.map f).Nodup):l.Nodup:=(QN.mp h).imp λ{a b} n e=>n (by rw[e])
def aal{l:List Pt}(h:l.Nodup):(l.map kyP).Nodup:=QN.mpr (h.imp λ{a b} n e=>n (dZ e))
def dS(l:List Pt):(Al l).Nodup:=vU (f:=kyP) (by rw[<-a9];exact l5 (bE _))
def x4(l:List Pt):(Al l).length<=l.length:=by
 have:=g8 (l.map kyP);rw[a9,Z1,Z1]at this;exact this
def iR{l m:List Pt}(h:∀p,p∈l↔p∈m):Al l=Al m:=by
 apply map_inj (λa b=>dZ);rw[<-a9,<-a9];refine dR (bE _) (bE _) λx=>?_;rw[bD,bD];constructor
 .intro c;let⟨p,d,rfl⟩:=Ud.mp c;exact eI.mpr ((h p).mp d)
 .intro c;let⟨p,d,rfl⟩:=Ud.mp c;exact eI.mpr ((h p).mpr d)
def eM{P:Plan}(h:P∈Ay):P.w*P.s<=8/\P.d*P.s<=8/\(Ad P).length<=77:=by
 have:(Ay.all λP=>decide (P.w*P.s<=8)&&(decide (P.d*P.s<=8)&&Nat.ble (Ad P).length 77))=true:=by decide +kernel
 have:=Tc.mp this P h;rw[Yx,Yx,Vw,Vw,Nat.ble_eq]at this;exact this
def lA{P:Plan}(h:P∈Ay){p:Pt}(d:Ar P p=true):∃z∈JW,p=JX z:=by
 have m:=eM h;have a:=inL.mp d;let⟨x,c⟩:=NH a.1;let⟨y,b⟩:=NH a.2.2.1;exact⟨(x,y),wU.mpr (),N5 c b⟩
def Cuts(P:Plan)(l:List Pt):Prop:=∀p∈l,p∈Ad P
def Cuts.len{P:Plan}(h:P∈Ay){l:List Pt}(b:Cuts P l)(a:l.Nodup):l.length<=77:=Hv (a.length_le_of_subset b) (eM h).2.2
def Cuts.VN{P:Plan}{l:List Pt}(b:Cuts P l):Cuts P (Al l):=λp a=>b p (aZ.mp a)
def acq{P:Plan}(h:P∈Ay){l:List Pt}(g:l.length<=300)(c:Cuts P l):IU (l.map kyP):=by
 refine⟨by rw[Z1];exact g,λk hk=>?_,λa j b i e=>?_⟩
 .obtain ⟨p,_,rfl⟩:=Ud.mp hk
  exactλz=>nomatch z
 .obtain ⟨p,f,rfl⟩:=Ud.mp j
  let⟨q,d,rfl⟩:=Ud.mp i;rw[yG (lA h (aR.mp (c p f)).1) (lA h (aR.mp (c q d)).1) e]
abbrev DS(ks:List Pt):List (List Int×U):=JU AM (λ_=>U.bl true) ks
def JY(ks:List Pt)(a:Pt):List Pt:=if a∈ks then ks else ks++[a]
def fZ{ks:List Pt}{a:Pt}:dput (DS ks) (AM a) (.bl true)=DS (JY ks a):=by
 unfold JY;split
 .rename_i h
  rw[xB (λa b=>dF) h];congr 1;funext q;split<;>rfl
 .rename_i h
  rw[wx (λa b=>dF) h];congr 1;funext q;split<;>rfl
def bq{ks:List Pt}{a p:Pt}:p∈JY ks a↔p=a\/p∈ks:=by
 unfold JY;split
 .rename_i h
  exact⟨.inr,λz=>z.elim (λe=>by rw[e];exact h) id⟩
 .rw [Vj,V2];exact Or.comm
def gA{ks:List Pt}{a:Pt}(h:ks.Nodup):(JY ks a).Nodup:=by
 unfold JY;split
 .exact h
 .rename_i n
  refine Np.mpr ⟨h,NA _ a,λx c y b e=>?_⟩;rw[V2]at b;exact n (by rw[<-b,<-e];exact c)
def gf{ks:List Pt}{a:Pt}:(AN (DS ks) (AM a)).isSome=decide (a∈ks):=by
 by_cases h:a∈ks
 .rw [oF (key:=AM) (λa b=>dF) h,Qx h];rfl
 .rw [Ry h]
  unfold AN DS JU;rw[OG,Bool.eq_false_iff];intro z;let⟨e,c⟩:=Qs.mp z;have h1:=Nk c;have h2:=List.find?_some c;let⟨q,d,rfl⟩:=Ud.mp h1;rw[Vw]at h2;exact h (by rw[<-dF h2];exact d)
def f9(ks:List Pt):(DS ks).map (·.1)=ks.map kyP:=by unfold DS JU;rw[Qz];rfl
def jQ:∀{l ks:List Pt},(ks++l).Nodup->dfold (l.map λp=>.ZY [uP p,.bl true]) (DS ks)=some (DS (ks++l))
 |[],ks,_=>by rw[Qe];rfl
 |a::l,ks,h=>by
  have b:a ∉ ks:=λz=>by
   have:=(Np.mp h).2.2 a z a HD;exact this rfl
  have e:B9 (DS ks) (.ZY [uP a,.bl true])=some (DS (ks++[a])):=by
   show(keyOf (uP a)).map (λk=>dput (DS ks) k (.bl true))=_;rw[show keyOf (uP a)=some (AM a)from rfl,Sl,fZ];unfold JY;rw[YH b]
  rw[W1];simp![dfold,e,PD];rw[jQ (by rw[VO];exact h),VO]
  rfl
section
variable{ks:List Pt}{p:Pt}
def SetAt(g:G)(n:Nat)(ks:List Pt):Prop:=g[n]?=some (.ZF (DS ks))\/g[n]?=some (.YG (DS ks))
def SetAt.app{gs:G}(h:SetAt g n ks):SetAt (g++gs) n ks:=h.imp aj aj
def SetAt.items(h:SetAt g n ks):items (.ref n) g=none:=by rcases h with h|h<;>simp![PI.items,h]
def SetAt.Ye(h:SetAt g n ks):Ye (.ref n) g=some (DS ks):=by rcases h with h|h<;>simp![PI.Ye,h]
def SetAt.look(h:SetAt g n ks):AK (uP p) (.ref n) g=some (AN (DS ks) (AM p)):=xg h.Ye gO
def gD(h:SetAt g n ks):IM .YB (uP p) (.ref n) g=some (!decide (p∈ks)):=by
 rw[hJ,h.items];simp![h.look,Sl,gf]
def lD(h:SetAt g n ks)(a:ks.Nodup)(b:ks.length<100000):Cz [.ref n] g=.ok (.ref g.length) (g++[.Z5 ((Al ks).map uP)]):=by
 unfold Cz;have e:A4 [.ref n] g=none:=by rcases h with h|h<;>simp![A4,h]
 simp![e,De,h.Ye];rw[Y2 ⟨by unfold DS JU;rw[Z1];exact b,by rw[f9];exact aal a,λk hk=>by rw[f9]at hk;let⟨p,_,rfl⟩:=Ud.mp hk;exactλz=>nomatch z⟩,f9,a9,nN]
 rfl
def v5(h:SetAt g n ks):Bw [.ref n] g=.ok (.ref g.length) (g++[.Z5 (ks.map uP)]):=by
 unfold Bw;simp![h.items,h.Ye];have:((DS ks).map λa=>tupI a.1)=ks.map uP:=by
  unfold DS JU;rw[Qz];rfl
 rw[this];rfl
def xm{P:Plan}{l:List Pt}(u:P∈Ay)(h:g[n]?=some (.Z5 (l.map uP)))(j:l.length<=300)(hc:Cuts P l):B3 [.ref n] g=.ok (.ref g.length) (g++[.Z5 ((Al l).map uP)]):=yS h (acq u j hc) (a9 l)
end
def Az(P:Plan)(l:List Pt)(p:Pt):List Pt:=(JO P p).filter λq=>!decide (q∈l)
def da{P:Plan}{p q:Pt}(h:q∈JO P p):q∈Ad P:=by
 unfold JO at h;have:=(QE.mp h).2;rw[Yx,R6]at this;exact aR.mpr this
def Old(g g':G):Prop:=∃a,g'=g++a
section
variable{g' Uw:G}{o:Z9}
def Old.refl:Old g g:=⟨[],(Qe g).symm⟩
def Old.app{gs:G}:Old g (g++gs):=⟨gs,rfl⟩
def Old.more{gs:G}(h:Old g g'):Old g (g'++gs):=by let⟨a,rfl⟩:=h;exact⟨a++gs,VO ..⟩
def Old.trans(h:Old g g')(k:Old g' Uw):Old g Uw:=by let⟨a,rfl⟩:=k;exact h.more
def Old.len(h:Old g g'):g.length<=g'.length:=by let⟨a,rfl⟩:=h;simp
def Old.get(h:Old g g')(e:g[n]?=some o):g'[n]?=some o:=by let⟨a,rfl⟩:=h;exact aj e
def Old.set(h:Old g g')(b:g.length<=n):Old g (g'.set n o):=by let⟨a,rfl⟩:=h;exact⟨a.set (n-g.length) o,List.set_append_right n o b⟩
def Old.fr(h:Old g g')(b:Bag g):Fr g g':=by let⟨a,rfl⟩:=h;exact Fr.app b
def aU{o':Z9}(h:n≠m)(e:g[m]?=some o):(g.set n o')[m]?=some o:=by rw[UE h];exact e
end
def eD{c:Pt->Prop}:∀{vs:List U},(∀v∈vs,∃p,v=uP p/\c p) ->∃a:List Pt,vs=a.map uP /\∀p∈a,c p
 |[],_=>⟨[],rfl,λp b=>nomatch b⟩
 |v::vs,h=>by
  let⟨p,rfl,b⟩:=h v HD;let⟨a,rfl,f⟩:=eD (vs:=vs) λw d=>h w (Hy _ d);exact⟨p::a,rfl,λq e=>by rcases Vh.mp e with rfl|z;exact b;exact f q z⟩
inductive XA(P:Plan)(l:List Pt):Pt->Prop
 |base {p:Pt}:p∈l->XA P l p
 |step {p q:Pt}:XA P l p->q∈JO P p->XA P l q
section
variable{P:Plan}{l ks:List Pt}{p q:Pt}
def XA.cut(a:Cuts P l)(h:XA P l p):p∈Ad P:=by
 induction h with
 |base h=>exact a _ h
 |step _ h _=>exact da h
def Af(P:Plan)(l:List Pt):List Pt:=open Classical in Al ((Ad P).filter λq=>decide (XA P l q))
open Classical in
def ft(a:Cuts P l):q∈Af P l↔XA P l q:=by
 unfold Af;rw[aZ,QE,Vw];exact⟨λh=>h.2,λh=>⟨h.cut a,h⟩⟩
open Classical in
def cb:Cuts P (Af P l):=λp a=>by
 unfold Af at a;rw[aZ,QE]at a;exact a.1
def jh:(Af P l).Nodup:=dS _
def kS(l:List Pt):Al (Al l)=Al l:=iR λp=>aZ
def jN(a:Cuts P l)(h:∀q,q∈ks↔XA P l q):Al ks=Af P l:=by
 rw[iR (l:=ks) (m:=Af P l) λq=>(h q).trans (ft a).symm];unfold Af;rw[kS]
def oz(c:∀p∈l,p∈ks)(b:∀p∈ks,∀q∈JO P p,q∈ks)(h:XA P l q):q∈ks:=by
 induction h with
 |base h=>exact c _ h
 |step _ a ih=>exact b _ ih _ a
def ll(b:ks.Nodup)(h:p ∉ ks):(ks++[p]).Nodup:=by
 have:=gA (a:=p) b;unfold JY at this;rwa[YH h]at this
def yU(h:p ∉ ks):(JY ks p).length=ks.length+1:=by unfold JY;rw[YH h];simp
end
inductive Sf(P:Plan)(l:List Pt):Pt->Prop
 |base {p:Pt}:p ∉ l->Sf P l p
 |step {p q:Pt}:q∈JO P p->Sf P l q->Sf P l p
section
variable{P:Plan}{l ks:List Pt}{p q:Pt}
open Classical in
def zM(b:P∈Ay)(a:p∈Ad P):AI P p<8:=by
 have:(Ay.all λP=>(Ad P).all λp=>decide (AI P p<8))=true:=by decide +kernel
 exact HE (Tc.mp (Tc.mp this P b) p a)
end
def Clo(P:Plan)(l:List Pt):Prop:=∀p∈l,∀q∈JO P p,q∈l
section
variable{P:Plan}{l m:List Pt}{p q:Pt}
def vw:Al (Af P l)=Af P l:=by unfold Af;rw[kS]
def Clo.app(h:Clo P l)(k:Clo P m):Clo P (l++m):=λp b q a=>by
 rcases Vj.mp b with z|z
 .exact Vj.mpr (.inl (h p z q a))
 .exact Vj.mpr (.inr (k p z q a))
def Cuts.app(h:Cuts P l)(k:Cuts P m):Cuts P (l++m):=λp a=>(Vj.mp a).elim (h p) (k p)
end
def Br(P:Plan):List Pt->Prop
 |a::b::r=>a∈JO P b/\Br P (b::r)
 |_=>True
section
variable{P:Plan}{l:List Pt}{p q:Pt}
def jw:∀{r:List Pt},Br P (r++[p])->p∈JO P q->Br P (r++[p]++[q])
 |[],_,h=>⟨h,trivial⟩
 |[a],⟨h1,_⟩,h=>⟨h1,h,trivial⟩
 |a::b::r,⟨h1,h2⟩,h=>⟨h1,jw (r:=b::r) h2 h⟩
def nO:∀{r:List Pt} {k:Nat},Br P r->r[k]?=some p->r[k+1]?=some q->p∈JO P q
 |[],k,_,e,_=>by cases e
 |[a],k,_,_,e=>by simp at e
 |a::b::r,0,h,d,c=>by cases d;cases c;exact h.1
 |a::b::r,k+1,h,d,c=>nO (r:=b::r) (k:=k) h.2 d c
def wz(f:P.ok)(d:Cuts P l)(h:XA P l q)(e:q ∉ l):∃c∈JQ P q,c∈Af P l:=by
 cases h with
 |base a=>exact absurd a e
 |step a b=>
  rename_i r;have g:q∈Ad P:=da b;exact⟨r,(iW f g).mpr ⟨a.cut d,b⟩,(ft d).mpr a⟩
def jW:IQ (xs++[u]) (-1)=some u:=by
 have e:L2.ixN (xs++[u]).length (-1)=some xs.length:=by
  unfold L2.ixN;rw[Ww,Q0];rw[YH (),Y2 ()]
  congr 1;omega
 unfold IQ L2.atI;rw[e];simp
end
end
end PI
variable{p:PI.Pt}{ks l:List PI.Pt}
namespace ZD
noncomputable section
open PI
section
variable{X:XP}{P:Plan}
def fv(e:P.ok)(h:Q (.bl (Ar P p)) g):Jo J (d+1) 0 [Zo P,uP p] g X Q:=by
 have h1:=e.ss;simp? only[Ez]
 simp?[*];simp![Ar]at h;refine af (λa=>?_) λa=>by simp?[*];simpa[a]using h
 simp?[*];refine af (λb=>?_) λb=>?_
 .simp? [*]
  refine af (λc=>?_) λc=>by simp?[*];simpa[a,b,c]using h
  simp?[*];simpa[a,b,c]using h
 .simp? [*];simpa[a,b]using h
def tO(b:P.ok)(a:Ar P p=true)(h:Q .ZJ g):Jo J (d+2) 1 [Zo P,uP p] g X Q:=by
 simp? only[Ee]
 simp?;refine fv b ?_;simp?;simp![a];simp?;exact h
def ij(b:P.ok)(c:Ar P p=true)(h:Q (.bl (Ax P p)) g):Jo J (d+3) 2 [Zo P,uP p] g X Q:=by
 have h0:=b.s0;simp? only[El]
 simp?;refine tO b c ?_;simp?[*];simp![Ax]at h;refine af (λa=>?_) λa=>by simp?[*];simpa[a]using h
 simp?[*];simpa[a]using h
def dj(c:P.ok)(a:Ar P p=true)(b:Ax P p=false)(h:Q .ZJ g):Jo J (d+4) 3 [Zo P,uP p] g X Q:=by
 simp? only[Et]
 simp?;refine ij c a ?_;simp?[b];exact h
def dB(h:Q (.int (stride p)) g):Jo J (d+1) 4 [uP p] g X Q:=by
 simp? only[EA]
 simp?[bg];unfold stride at h
 (repeat' (refine af (λ_=>?_) (λ_=>?_)<;>(try simp?[bg, *])))
 all_goals simp_all
def ik(h:Q (.bl (A7 p)) g):Jo J (d+2) 5 [uP p] g X Q:=by
 have s0:=(cf p).1;have sb:=dE p;simp? only[En]
 simp?;refine dB ?_;simp?[s0,sb];unfold A7 at h
 (repeat' (refine af (λ_=>?_) (λ_=>?_)<;>(try simp?[bg, *])))
 all_goals simp_all
def tN(h:Q (u4 (Bx p)) g):Jo J (d+2) 6 [uP p] g X Q:=by
 have s0:=(cf p).1;have sb:=dE p;simp? only[Ec]
 simp?;refine dB ?_;simp?[s0,sb];unfold Bx lying upright at h
 (repeat' (refine af (λ_=>?_) (λ_=>?_)<;>(try simp?[bg, *])))
 all_goals simp_all
def s9(h:Q (u4 (Bv p)) g):Jo J (d+2) 7 [uP p] g X Q:=by
 have s0:=(cf p).1;have a:0<2*stride p:=by omega
 have sb:=jo p;have ss:=ic p;simp? only[D6]
 simp?;refine dB ?_;simp?[s0,a,sb,ss];unfold Bv BL rising falling at h
 (repeat' (refine af (λ_=>?_) (λ_=>?_)<;>(try simp?[bg, *])))
 all_goals simp_all
def yV(h:Q (u4 (Av p)) g):Jo J (d+3) 8 [uP p] g X Q:=by
 simp? only[EE]
 simp?;refine ik ?_;simp?;unfold Av at h;refine af (λk=>?_) λk=>?_
 .rw [Y2 k]at h
  simp?;refine s9 ?_;simp?;exact h
 .rw [YH (by simp[k])]at h
  simp?;refine tN ?_;simp?;exact h
def uT(u:P.ok)(z:Ar P p=true)(hc:Ax P p=false)(h:BU g ((JO P p).map uP) Q):Jo J (d+5) 9 [Zo P,uP p] g X Q:=by
 simp? only[Ey]
 simp?;refine dj u z hc ?_;simp?;refine yV ?_;simp?;refine bF [(Av p).2.1,(Av p).2.2] uP (λq=>Ar P q&&!Ax P q) uP (λj=>j=g) ((JO P p).map uP) rfl (λk j e=>w4) (λq B=>?_) (by simp) rfl ?_
 .simp?
  rintro j rfl;refine fv u ?_;simp?;refine af (λk1=>?_) λk1=>?_
  .simp?
   refine ij u k1 ?_;simp?[k1];refine af (λk2=>?_) λk2=>?_<;>simp?[k1,k2]
  .simp? [k1,Na]
 .rintro j rfl
  have hl:=bH P p;exact⟨by rw[Z1];omega,h _ _ (Hx _) ai⟩
def uw(j:P.ok)(l:Ar P p=true)(o:Ax P p=false)(h:∀gs n,g.length<=n->(g++gs)[n]?=some (.Z5 ((JQ P p).map uP))->Q (.ref n) (g++gs)):Jo J (d+5) 10 [Zo P,uP p] g X Q:=by
 have t:(2:Int)<An:=by decide
 have c:∀(m:Nat) (g2 gs:G) (O:Su),AJ p=AJ p->g2=g++gs->g2[m]?=some (.Z5 ((AJ p).map uP))->O=[none,some (Zo P)]->Jx J (d+4) (.Z5 m) 0 (.nm 0) [.call 0 [.L 1,.L 0]] [] (.L 0) [] O g2 (λ_ _ _=>False) λS g=>S.length<=16777000/\Q (.ref g.length) (g++[.Z5 S]):=λm g2 gs O _ e s r=>by
  subst e;subst r;have v:(AJ p).length<=4:=by unfold AJ;split;simp;split<;>simp
  refine bF (AJ p) uP (Ar P) uP (λf=>f=g++gs) ((JQ P p).map uP) rfl (λk f e=>by rw[e];exact aL s) (λq u=>?_) () rfl ?_
  .simp?
   rintro f rfl;refine fv j ?_;simp?;refine af (λb=>?_) λb=>?_<;>simp?[b]
  .rintro f rfl
   have:=Qk (Ar P) (AJ p);exact dI h (by rw[Z1];unfold JQ;omega)
 simp? only[Eu]
 simp?;refine dj j l o ?_;simp?;refine dB ?_;simp?;refine ik ?_;simp?;refine af (λb=>?_) λb=>?_
 .simp? [ai]
  exact c _ _ _ _ rfl rfl (by rw[ai];simp[AJ,b]) rfl
 .simp?
  refine af (λi=>?_) λi=>?_
  .have a:1<stride p:=by simpa using i
   simp?[ai,t];exact c _ _ _ _ rfl rfl (by rw[ai];simp[AJ,b,a]) rfl
  .have a : ¬ 1<stride p:=by simpa using i
   simp?[ai];exact c _ _ _ _ rfl rfl (by rw[ai];simp[AJ,b,a]) rfl
def fk(Z:P∈Ay)(S:P.ok)(hn:g[n]?=some (.Z5 (l.map uP)))(R:l.length<=300)(hc:Cuts P l)(h:∀(g':G) (m:Nat),Old g g'->g.length<=m->g'[m]?=some (.ZF (DS (Al l)))->Q (.ref m) g'):Jo J (d+5) 11 [Zo P,.ref n] g X Q:=by
 simp? only[Es]
 simp?[hn];refine eP (l.map uP) (λk O g'=>g'=g /\∃o,O=[some (Zo P),some (.ref n),o]) (λk O g' j=>by rw[j.1];exact aL hn) ⟨rfl,_,rfl⟩ (λk u O g' hk j=>?_) (λO g' j=>?_)
 .obtain ⟨rfl,o,rfl⟩:=j
  simp![VV,Vu]at hk;let⟨p,z,rfl⟩:=hk;let⟨F,L⟩:=aR.mp (hc p (TY z));simp?;refine dj S F L ?_;simp?;exact⟨_,rfl⟩
 .obtain ⟨rfl,o,rfl⟩:=j
  have B:(g'++[Z9.Z5 ((Al l).map uP)])[g'.length]?=some (.Z5 ((Al l).map uP)):=ai;simp?[xm Z hn R hc,B];refine bF (Al l) uP (λ_=>true) (λp=>.ZY [uP p,.bl true]) (λg2=>g2=g'++[Z9.Z5 ((Al l).map uP)]) ((Al l).map λp=>.ZY [uP p,.bl true]) (by rw[wB]) (λk g2 e=>by rw[e];exact aL B) (λp z=>?_) (by have:=x4 l;omega) rfl ?_
  .simp?
   rintro g2 rfl;simp?[keyOf,intsOf]
  .rintro g2 rfl
   have f1:=jQ (l:=Al l) (ks:=[]) (dS l);rw[Pq]at f1;simp?[show dfold ((Al l).map λp=>.ZY [uP p,.bl true]) []=some (DS (Al l))from f1];exact h _ _ Old.app.more (by simp) ai
def vC(o:P.ok)(l:p∈Ad P)(f:SetAt g m ks)(h:BU g ((Az P ks p).map uP) Q):Jo J (d+6) 12 [Zo P,.ref m,uP p] g X Q:=by
 let⟨i,j⟩:=aR.mp l;simp? only[Ew]
 simp?;refine uT o i j λgs n u e=>?_;simp?[e];refine bF (JO P p) uP (λq=>!decide (q∈ks)) uP (λb=>b=g++gs) ((Az P ks p).map uP) rfl (λk b r=>by rw[r];exact aL e) (λq t=>?_) (by have:=bH P p;omega) rfl ?_
 .have dl:=(f.app (gs:=gs)).look (p:=q)
  have s:=gf (ks:=ks) (a:=q);have hi:=(f.app (gs:=gs)).items;simp![items]at hi;simp?;rintro b rfl;simp?[hi,dl,s];refine af (λc=>?_) λc=>?_<;>simp?[c]
 .rintro b rfl
  have hl:=bH P p;have:=Qk (λq=>!decide (q∈ks)) (JO P p);exact dI h (by rw[Z1];unfold Az;omega)
def yo(hM:P∈Ay)(hP:P.ok)(hn:g[n]?=some (.Z5 (l.map uP)))(hl:l.length<=300)(hc:Cuts P l)
  (h:∀(g':G) (m:Nat),Old g g'->g.length<=m->g'[m]?=some (.Z5 ((Af P l).map uP))->Q (.ref m) g'):Jo J (d+8) 13 [Zo P,.ref n] g X Q:=by
 have hs77:=(hc.VN).len hM (dS l);simp? only[ED]
 simp?;refine fk hM hP hn hl hc λg1 m o1 lm e1=>?_;have VE:m<g1.length:=(YE.mp e1).1;simp?[↓v5 (.inl e1)];refine gT (λk O g'=>∃(B W:List Pt) (o o':Option U),Old g g'/\g'[m]?=some (.ZF (DS B))/\g'[g1.length]?=some (.Z5 (W.map uP))/\B.Nodup/\(∀p∈B,XA P l p)/\(∀p∈l,p∈B)/\(∀p∈W,p∈B)/\(∀p∈B,p∈W \/∀q∈JO P p,q∈B)/\W.length<=77+2*B.length/\3*(77-B.length)+W.length=k/\O=[some (Zo P),some (.ref n),some (.ref m),some (.ref g1.length),o,o']) ?_ _ _ _ ⟨Al l,Al l,none,none,o1.more,aj e1,ai,dS l,(λp S=>.base (aZ.mp S)),(λp S=>aZ.mpr S),(λp S=>S),(λp S=>.inl S),by omega,rfl,rfl⟩
 rintro k O g' ⟨B,W,o,o',ho,e2,e3,nd,uk,hL,hW,hC,hw,hk,rfl⟩;have X0:Cuts P B:=λp S=>(uk p S).cut hc;have hk77:=X0.len hM nd;rcases List.eq_nil_or_concat W with Se|⟨W',p,rfl⟩
 .subst Se
  have same:Al B=Af P l:=jN hc λq=>⟨uk q,oz hL λp S=>(hC p S).resolve_left λz=>nomatch z⟩;simp?[e3,Og,lD (.inl e2) nd ()]
  rw[same];exact h _ _ ho.more ho.len ai
 .have ne:(W'.concat p).map uP=W'.map uP++[uP p]:=by simp
  rw[ne]at e3;have lw:(W'.concat p).length=W'.length+1:=by simp
  have mem:∀q,q∈W'.concat p↔q∈W'\/q=p:=λq=>by simp
  have hpk:p∈B:=hW p ((mem p).mpr (.inr rfl));have pop:=iP e3;have gl:=o1.len;have e4:(g'.set g1.length (.Z5 (W'.map uP)))[m]?=some (.ZF (DS B)):=aU () e2
  have e5:(g'.set g1.length (.Z5 (W'.map uP)))[g1.length]?=some (.Z5 (W'.map uP)):=aG e3;have o2:Old g (g'.set g1.length (.Z5 (W'.map uP))):=ho.set gl;simp?[e3,yg,pop];generalize g'.set g1.length (.Z5 (W'.map uP))=g3 at e4 e5 o2 ⊢;refine vC hP (X0 p hpk) (.inl e4) λgs n4 Ub e6=>?_;have e7:=aj (gs:=gs) e4;have e8:=aj (gs:=gs) e5;have o4:=o2.more (gs:=gs);have Zc:=bH P p;have hml:(Az P B p).length<=(JO P p).length:=Qk _ _;generalize g3++gs=g4 at e6 e7 e8 o4 ⊢;simp?[e6];have Tj:∀q,q∈Az P B p↔q∈JO P p/\q ∉ B:=λq=>by unfold Az;rw[QE];simp
  refine eP ((Az P B p).map uP) (λj O g'=>∃(R:List Pt) (o':Option U),Old g g'/\g'[m]?=some (.ZF (DS R))/\g'[g1.length]?=some (.Z5 (W'.map uP))/\g'[n4]?=some (.Z5 ((Az P B p).map uP))/\R.Nodup/\(∀q,q∈R↔q∈B\/q∈(Az P B p).take j)/\O=[some (Zo P),some (.ref n),some (.ref m),some (.ref g1.length),some (.ref n4),o']) (λj O g' hI=>?_) ⟨B,_,o4,e7,e8,e6,nd,λq=>by simp,rfl⟩ (λj u O g' hj hI=>?_) (λO g' hI=>?_)
  .obtain ⟨_,_,_,_,_,e9,_⟩:=hI
   exact aL e9
  .obtain ⟨R,o',o5,f1,f2,f3,Ti,L,rfl⟩:=hI
   simp![VV,Vu]at hj;let⟨q,F,rfl⟩:=hj;have hqm:=TY F;have Ub:m≠n4:=λz=>by rw[z,f3]at f1;cases f1
   have Yr:Cuts P R:=λr Z=>by
    rcases(L r).mp Z with z|z
    .exact X0 r z
    .exact da ((Tj r).mp (P9 z)).1
   have l':=Yr.len hM Ti;have sb:∀O,subAt (.ref m) (uP q) (.bl true) O g'=.ok (.nx O) (g'.set m (.ZF (DS (JY R q)))):=λO=>by
    rw[jg f1 gO (by unfold DS JU;rw[Z1];omega),show AM (q.1,q.2)=AM q from rfl,fZ]
   simp?[sb];refine⟨JY R q,_,o5.set lm,aG f1,aU () f2,aU Ub f3,gA Ti,λr=>?_,rfl⟩
   rw[bq,L,N2,F];simp![Vj,Option.toList_some,V2];constructor
   .rintro (z|z|z)
    .exact .inr (.inr z)
    .exact .inl z
    .exact .inr (.inl z)
   .rintro (z|z|z)
    .exact .inr (.inl z)
    .exact .inr (.inr z)
    .exact .inl z
  .obtain ⟨R,o',o5,f1,f2,f3,Ti,L,rfl⟩:=hI
   rw[Z1,List.take_length]at L;have Yr:Cuts P R:=λr Z=>by
    rcases(L r).mp Z with z|z
    .exact X0 r z
    .exact da ((Tj r).mp z).1
   have l':=Yr.len hM Ti;have lk1:B.length<=R.length:=nd.length_le_of_subset λr Z=>(L r).mpr (.inl Z);have lk2:Az P B p≠[]->B.length+1<=R.length:=λz=>by
    let⟨q,r,e⟩:=List.exists_cons_of_ne_nil z;have F:q∈Az P B p:=by rw[e];exact HD
    have:=(ll nd ((Tj q).mp F).2).length_le_of_subset (l₂:=R) λr Z=>by
     rcases Vj.mp Z with z|z
     .exact (L r).mpr (.inl z)
     .rw [V2.mp z];exact(L q).mpr (.inr F)
    simpa using this
   have lk3:Az P B p=[]->(Az P B p).length=0:=λz=>by rw[z];rfl
   have ext:=jq f2 f3 (by rw[Z1,Z1];omega)
   simp?[f2,ext];refine⟨_,?_,R,W'++Az P B p,_,_,o5.set gl,aU () f1,?_,Ti,λq F=>?_,λq F=>(L q).mpr (.inl (hL q F)),λq F=>?_,λr Z=>?_,?_,rfl,rfl⟩
   .rw [Ww]
    by_cases z:Az P B p=[]
    .have:=lk3 z;omega
    .have:=lk2 z;omega
   .rw [Ph];exact aG f2
   .rcases (L q).mp F with z|z
    .exact uk q z
    .exact .step (uk p hpk) ((Tj q).mp z).1
   .rcases Vj.mp F with z|z
    .exact (L q).mpr (.inl (hW q ((mem q).mpr (.inl z))))
    .exact (L q).mpr (.inr z)
   .rcases (L r).mp Z with z|z
    .rcases hC r z with y|y
     .rcases (mem r).mp y with y|y
      .exact .inl (Vj.mpr (.inl y))
      .refine .inr λq F=>?_
       rw[y]at F;by_cases hqk:q∈B
       .exact (L q).mpr (.inl hqk)
       .exact (L q).mpr (.inr ((Tj q).mpr ⟨F,hqk⟩))
     .exact .inr λq F=>(L q).mpr (.inl (y q F))
    .exact .inl (Vj.mpr (.inr z))
   .rw [Ww]
    by_cases z:Az P B p=[]
    .have:=lk3 z;omega
    .have:=lk2 z;omega
def ab3(L:P∈Ay)(u:P.ok)(hn:g[n]?=some (.Z5 (l.map uP)))(hl:l.length<=300)(hc:Cuts P l)(hp:p∈Ad P)
  (h0:∀g',Old g g'->p ∉ Af P l->X 2 [uP p] g')
  (h:∀(g':G) (m:Nat) (r:List Pt),Old g g'->g.length<=m->g'[m]?=some (.Z5 ((p::r).map uP))->p∈Af P l->Br P (p::r)->Cuts P (p::r)->(p::r).length<=8->(∃z,(p::r).getLast? = some z/\z∈l)->Q (.ref m) g'):Jo J (d+10) 14 [Zo P,.ref n,uP p] g X Q:=by
 let⟨pi,pc⟩:=aR.mp hp;have l77:=(cb (P:=P) (l:=l)).len L jh;simp? only[EV]
 simp?;refine fk L u hn hl hc λg1 m1 o1 lm1 e1=>?_;simp?;refine dj u pi pc ?_;simp?;refine yo L u (o1.get hn) hl hc λg2 m2 o2 lm2 e2=>?_;simp?;refine fk L u e2 () cb λg3 F o3 lm3 e3=>?_
 rw[vw]at e3;have Z:=o2.trans o3;have Zh:=Z.get e1;have nd:=gD (p:=p) (.inl e3);simp?[↓nd];refine af (λk1=>?_) λk1=>?_
 .replace k1:p ∉ Af P l:=by simpa using k1
  simp?;exact h0 _ (o1.trans Z) k1
 .replace k1:p∈Af P l:=by simpa using k1
  simp?;refine gT (λk O g'=>∃(r:List Pt) (q:Pt),Old g g'/\g'[m1]?=some (.ZF (DS (Al l)))/\g'[F]?=some (.ZF (DS (Af P l)))/\g'[g3.length]?=some (.Z5 ((r++[q]).map uP))/\(r++[q]).head? = some p/\Br P (r++[q])/\(∀z∈r++[q],z∈Af P l)/\AI P q=AI P p+r.length/\8-r.length=k/\O=[some (Zo P),some (.ref n),some (uP p),some (.ref m1),some (.ref F),some (.ref g3.length)]) ?_ _ _ _ ⟨[],p,(o1.trans Z).more,aj Zh,aj e3,ai,rfl,trivial,(λz B=>by rw[V2.mp B];exact k1),by simp,rfl,rfl⟩
  rintro k O g' ⟨r,q,ho,f1,f3,S,hh,ha,X8,hlv,hk,rfl⟩;have hq:q∈Af P l:=X8 q (by simp)
  have Tn:q∈Ad P:=cb q hq;have lv8:=zM L Tn;have lv0:=(iC u hp).2.2.1;have hr:r.length<8:=by omega
  have ul:IQ ((r++[q]).map uP) (-1)=some (uP q):=by rw[Ph];exact jW
  have Vv:=gD (p:=q) (.inl f1);simp?[S,ul,↓Vv];refine af (λk2=>?_) λk2=>?_
  .replace k2:q ∉ Al l:=by simpa using k2
   have hql:q ∉ l:=λz=>k2 (aZ.mpr z);let⟨qi,qc⟩:=aR.mp Tn;simp?[S,ul];refine uw u qi qc λgs n6 hn6 e6=>?_;simp?[e6];refine bF (JQ P q) uP (λz=>decide (z∈Af P l)) uP (λUw=>Uw=g'++gs) (((JQ P q).filter λz=>decide (z∈Af P l)).map uP) rfl (λk g' e=>by rw[e];exact aL e6) (λz B=>?_) (Nat.lt_of_le_of_lt (Hv (Qk _ _) (show(AJ q).length<=4 by unfold AJ;split;simp;split<;>simp)) (by decide)) rfl ?_
   .have dl:=(show SetAt (g'++gs) F (Af P l)from .inl (aj f3)).look (p:=z)
    have dn:=gf (ks:=Af P l) (a:=z);have hi:=(show SetAt (g'++gs) F (Af P l)from .inl (aj f3)).items;simp![items]at hi;simp?;rintro Uw rfl;simp?[hi,dl,dn];refine af (λk1=>?_) λk1=>?_<;>simp?[k1]
   .rintro Uw rfl
    let⟨c0,Va,Wd⟩:=wz u hc ((ft hc).mp hq) hql;have Zf:((JQ P q).filter λz=>decide (z∈Af P l)).length<=4:=Hv (Qk _ _) (Hv (Qk _ _) (by unfold AJ;split;simp;split<;>simp))
    cases hf:(JQ P q).filter λz=>decide (z∈Af P l)with
    |nil=>exact absurd (QE.mpr ⟨Va,Qx Wd⟩) (by rw[hf];exactλz=>nomatch z)
    |cons c cs=>
     have hcm:c∈(JQ P q).filter λz=>decide (z∈Af P l):=by rw[hf];exact HD
     let⟨d1,JP⟩:=QE.mp hcm;have JP:c∈Af P l:=HE JP;let⟨d3,d4⟩:=(iW u Tn).mp d1;rw[hf]at Zf;refine⟨by rw[Z1];omega,?_⟩
     have R:(g'++gs++[Z9.Z5 (uP c::cs.map uP)])[g3.length]?=some (.Z5 ((r++[q]).map uP)):=aj (aj S);have ap:=iU (y:=uP c) R (by rw[Z1,Ww];simp;omega)
     simp?[ai,ap];have l3:=(o1.trans Z).len;have g13:m1<g3.length:=(YE.mp Zh).1;have g33:F<g3.length:=(YE.mp e3).1;refine⟨_,?_,r++[q],c,(ho.more.more).set l3,aU () (aj (aj f1)),aU () (aj (aj f3)),?_,?_,jw ha d4,λz B=>?_,?_,rfl⟩
     .rw [Ww];simp;omega
     .rw [aG R];simp
     .rw [List.head?_append,hh];rfl
     .rcases Vj.mp B with z1|z1
      .exact X8 z z1
      .rw [V2.mp z1];exact JP
     .have:=(iC u d3).1 q d4
      rw[Ww];simp;omega
  .replace k2:q∈Al l:=by simpa using k2
   simp?;cases j:r++[q]with
   |nil=>simp at j
   |cons a s=>
    rw[j]at hh ha S X8;cases hh;refine h _ _ s ho (o1.trans Z).len S k1 ha (λz B=>cb z (X8 z B)) ?_ ⟨q,?_,aZ.mp k2⟩
    .rw [<-j,Ww];simp;omega
    .rw [<-j];simp
def tM{i:Int}(h:Q (.bl true) g):Jo J (d+1) 15 [.int i] g X Q:=by
 simp? only[Ed]
 simp?;exact h
def eZ(n:Nat):∀(D:Dt) (u v:U) (Q:U->G->Prop),D.ok n->Rep g D u->Rep g D v->Q (.bl true) g->Jo J (d+n+1) 16 [u,v] g X Q:=by
 induction n with
 |zero=>intro D u v Q hd;exact hd.elim
 |succ n ih=>
  intro D u v Q hd R F h;refine(nh (d:=d+(n+1)) (by rfl) (by rfl)).2 ?_
  simp![Eh];have list:∀(ds:List Dt) (S j:List U),(∀D∈ds,D.ok n)->Reps g ds S->Reps g ds j->items u g=some S->items v g=some j ->∀Q':Fl->G->Prop,(∀O,Q' (.nx O) g)->Jw J (d+(n+1)) (.nm 2) (.YY 0 (j.length:Int).toNat) 0 [.Zu (.not (.call 16 [.idx (.L 0) (.L 2),.idx (.L 1) (.L 2)])) [.ret (.ZW (.bl false))] []] [some u,some v,none] g X Q':=λds S j WJ z B iu iv Q' hQ'=>by
   refine b8 ((JM (j.length:Int)).map U.int) (λk O g'=>g'=g /\∃o,O=[some u,some v,o]) (λk O g' _=>cv) (λk w O g' hk hI=>?_) (λO g' hI=>by rw[hI.1];exact hQ' O) _ 0 _ _ (Pb _) ⟨rfl,none,rfl⟩
   let⟨rfl,o,rfl⟩:=hI;simp![VV,Vu]at hk;let⟨i,hi,rfl⟩:=hk;have YL:=kz.mp (TY hi);have hlu:=z.length;have Z:=B.length;have hD:ds[i.toNat]?=some ds[i.toNat]:=Xn ()
   let⟨a,ea,IA⟩:=z.get hD;let⟨b,eb,rb⟩:=B.get hD;have ua:IQ S i=some a:=by rw[b6 YL.1 (),ea]
   have JR:IQ j i=some b:=by rw[b6 YL.1 (),eb]
   simp![↓eO,↓nQ,↓pI,↓gY,↓hV,↓hY,↓d8,↓ach,↓ack,↓acR,↓acs,↓qu,↓pY,↓acY,↓acH,↓r9,↓ab7,↓sj,↓abS,↓sV,↓sT,↓kj,↓lW,↓lX,↓ky,↓aaI,↓ada,↓ac6,↓adh,↓sM,↓k_E,↓sO,↓ac8,↓sR,↓qF,↓qm,↓aac,↓lG,↓lz,↓lQ,↓qy,↓sY,↓k7,↓kB,↓rG,↓abr,↓n5,↓pk,↓pD,↓lu,↓ng,↓qU,↓ab9,↓ac9,↓acK,↓rH,↓mD,↓qA,↓oW,↓rg,↓oG,↓qC,↓n8,↓pV,↓zK,↓mf,↓ow,↓aaR,↓abQ,↓oM,↓sk,↓om,↓nF,↓mZ,↓qe,↓kU,↓l8,↓abz,↓mV,↓mr,↓qp,↓mm,↓zN,↓nD,↓pd,↓qR,↓pL,↓abJ,↓oA,↓pJ,↓sh,↓qW,↓sQ,↓oj,↓qg,↓sI,↓k9,↓qk,↓rC,↓qZ,↓pP,↓mL,↓rj,↓ot,↓oU,↓aa2,↓nA,↓xq,↓kR,↓acL,↓nS,↓z0,↓aba,↓abn,↓aaD,↓abj,↓zm,↓qr,↓lH,↓mP,↓lO,↓pF,↓m7,↓kY,↓aaa,↓mq,↓qd,↓nJ,↓kf,↓qX,↓oy,↓aaz,↓m8,↓zG,↓yh,↓cD,↓ki,↓yA,↓xR,↓kI,↓mH,↓l9,↓zT,↓pA,↓rJ,↓oR,↓nj,↓mQ,↓oZ,↓ni,↓sD,↓nq,↓gZ,↓mX,↓nV,↓mG,↓m9,↓ph,↓ql,↓oV,↓rK,↓rR,↓qK,↓qv,↓sE,↓qh,↓oS,↓oq,↓og,↓oO,↓pG,↓nY,↓nv,↓oX,↓mw,↓pB,↓oJ,↓oH,↓ny,↓nu,↓mh,↓md,↓nC,↓pS,↓rm,↓rq,↓qo,↓rB,↓qj,↓mU,↓rP,↓rY,↓rL,↓lx,↓rQ,↓sJ,↓sH,↓sG,↓qG,↓qt,↓rV,↓pR,↓mv,↓qL,↓ou,↓ko,↓oN,↓sA,↓oC,↓sN,↓qS,↓pW,↓sF,↓rA,↓l7,↓nP,↓nM,↓l6,↓rZ,↓pz,↓nB,↓sm,↓rM,↓qT,↓rS,↓pO,↓sC,↓pN,perm,pick,BM,PD,Dr,Dg,C9,CY,Qo,List.lookup_nil,Nat.reduceBEq,List.contains_cons,List.contains_nil,Dw,List.getElem?_cons_zero,NF,Uc,Qn,List.set_cons_zero,List.set_cons_succ,W1,NJ,List.replicate_succ,List.replicate_zero,OU,Pq,Pb,Nat.reduceAdd,Nat.reduceSub,Nat.reduceLT,Nat.reduceLeDiff,Nat.reduceEqDiff,Nat.lt_add_left_iff_pos,IZ,Ae,bindL,Qp,UP,ite_true,ite_false,and_true,true_and,Option.getD_some,eA,eJ,pC,lg,ke,ls,pZ,sv,pQ,rl,gS,fP,rn,sS,rX,cin,hJ,rD,gp,Bool.or_false,Bool.or_true,Bool.true_or,Bool.false_or,clt,cle,cgt,cge,DU,IP,Fh,BV,IW,AV,lift,IV,CF,Dp,Bw,alloc,AS,fH,Ab,pX,qQ,rN,se,qO,rF,Aw,B5,Sl,Int.reduceLT,Int.reduceLE,Int.reduceNeg,Int.reduceEq,OD,PL,QK,Nf,Bool.and_true,N3,Bool.and_self,Vw,eq_self,iu,iv,ua,JR];refine ih _ a b _ (WJ _ (TY hD)) IA rb ?_;simp?;exact⟨_,rfl⟩
  cases D with
  |ZJ=>cases R;cases F;simp?;exact h
  |bl b=>cases R;cases F;simp?;cases b<;>exact h
  |int i=>
   cases R;cases F;simp?;refine tM (d:=d+n) ?_;simp?;simpa using h
  |str s=>cases R;cases F;simp?;simpa using h
  |ZY ds=>
   let⟨S,rfl,z⟩:=R;let⟨j,rfl,B⟩:=F;have hlu:=z.length;have Z:=B.length;let⟨hlen,WJ⟩:=Dt.Rq.mp hd;have eq:(S.length:Int)=j.length:=by omega
   have hr:Am (j.length:Int)=true:=a0 () ()
   simp?[eq,hr];refine list ds S j WJ z B rfl rfl _ λO=>?_;simp?;exact h
  |Z5 ds=>
   let⟨n1,S,rfl,hgu,z⟩:=R;let⟨n2,j,rfl,hgv,B⟩:=F;have hlu:=z.length;have Z:=B.length;let⟨hlen,WJ⟩:=Dt.QT.mp hd;have eq:(S.length:Int)=j.length:=by omega
   have hr:Am (j.length:Int)=true:=a0 () ()
   simp?[eq,hr,hgu,hgv];refine list ds S j WJ z B (by simp![items,hgu]) (by simp![items,hgv]) _ λO=>?_
   simp?;exact h
def uA(ns:List Int)(h:∀j:List Int,Q (.ref 2) [.Z5 (j.map U.int),.Z5 (j.map U.int),Bf 1 0 7]):Jo J (d+1) 17 [.Zy (ns.map U.int)] [] X Q:=by
 simp? only[Er]
 simp?[CI];have u:A0 (ns.map U.int) none (some 63)=(DV ns none (some 63)).map U.int:=zd ns _ _;simp?[u,Bf];exact h _
def aO{m:Int}(hb:Bag g)(Z:0<m)(Yq:m<1000000000000)(h:∀(r:Int) (g':G),0<=r->r<m->Fr g g'->Q (.int r) g'):Jo J (d+1) 18 [.ref 2,.int m] g X Q:=by
 let⟨xs,at_,Wa,F,B⟩:=hb;have JV:1<g.length:=(YE.mp F).1;have l2:2<g.length:=(YE.mp B).1;have R:m<An:=by unfold An;omega
 have h63:(2147483647:Int)<An:=by decide
 have h64:(64:Int)<An:=by decide
 have s1:small 48271:=bp (by decide)
 have s2:small 9973:=bp (by decide)
 have s3:small 31:=bp (by decide)
 have s4:small 69621:=bp (by decide)
 simp? only[Ei]
 simp?[F,B,Bf];have QS:∀j:Int,0<=j -> ¬ 1000000000000000000<=j->wpS J d [(.Zu (.cmp .ge (.L 4) (.ZR .pow (.ZW (.int 10)) (.ZW (.int 18)))) [(.sub (.L 2) (.ZR .mod (.L 3) (.bi .len [(.L 2)])) (.ZR .fdiv (.L 4) (.L 1))),(.ret (.ZR .mod (.L 4) (.L 1)))] []),(.sub (.L 0) (.ZW (.int 1)) (.ZR .add (.L 3) (.ZW (.int 1)))),(.sub (.L 0) (.ZW (.int 2)) (.ZR .mod (.ZR .add (.ZR .add (.ZR .add (.ZR .mul (.idx (.L 0) (.ZW (.int 2))) (.ZW (.int 48271))) (.ZR .mul (.L 4) (.ZW (.int 9973)))) (.ZR .mul (.L 3) (.ZW (.int 31)))) (.ZW (.int 11))) (.ZW (.int 2147483647)))),(.ret (.ZR .mod (.ZR .fdiv (.ZR .mod (.ZR .mul (.idx (.L 0) (.ZW (.int 2))) (.ZW (.int 69621))) (.ZW (.int 2147483629))) (.ZW (.int 64))) (.L 1)))] [some (.ref 2),some (.int m),some (.ref 1),some (.int at_),some (.int j)] g X λfl g=>JC fl (lk λu=>Q u g):=λj c0 c1=>by
  have S:=aG (o':=Bf 1 (at_+1) Wa) B;have h2'':=aG (o':=Bf 1 (at_+1) ((Wa*48271+j*9973+at_*31+11) % 2147483647)) S;have cn : ¬ j<0:=by omega
  simp?[F,B,jG,cn,c1,fF B (show(0:Int)<=1 by decide) (by simp),s1,s2,s3,s4,Z,R,h63,h64,show(1:Int).toNat=1 from rfl,S]
  simp?[fF S (show(0:Int)<=2 by decide) (by simp),s1,s2,s3,s4,Z,R,h63,h64,show(2:Int).toNat=2 from rfl,h2'']
  exact h _ _ (O3 _ ()) (Ox _ Z) ((Fr.Sg ⟨xs,at_,Wa,F,B⟩ _ _).trans (Fr.Sg (Fr.Sg ⟨xs,at_,Wa,F,B⟩ _ _).YW _ _))
 have big_:∀j:Int,0<xs.length->1000000000000000000<=j->wpS J d [(.Zu (.cmp .ge (.L 4) (.ZR .pow (.ZW (.int 10)) (.ZW (.int 18)))) [(.sub (.L 2) (.ZR .mod (.L 3) (.bi .len [(.L 2)])) (.ZR .fdiv (.L 4) (.L 1))),(.ret (.ZR .mod (.L 4) (.L 1)))] []),(.sub (.L 0) (.ZW (.int 1)) (.ZR .add (.L 3) (.ZW (.int 1)))),(.sub (.L 0) (.ZW (.int 2)) (.ZR .mod (.ZR .add (.ZR .add (.ZR .add (.ZR .mul (.idx (.L 0) (.ZW (.int 2))) (.ZW (.int 48271))) (.ZR .mul (.L 4) (.ZW (.int 9973)))) (.ZR .mul (.L 3) (.ZW (.int 31)))) (.ZW (.int 11))) (.ZW (.int 2147483647)))),(.ret (.ZR .mod (.ZR .fdiv (.ZR .mod (.ZR .mul (.idx (.L 0) (.ZW (.int 2))) (.ZW (.int 69621))) (.ZW (.int 2147483629))) (.ZW (.int 64))) (.L 1)))] [some (.ref 2),some (.int m),some (.ref 1),some (.int at_),some (.int j)] g X λfl g=>JC fl (lk λu=>Q u g):=λj c0 c1=>by
  have ce:=xH (at_:=at_) c0;have cl:(0:Int)<xs.length:=by omega
  let⟨m1,m2⟩:=gF (at_:=at_) c0;simp?[F,B,jG,c1,Z1,cl,Z,R,fF F m1 (by simpa using m2),<-List.map_set]
  exact h _ _ (O3 _ ()) (Ox _ Z) (Fr.set1 ⟨xs,at_,Wa,F,B⟩ _)
 have Sd:∀j:Int,(1000000000000000000<=j->0<xs.length)->0<=j->wpS J d [(.Zu (.cmp .ge (.L 4) (.ZR .pow (.ZW (.int 10)) (.ZW (.int 18)))) [(.sub (.L 2) (.ZR .mod (.L 3) (.bi .len [(.L 2)])) (.ZR .fdiv (.L 4) (.L 1))),(.ret (.ZR .mod (.L 4) (.L 1)))] []),(.sub (.L 0) (.ZW (.int 1)) (.ZR .add (.L 3) (.ZW (.int 1)))),(.sub (.L 0) (.ZW (.int 2)) (.ZR .mod (.ZR .add (.ZR .add (.ZR .add (.ZR .mul (.idx (.L 0) (.ZW (.int 2))) (.ZW (.int 48271))) (.ZR .mul (.L 4) (.ZW (.int 9973)))) (.ZR .mul (.L 3) (.ZW (.int 31)))) (.ZW (.int 11))) (.ZW (.int 2147483647)))),(.ret (.ZR .mod (.ZR .fdiv (.ZR .mod (.ZR .mul (.idx (.L 0) (.ZW (.int 2))) (.ZW (.int 69621))) (.ZW (.int 2147483629))) (.ZW (.int 64))) (.L 1)))] [some (.ref 2),some (.int m),some (.ref 1),some (.int at_),some (.int j)] g X λfl g=>JC fl (lk λu=>Q u g):=λj c0 c1=>by
  by_cases c2:1000000000000000000<=j
  .exact big_ j (c0 c2) c2
  .exact QS j c1 c2
 refine af (λk1=>?_) λk1=>?_
 .have k1:0<xs.length:=by simpa using k1
  have cl:(0:Int)<xs.length:=by omega
  simp?[F,Z1,cl,v7 k1];refine af (λk2=>?_) λk2=>?_
  .have z:=Sd (1-CH xs at_) (λ_=>k1) (by simp![Vw]at k2;omega)
   simp?[eq_self]at z ⊢;exact z
  .have z:=Sd (CH xs at_) (λ_=>k1) (by simp![Pg]at k2;omega)
   simp?[eq_self]at z ⊢;exact z
 .have z:=Sd 0 (λz=>absurd z (by decide)) (by decide)
  simp?[eq_self]at z ⊢;exact z
def By:List Plan:=[⟨1,1,2⟩,⟨1,1,4⟩,⟨2,1,2⟩,⟨1,2,2⟩,⟨2,2,2⟩,⟨1,1,4⟩,⟨3,1,2⟩,⟨1,3,2⟩,⟨2,1,4⟩,⟨1,2,4⟩,⟨3,2,2⟩,⟨1,1,8⟩]
def yj{P:Plan}(h:P∈By):P.ok:=by
 simp![By,Vh,NC,or_false]at h;rcases h with rfl|rfl|rfl|rfl|rfl|rfl|rfl|rfl|rfl|rfl|rfl|rfl<;>exact⟨by simp,by simp,by simp⟩
def tK(hb:Bag g)(h:∀(P:Plan) (g':G),P∈By->Fr g g'->Q (Zo P) g'):Jo J (d+2) 19 [.ref 2] g X Q:=by
 simp? only[Em]
 simp?;refine zW (aj ai) ai (by decide) ?_
 simp?;refine aO hb.app.app.app (by decide) (by decide) λr g1 L F f1=>?_
 have B:=f1.get _ _ (by have:=hb.len;simp![Ww,Uc,Qn];omega) ai
 let⟨P,z,u⟩:=d9 (l:=By) (f:=Zo) L (by exact F)
 have j:g1[(g++[Z9.Z5 ((By.take 6).map Zo)]++[Z9.Z5 ((By.drop 6).map Zo)]).length]?=some (.Z5 (By.map Zo)):=B;have fr:Fr g g1:=by
  refine Fr.trans ?_ f1;rw[VO,VO];exact Fr.app hb
 revert j;simp![Ww,Uc,Qn];intro j;simp?[j,u,Ww];exact h P g1 z fr
def tz(i:P.ok)(h:BU g ((A5 P).map uP) Q):Jo J (d+1) 20 [Zo P] g X Q:=by
 have h0:=i.s0;have h1:=i.ss;have hw:=i.ws;have hd:=i.ds;have t:Am (P.w*P.s+1)=true:=a0 () ()
 have r:Am (P.d*P.s+1)=true:=a0 () ()
 have hl:=fb i;simp? only[D9]
 simp?[*];refine b8 ((JM (P.w*P.s+1)).map U.int) (λk O b=>(∃o1 c,O=[some (Zo P),some (.ref g.length),o1,c])/\b=g++[.Z5 ((((JM (P.w*P.s+1)).take k).flatMap λx=>(JM (P.d*P.s+1)).map λy=>((x,y):Pt)).map uP)]) (λk O b _=>cv) (λk u O b hk e=>?_) (λO b e=>?_) _ 0 _ _ (Pb _) ⟨⟨none,none,rfl⟩,rfl⟩
 .obtain ⟨⟨o1,c,rfl⟩,rfl⟩:=e
  simp![VV,Vu]at hk;let⟨x,p,rfl⟩:=hk;simp?[*];refine b8 ((JM (P.d*P.s+1)).map U.int) (λj O b=>(∃c,O=[some (Zo P),some (.ref g.length),some (.int x),c])/\b=g++[.Z5 (((((JM (P.w*P.s+1)).take k).flatMap λx=>(JM (P.d*P.s+1)).map λy=>((x,y):Pt))++(((JM (P.d*P.s+1)).take j).map λy=>((x,y):Pt))).map uP)]) (λk O b _=>cv) (λj u O b n e=>?_) (λO b e=>?_) _ 0 _ _ (Pb _) ⟨⟨c,rfl⟩,by simp⟩
  .obtain ⟨⟨c,rfl⟩,rfl⟩:=e
   simp![VV,Vu]at n;let⟨y,o,rfl⟩:=n;have z:=List.length_take_le k (JM (P.w*P.s+1));have m:((((JM (P.w*P.s+1)).take k).flatMap λx=>(JM (P.d*P.s+1)).map λy=>((x,y):Pt))++(((JM (P.d*P.s+1)).take j).map λy=>((x,y):Pt))).length<=700:=by
    have a1:=fM (f:=λx=>(JM (P.d*P.s+1)).map λy=>((x,y):Pt)) (B:=25) (l:=(JM (P.w*P.s+1)).take k) λa _=>by simp[bA];omega
    have q:((JM (P.w*P.s+1)).take k).length<=25:=by rw[U1,bA];omega
    have v:=Nat.mul_le_mul_right 25 q;rw[Ww,Z1,U1,bA];omega
   simp?[ai,uq (show(List.map uP ((((JM (P.w*P.s+1)).take k).flatMap λx=>(JM (P.d*P.s+1)).map λy=>((x,y):Pt))++(((JM (P.d*P.s+1)).take j).map λy=>((x,y):Pt)))).length<16777000 by rw[Z1];omega)]
   refine⟨⟨_,rfl⟩,?_⟩;rw[N2,o];simp
  .obtain ⟨⟨c,rfl⟩,rfl⟩:=e
   simp?;refine⟨⟨_,_,rfl⟩,?_⟩;rw[N2,p];simp
 .obtain ⟨⟨o1,c,rfl⟩,rfl⟩:=e
  simp?;refine h _ _ (Hx _) ?_;simp[A5]
def hZ(b:P.ok)(h:Q (.bl (Ax P p)) g):Jo J (d+1) 21 [Zo P,uP p] g X Q:=by
 have h0:=b.s0;simp? only[D7]
 simp?[*];simp![Ax]at h;refine af (λa=>?_) λa=>by simp?[*];simpa[a]using h
 simp?[*];simpa[a]using h
def fc(b:P.ok)(h:BU g ((Ad P).map uP) Q):Jo J (d+2) 22 [Zo P] g X Q:=by
 have hl:=fb b;simp? only[Eo]
 simp?;refine tz b λi n l f=>?_;simp?[*];refine bF (A5 P) uP (λp=>!Ax P p) uP (λa=>a=g++i) ((Ad P).map uP) rfl (λk a e=>by rw[e,aL f]) (λp j=>?_) () rfl ?_
 .simp?
  rintro a rfl;refine hZ b ?_;simp?;refine af (λc=>?_) λc=>?_<;>simp?[*]
 .rintro a rfl
  have hf:=Qk (λp=>!Ax P p) (A5 P);exact dI h (by rw[Z1];unfold Ad;omega)
def uS(a:P.ok)(h:Q (.bl (Ar P p)) g):Jo J (d+1) 23 [Zo P,uP p] g X Q:=by
 have h1:=a.ss;simp? only[Ex]
 simp?[h1];unfold Ar at h
 (repeat' (refine af (λ_=>?_) (λ_=>?_)<;>(try simp?[bg, *])))
 all_goals simp_all
def il(h:Q (.int (stride p)) g):Jo J (d+1) 24 [uP p] g X Q:=by
 simp? only[Ej]
 simp?;unfold stride at h
 (repeat' (refine af (λ_=>?_) (λ_=>?_)<;>(try simp?[bg, *])))
 all_goals simp_all
def tD(h:Q (.bl (A7 p)) g):Jo J (d+2) 25 [uP p] g X Q:=by
 have s0:=(cf p).1;have sb:=dE p;simp? only[Ea]
 simp?;refine il ?_;simp?[s0,sb];unfold A7 at h
 (repeat' (refine af (λ_=>?_) (λ_=>?_)<;>(try simp?[bg, *])))
 all_goals simp_all
def tB(h:∀gs n i j,(g++gs)[n]?=some (.Z5 [.ref i,.ref j])->(g++gs)[i]?=some (.Z5 [uP (Av p).1.1,uP (Av p).1.2])->(g++gs)[j]?=some (.Z5 [uP (Av p).2.1,uP (Av p).2.2])->Q (.ref n) (g++gs)):Jo J (d+3) 26 [uP p] g X Q:=by
 have s0:=(cf p).1;have s1:0<2*stride p:=by omega
 have sb:=jo p;have u:=dE p;have ss:=ic p;simp? only[D8]
 simp?;refine il ?_;simp?[s0,s1,sb,u,ss];refine tD ?_;simp?[s0,s1,sb,u,ss];refine af (λk1=>?_) λk1=>?_
 .have ev:=vc k1
  simp?[s0,s1,sb,u,ss];refine af (λk2=>?_) λk2=>?_
  .have k3:=ev.mp (by simpa using k2)
   simp?[s0,s1,sb,u,ss];exact dW (i:=2) (j:=3) h (by simp[Av,k1,Bv,k3,rising]) (by simp[Av,k1,Bv,k3,falling]) (by simp) (by simp)
  .have k3:=mt ev.mpr (by simpa using k2)
   simp?[s0,s1,sb,u,ss];exact dW (i:=3) (j:=2) h (by simp[Av,k1,Bv,k3,falling]) (by simp[Av,k1,Bv,k3,rising]) (by simp) (by simp)
 .simp? [s0,s1,sb,u,ss]
  refine af (λk2=>?_) λk2=>?_
  .have k3:p.1 / stride p % 2=1:=by simpa using k2
   simp?[s0,s1,sb,u,ss];exact dW (i:=0) (j:=1) h (by simp[Av,k1,Bx,k3,lying]) (by simp[Av,k1,Bx,k3,upright]) (by simp) (by simp)
  .have k3 : ¬ p.1 / stride p % 2=1:=by simpa using k2
   simp?[s0,s1,sb,u,ss];exact dW (i:=1) (j:=0) h (by simp[Av,k1,Bx,k3,upright]) (by simp[Av,k1,Bx,k3,lying]) (by simp) (by simp)
def iD(z:P.ok)(h:BU g ((JO P p).map uP) Q):Jo J (d+4) 27 [Zo P,uP p] g X Q:=by
 simp? only[Ep]
 simp?;refine tB λF n i j L G B=>?_;simp?[L,G,B];refine bF [(Av p).2.1,(Av p).2.2] uP (λq=>Ar P q&&!Ax P q) uP (λu=>u=g++F) ((JO P p).map uP) rfl (λk u e=>by rw[e];exact aL B) (λq R=>?_) (by simp) rfl ?_
 .simp?
  rintro u rfl;refine uS z ?_;simp?;refine af (λk1=>?_) λk1=>?_
  .simp?
   refine hZ z ?_;simp?[k1];refine af (λk2=>?_) λk2=>?_<;>simp?[k1,k2]
  .simp? [k1,Na]
 .rintro u rfl
  have hl:=bH P p;exact dI h (by rw[Z1];omega)
def tw(hM:P∈Ay)(hP:P.ok)(hn:g[n]?=some (.Z5 (l.map uP)))(hl:l.length<=700)(hc:Cuts P l)
  (h:∀(g':G) (m:Nat),Old g g'->g.length<=m->g'[m]?=some (.Z5 ((Af P l).map uP))->Q (.ref m) g'):Jo J (d+5) 28 [Zo P,.ref n] g X Q:=by
 simp? only[Eb]
 simp?[aj hn];refine gT (λm O g'=>∃(j W:List Pt) (o:Option U),Old g g'/\g'[g.length]?=some (.ZF (DS j))/\g'[g.length+1]?=some (.Z5 (W.map uP))/\j.Nodup/\(∀p∈j,XA P l p)/\(∀p∈W,XA P l p)/\(∀p∈l,p∈j\/p∈W)/\(∀p∈j,∀q∈JO P p,q∈j\/q∈W)/\W.length<=700+2*j.length/\3*(77-j.length)+W.length=m/\O=[some (Zo P),some (.ref n),some (.ref g.length),some (.ref (g.length+1)),o]) ?_ (3*(77-0)+l.length) _ _ ⟨[],l,none,Old.app.more,by simp[JU],by simp,.nil,(λp B=>nomatch B),(λp B=>.base B),(λp B=>.inr B),(λp B=>nomatch B),by simpa using hl,rfl,by simp⟩
 rintro m O g' ⟨j,W,o,ho,e1,L,nd,R,Z,hL,hC,hw,hm,rfl⟩;have hk:Cuts P j:=λp B=>(R p B).cut hc;have hk77:=hk.len hM nd;rcases List.eq_nil_or_concat W with Se|⟨W',p,rfl⟩
 .subst Se
  have same:Al j=Af P l:=jN hc λq=>⟨R q,oz (λp B=>(hL p B).resolve_right λz=>nomatch z) λp B q u=>(hC p B q u).resolve_right λz=>nomatch z⟩;simp?[L,Qn,Int.natCast_zero,lD (.inl e1) nd ()]
  rw[same];exact h _ _ ho.more (ho.len) ai
 .have ne:(W'.concat p).map uP=W'.map uP++[uP p]:=by simp
  rw[ne]at L;have lw:(W'.concat p).length=W'.length+1:=by simp
  have F:XA P l p:=Z p (by simp)
  have hpc:p∈Ad P:=F.cut hc;have mem:∀q,q∈W'.concat p↔q∈W'\/q=p:=λq=>by simp
  have pop:=iP L;have o2:Old g (g'.set (g.length+1) (.Z5 (W'.map uP))):=ho.set ()
  have S:(g'.set (g.length+1) (.Z5 (W'.map uP)))[g.length]?=some (.ZF (DS j)):=aU () e1
  have e4:(g'.set (g.length+1) (.Z5 (W'.map uP)))[g.length+1]?=some (.Z5 (W'.map uP)):=aG L;have Vv:=gD (p:=p) (.inl S);have lp2:(0:Int)<((W'.map uP).length+1:Nat):=by omega
  simp?[L,Ww,lp2,pop,↓Vv];refine af (λk1=>?_) λk1=>?_
  .replace k1:p ∉ j:=by simpa using k1
   have YJ:j.length+1<=77:=by
    have:=Cuts.len hM (l:=j++[p]) (λq u=>by rcases Vj.mp u with z|z;exact hk q z;rw[V2.mp z];exact hpc) (ll nd k1)
    simpa using this
   have sb:∀O,subAt (.ref g.length) (uP p) (.bl true) O (g'.set (g.length+1) (.Z5 (W'.map uP)))=.ok (.nx O) ((g'.set (g.length+1) (.Z5 (W'.map uP))).set g.length (.ZF (DS (JY j p)))):=λO=>by
    rw[jg S gO (by unfold DS JU;rw[Z1];omega),show AM (p.1,p.2)=AM p from rfl,fZ]
   simp?[sb];generalize TK:(g'.set (g.length+1) (.Z5 (W'.map uP))).set g.length (.ZF (DS (JY j p)))=g3;have o3:Old g g3:=by rw[<-TK];exact o2.set (Hx _)
   have e5:g3[g.length]?=some (.ZF (DS (JY j p))):=by rw[<-TK];exact aG S
   have e6:g3[g.length+1]?=some (.Z5 (W'.map uP)):=by rw[<-TK];exact aU () e4
   simp?[e6];refine iD hP λgs n3 WA e7=>?_;have Zc:=bH P p;have ext:=jq (aj (gs:=gs) e6) e7 (by rw[Z1,Z1];omega)
   simp?[ext];have la:=yU k1;refine⟨_,?_,JY j p,W'++JO P p,_,(o3.more).set (),aU () (aj e5),?_,gA nd,λq u=>?_,λq u=>?_,λq u=>?_,λr hr q u=>?_,?_,rfl,rfl⟩
   .rw [Ww];omega
   .rw [Ph];exact aG (aj e6)
   .rcases bq.mp u with rfl|z
    .exact F
    .exact R q z
   .rcases Vj.mp u with z|z
    .exact Z q ((mem q).mpr (.inl z))
    .exact .step F z
   .rcases hL q u with z|z
    .exact .inl (bq.mpr (.inr z))
    .rcases (mem q).mp z with z|z
     .exact .inr (Vj.mpr (.inl z))
     .exact .inl (bq.mpr (.inl z))
   .rcases bq.mp hr with rfl|z
    .exact .inr (Vj.mpr (.inr u))
    .rcases hC r z q u with y|y
     .exact .inl (bq.mpr (.inr y))
     .rcases (mem q).mp y with y|y
      .exact .inr (Vj.mpr (.inl y))
      .exact .inl (bq.mpr (.inl y))
   .rw [Ww];omega
  .replace k1:p∈j:=by simpa using k1
   simp?;refine⟨_,?_,j,W',_,o2,S,e4,nd,R,λq u=>Z q ((mem q).mpr (.inl u)),λq u=>?_,λr hr q u=>?_,by omega,rfl,rfl⟩
   .omega
   .rcases hL q u with z|z
    .exact .inl z
    .rcases (mem q).mp z with z|z
     .exact .inr z
     .exact .inl (by rw[z];exact k1)
   .rcases hC r hr q u with z|z
    .exact .inl z
    .rcases (mem q).mp z with z|z
     .exact .inr z
     .exact .inl (by rw[z];exact k1)
def tF(hM:P∈Ay)(hP:P.ok)(hb:Bag g)(h:∀(g':G) (m:Nat) (l:List Pt),Fr g g'->g.length<=m->g'[m]?=some (.Z5 (l.map uP))->Cuts P l->l.length<=77->Q (.ref m) g'):Jo J (d+3) 29 [.ref 2,Zo P] g X Q:=by
 have h77:=(eM hM).2.2;have Sj:0<(Ad P).length:=by
  have:(Ay.all λP=>Nat.blt 0 (Ad P).length)=true:=by decide +kernel
  exact Nat.blt_eq.mp (Tc.mp this P hM)
 have self:Cuts P (Ad P):=λp F=>F;simp? only[Eg]
 simp?;refine fc hP λgs n1 Yp e1=>?_;have S:3<=n1:=Hv hb.len Yp;simp?;refine aO hb.app (by decide) (by decide) λr g2 r0 r1 f2=>?_
 have Z:Fr g g2:=(Fr.app hb).trans f2;have R:=f2.get _ _ S e1;have SU:g.length<=g2.length:=Z.len;have pick:∀(m:Int),0<m->m<1000 ->∀(c:Int->Bool) (g3:G),Fr g2 g3->True:=λ_ _ _ _ _ _=>trivial;simp?;refine af (λk1=>?_) λk1=>?_
 .simp?
  exact h _ _ [] (Z.trans (Fr.app f2.YW)) SU ai (λp F=>nomatch F) (by simp)
 simp?;refine af (λk2=>?_) λk2=>?_
 .simp?
  exact h _ _ _ Z Yp R self h77
 simp?;refine af (λk3=>?_) λk3=>?_
 .simp? [R]
  refine ee ((Ad P).map uP) (λv=>∃p,v=uP p/\p∈Ad P) (λg'=>Fr g2 g') (λk g' f=>aL (f.get _ _ S R)) (λu L=>?_) ((Ad P).map uP).length 0 [] _ (Pb _) (by rw[Z1];unfold Ab;simp;omega) (Fr.refl f2.YW) λvs g' JV l2 j=>?_
  .obtain ⟨p,F,rfl⟩:=Ud.mp L
   simp?;intro g' j;refine aO j.YW (by decide) (by decide) λr g4 r0 r1 B=>?_
   simp?;refine af (λk4=>?_) λk4=>?_
   .simp?
    exact⟨j.trans B,λ_=>⟨⟨p,rfl,F⟩,j.trans B⟩⟩
   .simp?
    exact⟨j.trans B,λz=>by cases z⟩
  .obtain ⟨ps,rfl,Wb⟩:=eD l2
   rw[Z1,Z1]at JV;refine⟨by rw[Pq,Z1];omega,?_⟩
   rw[Pq];exact h _ _ ps ((Z.trans j).trans (Fr.app j.YW)) (Hv SU j.len) ai Wb ()
 simp?;refine af (λk4=>?_) λk4=>?_
 .simp? [R]
  refine ee ((Ad P).map uP) (λv=>∃p,v=uP p/\p∈Ad P) (λg'=>Fr g2 g') (λk g' f=>aL (f.get _ _ S R)) (λu L=>?_) ((Ad P).map uP).length 0 [] _ (Pb _) (by rw[Z1];unfold Ab;simp;omega) (Fr.refl f2.YW) λvs g' JV l2 j=>?_
  .obtain ⟨p,F,rfl⟩:=Ud.mp L
   simp?;intro g' j;refine aO j.YW (by decide) (by decide) λr g4 r0 r1 B=>?_
   simp?;refine af (λk4=>?_) λk4=>?_
   .simp?
    exact⟨j.trans B,λ_=>⟨⟨p,rfl,F⟩,j.trans B⟩⟩
   .simp?
    exact⟨j.trans B,λz=>by cases z⟩
  .obtain ⟨ps,rfl,Wb⟩:=eD l2
   rw[Z1,Z1]at JV;refine⟨by rw[Pq,Z1];omega,?_⟩
   rw[Pq];exact h _ _ ps ((Z.trans j).trans (Fr.app j.YW)) (Hv SU j.len) ai Wb ()
 simp?;refine aO f2.YW (by decide) (by decide) λr3 g3 s0 s1 j=>?_
 have e3:=j.get _ _ S R;have rr:Am (1+r3)=true:=a0 () ()
 simp?[rr];refine aav ((JM (1+r3)).map U.int) (λv=>∃p,v=uP p/\p∈Ad P) (λg'=>Fr g2 g') (λk g' f=>cv) (λu L=>?_) (by rw[Z1,bA];omega) j λvs g' JV l2 B=>?_
 .obtain ⟨kk,hk,rfl⟩:=Ud.mp L
  simp?;intro g' B;have e4:=B.get _ _ S R;simp?[e4,Z1];refine aO B.YW () () λr5 g5 t0 t1 f5=>?_
  let⟨p,F,L⟩:=d9 (f:=uP) t0 t1;simp?[f5.get _ _ S e4,L];exact⟨⟨p,rfl,F⟩,B.trans f5⟩
 .obtain ⟨ps,rfl,Wb⟩:=eD l2
  rw[Z1,Z1,bA]at JV;refine⟨by rw[Z1];omega,?_⟩
  exact h _ _ ps ((Z.trans B).trans (Fr.app B.YW)) (Hv SU B.len) ai Wb ()
def tQ(R:P∈Ay)(L:P.ok)(hn:g[n]?=some (.Z5 (l.map uP)))(F:l.length<=300)(hc:Cuts P l)(B:p∈Ad P)
  (S:∀g',Old g g'->p ∉ Af P l->Q (.ZY [.str (PySem.Str.ofString "refused"),uP p,.bl true,.bl false]) g')
  (h:∀(g':G) (m:Nat) (r:List Pt),Old g g'->g.length<=m->g'[m]?=some (.Z5 ((p::r).map uP))->p∈Af P l->Br P (p::r)->Cuts P (p::r)->(p::r).length<=8->(∃z,(p::r).getLast? = some z/\z∈l)->Q (.ref m) g'):Jo J (d+11) 30 [Zo P,.ref n,uP p] g X Q:=by
 simp? only[Ek]
 simp?;refine abu ?_;simp?;refine ab3 R L hn F hc B (λg' o k=>?_) λg' m r o j e k1 k2 k3 u k5=>?_
 .exact ⟨rfl,rfl,_,rfl,S g' o k⟩
 .exact h g' m r o j e k1 k2 k3 u k5
def tJ{r:List Pt}(hP:P.ok)(hn:g[n]?=some (.Z5 (l.map uP)))(Z:g[m]?=some (.Z5 ((p::r).map uP)))(ha:Br P (p::r))(hc:Cuts P (p::r))(hl:(p::r).length<=8)(hz:∃z,(p::r).getLast? = some z/\z∈l)(h:∀g',Old g g'->Q (.bl true) g'):Jo J (d+6) 31 [Zo P,.ref n,uP p,.ref m] g X Q:=by
 have WI:r.length+1<=8:=hl;have VE:g[m]?=some (.Z5 (uP p::r.map uP)):=Z;simp? only[Ef]
 have n0 : ¬ ((r.map uP).length+1:Nat)=(0:Int):=by omega
 have n9 : ¬ (9:Int)<((r.map uP).length+1:Nat):=by rw[Z1];omega
 simp?[VE,n0,n9];refine eZ 2 (JN p) _ _ _ sX eQ eQ ?_;have rr:(Am 1&&Am (((r.map uP).length+1:Nat):Int))=true:=by
  rw[Yx];exact⟨a0 (by decide) (by decide),a0 () (by rw[Z1];omega)⟩
 have nx:∀(k:Nat) (g':G),next (.YY 1 ((((r.map uP).length+1:Nat):Int)-1).toNat) k g'=some (((List.range r.length).map λ(i:Nat)=>U.int (1+(i:Int)))[k]?):=λk g'=>by
  have e:((((r.map uP).length+1:Nat):Int)-1).toNat=r.length:=by rw[Z1];omega
  rw[e];simp![next,VV];by_cases hk:k<r.length
  .rw [Y2 hk,O7 hk];rfl
  .rw [YH hk,Pm (by simpa using hk)];rfl
 simp?[VE,rr];refine eP ((List.range r.length).map λ(i:Nat)=>U.int (1+(i:Int))) (λk O g'=>Old g g' /\∃o,O=[some (Zo P),some (.ref n),some (uP p),some (.ref m),o]) (λk O g' _=>nx k g') ⟨Old.refl,_,rfl⟩ (λk u O g' hk hI=>?_) (λO g' hI=>?_)
 .obtain ⟨ho,o,rfl⟩:=hI
  have j:k<r.length:=by
   have:=(YE.mp hk).1;simpa using this
  rw[VV,O7 j]at hk;cases hk;have F:IQ ((p::r).map uP) (1+(k:Int))=some (uP r[k]):=by
   rw[b6 () (by rw[Z1,Uc];omega),show(1+(k:Int)).toNat=k+1 by omega]
   simp[j]
  have B:IQ ((p::r).map uP) (1+(k:Int)-1)=some (uP ((p::r)[k]'(by simp;omega))):=by
   rw[b6 () (by rw[Z1,Uc];omega),show(1+(k:Int)-1).toNat=k by omega,VV,Xn (by simp;omega)]
   rfl
  have R:r[k]∈Ad P:=hc _ (Hy _ (QJ j));have Sb:(p::r)[k]'(by simp;omega)∈JO P r[k]:=nO ha (Xn (by simp;omega)) (by simp[j])
  have Yq:g'[m]?=some (.Z5 ((p::r).map uP)):=ho.get Z;generalize(p::r)[k]'(by simp;omega)=a at B Sb
  generalize r[k]=b at F R Sb;replace F:IQ (uP p::r.map uP) (1+(k:Int))=some (uP b):=F;replace B:IQ (uP p::r.map uP) (1+(k:Int)-1)=some (uP a):=B;simp?[Yq,F];refine fc hP λgs1 n1 Yp e1=>?_;have o1:=ho.more (gs:=gs1);have S:=o1.get Z;simp?[e1,b9,R,S,F];refine eZ 2 (JN b) _ _ _ sX eQ eQ ?_;simp?[S,F,B];refine iD hP λgs2 n2 XW e2=>?_;simp?[e2,b9,Sb];exact⟨o1.more,_,rfl⟩
 .obtain ⟨ho,o,rfl⟩:=hI
  let⟨z,L,Xe⟩:=hz;have Yq:g'[m]?=some (.Z5 ((p::r).map uP)):=ho.get Z;have XW:=ho.get hn;have es:p::r=(p::r).dropLast++[z]:=by
   have h0:p::r≠[]:=λz=>nomatch z;rw[List.getLast?_eq_some_getLast h0]at L;rw[<-TQ L,List.dropLast_concat_getLast h0]
  have ul:IQ ((p::r).map uP) (-1)=some (uP z):=by rw[es,Ph];exact jW
  replace ul:IQ (uP p::r.map uP) (-1)=some (uP z):=ul;simp?[Yq,ul,XW,b9,Xe];exact h _ ho
def law_ok(ns:List Int):Jo J (d+13) 32 [.Zy (ns.map U.int)] [] X λu _=>u=.bl true:=by
 simp? only[E5]
 simp?;refine uA ns λzs=>?_;have hb:Bag [.Z5 (zs.map U.int),.Z5 (zs.map U.int),Bf 1 0 7]:=⟨zs,0,7,rfl,rfl⟩;revert hb;generalize([.Z5 (zs.map U.int),.Z5 (zs.map U.int),Bf 1 0 7]:G)=g0;intro hb;simp?;refine tK hb λP g1 S f1=>?_;have hP:=yj S;have S:P∈Ay:=S;have h1:=f1.YW.len;have hl:=u5 hP;simp?;refine tF S hP f1.YW λg2 m1 l f2 lm1 e2 hc WI=>?_;simp?;refine tw S hP e2 () hc λg3 m2 o3 lm2 e3=>?_
 have l2:=f2.YW.len;simp?;refine fc hP λgs4 m3 lm3 e4=>?_;have l3:=o3.len;have kc:Cuts P (Af P l):=cb;have l77:=kc.len S jh;have h77:=(eM S).2.2;have Sj:0<(Ad P).length:=by
  have:(Ay.all λP=>Nat.blt 0 (Ad P).length)=true:=by decide +kernel
  exact Nat.blt_eq.mp (Tc.mp this P S)
 have r3:Am 3=true:=a0 (by decide) (by decide)
 have main:∀(q:Pt) (R:G) (o7 z B:Option U),q∈Ad P->Bag R->R[m1]?=some (.Z5 (l.map uP))->R[m2]?=some (.Z5 ((Af P l).map uP))->R[m3]?=some (.Z5 ((Ad P).map uP)) ->∀K:Fl->G->Prop,(∀(j:G) (z B:Option U),Bag j->j[m1]?=some (.Z5 (l.map uP))->j[m2]?=some (.Z5 ((Af P l).map uP))->j[m3]?=some (.Z5 ((Ad P).map uP))->K (.nx [some (.Zy (ns.map U.int)),some (.ref 2),some (Zo P),some (.ref m1),some (.ref m2),some (.ref m3),some (.bl true),o7,some (uP q),z,B]) j)->wpS J (d+12) [(.set (.nm 9) (.bi .list [(.L 3)])),(.set (.nm 10) (.call 30 [(.L 2),(.L 9),(.L 8)])),(.set (.nm 6) (.and (.L 6) (.cmp .eq (.L 9) (.L 3)))),(.Zu (.cmp .WO (.L 8) (.L 4)) [(.set (.nm 6) (.and (.L 6) (.call 31 [(.L 2),(.L 3),(.L 8),(.L 10)])))] [(.set (.nm 6) (.and (.L 6) (.call 16 [(.L 10),(.ZY [(.ZW (.str (PySem.Str.ofString "refused"))),(.L 8),(.ZW (.bl true)),(.ZW (.bl false))])])))])] [some (.Zy (ns.map U.int)),some (.ref 2),some (Zo P),some (.ref m1),some (.ref m2),some (.ref m3),some (.bl true),o7,some (uP q),z,B] R X K:=λq R o7 z B hq hbg k1 k2 k3 K hK=>by
  simp?[k1];refine tQ S hP ai () hc hq (λg5 o5 Xj=>?_) λg5 m5 r o5 lm5 e5 Xi ha hcr hlr hz=>?_
  .have F:Old R g5:=Old.app.trans o5
   have b5:Bag g5:=(F.fr hbg).YW;have e8:=o5.get (ai (g:=R) (o:=Z9.Z5 (l.map uP)));simp?[rp e8 (F.get k1),sW,F.get k2,b9,Xj];refine eZ 3 (.ZY [.str (PySem.Str.ofString "refused"),JN q,.bl true,.bl false]) _ _ _ (by simp[Dt.ok,JN]) (by simp[Rep,Reps,JN]) (by simp[Rep,Reps,JN]) ?_
   simp?;exact hK _ _ _ b5 (F.get k1) (F.get k2) (F.get k3)
  .have F:Old R g5:=Old.app.trans o5
   have e8:=o5.get (ai (g:=R) (o:=Z9.Z5 (l.map uP)));simp?[rp e8 (F.get k1),sW,F.get k2,b9,Xi];refine tJ hP (F.get k1) e5 ha hcr hlr hz λg6 o7'=>?_;have Z:=F.trans o7';simp?;exact hK _ _ _ (Z.fr hbg).YW (Z.get k1) (Z.get k2) (Z.get k3)
 simp?[r3];refine eP ((JM 3).map U.int) (λk O j=>Bag j/\j[m1]?=some (.Z5 (l.map uP))/\j[m2]?=some (.Z5 ((Af P l).map uP))/\j[m3]?=some (.Z5 ((Ad P).map uP)) /\∃o7 Z z B,O=[some (.Zy (ns.map U.int)),some (.ref 2),some (Zo P),some (.ref m1),some (.ref m2),some (.ref m3),some (.bl true),o7,Z,z,B]) (λk O j _=>cv) ⟨((o3.more (gs:=gs4)).fr f2.YW).YW,(o3.more (gs:=gs4)).get e2,aj e3,e4,_,_,_,_,rfl⟩ (λk u O j hk hI=>?_) (λO j hI=>?_)
 .obtain ⟨Y7,k1,k2,k3,o7,Z,z,B,rfl⟩:=hI
  simp![VV,Vu]at hk;let⟨kk,_,rfl⟩:=hk;simp?[k3,Z1];refine aO Y7 () () λr g5 r0 r1 f5=>?_
  let⟨q,hq,hu⟩:=d9 (f:=uP) r0 r1;have j1:=f5.get _ _ () k1
  have j2:=f5.get _ _ () k2
  have j3:=f5.get _ _ () k3
  simp?[j3,hu,j2,Z1];refine af (λc1=>?_) λc1=>?_
  .have c1:0<(Af P l).length:=by simpa using c1
   simp?;refine aO f5.YW (by decide) (by decide) λr6 g6 s0 s1 f6=>?_
   have i1:=f6.get _ _ () j1
   have i2:=f6.get _ _ () j2
   have i3:=f6.get _ _ () j3
   simp?;refine af (λc2=>?_) λc2=>?_
   .refine wp_mono (Q:=λf g=>∃q2:Pt,q2∈Ad P/\Bag g/\g[m1]?=some (.Z5 (l.map uP))/\g[m2]?=some (.Z5 ((Af P l).map uP))/\g[m3]?=some (.Z5 ((Ad P).map uP))/\f=.nx [some (.Zy (ns.map U.int)),some (.ref 2),some (Zo P),some (.ref m1),some (.ref m2),some (.ref m3),some (.bl true),some (.int kk),some (uP q2),z,B]) ?_ ?_
    .show wpS _ _ _ _ _ _ _
     simp?[i2,Z1];refine aO f6.YW () () λr7 g7 t0 t1 f7=>?_
     let⟨q2,hq2,XH⟩:=d9 (f:=uP) t0 t1;have y2:=f7.get _ _ () i2
     simp?[y2,XH];exact⟨q2,kc q2 hq2,f7.YW,f7.get _ _ () i1,f7.get _ _ () i3,rfl⟩
    .rintro f g ⟨q2,hq2,b,y1,y2,y3,rfl⟩
     simp![↓cD];exact main q2 g _ _ _ hq2 b y1 y2 y3 _ λj z B b1 b2 b3 b4=>⟨b1,b2,b3,b4,_,_,_,_,rfl⟩
   .simp only [↓eO,↓cD]
    exact main q g6 _ _ _ hq f6.YW i1 i2 i3 _ λj z B b1 b2 b3 b4=>⟨b1,b2,b3,b4,_,_,_,_,rfl⟩
  .simp only [↓gZ,↓hY,↓eO,↓cD]
   exact main q g5 _ _ _ hq f5.YW j1 j2 j3 _ λj z B b1 b2 b3 b4=>⟨b1,b2,b3,b4,_,_,_,_,rfl⟩
 .obtain ⟨Y7,k1,k2,k3,o7,Z,z,B,rfl⟩:=hI
  simp?
end
def run(ns:List Int)(h:ns.length<=63):∃fu g',Aa J fu 40 32 [.Zy (ns.map U.int)] []=.ok (.bl true) g':=by
 let⟨fu,u,g',e,q⟩:=yd (law_ok (d:=27) (X:=λ_ _ _=>False) ns);subst q;exact⟨fu,g',e⟩
end
end ZD
open PySem PySem.W PyProof.Rows
theorem PySem.Challenge.cw_braemantle_k17_chains_that_ask_holds : PySem.Challenge.rw_braemantle_k17_chains_that_ask.Holds := by
 refine PI.zQ (l:=PySem.Challenge.rw_braemantle_k17_chains_that_ask) (T:=ZD.T) (is:=ZD.Bg) (J:=ZD.J) (loose:=ZD.loose) (d:=40) (i:=32) (N:=20000) (x:="_law_script") (by kernel_rfl) ZD.all (by kernel_rfl) (by kernel_rfl) (by kernel_rfl) (by kernel_rfl) (by kernel_rfl) ⟨rfl,rfl,rfl,rfl,rfl,by decide +kernel⟩ ?hw rfl ⟨rfl,by decide,by decide,rfl⟩ rfl rfl ZD.run
 case hw=>w_witness2
