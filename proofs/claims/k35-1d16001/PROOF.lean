import PyProof.Rows.All
import Wide.All
import OpenK.AllK
import Wide.FinOn
import Lean
import PyProof.EqAt
import PyProof.EqKinds
import PyProof.TupleCall
import PyProof.AutoListH
import PyProof.ExcBaseAll.ValueError
import PyProof.ExcAttrAll.ValueError
import PyProof.Logic
import PyProof.StrReplace2
import KE.KDflt
import PySem.Challenge.RW_roadsettings_k35_values_set
open PySem.W renaming Frag→Qa, nsIn→Qp, findIn→Qv, mg_none_of→QN, looks_findIn→QO, kia_one→QT, emptyDict→Gh, mg_of→Gx, instObj→Gy, Looks→GE, keepIn→GH, callWith_K→Jh, codeHdIn→JD, fnOf→JR, methodCall_KW→JZ, plainGet→Pd, plainGet_of→PH, lookIn→Tg, kitOne→Th, methodObj→Tq, hasDictIn→Ts, isFn→Sl, cellsFrom_some→So, takerIn→Su, makesIn→Sv, OpenLaw→Sy, codeIn→SU, codeHd_of_K→Rc, kdv_tup→Rt, callWith_K0→Rx, kla_makeFunctionHit→Ry, tabObj→RZ, kla_fn→Oa, plainOver→Oj, kitx_list→Om, kitx_dict→On, kla_callFunE→OA, kla_codeExpr→OB, handedIn→OJ, kla_makeFunction→OR
open PySem renaming Value→Qb, Shared→Qd, wpAny_bind→Qf, Program→Qi, sizeLine→Qj, mainGlobals→Ql, FuncData→Qn, wpAny→Qq, model→Qt, World→Qu, wpAny_pure→Qx, Around→Qz, starEach→QA, wpAny_loadPart_at→QG, wpAny_mono→QP, wpAny_Call_Name_kw→QR, boot_len→QU, sizeLine_eq→QV, typeLookup→QX, rawInt→Gb, codeAny_mono→Ge, wpAny_holding→Gf, wpAny_isSubtype_exc→Gk, checkBuiltinCall→Gr, wpAny_truthy_bool→Gw, wpAny_standAt→GD, backTo→GG, tupleKind_room_in1→GI, compareOp→GK, wpAny_passesOwn→GL, foldedSetIterable→GN, keywordEach→GO, strIterType→GP, codeAny_call_builtin→GQ, excClassObj→GS, sysModules→GU, mem_of_lookup→GW, Arguments→GY, wpAny_getItem_str_slice→GZ, wpAny_call→Jg, behindInMarks→Jl, attributeBase→Jm, Builtin→Jq, codeAny→Jw, NameKind→JB, sliceBounds→JJ, bootBuiltins→JL, holding→JM, binaryOp→JN, backToKw→JQ, plainObj_wpAny_Assign_Attribute→JY, wpAny_loadName_local→Pm, wpAny_newFunctionEnv→Ps, wpAny_execs_nil→Pu, letOwnedTupleGo→Px, post_val_or_str→PD, codeAny_builtin→PF, BindsTo→PQ, call_meetsIn→PR, tupleKind→PZ, swapsWith→Ta, getMethod→Tb, builtinsNs→Tc, assignEach→Te, bindArgs→Ti, wpAny_newFunctionEnv_cells→Tj, bindName→Tl, standAt→Tr, wpAny_newObj_type→Tv, wpAny_field→TD, Paired→TJ, wpAny_comprehension_free→TK, wpAny_execs_cons→TQ, cLine→TV, callWith→TW, Keyword→Sn, PyData→Sq, wpAny_isTrue_Compare1→SH, assign→SO, Result→SQ, recursionLimit→SS, subscripted→SV, lookup_relabel_local→SX, wpAny_of_eq→Rb, wpAny_bindName→Rg, wpAny_setField→Rk, unbindBehindTheSuite→Rl, callerA→Rn, valueAt→Ro, Fin→Rp, codeAmong→Rq, wpAny_loadName_cell→Ru, wpAny_Tuple_spliced→Rw, wpAt_of_wpAny→Rz, Model→RB, assignInOrder→RD, wpAny_Name→RO, wpAny_Constant_int→RP, wpAny_pyIter_tuple→RQ, call_meets→RV, getattributeRaised→Ob, defaultsOf→Od, Within→Of, GenState→Og, wpAny_assign_Name→Oh, wpAny_evalAll_nil→Op, getItem→Oq, seqIndex_neg→Os, slot_list_getitem→Ot, wpAny_Call_method→Ov, wpAny_pyIter_strU→Ow, wpAny_pyIter_enum→Ox, wpAny_typeOf→OC, wpAny_lookBehind→OL, pastItsLine_dict→OM, take_succ_filter→OX, wpAny_madeBy_exc→OY, bindL→Ng, seqIndex_of→Nh, atKey→Ni, call_tuple_list→Nk, codeAny_of_tree→No, wpAt_bind→Nr, makeFunction_eq→Nt
open PySem.Heap renaming get?_push_of_some→Qe, lt_size→Qh, get?_push_size→Qo, get?_update_other→Gi, get?_update_self→Jo, get?_none_of_le→Jt, size_push→Jv, size_after_update→JX, get?_update_ne→PL, size_update→Sb, SameBut→Sg, get?_push_ne→Oz, get?_push_at→OH
open Nat renaming le_refl→Qg, le_trans→Qr, ne_of_lt→Qy, lt_of_lt_of_le→QB, zero_le→QC, lt_of_le_of_lt→QK, not_lt→QS, le_of_lt→Gu, sub_self→GB, lt_irrefl→GC, le_succ→Jc, ne_of_gt→Jd, le_of_eq→Je, lt_succ_of_lt→JW, lt_succ_self→TU, pow_le_pow_right→SZ, log2_lt→Ra, mul_le_mul_right→Rj, min_self→Oy, pow_zero→OF, mod_eq_of_lt→OU, le_add_right→OV, mod_one→Nj, min_le_left→Nq
open List renaming getElem?_eq_some_iff→Qk, getElem?_zip_eq_some→Gn, lookup→Gv, take_of_length_le→GA, replicate→GX, length_eq_zero_iff→Ja, getElem?_cons_succ→Jb, length_singleton→Jp, pairwise_iff_getElem→Jy, filterMap_cons→Jz, length→JI, take_add_one→JU, pairwise_map→JV, length_replicate→Pa, mem_iff_getElem?→Pb, range→Pc, getElem_mem→Pf, not_mem_nil→Pg, mem_append_left→Pj, getElem?_set_ne→Pk, length_nil→Pz, map_congr_left→PJ, mem_map_of_mem→PM, filterMap_nil→Tk, mem_take_iff_getElem→Tp, take_sublist→Tt, flatMap_cons→Tw, nodup_append→Tx, getElem?_set→Tz, length_drop→TX, take_length→Sa, getElem?_set_self→Sj, length_zip→Sz, all_append→SD, length_filter_le→SK, mem_of_mem_drop→Rh, mem_of_mem_take→Ri, any_cons→RF, set_comm→RI, sum_cons→RJ, all_cons→RL, getElem?_drop→RX, zip_nil_right→Oe, map_nil→Ou, append_assoc→OD, map_set→OE, all_nil→OG, cons_append→OP, any_eq_true→OT, filter_cons→OW, isEmpty_nil→Nb, forIn_cons→Nm, foldl_cons→Nn, mem_range→Nv
open PySem.Value renaming ref→Qm, none→QW, bool→GF, builtin→JE, str→PY, int→Rm, type→RN, float→Nc
open Sum renaming inr→Qs, inl→QQ
open PySem.Str renaming ofString→Qw
open Or renaming inl→QD, inr→SW
open Option.some renaming inj→QE
open False renaming elim→QF
open Bool renaming false_ne_true→QH, and_eq_true→QJ, false_eq_true→Gq, not_eq_true'→GR, eq_iff_iff→Py, or_eq_true→PB, or_true→Sr, and_true→RM
open PySem.F renaming plainAttrs_list→QI, slot_list_append→QL, type_list_append→QM, slot_dict_get→Go, excBase_ValueError→GJ, entry_dict_get→Jj, typeOf_object_class→Jr, store_ValueError→JF, plainAttrs_dict→JK, attrBase_ValueError→PX, slot_tuple_getattribute→To, args_dict_get_2→TY, args_dict_get_3→TZ, slot_dict_items→Sd, slot_list_count→Se, slot_list_index→Sf, plainAttrs_str→Ss, type_dict_get→SI, slot_str_join→SM, type_str_join→SN
open PySem.Obj renaming mapSeq→QY, mapFields→Gd, data_mapFields→Tn, isFreed_of_fields→SL
open Array renaming getElem?_eq_some_iff→QZ, length_toList→GV, getElem?_toList→SJ, toArray_toList→Re
open PySem.Builtin.Str renaming reprChar→Ga, strSliceIndices→PU
open Option renaming map_eq_some_iff→Gc, map_some→GM, isSome_iff_exists→JC, isSome_map→Tu, getD_none→OO
open Ne renaming symm→Gg
open PyProof.Rows renaming seqObj→Gj, assignInOrder_cons→JG, subscriptTail_builtinR→JS, envOfC→Pe, StrsAre→Pi, AllBare→PN, callWith_type1→PP, signs_ofString→PV, listUpdate_at→TM, get?_update_seq→Sw, Constant_none→RC, subscriptTail→RE, arrOf→RH, Subscript_→RT, slot_tuple_getitem→RU, size_push'→RY, assignInOrder_nil→Oi, callWith_builtin1→ON, IsTup→Nf, IntsAre→Nu
open PySem.PassesOwn renaming never→Gm
open True renaming intro→Gp
open Int renaming emod_lt_of_pos→Gs, emod_nonneg→Gz, fdiv_eq_ediv_of_nonneg→Ju, fmod_eq_emod_of_nonneg→Tf
open PySem.Paired renaming length→GT
open PySem.Calls renaming spliced_cons→Jf, callWith_builtin→Ji, spliced_nil→JP, evalArgs_plain→Pr, Name_function_global→Td, call_len_list→Rv
open ForInStep renaming yield→Jk
open PySem.NameKind renaming free→Jn
open Sum.inr renaming inj→Js
open PySem.PyData renaming shown→Jx, hasDictAll→JT, shownAll→SE, depthAll→SG, hasDict→SY, showableAll→Oc, tuple→OI
open PySem.Heap.SameBut renaming update→JA
open PySem.Code renaming quiet_builtin→JH, isFrame→Oo
open ToString renaming toString→JO
open PySem.Builtin.ObjectAttr renaming storeInDict→Ph, newKeyGuard→OZ
open PySem.Around renaming frames_deeper→Po, under→Sm, under_plainId→Rf
open PySem.Challenge renaming pw_roadsettings_k35_values_set→TN
open PySem.Builtin.Dict renaming updateFrom→Sc
open PyProof renaming noPylong_small→Sk
open PySem.EntryCells renaming newEntry→RA
open PySem.Shared renaming TypeIs→RG
open PySem.P renaming str_of_int→RS, str_of_str→RW
open PySem.Heap.Ns1 renaming of_empty→Ol
open LawfulMonad renaming pure_bind→OQ
open List.Perm renaming nil_eq→OS
open PySem.W.Looks renaming ld→Na
open PySem.Heap.DictOf renaming new→Nl
open Array.Perm renaming refl→Np
set_option Elab.async false
set_option linter.all false
set_option maxRecDepth 100000
set_option maxHeartbeats 4000000
open List (all_eq_true append_nil contains_cons eq_nil_of_length_eq_zero find?_cons getD_eq_getElem?_getD getElem?_append_left getElem?_append_right getElem?_eq_getElem getElem?_map length_append length_cons length_map length_set length_take lookup_cons map_append map_cons map_map mem_append mem_append_right mem_cons mem_cons_of_mem mem_cons_self mem_filter mem_filterMap mem_map mem_of_getElem? mem_singleton nodup_cons of_mem_zip size_toArray)
local macro_rules | `(tactic| omega) => `(tactic| lia)
namespace L2
open PySem PySem.Spec PyProof.Rows
abbrev Zo:=Sum Int Str
def Ve:Zo->Qb->Bool
 | .inl k,v=>Value.isInt k v
 | .inr x,v=>Value.isStrOf x v
def keyH (w:Qu):Zo->Int
 | .inl k=>hashInt k
 | .inr x=>hashStr w x
theorem Yk:∀{k:Zo}{v:Qb},Ve k v=true->(∃ i t,k=QQ i/\v=Rm i t)\/(∃ x t,k=Qs x/\v=PY x t)
 | .inl i,v,h=>by
  obtain ⟨t,e⟩:=Value.isInt_shape (k:=i) (v:=v) h
  exact .inl ⟨i,t,rfl,e⟩
 | .inr x,v,h=>by
  obtain ⟨t,e⟩:=Value.isStrOf_shape (x:=x) (v:=v) h
  exact .inr ⟨x,t,rfl,e⟩
theorem ZhJ (i:Int)(t:Tok):Ve (.inl i) (.int i t)=true:=by simp [Ve,Value.isInt]
theorem ZhK (x:Str)(t:Tok):Ve (.inr x) (.str x t)=true:=by simp [Ve,Value.isStrOf]
theorem ZmH (a b:Int):decide ((QQ a:Zo)=QQ b)=(a == b):=by
 by_cases e:a=b
 ·subst e;simp
 ·have h:¬ (QQ a:Zo)=QQ b:=fun q=>e (Sum.inl.inj q)
  rw [decide_eq_false h]
  exact (beq_eq_false_iff_ne.mpr e).symm
theorem ZmK (a b:Str):decide ((Qs a:Zo)=Qs b)=decide (a=b):=by
 by_cases e:a=b
 ·subst e;simp
 ·have h:¬ (Qs a:Zo)=Qs b:=fun q=>e (Js q)
  rw [decide_eq_false h,decide_eq_false e]
theorem ZmI (a:Int)(b:Str):decide ((QQ a:Zo)=Qs b)=false:=decide_eq_false (fun q=>nomatch q)
theorem ZmJ (a:Str)(b:Int):decide ((Qs a:Zo)=QQ b)=false:=decide_eq_false (fun q=>nomatch q)
def ZG (prog:Qi)(w:Qu):PySem.KeyKind prog w Zo where
 is:=Ve
 hash:=keyH w
 inj := fun v a b ha hb=>by
  rcases Yk ha with ⟨i,t,rfl,rfl⟩ | ⟨x,t,rfl,rfl⟩
  ·rcases Yk hb with ⟨j,u,rfl,e⟩ | ⟨y,u,rfl,e⟩
   ·injection e with e1 _;rw [e1]
   ·exact nomatch e
  ·rcases Yk hb with ⟨j,u,rfl,e⟩ | ⟨y,u,rfl,e⟩
   ·exact nomatch e
   ·injection e with e1 _;rw [e1]
 byValue:=fun k v h=>by
  rcases Yk h with ⟨i,t,rfl,rfl⟩ | ⟨x,t,rfl,rfl⟩<;>rfl
 pyHash:=fun hv h=>by
  rcases Yk hv with ⟨i,t,rfl,rfl⟩ | ⟨x,t,rfl,rfl⟩
  ·exact wpAny_pyHash_int h
  ·exact wpAny_pyHash_str h
 eqBool:=fun hu hv h=>by
  rcases Yk hu with ⟨i,t,rfl,rfl⟩ | ⟨x,t,rfl,rfl⟩
  ·rcases Yk hv with ⟨j,u,rfl,rfl⟩ | ⟨y,u,rfl,rfl⟩
   ·rw [ZmH] at h;exact wpAny_eqBool_int h
   ·rw [ZmI] at h;exact SeqAt.EqAt.int_str i t y u _ _ _ _ h
  ·rcases Yk hv with ⟨j,u,rfl,rfl⟩ | ⟨y,u,rfl,rfl⟩
   ·rw [ZmJ] at h;exact SeqAt.EqAt.str_int x t j u _ _ _ _ h
   ·rw [ZmK] at h;exact wpAny_eqBool_str h
 «strs»:=fun k x t v h=>by
  rcases Yk h with ⟨i,u,rfl,e⟩ | ⟨y,u,rfl,e⟩
  ·exact nomatch e
  ·injection e with e1 _
   subst e1
   cases v<;>rfl
theorem Zby (prog:Qi)(w:Qu)(k:Zo)(v:Qb):(ZG prog w).is k v=Ve k v:=rfl
theorem ZeM (prog:Qi)(w:Qu)(i:Int)(t:Tok):(ZG prog w).is (.inl i) (.int i t)=true:=ZhJ i t
theorem ZaD (prog:Qi)(w:Qu)(x:Str)(t:Tok):(ZG prog w).is (.inr x) (.str x t)=true:=ZhK x t
inductive V where
 | non | bl (b:Bool) | int (i:Int) | str (x:Str) | byt (b:Array UInt8) | flt (b:UInt64) | ref (a:Addr) | ty (n:String)
 deriving DecidableEq
def RelV:V->Qb->Prop
 | .non,u=>u=QW
 | .bl b,u=>u=GF b
 | .int i,u=>∃ t,u=Rm i t
 | .str x,u=>∃ t,u=PY x t
 | .byt b,u=>∃ t,u=Value.bytes b t
 | .flt b,u=>∃ t,u=Nc b t
 | .ref a,u=>u=Qm a
 | .ty n,u=>u=RN n
abbrev Vals:List V->List Qb->Prop:=TJ RelV
theorem Vals.length {xs:List V}{us:List Qb}(r:Vals xs us):xs.length=us.length:=GT r
theorem Vals.get:∀{xs:List V}{us:List Qb}{i:Nat}{x:V},Vals xs us->xs[i]?=some x->∃ u,us[i]?=some u/\RelV x u
 | _,_,_,_,.nil,e=>by simp at e
 | _,_,0,_,.cons r _,e=>by simp at e;subst e;exact ⟨_,rfl,r⟩
 | _,_,i+1,x,.cons _ t,e=>by
  obtain ⟨u,h1,h2⟩:=Vals.get (i:=i) (x:=x) t (by simpa using e)
  exact ⟨u,by simpa using h1,h2⟩
theorem Vals.set {x:V}{u:Qb}(r:RelV x u):∀{xs:List V}{us:List Qb}(i:Nat),Vals xs us->Vals (xs.set i x) (us.set i u)
 | _,_,_,.nil=>.nil
 | _,_,0,.cons _ t=>.cons r t
 | _,_,i+1,.cons q t=>.cons q (Vals.set r i t)
theorem Vals.append:∀{xs ys:List V}{us B:List Qb},Vals xs us->Vals ys B->Vals (xs++ys) (us++B)
 | _,_,_,_,.nil,s=>s
 | _,_,_,_,.cons r t,s=>.cons r (Vals.append t s)
theorem Vals.take:∀{xs:List V}{us:List Qb}(n:Nat),Vals xs us->Vals (xs.take n) (us.take n)
 | _,_,0,_=>.nil
 | _,_,_+1,.nil=>.nil
 | _,_,n+1,.cons r t=>.cons r (Vals.take n t)
theorem Vals.drop:∀{xs:List V}{us:List Qb}(n:Nat),Vals xs us->Vals (xs.drop n) (us.drop n)
 | _,_,0,r=>r
 | _,_,_+1,.nil=>.nil
 | _,_,n+1,.cons _ t=>Vals.drop n t
def RelO:Option V->Option Qb->Prop
 | some v,some u=>RelV v u
 | none,none=>True
 | _,_=>False
def KV {κ:Type}:List (κ×V)->List (κ×Qb)->Prop:=TJ fun (p:κ×V) (q:κ×Qb)=>p.1=q.1/\RelV p.2 q.2
def kV:Zo->V
 | .inl i=>.int i
 | .inr x=>.str x
inductive HO where
 | lst (xs:List V)
 | tup (xs:List V)
 | dK (kvs:List (Zo×V)) | dT (kvs:List (List Zo×V))
 | set (S:Int->Bool) (n:Nat)
 | ins (C dx:Addr) (fs:List (Str×V))
 | own (x:Addr)
 | xd (fs:List (Str×V))
 | met (f x:Addr)
 | rng (lo hi:Int)
 | frz (o:Obj) (u:HO)
 | tbl (ps:Array Qb)
 | ext (φ:Heap->Prop)
abbrev Hp:=Addr->Option HO
def upd (H:Hp)(a:Addr)(o:HO):Hp:=fun b=>if b=a then some o else H b
theorem Zf {H:Hp}{a:Addr}{o:HO}:upd H a o a=some o:=by unfold upd;rw [if_pos rfl]
theorem Zg {H:Hp}{a b:Addr}{o:HO}(h:b≠a):upd H a o b=H b:=by unfold upd;rw [if_neg h]
theorem ZbA {H:Hp}{a b:Addr}{o u:HO}(h:H a=some o)(h':H b=some u)(d:o≠u):a≠b:=by
 intro e;subst e;rw [h] at h';exact d (QE h')
theorem Zr {H:Hp}{a b:Addr}{o:HO}(h:H a=some o)(h':H b=none):a≠b:=by
 intro e;subst e;rw [h] at h';cases h'
section
variable (P:Qi)(w:Qu)
def ObjOk (H:Hp)(h:Heap)(a:Addr):HO->Prop
 | .lst xs=>xs.length<=Qj/\∃ (its:List Qb) (n:Nat),Vals xs its/\h.get? a=some { cls:=.type "list",data:=.seq its.toArray n }
 | .tup xs=>xs.length<=Qj/\∃ its:List Qb,Vals xs its/\Nf h a its.toArray
 | .dK kvs=>kvs.length<=Qj/\(a == GU)=false/\∃ vs,KV kvs vs/\h.DictOf (ZG P w) a vs
 | .dT kvs=>kvs.length<=Qj/\(a == GU)=false/\∃ xs:List (List Zo×Addr×Qb),
     TJ (fun (p:List Zo×V) (q:List Zo×Addr×Qb)=>p.1=q.1/\H q.2.1=some (.tup (p.1.map kV))/\RelV p.2 q.2.2) kvs xs /\
     ∃ o es ep,h.get? a=some o/\o.ExactDict/\o.data=.dict es ep/\es.toList=xs.map (entryOfKey (PZ (ZG P w)))/\(xs.map (·.1)).Nodup
 | .set S n=>h.SetOf (intKind P w) a S n
 | .ins C dx fs=>H dx=some (.own a)/\fs.length<=1000/\dx≠a/\h.get? a=some (Gy C dx) /\
     ∃ mA,h.Ns1 dx mA/\(∀ f,RelO (fs.lookup f) (mA f))/\Of mA (fs.map (·.1))
 | .own _=>∃ o,h.get? a=some o
 | .xd fs=>∃ mA,h.Ns1 a mA/\∀ f,RelO (fs.lookup f) (mA f)
 | .rng lo hi=>∃ t u v,h.get? a=some { cls:=.type "range",data:=.fields #[.int lo t,.int hi u,.int 1 v] }
 | .frz o u=>h.get? a=some o/\ObjOk H h a u
 | .tbl ps=>h.get? a=some { cls:=.none,data:=.fields ps }
 | .met f x=>h.get? a=some (Tq (.ref f) (.ref x))
 | .ext φ=>φ h/\(∃ o,h.get? a=some o)/\∀ h1 h2:Heap,φ h1->(∀ o,h1.get? a=some o->h2.get? a=some o)->φ h2
def HOk (H:Hp)(h:Heap):Prop:=∀ a o,H a=some o->ObjOk P w H h a o
end
section
variable {P:Qi}{w:Qu}{H H':Hp}{h h':Heap}{a:Addr}{o:HO}
theorem ObjOk.lt (x:ObjOk P w H h a o):a < h.objs.size:=by
 cases o with
 | lst xs=>obtain ⟨_,_,_,_,e⟩:=x;exact Qh e
 | tup xs=>obtain ⟨_,_,_,p⟩:=x;exact p.lt
 | dK kvs=>obtain ⟨_,_,_,_,o,_,_,e,_⟩:=x;exact Qh e
 | dT kvs=>obtain ⟨_,_,_,_,o,_,_,e,_⟩:=x;exact Qh e
 | set S n=>obtain ⟨o,_,_,_,e,_⟩:=x;exact Qh e
 | ins C dx fs=>obtain ⟨_,_,_,e,_⟩:=x;exact Qh e
 | own y=>obtain ⟨_,e⟩:=x;exact Qh e
 | xd fs=>obtain ⟨_,⟨_,_,_,e,_⟩,_⟩:=x;exact Qh e
 | rng lo hi=>obtain ⟨_,_,_,e⟩:=x;exact Qh e
 | frz ob u=>obtain ⟨e,_⟩:=x;exact Qh e
 | tbl ps=>exact Qh (show h.get? a=some _ from x)
 | met f y=>exact Qh (show h.get? a=some _ from x)
 | ext φ=>obtain ⟨_,⟨_,e⟩,_⟩:=x;exact Qh e
theorem TJ.mapP {S J:Type}{F G:S->J->Prop}:∀{I:List S}{B:List J},TJ F I B->(∀ a b,F a b->G a b)->TJ G I B
 | _,_,.nil,_=>.nil
 | _,_,.cons r t,f=>.cons (f _ _ r) (TJ.mapP t f)
theorem ObjOk.stay (x:ObjOk P w H h a o)(k:∀ b u,(b=a\/H b=some (.own a))->h.get? b=some u->h'.get? b=some u)
 (W:∀ b,H b=some (.own a)->H' b=some (.own a)) (U:∀ b xs,H b=some (.tup xs)->H' b=some (.tup xs)):ObjOk P w H' h' a o:=by
 induction o with
 | lst xs=>obtain ⟨z,G,n,r,e⟩:=x;exact ⟨z,G,n,r,k _ _ (.inl rfl) e⟩
 | tup xs=>obtain ⟨z,G,r,B,e,c⟩:=x;exact ⟨z,G,r,B,k _ _ (.inl rfl) e,c⟩
 | dK kvs=>obtain ⟨z,y,vs,r,B,es,ep,e,c⟩:=x;exact ⟨z,y,vs,r,B,es,ep,k _ _ (.inl rfl) e,c⟩
 | dT kvs =>
  obtain ⟨z,y,xs,r,B,es,ep,e,c⟩:=x
  exact ⟨z,y,xs,TJ.mapP r fun p q z=>⟨z.1,U _ _ z.2.1,z.2.2⟩,B,es,ep,k _ _ (.inl rfl) e,c⟩
 | set S n=>obtain ⟨B,es,ep,t,e,c⟩:=x;exact ⟨B,es,ep,t,k _ _ (.inl rfl) e,c⟩
 | ins C dx fs =>
  obtain ⟨d,z,ne,e,mA,⟨I,es,ep,J,c⟩,r⟩:=x
  exact ⟨W _ d,z,ne,k _ _ (.inl rfl) e,mA,⟨I,es,ep,k _ _ (.inr d) J,c⟩,r⟩
 | own y=>obtain ⟨B,e⟩:=x;exact ⟨B,k _ _ (.inl rfl) e⟩
 | xd fs=>obtain ⟨mA,⟨I,es,ep,e,c⟩,r⟩:=x;exact ⟨mA,⟨I,es,ep,k _ _ (.inl rfl) e,c⟩,r⟩
 | rng lo hi=>obtain ⟨t,u,v,e⟩:=x;exact ⟨t,u,v,k _ _ (.inl rfl) e⟩
 | frz B u ih=>obtain ⟨e,q⟩:=x;exact ⟨k _ _ (.inl rfl) e,ih q⟩
 | tbl ps =>
  have e:h.get? a=some { cls:=.none,data:=.fields ps }:=x
  show h'.get? a=some { cls:=.none,data:=.fields ps }
  exact k a _ (.inl rfl) e
 | met f y =>
  have e:h.get? a=some (Tq (.ref f) (.ref y)):=x
  show h'.get? a=some (Tq (.ref f) (.ref y))
  exact k a _ (.inl rfl) e
 | ext φ=>obtain ⟨p,⟨o,e⟩,st⟩:=x;exact ⟨st _ _ p fun o q=>k _ _ (.inl rfl) q,⟨o,k _ _ (.inl rfl) e⟩,st⟩
theorem HOk.lt (x:HOk P w H h)(e:H a=some o):a < h.objs.size:=(x a o e).lt
theorem HOk.fresh (x:HOk P w H h)(e:h.objs.size<=a):H a=none:=by
 cases q:H a with
 | none=>rfl
 | some u=>exact absurd (QB (x.lt q) e) (GC _)
theorem HOk.kept (x:HOk P w H h)(k:∀ b u,h.get? b=some u->h'.get? b=some u):HOk P w H h':=fun a o e =>
 (x a o e).stay (fun b u _ q=>k b u q) (fun _ q=>q) fun _ _ q=>q
theorem HOk.laid (x:HOk P w H h)(k:∀ b u,h.get? b=some u->h'.get? b=some u)(hp:h.objs.size<=a)(new:ObjOk P w (upd H a o) h' a o):HOk P w (upd H a o) h':=fun b u e=>by
 have B:=x.fresh hp
 by_cases hb:b=a
 ·subst hb;rw [Zf] at e;cases e;exact new
 ·rw [Zg hb] at e
  exact (x b u e).stay (fun c v _ q=>k c v q) (fun c q=>by rw [Zg (Zr q B)];exact q) fun c xs q=>by rw [Zg (Zr q B)];exact q
end
def Rd (H:Hp)(a:Addr)(u:HO):Prop:=H a=some u\/∃ o,H a=some (.frz o u)
theorem Rd.ok {P:Qi}{w:Qu}{H:Hp}{h:Heap}{a:Addr}{u:HO}(r:Rd H a u)(x:HOk P w H h):ObjOk P w H h a u:=by
 rcases r with r | ⟨o,r⟩
 ·exact x a u r
 ·obtain ⟨_,q⟩:=x a _ r
  exact q
def Mut:Option HO->Prop
 | some (.lst _)=>True
 | some (.dK _)=>True
 | some (.dT _)=>True
 | some (.set _ _)=>True
 | some (.ins _ _ _)=>True
 | some (.ext _)=>True
 | _=>False
section
variable {P:Qi}{w:Qu}{H:Hp}{h h':Heap}{x e:Addr}{o':HO}
theorem HOk.write (ok:HOk P w H h)(J:Mut (H x))(W:e=x\/H e=some (.own x))(k:∀ b u,b≠e->h.get? b=some u->h'.get? b=some u)(S:∃ u,h'.get? e=some u)
 (new:ObjOk P w (upd H x o') h' x o'):HOk P w (upd H x o') h':=fun b u q=>by
 have G:∀ c y,H c=some (.own y)->c≠x:=fun c y r z=>by subst z;rw [r] at J;exact J
 have I:∀ c xs,H c=some (.tup xs)->c≠x:=fun c xs r z=>by subst z;rw [r] at J;exact J
 by_cases hb:b=x
 ·subst hb;rw [Zf] at q;cases q;exact new
 ·rw [Zg hb] at q
  by_cases B:b=e
  ·have U:H b=some (.own x):=by
    rcases W with z | z
    ·exact absurd (B.trans z) hb
    ·rw [B];exact z
   rw [q] at U;cases U
   obtain ⟨v,Z⟩:=S
   exact ⟨v,by rw [B];exact Z⟩
  ·refine (ok b u q).stay (fun c v hc r=>k c v ?_ r) (fun c r=>by rw [Zg (G c b r)];exact r) fun c xs r=>by rw [Zg (I c xs r)];exact r
   rcases hc with rfl | hc
   ·exact B
   ·rintro rfl
    rcases W with z | z
    ·exact G c b hc z
    ·rw [hc] at z;cases z;exact hb rfl
end
structure Un (fs ex:List Addr)(H H':Hp)(h h':Heap):Prop where
 keep:∀ b o,h.get? b=some o->H b=none->b ∉ fs->b ∉ ex->h'.get? b=some o
 slot:∀ b o,h.get? b=some o->H b=none->b∈fs->b ∉ ex->∃ sl,h'.get? b=some { o with slots:=sl }
 free:∀ b o,h.get? b=some o->H b=none->b ∉ ex->H' b=none
 there:∀ b o,h.get? b=some o->b ∉ ex->∃ o',h'.get? b=some o'
 tups:∀ b xs,H b=some (.tup xs)->H' b=some (.tup xs)
 frzs:∀ b o u,H b=some (.frz o u)->H' b=some (.frz o u)
 tbls:∀ b ps,H b=some (.tbl ps)->∃ more,H' b=some (.tbl (ps++more))
section
variable {fs fs' ex ex':List Addr}{H H1 H2:Hp}{h h1 h2 h':Heap}{a x e:Addr}{o:HO}
theorem Un.any (u:Un fs ex H H1 h h1){b:Addr}{B:Obj}(q:h.get? b=some B)(n:H b=none)(G:b ∉ ex):∃ I,h1.get? b=some { B with slots:=I }:=by
 by_cases hb:b∈fs
 ·exact u.slot b B q n hb G
 ·exact ⟨B.slots,u.keep b B q n hb G⟩
theorem Un.kept (k:∀ b u,h.get? b=some u->h'.get? b=some u):Un fs ex H H h h' :=
 ⟨fun b B q _ _ _=>k b B q,fun b B q _ _ _=>⟨B.slots,k b B q⟩,fun _ _ _ n _=>n,fun b B q _=>⟨B,k b B q⟩,fun _ _ q=>q,fun _ _ _ q=>q,fun _ ps q=>⟨#[],by rw [q];simp⟩⟩
theorem Un.refl:Un fs ex H H h h:=Un.kept fun _ _ q=>q
theorem Un.laid (k:∀ b u,h.get? b=some u->h'.get? b=some u)(hp:h.objs.size<=a)(B:H a=none):Un fs ex H (upd H a o) h h' where
 keep:=fun b u q _ _ _=>k b u q
 slot:=fun b u q _ _ _=>⟨u.slots,k b u q⟩
 free:=fun b u q n _=>by rw [Zg (Qy (QB (Qh q) hp))];exact n
 there:=fun b u q _=>⟨u,k b u q⟩
 tups:=fun b xs q=>by rw [Zg (Zr q B)];exact q
 frzs:=fun b u xs q=>by rw [Zg (Zr q B)];exact q
 tbls:=fun b ps q=>⟨#[],by rw [Zg (Zr q B),q];simp⟩
theorem Un.write (G:Mut (H x))(U:e=x\/H e=some (.own x))(k:∀ b u,b≠e->h.get? b=some u->h'.get? b=some u)(J:∃ u,h'.get? e=some u):Un fs ex H (upd H x o) h h':=by
 have S:∀ b,H b=none->b≠x:=fun b n z=>by subst z;rw [n] at G;exact G
 have hb:∀ b,H b=none->b≠e:=fun b n z=>by
  subst z
  rcases U with r | r
  ·exact S b n r
  ·rw [n] at r;cases r
 have I:∀ b u,H b=some u->¬ Mut (some u)->b≠x:=fun b u q nm z=>by subst z;rw [q] at G;exact nm G
 refine ⟨fun b u q n _ _=>k b u (hb b n) q,fun b u q n _ _=>⟨u.slots,k b u (hb b n) q⟩,fun b u q n _=>by rw [Zg (S b n)];exact n,fun b u q _=>?_,
  fun b xs q=>by rw [Zg (I b _ q fun z=>z)];exact q,fun b u xs q=>by rw [Zg (I b _ q fun z=>z)];exact q,fun b ps q=>⟨#[],by rw [Zg (I b _ q fun z=>z),q];simp⟩⟩
 by_cases B:b=e
 ·subst B;exact J
 ·exact ⟨u,k b u B q⟩
end
def trk (h:Heap)(H:Hp):List Addr:=(Pc h.objs.size).filter fun a=>(H a).isSome
def Ut (h:Heap)(H:Hp):Heap:=PySem.W.hideAll h (trk h H)
theorem ZhB (h:Heap)(H:Hp):(Ut h H).objs.size=h.objs.size:=PySem.W.hideAll_size _ _
theorem Zjq {h:Heap}{H:Hp}{b:Addr}{o:Obj}(e:h.get? b=some o)(n:H b=none):(Ut h H).get? b=some o :=
 PySem.W.hideAll_get _ e fun B=>by
  have q:(H b).isSome=true:=(mem_filter.mp B).2
  rw [n] at q;simp at q
theorem Zlf {h:Heap}{H:Hp}{b:Addr}{o:Obj}(e:(Ut h H).get? b=some o):h.get? b=some o/\H b=none:=by
 have B:h.get? b=some o:=PySem.W.of_hideAll (trk h H) e
 refine ⟨B,?_⟩
 cases q:H b with
 | none=>rfl
 | some x =>
  have G:b∈trk h H:=mem_filter.mpr ⟨Nv.mpr (Qh B),by simp [q]⟩
  have z:(Ut h H).get? b=none:=PySem.W.hideAll_none (trk h H) G
  rw [z] at e;cases e
structure Mod (K:Qa)(mg:Str->Option Qb)(base:Heap):Prop where
 kin:K.In base
 glob:base.Ns Ql mg
 blt:∃ mb,base.Ns Tc mb/\∀ x:Str,x≠"__name__"->mb x=JL x
 nolimit:base.NoLimit
structure Cx where
 prog:Qi
 w:Qu
 K:Qa
 mg:Str->Option Qb
 base:Heap
 A:Qz
 N:List Str
 s₀:Qd
 H₀:Hp
 env:Env
 outer:List Env
 stack:List Env
 ex:List Addr
 fn:Str->Bool
 calm:Bool
 pn:List (Addr×Obj)
 xe:Qb->Qd->Prop
def Yx (l:List Env):List Addr:=l.filterMap (·.frame)
abbrev Cx.fs (X:Cx):List Addr:=Yx X.outer
def Vis (sc:Scope)(x:Str):Prop:=sc.names.lookup x=some .local\/sc.names.lookup x=some .cell\/sc.names.lookup x=some .free
def Loc (sc:Scope)(x:Str):Prop:=sc.names.lookup x=some .local\/sc.names.lookup x=some .cell
def Look (env:Env)(h:Heap)(m:Str->Option Qb)(x:Str)(u:Qb):Prop :=
 (env.kindOf x=some .local/\m x=some u)\/((env.kindOf x=some .cell\/env.kindOf x=some .free)/\∃ c,env.cells.lookup x=some c/\h.IsCell c (some u))
structure Cx.Ok (X:Cx):Prop where
 mod:Mod X.K X.mg X.base
 kind:X.env.scope.kind=.function
 glob:X.env.globals=Ql
 blt:X.env.builtins=Tc
 above:X.s₀.heap.objs.size<=X.env.locals
 inj:∀ x y c,X.env.cells.lookup x=some c->X.env.cells.lookup y=some c->x=y
 has:∀ x,(X.env.kindOf x=some .cell\/X.env.kindOf x=some .free)->∃ c,X.env.cells.lookup x=some c
 cab:∀ x c,X.fn x=true->X.env.cells.lookup x=some c->X.s₀.heap.objs.size<=c
 hd:X.calm=true->X.A.handled=none
 frames:X.A.frames=some X.stack
 stk:X.stack=X.outer\/(X.stack=X.env::X.outer/\X.env.frame=some X.env.locals)
 exf:∀ b∈X.ex,b≠X.env.locals/\∀ x c,X.env.cells.lookup x=some c->c≠b
 bs:∀ b o,X.base.get? b=some o->X.s₀.heap.get? b=some o/\X.H₀ b=none
 bsz:X.base.objs.size<=X.s₀.heap.objs.size
 noex:∀ b o,X.base.get? b=some o->b ∉ X.ex
 exfs:∀ b∈X.ex,b ∉ X.fs
 funs:X.s₀.heap.FunFrames X.base X.outer
 frf:∀ b∈X.fs,X.H₀ b=none
structure Inv (X:Cx)(pins:List (Addr×Obj))(σ:List (Option V))(H:Hp)(s:Qd):Prop where
 ok:X.Ok
 os:s.os=X.s₀.os
 bare:PN s.gens
 base:Un X.fs X.ex X.H₀ H X.s₀.heap s.heap
 loc:∃ m,s.heap.Ns X.env.locals m/\∀ (i:Nat) (x:Str) (v:V),X.N[i]?=some x->σ[i]?=some (some v)->Vis X.env.scope x->∃ u,RelV v u/\Look X.env s.heap m x u
 cell:∀ x c,X.env.cells.lookup x=some c->∃ v,s.heap.IsCell c v
 free:H X.env.locals=none
 freeC:∀ x c,X.env.cells.lookup x=some c->H c=none
 pin:∀ p∈X.pn++pins,s.heap.get? p.1=some p.2/\H p.1=none/\p.1≠X.env.locals/\p.1 ∉ X.fs/\∀ v,p.2.data≠.cell v
 hok:HOk X.prog X.w H s.heap
 len:σ.length=X.N.length
section
variable {X:Cx}{pins:List (Addr×Obj)}{σ:List (Option V)}{H H':Hp}{s:Qd}{h':Heap}
theorem Cx.Ok.nofr (ok:X.Ok){b:Addr}{o:Obj}(e:X.base.get? b=some o):b ∉ X.fs:=fun hb=>by
 have:=(ok.funs.mem hb).1
 rw [e] at this;cases this
theorem Inv.bs (I:Inv X pins σ H s):∀ b o,X.base.get? b=some o->s.heap.get? b=some o/\H b=none:=fun b o e =>
 ⟨I.base.keep b o (I.ok.bs b o e).1 (I.ok.bs b o e).2 (I.ok.nofr e) (I.ok.noex b o e),I.base.free b o (I.ok.bs b o e).1 (I.ok.bs b o e).2 (I.ok.noex b o e)⟩
theorem Inv.bk (I:Inv X pins σ H s):∀ b o,X.base.get? b=some o->s.heap.get? b=some o:=fun b o e=>(I.bs b o e).1
theorem Inv.mod (I:Inv X pins σ H s):Mod X.K X.mg X.base:=I.ok.mod
theorem Inv.kIn (I:Inv X pins σ H s):X.K.In s.heap:=I.ok.mod.kin.keeps I.bk
theorem Inv.nolimit (I:Inv X pins σ H s):s.heap.NoLimit:=I.ok.mod.nolimit.keeps I.bk
theorem Inv.lt (I:Inv X pins σ H s):X.env.locals < s.heap.objs.size:=let ⟨_,hn,_⟩:=I.loc;hn.lt
theorem Inv.sz (I:Inv X pins σ H s):X.s₀.heap.objs.size<=s.heap.objs.size:=Qr I.ok.above (Gu I.lt)
theorem Inv.nofs (I:Inv X pins σ H s){a:Addr}(h:s.heap.objs.size<=a):a ∉ X.fs:=fun hb=>by
 obtain ⟨_,o,B,_⟩:=I.ok.funs.mem hb
 exact absurd (QB (Qh B) (Qr I.sz h)) (GC _)
theorem Inv.cne (I:Inv X pins σ H s):∀ x c,X.env.cells.lookup x=some c->c≠X.env.locals:=fun x c e z=>by
 obtain ⟨v,o,S,J⟩:=I.cell x c e
 obtain ⟨m,⟨o',es,ep,G,B,_⟩,_⟩:=I.loc
 rw [z,G] at S;cases S;rw [B] at J;cases J
theorem Inv.funs (I:Inv X pins σ H s):s.heap.FunFrames X.base X.outer:=by
 have all:∀ (l:List Env),(∀ b∈Yx l,b∈X.fs)->X.s₀.heap.FunFrames X.base l->s.heap.FunFrames X.base l:=by
  intro l
  induction l with
  | nil=>intro _ _;trivial
  | cons env r ih =>
   intro J hl
   obtain ⟨Z,⟨L,o,G,S,ho,U⟩,W⟩:=hl
   have B:L∈X.fs:=J L (by unfold Yx;rw [Jz,G];exact mem_cons_self)
   obtain ⟨sl,e⟩:=I.base.slot L o ho (I.ok.frf L B) B fun z=>I.ok.exfs L z B
   exact ⟨Z,⟨L,_,G,S,e,U⟩,ih (fun b hb=>J b (by unfold Yx;rw [Jz,G];exact mem_cons_of_mem _ hb)) W⟩
 exact all X.outer (fun _ hb=>hb) I.ok.funs
theorem Inv.stack (I:Inv X pins σ H s):s.heap.FunFrames X.base X.stack:=by
 rcases I.ok.stk with e | ⟨e,G⟩
 ·rw [e];exact I.funs
 ·rw [e]
  obtain ⟨m,B,_⟩:=I.loc
  refine .cons (by rw [I.ok.kind];decide) G B ?_ I.funs
  exact Jt (Qr I.ok.bsz I.ok.above)
theorem Inv.stkSub (I:Inv X pins σ H s):∀ b∈Yx X.stack,b∈X.env.locals::X.fs:=fun b hb=>by
 rcases I.ok.stk with e | ⟨e,B⟩
 ·rw [e] at hb;exact mem_cons_of_mem _ hb
 ·rw [e] at hb
  unfold Yx at hb
  rw [Jz,B] at hb
  exact hb
theorem Inv.stkFree (I:Inv X pins σ H s):∀ b∈Yx X.stack,H b=none:=fun b hb=>by
 rcases mem_cons.mp (I.stkSub b hb) with e | hb
 ·rw [e];exact I.free
 ·obtain ⟨_,o,B,_⟩:=I.ok.funs.mem hb
  exact I.base.free b o B (I.ok.frf b hb) fun z=>I.ok.exfs b z hb
theorem Inv.step {g':Array Og}{t':Nat}{d':Drawn}{ch:List Addr}(I:Inv X pins σ H s)
 (J:∀ b∈ch,(b∈X.ex\/X.s₀.heap.objs.size<=b)/\b≠X.env.locals/\(∀ x c,X.env.cells.lookup x=some c->c≠b)/\∀ p∈X.pn++pins,p.1≠b)
 (keep:∀ b o,b≠X.env.locals->b ∉ X.fs->b ∉ ch->s.heap.get? b=some o->H b=none->h'.get? b=some o)
 (Z:∀ b o,b≠X.env.locals->b∈X.fs->b ∉ ch->s.heap.get? b=some o->H b=none->∃ sl,h'.get? b=some { o with slots:=sl }) (G:∀ b o,b ∉ ch->s.heap.get? b=some o->H b=none->H' b=none)
 (there:∀ b o,b ∉ ch->s.heap.get? b=some o->∃ o',h'.get? b=some o')
 (tups:∀ b xs,H b=some (.tup xs)->H' b=some (.tup xs)) (frzs:∀ b o u,H b=some (.frz o u)->H' b=some (.frz o u)) (tbls:∀ b ps,H b=some (.tbl ps)->∃ more,H' b=some (.tbl (ps++more)))
 (ns:∀ m,s.heap.Ns X.env.locals m->h'.Ns X.env.locals m) (hok:HOk X.prog X.w H' h') (hg:PN g') :
 Inv X pins σ H' { s with heap:=h',gens:=g',drawn:=d',toks:=t' }:=by
 have neL:∀ b o,X.s₀.heap.get? b=some o->b≠X.env.locals:=fun b o e=>Qy (QB (Qh e) I.ok.above)
 have W:∀ b o,X.s₀.heap.get? b=some o->b ∉ X.ex->b ∉ ch:=fun b o e B hb=>by
  rcases (J b hb).1 with z | z
  ·exact B z
  ·exact absurd (QB (Qh e) z) (GC _)
 have U:∀ x c,X.env.cells.lookup x=some c->∀ v,s.heap.IsCell c v->h'.IsCell c v:=fun x c e v ⟨o,ho,hd⟩=>by
  have S:c ∉ ch:=fun z=>(J c z).2.2.1 x c e rfl
  by_cases hc:c∈X.fs
  ·obtain ⟨sl,q⟩:=Z c o (I.cne x c e) hc S ho (I.freeC x c e)
   exact ⟨_,q,hd⟩
  ·exact ⟨o,keep c o (I.cne x c e) hc S ho (I.freeC x c e),hd⟩
 refine ⟨I.ok,I.os,hg,⟨fun b o e n hb B=>?_,fun b o e n hb B=>?_,fun b o e n B=>?_,fun b o e B=>?_,fun b xs e=>tups b xs (I.base.tups b xs e),fun b o xs e=>frzs b o xs (I.base.frzs b o xs e),fun b ps e=>?_⟩,?_,fun x c e=>?_,?_,fun x c e=>?_,fun p hp=>?_,hok,I.len⟩
 ·exact keep b o (neL b o e) hb (W b o e B) (I.base.keep b o e n hb B) (I.base.free b o e n B)
 ·obtain ⟨sl,e1⟩:=I.base.slot b o e n hb B
  obtain ⟨sl',e2⟩:=Z b _ (neL b o e) hb (W b o e B) e1 (I.base.free b o e n B)
  exact ⟨sl',e2⟩
 ·obtain ⟨o',e1⟩:=I.base.there b o e B
  exact G b o' (W b o e B) e1 (I.base.free b o e n B)
 ·obtain ⟨o',e1⟩:=I.base.there b o e B
  exact there b o' (W b o e B) e1
 ·obtain ⟨m1,e1⟩:=I.base.tbls b ps e
  obtain ⟨m2,e2⟩:=tbls b _ e1
  exact ⟨m1++m2,by rw [e2,Array.append_assoc]⟩
 ·obtain ⟨m,hn,hl⟩:=I.loc
  refine ⟨m,ns m hn,fun i x v e1 e2 e3=>?_⟩
  obtain ⟨u,r,l⟩:=hl i x v e1 e2 e3
  refine ⟨u,r,?_⟩
  rcases l with l | ⟨k,c,e,z⟩
  ·exact .inl l
  ·exact .inr ⟨k,c,e,U x c e _ z⟩
 ·obtain ⟨v,z⟩:=I.cell x c e
  exact ⟨v,U x c e v z⟩
 ·obtain ⟨m,⟨o,_,_,ho,_⟩,_⟩:=I.loc
  exact G _ o (fun z=>(J _ z).2.1 rfl) ho I.free
 ·obtain ⟨v,o,ho,hd⟩:=I.cell x c e
  exact G c o (fun z=>(J c z).2.2.1 x c e rfl) ho (I.freeC x c e)
 ·obtain ⟨e,n,ne,nf,d⟩:=I.pin p hp
  have S:p.1 ∉ ch:=fun z=>(J p.1 z).2.2.2 p hp rfl
  exact ⟨keep p.1 p.2 ne nf S e n,G p.1 p.2 S e n,ne,nf,d⟩
theorem Inv.un {t':Nat}(I:Inv X pins σ H s)(u:Un X.fs [] H H' s.heap h')(hok:HOk X.prog X.w H' h'):Inv X pins σ H' { s with heap:=h',toks:=t' }:=by
 obtain ⟨m,⟨o,es,ep,S,r⟩,_⟩:=id I.loc
 obtain ⟨sl,U⟩:=u.any S I.free (by simp)
 exact I.step (g':=s.gens) (d':=s.drawn) (ch:=[]) (fun _ z=>nomatch z) (fun b o _ hb _ e n=>u.keep b o e n hb (by simp)) (fun b o _ hb _ e n=>u.slot b o e n hb (by simp)) (fun b o _ e n=>u.free b o e n (by simp)) (fun b o _ e=>u.there b o e (by simp)) u.tups u.frzs u.tbls (fun m' Z=>by
  obtain ⟨o',G,J,B,W⟩:=Z
  rw [S] at B;cases B
  exact ⟨_,G,J,U,W⟩) hok I.bare
theorem Inv.call {g':Array Og}{t':Nat}{d':Drawn}{ch:List Addr}(I:Inv X pins σ H s)(u:Un (Yx X.stack) ch H H' s.heap h')(hok:HOk X.prog X.w H' h')(hg:PN g')
 (J:∀ b∈ch,(b∈X.ex\/X.s₀.heap.objs.size<=b)/\b≠X.env.locals/\(∀ x c,X.env.cells.lookup x=some c->c≠b)/\∀ p∈X.pn++pins,p.1≠b) :
 Inv X pins σ H' { s with heap:=h',gens:=g',drawn:=d',toks:=t' }:=by
 obtain ⟨m,⟨o,es,ep,Z,r⟩,_⟩:=id I.loc
 obtain ⟨sl,S⟩:=u.any Z I.free fun z=>(J _ z).2.1 rfl
 exact I.step (ch:=ch) J (fun b o S hb B e n=>u.keep b o e n (fun z=>(mem_cons.mp (I.stkSub b z)).elim S hb) B) (fun b o _ _ B e n=>u.any e n B) (fun b o B e n=>u.free b o e n B) (fun b o B e=>u.there b o e B) u.tups u.frzs u.tbls (fun m' hm=>by
  obtain ⟨o',U,W,G,r'⟩:=hm
  rw [Z] at G;cases G
  exact ⟨_,U,W,S,r'⟩) hok hg
theorem Inv.turned {t':Nat}{B:Addr}(I:Inv X pins σ H s)(k:∀ b o,b≠B->s.heap.get? b=some o->h'.get? b=some o)(U:H B=none)(S:B≠X.env.locals)
 (h1:B∈X.ex\/X.s₀.heap.objs.size<=B) (h2:∀ x c,X.env.cells.lookup x=some c->c≠B) (W:∀ p∈X.pn++pins,p.1≠B):Inv X pins σ H { s with heap:=h',toks:=t' }:=by
 have J:∀ b u,H b=some u->b≠B:=fun b u e z=>by rw [z,U] at e;cases e
 refine I.step (g':=s.gens) (d':=s.drawn) (ch:=[B]) (fun b hb=>?_) (fun b o _ _ G e _=>k b o (fun z=>G (by simp [z])) e) (fun b o _ _ G e _=>⟨o.slots,k b o (fun z=>G (by simp [z])) e⟩) (fun _ _ _ _ n=>n)
  (fun b o G e=>⟨o,k b o (fun z=>G (by simp [z])) e⟩) (fun _ _ e=>e) (fun _ _ _ e=>e) (fun b ps e=>⟨#[],by rw [e];simp⟩) (fun m Z=>?_) (fun b u e=>?_) I.bare
 ·have e:b=B:=by simpa using hb
  subst e
  exact ⟨h1,S,h2,W⟩
 ·obtain ⟨o,es,ep,ho,r⟩:=Z
  exact ⟨o,es,ep,k _ o (Gg S) ho,r⟩
 ·refine (I.hok b u e).stay (fun c v G q=>k c v ?_ q) (fun _ q=>q) fun _ _ q=>q
  rcases G with z | z
  ·rw [z];exact J b u e
  ·exact J c _ z
theorem Inv.tok (I:Inv X pins σ H s)(t:Nat):Inv X pins σ H { s with toks:=t }:=I.un (h':=s.heap) (t':=t) Un.refl I.hok
theorem Inv.kept {t':Nat}(I:Inv X pins σ H s)(k:∀ b u,s.heap.get? b=some u->h'.get? b=some u):Inv X pins σ H { s with heap:=h',toks:=t' }:=I.un (Un.kept k) (I.hok.kept k)
theorem Inv.laid {a:Addr}{o:HO}{t':Nat}(I:Inv X pins σ H s)(k:∀ b u,s.heap.get? b=some u->h'.get? b=some u)(hp:s.heap.objs.size<=a)(new:ObjOk X.prog X.w (upd H a o) h' a o) :
 Inv X pins σ (upd H a o) { s with heap:=h',toks:=t' }:=I.un (Un.laid k hp (I.hok.fresh hp)) (I.hok.laid k hp new)
theorem Inv.write {x e:Addr}{o:HO}{t':Nat}(I:Inv X pins σ H s)(G:Mut (H x))(J:e=x\/H e=some (.own x))(k:∀ b u,b≠e->s.heap.get? b=some u->h'.get? b=some u)(B:∃ u,h'.get? e=some u)
 (new:ObjOk X.prog X.w (upd H x o) h' x o):Inv X pins σ (upd H x o) { s with heap:=h',toks:=t' }:=I.un (Un.write G J k B) (I.hok.write G J k B new)
theorem Inv.pins_of {B:List (Addr×Obj)}(I:Inv X pins σ H s)(h:∀ p∈B,s.heap.get? p.1=some p.2/\H p.1=none/\p.1≠X.env.locals/\p.1 ∉ X.fs/\∀ v,p.2.data≠.cell v):Inv X B σ H s :=
 ⟨I.ok,I.os,I.bare,I.base,I.loc,I.cell,I.free,I.freeC,fun p hp=>(mem_append.mp hp).elim (fun z=>I.pin p (Pj _ z)) (h p),I.hok,I.len⟩
theorem ZaU {N:List Str}(B:N.Nodup){i j:Nat}{x:Str}(a:N[i]?=some x)(b:N[j]?=some x):i=j:=by
 obtain ⟨h1,e1⟩:=Qk.mp a
 obtain ⟨h2,G⟩:=Qk.mp b
 exact (List.getElem_inj B).mp (e1.trans G.symm)
theorem ZcZ {M:RB}{A:Qz}{E:Qb->Qd->Prop}{i:Nat}{x:Str}{v:V}{u:Qb}{Q:Unit->Qd->Prop}(I:Inv X pins σ H s)(hN:X.N.Nodup)(hi:X.N[i]?=some x)(J:Loc X.env.scope x)(r:RelV v u)
 (h:∀ s',Inv X pins (σ.set i (some v)) H s'->(∃ a,Sg a s.heap s'.heap/\(a=X.env.locals\/X.env.cells.lookup x=some a))->Q () s') (hf:X.fn x=true\/X.env.scope.names.lookup x=some .local:=by first | exact .inl rfl | exact .inr rfl | assumption):Qq M A (storeName X.env x u) Q E s:=by
 obtain ⟨m,hn,hl⟩:=id I.loc
 have hcls:(X.env.scope.kind == .class || (X.env.scope.kind == .module&&X.env.locals != X.env.globals))=false:=by rw [I.ok.kind];rfl
 have W:i < σ.length:=by rw [I.len];exact (Qk.mp hi).1
 have cne:=I.cne
 have G:∀ {a:Addr} {h':Heap},(∃ o,s.heap.get? a=some o/\H a=none)->Sg a s.heap h'->HOk X.prog X.w H h':=fun {a h'} ha B b ob e=>by
  obtain ⟨_,_,S⟩:=ha
  refine (I.hok b ob e).stay (fun c w' hc q=>(B.2 c ?_).trans q) (fun _ q=>q) fun _ _ q=>q
  rintro rfl
  rcases hc with rfl | hc
  ·rw [S] at e;cases e
  ·rw [S] at hc;cases hc
 rcases J with hk | hk
 ·refine wpAny_storeName_local hk hn (fun h' hn' B=>?_) hcls
  obtain ⟨oL,_,_,hoL,_⟩:=id hn
  refine h _ ⟨I.ok,I.os,I.bare,⟨fun b o e n hb J=>?_,fun b o e n hb J=>?_,I.base.free,fun b o e J=>?_,I.base.tups,I.base.frzs,I.base.tbls⟩,⟨_,hn',fun j y v' e1 U e3=>?_⟩,fun y c e=>?_,I.free,I.freeC,fun p hp=>?_,G ⟨oL,hoL,I.free⟩ B,by simpa using I.len⟩ ⟨_,B,.inl rfl⟩
  ·exact (B.2 b (Qy (QB (Qh e) I.ok.above))).trans (I.base.keep b o e n hb J)
  ·obtain ⟨sl,e1⟩:=I.base.slot b o e n hb J
   exact ⟨sl,(B.2 b (Qy (QB (Qh e) I.ok.above))).trans e1⟩
  ·obtain ⟨o',e1⟩:=I.base.there b o e J
   exact ⟨o',(B.2 b (Qy (QB (Qh e) I.ok.above))).trans e1⟩
  ·by_cases hj:j=i
   ·subst hj
    rw [hi] at e1;cases e1
    rw [Sj W] at U
    cases U
    exact ⟨u,r,.inl ⟨hk,by simp⟩⟩
   ·rw [Pk (Gg hj)] at U
    obtain ⟨u',r',q⟩:=hl j y v' e1 U e3
    refine ⟨u',r',?_⟩
    rcases q with ⟨k,e⟩ | ⟨k,c,e,z⟩
    ·refine .inl ⟨k,?_⟩
     have:y≠x:=fun e=>hj (ZaU hN e1 (e ▸ hi))
     simp [this,e]
    ·exact .inr ⟨k,c,e,z.sameBut B (cne y c e)⟩
  ·obtain ⟨w',z⟩:=I.cell y c e
   exact ⟨w',z.sameBut B (cne y c e)⟩
  ·obtain ⟨e,n,ne,nf,d⟩:=I.pin p hp
   exact ⟨(B.2 p.1 ne).trans e,n,ne,nf,d⟩
 ·have Z:X.fn x=true:=by
   rcases hf with z | z
   ·exact z
   ·rw [z] at hk;cases hk
  obtain ⟨c,hc⟩:=I.ok.has x (.inl hk)
  obtain ⟨w',z⟩:=I.cell x c hc
  refine wpAny_storeName_cell I.ok.kind hk hc z (fun h' hc' B=>?_)
  obtain ⟨oc,hoc,hocd⟩:=id z
  refine h { s with heap:=h' } ⟨I.ok,I.os,I.bare,⟨fun b o e n hb J=>?_,fun b o e n hb J=>?_,I.base.free,fun b o e J=>?_,I.base.tups,I.base.frzs,I.base.tbls⟩,⟨m,hn.sameBut B (Gg (cne x c hc)),fun j y v' e1 U e3=>?_⟩,fun y c' e=>?_,I.free,I.freeC,fun p hp=>?_,G ⟨oc,hoc,I.freeC x c hc⟩ B,by simpa using I.len⟩ ⟨c,B,.inr hc⟩
  ·exact (B.2 b (Qy (QB (Qh e) (I.ok.cab x c Z hc)))).trans (I.base.keep b o e n hb J)
  ·obtain ⟨sl,e1⟩:=I.base.slot b o e n hb J
   exact ⟨sl,(B.2 b (Qy (QB (Qh e) (I.ok.cab x c Z hc)))).trans e1⟩
  ·obtain ⟨o',e1⟩:=I.base.there b o e J
   exact ⟨o',(B.2 b (Qy (QB (Qh e) (I.ok.cab x c Z hc)))).trans e1⟩
  ·by_cases hj:j=i
   ·subst hj
    rw [hi] at e1;cases e1
    rw [Sj W] at U
    cases U
    exact ⟨u,r,.inr ⟨.inl hk,c,hc,hc'⟩⟩
   ·rw [Pk (Gg hj)] at U
    obtain ⟨u',r',q⟩:=hl j y v' e1 U e3
    refine ⟨u',r',?_⟩
    rcases q with q | ⟨k,c',e,z'⟩
    ·exact .inl q
    ·refine .inr ⟨k,c',e,z'.sameBut B ?_⟩
     rintro rfl
     exact hj (ZaU hN e1 (I.ok.inj _ _ _ e hc ▸ hi))
  ·by_cases hcc:c'=c
   ·subst hcc;exact ⟨_,hc'⟩
   ·obtain ⟨w2,z2⟩:=I.cell y c' e
    exact ⟨w2,z2.sameBut B hcc⟩
  ·obtain ⟨e,n,ne,nf,d⟩:=I.pin p hp
   refine ⟨(B.2 p.1 ?_).trans e,n,ne,nf,d⟩
   intro q
   rw [q,hoc] at e
   have q':oc=p.2:=QE e
   exact d w' (by rw [<- q'];exact hocd)
theorem XR {M:RB}{A:Qz}{E:Qb->Qd->Prop}{i:Nat}{x:Str}{v:V}{u:Qb}{Q:Unit->Qd->Prop}(I:Inv X pins σ H s)(G:X.N.Nodup)(hi:X.N[i]?=some x)(J:Loc X.env.scope x)(r:RelV v u)
 (h:∀ s',Inv X pins (σ.set i (some v)) H s'->Q () s') (B:X.fn x=true\/X.env.scope.names.lookup x=some .local:=by first | exact .inl rfl | exact .inr rfl | assumption):Qq M A (storeName X.env x u) Q E s :=
 ZcZ I G hi J r (fun s' S _=>h s' S) B
theorem Inv.call' {s':Qd}{ch:List Addr}(I:Inv X pins σ H s)(J:s'.os=s.os)(u:Un (Yx X.stack) ch H H' s.heap s'.heap)(hok:HOk X.prog X.w H' s'.heap)(G:PN s'.gens)
 (B:∀ b∈ch,(b∈X.ex\/X.s₀.heap.objs.size<=b)/\b≠X.env.locals/\(∀ x c,X.env.cells.lookup x=some c->c≠b)/\∀ p∈X.pn++pins,p.1≠b):Inv X pins σ H' s':=by
 obtain ⟨h',g',d',t',o'⟩:=s'
 have e:o'=s.os:=J
 subst e
 exact I.call (g':=g') (t':=t') (d':=d') u hok G B
end
abbrev XK:=Qb->Option Addr->Hp->Prop
abbrev St:=List (Option V)
abbrev VK:=V->Hp->Prop
abbrev TE:=St->Hp->VK->Prop
abbrev TT:=St->Hp->(Bool->Hp->Prop)->Prop
abbrev TA:=St->Hp->(List V->Hp->Prop)->Prop
structure Yl where
 nx:St->Hp->Prop
 rt:VK
 bk:St->Hp->Prop:=fun _ _=>False
 ct:St->Hp->Prop:=fun _ _=>False
abbrev TS:=Yl->St->Hp->Prop
def EP (X:Cx)(pins:List (Addr×Obj))(σ:St)(Q:VK)(u:Qb)(s':Qd):Prop:=∃ v H',Inv X pins σ H' s'/\RelV v u/\Q v H'
def TP (X:Cx)(pins:List (Addr×Obj))(σ:St)(Q:Bool->Hp->Prop)(b:Bool)(s':Qd):Prop:=∃ H',Inv X pins σ H' s'/\Q b H'
def AP (X:Cx)(pins:List (Addr×Obj))(σ:St)(Q:List V->Hp->Prop)(us:List Qb)(s':Qd):Prop:=∃ vs H',Inv X pins σ H' s'/\Vals vs us/\Q vs H'
def SP (X:Cx)(pins:List (Addr×Obj))(D:Yl)(f:Flow)(s':Qd):Prop :=
 match f with
 | .next=>∃ σ' H',Inv X pins σ' H' s'/\D.nx σ' H'
 | .brk=>∃ σ' H',Inv X pins σ' H' s'/\D.bk σ' H'
 | .cont=>∃ σ' H',Inv X pins σ' H' s'/\D.ct σ' H'
 | .ret u=>∃ v σ' H',Inv X pins σ' H' s'/\RelV v u/\D.rt v H'
def PE (X:Cx)(e:Expr)(t:TE):Prop :=
 ∀ (pins:List (Addr×Obj)) (s:Qd) (σ:St) (H:Hp) (Q:VK),Inv X pins σ H s->t σ H Q->Qq (Qt X.prog X.w) X.A (eval e X.env) (EP X pins σ Q) X.xe s
def PT (X:Cx)(e:Expr)(t:TT):Prop :=
 ∀ (pins:List (Addr×Obj)) (s:Qd) (σ:St) (H:Hp) (Q:Bool->Hp->Prop),Inv X pins σ H s->t σ H Q->Qq (Qt X.prog X.w) X.A (isTrue e X.env (eval e X.env)) (TP X pins σ Q) X.xe s
def PW (X:Cx)(e:Expr)(t:TT):Prop :=
 ∀ (whole:Sem Qb) (pins:List (Addr×Obj)) (s:Qd) (σ:St) (H:Hp) (Q:Bool->Hp->Prop),Inv X pins σ H s->t σ H Q->Qq (Qt X.prog X.w) X.A (isTrue e X.env whole) (TP X pins σ Q) X.xe s
theorem PW.pt {X:Cx}{e:Expr}{t:TT}(h:PW X e t):PT X e t:=h _
def PA (X:Cx)(es:List Expr)(t:TA):Prop :=
 ∀ (pos:Pos) (pins:List (Addr×Obj)) (s:Qd) (σ:St) (H:Hp) (Q:List V->Hp->Prop),Inv X pins σ H s->t σ H Q->Qq (Qt X.prog X.w) X.A (spliced (GG pos (QA es X.env))) (AP X pins σ Q) X.xe s
def PS (X:Cx)(st:Stmt)(t:TS):Prop :=
 ∀ (pins:List (Addr×Obj)) (s:Qd) (σ:St) (H:Hp) (D:Yl),Inv X pins σ H s->t D σ H->Qq (Qt X.prog X.w) X.A (exec st X.env) (SP X pins D) X.xe s
def PSs (X:Cx)(st:List Stmt)(t:TS):Prop :=
 ∀ (pins:List (Addr×Obj)) (s:Qd) (σ:St) (H:Hp) (D:Yl),Inv X pins σ H s->t D σ H->Qq (Qt X.prog X.w) X.A (execs st X.env) (SP X pins D) X.xe s
theorem Zt {B:Type}{t:Sem B}{Q G:B->Qd->Prop}{M:RB}{A:Qz}{E:Qb->Qd->Prop}{s:Qd}(h:Qq M A t Q E s)(I:∀ a s,Q a s->G a s):Qq M A t G E s:=QP h I fun _ _ x=>x
section
variable {X:Cx}
inductive ZiL (i:Nat)(σ:St)(H:Hp)(Q:VK):Prop
 | mk (v:_):σ[i]?=some (some v)->Q v H->ZiL i σ H Q
def Zez (i:Nat):TE:=fun σ H Q=>ZiL i σ H Q
def tC (v:V):TE:=fun _ H Q=>Q v H
theorem Zik {i:Nat}{x:Str}{pos:Pos}(hN:X.N[i]?=some x)(Z:Vis X.env.scope x)(J:(x == ("__debug__":Str))=false:=by decide)(S:(x == ("__classdict__":Str))=false:=by decide):PE X (.Name x pos) (Zez i):=by
 intro pins s σ H Q I h
 obtain ⟨v,e,h⟩:=h
 obtain ⟨m,W,hl⟩:=I.loc
 obtain ⟨u,r,l⟩:=hl i x v hN e Z
 have G:EP X pins σ Q u s:=⟨v,H,I,r,h⟩
 rcases l with ⟨hk,hm⟩ | ⟨hk,c,U,B⟩
 ·exact RO (Pm I.ok.kind hk W hm G) J
 ·rcases hk with hk | hk
  ·exact RO (Ru I.ok.kind hk U B G) J
  ·exact RO (wpAny_loadName_free I.ok.kind hk U B G S) J
theorem Zh {i j pos}:PE X (.Constant (.int i) j pos) (tC (.int i)):=fun _ _ _ H _ I h=>RP ⟨.int i,H,I.tok _,⟨_,rfl⟩,h⟩
theorem YY {b j pos}:PE X (.Constant (.bool b) j pos) (tC (.bl b)):=fun _ _ _ H _ I h=>Constant_bool ⟨.bl b,H,I,rfl,h⟩
theorem WG {j pos}:PE X (.Constant .none j pos) (tC .non):=fun _ _ _ H _ I h=>RC ⟨.non,H,I,rfl,h⟩
theorem ZR {x j pos}:PE X (.Constant (.str x) j pos) (tC (.str x)):=fun _ _ _ H _ I h=>Calls.Constant_str ⟨.str x,H,I.tok _,⟨_,rfl⟩,h⟩
def Gl (X:Cx)(x:Str):Prop:=X.env.kindOf x=some .globalImplicit
theorem Wt {E:Qb->Qd->Prop}{pins:List (Addr×Obj)}{s:Qd}{σ:St}{H:Hp}{x:Str}{u:Qb}{pos:Pos}{Q:Qb->Qd->Prop}(I:Inv X pins σ H s)(B:Gl X x)(G:X.mg x=some u)(h:Q u s)
 (J:(x == ("__debug__":Str))=false:=by decide):Qq (Qt X.prog X.w) X.A (eval (.Name x pos) X.env) Q E s :=
 Td I.ok.kind B (Calls.loadGlobal_global (by rw [I.ok.glob];exact I.mod.glob.keeps I.bk) G h) J
theorem UD {E:Qb->Qd->Prop}{pins:List (Addr×Obj)}{s:Qd}{σ:St}{H:Hp}{x:Str}{u:Qb}{pos:Pos}{Q:Qb->Qd->Prop}(I:Inv X pins σ H s)(U:Gl X x)(S:X.mg x=none)(G:JL x=some u)(h:Q u s)
 (B:x≠"__name__":=by decide) (J:(x == ("__debug__":Str))=false:=by decide):Qq (Qt X.prog X.w) X.A (eval (.Name x pos) X.env) Q E s:=by
 obtain ⟨W,h1,h2⟩:=I.mod.blt
 exact Td I.ok.kind U (Calls.loadGlobal_builtin (by rw [I.ok.glob];exact I.mod.glob.keeps I.bk) S (by rw [I.ok.blt];exact h1.keeps I.bk) ((h2 x B).trans G) h) J
theorem ZO {x:Str}{v:V}{u:Qb}{pos:Pos}(B:Gl X x)(G:X.mg x=some u)(r:RelV v u)(J:(x == ("__debug__":Str))=false:=by decide):PE X (.Name x pos) (tC v) :=
 fun _ _ _ H _ I h=>Wt I B G ⟨v,H,I,r,h⟩ J
theorem Zlx {x:Str}{v:V}{u:Qb}{pos:Pos}(U:Gl X x)(S:X.mg x=none)(G:JL x=some u)(r:RelV v u)(B:x≠"__name__":=by decide)(J:(x == ("__debug__":Str))=false:=by decide):PE X (.Name x pos) (tC v) :=
 fun _ _ _ H _ I h=>UD I U S G ⟨v,H,I,r,h⟩ B J
variable {a b:Expr}{ta tb:TE}{pos:Pos}
def PC (X:Cx)(op:CmpOp)(a b:Expr)(t:TE):Prop :=
 ∀ (pins:List (Addr×Obj)) (s:Qd) (σ:St) (H:Hp) (Q:VK),Inv X pins σ H s->t σ H Q ->
  Qq (Qt X.prog X.w) X.A (eval a X.env) (fun v s₁=>Qq (Qt X.prog X.w) X.A (eval b X.env) (fun u s₂=>Qq (Qt X.prog X.w) X.A (GK op v u) (EP X pins σ Q) X.xe s₂) X.xe s₁) X.xe s
theorem Zjw (b:Expr){B:CmpOp}(h:B≠.In)(h2:B≠.NotIn):Jl B b=false:=by
 have e1:(B == CmpOp.In)=false:=by cases B<;>first | rfl | exact absurd rfl h
 have G:(B == CmpOp.NotIn)=false:=by cases B<;>first | rfl | exact absurd rfl h2
 cases b<;>simp [Jl,e1,G]
def tIsN (ta:TE):TE:=fun σ H Q=>ta σ H fun x H1=>Q (.bl (decide (x=.non))) H1
def Zpl (ta:TE):TE:=fun σ H Q=>ta σ H fun x H1=>Q (.bl (!decide (x=.non))) H1
theorem RelV.none_iff {x:V}{v:Qb}(r:RelV x v):(v == QW)=decide (x=.non):=by
 cases x with
 | non=>cases r;rfl
 | bl _=>cases r;rfl
 | int _=>obtain ⟨t,rfl⟩:=r;rfl
 | str _=>obtain ⟨t,rfl⟩:=r;rfl
 | byt _=>obtain ⟨t,rfl⟩:=r;rfl
 | flt _=>obtain ⟨t,rfl⟩:=r;rfl
 | ref _=>cases r;rfl
 | ty _=>cases r;rfl
theorem UG {j pos'}(U:PE X a ta):PC X .Is a (.Constant .none j pos') (tIsN ta):=by
 intro pins s σ H Q I h
 refine Zt (U pins s σ H _ I h) fun v s1 B=>?_
 obtain ⟨x,H1,S,J,G⟩:=B
 exact RC (is_none_gen ⟨.bl _,H1,S,by rw [J.none_iff];rfl,G⟩)
theorem Zlv {j pos'}(U:PE X a ta):PC X .IsNot a (.Constant .none j pos') (Zpl ta):=by
 intro pins s σ H Q I h
 refine Zt (U pins s σ H _ I h) fun v s1 B=>?_
 obtain ⟨x,H1,S,J,G⟩:=B
 exact RC (isnot_none_gen ⟨.bl _,H1,S,by rw [J.none_iff];rfl,G⟩)
inductive tB_R (Q:Bool->Hp->Prop)(x:V)(H1:Hp):Prop
 | mk (c:_):x=.bl c->Q c H1->tB_R Q x H1
def tB (t:TE):TT:=fun σ H Q=>t σ H fun x H1=>tB_R Q x H1
theorem XM {B:CmpOp}{t:TE}(h:PC X B a b t)(h1:Jl B b=false:=by first | exact Zjw _ (by decide) (by decide) | rfl):PT X (.Compare a [B] [b] pos) (tB t):=by
 intro pins s σ H Q I S
 refine SH (Zt (h pins s σ H _ I S) fun v s1 h1=>Zt h1 fun u s2 h2=>Zt h2 fun c Z G=>?_) h1
 obtain ⟨x,H1,W,U,J⟩:=G
 obtain ⟨d,rfl,q⟩:=J
 cases U
 exact Gw ⟨H1,W,q⟩
theorem UK {e:Expr}{t:TE}(h:PE X e t)(Z:∀ B,isTrue e X.env B=(do let v <- B;Tr e.pos;JM [v] (truthy v)):=by intro _;rfl):PT X e (tB t):=by
 intro pins s σ H Q I S
 refine isTrue_plain (Zt (h pins s σ H _ I S) fun v s1 G=>?_) (Z _)
 obtain ⟨x,H1,W,U,J⟩:=G
 obtain ⟨d,rfl,q⟩:=J
 cases U
 exact Gw ⟨H1,W,q⟩
variable {tA tB':TT}{rest:List Expr}
def tAnd (t u:TT):TT:=fun σ H Q=>t σ H fun c H1=>if c=true then u σ H1 Q else Q false H1
def tOr (t u:TT):TT:=fun σ H Q=>t σ H fun c H1=>if c=true then Q true H1 else u σ H1 Q
def tNot (t:TT):TT:=fun σ H Q=>t σ H fun c H1=>Q (!c) H1
theorem Zfz (B:PT X a tA):PW X (.BoolOp .And [a] pos) tA:=by
 intro G pins s σ H Q I h
 refine isTrue_and (Zt (B pins s σ H Q I h) fun c s1 e=>?_)
 cases c with
 | true=>exact isTrue_and_nil e
 | false=>exact e
theorem VO (B:PT X a tA):PW X (.BoolOp .Or [a] pos) tA:=by
 intro G pins s σ H Q I h
 refine isTrue_or (Zt (B pins s σ H Q I h) fun c s1 e=>?_)
 cases c with
 | false=>exact isTrue_or_nil e
 | true=>exact e
theorem Zip (U:PT X a tA)(hb:PW X (.BoolOp .And (b::rest) pos) tB'):PW X (.BoolOp .And (a::b::rest) pos) (tAnd tA tB'):=by
 intro S pins s σ H Q I h
 refine isTrue_and (Zt (U pins s σ H _ I h) fun c s1 J=>?_)
 obtain ⟨H1,G,B⟩:=J
 cases c with
 | true=>exact hb S pins s1 σ H1 Q G B
 | false=>exact ⟨H1,G,B⟩
theorem ZbK (U:PT X a tA)(hb:PW X (.BoolOp .Or (b::rest) pos) tB'):PW X (.BoolOp .Or (a::b::rest) pos) (tOr tA tB'):=by
 intro S pins s σ H Q I h
 refine isTrue_or (Zt (U pins s σ H _ I h) fun c s1 J=>?_)
 obtain ⟨H1,G,B⟩:=J
 cases c with
 | true=>exact ⟨H1,G,B⟩
 | false=>exact hb S pins s1 σ H1 Q G B
theorem VN (B:PT X a tA):PT X (.UnaryOp .Not a pos) (tNot tA):=by
 intro pins s σ H Q I h
 exact isTrue_not (B pins s σ H (fun c H1=>Q (!c) H1) I h)
inductive ZfH (tb:TE)(σ:St)(Q:VK)(x:V)(H1:Hp):Prop
 | mk (c:_):x=.bl c->(if c=true then tb σ H1 Q else Q (.bl false) H1)->ZfH tb σ Q x H1
def Zpb (ta tb:TE):TE:=fun σ H Q=>ta σ H fun x H1=>ZfH tb σ Q x H1
theorem Zno {op}{t:TE}(h:PE X a t):PE X (.BoolOp op [a] pos) t:=fun pins s σ H Q I B=>BoolOp_one (h pins s σ H Q I B)
theorem Znj (U:PE X a ta)(hb:PE X (.BoolOp .And (b::rest) pos) tb):PE X (.BoolOp .And (a::b::rest) pos) (Zpb ta tb):=by
 intro pins s σ H Q I h
 refine BoolOp_and (Zt (U pins s σ H _ I h) fun v s1 J=>?_)
 obtain ⟨x,H1,G,S,B⟩:=J
 obtain ⟨c,rfl,B⟩:=B
 cases S
 refine Gw ?_
 cases c with
 | true=>exact hb pins s1 σ H1 Q G B
 | false=>exact ⟨.bl false,H1,G,rfl,B⟩
def tIf (t:TT)(ta tb:TE):TE:=fun σ H Q=>t σ H fun c H1=>if c=true then ta σ H1 Q else tb σ H1 Q
theorem YN {c:Expr}(S:PT X c tA)(U:PE X a ta)(hb:PE X b tb):PE X (.IfExp c a b pos) (tIf tA ta tb):=by
 intro pins s σ H Q I h
 refine wpAny_IfExp (Zt (S pins s σ H _ I h) fun d s1 J=>?_)
 obtain ⟨H1,G,B⟩:=J
 cases d with
 | true=>exact U pins s1 σ H1 Q G B
 | false=>exact hb pins s1 σ H1 Q G B
end
def SqL (K:Qa)(H:Hp)(a:Addr)(xs:List V):Prop :=
 Rd H a (.lst xs) \/
  ∃ (o:Obj) (its:Array Qb) (n:Nat),K.lookup a=some o/\o.cls=.type "list"/\o.dict=none/\o.data=.seq its n/\its.size<=Qj/\Vals xs its.toList
def SqT (K:Qa)(H:Hp)(a:Addr)(xs:List V):Prop :=
 Rd H a (.tup xs) \/
  ∃ (o:Obj) (its:Array Qb) (n:Nat),K.lookup a=some o/\o.cls=.type "tuple"/\o.data=.seq its n/\its.size<=Qj/\Vals xs its.toList
def Zgd:Qb->Option V
 | .none=>some .non
 | .bool b=>some (.bl b)
 | .int i _=>some (.int i)
 | .str x _=>some (.str x)
 | .bytes b _=>some (.byt b)
 | .float b _=>some (.flt b)
 | .ref a=>some (.ref a)
 | .type n=>some (.ty n)
 | _=>none
theorem RelV.abs {x:V}{u:Qb}(r:RelV x u):Zgd u=some x:=by
 cases x with
 | non=>cases r;rfl
 | bl _=>cases r;rfl
 | int _=>obtain ⟨t,rfl⟩:=r;rfl
 | str _=>obtain ⟨t,rfl⟩:=r;rfl
 | byt _=>obtain ⟨t,rfl⟩:=r;rfl
 | flt _=>obtain ⟨t,rfl⟩:=r;rfl
 | ref _=>cases r;rfl
 | ty _=>cases r;rfl
theorem RelV.inj {x y:V}{u:Qb}(r:RelV x u)(q:RelV y u):x=y:=QE (r.abs.symm.trans q.abs)
theorem Vals.inj:∀{xs ys:List V}{us:List Qb},Vals xs us->Vals ys us->xs=ys
 | _,_,_,.nil,.nil=>rfl
 | _,_,_,.cons r t,.cons r' t'=>by rw [r.inj r',Vals.inj t t']
section
variable {X:Cx}{pins:List (Addr×Obj)}{σ:St}{H:Hp}{s:Qd}{a:Addr}{xs ys:List V}
theorem SqL.of {K:Qa}(h:H a=some (.lst xs)):SqL K H a xs:=.inl (.inl h)
theorem SqT.of {K:Qa}(h:H a=some (.tup xs)):SqT K H a xs:=.inl (.inl h)
theorem Inv.list (I:Inv X pins σ H s)(h:SqL X.K H a xs):∃ B:List Qb,Vals xs B/\PlainL s.heap a B.toArray/\xs.length<=sizeLine:=by
 rcases h with h | ⟨o,B,n,S,G,J,U,W,r⟩
 ·obtain ⟨z,B,n,r,e⟩:=h.ok I.hok
  exact ⟨B,r,⟨_,n,e,rfl,rfl,rfl⟩,z⟩
 ·refine ⟨B.toList,r,⟨o,n,I.kIn a o S,G,J,by simpa using U⟩,?_⟩
  have e:=r.length
  simp only [GV] at e
  omega
theorem Inv.tuple (I:Inv X pins σ H s)(h:SqT X.K H a xs):∃ B:List Qb,Vals xs B/\Nf s.heap a B.toArray/\xs.length<=sizeLine:=by
 rcases h with h | ⟨o,B,n,J,G,S,U,r⟩
 ·obtain ⟨z,B,r,p⟩:=h.ok I.hok
  exact ⟨B,r,p,z⟩
 ·refine ⟨B.toList,r,⟨o,I.kIn a o J,G,n,by simpa using S⟩,?_⟩
  have e:=r.length
  simp only [GV] at e
  omega
theorem Inv.list_inj (I:Inv X pins σ H s)(h:SqL X.K H a xs)(h':SqL X.K H a ys):xs=ys:=by
 obtain ⟨B,r,⟨o,n,e,_,_,d⟩,_⟩:=I.list h
 obtain ⟨its',J,⟨o',S,G,_,_,d'⟩,_⟩:=I.list h'
 rw [e] at G;cases G
 rw [d] at d'
 injection d' with d1 _
 have:B=its':=by simpa using congrArg Array.toList d1
 subst this
 exact r.inj J
theorem Inv.tuple_inj (I:Inv X pins σ H s)(h:SqT X.K H a xs)(h':SqT X.K H a ys):xs=ys:=by
 obtain ⟨B,r,⟨o,e,_,n,d⟩,_⟩:=I.tuple h
 obtain ⟨its',J,⟨o',G,_,S,d'⟩,_⟩:=I.tuple h'
 rw [e] at G;cases G
 rw [d] at d'
 injection d' with d1 _
 have:B=its':=by simpa using congrArg Array.toList d1
 subst this
 exact r.inj J
end
abbrev Cx.wish (X:Cx)(E:Qb->Qd->Prop):Cx:={ X with xe:=E }
abbrev Cx.nox (X:Cx):Cx:=X.wish fun _ _=>False
theorem Cx.Ok.wish {X:Cx}(ok:X.Ok)(E:Qb->Qd->Prop):(X.wish E).Ok :=
 ⟨ok.mod,ok.kind,ok.glob,ok.blt,ok.above,ok.inj,ok.has,ok.cab,ok.hd,ok.frames,ok.stk,ok.exf,ok.bs,ok.bsz,ok.noex,ok.exfs,ok.funs,ok.frf⟩
theorem Cx.Ok.unwish {X:Cx}{E:Qb->Qd->Prop}(ok:(X.wish E).Ok):X.Ok :=
 ⟨ok.mod,ok.kind,ok.glob,ok.blt,ok.above,ok.inj,ok.has,ok.cab,ok.hd,ok.frames,ok.stk,ok.exf,ok.bs,ok.bsz,ok.noex,ok.exfs,ok.funs,ok.frf⟩
section
variable {X:Cx}{pins:List (Addr×Obj)}{σ:St}{H:Hp}{s:Qd}{E:Qb->Qd->Prop}
theorem Inv.wish (I:Inv X pins σ H s)(E:Qb->Qd->Prop):Inv (X.wish E) pins σ H s:=⟨I.ok.wish E,I.os,I.bare,I.base,I.loc,I.cell,I.free,I.freeC,I.pin,I.hok,I.len⟩
theorem Inv.unwish (I:Inv (X.wish E) pins σ H s):Inv X pins σ H s:=⟨I.ok.unwish,I.os,I.bare,I.base,I.loc,I.cell,I.free,I.freeC,I.pin,I.hok,I.len⟩
theorem SP.unwish {D:Yl}{f:Flow}{s':Qd}(h:SP (X.wish E) pins D f s'):SP X pins D f s':=by
 cases f with
 | next=>obtain ⟨B,H',I,q⟩:=h;exact ⟨B,H',I.unwish,q⟩
 | brk=>obtain ⟨B,H',I,q⟩:=h;exact ⟨B,H',I.unwish,q⟩
 | cont=>obtain ⟨B,H',I,q⟩:=h;exact ⟨B,H',I.unwish,q⟩
 | ret u=>obtain ⟨v,B,H',I,r,q⟩:=h;exact ⟨v,B,H',I.unwish,r,q⟩
theorem PSs.nox {st:List Stmt}{t:TS}(h:PSs X.nox st t):PSs X st t:=fun pins s σ H D I B =>
 QP (h pins s σ H D (I.wish _) B) (fun _ _ q=>q.unwish) fun _ _ z=>QF z
end
section
variable {X:Cx}{st:Stmt}{rest:List Stmt}{t u:TS}{e:Expr}{te:TE}{pos:Pos}
def Zpj:TS:=fun D σ H=>D.nx σ H
def ZP (t u:TS):TS:=fun D σ H=>t { D with nx:=u D } σ H
theorem ZM:PSs X [] Zpj:=fun _ _ σ H _ I h=>Pu ⟨σ,H,I,h⟩
theorem Zd (h1:PS X st t)(h2:PSs X rest u):PSs X (st::rest) (ZP t u):=by
 intro pins s σ H D I h
 refine TQ (Zt (h1 pins s σ H { D with nx:=u D } I h) fun f s1 q=>?_)
 cases f with
 | next =>
  obtain ⟨B,H',G,q⟩:=q
  exact h2 pins s1 B H' D G q
 | ret v=>exact q
 | brk=>exact q
 | cont=>exact q
theorem Zi (h1:PS X st t):PSs X [st] t:=by
 intro pins s σ H D I h
 refine TQ (Zt (h1 pins s σ H D I h) fun f s1 q=>?_)
 cases f with
 | next=>exact Pu q
 | ret v=>exact q
 | brk=>exact q
 | cont=>exact q
theorem Inv.quiet {pins:List (Addr×Obj)}{σ:St}{H:Hp}{s:Qd}(I:Inv X pins σ H s):interactive X.env=false:=by simp [interactive,I.ok.kind]
def Zpi (te:TE):TS:=fun D σ H=>te σ H fun _ H1=>D.nx σ H1
theorem Yh (J:PE X e te)(S:Ta e none pos.line X.env=pure false:=by rfl):PS X (.Expr e pos) (Zpi te):=by
 intro pins s σ H D I h
 exact wpAny_Expr_any (Zt (J pins s σ H _ I h) fun v s1 ⟨x,H1,G,U,B⟩=>⟨σ,H1,G,B⟩) I.quiet S
def tRet (te:TE):TS:=fun D σ H=>te σ H D.rt
theorem Zq (S:PE X e te):PS X (.Return (some e) pos) (tRet te):=by
 intro pins s σ H D I h
 exact wpAny_Return_some (Zt (S pins s σ H _ I h) fun v s1 ⟨x,H1,J,G,B⟩=>⟨x,σ,H1,J,G,B⟩)
def tIfS (c:TT)(t u:TS):TS:=fun D σ H=>c σ H fun b H1=>if b=true then t D σ H1 else u D σ H1
theorem Yb {c:Expr}{a b:List Stmt}{tc:TT}(S:PT X c tc)(U:PSs X a t)(hb:PSs X b u):PS X (.If c a b pos) (tIfS tc t u):=by
 intro pins s σ H D I h
 refine wpAny_If (Zt (S pins s σ H _ I h) fun d s1 J=>?_)
 obtain ⟨H1,G,B⟩:=J
 cases d with
 | true=>exact U pins s1 σ H1 D G B
 | false=>exact hb pins s1 σ H1 D G B
end
abbrev TG:=V->St->Hp->(St->Hp->Prop)->Prop
abbrev TGs:=List V->St->Hp->(St->Hp->Prop)->Prop
def PG (X:Cx)(target:Expr)(t:TG):Prop :=
 ∀ (pins:List (Addr×Obj)) (s:Qd) (σ:St) (H:Hp) (v:V) (u:Qb) (Q:St->Hp->Prop),Inv X pins σ H s->RelV v u->t v σ H Q ->
  Qq (Qt X.prog X.w) X.A (SO target X.env u) (fun _ s'=>∃ σ' H',Inv X pins σ' H' s'/\Q σ' H') X.xe s
def PGs (X:Cx)(ts:List Expr)(t:TGs):Prop :=
 ∀ (pins:List (Addr×Obj)) (s:Qd) (σ:St) (H:Hp) (vs:List V) (us:List Qb) (Q:St->Hp->Prop),Inv X pins σ H s->Vals vs us->t vs σ H Q ->
  Qq (Qt X.prog X.w) X.A (RD ((Te ts X.env).map (·.2)) us) (fun _ s'=>∃ σ' H',Inv X pins σ' H' s'/\Q σ' H') X.xe s
abbrev ZiZ:=V->V->V->Hp->(Hp->Prop)->Prop
def PSet (X:Cx)(t:ZiZ):Prop :=
 ∀ (pins:List (Addr×Obj)) (s:Qd) (σ:St) (H:Hp) (o i v:V) (ov iv u:Qb) (Q:Hp->Prop),Inv X pins σ H s->RelV o ov->RelV i iv->RelV v u->t o i v H Q ->
  Qq (Qt X.prog X.w) X.A (setItem ov iv u) (fun _ s'=>∃ H',Inv X pins σ H' s'/\Q H') X.xe s
abbrev TIp:=V->V->Hp->VK->Prop
def PIp (X:Cx)(op:Operator)(t:TIp):Prop :=
 ∀ (pins:List (Addr×Obj)) (s:Qd) (σ:St) (H:Hp) (x y:V) (v u:Qb) (Q:VK),Inv X pins σ H s->RelV x v->RelV y u->t x y H Q ->
  Qq (Qt X.prog X.w) X.A (inplaceOp op v u) (EP X pins σ Q) X.xe s
section
variable {X:Cx}{pos:Pos}
def Vb (i:Nat):TG:=fun v σ H Q=>Q (σ.set i (some v)) H
theorem Yg {i:Nat}{x:Str}(G:X.N.Nodup)(hi:X.N[i]?=some x)(J:Loc X.env.scope x)(B:X.fn x=true\/X.env.scope.names.lookup x=some .local:=by first | exact .inl rfl | exact .inr rfl | assumption):PG X (.Name x pos) (Vb i):=by
 intro pins s σ H v u Q I r h
 exact Oh (XR I G hi J r (fun s' S=>⟨_,H,S,h⟩) B)
def gNil:TGs:=fun vs σ H Q=>vs=[]/\Q σ H
inductive Zfc (t:TG)(u:TGs)(vs:List V)(σ:St)(H:Hp)(Q:St->Hp->Prop):Prop
 | mk (v r:_):vs=v::r->(t v σ H fun σ' H'=>u r σ' H' Q)->Zfc t u vs σ H Q
def Zok (t:TG)(u:TGs):TGs:=fun vs σ H Q=>Zfc t u vs σ H Q
theorem UH:PGs X [] gNil:=by
 intro pins s σ H vs us Q I r h
 obtain ⟨e,h⟩:=h
 subst e
 cases r
 exact Oi ⟨σ,H,I,h⟩
theorem YO {e:Expr}{es:List Expr}{t:TG}{u:TGs}(h1:PG X e t)(h2:PGs X es u)
 (U:(Te (e::es) X.env).map (·.2)=SO e X.env::(Te es X.env).map (·.2):=by rfl):PGs X (e::es) (Zok t u):=by
 intro pins s σ H vs us Q I r h
 obtain ⟨v,W,e1,h⟩:=h
 subst e1
 cases r with
 | cons r rr =>
  rw [U]
  refine JG (Zt (h1 pins s σ H _ _ _ I r h) fun _ s1 G=>?_)
  obtain ⟨B,H1,S,J⟩:=G
  exact h2 pins s1 B H1 _ _ Q S rr J
inductive ZhA (K:Qa)(n:Nat)(t:TGs)(v:V)(σ:St)(H:Hp)(Q:St->Hp->Prop):Prop
 | mk (a xs:_):v=.ref a->SqT K H a xs->xs.length=n->t xs σ H Q->ZhA K n t v σ H Q
def gTup (K:Qa)(n:Nat)(t:TGs):TG:=fun v σ H Q=>ZhA K n t v σ H Q
theorem VM {es:List Expr}{k:Nat}{t:TGs}{n:Nat}(S:X.calm=true)(h:PGs X es t)
 (U:(Te es X.env).length=n:=by rfl) (B:(Te es X.env).findIdx? (·.1)=none:=by rfl):PG X (.Tuple es k pos) (gTup X.K n t):=by
 intro pins s σ H v u Q I r G
 obtain ⟨a,xs,e1,hq,hl,G⟩:=G
 subst e1
 cases r
 obtain ⟨W,J,Z,hz⟩:=I.tuple hq
 refine assign_Tuple_tuple (I.ok.hd S) Z (by simp [U,<- hl,J.length]) B fun h' hx=>?_
 have I1:Inv X pins σ H { s with heap:=h' }:=I.kept (t':=s.toks) fun b o e=>hx b o (Qy (Qh e)) e
 exact h pins _ σ H xs _ Q I1 (by simpa using J) G
def gSub (to ti:TE)(t:ZiZ):TG:=fun v σ H Q=>to σ H fun o H1=>ti σ H1 fun i H2=>t o i v H2 fun H3=>Q σ H3
theorem VL {o i:Expr}{to S:TE}{t:ZiZ}(ho:PE X o to)(hi:PE X i S)(hs:PSet X t)
 (ha:∀ v,SO (.Subscript o i pos) X.env v=(do
  let B <- JM [v] (eval o X.env)
  let J <- JM [v,B] (eval i X.env)
  Tr pos
  JM [v,B,J] (setItem B J v)
  release [v,B,J] []):=by intro _;rfl):PG X (.Subscript o i pos) (gSub to S t):=by
 intro pins s σ H v u Q I r h
 rw [ha]
 refine Qf (Gf (Zt (ho pins s σ H _ I h) fun B s1 G=>?_))
 obtain ⟨x,H1,I1,r1,U⟩:=G
 refine Qf (Gf (Zt (hi pins s1 σ H1 _ I1 U) fun J s2 G=>?_))
 obtain ⟨y,H2,I2,Z,q2⟩:=G
 refine Qf (GD (Qf (Gf (Zt (hs pins s2 σ H2 x y v B J u _ I2 r1 Z r q2) fun _ s3 G=>?_))))
 obtain ⟨W,I3,q3⟩:=G
 exact wpAny_release ⟨σ,W,I3,q3⟩
def ZgR (te:TE)(g:TG):TS:=fun D σ H=>te σ H fun x H1=>g x σ H1 D.nx
theorem Wg {tg e:Expr}{te:TE}{g:TG}(he:PE X e te)(W:PG X tg g)(Z:swapsWithSole [tg] e pos.line X.env=pure false:=by rfl)(J:swappedStores [tg] e X.env=pure none:=by rfl)
 (h1:(Te [tg] X.env).map (·.2)=[SO tg X.env]:=by rfl):PS X (.Assign [tg] e pos) (ZgR te g):=by
 intro pins s σ H D I h
 refine wpAny_Assign_stores (Zt (he pins s σ H _ I h) fun v s1 B=>?_) Z J
 obtain ⟨x,H1,U,S,G⟩:=B
 rw [h1]
 exact Zt (W pins s1 σ H1 x v _ U S G) fun _ s2 q=>q
theorem Zv {i:Nat}{x:Str}{e:Expr}{te:TE}{pos':Pos}(U:X.N.Nodup)(hi:X.N[i]?=some x)(hx:Loc X.env.scope x)(Z:PE X e te)(hs:Ta e (some (.Name x pos')) pos.line X.env=pure false:=by rfl)(J:X.fn x=true\/X.env.scope.names.lookup x=some .local:=by first | exact .inl rfl | exact .inr rfl | assumption) :
 PS X (.Assign [.Name x pos'] e pos) (ZgR te (Vb i)):=by
 intro pins s σ H D I h
 refine wpAny_Assign_Name (Zt (Z pins s σ H _ I h) fun v s1 B=>?_) hs
 obtain ⟨y,H1,W,S,G⟩:=B
 exact XR W U hi hx S (fun s2 I2=>⟨_,H1,I2,G⟩) J
inductive ZiF (i:Nat)(te:TE)(ti:TIp)(D:Yl)(σ:St)(H:Hp):Prop
 | mk (x:_):σ[i]?=some (some x)->(te σ H fun y H1=>ti x y H1 fun z H2=>D.nx (σ.set i (some z)) H2)->ZiF i te ti D σ H
def tAug (i:Nat)(te:TE)(ti:TIp):TS:=fun D σ H=>ZiF i te ti D σ H
theorem Znt {i:Nat}{x:Str}{e:Expr}{te:TE}{S:Operator}{ti:TIp}{pos':Pos}(hN:X.N.Nodup)(hi:X.N[i]?=some x)(Z:Loc X.env.scope x)(he:PE X e te)(ho:PIp X S ti)(hf:X.fn x=true\/X.env.scope.names.lookup x=some .local:=by first | exact .inl rfl | exact .inr rfl | assumption) :
 PS X (.AugAssign (.Name x pos') S e pos) (tAug i te ti):=by
 intro pins s σ H D I h
 obtain ⟨v,e1,h⟩:=h
 obtain ⟨m,hn,hl⟩:=I.loc
 have W:Vis X.env.scope x:=by rcases Z with k | k;exact .inl k;exact .inr (.inl k)
 obtain ⟨u,r,l⟩:=hl i x v hi e1 W
 refine wpAny_AugAssign_Name ?_
 have go:Qq (Qt X.prog X.w) X.A (eval e X.env) (fun w J=>Qq (Qt X.prog X.w) X.A (inplaceOp S u w) (fun r G=>Qq (Qt X.prog X.w) X.A (storeName X.env x r) (fun _=>SP X pins D .next) X.xe G) X.xe J) X.xe s:=by
  refine Zt (he pins s σ H _ I h) fun w s1 U=>?_
  obtain ⟨y,H1,I1,r1,q1⟩:=U
  refine Zt (ho pins s1 σ H1 v y u w _ I1 r r1 q1) fun z s2 U=>?_
  obtain ⟨zv,H2,I2,r2,q2⟩:=U
  exact XR I2 hN hi Z r2 (fun s3 I3=>⟨_,H2,I3,q2⟩) hf
 rcases l with ⟨hk,hm⟩ | ⟨hk,c,hc,B⟩
 ·exact Pm I.ok.kind hk hn hm go
 ·rcases hk with hk | hk
  ·exact Ru I.ok.kind hk hc B go
  ·rcases Z with k | k
   ·have:X.env.scope.names.lookup x=some .free:=hk
    rw [k] at this;cases this
   ·have:X.env.scope.names.lookup x=some .free:=hk
    rw [k] at this;cases this
def ipI (f:Int->Int->Int):TIp:=fun x y H Q=>∃ i j,x=.int i/\y=.int j/\Q (.int (f i j)) H
theorem ZmG:PIp X .Add (ipI fun i j=>i+j):=by
 intro pins s σ H x y v u Q I J B h
 obtain ⟨i,j,e1,G,q⟩:=h
 subst e1;subst G
 obtain ⟨t,rfl⟩:=J
 obtain ⟨t',rfl⟩:=B
 exact iadd_int ⟨.int _,H,I.tok _,⟨_,rfl⟩,q⟩
end
section
variable {X:Cx}{pos:Pos}
def ZnP (c:TT)(tb:TS):TS:=fun D σ H=>∃ W:Nat->St->Hp->Prop,(∃ m,W m σ H)/\∀ m σ H,W m σ H ->
 c σ H fun b H1=>if b=true then ∃ N:St->Hp->Prop,(∀ σ' H',N σ' H'->∃ m',m' < m/\W m' σ' H')/\tb { D with nx:=N,ct:=N,bk:=D.nx } σ H1 else D.nx σ H1
theorem ZjX {c:Expr}{body:List Stmt}{tc:TT}{tb:TS}(hp:PassesOwn (Qt X.prog X.w) X.A X.env X.xe)(hc:PT X c tc)(hb:PSs X body tb):PS X (.While c body [] pos) (ZnP tc tb):=by
 intro pins s σ H D I h
 obtain ⟨W,⟨m0,w0⟩,U⟩:=h
 refine wpAny_While (codeAny_whileLoop (fun n s'=>∃ S H',Inv X pins S H' s'/\W n S H') ?_ m0 ⟨σ,H,I,w0⟩)
 rintro n s1 ⟨G,H1,I1,w1⟩
 refine GL hp (Zt (hc pins s1 G H1 _ I1 (U n G H1 w1)) fun b s2 zz=>?_)
 obtain ⟨H2,I2,q2⟩:=zz
 cases b with
 | true =>
  obtain ⟨N,hN,q2⟩:=q2
  rw [if_pos rfl]
  refine GL hp (Zt (hb pins s2 G H2 _ I2 q2) fun f s3 Z=>?_)
  cases f with
  | next =>
   obtain ⟨B,J,I3,n3⟩:=Z
   obtain ⟨m',hm,w3⟩:=hN B J n3
   exact ⟨m',hm,B,J,I3,w3⟩
  | cont =>
   obtain ⟨B,J,I3,n3⟩:=Z
   obtain ⟨m',hm,w3⟩:=hN B J n3
   exact ⟨m',hm,B,J,I3,w3⟩
  | brk=>exact Z
  | ret v=>exact Z
 | false =>
  rw [if_neg QH]
  exact Pu ⟨G,H2,I2,q2⟩
end
structure It where
 go:Nat->Hp->Prop
 yld:Nat->Hp->V->Hp->Prop
 stop:Nat->Hp->Prop
def Wo (X:Cx)(pins:List (Addr×Obj))(H:Hp)(b:Addr):Prop :=
 H b=none/\b≠X.env.locals/\b ∉ X.fs/\(b∈X.ex\/X.s₀.heap.objs.size<=b)/\(∀ x c,X.env.cells.lookup x=some c->c≠b)/\∀ p∈X.pn++pins,p.1≠b
theorem Inv.fpOk {X:Cx}{pins:List (Addr×Obj)}{σ:St}{H H':Hp}{s:Qd}{b:Addr}(I:Inv X pins σ H s)(hb:s.heap.objs.size<=b)(B:H' b=none):Wo X pins H' b:=by
 refine ⟨B,Jd (QB I.lt hb),I.nofs hb,.inr (Qr I.sz hb),fun x c e z=>?_,fun p hp z=>?_⟩
 ·obtain ⟨v,q⟩:=I.cell x c e
  exact absurd (QB q.lt (by rw [z];exact hb)) (GC _)
 ·exact absurd (QB (Qh (I.pin p hp).1) (by rw [z];exact hb)) (GC _)
structure ZaJ (P:Qi)(w:Qu)(K:Qa)(tg:Expr)(J:It)(fp:List Addr)(it:Addr)(tn:Nat->Heap->Prop):Prop where
 mem:it∈fp
 obj:∀ i h,tn i h->∀ b∈fp,∃ o,h.get? b=some o/\∀ v,o.data≠.cell v
 keep:∀ i h h',tn i h->(∀ b∈fp,∀ o,h.get? b=some o->h'.get? b=some o)->tn i h'
 item:∀ (X:Cx),X.prog=P->X.w=w->X.K=K->X.calm=true->∀ (i:Nat) (pins:List (Addr×Obj)) (s:Qd) (σ:St) (H:Hp) (E:Qb->Qd->Prop),Inv X pins σ H s->(∀ b∈fp,Wo X pins H b)->tn i s.heap->J.go i H ->
  Qq (Qt P w) X.A (pyNext (.ref it)) (fun r s1=>∃ u,r=some u /\
   Qq (Qt P w) X.A (Px tg (.ref it) u) (fun _ s2=>∃ x H',Inv X pins σ H' s2/\RelV x u/\J.yld i H x H'/\tn (i+1) s2.heap/\∀ b∈fp,H' b=none) E s1) E s
 done:∀ (X:Cx),X.prog=P->X.w=w->X.K=K->X.calm=true->∀ (i:Nat) (pins:List (Addr×Obj)) (s:Qd) (σ:St) (H:Hp) (E:Qb->Qd->Prop),Inv X pins σ H s->(∀ b∈fp,Wo X pins H b)->tn i s.heap->J.stop i H ->
  Qq (Qt P w) X.A (pyNext (.ref it)) (fun r s1=>r=none/\Inv X pins σ H s1) E s
 self:∀ (A:Qz) (i:Nat) (s:Qd) (Q:Qb->Qd->Prop) (E:Qb->Qd->Prop),tn i s.heap->Q (.ref it) s->Qq (Qt P w) A (pyIter (.ref it)) Q E s
abbrev TI:=St->Hp->(It->Hp->Prop)->Prop
def PIE (X:Cx)(pins:List (Addr×Obj))(σ:St)(tg:Expr)(R:It->Hp->Prop)(itv:Qb)(s2:Qd):Prop :=
 ∃ (it:Addr) (fp:List Addr) (tn:Nat->Heap->Prop) (J:It) (H':Hp),itv=.ref it/\Inv X pins σ H' s2/\ZaJ X.prog X.w X.K tg J fp it tn/\tn 0 s2.heap/\(∀ b∈fp,Wo X pins H' b)/\R J H'
def PI (X:Cx)(tg iter:Expr)(wi:TI):Prop :=
 ∀ (pins:List (Addr×Obj)) (s:Qd) (σ:St) (H:Hp) (R:It->Hp->Prop),Inv X pins σ H s->wi σ H R ->
  Qq (Qt X.prog X.w) X.A (eval iter X.env) (fun v s1=>Qq (Qt X.prog X.w) X.A (pyIter v) (PIE X pins σ tg R) X.xe s1) X.xe s
theorem Zdk {M:RB}{A:Qz}{E:Qb->Qd->Prop}{s:Qd}{tg:Expr}{G:Addr}{u:Qb}{o:Obj}{n:String}{vs:Array Qb}{Q:Unit->Qd->Prop}(U:s.heap.get? G=some o)(J:o.cls=.type n)(S:o.data=.fields vs)
   (I:["enumerate","zip","dict_itemiterator","dict_reverseitemiterator","odict_iterator","itertools.zip_longest","itertools.pairwise"].contains n=false) (B:Q () s):Qq M A (Px tg (.ref G) u) Q E s:=by
 unfold Px
 cases tg <;> first
   | exact Qx B
   | (cases u<;>first
       | exact Qx B
       | (refine Qf (wpAny_load U ?_)
          rw [J,S]
          show Qq M A (if (["enumerate","zip","dict_itemiterator","dict_reverseitemiterator","odict_iterator","itertools.zip_longest","itertools.pairwise"].contains n&&vs[0]? == some (Gb _))=true then _ else _) Q E s
          rw [if_neg (by intro h;rw [I,Bool.false_and] at h;cases h)]
          exact Qx B))
def Itl (K:Qa)(a:Addr):It :=
 ⟨fun i H=>∃ xs x,SqL K H a xs/\xs[i]?=some x,fun i H x H'=>H'=H/\∀ xs,SqL K H a xs->xs[i]?=some x,fun i H=>∃ xs,SqL K H a xs/\xs.length<=i⟩
def Itt (K:Qa)(a:Addr):It :=
 ⟨fun i H=>∃ xs x,SqT K H a xs/\xs[i]?=some x,fun i H x H'=>H'=H/\∀ xs,SqT K H a xs->xs[i]?=some x,fun i H=>∃ xs,SqT K H a xs/\xs.length<=i⟩
def Itr (lo:Int)(n:Nat):It:=⟨fun i _=>i < n,fun i H x H'=>H'=H/\x=.int (lo+i),fun i _=>n<=i⟩
theorem ZiR {P:Qi}{w:Qu}{K:Qa}{tg:Expr}(a B:Addr):ZaJ P w K tg (Itl K a) [B] B (fun i h=>h.IsListIter B a i) where
 mem:=by simp
 obj:=fun i h st b hb=>by
  have e:b=B:=by simpa using hb
  subst e
  obtain ⟨o,e,c,d⟩:=st
  exact ⟨o,e,fun v z=>by rw [d] at z;cases z⟩
 keep:=fun i h h' st k=>st.at fun o e=>k B (by simp) o e
 item:=by
  intro X Z hw hK hc i pins s σ H E I S st hg
  subst Z hw hK
  obtain ⟨xs,x,J,hx⟩:=hg
  obtain ⟨its,rv,p,hz⟩:=I.list J
  obtain ⟨u,hu,ru⟩:=rv.get hx
  obtain ⟨f0,f1,f2,f3,U,W⟩:=S B (by simp)
  refine wpAny_pyNext_list_item st p.isList (x:=u) (by simpa using hu) fun h' G sb=>?_
  have I1:Inv X pins σ H { s with heap:=h' }:=I.turned (t':=s.toks) (fun b o hb e=>(sb.2 b hb).trans e) f0 f1 f3 U W
  obtain ⟨o,e,c,d⟩:=id G
  exact ⟨u,rfl,Zdk (s:={ s with heap:=h' }) e c d (by decide) ⟨x,H,I1,ru,⟨rfl,fun ys hy=>by rw [I.list_inj hy J];exact hx⟩,G,fun b hb=>(S b hb).1⟩⟩
 done:=by
  intro X Z hw hK hc i pins s σ H E I S st hg
  subst Z hw hK
  obtain ⟨xs,J,hx⟩:=hg
  obtain ⟨its,rv,p,hz⟩:=I.list J
  obtain ⟨f0,f1,f2,f3,U,W⟩:=S B (by simp)
  have hl:=rv.length
  exact wpAny_pyNext_list_end (I.ok.hd hc) st p.isList (by simp;omega) fun h' eb=>⟨rfl,I.turned (t':=s.toks) (fun b o hb e=>eb b o hb e) f0 f1 f3 U W⟩
 self:=fun _ _ _ _ _ st h=>wpAny_pyIter_listiter st h
theorem ZgX {P:Qi}{w:Qu}{K:Qa}{tg:Expr}(a B:Addr):ZaJ P w K tg (Itt K a) [B] B (fun i h=>h.IsTupleIter B a i) where
 mem:=by simp
 obj:=fun i h st b hb=>by
  have e:b=B:=by simpa using hb
  subst e
  obtain ⟨o,e,c,d⟩:=st
  exact ⟨o,e,fun v z=>by rw [d] at z;cases z⟩
 keep:=fun i h h' st k=>st.at fun o e=>k B (by simp) o e
 item:=by
  intro X hP hw hK hc i pins s σ H E I U st hg
  subst hP hw hK
  obtain ⟨xs,x,S,hx⟩:=hg
  obtain ⟨G,rv,p,hz⟩:=I.tuple S
  obtain ⟨u,hu,ru⟩:=rv.get hx
  obtain ⟨f0,f1,f2,f3,W,Z⟩:=U B (by simp)
  refine wpAny_pyNext_tuple_item st (show s.heap.IsTuple a G.toArray from p) (x:=u) (by simpa using hu) fun h' J sb=>?_
  have I1:Inv X pins σ H { s with heap:=h' }:=I.turned (t':=s.toks) (fun b o hb e=>(sb.2 b hb).trans e) f0 f1 f3 W Z
  obtain ⟨o,e,c,d⟩:=id J
  exact ⟨u,rfl,Zdk (s:={ s with heap:=h' }) e c d (by decide) ⟨x,H,I1,ru,⟨rfl,fun ys hy=>by rw [I.tuple_inj hy S];exact hx⟩,J,fun b hb=>(U b hb).1⟩⟩
 done:=by
  intro X hP hw hK hc i pins s σ H E I U st hg
  subst hP hw hK
  obtain ⟨xs,S,hx⟩:=hg
  obtain ⟨G,rv,p,hz⟩:=I.tuple S
  obtain ⟨f0,f1,f2,f3,W,Z⟩:=U B (by simp)
  have hl:=rv.length
  exact wpAny_pyNext_tuple_end (I.ok.hd hc) st (show s.heap.IsTuple a G.toArray from p) (by simp;omega) fun h' eb=>⟨rfl,I.turned (t':=s.toks) (fun b o hb e=>eb b o hb e) f0 f1 f3 W Z⟩
 self:=fun _ _ _ _ _ st h=>wpAny_pyIter_tupleiter st h
theorem ZgW {P:Qi}{w:Qu}{K:Qa}{tg:Expr}(B:Addr)(lo:Int)(n:Nat):ZaJ P w K tg (Itr lo n) [B] B (fun i h=>IsRangeIter h B (lo+(i:Nat) * 1) ((n:Int) - (i:Nat)) 1) where
 mem:=by simp
 obj := fun i h st b hb=>by
  have e:b=B:=by simpa using hb
  subst e
  exact ⟨_,st,fun v z=>by
   have z':Data.fields _=Data.cell v:=z
   cases z'⟩
 keep:=fun i h h' st k=>k B (by simp) _ st
 item:=by
  intro X Z hw hK hc i pins s σ H E I J st hg
  subst Z hw hK
  obtain ⟨f0,f1,f2,f3,S,U⟩:=J B (by simp)
  have W:=Walks.range (prog:=X.prog) (w:=X.w) (I.ok.hd hc) B lo 1 n
  refine W.item i s _ _ hg st fun v h' tk hv G kk=>?_
  obtain ⟨t,rfl⟩:=hv
  have I1:Inv X pins σ H { s with heap:=h',toks:=tk }:=I.turned (fun b o hb e=>kk b o (by simpa using hb) e) f0 f1 f3 S U
  refine ⟨_,rfl,Zdk (s:={ s with heap:=h',toks:=tk }) (n:="range_iterator") G rfl rfl (by decide) ⟨.int (lo+i),H,I1,⟨t,?_⟩,⟨rfl,rfl⟩,G,fun b hb=>(J b hb).1⟩⟩
  rw [Int.mul_one]
 done:=by
  intro X Z hw hK hc i pins s σ H E I J st hg
  subst Z hw hK
  obtain ⟨f0,f1,f2,f3,S,U⟩:=J B (by simp)
  exact wpAny_pyNext_range_end (I.ok.hd hc) st (by have:n<=i:=hg;omega) fun h' eb=>⟨rfl,I.turned (t':=s.toks) (fun b o hb e=>eb b o hb e) f0 f1 f3 S U⟩
 self:=fun _ _ _ _ _ st h=>wpAny_pyIter_rangeiter st h
section
variable {X:Cx}{tg:Expr}
inductive Zff (K:Qa)(R:It->Hp->Prop)(x:V)(H1:Hp):Prop
 | mk (a:_):x=.ref a->(∃ xs,SqL K H1 a xs)->R (Itl K a) H1->Zff K R x H1
def Zon (K:Qa)(tl:TE):TI:=fun σ H R=>tl σ H fun x H1=>Zff K R x H1
inductive ZhC (K:Qa)(R:It->Hp->Prop)(x:V)(H1:Hp):Prop
 | mk (a:_):x=.ref a->(∃ xs,SqT K H1 a xs)->R (Itt K a) H1->ZhC K R x H1
def iTup (K:Qa)(tl:TE):TI:=fun σ H R=>tl σ H fun x H1=>ZhC K R x H1
theorem Zai {l:Expr}{tl:TE}(Z:PE X l tl):PI X tg l (Zon X.K tl):=by
 intro pins s σ H R I h
 refine Zt (Z pins s σ H _ I h) fun v s1 G=>?_
 obtain ⟨x,H1,B,U,J⟩:=G
 obtain ⟨a,e,⟨xs,W⟩,q⟩:=J
 subst e
 cases U
 obtain ⟨S,rv,p,hz⟩:=B.list W
 refine wpAny_pyIter_list p.isList ?_
 refine ⟨s1.heap.objs.size,[s1.heap.objs.size],_,_,H1,rfl,B.kept (t':=s1.toks) fun b o e=>Qe _ e,ZiR a _,⟨_,Qo _ rfl,rfl,rfl⟩,fun b hb=>?_,q⟩
 have e:b=s1.heap.objs.size:=by simpa using hb
 subst e
 exact B.fpOk (Qg _) (B.hok.fresh (Qg _))
theorem Zil {l:Expr}{tl:TE}(Z:PE X l tl):PI X tg l (iTup X.K tl):=by
 intro pins s σ H R I h
 refine Zt (Z pins s σ H _ I h) fun v s1 J=>?_
 obtain ⟨x,H1,B,U,S⟩:=J
 obtain ⟨a,e,⟨xs,W⟩,q⟩:=S
 subst e
 cases U
 obtain ⟨G,rv,p,hz⟩:=B.tuple W
 refine RQ (show s1.heap.IsTuple a G.toArray from p) ?_
 refine ⟨s1.heap.objs.size,[s1.heap.objs.size],_,_,H1,rfl,B.kept (t':=s1.toks) fun b o e=>Qe _ e,ZgX a _,⟨_,Qo _ rfl,rfl,rfl⟩,fun b hb=>?_,q⟩
 have e:b=s1.heap.objs.size:=by simpa using hb
 subst e
 exact B.fpOk (Qg _) (B.hok.fresh (Qg _))
theorem Zkb {pins:List (Addr×Obj)}{σ:St}{H:Hp}{s:Qd}{R:It->Hp->Prop}{E:Qb->Qd->Prop}{lo hi:Int}{t u v:Tok}{tk:Nat}(I:Inv X pins σ H s)(h1:-(2 ^ 62)<=lo)(h2:lo < 2 ^ 62)(J:-(2 ^ 62)<=hi)(G:hi < 2 ^ 62)
 (q:R (Itr lo (hi - lo).toNat) H):Qq (Qt X.prog X.w) X.A (pyIter (.ref s.heap.objs.size)) (PIE X pins σ tg R) E { s with heap:=s.heap.push { cls:=.type "range",data:=.fields #[.int lo t,.int hi u,.int 1 v] },toks:=tk }:=by
 refine wpAny_pyIter_range (IsRange.new ..) (small_one h1 h2 J G) ?_
 have B:Inv X pins σ H { s with heap:=s.heap.push { cls:=.type "range",data:=.fields #[.int lo t,.int hi u,.int 1 v] },toks:=tk }:=I.kept fun b o e=>Qe _ e
 refine ⟨(s.heap.push { cls:=.type "range",data:=.fields #[.int lo t,.int hi u,.int 1 v] }).objs.size,[(s.heap.push { cls:=.type "range",data:=.fields #[.int lo t,.int hi u,.int 1 v] }).objs.size],_,_,H,rfl,
  B.kept (t':=tk) fun b o e=>Qe _ e,ZgW _ lo (hi - lo).toNat,?_,fun b hb=>?_,q⟩
 ·have e1:lo+((0:Nat):Int) * 1=lo:=by simp
  have S:(((hi - lo).toNat:Nat):Int) - ((0:Nat):Int)=Builtin.Range.rangeSize lo hi 1:=by rw [rangeSize_one];split<;>omega
  show IsRangeIter _ _ (lo+((0:Nat):Int) * 1) ((((hi - lo).toNat:Nat):Int) - ((0:Nat):Int)) 1
  rw [e1,S]
  exact Qo _ rfl
 ·have e:b=(s.heap.push { cls:=.type "range",data:=.fields #[.int lo t,.int hi u,.int 1 v] }).objs.size:=by simpa using hb
  subst e
  exact B.fpOk (Qg _) (B.hok.fresh (Qg _))
inductive Zfg (R:It->Hp->Prop)(vs:List V)(H1:Hp):Prop
 | mk (j:Int):vs=[.int j]->-(2 ^ 62)<=j->j < 2 ^ 62->R (Itr 0 j.toNat) H1->Zfg R vs H1
def Zoo (ta:TA):TI:=fun σ H R=>ta σ H fun vs H1=>Zfg R vs H1
theorem XU {a:Expr}{ta:TA}{p pos:Pos}(W:Gl X "range")(S:X.mg "range"=none)(ha:PA X [a] ta)(Z:QA [a] X.env=[(false,eval a X.env)]:=by rfl):PI X tg (.Call (.Name "range" p) [a] [] pos) (Zoo ta):=by
 intro pins s σ H R I h
 refine Call_ (UD I W S boot_range (PP (Zt (ha pos pins s σ H _ I h) fun us s1 G=>?_) Z rfl))
 obtain ⟨vs,H1,U,J,B⟩:=G
 obtain ⟨j,e,B,q2,q⟩:=B
 subst e
 cases J with
 | cons r rr =>
  cases rr
  obtain ⟨t,rfl⟩:=r
  exact call_range_1 (Zkb U (by omega) (by omega) B q2 (by simpa using q))
def tFor (wi:TI)(g:TG)(tb:TS):TS:=fun D σ H=>wi σ H fun J H1=>∃ W:Nat->Nat->St->Hp->Prop,(∃ m,W 0 m σ H1)/\∀ i m σ H,W i m σ H ->
 (J.stop i H/\D.nx σ H)\/(J.go i H/\∃ N:St->Hp->Prop,(∀ σ' H',N σ' H'->∃ m',m' < m/\W (i+1) m' σ' H')/\∀ x H',J.yld i H x H'->g x σ H' fun σ2 H2=>tb { D with nx:=N,ct:=N,bk:=D.nx } σ2 H2)
def ZbD (fp:List Addr)(h:Heap):List (Addr×Obj):=fp.filterMap fun b=>(h.get? b).map fun o=>(b,o)
theorem XA {B:List Addr}{h:Heap}{b:Addr}{o:Obj}(hb:b∈B)(e:h.get? b=some o):(b,o)∈ZbD B h:=mem_filterMap.mpr ⟨b,hb,by rw [e];rfl⟩
theorem Zib {B:List Addr}{h:Heap}{p:Addr×Obj}(hp:p∈ZbD B h):p.1∈B/\h.get? p.1=some p.2:=by
 obtain ⟨b,hb,e⟩:=mem_filterMap.mp hp
 cases q:h.get? b with
 | none=>rw [q] at e;cases e
 | some o =>
  rw [q] at e
  have G:(b,o)=p:=QE e
  subst G
  exact ⟨hb,q⟩
theorem Inv.pinned {pins:List (Addr×Obj)}{σ:St}{H:Hp}{s:Qd}{B:List Addr}(I:Inv X pins σ H s)(U:∀ b∈B,Wo X pins H b)(Z:∀ b∈B,∃ o,s.heap.get? b=some o/\∀ v,o.data≠.cell v):Inv X (pins++ZbD B s.heap) σ H s :=
 I.pins_of fun p hp=>(mem_append.mp hp).elim (fun z=>I.pin p (mem_append_right _ z)) fun z=>by
  obtain ⟨hb,e⟩:=Zib z
  obtain ⟨W,J,S,_⟩:=U p.1 hb
  obtain ⟨o,G,d⟩:=Z p.1 hb
  rw [e] at G;cases G
  exact ⟨e,W,J,S,d⟩
theorem Inv.unpinned {pins pl:List (Addr×Obj)}{σ:St}{H:Hp}{s:Qd}(I:Inv X (pins++pl) σ H s):Inv X pins σ H s:=I.pins_of fun p hp=>I.pin p (mem_append_right _ (Pj _ hp))
theorem WH {iter:Expr}{body:List Stmt}{wi:TI}{g:TG}{tb:TS}{pos:Pos}(hp:PassesOwn (Qt X.prog X.w) X.A X.env X.xe)(hc:X.calm=true)(hi:PI X tg iter wi)(hg:PG X tg g)(hb:PSs X body tb)
 (hs:∀ x,GN iter X.env x=pure x:=by intro _;rfl):PS X (.For tg iter body [] pos) (tFor wi g tb):=by
 intro pins s σ H D I h
 refine wpAny_For (Zt (hi pins s σ H _ I h) fun v s1 h1=>Zt h1 fun itv s2 h2=>?_) hs
 obtain ⟨it,fp,tn,J,H2,e,I2,T,st2,f2,W,⟨m0,w0⟩,turn⟩:=h2
 subst e
 have Z:∀ {H':Hp},(∀ b∈fp,H' b=none)->∀ b∈fp,Wo X pins H' b:=fun hn b hb=>⟨hn b hb,(f2 b hb).2⟩
 refine codeAny_forLoop_any (fun n s'=>∃ i S H',Inv X pins S H' s'/\tn i s'.heap/\(∀ b∈fp,H' b=none)/\W i n S H') ?_ m0 ⟨0,σ,H2,I2,st2,fun b hb=>(f2 b hb).1,w0⟩
 rintro n s3 ⟨i,U,H3,I3,st3,fr3,w3⟩
 rcases turn i n U H3 w3 with ⟨stop,qn⟩ | ⟨go,N,hN,step⟩
 ·refine GL hp (Zt (T.done X rfl rfl rfl hc i pins s3 U H3 X.xe I3 (Z fr3) st3 stop) fun r s4 ⟨hr,I4⟩=>?_)
  subst hr
  exact Pu ⟨U,H3,I4,qn⟩
 ·refine GL hp (Zt (T.item X rfl rfl rfl hc i pins s3 U H3 X.xe I3 (Z fr3) st3 go) fun r s4 zz=>?_)
  obtain ⟨u,hr,h4⟩:=zz
  subst hr
  refine GL hp (Zt h4 fun _ s5 zz=>?_)
  obtain ⟨x,H5,I5,r5,y5,st5,fr5⟩:=zz
  have I5':=I5.pinned (Z fr5) (T.obj _ _ st5)
  refine GL hp (Zt (hg _ s5 U H5 x u _ I5' r5 (step x H5 y5)) fun _ s6 zz=>?_)
  obtain ⟨σ6,H6,I6,q6⟩:=zz
  refine GL hp (Zt (hb _ s6 σ6 H6 _ I6 q6) fun f s7 q7=>?_)
  have again:∀ {B:St} {G:Hp},Inv X (pins++ZbD fp s5.heap) B G s7->N B G->∃ m,m < n/\∃ i S H',Inv X pins S H' s7/\tn i s7.heap/\(∀ b∈fp,H' b=none)/\W i m S H':=fun {B G} I7 n7=>by
   obtain ⟨m',hm,w7⟩:=hN B G n7
   refine ⟨m',hm,i+1,B,G,I7.unpinned,T.keep _ _ _ st5 fun b hb o e=>(I7.pin (b,o) (mem_append_right _ (mem_append_right _ (XA hb e)))).1,fun b hb=>?_,w7⟩
   obtain ⟨o,e,d⟩:=T.obj _ _ st5 b hb
   exact (I7.pin (b,o) (mem_append_right _ (mem_append_right _ (XA hb e)))).2.1
  cases f with
  | next=>obtain ⟨B,G,I7,n7⟩:=q7;exact again I7 n7
  | cont=>obtain ⟨B,G,I7,n7⟩:=q7;exact again I7 n7
  | brk=>obtain ⟨B,G,I7,q7⟩:=q7;exact ⟨B,G,I7.unpinned,q7⟩
  | ret v=>obtain ⟨x7,B,G,I7,r7,q7⟩:=q7;exact ⟨x7,B,G,I7.unpinned,r7,q7⟩
end
theorem ZdS {K:Qa}{a:Addr}{xs:List V}{g:TG}{tb:TS}{D:Yl}{σ:St}{H:Hp}(B:Nat->St->Hp->Prop)(h0:B 0 σ H)(U:∀ i σ H,i<=xs.length->B i σ H->SqL K H a xs)
 (hs:∀ i x σ H,xs[i]?=some x->B i σ H->g x σ H fun G H2=>tb { D with nx:=B (i+1),ct:=B (i+1),bk:=D.nx } G H2) (Z:∀ σ H,B xs.length σ H->D.nx σ H) :
 ∃ W:Nat->Nat->St->Hp->Prop,(∃ m,W 0 m σ H)/\∀ i m σ H,W i m σ H ->
  ((Itl K a).stop i H/\D.nx σ H)\/((Itl K a).go i H/\∃ N:St->Hp->Prop,(∀ I H',N I H'->∃ S,S < m/\W (i+1) S I H')/\∀ x H',(Itl K a).yld i H x H'->g x σ H' fun G H2=>tb { D with nx:=N,ct:=N,bk:=D.nx } G H2):=by
 refine ⟨fun i m σ H=>m=xs.length - i/\i<=xs.length/\B i σ H,⟨xs.length,by simp,QC _,h0⟩,?_⟩
 rintro i m σ H ⟨rfl,hi,p⟩
 have q:=U i σ H hi p
 by_cases J:i < xs.length
 ·refine .inr ⟨⟨xs,xs[i],q,by simp [J]⟩,B (i+1),fun I H' p'=>⟨xs.length - (i+1),by omega,rfl,J,p'⟩,fun x H' y=>?_⟩
  obtain ⟨e,y⟩:=y
  subst e
  exact hs i x σ _ (y xs q) p
 ·have e:i=xs.length:=by omega
  subst e
  exact .inl ⟨⟨xs,q,Qg _⟩,Z σ H p⟩
theorem Uq {lo:Int}{n:Nat}{g:TG}{tb:TS}{D:Yl}{σ:St}{H:Hp}(B:Nat->St->Hp->Prop)(h0:B 0 σ H)
 (Z:∀ i σ H,i < n->B i σ H->g (.int (lo+i)) σ H fun G H2=>tb { D with nx:=B (i+1),ct:=B (i+1),bk:=D.nx } G H2) (U:∀ σ H,B n σ H->D.nx σ H) :
 ∃ W:Nat->Nat->St->Hp->Prop,(∃ m,W 0 m σ H)/\∀ i m σ H,W i m σ H ->
  ((Itr lo n).stop i H/\D.nx σ H)\/((Itr lo n).go i H/\∃ N:St->Hp->Prop,(∀ I H',N I H'->∃ S,S < m/\W (i+1) S I H')/\∀ x H',(Itr lo n).yld i H x H'->g x σ H' fun G H2=>tb { D with nx:=N,ct:=N,bk:=D.nx } G H2):=by
 refine ⟨fun i m σ H=>m=n - i/\i<=n/\B i σ H,⟨n,by simp,QC _,h0⟩,?_⟩
 rintro i m σ H ⟨rfl,hi,p⟩
 by_cases J:i < n
 ·refine .inr ⟨J,B (i+1),fun I H' p'=>⟨n - (i+1),by omega,rfl,J,p'⟩,fun x H' y=>?_⟩
  obtain ⟨e,y⟩:=y
  subst e y
  exact Z i σ _ J p
 ·have e:i=n:=by omega
  subst e
  exact .inl ⟨Qg _,U σ H p⟩
abbrev R2:=V->V->Hp->VK->Prop
def Xt (X:Cx)(f:Qb->Qb->Sem Qb)(r:R2):Prop :=
 ∀ (pins:List (Addr×Obj)) (s:Qd) (σ:St) (H:Hp) (x y:V) (v u:Qb) (Q:VK),Inv X pins σ H s->RelV x v->RelV y u->r x y H Q ->
  Qq (Qt X.prog X.w) X.A (f v u) (EP X pins σ Q) X.xe s
def UnR (X:Cx)(f:Qb->Sem Qb)(r:V->Hp->VK->Prop):Prop :=
 ∀ (pins:List (Addr×Obj)) (s:Qd) (σ:St) (H:Hp) (x:V) (v:Qb) (Q:VK),Inv X pins σ H s->RelV x v->r x H Q ->
  Qq (Qt X.prog X.w) X.A (f v) (EP X pins σ Q) X.xe s
def Yt (X:Cx)(f:Qb)(r:List V->Hp->VK->Prop):Prop :=
 ∀ (pins:List (Addr×Obj)) (s:Qd) (σ:St) (H:Hp) (xs:List V) (us:List Qb) (Q:VK),Inv X pins σ H s->Vals xs us->r xs H Q ->
  Qq (Qt X.prog X.w) X.A (call f us) (EP X pins σ Q) X.xe s
def TruR (X:Cx)(r:V->Hp->(Bool->Hp->Prop)->Prop):Prop :=
 ∀ (pins:List (Addr×Obj)) (s:Qd) (σ:St) (H:Hp) (x:V) (v:Qb) (Q:Bool->Hp->Prop),Inv X pins σ H s->RelV x v->r x H Q ->
  Qq (Qt X.prog X.w) X.A (truthy v) (TP X pins σ Q) X.xe s
def tOp (r:R2)(ta tb:TE):TE:=fun σ H Q=>ta σ H fun x H1=>tb σ H1 fun y H2=>r x y H2 Q
def tUn (r:V->Hp->VK->Prop)(ta:TE):TE:=fun σ H Q=>ta σ H fun x H1=>r x H1 Q
inductive rI_R (C:Int->Int->Prop)(g:Int->Int->V)(x y:V)(H:Hp)(Q:VK):Prop
 | mk (i j:_):x=.int i->y=.int j->C i j->Q (g i j) H->rI_R C g x y H Q
def rI (C:Int->Int->Prop)(g:Int->Int->V):R2:=fun x y H Q=>rI_R C g x y H Q
inductive ZkG (g:Int->Int->V)(x y:V)(H:Hp)(Q:VK):Prop
 | mk (i j:_):x=.int i->y=.int j->Q (g i j) H->ZkG g x y H Q
def rI0 (g:Int->Int->V):R2:=fun x y H Q=>ZkG g x y H Q
inductive rU_R (g:Int->V)(x:V)(H:Hp)(Q:VK):Prop
 | mk (i:_):x=.int i->Q (g i) H->rU_R g x H Q
def rU (g:Int->V):V->Hp->VK->Prop:=fun x H Q=>rU_R g x H Q
section
variable {X:Cx}{a b c:Expr}{ta tb tc:TE}{pos:Pos}
theorem Zjc (ha:PE X a ta)(hb:PE X b tb){pins:List (Addr×Obj)}{s:Qd}{σ:St}{H:Hp}{R:V->V->Hp->Prop}(I:Inv X pins σ H s)
 (h:ta σ H fun x H1=>tb σ H1 fun y H2=>R x y H2) {Q:Qb->Qd->Prop} {f:Qb->Qb->Sem Qb}
 (W:∀ v u s2 x y H2,Inv X pins σ H2 s2->RelV x v->RelV y u->R x y H2->Qq (Qt X.prog X.w) X.A (f v u) Q X.xe s2) :
 Qq (Qt X.prog X.w) X.A (eval a X.env) (fun v G=>Qq (Qt X.prog X.w) X.A (eval b X.env) (fun u B=>Qq (Qt X.prog X.w) X.A (f v u) Q X.xe B) X.xe G) X.xe s:=by
 refine Zt (ha pins s σ H _ I h) fun v s1 J=>?_
 obtain ⟨x,H1,I1,Z,S⟩:=J
 refine Zt (hb pins s1 σ H1 _ I1 S) fun u s2 J=>?_
 obtain ⟨y,H2,I2,U,q2⟩:=J
 exact W v u s2 x y H2 I2 Z U q2
theorem Zw {B:Operator}{r:R2}(J:Xt X (JN B) r)(W:PE X a ta)(hb:PE X b tb):PE X (.BinOp a B b pos) (tOp r ta tb):=by
 intro pins s σ H Q I h
 exact wpAny_BinOp (Zjc W hb I h fun v u s2 x y H2 U G S q=>J pins s2 σ H2 x y v u Q U G S q)
theorem ZkB {B:UnaryOp}{r:V->Hp->VK->Prop}(W:UnR X (unaryOp B) r)(U:PE X a ta):PE X (.UnaryOp B a pos) (tUn r ta):=by
 intro pins s σ H Q I h
 exact UnaryOp_ (Zt (U pins s σ H _ I h) fun v s1 ⟨x,H1,S,J,G⟩=>W pins s1 σ H1 x v Q S J G)
theorem opI {f:Qb->Qb->Sem Qb}{C:Int->Int->Prop}{g:Int->Int->Int}
 (rule:∀ (i j:Int) (t u:Tok) (s:Qd) (Q:Qb->Qd->Prop) (E:Qb->Qd->Prop),C i j->Q (.int (g i j) s.toks) { s with toks:=s.toks+1 }->Qq (Qt X.prog X.w) X.A (f (.int i t) (.int j u)) Q E s) :
 Xt X f (rI C fun i j=>.int (g i j)):=by
 intro pins s σ H x y v u Q I G J h
 obtain ⟨i,j,rfl,rfl,B,q⟩:=h
 obtain ⟨t,rfl⟩:=G
 obtain ⟨t',rfl⟩:=J
 exact rule i j t t' s _ _ B ⟨.int (g i j),H,I.tok _,⟨_,rfl⟩,q⟩
theorem opI0 {f:Qb->Qb->Sem Qb}{g:Int->Int->Int}
 (rule:∀ (i j:Int) (t u:Tok) (s:Qd) (Q:Qb->Qd->Prop) (E:Qb->Qd->Prop),Q (.int (g i j) s.toks) { s with toks:=s.toks+1 }->Qq (Qt X.prog X.w) X.A (f (.int i t) (.int j u)) Q E s) :
 Xt X f (rI0 fun i j=>.int (g i j)):=by
 intro pins s σ H x y v u Q I G B h
 obtain ⟨i,j,rfl,rfl,q⟩:=h
 obtain ⟨t,rfl⟩:=G
 obtain ⟨t',rfl⟩:=B
 exact rule i j t t' s _ _ ⟨.int (g i j),H,I.tok _,⟨_,rfl⟩,q⟩
theorem Zgr {f:Qb->Qb->Sem Qb}{g:Int->Int->Bool}
 (rule:∀ (i j:Int) (t u:Tok) (s:Qd) (Q:Qb->Qd->Prop) (E:Qb->Qd->Prop),Q (.bool (g i j)) s->Qq (Qt X.prog X.w) X.A (f (.int i t) (.int j u)) Q E s) :
 Xt X f (rI0 fun i j=>.bl (g i j)):=by
 intro pins s σ H x y v u Q I G B h
 obtain ⟨i,j,rfl,rfl,q⟩:=h
 obtain ⟨t,rfl⟩:=G
 obtain ⟨t',rfl⟩:=B
 exact rule i j t t' s _ _ ⟨.bl (g i j),H,I,rfl,q⟩
def CDiv (i j:Int):Prop:=0 < j/\j < 1073741824
def CPow (i j:Int):Prop:=0<=j/\j<=1000000/\i.natAbs < 2 ^ 64
def CMul (i j:Int):Prop:=(-(2 ^ 64) < i/\i < 2 ^ 64)\/(-(2 ^ 64) < j/\j < 2 ^ 64)
theorem CMul.ok {i j:Int}(h:CMul i j):IntMulOk i j:=by
 rcases h with ⟨h1,h2⟩ | ⟨h1,h2⟩
 ·exact .of_left (intBits_le_64 h1 h2)
 ·exact .of_right (intBits_le_64 h1 h2)
theorem Yy:Xt X (JN .Add) (rI0 fun i j=>.int (i+j)):=opI0 fun _ _ _ _ _ _ _ q=>add_int q
theorem Xm:Xt X (JN .Sub) (rI0 fun i j=>.int (i - j)):=opI0 fun _ _ _ _ _ _ _ q=>sub_int q
theorem WF:Xt X (JN .Mult) (rI CMul fun i j=>.int (i * j)):=opI fun _ _ _ _ _ _ _ B q=>mul_int q B.ok
theorem Zfw:Xt X (JN .FloorDiv) (rI CDiv fun i j=>.int (i / j)):=opI fun i j _ _ _ _ _ B q=>by
 have h1:(0:Int) < j:=B.1
 have h2:j < 1073741824:=B.2
 exact floordiv_int (by omega) (by rw [Ju i (by omega)];exact q) (.inl (Sk (by omega)))
theorem XL:Xt X (JN .Mod) (rI (fun _ j=>0 < j) fun i j=>.int (i % j)):=opI fun i j _ _ _ _ _ B q=>by
 have h1:(0:Int) < j:=B
 exact mod_int' (by omega) (by rw [Tf i (by omega)];exact q)
theorem ZbC:Xt X (JN .Pow) (rI CPow fun i j=>.int (i ^ j.toNat)):=opI fun _ _ _ _ _ _ _ B q=>pow_int_small B.1 B.2.1 B.2.2 q
theorem unI {f:Qb->Sem Qb}{g:Int->Int}
 (rule:∀ (i:Int) (t:Tok) (s:Qd) (Q:Qb->Qd->Prop) (E:Qb->Qd->Prop),Q (.int (g i) s.toks) { s with toks:=s.toks+1 }->Qq (Qt X.prog X.w) X.A (f (.int i t)) Q E s) :
 UnR X f (rU fun i=>.int (g i)):=by
 intro pins s σ H x v Q I B h
 obtain ⟨i,rfl,q⟩:=h
 obtain ⟨t,rfl⟩:=B
 exact rule i t s _ _ ⟨.int (g i),H,I.tok _,⟨_,rfl⟩,q⟩
theorem ZiT:UnR X (unaryOp .USub) (rU fun i=>.int (-i)):=unI fun _ _ _ _ _ q=>neg_int q
end
def scal:V->V->Bool
 | .non,.non=>true | .non,.int _=>true | .int _,.non=>true | .non,.bl _=>true | .bl _,.non=>true | .non,.str _=>true | .str _,.non=>true
 | .int _,.int _=>true | .bl _,.bl _=>true | .str _,.str _=>true | .byt _,.byt _=>true
 | .int _,.str _=>true | .str _,.int _=>true | .bl _,.str _=>true | .str _,.bl _=>true
 | _,_=>false
def rEq:R2:=fun x y H Q=>scal x y=true/\Q (.bl (decide (x=y))) H
def rNe:R2:=fun x y H Q=>scal x y=true/\Q (.bl (!decide (x=y))) H
theorem ZeY {i j:Int}:decide (V.int i=V.int j)=(i == j):=by
 rw [Py]
 simp
theorem Zhv {i j:Bool}:decide (V.bl i=V.bl j)=(i == j):=by
 rw [Py]
 simp
theorem ZeZ {i j:Str}:decide (V.str i=V.str j)=(i == j):=by
 rw [Py]
 simp
theorem ZeX {i j:Array UInt8}:decide (V.byt i=V.byt j)=(i.toList == j.toList):=by
 rw [Py]
 cases i
 cases j
 simp
section
variable {X:Cx}{a b c:Expr}{ta tb tc:TE}{pos:Pos}
theorem ZS {pins:List (Addr×Obj)}{σ:St}{H:Hp}{s:Qd}{Q:VK}{k B:Bool}(I:Inv X pins σ H s)(q:Q (.bl k) H)(e:k=B):EP X pins σ Q (.bool B) s:=by
 subst e
 exact ⟨.bl k,H,I,rfl,q⟩
theorem YX:Xt X (GK .Eq) rEq:=by
 intro pins s σ H x y v u Q I J B h
 obtain ⟨G,q⟩:=h
 cases x with
 | non =>
  cases J
  cases y with
  | non=>cases B;exact PySem.EqNone.eq_none_none (ZS I q (by simp))
  | bl j=>cases B;exact PySem.EqNone.eq_none_bool (ZS I q (by simp))
  | int j=>obtain ⟨t',rfl⟩:=B;exact PySem.EqNone.eq_none_int (ZS I q (by simp))
  | str j=>obtain ⟨t',rfl⟩:=B;exact PySem.EqNone.eq_none_str (ZS I q (by simp))
  | _=>exact absurd (show false=true from G) QH
 | bl i =>
  cases J
  cases y with
  | non=>cases B;exact PySem.EqNone.eq_bool_none (ZS I q (by simp))
  | bl j=>cases B;exact eq_bool (ZS I q Zhv)
  | str j=>obtain ⟨t',rfl⟩:=B;exact PySem.EqMixed.eq_bool_str (ZS I q (by simp))
  | _=>exact absurd (show false=true from G) QH
 | int i =>
  obtain ⟨t,rfl⟩:=J
  cases y with
  | non=>cases B;exact PySem.EqNone.eq_int_none (ZS I q (by simp))
  | int j=>obtain ⟨t',rfl⟩:=B;exact eq_int (ZS I q ZeY)
  | str j=>obtain ⟨t',rfl⟩:=B;exact PySem.EqMixed.eq_int_str (ZS I q (by simp))
  | _=>exact absurd (show false=true from G) QH
 | str i =>
  obtain ⟨t,rfl⟩:=J
  cases y with
  | non=>cases B;exact PySem.EqNone.eq_str_none (ZS I q (by simp))
  | bl j=>cases B;exact PySem.EqMixed.eq_str_bool (ZS I q (by simp))
  | int j=>obtain ⟨t',rfl⟩:=B;exact PySem.EqMixed.eq_str_int (ZS I q (by simp))
  | str j=>obtain ⟨t',rfl⟩:=B;exact eq_str (ZS I q ZeZ)
  | _=>exact absurd (show false=true from G) QH
 | byt i =>
  obtain ⟨t,rfl⟩:=J
  cases y with
  | byt j=>obtain ⟨t',rfl⟩:=B;exact PySem.W.eq_bytes (ZS I q ZeX)
  | _=>exact absurd (show false=true from G) QH
 | _=>cases y<;>exact absurd (show false=true from G) QH
theorem XB:Xt X (GK .NotEq) rNe:=by
 intro pins s σ H x y v u Q I J B h
 obtain ⟨G,q⟩:=h
 cases x with
 | non =>
  cases J
  cases y with
  | non=>cases B;exact PySem.EqNone.ne_none_none (ZS I q (by simp))
  | bl j=>cases B;exact PySem.EqNone.ne_none_bool (ZS I q (by simp))
  | int j=>obtain ⟨t',rfl⟩:=B;exact PySem.EqNone.ne_none_int (ZS I q (by simp))
  | str j=>obtain ⟨t',rfl⟩:=B;exact PySem.EqNone.ne_none_str (ZS I q (by simp))
  | _=>exact absurd (show false=true from G) QH
 | bl i =>
  cases J
  cases y with
  | non=>cases B;exact PySem.EqNone.ne_bool_none (ZS I q (by simp))
  | bl j=>cases B;exact ne_bool (ZS I q (congrArg not Zhv))
  | str j=>obtain ⟨t',rfl⟩:=B;exact PySem.EqMixed.ne_bool_str (ZS I q (by simp))
  | _=>exact absurd (show false=true from G) QH
 | int i =>
  obtain ⟨t,rfl⟩:=J
  cases y with
  | non=>cases B;exact PySem.EqNone.ne_int_none (ZS I q (by simp))
  | int j=>obtain ⟨t',rfl⟩:=B;exact ne_int (ZS I q (congrArg not ZeY))
  | str j=>obtain ⟨t',rfl⟩:=B;exact PySem.EqMixed.ne_int_str (ZS I q (by simp))
  | _=>exact absurd (show false=true from G) QH
 | str i =>
  obtain ⟨t,rfl⟩:=J
  cases y with
  | non=>cases B;exact PySem.EqNone.ne_str_none (ZS I q (by simp))
  | bl j=>cases B;exact PySem.EqMixed.ne_str_bool (ZS I q (by simp))
  | int j=>obtain ⟨t',rfl⟩:=B;exact PySem.EqMixed.ne_str_int (ZS I q (by simp))
  | str j=>obtain ⟨t',rfl⟩:=B;exact ne_str (ZS I q (congrArg not ZeZ))
  | _=>exact absurd (show false=true from G) QH
 | byt i =>
  obtain ⟨t,rfl⟩:=J
  cases y with
  | byt j=>obtain ⟨t',rfl⟩:=B;exact PySem.W.ne_bytes (ZS I q (congrArg not ZeX))
  | _=>exact absurd (show false=true from G) QH
 | _=>cases y<;>exact absurd (show false=true from G) QH
theorem Zdm:Xt X (GK .Lt) (rI0 fun i j=>.bl (decide (i < j))):=Zgr fun _ _ _ _ _ _ _ q=>lt_int q
theorem ZkA:Xt X (GK .LtE) (rI0 fun i j=>.bl (decide (i<=j))):=Zgr fun _ _ _ _ _ _ _ q=>le_int q
theorem Zow:Xt X (GK .Gt) (rI0 fun i j=>.bl (decide (j < i))):=Zgr fun _ _ _ _ _ _ _ q=>gt_int q
theorem Zov:Xt X (GK .GtE) (rI0 fun i j=>.bl (decide (j<=i))):=Zgr fun _ _ _ _ _ _ _ q=>ge_int q
theorem ZL (b:Expr){B:CmpOp}(h:B≠.In:=by decide)(h2:B≠.NotIn:=by decide):Jl B b=false:=by
 have e1:(B == CmpOp.In)=false:=by cases B<;>first | rfl | exact absurd rfl h
 have G:(B == CmpOp.NotIn)=false:=by cases B<;>first | rfl | exact absurd rfl h2
 cases b<;>simp [Jl,e1,G]
theorem Zag {B:CmpOp}{r:R2}(J:Xt X (GK B) r)(Z:PE X a ta)(hb:PE X b tb)(S:Jl B b=false):PE X (.Compare a [B] [b] pos) (tOp r ta tb):=by
 intro pins s σ H Q I h
 exact wpAny_Compare1 (Zjc Z hb I h fun v u s2 x y H2 W G U q=>J pins s2 σ H2 x y v u Q W G U q) S
def ZgT (t:TE):TT:=fun σ H Q=>t σ H fun x H'=>∃ k,x=.bl k/\Q k H'
theorem ZK {B:CmpOp}{r:R2}(ho:Xt X (GK B) r)(ha:PE X a ta)(hb:PE X b tb)(hm:Jl B b=false):PT X (.Compare a [B] [b] pos) (ZgT (tOp r ta tb)):=by
 intro pins s σ H Q I h
 refine SH (Zt (ha pins s σ H _ I h) fun v s1 ⟨x,H1,I1,Z,G⟩=>Zt (hb pins s1 σ H1 _ I1 G) fun u s2 ⟨y,H2,I2,U,q2⟩ =>
  Zt (ho pins s2 σ H2 x y v u _ I2 Z U q2) fun c s3 ⟨z,S,I3,J,k,e,W⟩=>?_) hm
 subst e
 cases J
 exact Gw ⟨S,I3,W⟩
def ZnE (r r':R2)(ta tb tc:TE):TE:=fun σ H Q=>ta σ H fun x H1=>tb σ H1 fun y H2=>r x y H2 fun z H3=>∃ k,z=.bl k /\
 (if k=true then tc σ H3 fun w' H4=>r' y w' H4 Q else Q (.bl false) H3)
theorem Zej {G B:CmpOp}{r r':R2}(ho:Xt X (GK G) r)(S:Xt X (GK B) r')(ha:PE X a ta)(hb:PE X b tb)(hc:PE X c tc)
 (hm:lastMarks [G,B] [b,c]=false:=by with_unfolding_all rfl):PT X (.Compare a [G,B] [b,c] pos) (ZgT (ZnE r r' ta tb tc)):=by
 intro pins s σ H Q I h
 refine isTrue_chain (Zt (ha pins s σ H _ I h) fun v s1 ⟨x,H1,I1,r1,q1⟩=>test_link (Zt (hb pins s1 σ H1 _ I1 q1) fun u s2 ⟨y,H2,I2,W,q2⟩ =>
  Zt (ho pins s2 σ H2 x y v u _ I2 r1 W q2) fun d s3 ⟨z,U,I3,r3,k,e,Z⟩=>?_)) hm
 subst e
 cases r3
 refine Gw ?_
 cases k with
 | false =>
  obtain ⟨k',e',q'⟩:=Z
  cases e'
  exact ite_ff ⟨U,I3,q'⟩
 | true =>
  refine ite_tt (test_last (Zt (hc pins s3 σ U _ I3 Z) fun w' s4 J=>?_))
  obtain ⟨z',H4,I4,r4,q4⟩:=J
  refine Zt (S pins s4 σ H4 y z' u w' _ I4 W r4 q4) fun d' s5 J=>?_
  obtain ⟨z2,H5,I5,r5,k2,e2,q5⟩:=J
  subst e2
  cases r5
  exact Gw ⟨H5,I5,q5⟩
def TruV (K:Qa)(x:V)(H:Hp)(k:Bool):Prop :=
 match x with
 | .non=>k=false
 | .bl b=>k=b
 | .int i=>k=(i != 0)
 | .str y=>y.length<=Qj/\k=((y.length:Int) != 0)
 | .byt y=>y.size<=Qj/\k=((y.size:Int) != 0)
 | .ref p=>(∃ xs,SqL K H p xs/\k=!xs.isEmpty)\/(∃ xs,SqT K H p xs/\k=!xs.isEmpty)\/∃ kvs,H p=some (.dK kvs)/\k=!kvs.isEmpty
 | _=>False
theorem Zgl {κ:Type}{kvs:List (κ×V)}{vs:List (κ×Qb)}(r:KV kvs vs):(!vs.isEmpty)=!kvs.isEmpty:=by
 cases r<;>rfl
theorem Zbu {xs:List V}{B:List Qb}(r:Vals xs B):(!B.toArray.isEmpty)=!xs.isEmpty:=by
 cases r<;>simp
theorem Uf:(Qj:Nat) < 2 ^ 63:=by rw [QV];decide
theorem ZnW:TruR X (fun x H Q=>∃ k,TruV X.K x H k/\Q k H):=by
 intro pins s σ H x v Q I J h
 obtain ⟨k,e,q⟩:=h
 have hl:=Uf
 have hs:Qj=16777216:=QV
 cases x with
 | non =>
  cases J
  have B:k=false:=e
  subst B
  exact truthy_none ⟨H,I,q⟩
 | bl b =>
  cases J
  have B:k=b:=e
  subst B
  exact Gw ⟨H,I,q⟩
 | int i =>
  obtain ⟨t,rfl⟩:=J
  have B:k=(i != 0):=e
  subst B
  exact PySem.P.truthy_int ⟨H,I,q⟩
 | str y =>
  obtain ⟨t,rfl⟩:=J
  obtain ⟨hy,B⟩:y.length<=Qj/\k=((y.length:Int) != 0):=e
  subst B
  exact PySem.P.truthy_str (by omega) ⟨H,I.tok _,q⟩
 | byt y =>
  obtain ⟨t,rfl⟩:=J
  obtain ⟨hy,B⟩:y.size<=Qj/\k=((y.size:Int) != 0):=e
  subst B
  exact PySem.W.truthy_bytes (by omega) ⟨H,I.tok _,q⟩
 | ref p =>
  cases J
  have B:(∃ xs,SqL X.K H p xs/\k=!xs.isEmpty)\/(∃ xs,SqT X.K H p xs/\k=!xs.isEmpty)\/∃ kvs,H p=some (.dK kvs)/\k=!kvs.isEmpty:=e
  rcases B with ⟨xs,S,B⟩ | ⟨xs,S,B⟩ | ⟨kvs,S,B⟩
  ·subst B
   obtain ⟨U,r,pl,Z⟩:=I.list S
   have G:=r.length
   exact wpAny_truthy_list pl.isList (by simp only [size_toArray];omega) ⟨H,I.tok _,by rw [Zbu r];exact q⟩
  ·subst B
   obtain ⟨U,r,pl,Z⟩:=I.tuple S
   have G:=r.length
   exact truthy_tuple pl (by simp only [size_toArray];omega) ⟨H,I.tok _,by rw [Zbu r];exact q⟩
  ·subst B
   obtain ⟨Z,hS,vs,r,m⟩:kvs.length<=Qj/\(p == GU)=false/\∃ vs,KV kvs vs/\s.heap.DictOf (ZG X.prog X.w) p vs:=I.hok p _ S
   have G:kvs.length=vs.length:=GT r
   exact wpAny_truthy_dict hS m (by omega) ⟨H,I.tok _,by rw [Zgl r];exact q⟩
 | _=>exact (show False from e).elim
theorem Vm (W:PE X a ta)(U:∀ B,isTrue a X.env B=(do let v <- B;Tr a.pos;JM [v] (truthy v))) :
 PT X a (fun σ H Q=>ta σ H fun x H'=>∃ k,TruV X.K x H' k/\Q k H'):=by
 intro pins s σ H Q I h
 exact isTrue_plain (Zt (W pins s σ H _ I h) fun v s1 ⟨x,H1,S,J,G⟩=>ZnW pins s1 σ H1 x v Q S J G) (U _)
theorem Vh:Xt X (JN .Add) (fun x y H Q=>∃ i j,x=.str i/\y=.str j/\i.length+j.length<=Qj/\Q (.str (i++j)) H):=by
 intro pins s σ H x y v u Q I B J h
 obtain ⟨i,j,rfl,rfl,G,q⟩:=h
 obtain ⟨t,rfl⟩:=B
 obtain ⟨t',rfl⟩:=J
 exact add_str (fun t' tk=>⟨.str (i++j),H,I.tok _,⟨_,rfl⟩,q⟩) G
theorem Yq {x:V}{us:List Qb}(r:Vals [x] us):∃ u,us=[u]/\RelV x u:=by
 cases r with
 | cons r1 r2=>cases r2;exact ⟨_,rfl,r1⟩
theorem ZdA {x y:V}{us:List Qb}(r:Vals [x,y] us):∃ u B,us=[u,B]/\RelV x u/\RelV y B:=by
 cases r with
 | cons r1 r2 =>
  cases r2 with
  | cons r3 r4=>cases r4;exact ⟨_,_,rfl,r1,r3⟩
theorem ZdJ:Yt X (.builtin "abs") (fun xs H Q=>∃ i,xs=[.int i]/\Q (.int (if i < 0 then -i else i)) H):=by
 intro pins s σ H xs us Q I r h
 obtain ⟨i,rfl,q⟩:=h
 obtain ⟨u,rfl,t,rfl⟩:=Yq r
 exact call_abs_int fun u tk=>⟨.int (if i < 0 then -i else i),H,I.tok _,⟨_,rfl⟩,q⟩
theorem Zhp (G:X.calm=true):Yt X (.builtin "min") (fun xs H Q=>∃ i j,xs=[.int i,.int j]/\Q (.int (if j < i then j else i)) H):=by
 intro pins s σ H xs us Q I r h
 obtain ⟨i,j,rfl,q⟩:=h
 obtain ⟨u,J,rfl,⟨t,rfl⟩,⟨t',rfl⟩⟩:=ZdA r
 refine min_two_ints (I.ok.hd G) fun h' tk k=>⟨_,H,I.kept k,?_,q⟩
 by_cases B:j < i
 ·rw [if_pos B,if_pos B];exact ⟨_,rfl⟩
 ·rw [if_neg B,if_neg B];exact ⟨_,rfl⟩
theorem Zhn:Yt X (.type "int") (fun xs H Q=>(∃ i,xs=[.int i]/\Q (.int i) H)\/∃ k,xs=[.bl k]/\Q (.int (if k then 1 else 0)) H):=by
 intro pins s σ H xs us Q I r h
 rcases h with ⟨i,rfl,q⟩ | ⟨k,rfl,q⟩
 ·obtain ⟨u,rfl,t,rfl⟩:=Yq r
  exact call_int_int ⟨.int i,H,I,⟨_,rfl⟩,q⟩
 ·obtain ⟨u,rfl,B⟩:=Yq r
  cases B
  exact call_int_bool ⟨.int (if k then 1 else 0),H,I.tok _,⟨_,rfl⟩,q⟩
theorem ZdL:Yt X (.type "str") (fun xs H Q=>∃ i,xs=[.int i]/\i.natAbs.log2 < 1920/\Q (.str (JO i)) H):=by
 intro pins s σ H xs us Q I r h
 obtain ⟨i,rfl,B,q⟩:=h
 obtain ⟨u,rfl,t,rfl⟩:=Yq r
 exact RS B ⟨.str _,H,I.tok _,⟨_,rfl⟩,q⟩
theorem ZdK:Yt X (.builtin "ord") (fun xs H Q=>∃ x,xs=[.str x]/\x.length=1/\Q (.int (x.cps.getD 0 0:Nat)) H):=by
 intro pins s σ H xs us Q I r h
 obtain ⟨x,rfl,B,q⟩:=h
 obtain ⟨u,rfl,t,rfl⟩:=Yq r
 exact ord_of_one B ⟨.int _,H,I.tok _,⟨_,rfl⟩,q⟩
def ZiX (K:Qa)(x:V)(H:Hp)(n:Nat):Prop :=
 match x with
 | .str y=>y.length<=Qj/\n=y.length
 | .byt y=>y.size<=Qj/\n=y.size
 | .ref p=>(∃ xs,SqL K H p xs/\n=xs.length)\/∃ xs,SqT K H p xs/\n=xs.length
 | _=>False
theorem Zjd:Yt X (.builtin "len") (fun xs H Q=>∃ x n,xs=[x]/\ZiX X.K x H n/\Q (.int n) H):=by
 intro pins s σ H xs us Q I r h
 obtain ⟨x,n,rfl,e,q⟩:=h
 obtain ⟨u,rfl,J⟩:=Yq r
 have hl:=Uf
 have hs:Qj=16777216:=QV
 cases x with
 | str y =>
  obtain ⟨t,rfl⟩:=J
  obtain ⟨hy,G⟩:y.length<=Qj/\n=y.length:=e
  subst G
  exact len_str (by omega) ⟨.int _,H,I.tok _,⟨_,rfl⟩,q⟩
 | byt y =>
  obtain ⟨t,rfl⟩:=J
  obtain ⟨hy,G⟩:y.size<=Qj/\n=y.size:=e
  subst G
  exact PySem.W.len_bytes (by omega) ⟨.int _,H,I.tok _,⟨_,rfl⟩,q⟩
 | ref p =>
  cases J
  have G:(∃ xs,SqL X.K H p xs/\n=xs.length)\/∃ xs,SqT X.K H p xs/\n=xs.length:=e
  rcases G with ⟨xs,Z,G⟩ | ⟨xs,Z,G⟩
  ·subst G
   obtain ⟨S,U,pl,hz⟩:=I.list Z
   have B:=U.length
   exact Rv pl.isList (by simp only [size_toArray];omega) ⟨.int xs.length,H,I.tok _,⟨_,by simp only [size_toArray];rw [B]⟩,q⟩
  ·subst G
   obtain ⟨S,U,pl,hz⟩:=I.tuple Z
   have B:=U.length
   exact len_tuple pl (by simp only [size_toArray];omega) ⟨.int xs.length,H,I.tok _,⟨_,by simp only [size_toArray];rw [B]⟩,q⟩
 | _=>exact (show False from e).elim
theorem ZeI:Yt X (.builtin "divmod") (fun xs H Q=>∃ i j,xs=[.int i,.int j]/\CDiv i j/\∀ p,H p=none->Q (.ref p) (upd H p (.tup [.int (i / j),.int (i % j)]))):=by
 intro pins s σ H xs us Q I r h
 obtain ⟨i,j,rfl,⟨h1,h2⟩,q⟩:=h
 obtain ⟨u,G,rfl,⟨t,rfl⟩,⟨t',rfl⟩⟩:=ZdA r
 refine divmod_int (by omega) ?_ (.inl (Sk (by omega)))
 rw [Ju i (by omega),Tf i (by omega)]
 have B:H s.heap.objs.size=none:=I.hok.fresh (Qg _)
 refine ⟨.ref s.heap.objs.size,_,?_,rfl,q _ B⟩
 refine I.laid (fun b o e=>Qe _ e) (Qg _) ⟨by simp only [length_cons,Pz];rw [QV];decide,[.int (i / j) s.toks,.int (i % j) (s.toks+1)],.cons ⟨_,rfl⟩ (.cons ⟨_,rfl⟩ .nil),?_⟩
 exact ⟨_,Qo s.heap rfl,rfl,0,rfl⟩
end
structure ObjM (h:Heap)(x dx C:Addr)(mA:Str->Option Qb):Prop where
 obj:h.get? x=some (Gy C dx)
 ns:h.Ns1 dx mA
 ne:dx≠x
theorem ZhU {h:Heap}{dx:Addr}{mA:Str->Option Qb}(n:h.Ns1 dx mA):∃ G,h.get? dx=some G/\∀ name,Tg name G=some (mA name):=by
 obtain ⟨o,es,ep,Z,I,U,_,W⟩:=n
 refine ⟨o,Z,fun name=>?_⟩
 have e:=W name
 unfold nsFind findBy at e
 rw [<- Array.find?_toList] at e
 unfold Tg
 rw [I]
 dsimp only
 split
 ·rename_i y q
  rw [q] at e
  exact congrArg some e
 ·rename_i q
  rw [q] at e
  have a:es.toList.any (·.refKey)=false:=by
   rw [List.any_eq_false]
   intro y S
   obtain ⟨z,t,B⟩:=U y (Array.mem_toList_iff.mp S)
   simp [DictEntry.refKey,B]
  have J:¬ es.toList.any (·.refKey)=true:=by rw [a];exact QH
  rw [if_neg J]
  exact congrArg some e
theorem ObjM.look {h:Heap}{x dx C:Addr}{mA:Str->Option Qb}(I:ObjM h x dx C mA):∃ B,PySem.W.InstAt h x (Gy C dx) C (some B)/\∀ name,Tg name B=some (mA name) :=
 let ⟨B,ho,hl⟩:=ZhU I.ns
 ⟨B,⟨I.obj,rfl,rfl,ho⟩,hl⟩
section
variable {prog:Qi}{w:Qu}{A:Qz}{E:Qb->Qd->Prop}{s:Qd}{K:Qa}{x dx C f:Addr}{mA:Str->Option Qb}{name:Str}{v:Qb}
theorem ZkZ {B:Bool}{Q:Qb->Qd->Prop}(X:K.In s.heap)(I:ObjM s.heap x dx C mA)(Z:Pd K C name=true)(S:Ts K C=true)
 (ha:Qv K (.ref C) name=some none) (U:mA name=some v) (G:OJ v=true) (h:Q v { s with toks:=s.toks+1 }) :
 Qq (Qt prog w) A (getAttr (.ref x) name B) Q E s:=by
 obtain ⟨od,J,hl⟩:=I.look
 exact PySem.W.get_value X J (PH Z).1 (PySem.W.findObj_own S ha rfl (by rw [hl,U])) G h
theorem Zjn {pl:Sem Bool}{Q:Qb×List Qb->Qd->Prop}(X:K.In s.heap)(I:ObjM s.heap x dx C mA)(B:Pd K C name=true)
 (U:Qv K (.ref C) name=some (some (.ref f))) (Z:Sl K (.ref f)=true) (G:mA name=none) (h:Q (.ref f,[.ref x]) s) :
 Qq (Qt prog w) A (Tb (.ref x) name pl) Q E s:=by
 obtain ⟨S,J,hl⟩:=I.look
 exact PySem.W.method_fn X J (PH B).1 (PH B).2 U (beq_iff_eq.mp Z) (by show (Tg name S).map (·.isSome)=some false;rw [hl,G];rfl) h
theorem ZlR {ns:List Str}{Q:Unit->Qd->Prop}(X:K.In s.heap)(I:ObjM s.heap x dx C mA)
 (hs:Qv K (.ref C) "__setattr__"=some (some (.builtin "object.__setattr__"))) (hp:Oj K C=true) (ht:Su K C name=some none) (hh:Ts K C=true)
 (hw:Of mA ns) (hsz:ns.length<=Qj)
 (h:∀ h',ObjM h' x dx C (fun y=>if y=name then some v else mA y)->Sg dx s.heap h'->Q () { s with heap:=h',toks:=s.toks+2 }) :
 Qq (Qt prog w) A (setAttr (.ref x) name v) Q E s:=by
 obtain ⟨od,J,hl⟩:=I.look
 refine PySem.W.set_plain X J hs (PySem.W.osa_open (s:={ s with toks:=s.toks+1 }) (r:=none) X J hp ht fun b=>?_)
 obtain ⟨cd,hc,S⟩:=PySem.W.any_some hh
 have hx:s.heap.get? x=some ⟨.ref C,some dx,.plain,#[]⟩:=I.obj
 refine Qf (Qx (Qf (Qf (wpAny_loadPart hx (Qf (PySem.W.Looks.here (s:={ s with toks:=s.toks+1 }) (PySem.W.looks_clsIn X hc) ?_))))))
 rw [S]
 refine Qx (a:=some dx) (Qf (Qx (Qf ?_)))
 refine wpAny_nsSet1 (s:={ s with toks:=s.toks+1 }) I.ns fun h' G B=>?_
 obtain ⟨oD,esD,epD,U,Z,hcD⟩:=G.count (PySem.Within.cons name v hw)
 refine Qf (OL U (by rw [Z];exact OM (Qr hcD (by rw [length_cons];omega))) ?_)
 exact Qx (h _ ⟨(B.2 _ (Gg I.ne)).trans I.obj,G,I.ne⟩ B)
theorem Zju {R:SQ->Qd->Prop}{vs:List Qb}{G:List (Str×Qb)}(X:K.In s.heap)(J:Sv K C=true)
 (hi:Qv K (.ref C) "__init__"=some (some (.ref f))) (I:PySem.W.typeIn K (.ref f)=some (.type "function"))
 (h:Jw (Qt prog w) (A.under (.builtin "type.__call__" ⟨.ref C::vs,G⟩)) (.call (.ref f) ⟨.ref (s.heap.objs.size+1)::vs,G⟩) (PySem.W.InitBack (s.heap.objs.size+1) R)
  {s with heap:=(s.heap.push Gh).push (Gy C s.heap.objs.size) }) :
 Jw (Qt prog w) A (.call (.ref C) ⟨vs,G⟩) R s:=by
 obtain ⟨S,g,d,t,os⟩:=s
 exact PySem.W.make_core (PySem.W.makes_of X J) (QO X hi) (fun B=>PySem.W.bind_fn X B I) (.inl rfl) h
end
def Xq (f:Str)(v:V):List (Str×V)->List (Str×V)
 | []=>[(f,v)]
 | (g,x)::r=>if g=f then (g,v)::r else (g,x)::Xq f v r
theorem Xb (f g:Str)(v:V):∀ fs:List (Str×V),(Xq f v fs).lookup g=if g=f then some v else fs.lookup g
 | []=>by
  show Gv g [(f,v)]=_
  by_cases h:g=f
  ·have hb:(g == f)=true:=beq_iff_eq.mpr h
   simp only [Gv,hb,if_pos h]
  ·have hb:(g == f)=false:=beq_eq_false_iff_ne.mpr h
   simp only [Gv,hb,if_neg h]
 | (k, x)::r=>by
  have G:=Xb f g v r
  rw [show Xq f v ((k,x)::r)=(if k=f then (k,v)::r else (k,x)::Xq f v r) from rfl]
  by_cases B:k=f
  ·rw [if_pos B]
   by_cases h:g=k
   ·have hb:(g == k)=true:=beq_iff_eq.mpr h
    simp only [Gv,hb,if_pos (h.trans B)]
   ·have hb:(g == k)=false:=beq_eq_false_iff_ne.mpr h
    simp only [Gv,hb,if_neg (fun e:g=f=>h (e.trans B.symm))]
  ·rw [if_neg B]
   by_cases h:g=k
   ·have hb:(g == k)=true:=beq_iff_eq.mpr h
    simp only [Gv,hb,if_neg (fun e:g=f=>B (h.symm.trans e))]
   ·have hb:(g == k)=false:=beq_eq_false_iff_ne.mpr h
    simp only [Gv,hb]
    exact G
theorem VD (f:Str)(v:V):∀ fs:List (Str×V),f∈(Xq f v fs).map (·.1)/\∀ g,g∈fs.map (·.1)->g∈(Xq f v fs).map (·.1)
 | []=>⟨by simp [Xq],fun g h=>by simp at h⟩
 | (k, x)::r=>by
  obtain ⟨I,G⟩:=VD f v r
  rw [show Xq f v ((k,x)::r)=(if k=f then (k,v)::r else (k,x)::Xq f v r) from rfl]
  by_cases B:k=f
  ·rw [if_pos B]
   subst B
   exact ⟨by simp,fun g h=>by simpa using h⟩
  ·rw [if_neg B]
   refine ⟨?_,fun g h=>?_⟩
   ·rw [map_cons]
    exact mem_cons_of_mem _ I
   ·rw [map_cons] at h ⊢
    rcases mem_cons.mp h with e | e
    ·exact mem_cons.mpr (.inl e)
    ·exact mem_cons_of_mem _ (G g e)
theorem ZaC (f:Str)(v:V):∀ fs:List (Str×V),(Xq f v fs).length<=fs.length+1
 | []=>by simp [Xq]
 | (k,x)::r=>by
  have G:=ZaC f v r
  rw [show Xq f v ((k,x)::r)=(if k=f then (k,v)::r else (k,x)::Xq f v r) from rfl]
  by_cases B:k=f
  ·rw [if_pos B,length_cons,length_cons];omega
  ·rw [if_neg B,length_cons,length_cons];omega
theorem RelO.some_of {v:V}{o:Option Qb}(r:RelO (some v) o):∃ u,o=some u/\RelV v u:=by
 cases o with
 | none=>exact (show False from r).elim
 | some u=>exact ⟨u,rfl,r⟩
theorem RelO.none_of {o:Option Qb}(r:RelO none o):o=none:=by
 cases o with
 | none=>rfl
 | some u=>exact (show False from r).elim
theorem ZcN {v:V}{u:Qb}(r:RelV v u):OJ u=true:=by
 cases v with
 | non=>cases (show u=QW from r);rfl
 | bl b=>cases (show u=GF b from r);rfl
 | int i=>obtain ⟨t,e⟩:=(show ∃ t,u=Rm i t from r);cases e;rfl
 | str x=>obtain ⟨t,e⟩:=(show ∃ t,u=PY x t from r);cases e;rfl
 | byt b=>obtain ⟨t,e⟩:=(show ∃ t,u=Value.bytes b t from r);cases e;rfl
 | flt b=>obtain ⟨t,e⟩:=(show ∃ t,u=Nc b t from r);cases e;rfl
 | ref a=>cases (show u=Qm a from r);rfl
 | ty n=>cases (show u=RN n from r);rfl
section
variable {P:Qi}{w:Qu}{H H':Hp}{h h':Heap}{a C dx:Addr}{fs fs':List (Str×V)}
theorem Zad (hok:HOk P w H h)(e:H a=some (.ins C dx fs)):∃ mA,ObjM h a dx C mA/\(∀ f,RelO (fs.lookup f) (mA f))/\Of mA (fs.map (·.1))/\fs.length<=1000/\H dx=some (.own a):=by
 obtain ⟨d,z,ne,B,mA,n,r,q⟩:=(show ObjOk P w H h a (.ins C dx fs) from hok a _ e)
 exact ⟨mA,⟨B,n,ne⟩,r,q,z,d⟩
end
structure Cls (K:Qa)(C:Addr):Prop where
 pg:Pd K C Str.empty=true
 hd:Ts K C=true
 po:Oj K C=true
 sa:Qv K (.ref C) "__setattr__"=some (some (.builtin "object.__setattr__"))
theorem Cls.get {K:Qa}{C:Addr}(c:Cls K C)(f:Str):Pd K C f=true:=c.pg
def NoAttr (K:Qa)(C:Addr)(f:Str):Prop:=Qv K (.ref C) f=some none
theorem NoAttr.taker {K:Qa}{C:Addr}{f:Str}(n:NoAttr K C f):Su K C f=some none:=by
 unfold Su
 rw [show Qv K (.ref C) f=some none from n]
 rfl
structure Vy (K:Qa)(C:Addr)(m:Str)(f:Addr):Prop where
 at_:Qv K (.ref C) m=some (some (.ref f))
 fn:Sl K (.ref f)=true
 kp:GH K (.ref f)=true
section
variable {X:Cx}{pins:List (Addr×Obj)}{σ:St}{H:Hp}{s:Qd}{a C dx:Addr}{fs:List (Str×V)}{f:Str}{v:V}{A:Qz}{E:Qb->Qd->Prop}
theorem Zgi {b:Bool}{Q:Qb->Qd->Prop}(I:Inv X pins σ H s)(e:H a=some (.ins C dx fs))(c:Cls X.K C)(n:NoAttr X.K C f)(l:fs.lookup f=some v)
 (h:∀ u s',Inv X pins σ H s'->RelV v u->Q u s'):Qq (Qt X.prog X.w) A (getAttr (.ref a) f b) Q E s:=by
 obtain ⟨mA,O,r,_,_,_⟩:=Zad I.hok e
 obtain ⟨u,G,B⟩:=RelO.some_of (v:=v) (o:=mA f) (by rw [<- l];exact r f)
 exact ZkZ I.kIn O (c.get f) c.hd n G (ZcN B) (h u _ (I.tok _) B)
theorem Vc {m:Str}{g:Addr}{pl:Sem Bool}{Q:Qb×List Qb->Qd->Prop}(I:Inv X pins σ H s)(e:H a=some (.ins C dx fs))(c:Cls X.K C)(k:Vy X.K C m g)(l:fs.lookup m=none)
 (h:Q (.ref g,[.ref a]) s):Qq (Qt X.prog X.w) A (Tb (.ref a) m pl) Q E s:=by
 obtain ⟨mA,O,r,_,_,_⟩:=Zad I.hok e
 have B:mA m=none:=RelO.none_of (by rw [<- l];exact r m)
 exact Zjn I.kIn O (c.get m) k.at_ k.fn B h
theorem ZgF {y:V}{u:Qb}{Q:Unit->Qd->Prop}(I:Inv X pins σ H s)(e:H a=some (.ins C dx fs))(c:Cls X.K C)(n:NoAttr X.K C f)(hl:fs.length < 1000)(Z:RelV y u)
 (h:∀ s',Inv X pins σ (upd H a (.ins C dx (Xq f y fs))) s'->Q () s'):Qq (Qt X.prog X.w) A (setAttr (.ref a) f u) Q E s:=by
 obtain ⟨mA,O,r,wi,_,G⟩:=Zad I.hok e
 have S:(fs.map (·.1)).length<=sizeLine:=by rw [length_map,QV];omega
 refine ZlR I.kIn O c.sa c.po n.taker c.hd wi S fun h' B U=>h _ ?_
 have J:∃ o,h'.get? dx=some o:=let ⟨o,_,_,e',_⟩:=B.ns;⟨o,e'⟩
 refine I.write (x:=a) (e:=dx) (by rw [e];exact Gp) (.inr G) (fun b q hb z=>(U.2 b hb).trans z) J ?_
 refine ⟨by rw [Zg O.ne];exact G,?_,O.ne,B.obj,_,B.ns,fun g=>?_,fun g W=>?_⟩
 ·have:=ZaC f y fs;omega
 ·show RelO ((Xq f y fs).lookup g) (if g=f then some u else mA g)
  rw [Xb]
  by_cases q:g=f
  ·rw [if_pos q,if_pos q];exact Z
  ·rw [if_neg q,if_neg q];exact r g
 ·by_cases q:g=f
  ·rw [q];exact (VD f y fs).1
  ·refine (VD f y fs).2 g (wi g fun z=>W ?_)
   show (if g=f then some u else mA g)=none
   rw [if_neg q];exact z
theorem Inv.made (I:Inv X pins σ H s):Inv X pins σ (upd (upd H s.heap.objs.size (.own (s.heap.objs.size+1))) (s.heap.objs.size+1) (.ins C s.heap.objs.size []))
 {s with heap:=(s.heap.push Gh).push (Gy C s.heap.objs.size) }:=by
 have e1:(s.heap.push Gh).get? s.heap.objs.size=some PySem.W.emptyDict:=Qo s.heap rfl
 have B:((s.heap.push Gh).push (Gy C s.heap.objs.size)).get? (s.heap.objs.size+1)=some (Gy C s.heap.objs.size):=by
  have:=Qo (s.heap.push Gh) (o:=Gy C s.heap.objs.size) rfl
  rwa [Jv] at this
 have G:(s.heap.push Gh).Ns s.heap.objs.size (fun _=>none):=⟨Gh,#[],_,e1,rfl,(fun e U=>absurd U (by simp)),fun _=>rfl⟩
 have S:=I.laid (a:=s.heap.objs.size) (o:=.own (s.heap.objs.size+1)) (h':=s.heap.push Gh) (t':=s.toks) (fun b u q=>Qe _ q) (Qg _) ⟨_,e1⟩
 refine S.laid (a:=s.heap.objs.size+1) (o:=.ins C s.heap.objs.size []) (t':=s.toks) (fun b u q=>Qe _ q) (Je (Jv _ _)) ?_
 have ne:s.heap.objs.size≠s.heap.objs.size+1:=Qy (TU _)
 refine ⟨by rw [Zg ne,Zf],QC _,ne,B,fun _=>none,(Ol G).at fun o q=>Qe _ q,fun _=>Gp,fun y J=>absurd rfl J⟩
theorem ZeU {prog:Qi}{w:Qu}{env:Env}{e:Expr}{f:Str}{pos:Pos}{s:Qd}{Q:Qb->Qd->Prop}(hb:Jm e f env (eval e env)=eval e env)
 (h:Qq (Qt prog w) A (eval e env) (fun o B=>Qq (Qt prog w) A (getAttr o f true) Q E B) E s):Qq (Qt prog w) A (eval (.Attribute e f pos) env) Q E s :=
 Attribute_any_ h (by rw [arm_eval_Attribute,hb])
end
inductive ZiK (K:Qa)(f:Str)(Q:VK)(x:V)(H1:Hp):Prop
 | mk (a C dx fs v:_):x=.ref a->H1 a=some (.ins C dx fs)->Cls K C->NoAttr K C f->fs.lookup f=some v->Q v H1->ZiK K f Q x H1
def tFld (K:Qa)(ta:TE)(f:Str):TE:=fun σ H Q=>ta σ H fun x H1=>ZiK K f Q x H1
inductive Ziy (K:Qa)(f:Str)(D:Yl)(σ:St)(y x:V)(H2:Hp):Prop
 | mk (a C dx fs:_):x=.ref a->H2 a=some (.ins C dx fs)->Cls K C->NoAttr K C f->fs.length < 1000->D.nx σ (upd H2 a (.ins C dx (Xq f y fs)))->Ziy K f D σ y x H2
def sFld (K:Qa)(ta tv:TE)(f:Str):TS:=fun D σ H=>tv σ H fun y H1=>ta σ H1 fun x H2=>Ziy K f D σ y x H2
section
variable {X:Cx}{o e value:Expr}{f:Str}{pos pos' tpos:Pos}{ta tv:TE}
theorem ZC (S:PE X e ta)(hb:Jm e f X.env (eval e X.env)=eval e X.env):PE X (.Attribute e f pos) (tFld X.K ta f):=by
 intro pins s σ H Q I h
 refine ZeU hb (Zt (S pins s σ H _ I h) fun u s1 B=>?_)
 obtain ⟨x,H1,J,G,a,C,dx,fs,v,ex,ea,c,n,l,q⟩:=B
 subst ex
 obtain rfl:u=Qm a:=G
 exact Zgi J ea c n l fun Z s2 U W=>⟨v,H1,U,W,q⟩
theorem YZ (ha:PE X o ta)(U:PE X value tv)(Z:Ta value (some (.Attribute o f pos')) pos.line X.env=pure false):PS X (.Assign [.Attribute o f pos'] value pos) (sFld X.K ta tv f):=by
 intro pins s σ H D I h
 refine JY (Zt (U pins s σ H _ I h) fun u s1 B=>?_) Z
 obtain ⟨y,H1,W,S,q⟩:=B
 refine Zt (ha pins s1 σ H1 _ W q) fun J s2 B=>?_
 obtain ⟨x,H2,I2,G,a,C,dx,fs,ex,ea,c,n,l,q2⟩:=B
 subst ex
 obtain rfl:J=Qm a:=G
 exact ZgF I2 ea c n l S fun s3 I3=>⟨σ,_,I3,q2⟩
end
section
variable {X:Cx}{pins:List (Addr×Obj)}{σ:St}{H:Hp}{s:Qd}{A:Qz}{E:Qb->Qd->Prop}{Q:Qb->Qd->Prop}{c:Qb}{b:Bool}
inductive Wq (K:Qa)(H:Hp):V->Qb->Prop where
 | non:Wq K H .non (.type "NoneType")
 | bl (x:Bool):Wq K H (.bl x) (.type "bool")
 | int (i:Int):Wq K H (.int i) (.type "int")
 | str (x:Str):Wq K H (.str x) (.type "str")
 | flt (x:UInt64):Wq K H (.flt x) (.type "float")
 | lst {a:Addr} {xs:List V} (e:H a=some (.lst xs)):Wq K H (.ref a) (.type "list")
 | frz {a:Addr} {o:Obj} {xs:List V} (e:H a=some (.frz o (.lst xs))):Wq K H (.ref a) (.type "list")
 | tup {a:Addr} {xs:List V} (e:H a=some (.tup xs)):Wq K H (.ref a) (.type "tuple")
 | dK {a:Addr} {kvs:List (Zo×V)} (e:H a=some (.dK kvs)):Wq K H (.ref a) (.type "dict")
 | dT {a:Addr} {kvs:List (List Zo×V)} (e:H a=some (.dT kvs)):Wq K H (.ref a) (.type "dict")
 | ins {a C dx:Addr} {fs:List (Str×V)} (e:H a=some (.ins C dx fs)) (cl:Cls K C) (ha:Qv K (.ref C) "__class__"=some (some (.builtin "object.__class__")))
     (hn:PySem.W.specialIn K (.builtin "object.__class__") "__get__"=some (some (.builtin "getset_descriptor.__get__"))) (htk:PySem.W.takesIn K (.builtin "object.__class__")=some true)
     (hm:PySem.W.mroIn K C (.type "object")=some true):Wq K H (.ref a) (.ref C)
theorem ZhG {x:V}{u t:Qb}(I:Inv X pins σ H s)(B:RelV x u)(ty:Wq X.K H x t)(e:Th X.K t c=some b)(h:∀ tk,Q (.bool b) { s with toks:=tk }) :
 Qq (Qt X.prog X.w) A (call (.builtin "isinstance") [u,c]) Q E s:=by
 cases ty with
 | non=>cases (show u=QW from B);exact QT PySem.W.kitx_none I.kIn Gp e (fun z=>nomatch z) h
 | bl y=>cases (show u=GF y from B);exact QT PySem.W.kitx_bool I.kIn Gp e (fun z=>nomatch z) h
 | int i=>obtain ⟨t,q⟩:=(show ∃ t,u=Rm i t from B);cases q;exact QT PySem.W.kitx_int I.kIn Gp e (fun z=>nomatch z) h
 | str y=>obtain ⟨t,q⟩:=(show ∃ t,u=PY y t from B);cases q;exact QT PySem.W.kitx_str I.kIn Gp e (fun z=>nomatch z) h
 | flt y=>obtain ⟨t,q⟩:=(show ∃ t,u=Nc y t from B);cases q;exact QT PySem.W.kitx_float I.kIn Gp e (fun z=>nomatch z) h
 | @lst a xs ea =>
  cases (show u=Qm a from B)
  obtain ⟨_,_,n,_,h1⟩:=(show ObjOk X.prog X.w H s.heap a (.lst xs) from I.hok a _ ea)
  exact QT Om I.kIn ⟨_,h1,rfl⟩ e (fun z=>nomatch z) h
 | @frz a ob xs ea =>
  cases (show u=Qm a from B)
  obtain ⟨_,_,_,n,_,h1⟩:=(show ObjOk X.prog X.w H s.heap a (.frz ob (.lst xs)) from I.hok a _ ea)
  exact QT Om I.kIn ⟨_,h1,rfl⟩ e (fun z=>nomatch z) h
 | @tup a xs ea =>
  cases (show u=Qm a from B)
  obtain ⟨_,_,_,p⟩:=(show ObjOk X.prog X.w H s.heap a (.tup xs) from I.hok a _ ea)
  obtain ⟨o,h1,h2,_⟩:=p
  exact QT PySem.W.kitx_tuple I.kIn ⟨o,h1,h2⟩ e (fun z=>nomatch z) h
 | @dK a kvs ea =>
  cases (show u=Qm a from B)
  obtain ⟨_,_,vs,_,p⟩:=(show ObjOk X.prog X.w H s.heap a (.dK kvs) from I.hok a _ ea)
  obtain ⟨o,es,ep,h1,h2,_⟩:=p
  exact QT On I.kIn ⟨o,h1,h2.1⟩ e (fun z=>nomatch z) h
 | @dT a kvs ea =>
  cases (show u=Qm a from B)
  obtain ⟨_,_,xs,_,o,es,ep,h1,h2,_⟩:=(show ObjOk X.prog X.w H s.heap a (.dT kvs) from I.hok a _ ea)
  exact QT On I.kIn ⟨o,h1,h2.1⟩ e (fun z=>nomatch z) h
 | @ins a C dx fs ea cl ha hn htk hm =>
  cases (show u=Qm a from B)
  obtain ⟨mA,O,_⟩:=Zad I.hok ea
  obtain ⟨G,J,_⟩:=O.look
  exact QT (PySem.W.kitx_own (cl.get _) cl.hd ha hn htk hm) I.kIn J e (fun z=>nomatch z) h
end
structure Room (k:Nat)(A:Qz):Prop where
 hd:A.handled=none
 dp:A.depth+3 * k+5 < SS
 un:A.units+16 * k+200 < TV
 gd:A.guards=some []
theorem Room.mono {j k:Nat}{A:Qz}(r:Room k A)(h:j<=k):Room j A:=⟨r.hd,by have:=r.dp;omega,by have:=r.un;omega,r.gd⟩
theorem Room.deeper {k:Nat}{A:Qz}(r:Room (k+1) A)(env:Env):Room k (A.deeper env) :=
 ⟨r.hd,by have:=r.dp;show A.depth+1+3 * k+5 < _;omega,by have:=r.un;show A.units+3+16 * k+200 < _;omega,r.gd⟩
theorem Zgn {A:Qz}{C:Addr}{us:List Qb}{B:List (Str×Qb)}:(A.under (.builtin "type.__call__" ⟨.ref C::us,B⟩)).depth=A.depth+1:=by
 first | rfl | simp [Sm,Code.weight,Code.isCreation,Code.isGuard,Code.isCaller,Code.frames,Oo,guardIds]
theorem Zgo {A:Qz}{C:Addr}{us:List Qb}{B:List (Str×Qb)}:(A.under (.builtin "type.__call__" ⟨.ref C::us,B⟩)).units=A.units+1:=by
 first | rfl | simp [Sm,Code.cUnits,Code.frames,Oo]
theorem Room.make {k:Nat}{A:Qz}(r:Room (k+1) A)(C:Addr)(us:List Qb)(B:List (Str×Qb)):Room k (A.under (.builtin "type.__call__" ⟨.ref C::us,B⟩)) :=
 ⟨r.hd,by have:=r.dp;rw [Zgn];omega,by have:=r.un;rw [Zgo];omega,by first | exact r.gd | simpa [Sm,Code.isGuard,guardIds] using r.gd⟩
theorem Room.depth {k:Nat}{A:Qz}(r:Room k A):A.depth < recursionLimit:=by have:=r.dp;omega
theorem Room.units {k:Nat}{A:Qz}(r:Room k A):A.units+64 < cLine:=by have:=r.un;omega
def XS:TA:=fun _ H Q=>Q [] H
def XQ (ta:TE)(tr:TA):TA:=fun σ H Q=>ta σ H fun x H1=>tr σ H1 fun xs H2=>Q (x::xs) H2
section
variable {X:Cx}{e:Expr}{es:List Expr}{te:TE}{t:TA}{pos:Pos}
theorem Za:PA X [] XS:=fun _ _ _ _ H Q I h=>JP ⟨[],H,I,.nil,h⟩
theorem Yz (ha:PE X e te)(U:PA X es t)(Z:QA (e::es) X.env=(false,eval e X.env)::QA es X.env:=by rfl):PA X (e::es) (XQ te t):=by
 intro pos pins s σ H Q I h
 rw [Z]
 show Qq _ _ (spliced ((false,eval e X.env)::GG pos (QA es X.env))) _ _ s
 refine Jf (Zt (ha pins s σ H _ I h) fun u s1 B=>?_)
 obtain ⟨x,H1,W,S,G⟩:=B
 exact Zt (U pos pins s1 σ H1 _ W G) fun us s2 ⟨xs,H2,I2,J,q2⟩=>⟨x::xs,H2,I2,.cons S J,q2⟩
def tTup (t:TA):TE:=fun σ H Q=>t σ H fun xs H1=>xs.length<=Qj/\∀ p,H1 p=none->Q (.ref p) (upd H1 p (.tup xs))
def tLst (t:TA):TE:=fun σ H Q=>t σ H fun xs H1=>xs.length<=Qj/\∀ p,H1 p=none->Q (.ref p) (upd H1 p (.lst xs))
theorem YE {x1}(h:PA X es t):PE X (.Tuple es x1 pos) (tTup t):=by
 intro pins s σ H Q I S
 refine Rw (Zt (h pos pins s σ H _ I S) fun us s1 G=>?_)
 obtain ⟨xs,H1,B,r,z,q⟩:=G
 refine ⟨by rw [<- r.length];exact z,?_⟩
 have J:H1 s1.heap.objs.size=none:=B.hok.fresh (Qg _)
 refine ⟨.ref s1.heap.objs.size,upd H1 s1.heap.objs.size (.tup xs),B.laid (t':=s1.toks) (fun b u e=>Qe _ e) (Qg _) ?_,rfl,q _ J⟩
 exact ⟨z,us,r,⟨_,Qo _ rfl,rfl,_,rfl⟩⟩
theorem Yc (h:PA X es t):PE X (.List es pos) (tLst t):=by
 intro pins s σ H Q I S
 refine wpAny_List_spliced (Zt (h pos pins s σ H _ I S) fun us s1 G=>?_)
 obtain ⟨xs,H1,B,r,z,q⟩:=G
 refine ⟨by rw [<- r.length];exact z,?_⟩
 have J:H1 s1.heap.objs.size=none:=B.hok.fresh (Qg _)
 refine ⟨.ref s1.heap.objs.size,upd H1 s1.heap.objs.size (.lst xs),B.laid (t':=s1.toks) (fun b u e=>Qe _ e) (Qg _) ?_,rfl,q _ J⟩
 exact ⟨z,us,0,r,Qo _ rfl⟩
end
abbrev Sp:=List V->Hp->VK->XK->Prop
abbrev Uk:=List Env->Hp->Qd->XK->Qb->Qd->Prop
structure Env0 (P:Qi)(w:Qu)(K:Qa)(mg:Str->Option Qb)(base:Heap)(A:Qz)(outer:List Env)(s:Qd)(H:Hp):Prop where
 frames:A.frames=some outer
 mod:Mod K mg base
 bs:∀ b o,base.get? b=some o->s.heap.get? b=some o/\H b=none
 bsz:base.objs.size<=s.heap.objs.size
 funs:s.heap.FunFrames base outer
 frf:∀ b∈Yx outer,H b=none
 hok:HOk P w H s.heap
 bare:PN s.gens
def CE (outer:List Env)(P:Qi)(w:Qu)(H:Hp)(s:Qd)(Q:VK)(u:Qb)(s':Qd):Prop :=
 ∃ v H',s'.os=s.os/\PN s'.gens/\Un (Yx outer) [] H H' s.heap s'.heap/\HOk P w H' s'.heap/\RelV v u/\Q v H'
def CR (CX:Uk)(outer:List Env)(P:Qi)(w:Qu)(H:Hp)(s:Qd)(Q:VK)(E:XK)(r:SQ)(s':Qd):Prop :=
 match r with
 | .ok (.ret u)=>CE outer P w H s Q u s'
 | .ok _=>False
 | .error e=>CX outer H s E e s'
structure FnOk (P:Qi)(w:Qu)(K:Qa)(mg:Str->Option Qb)(base:Heap)(CX:Uk)(k:Nat)(f:Addr)(fd:Qn)(ps:List Str)(sp:Sp):Prop where
 len:∀ vs H Q E,sp vs H Q E->vs.length=ps.length
 run:∀ (A:Qz) (outer:List Env) (s:Qd) (H:Hp) (args:Args) (us:List Qb) (vs:List V) (Q:VK) (E:XK),Room k A->Env0 P w K mg base A outer s H->PQ s fd args (ps.zip us)->Vals vs us->sp vs H Q E ->
  Jw (Qt P w) A (.call (.ref f) args) (CR CX outer P w H s Q E) s
theorem FnOk.mono {P:Qi}{w:Qu}{K:Qa}{mg:Str->Option Qb}{base:Heap}{CX:Uk}{j k:Nat}{f:Addr}{fd:Qn}{ps:List Str}{sp:Sp}(F:FnOk P w K mg base CX j f fd ps sp)(h:j<=k) :
 FnOk P w K mg base CX k f fd ps sp:=⟨F.len,fun A outer s H args us vs Q E B=>F.run A outer s H args us vs Q E (B.mono h)⟩
theorem Env0.make {P:Qi}{w:Qu}{K:Qa}{mg:Str->Option Qb}{base:Heap}{A:Qz}{outer:List Env}{s:Qd}{H:Hp}(e:Env0 P w K mg base A outer s H)(C:Addr)(us:List Qb)(B:List (Str×Qb)) :
 Env0 P w K mg base (A.under (.builtin "type.__call__" ⟨.ref C::us,B⟩)) outer s H:=⟨by first | exact e.frames | (simpa [Sm,Code.envs,Oo,pushEnvs] using e.frames),e.mod,e.bs,e.bsz,e.funs,e.frf,e.hok,e.bare⟩
section
variable {X:Cx}{pins:List (Addr×Obj)}{σ:St}{H:Hp}{s s':Qd}
theorem Inv.env0 (I:Inv X pins σ H s):Env0 X.prog X.w X.K X.mg X.base X.A X.stack s H :=
 ⟨I.ok.frames,I.ok.mod,I.bs,Qr I.ok.bsz I.sz,I.stack,I.stkFree,I.hok,I.bare⟩
theorem Inv.after {Q:VK}{u:Qb}(I:Inv X pins σ H s)(h:CE X.stack X.prog X.w H s Q u s'):EP X pins σ Q u s':=by
 obtain ⟨v,H',os,B,un,hok,r,q⟩:=h
 obtain ⟨J,g,d,t,G⟩:=s'
 obtain rfl:G=s.os:=os
 exact ⟨v,H',I.call (h':=J) (g':=g) (d':=d) (t':=t) (ch:=[]) un hok B (fun b z=>absurd z (by simp)),r,q⟩
end
def ZgS (sp:Sp)(dvs:List V)(E:XK)(t:TA):TE:=fun σ H Q=>t σ H fun vs H1=>sp (vs++dvs) H1 Q E
inductive ZfL (C:Addr)(m:Str)(sp:Sp)(dvs:List V)(E:XK)(t:TA)(σ:St)(Q:VK)(x:V)(H1:Hp):Prop
 | mk (a dx fs:_):x=.ref a->H1 a=some (.ins C dx fs)->fs.lookup m=none->(t σ H1 fun vs H2=>sp (x::(vs++dvs)) H2 Q E)->ZfL C m sp dvs E t σ Q x H1
def Zdx (C:Addr)(m:Str)(sp:Sp)(dvs:List V)(E:XK)(ta:TE)(t:TA):TE:=fun σ H Q=>ta σ H fun x H1=>ZfL C m sp dvs E t σ Q x H1
def ZkM (C:Addr)(sp:Sp)(dvs:List V)(E:XK)(t:TA):TE:=fun σ H Q=>t σ H fun vs H1=>∀ x dx,H1 x=none->H1 dx=none->dx≠x ->
 sp (.ref x::(vs++dvs)) (upd (upd H1 dx (.own x)) x (.ins C dx [])) (fun v H2=>v=.non/\Q (.ref x) H2) E
def Binds (K:Qa)(fd:Qn)(ps:List Str)(ds:List Qb):Prop :=
 ∀ (s:Qd) (us:List Qb),K.In s.heap->(us++ds).length=ps.length->PQ s fd ⟨us,[]⟩ (ps.zip (us++ds))
theorem Binds.all {K:Qa}{fd:Qn}{ps:List Str}(h:∀ us:List Qb,us.length=ps.length->Ti fd ⟨us,[]⟩=pure (ps.zip us)):Binds K fd ps []:=fun s us _ B=>by
 rw [append_nil] at B ⊢
 exact .of_eq (h us B)
def WW (CX:Uk)(X:Cx)(E:XK):Prop:=∀(pins:List (Addr×Obj))(σ:St)(H:Hp)(s:Qd)(e:Qb)(s':Qd),Inv X pins σ H s->CX X.stack H s E e s'->X.xe e s'
section
variable {X:Cx}{CX:Uk}{k:Nat}{f C:Addr}{fd:Qn}{ps:List Str}{sp:Sp}{dvs:List V}{ds:List Qb}{E:XK}{x m:Str}{p pos apos:Pos}{e o:Expr}{es:List Expr}{ta:TE}{t:TA}
theorem Zen {pins:List (Addr×Obj)}{σ:St}{H:Hp}{s:Qd}{Q:VK}{us:List Qb}{vs:List V}(F:FnOk X.prog X.w X.K X.mg X.base CX k f fd ps sp)(S:Room k X.A)(hb:Binds X.K fd ps ds)(J:Vals dvs ds)(W:WW CX X E)
 (I:Inv X pins σ H s) (r:Vals vs us) (h:sp (vs++dvs) H Q E):Qq (Qt X.prog X.w) X.A (call (.ref f) us) (EP X pins σ Q) X.xe s:=by
 have G:Vals (vs++dvs) (us++ds):=r.append J
 have U:(us++ds).length=ps.length:=by rw [<- G.length];exact F.len _ _ _ _ h
 refine Jg (Ge (F.run X.A X.stack s H ⟨us,[]⟩ (us++ds) (vs++dvs) Q E S I.env0 (hb s us I.kIn U) G h) fun r s' B=>?_)
 cases r with
 | error e=>exact W pins σ H s e s' I B
 | ok fl =>
  cases fl with
  | ret u=>exact I.after B
  | next=>exact QF B
  | brk=>exact QF B
  | cont=>exact QF B
theorem Zly (F:FnOk X.prog X.w X.K X.mg X.base CX k f fd ps sp)(W:Room k X.A)(hg:Gl X x)(hm:X.mg x=some (.ref f))(Z:GH X.K (.ref f)=true)(hb:Binds X.K fd ps ds)(U:Vals dvs ds)(hx:WW CX X E)
 (ha:PA X (e::es) t) (G:(x == ("__debug__":Str))=false:=by decide) (he:QA (e::es) X.env=(false,eval e X.env)::QA es X.env:=by rfl) (B:(GG pos (QA es X.env)).any (·.1)=false:=by rfl) :
 PE X (.Call (.Name x p) (e::es) [] pos) (ZgS sp dvs E t):=by
 intro pins s σ H Q I h
 refine QR (Wt I hg hm ?_ G)
 refine Jh (h₀:=X.base) I.ok.mod.kin Z (Zt (ha pos pins s σ H _ I h) fun us s1 S=>?_) he B
 obtain ⟨vs,H1,J,r,q⟩:=S
 refine ⟨J.kIn,?_⟩
 exact Zen F W hb U hx J r q
theorem ZlC {pl:Sem Bool}(he:PE X o ta)(c:Cls X.K C)(U:Vy X.K C m f)(F:FnOk X.prog X.w X.K X.mg X.base CX k f fd ps sp)(hr:Room k X.A)(hb:Binds X.K fd ps ds)(hd:Vals dvs ds)(hx:WW CX X E)(ha:PA X (e::es) t)
 (B:QA (e::es) X.env=(false,eval e X.env)::QA es X.env:=by rfl) (J:(GG pos (QA es X.env)).any (·.1)=false:=by rfl)
 (ht:eval (.Call (.Attribute o m apos) (e::es) [] pos) X.env=(do
  let S <- eval o X.env
  Tr apos.atName
  let (f,first) <- JM [S] (Tb S m pl)
  TW pos f first (GG pos (QA (e::es) X.env)) (JQ pos (GO [] X.env))):=by rfl) :
 PE X (.Call (.Attribute o m apos) (e::es) [] pos) (Zdx C m sp dvs E ta t):=by
 intro pins s σ H Q I h
 refine JZ (pl:=pl) (Zt (he pins s σ H _ I h) fun u s1 G=>?_) ht
 obtain ⟨x,H1,W,rx,a,dx,fs,ex,ea,l,q⟩:=G
 subst ex
 obtain rfl:u=Qm a:=rx
 refine Vc W ea c U l ?_
 refine Jh (first:=[.ref a]) (h₀:=X.base) I.ok.mod.kin U.kp (Zt (ha pos pins s1 σ H1 _ W q) fun us s2 G=>?_) B J
 obtain ⟨vs,H2,Z,r,q2⟩:=G
 refine ⟨Z.kIn,?_⟩
 exact Zen (us:=.ref a::us) (vs:=.ref a::vs) F hr hb hd hx Z (.cons rfl r) q2
theorem ZjP {pl:Sem Bool}(he:PE X o ta)(c:Cls X.K C)(J:Vy X.K C m f)(F:FnOk X.prog X.w X.K X.mg X.base CX k f fd ps sp)(Z:Room k X.A)(hb:Binds X.K fd ps ds)(W:Vals dvs ds)(hx:WW CX X E)
 (ht:eval (.Call (.Attribute o m apos) [] [] pos) X.env=(do
  let G <- eval o X.env
  Tr apos.atName
  let (f,first) <- JM [G] (Tb G m pl)
  TW pos f first (GG pos (QA [] X.env)) (JQ pos (GO [] X.env))):=by rfl) :
 PE X (.Call (.Attribute o m apos) [] [] pos) (Zdx C m sp dvs E ta XS):=by
 intro pins s σ H Q I h
 refine JZ (pl:=pl) (Zt (he pins s σ H _ I h) fun u s1 S=>?_) ht
 obtain ⟨x,H1,B,U,a,dx,fs,ex,ea,l,q⟩:=S
 subst ex
 obtain rfl:u=Qm a:=U
 refine Vc B ea c J l ?_
 exact Rx (first:=[.ref a]) B.kIn J.kp (Zen (us:=[.ref a]) (vs:=[.ref a]) F Z hb W hx B (.cons rfl .nil) q)
structure Mk (K:Qa)(C f:Addr):Prop where
 makes:Sv K C=true
 init:Qv K (.ref C) "__init__"=some (some (.ref f))
 fn:Sl K (.ref f)=true
 kp:GH K (.ref C)=true
theorem Zkf {pins:List (Addr×Obj)}{σ:St}{H:Hp}{s:Qd}{Q:VK}{us:List Qb}{vs:List V}(M:Mk X.K C f)(F:FnOk X.prog X.w X.K X.mg X.base CX k f fd ps sp)(hr:Room (k+1) X.A)(hb:Binds X.K fd ps ds)(W:Vals dvs ds)
 (hx:WW CX X E) (I:Inv X pins σ H s) (r:Vals vs us)
 (h:∀ x dx,H x=none->H dx=none->dx≠x->sp (.ref x::(vs++dvs)) (upd (upd H dx (.own x)) x (.ins C dx [])) (fun v H2=>v=.non/\Q (.ref x) H2) E) :
 Qq (Qt X.prog X.w) X.A (call (.ref C) us) (EP X pins σ Q) X.xe s:=by
 have S:=h (s.heap.objs.size+1) s.heap.objs.size (I.hok.fresh (Jc _)) (I.hok.fresh (Qg _)) (Qy (TU _))
 have G:=Inv.made (C:=C) I
 have J:Vals (V.ref (s.heap.objs.size+1)::(vs++dvs)) (Qm (s.heap.objs.size+1)::(us++ds)):=.cons rfl (r.append W)
 have hl:(Qm (s.heap.objs.size+1)::us++ds).length=ps.length:=by
  have e:=J.length
  rw [F.len _ _ _ _ S] at e
  exact e.symm
 refine Jg (Zju (f:=f) I.kIn M.makes M.init (beq_iff_eq.mp M.fn) (Ge (F.run _ X.stack _ _ ⟨Qm (s.heap.objs.size+1)::us,[]⟩ (Qm (s.heap.objs.size+1)::(us++ds)) _ _ E (hr.make C us [])
  (G.env0.make C us []) (hb _ (Qm (s.heap.objs.size+1)::us) G.kIn hl) J S) fun r s' B=>?_))
 cases r with
 | error e=>exact hx pins σ _ _ e s' G B
 | ok fl =>
  cases fl with
  | ret u =>
   obtain ⟨v,H',I3,rv,Z,U⟩:=G.after B
   subst Z
   exact ⟨rv,⟨V.ref (s.heap.objs.size+1),H',I3,rfl,U⟩⟩
  | next=>exact QF B
  | brk=>exact QF B
  | cont=>exact QF B
theorem ZjO (M:Mk X.K C f)(F:FnOk X.prog X.w X.K X.mg X.base CX k f fd ps sp)(J:Room (k+1) X.A)(U:Gl X x)(S:X.mg x=some (.ref C))(hb:Binds X.K fd ps ds)(G:Vals dvs ds)(W:WW CX X E)
 (B:(x == ("__debug__":Str))=false:=by decide):PE X (.Call (.Name x p) [] [] pos) (ZkM C sp dvs E XS):=by
 intro pins s σ H Q I h
 refine QR (Wt I U S ?_ B)
 exact Rx I.kIn M.kp (Zkf (us:=[]) M F J hb G W I .nil h)
end
def PK (X:Cx)(kws:List Sn)(t:TA):Prop :=
 ∀ (pos:Pos) (pins:List (Addr×Obj)) (s:Qd) (σ:St) (H:Hp) (Q:List V->Hp->Prop),Inv X pins σ H s->t σ H Q->Qq (Qt X.prog X.w) X.A (evalAll ((JQ pos (GO kws X.env)).map (·.2))) (AP X pins σ Q) X.xe s
section
variable {X:Cx}{CX:Uk}{k:Nat}{f C:Addr}{fd:Qn}{ps ks:List Str}{sp:Sp}{E:XK}{x m:Str}{p pos apos kpos:Pos}{e o:Expr}{es:List Expr}{kws:List Sn}{te ta:TE}{t tk:TA}{nm:Option Str}
theorem Znq:PK X [] XS:=fun _ _ _ _ H Q I h=>Op ⟨[],H,I,.nil,h⟩
theorem ZlG (ha:PE X e te)(U:PK X kws t):PK X (⟨nm,e,kpos⟩::kws) (XQ te t):=by
 intro pos pins s σ H Q I h
 show Qq _ _ (evalAll ((do let v <- eval e X.env;Tr pos;pure v)::(JQ pos (GO kws X.env)).map (·.2))) _ _ s
 refine wpAny_evalAll_cons (Qf (Zt (ha pins s σ H _ I h) fun u s1 B=>?_))
 obtain ⟨x,H1,W,S,G⟩:=B
 refine Qf (GD (Qx ?_))
 exact Zt (U pos pins s1 σ H1 _ W G) fun us s2 ⟨xs,H2,Z,J,q2⟩=>⟨x::xs,H2,Z,.cons S J,q2⟩
variable {g:List Qb->List Qb->List Qb}{gV:List V->List V->List V}
end
structure Zp (N P:List Str)(sc:Scope):Prop where
 kind:sc.kind=.function:=by rfl
 co:sc.isCoroutine=false:=by rfl
 gen:sc.isGenerator=false:=by rfl
 nd:N.Nodup:=by decide +kernel
 pre:N.take P.length=P:=by rfl
 par:∀ x∈P,sc.names.lookup x=some .local\/sc.names.lookup x=some .cell:=by decide +kernel
 nofree:∀ y∈sc.names,y.2≠.free:=by decide +kernel
theorem ZcI {kindOf:Str->Option JB}{x:Str}:∀{binds:List (Str×Qb)}{m:Str->Option Qb},(∀ v,(x,v) ∉ binds)->Ng kindOf binds m x=m x
 | [],_,_=>rfl
 | (n,v)::r,m,h=>by
  unfold Ng
  rw [ZcI fun w B=>h w (mem_cons_of_mem _ B)]
  split
  ·have:x≠n:=by rintro rfl;exact h v mem_cons_self
   simp [this]
  ·rfl
theorem ZcG {kindOf:Str->Option JB}{x:Str}:∀{binds:List (Str×Qb)}{m:Str->Option Qb},(∀ v,(x,v) ∉ binds)->bindC kindOf binds m x=m x
 | [],_,_=>rfl
 | (n,v)::r,m,h=>by
  unfold bindC
  rw [ZcG fun w B=>h w (mem_cons_of_mem _ B)]
  split
  ·rfl
  ·have:x≠n:=by rintro rfl;exact h v mem_cons_self
   simp [this]
theorem ZcH {kindOf:Str->Option JB}{x:Str}{v:Qb}:∀{P:List Str}{vs:List Qb}{i:Nat}{m:Str->Option Qb},P.Nodup->P[i]?=some x->vs[i]?=some v->kindOf x=some .local ->
 Ng kindOf (P.zip vs) m x=some v
 | [],_,_,_,_,h,_,_=>by simp at h
 | _::_,[],_,_,_,_,h,_=>by simp at h
 | p::P,w::vs,0,m,nd,h1,h2,hk=>by
  simp at h1 h2;subst h1;subst h2
  show Ng kindOf ((p,w)::P.zip vs) m p=_
  unfold Ng
  rw [ZcI fun v B=>(nodup_cons.mp nd).1 (of_mem_zip B).1,if_pos hk]
  simp
 | p::P,w::vs,i+1,m,nd,h1,h2,hk=>by
  show Ng kindOf ((p,w)::P.zip vs) m x=_
  unfold Ng
  exact ZcH (i:=i) (nodup_cons.mp nd).2 (by simpa using h1) (by simpa using h2) hk
theorem ZcF {kindOf:Str->Option JB}{x:Str}{v:Qb}:∀{P:List Str}{vs:List Qb}{i:Nat}{m:Str->Option Qb},P.Nodup->P[i]?=some x->vs[i]?=some v->kindOf x≠some .local ->
 bindC kindOf (P.zip vs) m x=some v
 | [],_,_,_,_,h,_,_=>by simp at h
 | _::_,[],_,_,_,_,h,_=>by simp at h
 | p::P,w::vs,0,m,nd,h1,h2,hk=>by
  simp at h1 h2;subst h1;subst h2
  show bindC kindOf ((p,w)::P.zip vs) m p=_
  unfold bindC
  rw [ZcG fun v B=>(nodup_cons.mp nd).1 (of_mem_zip B).1,if_neg hk]
  simp
 | p::P,w::vs,i+1,m,nd,h1,h2,hk=>by
  show bindC kindOf ((p,w)::P.zip vs) m x=_
  unfold bindC
  exact ZcF (i:=i) (nodup_cons.mp nd).2 (by simpa using h1) (by simpa using h2) hk
def start (N:List Str)(vs:List V):St:=vs.map some++GX (N.length - vs.length) none
def ZN (CX:Uk)(P:Qi)(w:Qu)(K:Qa)(mg:Str->Option Qb)(base:Heap)(N:List Str)(qual:Str)(scope:Scope)(f:Addr)(cd:Qb)(A:Qz)(outer:List Env)(s:Qd)(H:Hp)(E:XK):Cx where
 prog:=P
 w:=w
 K:=K
 mg:=mg
 base:=base
 A:=A.deeper (Pe qual scope s.heap.objs.size f cd)
 N:=N
 s₀:=s
 H₀:=H
 env:=Pe qual scope s.heap.objs.size f cd
 outer:=outer
 stack:=Pe qual scope s.heap.objs.size f cd::outer
 ex:=[]
 calm:=true
 fn:=fun _=>true
 pn:=[]
 xe:=fun e s'=>Qq (Qt P w) (A.deeper (Pe qual scope s.heap.objs.size f cd)) (leaving (Pe qual scope s.heap.objs.size f cd) e) (fun _ s''=>CX outer H s E e s'') (fun e' s''=>CX outer H s E e' s'') s'
theorem ZdN {sc:Scope}{n:Nat}{x:Str}(h:sc.names.lookup x=some .cell):∃ c,(cellsFrom n sc.names []).lookup x=some c:=by
 have q:=So sc.names n [] (.inl h)
 exact JC.mp q
theorem ZhE {CX:Uk}{P:Qi}{w:Qu}{K:Qa}{mg:Str->Option Qb}{base:Heap}{N ps:List Str}{qual:Str}{scope:Scope}{f:Addr}{J:Qb}{A:Qz}{outer:List Env}{s s1:Qd}{H:Hp}{E:XK}{us:List Qb}{vs:List V}
 (S:Zp N ps scope) (hd:A.handled=none) (B:Env0 P w K mg base A outer s H) (hl:vs.length=ps.length) (r:Vals vs us)
 (x:InCallC s s.heap.objs.size (Ng (Pe qual scope s.heap.objs.size f J).kindOf (ps.zip us) fun _=>none) (cellsFrom (s.heap.objs.size+1) scope.names []) (bindC (Pe qual scope s.heap.objs.size f J).kindOf (ps.zip us) fun _=>none) s1) :
 Inv (ZN CX P w K mg base N qual scope f J A outer s H E) [] (start N vs) H s1:=by
 have Z:ps.length<=N.length:=by have:=congrArg JI S.pre;rw [length_take] at this;omega
 obtain ⟨h1,tk,rfl,U⟩:=x.done
 have G:∀ b:Addr,b ∉ (ZN CX P w K mg base N qual scope f J A outer s H E).ex:=fun b z=>absurd (show b∈([]:List Addr) from z) (by simp)
 refine ⟨⟨B.mod,S.kind,rfl,rfl,Qg _,fun y z c h1 h2=>?_,fun y hy=>?_,fun y c _ h=>?_,fun _=>hd,Po B.frames,.inr ⟨rfl,rfl⟩,fun b z=>absurd z (G b),B.bs,B.bsz,fun b _ _=>G b,fun b z=>absurd z (G b),B.funs,B.frf⟩,
  rfl,B.bare,Un.kept U,⟨_,x.toInCall.ns,fun i y v h1 h2 h3=>?_⟩,fun y c h=>⟨_,x.cell y c h⟩,B.hok.fresh (Qg _),fun y c h=>?_,fun p hp=>absurd (show p∈([]:List (Addr×Obj)) from hp) (by simp),B.hok.kept U,?_⟩
 ·exact name_of_addr x.apart (GW h1) (GW h2)
 ·have hy:scope.names.lookup y=some .cell\/scope.names.lookup y=some .free:=hy
  rcases hy with hy | hy
  ·exact ZdN hy
  ·exact absurd rfl (S.nofree _ (GW hy))
 ·exact Gu (x.above y c (GW h))
 ·have hi:i < vs.length:=by
   unfold start at h2
   by_cases hi:i < vs.length
   ·exact hi
   ·rw [getElem?_append_right (by simpa using hi)] at h2
    rw [List.getElem?_replicate] at h2
    split at h2<;>cases h2
  have ha:vs[i]?=some v:=by
   unfold start at h2
   rw [getElem?_append_left (by simpa using hi),getElem?_map] at h2
   cases e:vs[i]? with
   | none=>rw [e] at h2;cases h2
   | some a=>rw [e] at h2;cases h2;rfl
  obtain ⟨u,W,rv⟩:=r.get ha
  have hp:ps[i]?=some y:=by
   rw [<- S.pre,List.getElem?_take_of_lt (by omega)];exact h1
  have I:ps.Nodup:=by rw [<- S.pre];exact S.nd.sublist (Tt _ _)
  refine ⟨u,rv,?_⟩
  rcases S.par y (mem_of_getElem? hp) with k | k
  ·exact .inl ⟨k,ZcH I hp W k⟩
  ·obtain ⟨c,e⟩:=ZdN (n:=s.heap.objs.size+1) k
   refine .inr ⟨.inl k,c,e,?_⟩
   have q:=x.cell y c e
   rw [ZcF I hp W (by show scope.names.lookup y≠_;rw [k];decide)] at q
   exact q
 ·exact B.hok.fresh (Gu (x.above y c (GW h)))
 ·unfold start
  show _=N.length
  rw [length_append,length_map,Pa]
  omega
theorem Zgh {CX:Uk}{P:Qi}{w:Qu}{K:Qa}{mg:Str->Option Qb}{base:Heap}{k:Nat}{f:Addr}{name qual:Str}{G:GY}{body:List Stmt}{scope:Scope}{dV kV doc pm B ct oc:Qb}{an od:Option Addr}
 {osl:Array (Option Qb)} {N ps:List Str} {sp:Sp} (lk:K.lookup f=some ⟨oc,od,.func (JR name qual G body scope dV kV doc pm an B ct),osl⟩) (hcd:SU K B qual=true) (S:Zp N ps scope)
 (len:∀ vs H Q E,sp vs H Q E->vs.length=ps.length)
 (Z:∀ (A:Qz) (outer:List Env) (s:Qd) (H:Hp) (vs:List V) (Q:VK) (E:XK),Room k (A.deeper (Pe qual scope s.heap.objs.size f B))->sp vs H Q E ->
  ∃ t,PSs (ZN CX P w K mg base N qual scope f B A outer s H E) body t/\t { nx:=fun _ H'=>Q .non H',rt:=Q } (start N vs) H) :
 FnOk P w K mg base CX (k+1) f (JR name qual G body scope dV kV doc pm an B ct) ps sp:=by
 refine ⟨len,fun A outer s H args us vs Q E hr e0 hb r hsp=>?_⟩
 have hl:=len _ _ _ _ hsp
 have KX:K.In s.heap:=e0.mod.kin.keeps fun b o e=>(e0.bs b o e).1
 have lim:s.heap.NoLimit:=e0.mod.nolimit.keeps fun b o e=>(e0.bs b o e).1
 have hkind:∀ y∈ps.zip us,scope.names.lookup y.1=some .local\/(scope.names.lookup y.1=some .cell/\((cellsFrom (s.heap.objs.size+1) scope.names []).lookup y.1).isSome=true):=fun ⟨n,v⟩ hy=>by
  rcases S.par n (of_mem_zip hy).1 with q | q
  ·exact .inl q
  ·exact .inr ⟨q,So _ _ _ (.inl q)⟩
 refine codeAny_call_function hr.depth (KX _ _ lk) rfl S.co S.gen rfl (PySem.W.codeRec_of KX hcd) (hb _ _ _ _ ?_)
 refine Tj S.kind hkind fun env he s1 x=>?_
 subst he
 refine ⟨lim.keeps x.toInCall.keep,codeAny_func ?_⟩
 obtain ⟨t,ht,hq⟩:=Z A outer s H vs Q E (hr.deeper _) hsp
 have I:Inv (ZN CX P w K mg base N qual scope f B A outer s H E) [] (start N vs) H s1:=ZhE S hr.hd e0 hl r x
 refine QP (ht [] s1 (start N vs) H _ I hq) (fun fl s' hs=>?_) fun e s' hs=>hs
 have fin:∀ {U:St} {H':Hp} {v:V} {u:Qb},Inv (ZN CX P w K mg base N qual scope f B A outer s H E) [] U H' s'->RelV v u->Q v H'->CE outer P w H s Q u s' :=
  fun {U H' v u} J rv q=>⟨v,H',J.os,J.bare,J.base,J.hok,rv,q⟩
 cases fl with
 | ret u =>
  obtain ⟨v,U,H',J,rv,q⟩:=hs
  exact fin J rv q
 | next =>
  obtain ⟨U,H',J,q⟩:=hs
  exact fin (v:=V.non) (u:=QW) J rfl q
 | brk =>
  obtain ⟨_,_,_,q⟩:=hs
  exact QF q
 | cont =>
  obtain ⟨_,_,_,q⟩:=hs
  exact QF q
section
variable {X:Cx}{x:Str}{p pos:Pos}{e:Expr}{es:List Expr}{t:TA}{id T:String}{r:List V->Hp->VK->Prop}
def tCB (r:List V->Hp->VK->Prop)(t:TA):TE:=fun σ H Q=>t σ H fun vs H1=>r vs H1 Q
theorem Zu (S:Yt X (.builtin id) r)(hg:Gl X x)(hm:X.mg x=none)(W:JL x=some (.builtin id))(ha:PA X (e::es) t)(J:x≠"__name__":=by decide)(G:(x == ("__debug__":Str))=false:=by decide)
 (he:QA (e::es) X.env=(false,eval e X.env)::QA es X.env:=by rfl) (B:(GG pos (QA es X.env)).any (·.1)=false:=by rfl):PE X (.Call (.Name x p) (e::es) [] pos) (tCB r t):=by
 intro pins s σ H Q I h
 refine QR (UD I hg hm W ?_ J G)
 exact ON (Zt (ha pos pins s σ H _ I h) fun us s1 ⟨vs,H1,I1,Z,U⟩=>S pins s1 σ H1 vs us Q I1 Z U) he B
theorem YI (S:Yt X (.type T) r)(hg:Gl X x)(hm:X.mg x=none)(W:JL x=some (.type T))(ha:PA X (e::es) t)(J:x≠"__name__":=by decide)(G:(x == ("__debug__":Str))=false:=by decide)
 (he:QA (e::es) X.env=(false,eval e X.env)::QA es X.env:=by rfl) (B:(GG pos (QA es X.env)).any (·.1)=false:=by rfl):PE X (.Call (.Name x p) (e::es) [] pos) (tCB r t):=by
 intro pins s σ H Q I h
 refine QR (UD I hg hm W ?_ J G)
 exact PP (Zt (ha pos pins s σ H _ I h) fun us s1 ⟨vs,H1,I1,Z,U⟩=>S pins s1 σ H1 vs us Q I1 Z U) he B
end
end L2
namespace HT
open PySem PyProof.Rows
section
open PySem.SeqAt
open PySem.AutoSeq1 (wpAny_loadPart')
open PySem.MeetsSeq PySem.MeetsSeq2 PySem.MeetsSeq3
end
section
variable {prog:Qi}{w:Qu}{A:Qz}{E:Qb->Qd->Prop}{s:Qd}
def sIx (n d:Nat):Option Int->Nat
 | none=>d
 | some v=>if v < 0 then (v+(n:Int)).toNat else min v.toNat n
theorem sIx_none (n d:Nat):sIx n d none=d:=rfl
theorem sIx_nat (n d k:Nat):sIx n d (some (k:Int))=min k n:=by
 show (if (k:Int) < 0 then ((k:Int)+(n:Int)).toNat else min (k:Int).toNat n)=min k n
 rw [if_neg (by omega),Int.toNat_natCast]
theorem sIx_le (n d:Nat)(G:d<=n)(o:Option Int):sIx n d o<=n:=by
 cases o with
 | none=>exact G
 | some v =>
  show (if v < 0 then (v+(n:Int)).toNat else min v.toNat n)<=n
  by_cases B:v < 0
  ·rw [if_pos B];omega
  ·rw [if_neg B];exact Nat.min_le_right _ _
end
end HT
namespace L2
open PySem PySem.Spec PyProof.Rows
abbrev TO:=St->Hp->(Option Int->Hp->Prop)->Prop
def PO (X:Cx)(e:Option Expr)(t:TO):Prop :=
 ∀ (pins:List (Addr×Obj)) (s:Qd) (σ:St) (H:Hp) (Q:Option Int->Hp->Prop),Inv X pins σ H s->t σ H Q ->
  Qq (Qt X.prog X.w) X.A (evalPart e X.env) (fun u s'=>∃ o H',Inv X pins σ H' s'/\IsPart u o/\Q o H') X.xe s
def ZfM:TO:=fun _ H Q=>Q none H
inductive ZfP (Q:Option Int->Hp->Prop)(x:V)(H1:Hp):Prop
 | mk (i:_):x=.int i->Q (some i) H1->ZfP Q x H1
def Zpn (t:TE):TO:=fun σ H Q=>t σ H fun x H1=>ZfP Q x H1
section
variable {X:Cx}{e:Expr}{te:TE}{lo hi:Option Expr}{tl th:TO}{pos p2:Pos}
theorem Zao:PO X none ZfM:=by
 intro pins s σ H Q I h
 rw [evalPart_none]
 exact Qx ⟨none,H,I,.none,h⟩
theorem Zap (h:PE X e te):PO X (some e) (Zpn te):=by
 intro pins s σ H Q I J
 rw [evalPart_some]
 refine Zt (h pins s σ H _ I J) fun u s1 B=>?_
 obtain ⟨x,H1,U,S,G⟩:=B
 obtain ⟨i,rfl,q⟩:=G
 obtain ⟨t,rfl⟩:=S
 exact ⟨some i,H1,U,.int i t,q⟩
def SlR (X:Cx)(r:V->Option Int->Option Int->Hp->VK->Prop):Prop :=
 ∀ (pins:List (Addr×Obj)) (s:Qd) (σ:St) (H:Hp) (x:V) (v vl vu:Qb) (lo hi:Option Int) (sl:Addr) (Q:VK),Inv X pins σ H s->RelV x v->s.heap.IsSliceOf sl vl vu .none->IsPart vl lo->IsPart vu hi->r x lo hi H Q ->
  ∃ T id,QX (.type T) "__getitem__"=pure (some (.builtin id))/\s.TypeIs v T/\Qq (Qt X.prog X.w) X.A (Oq v (.ref sl)) (EP X pins σ Q) X.xe s
def tSl (r:V->Option Int->Option Int->Hp->VK->Prop)(te:TE)(tl th:TO):TE:=fun σ H Q=>te σ H fun x H1=>tl σ H1 fun l H2=>th σ H2 fun u H3=>r x l u H3 Q
theorem Vi {r:V->Option Int->Option Int->Hp->VK->Prop}(hr:SlR X r)(he:PE X e te)(hl:PO X lo tl)(Z:PO X hi th):PE X (.Subscript e (.Slice lo hi none p2) pos) (tSl r te tl th):=by
 intro pins s σ H Q I h
 refine RT (Zt (he pins s σ H _ I h) fun v s1 G=>?_)
 obtain ⟨x,H1,W,r1,q1⟩:=G
 refine wpAny_Slice (Zt (hl pins s1 σ H1 _ W q1) fun S s2 G=>?_)
 obtain ⟨l,H2,I2,pl,q2⟩:=G
 refine Zt (Z pins s2 σ H2 _ I2 q2) fun J B G=>?_
 obtain ⟨u,U,I3,pu,q3⟩:=G
 rw [evalPart_none]
 refine Qx ?_
 have I4:Inv X pins σ U { B with heap:=B.heap.push { cls:=.type "slice",data:=.fields #[S,J,.none] } }:=I3.kept (t':=B.toks) fun b ob q=>Qe _ q
 obtain ⟨T,id,hT,ht,hg⟩:=hr pins { B with heap:=B.heap.push { cls:=.type "slice",data:=.fields #[S,J,.none] } } σ U x v S J l u B.heap.objs.size Q I4 r1 (Heap.IsSliceOf.new ..) pl pu q3
 show Qq (Qt X.prog X.w) X.A (RE e (.Slice lo hi none p2) v (.ref B.heap.objs.size)) (EP X pins σ Q) X.xe { B with heap:=B.heap.push { cls:=.type "slice",data:=.fields #[S,J,.none] } }
 exact tail_any (ops:=[.ref B.heap.objs.size,v]) ht hT hg (by with_unfolding_all rfl)
def UZ (xs:List V)(lo hi:Option Int):List V:=(xs.drop (HT.sIx xs.length 0 lo)).take (HT.sIx xs.length xs.length hi - HT.sIx xs.length 0 lo)
theorem Zaz (xs:List V)(lo hi:Option Int):(UZ xs lo hi).length<=xs.length:=by
 unfold UZ
 rw [length_take,TX]
 omega
end
def Wm (n:Nat)(i:Int):Option Nat:=if 0<=i then (if i < n then some i.toNat else none) else if -(n:Int)<=i then some (i+n).toNat else none
def YG {α:Type}(xs:List α)(i:Int):Option α:=(Wm xs.length i).bind fun j=>xs[j]?
theorem Zcl {n:Nat}{i:Int}{j:Nat}(h:Wm n i=some j):seqIndex? i n=some j/\j < n/\-(n:Int)<=i/\i < n:=by
 unfold Wm at h
 by_cases B:0<=i
 ·rw [if_pos B] at h
  by_cases h1:i < n
  ·rw [if_pos h1] at h
   have e:i.toNat=j:=QE h
   exact ⟨by rw [Nh B h1,e],by omega,by omega,h1⟩
  ·rw [if_neg h1] at h;cases h
 ·rw [if_neg B] at h
  by_cases h1:-(n:Int)<=i
  ·rw [if_pos h1] at h
   have e:(i+n).toNat=j:=QE h
   exact ⟨by rw [Os (by omega) h1,e],by omega,h1,by omega⟩
  ·rw [if_neg h1] at h;cases h
theorem Zcg {B:Type}{xs:List B}{i:Int}{v:B}(h:YG xs i=some v):∃ j,seqIndex? i xs.length=some j/\xs[j]?=some v/\j < xs.length/\-(xs.length:Int)<=i/\i < xs.length:=by
 unfold YG at h
 cases e:Wm xs.length i with
 | none=>rw [e] at h;cases h
 | some j =>
  rw [e] at h
  obtain ⟨h1,h2,G,I⟩:=Zcl e
  exact ⟨j,h1,h,h2,G,I⟩
theorem ZI {B:Type}{xs:List B}{j:Nat}{v:B}(h:xs[j]?=some v):YG xs (j:Int)=some v:=by
 have G:j < xs.length:=(Qk.mp h).1
 have e:Wm xs.length (j:Int)=some j:=by
  unfold Wm
  rw [if_pos (by omega),if_pos (by omega)];simp
 unfold YG;rw [e];exact h
theorem Zjb {B:Type}(xs:List B)(v:B):YG (xs++[v]) (-1)=some v:=by
 have G:(xs++[v]).length=xs.length+1:=by simp
 have e:Wm (xs++[v]).length (-1)=some xs.length:=by
  unfold Wm
  rw [G,if_neg (by decide),if_pos (by omega)]
  congr 1
  omega
 unfold YG
 rw [e]
 show (xs++[v])[xs.length]?=some v
 simp
def ZkQ (b:Expr):Prop:=∀ o i,SV b false o i=operate [o,i] (Oq o i)
def IxR (X:Cx)(r:R2):Prop :=
 ∀ (value slice:Expr) (pins:List (Addr×Obj)) (s:Qd) (σ:St) (H:Hp) (x y:V) (v u:Qb) (Q:VK),Inv X pins σ H s->RelV x v->RelV y u->r x y H Q ->
  SV slice false v u=operate [v,u] (Oq v u)->Qq (Qt X.prog X.w) X.A (RE value slice v u) (EP X pins σ Q) X.xe s
def MtR (X:Cx)(id:String)(r:V->List V->Hp->VK->Prop):Prop :=
 ∀ (pins:List (Addr×Obj)) (s:Qd) (σ:St) (H:Hp) (x:V) (xs:List V) (v:Qb) (us:List Qb) (Q:VK),Inv X pins σ H s->RelV x v->Vals xs us->r x xs H Q ->
  Qq (Qt X.prog X.w) X.A (call (.builtin id) (v::us)) (EP X pins σ Q) X.xe s
section
variable {X:Cx}{a b:Expr}{ta tb:TE}{pos:Pos}
theorem ZD {r:R2}(G:IxR X r)(W:PE X a ta)(hb:PE X b tb)(J:ZkQ b):PE X (.Subscript a b pos) (tOp r ta tb):=by
 intro pins s σ H Q I h
 exact RT (Zjc W hb I h fun v u s2 x y H2 U B S q=>G a b pins s2 σ H2 x y v u Q U B S q (J _ _))
inductive Zit (K:Qa)(x y:V)(H:Hp)(Q:VK):Prop
 | mk (p xs i v:_):x=.ref p->y=.int i->SqL K H p xs->YG xs i=some v->Q v H->Zit K x y H Q
def rIxL (K:Qa):R2:=fun x y H Q=>Zit K x y H Q
inductive Ziv (K:Qa)(x y:V)(H:Hp)(Q:VK):Prop
 | mk (p xs i v:_):x=.ref p->y=.int i->SqT K H p xs->YG xs i=some v->Q v H->Ziv K x y H Q
def rIxT (K:Qa):R2:=fun x y H Q=>Ziv K x y H Q
inductive Ziu (x y:V)(H:Hp)(Q:VK):Prop
 | mk (z i c:_):x=.str z->y=.int i->z.length<=Qj->YG z.cps.toList i=some c->Q (.str ⟨#[c]⟩) H->Ziu x y H Q
def rIxS :R2:=fun x y H Q=>Ziu x y H Q
theorem ZE:IxR X (rIxL X.K):=by
 intro value J pins s σ H x y v u Q I rx ry h W
 obtain ⟨p,xs,i,z,rfl,rfl,hq,he,q⟩:=h
 cases rx
 obtain ⟨t,rfl⟩:=ry
 obtain ⟨U,r,pl,hz⟩:=I.list hq
 obtain ⟨j,h1,h2,h3,h4,h5⟩:=Zcg he
 obtain ⟨w,ew,G⟩:=r.get h2
 have hl:=r.length
 have hn:=Uf
 have B:EP X pins σ Q w s:=⟨z,H,I,G,q⟩
 by_cases Z:0<=i
 ·have S:i.toNat=j:=by
   rw [Nh Z h5] at h1
   exact QE h1
  exact item_listR pl.isList Z (by omega) (by rw [S];simpa using ew) B W
 ·have S:(i+(U.toArray.size:Int)).toNat=j:=by
   rw [Os (by omega) h4] at h1
   rw [size_toArray,<- hl]
   exact QE h1
  exact JS (x:=w) pl.isList.typeIs Ot.lookup
   (wpAny_getItem_list_neg (Q:=fun r s'=>r=w/\EP X pins σ Q r s') pl.isList (by omega) (by rw [size_toArray]<;>omega) (by omega) (by rw [S];simpa using ew) ⟨rfl,B⟩) W
theorem YL:IxR X (rIxT X.K):=by
 intro value J pins s σ H x y v u Q I S ry h W
 obtain ⟨p,xs,i,z,rfl,rfl,hq,he,q⟩:=h
 cases S
 obtain ⟨t,rfl⟩:=ry
 obtain ⟨U,r,pl,hz⟩:=I.tuple hq
 obtain ⟨j,h1,h2,h3,h4,h5⟩:=Zcg he
 obtain ⟨w,Z,G⟩:=r.get h2
 have hl:=r.length
 have hn:=Uf
 have B:EP X pins σ Q w s:=⟨z,H,I,G,q⟩
 exact JS (x:=w) pl.typeIs RU.lookup
  (getItem_tuple (j:=j) (Q:=fun r s'=>r=w/\EP X pins σ Q r s') pl (by omega) (by omega) (by rw [size_toArray,<- hl];exact h1) (by simpa using Z) ⟨rfl,B⟩) W
theorem Zbv:IxR X rIxS:=by
 intro value B pins s σ H x y v u Q I G Z h W
 obtain ⟨z,i,c,rfl,rfl,hz,U,q⟩:=h
 obtain ⟨t,rfl⟩:=G
 obtain ⟨t',rfl⟩:=Z
 obtain ⟨j,h1,h2,h3,J,h5⟩:=Zcg U
 have hl:z.cps.toList.length=z.length:=by simp [Str.length]
 rw [hl] at h1 J h5
 have hn:=Uf
 exact tail_any (typeIs_str s z t) slot_str_getitem.lookup (getItem_str (c:=c) (by
  have e1:decide (i < -(2 ^ 63:Int))=false:=decide_eq_false (by omega)
  have S:decide (i ≥ 2 ^ 63)=false:=decide_eq_false (by omega)
  rw [e1,S,Bool.or_false]) (by rw [h1];simpa using h2) ⟨.str ⟨#[c]⟩,H,I.tok _,⟨_,rfl⟩,q⟩) W
theorem Zgp (B:List Qb)(n j:Nat)(u:Qb):QY (·.setIfInBounds j u) { cls:=.type "list",data:=.seq B.toArray n }={ cls:=.type "list",data:=.seq (B.set j u).toArray n }:=by
 simp [QY]
theorem Inv.lst {pins:List (Addr×Obj)}{σ:St}{H:Hp}{s:Qd}{p:Addr}{xs:List V}(I:Inv X pins σ H s)(h:H p=some (.lst xs)) :
 ∃ (B:List Qb) (n:Nat),Vals xs B/\s.heap.get? p=some { cls:=.type "list",data:=.seq B.toArray n }/\xs.length<=sizeLine:=by
 obtain ⟨z,B,n,r,e⟩:=I.hok p _ h
 exact ⟨B,n,r,e,z⟩
theorem Inv.lstUpd {pins:List (Addr×Obj)}{σ:St}{H:Hp}{s:Qd}{p:Addr}{xs ys:List V}{B its':List Qb}{n G:Nat}{f:Obj->Obj}(I:Inv X pins σ H s)(h:H p=some (.lst xs))
 (U:s.heap.get? p=some { cls:=.type "list",data:=.seq B.toArray n }) (J:f { cls:=.type "list",data:=.seq B.toArray n }={ cls:=.type "list",data:=.seq its'.toArray G }) (r:Vals ys its') (S:ys.length<=Qj) (t:Nat) :
 Inv X pins σ (upd H p (.lst ys)) { s with heap:=s.heap.update p f,toks:=t }:=by
 have e:(s.heap.update p f).get? p=some { cls:=.type "list",data:=.seq its'.toArray G }:=by
  rw [Jo f U (by rw [J]<;>rfl),J]
 refine I.write (x:=p) (e:=p) (by rw [h];trivial) (.inl rfl) (fun b u hb q=>(Gi _ _ (Gg hb)).trans q) ⟨_,e⟩ ?_
 exact ⟨S,its',G,r,e⟩
inductive ZfB (o i v:V)(H:Hp)(Q:(Hp->Prop)):Prop
 | mk (p xs k j:_):o=.ref p->i=.int k->H p=some (.lst xs)->Wm xs.length k=some j->Q (upd H p (.lst (xs.set j v)))->ZfB o i v H Q
def ZoB :V->V->V->Hp->(Hp->Prop)->Prop:=fun o i v H Q=>ZfB o i v H Q
theorem Ug:PSet X ZoB:=by
 intro pins s σ H o i v ov iv u Q I ro ri rv h
 obtain ⟨p,xs,k,j,rfl,rfl,hp,hj,q⟩:=h
 cases ro
 obtain ⟨t,rfl⟩:=ri
 obtain ⟨B,n,r,S,hz⟩:=I.lst hp
 obtain ⟨h1,h2,Z,U⟩:=Zcl hj
 have J:=r.length
 have hn:=Uf
 have I':Inv X pins σ (upd H p (.lst (xs.set j v))) { s with heap:=s.heap.update p (QY (·.setIfInBounds j u)) } :=
  I.lstUpd hp S (Zgp B n j u) (r.set rv j) (by rw [length_set];exact hz) s.toks
 by_cases h0:0<=k
 ·have G:k.toNat=j:=by
   rw [Nh h0 U] at h1
   exact QE h1
  exact PySem.W.ki_setAt S h0 (by omega) (by rw [size_toArray,<- J];exact U) (by rw [G];exact ⟨_,I',q⟩)
 ·have G:(k+(B.toArray.size:Int)).toNat=j:=by
   rw [Os (by omega) Z] at h1
   rw [size_toArray,<- J]
   exact QE h1
  exact PySem.W.ki_setBack S (by omega) (by rw [size_toArray,<- J];exact Z) (by omega) (by rw [G];exact ⟨_,I',q⟩)
theorem Zep (lo hi:Option Int)(n:Nat):(JJ lo hi none n).1=((HT.sIx n 0 lo:Nat):Int)/\(JJ lo hi none n).2.1=((HT.sIx n n hi:Nat):Int)/\(JJ lo hi none n).2.2=1:=by
 refine ⟨?_,?_,rfl⟩
 ·cases lo with
  | none=>simp [JJ,HT.sIx]
  | some i =>
   simp only [JJ,HT.sIx,OO,show (1:Int) > 0 by decide,if_true]
   by_cases h:i < 0
   ·simp only [h,if_true]<;>omega
   ·simp only [h,if_false]<;>omega
 ·cases hi with
  | none=>simp [JJ,HT.sIx]
  | some i =>
   simp only [JJ,HT.sIx,OO,show (1:Int) > 0 by decide,if_true]
   by_cases h:i < 0
   ·simp only [h,if_true]<;>omega
   ·simp only [h,if_false]<;>omega
theorem Zdj (B:List Qb)(lo hi:Option Int):slicePick B.toArray lo hi none=((B.drop (HT.sIx B.length 0 lo)).take (HT.sIx B.length B.length hi - HT.sIx B.length 0 lo)).toArray:=by
 obtain ⟨h1,h2,G⟩:=Zep lo hi B.toArray.size
 unfold slicePick
 rw [h1,h2,G]
 simp only [sliceRange_one,pick_run,size_toArray]<;>rfl
inductive Ziw (K:Qa)(x:V)(lo hi:Option Int)(H:Hp)(Q:VK):Prop
 | mk (a xs:_):x=.ref a->SqL K H a xs->(∀ p,H p=none->Q (.ref p) (upd H p (.lst (UZ xs lo hi))))->Ziw K x lo hi H Q
def rSlL (K:Qa):V->Option Int->Option Int->Hp->VK->Prop:=fun x lo hi H Q=>Ziw K x lo hi H Q
theorem ZfE:SlR X (rSlL X.K):=by
 intro pins s σ H x v vl vu lo hi sl Q I J W pl S h
 obtain ⟨a,xs,rfl,hx,q⟩:=h
 cases J
 obtain ⟨Z,r,G,U⟩:=I.list hx
 have B:=r.length
 refine ⟨"list",_,Ot.lookup,G.isList.typeIs,?_⟩
 refine wpAny_getItem_list_slice G.isList W pl S .none (by simp) ?_ (by rw [size_toArray]<;>omega)
 rw [Zdj,<- B]
 refine ⟨.ref s.heap.objs.size,_,I.laid (t':=s.toks) (o:=.lst (UZ xs lo hi)) (fun b ob q=>Qe _ q) (Qg _) ?_,rfl,q _ (I.hok.fresh (Qg _))⟩
 exact ⟨Qr (Zaz xs lo hi) U,_,0,(r.drop (HT.sIx xs.length 0 lo)).take (HT.sIx xs.length xs.length hi - HT.sIx xs.length 0 lo),Qo _ rfl⟩
theorem Ya:Yt X (.builtin "len") (fun xs H Q=>∃ p ys,xs=[.ref p]/\(SqL X.K H p ys\/SqT X.K H p ys)/\Q (.int ys.length) H):=by
 intro pins s σ H xs us Q I r h
 obtain ⟨p,ys,rfl,hq,q⟩:=h
 obtain ⟨u,rfl,S⟩:=Yq r
 cases S
 have W:=Uf
 rcases hq with hq | hq
 ·obtain ⟨J,G,pl,U⟩:=I.list hq
  have B:=G.length
  exact Rv pl.isList (by simp only [size_toArray]<;>omega) ⟨.int ys.length,H,I.tok _,⟨s.toks+1,by rw [size_toArray,B]⟩,q⟩
 ·obtain ⟨J,G,pl,U⟩:=I.tuple hq
  have B:=G.length
  exact len_tuple pl (by simp only [size_toArray]<;>omega) ⟨.int ys.length,H,I.tok _,⟨s.toks+1,by rw [size_toArray,B]⟩,q⟩
theorem Vz:Yt X (.type "list") (fun xs H Q=>∃ p ys,xs=[.ref p]/\(SqL X.K H p ys\/SqT X.K H p ys)/\∀ l,H l=none->Q (.ref l) (upd H l (.lst ys))):=by
 intro pins s σ H xs us Q I r h
 obtain ⟨p,ys,rfl,hq,q⟩:=h
 obtain ⟨u,rfl,rx⟩:=Yq r
 cases rx
 have S:∀ (B:List Qb),Vals ys B->ys.length<=Qj->∀ (h':Heap) (G:Nat),(∀ b o',s.heap.get? b=some o'->h'.get? b=some o') ->
     h'.get? s.heap.objs.size=some { cls:=.type "list",dict:=none,data:=.seq B.toArray G,slots:=#[] }->EP X pins σ Q (.ref s.heap.objs.size) { s with heap:=h' }:=fun B J W h' G kp e =>
   ⟨.ref s.heap.objs.size,_,I.laid (t':=s.toks) kp (Qg _) (show ObjOk X.prog X.w _ h' _ (.lst ys) from ⟨W,B,G,J,e⟩),rfl,q _ (I.hok.fresh (Qg _))⟩
 rcases hq with hq | hq
 · obtain ⟨B,J,pl,W⟩:=I.list hq
   have U:=J.length
   obtain ⟨o,ho,Z,n,hd⟩:=pl.isList
   exact call_list_seq p (.inl rfl) ho Z hd (fun h' G kp e=>S B J W h' G kp e) (by simp only [size_toArray]<;>omega)
 · obtain ⟨B,J,pl,W⟩:=I.tuple hq
   have U:=J.length
   obtain ⟨o,ho,Z,n,hd⟩:=pl
   exact call_list_seq p (.inr rfl) ho Z hd (fun h' G kp e=>S B J W h' G kp e) (by simp only [size_toArray]<;>omega)
theorem Zdi:Yt X (.type "tuple") (fun xs H Q=>∃ p ys,xs=[.ref p]/\((SqL X.K H p ys/\∀ l,H l=none->Q (.ref l) (upd H l (.tup ys)))\/(SqT X.K H p ys/\Q (.ref p) H))):=by
 intro pins s σ H xs us Q I r h
 obtain ⟨p,ys,rfl,h⟩:=h
 obtain ⟨u,rfl,Z⟩:=Yq r
 cases Z
 rcases h with ⟨J,q⟩ | ⟨J,q⟩
 ·obtain ⟨B,G,pl,S⟩:=I.list J
  have W:=G.length
  refine Nk pl.isList (fun h' kp=>?_) (by simp only [size_toArray]<;>omega)
  have U:Inv X pins σ H { s with heap:=h' }:=I.kept (t':=s.toks) kp
  have I2:Inv X pins σ (upd H h'.objs.size (.tup ys)) { s with heap:=h'.push { cls:=.type "tuple",data:=.seq B.toArray } } :=
   U.laid (t':=s.toks) (fun b o e=>Qe _ e) (Qg _) (show ObjOk X.prog X.w _ _ _ (.tup ys) from ⟨S,B,G,IsTup.new _ _⟩)
  exact ⟨.ref h'.objs.size,_,I2,rfl,q _ (U.hok.fresh (Qg _))⟩
 ·obtain ⟨B,G,pl,S⟩:=I.tuple J
  exact call_tuple_same pl ⟨.ref p,H,I,rfl,q⟩
def tyV (K:Qa)(T:String)(x:V)(H:Hp):Prop:=match x with
 | .str _=>T="str"
 | .int _=>T="int"
 | .ref p=>(T="list"/\∃ xs,SqL K H p xs)\/(T="tuple"/\∃ o,K.lookup p=some o/\o.cls=.type "tuple"/\o.dict=none) \/
     (T="dict"/\((∃ kvs,H p=some (.dK kvs))\/∃ kvs,H p=some (.dT kvs)))\/(T="set"/\∃ S n,H p=some (.set S n))
 | _=>False
theorem ZiS {pins:List (Addr×Obj)}{σ:St}{H:Hp}{s:Qd}{T:String}{x:V}{v:Qb}(I:Inv X pins σ H s)(r:RelV x v)(ty:tyV X.K T x H) :
 s.TypeIs v T/\∀ a,v=.ref a->∃ U,s.heap.get? a=some U/\U.dict=none:=by
 cases x with
 | str z =>
  obtain ⟨t,rfl⟩:=r
  cases (show T="str" from ty)
  exact ⟨typeIs_str s z t,fun _ e=>nomatch e⟩
 | int i =>
  obtain ⟨t,rfl⟩:=r
  cases (show T="int" from ty)
  exact ⟨typeIs_int s i t,fun _ e=>nomatch e⟩
 | ref p =>
  cases r
  rcases ty with ⟨rfl,xs,Z⟩ | ⟨rfl,o,B,W,J⟩ | ⟨rfl,B⟩ | ⟨rfl,S,n,B⟩
  ·obtain ⟨its,_,pl,_⟩:=I.list Z
   refine ⟨pl.isList.typeIs,fun a e=>?_⟩
   cases e
   obtain ⟨o,n,e,c,J,_⟩:=pl
   exact ⟨o,e,J⟩
  ·refine ⟨⟨o,I.kIn p o B,W⟩,fun a e=>?_⟩
   cases e
   exact ⟨o,I.kIn _ o B,J⟩
  ·have z:∃ o,s.heap.get? p=some o/\o.ExactDict:=by
    rcases B with ⟨kvs,B⟩ | ⟨kvs,B⟩
    ·obtain ⟨_,_,_,_,o,_,_,e,ex,_⟩:=I.hok p _ B
     exact ⟨o,e,ex⟩
    ·obtain ⟨_,_,_,_,o,_,_,e,ex,_⟩:=I.hok p _ B
     exact ⟨o,e,ex⟩
   obtain ⟨o,e,ex⟩:=z
   refine ⟨⟨o,e,ex.1⟩,fun a G=>?_⟩
   cases G
   exact ⟨o,e,ex.2.1⟩
  ·obtain ⟨o,_,_,_,e,ex,_⟩:=I.hok p _ B
   refine ⟨⟨o,e,ex.1⟩,fun a G=>?_⟩
   cases G
   exact ⟨o,e,ex.2.1⟩
 | _=>exact QF ty
def tBM0 (K:Qa)(T:String)(r:V->List V->Hp->VK->Prop)(to:TE):TE:=fun σ H Q=>to σ H fun x H1=>tyV K T x H1/\r x [] H1 Q
def tBM (K:Qa)(T:String)(r:V->List V->Hp->VK->Prop)(to:TE)(t:TA):TE:=fun σ H Q=>to σ H fun x H1=>tyV K T x H1/\t σ H1 fun xs H2=>r x xs H2 Q
variable {o e:Expr}{es:List Expr}{to:TE}{t:TA}{name:Str}{apos cpos:Pos}{T id:String}{r:V->List V->Hp->VK->Prop}
theorem Znl (pa:PlainAttrs T)(J:Slot T name id)(S:typeOf (.builtin id)=pure (.type "method_descriptor"))(hm:MtR X id r)(ho:PE X o to)
 (G:Jm o name X.env (eval o X.env)=eval o X.env:=by rfl) (B:(apos.endLine == cpos.line)=true:=by rfl):PE X (.Call (.Attribute o name apos) [] [] cpos) (tBM0 X.K T r to):=by
 intro pins s σ H Q I h
 refine wpAny_Call_method0_late G B (Zt (ho pins s σ H _ I h) fun v s1 Z=>?_)
 obtain ⟨x,H1,W,U,ty,q1⟩:=Z
 obtain ⟨h1,h2⟩:=ZiS W U ty
 exact ⟨T,id,pa,J,S,h1,h2,Ji rfl (PySem.evalArgs_none (hm pins s1 σ H1 x [] v [] Q W U .nil q1))⟩
theorem XD (pa:PlainAttrs T)(U:Slot T name id)(W:typeOf (.builtin id)=pure (.type "method_descriptor"))(hm:MtR X id r)(ho:PE X o to)(ha:PA X (e::es) t)
 (G:Jm o name X.env (eval o X.env)=eval o X.env:=by rfl)
 (S:((GG cpos (QA (e::es) X.env)).all (fun x=>!x.1)&&(JQ cpos (GO [] X.env)).all (fun x=>x.1.isSome)
  && decide ((e::es).length+([]:List Sn).length+(if ([]:List Sn).isEmpty then 0 else 1) < 30))=true:=by rfl)
 (J:(apos.endLine == cpos.line)=true:=by rfl) (hs:QA (e::es) X.env=(false,eval e X.env)::QA es X.env:=by rfl) (B:(GG cpos (QA es X.env)).any (·.1)=false:=by rfl) :
 PE X (.Call (.Attribute o name apos) (e::es) [] cpos) (tBM X.K T r to t):=by
 intro pins s σ H Q I h
 refine wpAny_Call_method_late G S J rfl (Zt (ho pins s σ H _ I h) fun v s1 zz=>?_)
 obtain ⟨x,H1,I1,r1,ty,q1⟩:=zz
 obtain ⟨h1,h2⟩:=ZiS I1 r1 ty
 refine ⟨T,id,pa,U,W,h1,h2,?_⟩
 have Z:=ha cpos pins s1 σ H1 _ I1 q1
 rw [hs] at Z ⊢
 refine Ji (by show (false || (GG cpos (QA es X.env)).any (·.1))=false;rw [B]<;>rfl) (Pr ?_)
 exact Zt Z fun us s2 ⟨vs,H2,I2,r2,q2⟩=>hm pins s2 σ H2 x vs v us Q I2 r1 r2 q2
end
def MtM (X:Cx)(id:String)(r:V->List V->Hp->VK->Prop):Prop :=
 ∀ (pins:List (Addr×Obj)) (s:Qd) (σ:St) (H:Hp) (x:V) (xs:List V) (v:Qb) (us:List Qb) (Q:VK),Inv X pins σ H s->RelV x v->Vals xs us->r x xs H Q ->
  Qq (Qt X.prog X.w) X.A (call (.builtin id) (v::us)) (EP X pins σ Q) X.xe s
theorem Vals.one:∀{x:V}{us:List Qb},Vals [x] us->∃ u,us=[u]/\RelV x u
 | _,_,.cons r .nil=>⟨_,rfl,r⟩
section
variable {X:Cx}{pins:List (Addr×Obj)}{σ:St}{H:Hp}{s:Qd}{l b:Addr}{xs ys zs:List V}
theorem Inv.lset {B its':List Qb}{n:Nat}{f:Array Qb->Array Qb}{t':Nat}(I:Inv X pins σ H s)(U:H l=some (.lst xs))
 (e:s.heap.get? l=some { cls:=.type "list",data:=.seq B.toArray n }) (S:f B.toArray=its'.toArray) (G:Vals ys its') (J:ys.length<=Qj) :
 Inv X pins σ (upd H l (.lst ys)) { s with heap:=s.heap.update l (QY f),toks:=t' }:=by
 have q:=PySem.IsL.update e f
 rw [S] at q
 refine I.write (x:=l) (e:=l) (by rw [U];exact trivial) (.inl rfl) (fun Z u hb W=>(Gi s.heap (QY f) (Gg hb)).trans W) ⟨_,q⟩ ?_
 exact ⟨J,its',_,G,q⟩
theorem Inv.lnew {B:List Qb}{t':Nat}(I:Inv X pins σ H s)(G:Vals ys B)(J:ys.length<=Qj) :
 Inv X pins σ (upd H s.heap.objs.size (.lst ys)) { s with heap:=s.heap.push { cls:=.type "list",data:=.seq B.toArray },toks:=t' } :=
 I.laid (fun _ _ q=>Qe _ q) (Qg _) ⟨J,B,0,G,Qo _ rfl⟩
theorem Inv.fresh (I:Inv X pins σ H s):H s.heap.objs.size=none:=I.hok.fresh (Qg _)
theorem Inv.lstM (I:Inv X pins σ H s)(G:H l=some (.lst xs)):xs.length<=Qj/\∃ (B:List Qb) (n:Nat),Vals xs B/\xs.length=B.length/\s.heap.get? l=some { cls:=.type "list",data:=.seq B.toArray n }:=by
 obtain ⟨z,B,n,r,e⟩:=I.hok l _ G
 exact ⟨z,B,n,r,r.length,e⟩
end
section
variable {X:Cx}
inductive ZcU (x:V)(vs:List V)(H:Hp)(Q:VK):Prop
 | mk (l xs y:_):x=.ref l->vs=[y]->H l=some (.lst xs)->xs.length < Qj->Q .non (upd H l (.lst (xs++[y])))->ZcU x vs H Q
def ZlM :V->List V->Hp->VK->Prop:=fun x vs H Q=>ZcU x vs H Q
theorem YH:MtM X "list.append" ZlM:=by
 intro pins s σ H x vs v us Q I J S h
 obtain ⟨l,xs,y,rfl,rfl,G,W,q⟩:=h
 cases J
 obtain ⟨u,rfl,U⟩:=S.one
 obtain ⟨z,B,n,r,Z,e⟩:=I.lstM G
 refine RV F.slot_list_append ⟨_,e,rfl⟩ F.entry_list_append (F.args_list_append_2 _ _) (PySem.list_append l B.toArray n u (by rw [size_toArray];omega)) ⟨e,?_⟩
 refine ⟨.non,_,I.lset (its':=B++[u]) G e (by simp) (r.append (.cons U .nil)) ?_,rfl,q⟩
 rw [length_append,Jp]
 omega
inductive Zir (x y:V)(H:Hp)(Q:VK):Prop
 | mk (l b xs zs:_):x=.ref l->y=.ref b->H l=some (.lst xs)->H b=some (.lst zs)->xs.length+zs.length<=Qj->(∀ p,H p=none->Q (.ref p) (upd H p (.lst (xs++zs))))->Zir x y H Q
def rCat :R2:=fun x y H Q=>Zir x y H Q
theorem VI:Xt X (JN .Add) rCat:=by
 intro pins s σ H x y v u Q I J ry h
 obtain ⟨l,b,xs,zs,rfl,rfl,hH,S,hz,q⟩:=h
 cases J
 cases ry
 obtain ⟨z,G,n,r,hl,e⟩:=I.lstM hH
 obtain ⟨z2,B,n2,U,Z,W⟩:=I.lstM S
 refine PySem.P.add_list e W ?_ (by rw [size_toArray,size_toArray];omega)
 have ea:G.toArray++B.toArray=(G++B).toArray:=by simp
 rw [ea]
 exact ⟨.ref _,_,I.lnew (t':=s.toks) (r.append U) (by rw [length_append];omega),rfl,q _ I.fresh⟩
end
section
variable {prog:Qi}{w:Qu}{A:Qz}{E:Qb->Qd->Prop}{s:Qd}
end
section
variable {X:Cx}
end
end L2
namespace Att
open PySem PySem.W PySem.Calls PyProof.Rows
theorem Zbt {P:Params}{h:Heap}:∀(B:List Int)(vs:List Qb),WellAll P h vs (B.map WData.int)->Nu vs B:=by
 intro B
 induction B with
 | nil =>
  intro vs w
  rw [Ou] at w
  cases w
  exact .nil
 | cons n B ih =>
  intro vs w
  rw [map_cons] at w
  cases w with
  | cons a b =>
   cases a
   exact .cons _ _ (ih _ b)
theorem Ziz {l:OpenLaw}{n:Nat}(hn:l.most=some n){P:Params}{h:Heap}{args:List WData}{G:List Qb}
 (I:l.row.toRowW.claim.pre args=true) (Z:WellAll P h G args) :
 ∃ a vs B,G=[Qm a]/\args=[WData.list (B.map WData.int)]/\h.get? a=some { cls:=.type "list",data:=.seq vs.toArray }/\Nu vs B/\B.length<=n:=by
 have W:WShape.hasAll [] args [.list .int]=true:=(pre_splitW I).1
 have hc:l.pre.holds [] { args:=args }=true:=(pre_splitW I).2
 obtain ⟨d,r,rfl,h1,h2⟩:=hasAllW_cons W
 obtain rfl:=hasAllW_nil h2
 obtain ⟨xs,rfl,h3⟩:=hasW_list h1
 obtain ⟨B,rfl⟩:=items_int h3
 have J:B.length<=n:=by
  unfold OpenLaw.pre at hc
  have S:(WTm.not (.lt (.lit (.int (n:Int))) (.len (.arg 0)))).holds [] { args:=[.list (B.map .int)] }=true:=by
   have S:=(holds_andW hc).1
   rw [hn] at S
   exact S
  have U:=condW_of S (w_not (w_lt w_lit (w_len_list (w_arg rfl))))
  rw [length_map] at U
  refine Nat.le_of_not_lt fun q=>?_
  have q':(n:Int) < ((B.length:Nat):Int):=by omega
  first
   | (rw [decide_eq_true q'] at U;exact absurd U (by decide))
   | (simp at U;omega)
 cases Z with
 | cons w1 w2 =>
  cases w2
  cases w1 with
  | list ho hall=>exact ⟨_,_,B,rfl,rfl,ho,Zbt B _ hall,J⟩
theorem Zin (l:OpenLaw)(args:List WData):l.row.toRowW.claim.post args (.bool true) args=true :=
 postW_of (r:=l.row.toRowW) (X:=(true == true))
  (show WShape.has [] (.bool true) .bool=true by first | rfl | decide | simp [WShape.has,WShape.arms,WShape.armsAll])
  (show (WTm.eq .res (.lit (.bool true))).value [] { args:=args,res:=some (.bool true),after:=args }=some (.bool (true == true)) from w_eq_bool (w_res rfl) w_lit) rfl
theorem attach_call {l:OpenLaw}{n:Nat}{q:Qi}{J:List Str}{XP:(Str->Option Qb)->Heap->Prop}{YP:Qu->Heap->Prop}{d:DefRec}
 (hn:l.most=some n) (hdf:d.params.defaults=[])
 (call:∀ (w:Qu) (I B:Qd) (mg mb:Str->Option Qb) (fa:Addr) (o:Obj) (pm cd U:Qb) (a:Addr) (vs:List Qb) (ns:List Int),
  Ground q J [] XP w I mg mb B.heap->YP w B.heap ->
  B.heap.get? fa=some o->o.data=.func (docDef d.name d.params d.body d.scope pm cd U)->B.heap.CodeRec cd d.name->mg d.name=some (.ref fa) ->
  B.heap.get? a=some { cls:=.type "list",data:=.seq vs.toArray }->Nu vs ns->ns.length<=n->B.gens=#[] ->
  Jw (Qt l.prog w) Rn (.call (.ref fa) ⟨[.ref a],[]⟩) (fun r s'=>r=.ok (.ret (.bool true))/\OldK B.heap s'.heap/\s'.os=B.os/\PN s'.gens) B) :
 WalkO q J XP YP l.row.toRowW d [] (fun f vs=>PySem.call f vs):=by
 intro w I B mg mb G Y fa o pm cd U dV kV ho hd hcd hD hmg hg args vals as hpre hlay hrd hwl hlo
 obtain rfl:dV=.none:=Dflts.none hD hdf
 obtain rfl:kV=.none:=Dflts.noKw hD
 obtain ⟨a,vs,ns,rfl,rfl,W,S,Z⟩:=Ziz hn hpre hwl
 refine enter_call (Ge (call w I B mg mb fa o pm cd U a vs ns G Y ho (fd_plain hd) hcd hmg W S Z hg) fun r s' hq=>?_)
 obtain ⟨rfl,h2,h3,h4⟩:=hq
 exact ⟨.inl ⟨.bool true,.bool true,[],rfl,fun _=>rfl,.bool true,Zin l _,fun _=>⟨List.Pairwise.nil,fun _ hm=>(nomatch hm)⟩⟩,h2,h3,h4⟩
section
variable {prog:Qi}{w:Qu}{A:Qz}{E:Qb->Qd->Prop}{s:Qd}{K:Frag}
end
end Att
namespace L2
open PySem PySem.Spec PyProof.Rows
theorem Zdf:∀{vs:List Qb}{B:List Int},Nu vs B->Vals (B.map V.int) vs
 | _,_,.nil=>.nil
 | _,_,.cons n t h=>.cons ⟨t,rfl⟩ (Zdf h)
def ZA (s:Stmt)(j:Nat):Stmt:=match s with
 | .ClassDef _ _ _ body _ _ _ _ _ _ _=>body.getD j (.Pass ⟨0,0,0,0⟩)
 | _=>.Pass ⟨0,0,0,0⟩
def Zab (s:Stmt):Arguments:=match s with
 | .FunctionDef _ a _ _ _ _ _ _ _ _=>a
 | _=>{ posonlyargs:=[],args:=[],vararg:=none,kwonlyargs:=[],kw_defaults:=[],kwarg:=none,defaults:=[] }
def Xx (s:Stmt):List Stmt:=match s with
 | .FunctionDef _ _ b _ _ _ _ _ _ _=>b
 | _=>[]
def Zk (s:Stmt):Scope:=match s with
 | .FunctionDef _ _ _ _ _ _ sc _ _ _=>sc
 | _=>{ kind:=.function,names:=[],isGenerator:=false,isCoroutine:=false }
abbrev ZF:Uk:=fun _ _ _ _ _ _=>False
abbrev E0:XK:=fun _ _ _=>False
theorem Zdn {X:Cx}:WW ZF X E0:=fun _ _ _ _ _ _ _ h=>h.elim
structure Fun (K:Qa)(x qual:Str)(st:Stmt)(f:Addr)(fd:Qn):Prop where
 ex:∃ (oc:Qb) (od:Option Addr) (kV doc pm:Qb) (an:Option Addr) (cdv ct:Qb) (osl:Array (Option Qb)),
  fd=JR x qual (Zab st) (Xx st) (Zk st) .none kV doc pm an cdv ct/\K.lookup f=some ⟨oc,od,.func fd,osl⟩/\SU K cdv qual=true
 kp:GH K (.ref f)=true
section
variable {P:Qi}{w:Qu}{K:Qa}{mg:Str->Option Qb}{base:Heap}
theorem Fun.ok {x qual:Str}{st:Stmt}{f:Addr}{fd:Qn}{N ps:List Str}{k:Nat}{sp:Sp}(F:Fun K x qual st f fd)(S:Zp N ps (Zk st)) 
 (G:∀ (B:Qb) (A:Qz) (outer:List Env) (s:Qd) (H:Hp) (vs:List V) (Q:VK) (E:XK),Room k (A.deeper (Pe qual (Zk st) s.heap.objs.size f B))->sp vs H Q E ->
  ∃ t,PSs (ZN ZF P w K mg base N qual (Zk st) f B A outer s H E).nox (Xx st) t/\t { nx:=fun _ H'=>Q .non H',rt:=Q } (start N vs) H) (len:∀ vs H Q E,sp vs H Q E->vs.length=ps.length:=by intro _ _ _ _ h;first | (cases h;subst_vars;rfl) | (repeat (first | exact congrArg JI h.1 | (obtain ⟨_,h⟩:=h)))):FnOk P w K mg base ZF (k+1) f fd ps sp:=by
 obtain ⟨oc,od,kV,Z,pm,an,B,ct,W,rfl,lk,J⟩:=F.ex
 refine Zgh lk J S len fun A outer s H vs Q E U I=>?_
 obtain ⟨t,h,q⟩:=G B A outer s H vs Q E U I
 exact ⟨t,h.nox,q⟩
theorem Fun.binds {x qual:Str}{st:Stmt}{f:Addr}{fd:Qn}{ps:List Str}(F:Fun K x qual st f fd)
 (h:∀ (kV G S:Qb) (J:Option Addr) (B I:Qb) (us:List Qb),us.length=ps.length->Ti (JR x qual (Zab st) (Xx st) (Zk st) .none kV G S J B I) ⟨us,[]⟩=pure (ps.zip us)):Binds K fd ps []:=by
 obtain ⟨oc,Z,kV,G,S,J,B,I,W,rfl,lk,U⟩:=F.ex
 exact .all (h kV G S J B I)
end
theorem YS {A:Qz}{k:Nat}(B:Room k A):A.units+1 < cLine:=QK (Nat.add_le_add_left (by decide:1<=64) _) B.units
theorem ZiC {n:Nat}(h:n<=1000):n < sizeLine:=QK h (by decide)
section
variable {X:Cx}
theorem pv (i:Nat){x:Str}{pos:Pos}(G:X.N[i]?=some x:=by rfl)(I:Vis X.env.scope x:=by first | exact QD rfl | exact SW (QD rfl) | exact SW (SW rfl))(J:(x == ("__debug__":Str))=false:=by decide)
 (B:(x == ("__classdict__":Str))=false:=by decide):PE X (.Name x pos) (Zez i):=Zik G I J B
end
theorem ZQ {A B:Prop}(h:B):if false=true then A else B:=by
 rw [if_neg QH]
 exact h
theorem Ys {A B:Prop}(h:A):if true=true then A else B:=by
 rw [if_pos rfl]
 exact h
theorem Wc {c A B:Prop}[Decidable c](h1:c->A)(h2:¬ c->B):if c then A else B:=by
 by_cases h:c
 ·rw [if_pos h]
  exact h1 h
 ·rw [if_neg h]
  exact h2 h
def Same (H H':Hp):Prop:=∀ b o,H b=some o->H' b=some o
theorem Same.refl (H:Hp):Same H H:=fun _ _ h=>h
theorem Same.trans {H H1 H2:Hp}(a:Same H H1)(b:Same H1 H2):Same H H2:=fun c o h=>b c o (a c o h)
section
variable {κ:Type}[DecidableEq κ]
def Zz (kvs:List (κ×V))(k:κ):Option V:=(kvs.find? fun kv=>decide (kv.1=k)).map (·.2)
def Ye (kvs:List (κ×V))(k:κ)(v:V):List (κ×V) :=
 if (kvs.any fun kv=>decide (kv.1=k))=true then kvs.map (fun kv=>if kv.1=k then (kv.1,v) else kv) else kvs++[(k,v)]
theorem YC {p:κ×V}{r:List (κ×V)}{k:κ}(e:p.1=k):Zz (p::r) k=some p.2:=by simp [Zz,find?_cons,e]
theorem YB {p:κ×V}{r:List (κ×V)}{k:κ}(e:¬ p.1=k):Zz (p::r) k=Zz r k:=by simp [Zz,find?_cons,e]
theorem Vq (k:κ):∀ kvs:List (κ×V),(kvs.any fun B=>decide (B.1=k))=(Zz kvs k).isSome
 | []=>rfl
 | p::r=>by
  rw [RF]
  by_cases e:p.1=k
  ·simp only [YC e,decide_eq_true e,Bool.true_or,Option.isSome_some]
  ·rw [YB e,decide_eq_false e,Bool.false_or];exact Vq k r
theorem ZeE (k j:κ)(y:V):∀ kvs:List (κ×V),Zz (kvs.map fun B=>if B.1=k then (B.1,y) else B) j=(Zz kvs j).map fun x=>if j=k then y else x
 | []=>rfl
 | p :: r=>by
  have G:=ZeE k j y r
  rw [map_cons]
  by_cases h:p.1=k
  ·rw [if_pos h]
   by_cases e:p.1=j
   ·rw [YC (p:=(p.1,y)) e,YC e,GM,if_pos (e.symm.trans h)]
   ·rw [YB (p:=(p.1,y)) e,YB e,G]
  ·rw [if_neg h]
   by_cases e:p.1=j
   ·rw [YC (p:=p) e,YC e,GM,if_neg (fun z=>h (e.trans z))]
   ·rw [YB (p:=p) e,YB e,G]
theorem Zdd (k j:κ)(y:V):∀ kvs:List (κ×V),Zz kvs k=none->Zz (kvs++[(k,y)]) j=if j=k then some y else Zz kvs j
 | [],_=>by
  by_cases e:k=j
  ·rw [if_pos e.symm];exact YC (p:=(k,y)) e
  ·rw [if_neg (fun z=>e z.symm)];exact YB (p:=(k,y)) e
 | p::r,hn=>by
  rw [OP]
  have B:¬ p.1=k:=fun z=>by rw [YC z] at hn;cases hn
  rw [YB B] at hn
  have G:=Zdd k j y r hn
  by_cases e:p.1=j
  ·rw [YC e,YC e,if_neg (fun z=>B (e.trans z))]
  ·rw [YB e,YB e,G]
theorem WD (kvs:List (κ×V))(k j:κ)(y:V):Zz (Ye kvs k y) j=if j=k then some y else Zz kvs j:=by
 unfold Ye
 by_cases a:(kvs.any fun G=>decide (G.1=k))=true
 ·rw [if_pos a,ZeE]
  rw [Vq] at a
  by_cases e:j=k
  ·obtain ⟨x,B⟩:=JC.mp a
   rw [if_pos e,e,B,GM,if_pos rfl]
  ·rw [if_neg e]
   cases Zz kvs j with
   | none=>rfl
   | some x=>rw [GM,if_neg e]
 ·rw [if_neg a]
  refine Zdd k j y kvs ?_
  rw [Vq] at a
  cases q:Zz kvs k with
  | none=>rfl
  | some x=>rw [q] at a;exact (a rfl).elim
theorem XJ (kvs:List (κ×V))(k:κ)(v:V):(Ye kvs k v).length<=kvs.length+1:=by
 unfold Ye
 split
 ·rw [length_map];omega
 ·rw [length_append,length_cons,Pz];omega
theorem RelO.isSome_eq {o:Option V}{u:Option Qb}(r:RelO o u):o.isSome=u.isSome:=by
 cases o with
 | none=>cases u with
  | none=>rfl
  | some _=>exact (show False from r).elim
 | some _=>cases u with
  | none=>exact (show False from r).elim
  | some _=>rfl
theorem RelO.getD {o:Option V}{u:Option Qb}{d:V}{d':Qb}(r:RelO o u)(B:RelV d d'):RelV (o.getD d) (u.getD d'):=by
 cases o with
 | none=>cases u with
  | none=>exact B
  | some _=>exact (show False from r).elim
 | some _=>cases u with
  | none=>exact (show False from r).elim
  | some _=>exact r
theorem KV.val {kvs:List (κ×V)}{vs:List (κ×Qb)}(r:KV kvs vs)(k:κ):RelO (Zz kvs k) (Ro vs k):=by
 unfold KV at r
 induction r with
 | nil=>exact Gp
 | @cons p q ps qs h t ih =>
  obtain ⟨h1,h2⟩:=h
  by_cases e:p.1=k
  ·have B:q.1=k:=h1.symm.trans e
   have b:Ro (q::qs) k=some q.2:=by simp [Ro,find?_cons,B]
   rw [YC e,b];exact h2
  ·have B:¬ q.1=k:=fun z=>e (h1.trans z)
   have b:Ro (q::qs) k=Ro qs k:=by simp [Ro,find?_cons,B]
   rw [YB e,b];exact ih
theorem KV.any {kvs:List (κ×V)}{vs:List (κ×Qb)}(r:KV kvs vs)(k:κ):(kvs.any fun B=>decide (B.1=k))=vs.any fun B=>decide (B.1=k):=by
 unfold KV at r
 induction r with
 | nil=>rfl
 | cons h t ih=>rw [RF,RF,ih,h.1]
theorem KV.repl {kvs:List (κ×V)}{vs:List (κ×Qb)}(r:KV kvs vs)(k:κ){y:V}{u:Qb}(G:RelV y u) :
 KV (kvs.map fun B=>if B.1=k then (B.1,y) else B) (vs.map fun B=>if B.1=k then (B.1,u) else B):=by
 unfold KV at r ⊢
 induction r with
 | nil=>exact .nil
 | @cons p q ps qs h t ih =>
  rw [map_cons,map_cons]
  refine .cons ?_ ih
  obtain ⟨h1,h2⟩:=h
  by_cases e:p.1=k
  ·rw [if_pos e,if_pos (h1.symm.trans e)];exact ⟨h1,G⟩
  ·rw [if_neg e,if_neg (fun z=>e (h1.trans z))];exact ⟨h1,h2⟩
theorem KV.put {kvs:List (κ×V)}{vs:List (κ×Qb)}(r:KV kvs vs)(k:κ){y:V}{u:Qb}(B:RelV y u):KV (Ye kvs k y) (stored vs k u):=by
 unfold Ye stored
 rw [r.any k]
 by_cases e:(vs.any fun G=>decide (G.1=k))=true
 ·rw [if_pos e,if_pos e];exact r.repl k B
 ·rw [if_neg e,if_neg e];exact Paired.snoc r ⟨rfl,B⟩
theorem KV.length {kvs:List (κ×V)}{vs:List (κ×Qb)}(r:KV kvs vs):kvs.length=vs.length:=GT r
end
theorem Ur {P:Qi}{w:Qu}{k:Zo}{u:Qb}(r:RelV (kV k) u):(ZG P w).is k u=true:=by
 cases k with
 | inl i=>obtain ⟨t,e⟩:=(show ∃ t,u=Rm i t from r);subst e;exact ZeM P w i t
 | inr x=>obtain ⟨t,e⟩:=(show ∃ t,u=PY x t from r);subst e;exact ZaD P w x t
theorem ZcP {P:Qi}{w:Qu}:∀{ks:List Zo}{us:List Qb},Vals (ks.map kV) us->ItemsAre (ZG P w) ks us
 | [],_,r=>by rw [Ou] at r;cases r;exact .nil
 | k::ks,_,r=>by
  rw [map_cons] at r
  cases r with
  | cons h t=>exact .cons (Ur h) (ZcP t)
abbrev KT (H:Hp):List (List Zo×V)->List (List Zo×Addr×Qb)->Prop:=TJ fun p q=>p.1=q.1/\H q.2.1=some (.tup (p.1.map kV))/\RelV p.2 q.2.2
theorem KT.val {H:Hp}{kvs:List (List Zo×V)}{xs:List (List Zo×Addr×Qb)}(r:KT H kvs xs)(k:List Zo):RelO (Zz kvs k) ((Ni xs k).map (·.2)):=by
 induction r with
 | nil=>exact Gp
 | @cons p q ps qs h t ih =>
  obtain ⟨h1,_,h2⟩:=h
  by_cases e:p.1=k
  ·have B:q.1=k:=h1.symm.trans e
   have b:Ni (q::qs) k=some q.2:=by simp [Ni,find?_cons,B]
   rw [YC e,b];exact h2
  ·have B:¬ q.1=k:=fun z=>e (h1.trans z)
   have b:Ni (q::qs) k=Ni qs k:=by simp [Ni,find?_cons,B]
   rw [YB e,b];exact ih
theorem KT.repl {H:Hp}{kvs:List (List Zo×V)}{xs:List (List Zo×Addr×Qb)}(r:KT H kvs xs)(k:List Zo){y:V}{u:Qb}(I:RelV y u) :
 KT H (kvs.map fun B=>if B.1=k then (B.1,y) else B) (xs.map (putAt k u)):=by
 induction r with
 | nil=>exact .nil
 | @cons p q ps qs h t ih =>
  rw [map_cons,map_cons]
  refine .cons ?_ ih
  obtain ⟨h1,h2,G⟩:=h
  unfold putAt
  by_cases e:p.1=k
  ·rw [if_pos e,if_pos (h1.symm.trans e)];exact ⟨h1,h2,I⟩
  ·rw [if_neg e,if_neg (fun z=>e (h1.trans z))];exact ⟨h1,h2,G⟩
theorem KT.put {H:Hp}{kvs:List (List Zo×V)}{xs:List (List Zo×Addr×Qb)}(r:KT H kvs xs)(k:List Zo){b:Addr}{y:V}{u:Qb}(hb:H b=some (.tup (k.map kV)))(B:RelV y u) :
 KT H (Ye kvs k y) (storedH xs k b u):=by
 have e:(kvs.any fun G=>decide (G.1=k))=(Ni xs k).isSome:=by
  rw [Vq,(r.val k).isSome_eq,Tu]
 unfold Ye storedH
 rw [e]
 by_cases q:(Ni xs k).isSome=true
 ·rw [if_pos q,if_pos q];exact r.repl k B
 ·rw [if_neg q,if_neg q];exact Paired.snoc r ⟨rfl,hb,B⟩
theorem KT.keeps {H H':Hp}{kvs:List (List Zo×V)}{xs:List (List Zo×Addr×Qb)}(r:KT H kvs xs)(B:∀ b ys,H b=some (.tup ys)->H' b=some (.tup ys)):KT H' kvs xs :=
 TJ.mapP r fun _ _ z=>⟨z.1,B _ _ z.2.1,z.2.2⟩
section
variable {P:Qi}{w:Qu}{H:Hp}{h:Heap}{a:Addr}
theorem ZkH {u:HO}(ok:HOk P w H h)(e:Rd H a u):ObjOk P w H h a u:=e.ok ok
theorem Um {kvs:List (Zo×V)}(ok:HOk P w H h)(e:Rd H a (.dK kvs)):kvs.length<=Qj/\(a == GU)=false/\∃ vs,KV kvs vs/\h.DictOf (ZG P w) a vs :=
 show ObjOk P w H h a (.dK kvs) from ZkH ok e
theorem Zbn {kvs:List (Zo×V)}(ok:HOk P w H h)(e:H a=some (.dK kvs)):kvs.length<=Qj/\(a == GU)=false/\∃ vs,KV kvs vs/\h.DictOf (ZG P w) a vs:=Um ok (.inl e)
theorem Ud {ks:List Zo}(ok:HOk P w H h)(e:H a=some (.tup (ks.map kV))):(PZ (ZG P w)).is h ks a:=by
 obtain ⟨_,B,r,o,h1,h2,n,G⟩:=(show ObjOk P w H h a (.tup (ks.map kV)) from ok a _ e)
 exact ⟨o,B.toArray,n,h1,h2,G,by simpa using ZcP r⟩
theorem Uo {kvs:List (List Zo×V)}(ok:HOk P w H h)(e:Rd H a (.dT kvs)):kvs.length<=Qj/\(a == GU)=false /\
 ∃ xs,KT H kvs xs/\h.DictOfH (PZ (ZG P w)) a xs:=by
 obtain ⟨z,y,xs,r,o,es,ep,h1,h2,G,I,B⟩:=(show ObjOk P w H h a (.dT kvs) from ZkH ok e)
 refine ⟨z,y,xs,r,o,es,ep,h1,h2,G,I,fun x hx=>?_,B⟩
 have all:∀ {l:List (List Zo×V)} {m:List (List Zo×Addr×Qb)},KT H l m->∀ x∈m,(PZ (ZG P w)).is h x.1 x.2.1:=by
  intro l m q
  induction q with
  | nil=>intro x hx;exact nomatch hx
  | @cons p q ps qs hq t ih =>
   intro x hx
   rcases mem_cons.mp hx with e | hx
   ·subst e
    exact Ud ok (by rw [<- hq.1];exact hq.2.1)
   ·exact ih x hx
 exact all r x hx
theorem Zoj {kvs:List (List Zo×V)}(ok:HOk P w H h)(e:H a=some (.dT kvs)):kvs.length<=Qj/\(a == GU)=false /\
 ∃ xs,KT H kvs xs/\h.DictOfH (PZ (ZG P w)) a xs:=Uo ok (.inl e)
end
def DGet (H:Hp)(a:Addr)(y:V)(r:Option V):Prop :=
 (∃ kvs k,Rd H a (.dK kvs)/\y=kV k/\r=Zz kvs k)\/∃ kvs k b,Rd H a (.dT kvs)/\y=.ref b/\H b=some (.tup (k.map kV))/\r=Zz kvs k
def DPut (H:Hp)(a:Addr)(y v:V)(H':Hp):Prop :=
 (∃ kvs k,H a=some (.dK kvs)/\y=kV k/\kvs.length < Qj/\H'=upd H a (.dK (Ye kvs k v))) \/
 ∃ kvs k b,H a=some (.dT kvs)/\y=.ref b/\H b=some (.tup (k.map kV))/\kvs.length < Qj/\H'=upd H a (.dT (Ye kvs k v))
theorem DGet.k {H:Hp}{a:Addr}{kvs:List (Zo×V)}{k:Zo}(e:H a=some (.dK kvs)):DGet H a (kV k) (Zz kvs k):=.inl ⟨kvs,k,.inl e,rfl,rfl⟩
theorem DPut.k {H:Hp}{a:Addr}{kvs:List (Zo×V)}{k:Zo}{v:V}(e:H a=some (.dK kvs))(B:kvs.length < Qj):DPut H a (kV k) v (upd H a (.dK (Ye kvs k v))):=.inl ⟨kvs,k,e,rfl,B,rfl⟩
section
variable {X:Cx}{pins:List (Addr×Obj)}{σ:St}{H:Hp}{s:Qd}{a:Addr}{y v:V}{u r:Qb}{o:Option V}{A:Qz}{E:Qb->Qd->Prop}
theorem Inv.big (I:Inv X pins σ H s):GU < s.heap.objs.size:=by
 have h:Ql < s.heap.objs.size:=(I.mod.glob.keeps I.bk).lt
 exact Nat.lt_trans (by decide) h
theorem Zht {Q:Qb->Qd->Prop}(hu:A.units+1 < TV)(I:Inv X pins σ H s)(g:DGet H a y (some v))(Z:RelV y u)(h:∀ J s',Inv X pins σ H s'->RelV v J->Q J s') :
 Qq (Qt X.prog X.w) A (Oq (.ref a) u) Q E s:=by
 rcases g with ⟨kvs,k,e,W,l⟩ | ⟨kvs,k,b,e,W,eb,l⟩
 ·subst W
  obtain ⟨z,hd,vs,B,dd⟩:=Um I.hok e
  obtain ⟨J,U,G⟩:=RelO.some_of (v:=v) (o:=Ro vs k) (by rw [l];exact B.val k)
  exact wpAny_getItem_of (Ur Z) dd.mapOf U (h J _ (I.tok _) G)
 ·subst W
  cases (show u=Qm b from Z)
  obtain ⟨z,hd,xs,B,dd⟩:=Uo I.hok e
  obtain ⟨J,U,G⟩:=RelO.some_of (v:=v) (o:=(Ni xs k).map (·.2)) (by rw [l];exact B.val k)
  obtain ⟨p,hp,S⟩:=Gc.mp U
  refine wpAny_getItem_heap (GI hu) (Ud I.hok eb) dd hp ?_
  rw [S]
  exact h J _ (I.tok _) G
theorem d_in {Q:Qb->Qd->Prop}(W:A.units+1 < TV)(I:Inv X pins σ H s)(g:DGet H a y o)(S:RelV y u)(h:∀ s',Inv X pins σ H s'->Q (.bool o.isSome) s') :
 Qq (Qt X.prog X.w) A (GK .In u (.ref a)) Q E s:=by
 rcases g with ⟨kvs,k,e,J,l⟩ | ⟨kvs,k,b,e,J,U,l⟩
 ·subst J
  obtain ⟨z,G,vs,B,dd⟩:=Um I.hok e
  refine wpAny_in_of (Ur S) G dd.mapOf ?_
  rw [<- (B.val k).isSome_eq,<- l]
  exact h _ (I.tok _)
 ·subst J
  cases (show u=Qm b from S)
  obtain ⟨z,G,xs,B,dd⟩:=Uo I.hok e
  refine wpAny_in_heap (GI W) (Ud I.hok U) G dd ?_
  have q:=(B.val k).isSome_eq
  rw [Tu] at q
  rw [<- q,<- l]
  exact h _ (I.tok _)
theorem ZkW {Q:Qb->Qd->Prop}(W:A.units+1 < TV)(I:Inv X pins σ H s)(g:DGet H a y o)(S:RelV y u)(h:∀ s',Inv X pins σ H s'->Q (.bool (!o.isSome)) s') :
 Qq (Qt X.prog X.w) A (GK .NotIn u (.ref a)) Q E s:=by
 rcases g with ⟨kvs,k,e,J,l⟩ | ⟨kvs,k,b,e,J,U,l⟩
 ·subst J
  obtain ⟨z,G,vs,B,dd⟩:=Um I.hok e
  refine wpAny_notIn_of (Ur S) G dd.mapOf ?_
  rw [<- (B.val k).isSome_eq,<- l]
  exact h _ (I.tok _)
 ·subst J
  cases (show u=Qm b from S)
  obtain ⟨z,G,xs,B,dd⟩:=Uo I.hok e
  refine wpAny_notIn_heap (GI W) (Ud I.hok U) G dd ?_
  have q:=(B.val k).isSome_eq
  rw [Tu] at q
  rw [<- q,<- l]
  exact h _ (I.tok _)
theorem Zck {h':Heap}{t':Nat}{B:HO}(I:Inv X pins σ H s)(G:Mut (H a))(S:Sg a s.heap h')(J:∃ q,h'.get? a=some q)(new:ObjOk X.prog X.w (upd H a B) h' a B) :
 Inv X pins σ (upd H a B) { s with heap:=h',toks:=t' } :=
 I.write (x:=a) (e:=a) G (.inl rfl) (fun b q hb z=>(S.2 b hb).trans z) J new
theorem Zhx {P:Qi}{w:Qu}{H':Hp}{h':Heap}{kvs:List (Zo×V)}{vs:List (Zo×Qb)}(z:kvs.length<=Qj)(G:(a == GU)=false)(B:KV kvs vs)(dd:h'.DictOf (ZG P w) a vs) :
 ObjOk P w H' h' a (.dK kvs):=⟨z,G,vs,B,dd⟩
theorem Zhu {H':Hp}{Q:Unit->Qd->Prop}(hu:A.units+1 < TV)(I:Inv X pins σ H s)(g:DPut H a y v H')(ry:RelV y u)(rv:RelV v r)(h:∀ s',Inv X pins σ H' s'->Q () s') :
 Qq (Qt X.prog X.w) A (setItem (.ref a) u r) Q E s:=by
 rcases g with ⟨kvs,k,e,S,l,eH⟩ | ⟨kvs,k,b,e,S,eb,l,eH⟩
 ·subst S eH
  obtain ⟨z,U,vs,B,dd⟩:=Zbn I.hok e
  have W:vs.length<=sizeLine:=by rw [<- B.length];exact z
  have hl:(Ye kvs k v).length<=sizeLine:=by have:=XJ kvs k v;omega
  refine wpAny_setItem_pairs (hsz:=W) (Ur ry) dd fun h' G Z=>h _ ?_
  have he:∃ q,h'.get? a=some q:=let ⟨q,_,_,J,_⟩:=G;⟨q,J⟩
  exact Zck I (by rw [e];exact Gp) Z he (Zhx hl U (B.put k rv) G)
 ·subst S eH
  cases (show u=Qm b from ry)
  obtain ⟨z,U,xs,B,dd⟩:=Zoj I.hok e
  have W:xs.length<=sizeLine:=by rw [<- GT B];exact z
  have hl:(Ye kvs k v).length<=sizeLine:=by have:=XJ kvs k v;omega
  refine wpAny_setItem_heap (hsz:=W) (GI hu) (Ud I.hok eb) dd fun h' G Z=>h _ ?_
  obtain ⟨q,es,ep,J,h2,h3,h4,_,h5⟩:=G
  refine Zck I (by rw [e];exact Gp) Z ⟨q,J⟩ ⟨hl,U,_,(B.put k eb rv).keeps fun c ys ec=>?_,q,es,ep,J,h2,h3,h4,h5⟩
  rw [Zg (ZbA ec e (fun z=>nomatch z))]
  exact ec
end
section
variable {X:Cx}{pins:List (Addr×Obj)}{σ:St}{H:Hp}{s:Qd}{a:Addr}{kvs:List (Zo×V)}{k:Zo}{u:Qb}{A:Qz}{E:Qb->Qd->Prop}
end
def NoSl (i:Expr):Prop:=∀ ov iv,SV i false ov iv=operate [ov,iv] (Oq ov iv)
theorem ZlW {prog:Qi}{w:Qu}{A:Qz}{E:Qb->Qd->Prop}{s:Qd}{env:Env}{value B:Expr}{pos:Pos}{T id:String}{Q:Qb->Qd->Prop}
 (hl:QX (.type T) "__getitem__"=pure (some (.builtin id))) (hs:NoSl B)
 (h:Qq (Qt prog w) A (eval value env) (fun o S=>Qq (Qt prog w) A (eval B env) (fun i G=>G.TypeIs o T/\Qq (Qt prog w) A (Oq o i) Q E G) E S) E s) :
 Qq (Qt prog w) A (eval (.Subscript value B pos) env) Q E s:=by
 refine RT (QP h (fun o S W=>QP W (fun i G I=>?_) fun _ _ x=>x) fun _ _ x=>x)
 obtain ⟨hT,I⟩:=I
 unfold RE
 refine Qf ?_
 rw [getitemInPython_of_ne hT.not_modules]
 refine Qf (wpAny_specialOf hT hl ?_)
 have U:Qq (Qt prog w) A (SV B false o i) (fun r J=>Qq (Qt prog w) A (letTemporaryGo value o r >>= fun _=>pure r) Q E J) E G:=by
  rw [hs o i]
  exact wpAny_operating (QP I (fun r J Z=>Qf (wpAny_letTemporaryGo (Qx Z))) fun _ _ x=>x)
 first
  | exact Qx (Qf U)
  | exact Qf (Qx (Qf U))
  | exact Qf U
theorem ZeL {X:Cx}{pins:List (Addr×Obj)}{σ:St}{H:Hp}{s:Qd}{a:Addr}{y:V}{o:Option V}(I:Inv X pins σ H s)(g:DGet H a y o):s.TypeIs (.ref a) "dict":=by
 rcases g with ⟨kvs,k,e,_,_⟩ | ⟨kvs,k,b,e,_,_,_⟩
 ·obtain ⟨_,_,vs,_,dd⟩:=Um I.hok e
  exact dd.typeIs
 ·obtain ⟨_,_,xs,_,dd⟩:=Uo I.hok e
  exact dd.typeIs
inductive ZfK (Q:VK)(x y:V)(H2:Hp):Prop
 | mk (a v:_):x=.ref a->DGet H2 a y (some v)->Q v H2->ZfK Q x y H2
def Zpg (td ty:TE):TE:=fun σ H Q=>td σ H fun x H1=>ty σ H1 fun y H2=>ZfK Q x y H2
inductive ZiJ (Q:VK)(y x:V)(H2:Hp):Prop
 | mk (a o:_):x=.ref a->DGet H2 a y o->Q (.bl o.isSome) H2->ZiJ Q y x H2
def tDIn (ty td:TE):TE:=fun σ H Q=>ty σ H fun y H1=>td σ H1 fun x H2=>ZiJ Q y x H2
inductive Zda (Q:VK)(y x:V)(H2:Hp):Prop
 | mk (a o:_):x=.ref a->DGet H2 a y o->Q (.bl (!o.isSome)) H2->Zda Q y x H2
def ZlX (ty td:TE):TE:=fun σ H Q=>ty σ H fun y H1=>td σ H1 fun x H2=>Zda Q y x H2
inductive ZfC (D:Yl)(σ:St)(v x y:V)(H3:Hp):Prop
 | mk (a H4:_):x=.ref a->DPut H3 a y v H4->D.nx σ H4->ZfC D σ v x y H3
def ZoD (td ty tv:TE):TS:=fun D σ H=>tv σ H fun v H1=>td σ H1 fun x H2=>ty σ H2 fun y H3=>ZfC D σ v x y H3
section
variable {X:Cx}{o i e value:Expr}{pos pos' tpos:Pos}{td ty tv:TE}
theorem Zah (hu:X.A.units+1 < TV)(ho:PE X o td)(hi:PE X i ty)(W:NoSl i):PE X (.Subscript o i pos) (Zpg td ty):=by
 intro pins s σ H Q I h
 refine ZlW PySem.F.slot_dict_getitem.lookup W (Zt (ho pins s σ H _ I h) fun u s1 B=>?_)
 obtain ⟨x,H1,Z,U,S⟩:=B
 refine Zt (hi pins s1 σ H1 _ Z S) fun iv s2 B=>?_
 obtain ⟨y,H2,J,ry,a,v,ex,g,q2⟩:=B
 subst ex
 obtain rfl:u=Qm a:=U
 exact ⟨ZeL J g,Zht hu J g ry fun w' s3 I3 G=>⟨v,H2,I3,G,q2⟩⟩
theorem Zni (Z:X.A.units+1 < TV)(hi:PE X i ty)(ho:PE X o td):PC X .In i o (tDIn ty td):=by
 intro pins s σ H Q I h
 refine Zt (hi pins s σ H _ I h) fun iv s1 B=>?_
 obtain ⟨y,H1,U,ry,G⟩:=B
 refine Zt (ho pins s1 σ H1 _ U G) fun u s2 B=>?_
 obtain ⟨x,H2,I2,J,a,S,ex,g,q2⟩:=B
 subst ex
 obtain rfl:u=Qm a:=J
 exact d_in Z I2 g ry fun s3 W=>⟨.bl S.isSome,H2,W,rfl,q2⟩
theorem ZcT (Z:X.A.units+1 < TV)(hi:PE X i ty)(ho:PE X o td):PC X .NotIn i o (ZlX ty td):=by
 intro pins s σ H Q I h
 refine Zt (hi pins s σ H _ I h) fun iv s1 B=>?_
 obtain ⟨y,H1,U,ry,G⟩:=B
 refine Zt (ho pins s1 σ H1 _ U G) fun u s2 B=>?_
 obtain ⟨x,H2,I2,J,a,S,ex,g,q2⟩:=B
 subst ex
 obtain rfl:u=Qm a:=J
 exact ZkW Z I2 g ry fun s3 W=>⟨.bl (!S.isSome),H2,W,rfl,q2⟩
theorem UJ (S:X.A.units+1 < TV)(Z:PE X o td)(hi:PE X i ty)(G:PE X value tv)(hs:Ta value (some (.Subscript o i pos')) pos.line X.env=pure false) :
 PS X (.Assign [.Subscript o i pos'] value pos) (ZoD td ty tv):=by
 intro pins s σ H D I h
 refine wpAny_Assign_Subscript (Zt (G pins s σ H _ I h) fun r s1 B=>?_) hs
 obtain ⟨v,H1,J,rv,q1⟩:=B
 refine Zt (Z pins s1 σ H1 _ J q1) fun u s2 B=>?_
 obtain ⟨x,H2,U,rx,q2⟩:=B
 refine Zt (hi pins s2 σ H2 _ U q2) fun iv s3 B=>?_
 obtain ⟨y,H3,I3,ry,a,H4,ex,g,q3⟩:=B
 subst ex
 obtain rfl:u=Qm a:=rx
 exact Zhu S I3 g ry rv fun s4 W=>⟨σ,H4,W,q3⟩
end
theorem ZdQ {P:Qi}{w:Qu}{H:Hp}(h:Heap)(hb:GU < h.objs.size):ObjOk P w H (h.push { cls:=.type "dict",data:=.dict #[] }) h.objs.size (.dK []) :=
 ⟨QC _,beq_eq_false_iff_ne.mpr (Gg (Qy hb)),[],.nil,Nl h⟩
def ZnH:TE:=fun _ H Q=>∀ p,H p=none->Q (.ref p) (upd H p (.dK []))
section
variable {X:Cx}{pos:Pos}
theorem ZaW:PE X (.Dict [] [] pos) ZnH:=fun pins s σ H Q I h =>
 wpAny_Dict_empty ⟨.ref s.heap.objs.size,_,I.laid (a:=s.heap.objs.size) (o:=.dK []) (t':=s.toks) (fun _ _ q=>Qe _ q) (Qg _) (ZdQ s.heap I.big),rfl,h _ (I.hok.fresh (Qg _))⟩
end
def Zex:List (TE×TE)->St->Hp->(List (V×V)->Hp->Prop)->Prop
 | [],_,H,Q=>Q [] H
 | (tk,tv)::r,σ,H,Q=>tk σ H fun x H1=>tv σ H1 fun y H2=>Zex r σ H2 fun ps H3=>Q ((x,y)::ps) H3
abbrev VV:List (V×V)->List (Qb×Qb)->Prop:=TJ fun p q=>RelV p.1 q.1/\RelV p.2 q.2
def PPs (X:Cx)(pos:Pos)(keys:List (Option Expr))(values:List Expr)(trs:List (TE×TE)):Prop :=
 ∀ (pins:List (Addr×Obj)) (s:Qd) (σ:St) (H:Hp) (Q:List (V×V)->Hp->Prop),Inv X pins σ H s->Zex trs σ H Q ->
  Qq (Qt X.prog X.w) X.A (evalPairs (pairTrees keys values X.env pos)) (fun vs s'=>∃ ps H',Inv X pins σ H' s'/\VV ps vs/\Q ps H') X.xe s
theorem ZlH {X:Cx}{pos:Pos}:PPs X pos [] [] []:=fun pins s σ H Q I h=>pairTrees_nil_walk ⟨[],H,I,.nil,h⟩
theorem ZjV {X:Cx}{pos:Pos}{k v:Expr}{ks:List (Option Expr)}{vs:List Expr}{tk tv:TE}{B:List (TE×TE)}(hk:PE X k tk)(Z:PE X v tv)(hr:PPs X pos ks vs B) :
 PPs X pos (some k::ks) (v::vs) ((tk,tv)::B):=fun pins s σ H Q I h =>
 pairTrees_cons_walk (Zt (hk pins s σ H _ I h) fun u s1 ⟨x,H1,I1,S,J⟩=>Zt (Z pins s1 σ H1 _ I1 J) fun w2 s2 ⟨y,H2,I2,ry,q2⟩ =>
  Zt (hr pins s2 σ H2 _ I2 q2) fun ws s3 ⟨ps,U,I3,G,W⟩=>⟨(x,y)::ps,U,I3,.cons ⟨S,ry⟩ G,W⟩)
def VG (kvs more:List (Zo×V)):List (Zo×V):=more.foldl (fun acc kv=>Ye acc kv.1 kv.2) kvs
theorem KV.merge:∀{more:List (Zo×V)}{B:List (Zo×Qb)}{kvs:List (Zo×V)}{vs:List (Zo×Qb)},KV more B->KV kvs vs->KV (VG kvs more) (merged vs B):=by
 intro more B kvs vs r
 unfold KV at r
 induction r generalizing kvs vs with
 | nil=>intro q;exact q
 | @cons p q ps qs h t ih =>
  intro G
  have e:KV (Ye kvs p.1 p.2) (stored vs q.1 q.2):=by
   have:=G.put p.1 h.2
   rw [<- h.1];exact this
  exact ih e
theorem Vt:∀(more kvs:List (Zo×V)),(VG kvs more).length<=kvs.length+more.length
 | [],kvs=>by show kvs.length<=kvs.length+0;omega
 | p::r,kvs=>by
  have h1:=Vt r (Ye kvs p.1 p.2)
  have h2:=XJ kvs p.1 p.2
  show (VG (Ye kvs p.1 p.2) r).length<=_
  rw [length_cons];omega
theorem Zbl {P:Qi}{w:Qu}:∀{kvs:List (Zo×V)}{G:List (Qb×Qb)},VV (kvs.map fun I=>(kV I.1,I.2)) G->∃ B,Carries (ZG P w) G B/\KV kvs B
 | [],_,r=>by rw [Ou] at r;cases r;exact ⟨[],Gp,.nil⟩
 | p :: kvs,_,r=>by
  rw [map_cons] at r
  cases r with
  | @cons a b as bs h t =>
   obtain ⟨B,c,q⟩:=Zbl (P:=P) (w:=w) t
   obtain ⟨b1,b2⟩:=b
   exact ⟨(p.1,b2)::B,⟨Ur h.1,rfl,c⟩,.cons ⟨rfl,h.2⟩ q⟩
def Zph (trs:List (TE×TE)):TE:=fun σ H Q=>∀ p,H p=none->Zex trs σ (upd H p (.dK [])) fun ps H2=>H2 p=some (.dK [])/\∃ kvs:List (Zo×V),ps=kvs.map (fun kv=>(kV kv.1,kv.2))/\kvs.length<=15/\Q (.ref p) (upd H2 p (.dK (VG [] kvs)))
theorem Zlz {X:Cx}{pos:Pos}{keys:List (Option Expr)}{B:List Expr}{J:List (TE×TE)}(h:PPs X pos keys B J)(G:keys.all (·.isSome)=true)(hl:keys.length=B.length)(h0:keys≠[])
 (W:keys.length<=15):PE X (.Dict keys B pos) (Zph J):=by
 intro pins s σ H Q I q
 have hn:=I.hok.fresh (Qg s.heap.objs.size)
 have I1:=I.laid (a:=s.heap.objs.size) (o:=.dK []) (h':=s.heap.push { cls:=.type "dict",data:=.dict #[] }) (t':=s.toks) (fun _ _ q=>Qe _ q) (Qg _) (ZdQ s.heap I.big)
 refine wpAny_Dict_walk (knd:=ZG X.prog X.w) G hl h0 W (Zt (h pins _ σ _ _ I1 (q _ hn)) fun ws s2 zz=>?_)
 obtain ⟨ps,H2,Z,U,e,kvs,ep,lk,q2⟩:=zz
 subst ep
 obtain ⟨rs,c,rk⟩:=Zbl (P:=X.prog) (w:=X.w) U
 obtain ⟨z,hd,vs0,r0,dd⟩:=Zbn Z.hok e
 cases r0
 refine ⟨rs,c,dd,fun h' S hs=>⟨.ref s.heap.objs.size,_,?_,rfl,q2⟩⟩
 have hz:(VG [] kvs).length<=sizeLine:=by
  have h1:=Vt kvs []
  rw [Pz] at h1
  rw [QV];omega
 have he:∃ q,h'.get? s.heap.objs.size=some q:=let ⟨q,_,_,hq,_⟩:=S;⟨q,hq⟩
 exact Zck Z (by rw [e];exact Gp) hs he (Zhx hz hd (rk.merge .nil) S)
structure M1 (X:Cx)(o:Expr)(m:Str)(apos:Pos)(e:Expr)(cpos:Pos):Prop where
 base:Jm o m X.env (eval o X.env)=eval o X.env
 few:((GG cpos (QA [e] X.env)).all (fun x=>!x.1)&&(JQ cpos (GO [] X.env)).all (fun x=>x.1.isSome)
  && decide (([e]:List Expr).length+([]:List Sn).length+(if ([]:List Sn).isEmpty then 0 else 1) < 30))=true
 line:(apos.endLine == cpos.line)=true
 trees:GG cpos (QA [e] X.env)=[(false,eval e X.env)]
structure M2 (X:Cx)(o:Expr)(m:Str)(apos:Pos)(e f:Expr)(cpos:Pos):Prop where
 base:Jm o m X.env (eval o X.env)=eval o X.env
 few:((GG cpos (QA [e,f] X.env)).all (fun x=>!x.1)&&(JQ cpos (GO [] X.env)).all (fun x=>x.1.isSome)
  && decide (([e,f]:List Expr).length+([]:List Sn).length+(if ([]:List Sn).isEmpty then 0 else 1) < 30))=true
 line:(apos.endLine == cpos.line)=true
 trees:GG cpos (QA [e,f] X.env)=[(false,eval e X.env),(false,eval f X.env)]
def IsD (H:Hp)(a:Addr):Prop:=(∃ kvs,Rd H a (.dK kvs))\/∃ kvs,Rd H a (.dT kvs)
theorem ZhF {X:Cx}{pins:List (Addr×Obj)}{σ:St}{H:Hp}{s:Qd}{a:Addr}(I:Inv X pins σ H s)(d:IsD H a) :
 s.TypeIs (.ref a) "dict"/\(∀ b,Qm a=.ref b->∃ B,s.heap.get? b=some B/\B.dict=none)/\(a == GU)=false:=by
 rcases d with ⟨kvs,e⟩ | ⟨kvs,e⟩
 ·obtain ⟨_,G,vs,_,dd⟩:=Um I.hok e
  refine ⟨dd.typeIs,fun b q=>?_,G⟩
  cases q
  obtain ⟨B,_,_,h1,h2,_⟩:=dd
  exact ⟨B,h1,h2.2.1⟩
 ·obtain ⟨_,G,xs,_,dd⟩:=Uo I.hok e
  refine ⟨dd.typeIs,fun b q=>?_,G⟩
  cases q
  obtain ⟨B,_,_,h1,h2,_⟩:=dd
  exact ⟨B,h1,h2.2.1⟩
section
variable {X:Cx}{pins:List (Addr×Obj)}{σ:St}{H:Hp}{s:Qd}{a:Addr}{y d:V}{u r:Qb}{o:Option V}{A:Qz}{E:Qb->Qd->Prop}
theorem Zmz {Q:Qb->Qd->Prop}(Z:A.units+1 < TV)(I:Inv X pins σ H s)(g:DGet H a y o)(U:RelV y u)(h:∀ S s',Inv X pins σ H s'->RelV (o.getD .non) S->Q S s') :
 Qq (Qt X.prog X.w) A (call (.builtin "dict.get") [.ref a,u]) Q E s:=by
 rcases g with ⟨kvs,k,e,J,l⟩ | ⟨kvs,k,b,e,J,W,l⟩
 ·subst J
  obtain ⟨z,G,vs,B,dd⟩:=Um I.hok e
  refine PR Go dd.typeIs Jj (TY _ _) (meets_dict_get (ZG X.prog X.w) a (Ur U) G) ⟨_,dd.mapOf,h _ _ (I.tok _) ?_⟩
  rw [l]
  exact (B.val k).getD rfl
 ·subst J
  cases (show u=Qm b from U)
  obtain ⟨z,G,xs,B,dd⟩:=Uo I.hok e
  refine PR Go dd.typeIs Jj (TY _ _) (meetsH_dict_get (PZ (ZG X.prog X.w)) a b G) ⟨GI Z,k,xs,Ud I.hok W,dd,h _ _ (I.tok _) ?_⟩
  rw [l]
  exact (B.val k).getD rfl
theorem ZmA {Q:Qb->Qd->Prop}(hu:A.units+1 < TV)(I:Inv X pins σ H s)(g:DGet H a y o)(W:RelV y u)(S:RelV d r)(h:∀ U s',Inv X pins σ H s'->RelV (o.getD d) U->Q U s') :
 Qq (Qt X.prog X.w) A (call (.builtin "dict.get") [.ref a,u,r]) Q E s:=by
 rcases g with ⟨kvs,k,e,J,l⟩ | ⟨kvs,k,b,e,J,Z,l⟩
 ·subst J
  obtain ⟨z,G,vs,B,dd⟩:=Um I.hok e
  refine PR Go dd.typeIs Jj (TZ _ _ _) (meets_dict_get_default (ZG X.prog X.w) a (Ur W) G r) ⟨_,dd.mapOf,h _ _ (I.tok _) ?_⟩
  rw [l]
  exact (B.val k).getD S
 ·subst J
  cases (show u=Qm b from W)
  obtain ⟨z,G,xs,B,dd⟩:=Uo I.hok e
  refine PR Go dd.typeIs Jj (TZ _ _ _) (meetsH_dict_get_default (PZ (ZG X.prog X.w)) a b G r) ⟨GI hu,k,xs,Ud I.hok Z,dd,h _ _ (I.tok _) ?_⟩
  rw [l]
  exact (B.val k).getD S
end
inductive Zeu (ty:TE)(σ:St)(Q:VK)(x:V)(H1:Hp):Prop
 | mk (a:_):x=.ref a->IsD H1 a->(ty σ H1 fun y H2=>∃ o,DGet H2 a y o/\Q (o.getD .non) H2)->Zeu ty σ Q x H1
def ZnF (td ty:TE):TE:=fun σ H Q=>td σ H fun x H1=>Zeu ty σ Q x H1
inductive Zev (ty tx:TE)(σ:St)(Q:VK)(x:V)(H1:Hp):Prop
 | mk (a:_):x=.ref a->IsD H1 a->(ty σ H1 fun y H2=>tx σ H2 fun z H3=>∃ o,DGet H3 a y o/\Q (o.getD z) H3)->Zev ty tx σ Q x H1
def ZnG (td ty tx:TE):TE:=fun σ H Q=>td σ H fun x H1=>Zev ty tx σ Q x H1
section
variable {X:Cx}{o e f:Expr}{apos cpos:Pos}{td ty tx:TE}
theorem Zee (U:X.A.units+1 < TV)(Z:PE X o td)(he:PE X e ty)(m:M1 X o "get" apos e cpos):PE X (.Call (.Attribute o "get" apos) [e] [] cpos) (ZnF td ty):=by
 intro pins s σ H Q I h
 refine Ov m.base m.few m.line JK Go SI (Zt (Z pins s σ H _ I h) fun u s1 B=>?_)
 obtain ⟨x,H1,J,rx,a,ex,d,q1⟩:=B
 subst ex
 obtain rfl:u=Qm a:=rx
 obtain ⟨t1,S,_⟩:=ZhF J d
 refine ⟨t1,S,?_⟩
 rw [m.trees]
 refine Ji rfl (Pr (Jf (Zt (he pins s1 σ H1 _ J q1) fun iv s2 B=>?_)))
 obtain ⟨y,H2,W,ry,ov,g,q2⟩:=B
 refine JP ?_
 exact Zmz U W g ry fun w' s3 I3 G=>⟨_,H2,I3,G,q2⟩
theorem ZaV (U:X.A.units+1 < TV)(ho:PE X o td)(he:PE X e ty)(hf:PE X f tx)(m:M2 X o "get" apos e f cpos):PE X (.Call (.Attribute o "get" apos) [e,f] [] cpos) (ZnG td ty tx):=by
 intro pins s σ H Q I h
 refine Ov m.base m.few m.line JK Go SI (Zt (ho pins s σ H _ I h) fun u s1 zz=>?_)
 obtain ⟨x,H1,G,rx,a,ex,d,q1⟩:=zz
 subst ex
 obtain rfl:u=Qm a:=rx
 obtain ⟨t1,S,_⟩:=ZhF G d
 refine ⟨t1,S,?_⟩
 rw [m.trees]
 refine Ji rfl (Pr (Jf (Zt (he pins s1 σ H1 _ G q1) fun iv s2 ⟨y,H2,W,ry,q2⟩ =>
  Jf (Zt (hf pins s2 σ H2 _ W q2) fun fv s3 ⟨z,J,I3,rz,ov,g,q3⟩=>JP ?_))))
 exact ZmA U I3 g ry rz fun w' s4 Z B=>⟨_,J,Z,B,q3⟩
end
section
variable {X:Cx}{pins:List (Addr×Obj)}{σ:St}{H:Hp}{s:Qd}{a:Addr}{kvs:List (Zo×V)}{A:Qz}{E:Qb->Qd->Prop}
end
section
variable {X:Cx}{pins:List (Addr×Obj)}{σ:St}{H:Hp}{s:Qd}{a:Addr}{y:V}{u:Qb}{A:Qz}{E:Qb->Qd->Prop}
end
section
variable {κ:Type}[DecidableEq κ]
end
theorem VF {env:Env}(y:Str):∀ B:List (Str×JB),
 (B.map fun (n,k)=>if (k == Jn&&env.scope.kind == .function&&env.kindOf n == some .cell) then (n,NameKind.cell) else (n,k)).lookup y =
  (B.lookup y).map fun k=>if (k == Jn&&env.scope.kind == .function&&env.kindOf y == some .cell) then NameKind.cell else k
 | []=>rfl
 | (n, k)::r=>by
  have I:=VF (env:=env) y r
  rw [map_cons]
  cases hx:y == n with
  | true =>
   have e:y=n:=by simpa using hx
   subst e
   by_cases G:(k == Jn&&env.scope.kind == .function&&env.kindOf y == some .cell)=true
   ·simp only [G,if_true,lookup_cons,beq_self_eq_true,GM]
   ·simp only [G,lookup_cons,beq_self_eq_true,GM]
    simp [G]
  | false =>
   by_cases G:(k == Jn&&env.scope.kind == .function&&env.kindOf n == some .cell)=true
   ·simp only [G,if_true,lookup_cons,hx];exact I
   ·simp only [G,lookup_cons,hx,Gq,if_false];exact I
theorem YF {scope:Scope}{env:Env}{y:Str}{k:JB}(G:∀ z∈scope.names,z.2≠.cell)(h:(relabel scope env).names.lookup y=some k) :
 scope.names.lookup y=some k\/(scope.names.lookup y=some .free/\k=.cell):=by
 unfold relabel at h
 rw [VF] at h
 cases e:scope.names.lookup y with
 | none=>rw [e] at h;cases h
 | some k0 =>
  rw [e] at h
  simp only [GM,Option.some.injEq] at h
  by_cases B:(k0 == Jn&&env.scope.kind == .function&&env.kindOf y == some .cell)=true
  ·rw [if_pos B] at h
   right
   simp only [QJ,beq_iff_eq] at B
   exact ⟨by rw [B.1.1],h.symm⟩
  ·rw [if_neg B] at h
   left;rw [h]
theorem mem_of_lookup {B:Type}{y:Str}{k:B}:∀{l:List (Str×B)},l.lookup y=some k->(y,k)∈l
 | [],h=>by cases h
 | (n,z)::r,h=>by
  cases hx:y == n with
  | true =>
   have e:y=n:=by simpa using hx
   subst e
   simp only [lookup_cons,beq_self_eq_true] at h
   cases h
   exact mem_cons_self
  | false =>
   simp only [lookup_cons,hx] at h
   exact mem_cons_of_mem _ (mem_of_lookup h)
theorem UX {env:Env}:∀(B:List (Str×JB))(I:List (Str×Addr)),(∀ y∈B,y.2=.free->∃ c,env.cells.lookup y.1=some c) ->
 ∃ G:List (Str×Addr),(forIn B I fun (x:Str×JB) (r:List (Str×Addr))=>(if x.2 == Jn then (do let a <- cellOf env x.1;pure (Jk ((x.1,a)::r))) else pure (Jk r):Sem (ForInStep (List (Str×Addr)))))=pure G /\
  (∀ y c,G.lookup y=some c->I.lookup y=some c\/env.cells.lookup y=some c)/\(∀ y,I.lookup y≠none->G.lookup y≠none)/\∀ y∈B,y.2=.free->G.lookup y.1≠none
 | [],I,_=>⟨I,rfl,fun _ _ h=>.inl h,fun _ h=>h,fun _ h=>(nomatch h)⟩
 | (n, k)::r,I,h=>by
  by_cases hk:k=.free
  ·subst hk
   obtain ⟨c,hc⟩:=h (n,.free) mem_cons_self rfl
   obtain ⟨G,e,g1,U,Z⟩:=UX r ((n,c)::I) fun y hy=>h y (mem_cons_of_mem _ hy)
   refine ⟨G,?_,?_,?_,?_⟩
   ·rw [Nm]
    have J:cellOf env n=pure c:=by unfold cellOf;rw [hc]
    simp only [beq_self_eq_true,if_true,J,OQ]
    exact e
   ·intro y d q
    rcases g1 y d q with q | q
    ·cases hx:y == n with
     | true =>
      have S:y=n:=by simpa using hx
      subst S
      simp only [lookup_cons,beq_self_eq_true] at q
      cases q
      exact .inr hc
     | false=>simp only [lookup_cons,hx] at q;exact .inl q
    ·exact .inr q
   ·intro y q
    apply U
    cases hx:y == n with
    | true=>simp [lookup_cons,hx]
    | false=>simpa [lookup_cons,hx] using q
   ·intro y hy W
    rcases mem_cons.mp hy with S | hy
    ·subst S
     apply U
     simp [lookup_cons]
    ·exact Z y hy W
  ·obtain ⟨G,e,g1,U,Z⟩:=UX r I fun y hy=>h y (mem_cons_of_mem _ hy)
   refine ⟨G,?_,g1,U,?_⟩
   ·rw [Nm]
    have hb:(k == Jn)=false:=by simpa using hk
    simp only [hb,Gq,if_false,OQ]
    exact e
   ·intro y hy W
    rcases mem_cons.mp hy with S | hy
    ·subst S;exact absurd W hk
    ·exact Z y hy W
theorem WO {scope:Scope}{env:Env}(h:∀ y∈scope.names,y.2=.free->∃ c,env.cells.lookup y.1=some c) :
 ∃ B,closureFor scope env=pure B/\(∀ y c,B.lookup y=some c->env.cells.lookup y=some c)/\∀ y∈scope.names,y.2=.free->B.lookup y.1≠none:=by
 obtain ⟨B,e,I,_,G⟩:=UX (env:=env) scope.names [] h
 refine ⟨B,?_,fun y c q=>(I y c q).elim (fun z=>by cases z) fun z=>z,G⟩
 simp only [closureFor]
 rw [<- bind_pure (pure B:Sem _),<- e]
def Vd (N xs:List Str):List Str:=N.map fun y=>if y∈xs then (if xs.head?=some y then "" else "0") else y
theorem ZaR (N xs:List Str):(Vd N xs).length=N.length:=length_map ..
theorem Zjp {N xs:List Str}{y:Str}{i:Nat}(h:(Vd N xs)[i]?=some y):(N[i]?=some y/\y ∉ xs)\/y=""\/y="0":=by
 unfold Vd at h
 rw [getElem?_map] at h
 cases e:N[i]? with
 | none=>rw [e] at h;cases h
 | some z =>
  rw [e] at h
  have h:(if z∈xs then (if xs.head?=some z then ("":Str) else "0") else z)=y:=QE h
  by_cases q:z∈xs
  ·rw [if_pos q] at h
   by_cases g:xs.head?=some z
   ·rw [if_pos g] at h;exact .inr (.inl h.symm)
   ·rw [if_neg g] at h;exact .inr (.inr h.symm)
  ·rw [if_neg q] at h;subst h;exact .inl ⟨rfl,q⟩
def Yf (X:Cx)(scope:Scope)(xs:List Str)(cl:List (Str×Addr))(C:Addr)(s₀:Qd)(H₀:Hp)(fp:List Addr):Cx :=
 {prog:=X.prog,w:=X.w,K:=X.K,mg:=X.mg,base:=X.base,A:=X.A,N:=Vd X.N xs++xs,s₀:=s₀,H₀:=H₀,env:=compEnvC scope cl C X.env,outer:=X.stack,stack:=X.stack,
  ex:=fp,fn:=fun _=>false,calm:=X.calm,pn:=[],xe:=fun _ _=>False }
abbrev VA (X:Cx)(scope:Scope)(x:Str):=Yf X scope [x]
structure CompOkN (X:Cx)(scope:Scope)(xs:List Str):Prop where
 nd:(Vd X.N xs++xs).Nodup
 clos:∀ y∈scope.names,y.2=.free->X.env.kindOf y.1=some .cell\/X.env.kindOf y.1=some .free
 cell:∀ y∈scope.names,y.2≠.cell
 kind:scope.kind=.function
 names:∀ y∈scope.names,y.2=.local->scope.names.lookup y.1=some .local
 loc:∀ x∈xs,scope.names.lookup x=some .local
 own:∀ y∈X.N,y ∉ xs->scope.names.lookup y≠some .local
 noh:scope.names.lookup ("":Str)=none/\scope.names.lookup ("0":Str)=none
abbrev CompOk (X:Cx)(scope:Scope)(x:Str):=CompOkN X scope [x]
def ZaN (N:List Str)(names:List (Str×JB))(scope:Scope)(xs:List Str):Bool :=
 decide ((Vd N xs++xs).Nodup)&&scope.names.all (fun y=>(y.2 != .free || names.lookup y.1 == some .cell || names.lookup y.1 == some .free)&&(y.2 != .cell&&(y.2 != .local || scope.names.lookup y.1 == some .local))) &&
 ((scope.kind == .function&&xs.all fun x=>scope.names.lookup x == some .local)&&N.all fun y=>decide (y∈xs) || scope.names.lookup y != some .local)&&(scope.names.lookup ("":Str) == none&&scope.names.lookup ("0":Str) == none)
theorem CompOkN.of {X:Cx}{scope:Scope}{xs:List Str}(N:List Str)(st:Stmt)(J:X.N=N)(S:X.env.scope=Zk st)(G:ZaN N (Zk st).names scope xs=true):CompOkN X scope xs:=by
 unfold ZaN at G
 simp only [QJ,decide_eq_true_eq,all_eq_true,PB,bne_iff_ne,beq_iff_eq] at G
 obtain ⟨⟨⟨c1,I⟩,⟨c3,Z⟩,c5⟩,U⟩:=G
 refine ⟨by rw [J];exact c1,fun y B hf=>?_,fun y B=>(I y B).2.1,c3,fun y B W=>?_,Z,fun y B hx=>(c5 y (by rw [<- J];exact B)).resolve_left hx,U⟩
 ·show X.env.scope.names.lookup y.1=_\/X.env.scope.names.lookup y.1=_
  rw [S]
  rcases (I y B).1 with (z | z) | z
  ·exact absurd hf z
  ·exact .inl z
  ·exact .inr z
 ·rcases (I y B).2.2 with z | z
  ·exact absurd W z
  ·exact z
theorem CompOk.of {X:Cx}{scope:Scope}{x:Str}(N:List Str)(st:Stmt)(I:X.N=N)(G:X.env.scope=Zk st)(B:ZaN N (Zk st).names scope [x]=true):CompOk X scope x:=CompOkN.of N st I G B
def tYes:TT:=fun _ H k=>k true H
def PCs (X:Cx)(cs:List Expr)(tc:TT):Prop:=(cs=[]/\tc=tYes)\/∃ c,cs=[c]/\PT X c tc
def Zbe (J:It)(g:TG)(tc:TT)(te:TE)(n:Nat)(OK:St->St->Prop)(σ:St)(D:Addr)(Q:VK)(H1:Hp):Prop :=
 ∃ W : Nat->Nat->List V->Hp->Prop,(∃ m,W 0 m [] (upd H1 D (.lst [])))/\∀ i m ys H2,W i m ys H2 ->
  (J.stop i H2/\Q (.ref D) H2)\/(J.go i H2/\∃ (N:VK) (M:Hp->Prop),(∀ y H4,N y H4->H4 D=some (.lst ys)/\ys.length < Qj/\∃ m',m' < m/\W (i+1) m' (ys++[y]) (upd H4 D (.lst (ys++[y]))))/\(∀ H4,M H4->∃ m',m' < m/\W (i+1) m' ys H4) /\
   ∀ ws v H3,ws.length=n->J.yld i H2 v H3->g v (σ++ws) H3 fun σ' H'=>OK σ σ'/\tc σ' H' fun b H4=>if b=true then te σ' H4 N else M H4)
def tCW (wi:TI)(CW:It->St->Addr->VK->Hp->Prop):TE:=fun σ H Q=>wi σ H fun J H1=>∀ D,H1 D=none->CW J σ D Q H1
def CompW (J:It)(te:TE)(σ:St)(D:Addr)(Q:VK)(H1:Hp):Prop :=
 ∃ W:Nat->Nat->List V->Hp->Prop,(∃ m,W 0 m [] (upd H1 D (.lst [])))/\∀ i m ys H2,W i m ys H2 ->
  (J.stop i H2/\Q (.ref D) H2)\/(J.go i H2/\∃ N:VK,(∀ y H4,N y H4->H4 D=some (.lst ys)/\ys.length < Qj/\∃ m',m' < m/\W (i+1) m' (ys++[y]) (upd H4 D (.lst (ys++[y]))))/\∀ v H3,J.yld i H2 v H3->te (σ++[some v]) H3 N)
def Zpc (wi:TI)(te:TE):TE:=fun σ H Q=>wi σ H fun J H1=>∀ D,H1 D=none->CompW J te σ D Q H1
section
variable {X:Cx}{elt iter tg:Expr}{cs:List Expr}{xs:List Str}{pos:Pos}{scope:Scope}{wi:TI}{te:TE}{tc:TT}{g:TG}{OK:St->St->Prop}{CW:It->St->Addr->VK->Hp->Prop}
theorem UY {prog:Qi}{w:Qu}{A:Qz}{R:SQ->Qd->Prop}{s:Qd}{elt B iter:Expr}{cs:List Expr}{scope:Scope}{pos:Pos}{it acc:Qb}{env:Env}(I:Nat->Qd->Prop)
   (turn : ∀ n s,I n s->Qq (Qt prog w) A (pyNext it) (fun r G=>match r with
     | none=>R (.ok .next) G
     | some v=>Qq (Qt prog w) A (Px B it v) (fun _ s1'=>Qq (Qt prog w) A (SO B env v) (fun _ Z=>Qq (Qt prog w) A (forIn cs true fun c r=>if r=true then do let ok <- isTrue c env (eval c env);pure (Jk ok) else pure (Jk r)) (fun ok s2'=>if ok=true then Qq (Qt prog w) A (eval elt env) (fun x S =>
         Qq (Qt prog w) A (call (.builtin "list.append") [acc,x]) (fun _ U=>∃ m,m < n/\I m U) (fun _ _=>False) S)
         (fun _ _=>False) s2' else ∃ m,m < n/\I m s2') (fun _ _=>False) Z) (fun _ _=>False) s1') (fun _ _=>False) G) (fun _ _=>False) s)
   (n:Nat) (h:I n s) :
   Jw (Qt prog w) A (.compLoop (.ListComp elt [⟨B,iter,cs,0⟩] scope pos) 0 it acc env) R s:=by
 refine codeAny_loop rfl I (fun n s hI=>?_) n h
 show Qq _ _ ((compTurn (.ListComp elt [⟨B,iter,cs,0⟩] scope pos) 0 it acc env).onRaise (fun x=>do noteFrame x env;theTreesLotGoes x)) _ _ s
 refine wpAny_noted ?_
 rw [compTurn_list]
 refine Qf (GD (Qf (QP (turn n s hI) (fun r G J=>?_) fun _ _ h'=>h'.elim)))
 cases r with
 | none=>exact Qx J
 | some v =>
   refine Qf (QP J (fun _ s1' h1'=>?_) fun _ _ h'=>h'.elim)
   refine Qf (QP h1' (fun _ Z h₂=>Qf (QP h₂ (fun ok S W=>?_) fun _ _ h'=>h'.elim)) fun _ _ h'=>h'.elim)
   cases ok with
   | false=>exact Qx ⟨rfl,W⟩
   | true =>
     exact Qf (Qf (QP W (fun x U h₄=>Qf (QP h₄ (fun _ s₅ h₅=>Qx (Qx ⟨rfl,h₅⟩)) fun _ _ h'=>h'.elim)) fun _ _ h'=>h'.elim))
theorem PCs.go {X:Cx}{cs:List Expr}{tc:TT}(h:PCs X cs tc)(pins:List (Addr×Obj))(s:Qd)(σ:St)(H:Hp)(Q:Bool->Hp->Prop)(I:Inv X pins σ H s)(q:tc σ H Q) :
 Qq (Qt X.prog X.w) X.A (forIn cs true fun c r=>if r=true then do let ok <- isTrue c X.env (eval c X.env);pure (Jk ok) else pure (Jk r)) (fun b s'=>∃ H',Inv X pins σ H' s'/\Q b H') X.xe s:=by
 rcases h with ⟨rfl,rfl⟩ | ⟨c,rfl,h⟩
 ·exact wpAny_tests_nil ⟨H,I,q⟩
 ·exact wpAny_tests_one (h pins s σ H Q I q)
theorem Zay {pins:List (Addr×Obj)}{σ:St}{H2:Hp}{G:Qd}{J:It}{U:List Addr}{it:Addr}{tn:Nat->Heap->Prop}{S:List (Str×Addr)}{E:Qb->Qd->Prop}{Q:VK}{RR:Qb->Addr->SQ->Qd->Prop}
 (O:CompOkN X scope xs) (hc:X.calm=true) (cl1:∀ y c,S.lookup y=some c->X.env.cells.lookup y=some c) (cl2:∀ y∈scope.names,y.2=.free->S.lookup y.1≠none)
 (hOK:∀ σ σ',OK σ σ'->∃ ws:St,ws.length=xs.length/\σ'=σ++ws) (hg:∀ S C s₀ H₀ U,PG (Yf X scope xs S C s₀ H₀ U) tg g) (hcn:∀ S C s₀ H₀ U,PCs (Yf X scope xs S C s₀ H₀ U) cs tc) (he:∀ S C s₀ H₀ U,PE (Yf X scope xs S C s₀ H₀ U) elt te)
 (I2:Inv X pins σ H2 G) (T:ZaJ X.prog X.w X.K tg J U it tn) (st:tn 0 G.heap) (f2:∀ b∈U,Wo X pins H2 b)
 (h:∀ D,H2 D=none->Zbe J g tc te xs.length OK σ D Q H2)
 (hRR:∀ D C H' s',Inv X pins σ H' s'->Wo X pins H' C->(∃ m,s'.heap.Ns C m)->Q (.ref D) H'->RR (.ref D) C (.ok .next) s') :
 Qq (Qt X.prog X.w) X.A (newList []) (fun acc B=>Qq (Qt X.prog X.w) X.A (newFunctionEnv scope X.env.globals S [] X.env.qual none .none (some X.env)) (fun cenv Z =>
  Jw (Qt X.prog X.w) X.A (.compStart (.ListComp elt [⟨tg,iter,cs,0⟩] scope pos) 0 (.ref it) acc { cenv with scope:=relabel scope X.env }) (RR acc cenv.locals) Z) E B) E G:=by
 have hD:H2 G.heap.objs.size=none:=I2.hok.fresh (Qg _)
 refine Tv ?_
 have I:Inv X pins σ (upd H2 G.heap.objs.size (.lst [])) { G with heap:=G.heap.push { cls:=.type "list",data:=.seq ([]:List Qb).toArray } } :=
  I2.laid (t':=G.toks) (fun b u e=>Qe _ e) (Qg _) ⟨QC _,[],_,.nil,Qo _ rfl⟩
 have f3:∀ b∈U,Wo X pins (upd H2 G.heap.objs.size (.lst [])) b:=fun b hb=>by
  obtain ⟨g0,g1⟩:=f2 b hb
  obtain ⟨o,e,_⟩:=T.obj 0 _ st b hb
  exact ⟨by rw [Zg (Qy (Qh e))];exact g0,g1⟩
 have st3:tn 0 (G.heap.push { cls:=.type "list",data:=.seq ([]:List Qb).toArray }):=T.keep _ _ _ st fun b hb o e=>Qe _ e
 obtain ⟨W,⟨m0,w0⟩,turn⟩:=h _ hD
 generalize hDe:G.heap.objs.size=D at I f3 w0 turn ⊢
 generalize hH3:upd H2 D (.lst [])=H3 at I f3 w0 turn ⊢
 generalize hs3:({ G with heap:=G.heap.push { cls:=.type "list",data:=.seq ([]:List Qb).toArray } }:Qd)=B at I
 have st3':tn 0 B.heap:=by rw [<- hs3];exact st3
 have hobj:∀ b∈U,b < B.heap.objs.size:=fun b hb=>by
  obtain ⟨o,e,_⟩:=T.obj 0 _ st3' b hb
  exact Qh e
 refine Ps O.cell (by intro y hy;simp at hy) (fun h₁ hns₁ hsb₁=>?_) O.kind
 have old:∀ b o,B.heap.get? b=some o->h₁.get? b=some o:=fun b o e=>hsb₁.extBut b o (Qy (Qh e)) (Qe _ e)
 generalize hs4:({ B with heap:=h₁,toks:=B.toks+([]:List (Str×Qb)).length }:Qd)=Z
 have h4:Z.heap=h₁:=by rw [<- hs4]
 have hX:∀ C,Wo X pins C B.heap.objs.size->True:=fun _ _=>trivial
 have ok':(Yf X scope xs S B.heap.objs.size B H3 U).Ok:=by
  refine ⟨I.ok.mod,O.kind,I.ok.glob,I.ok.blt,Qg _,?_,?_,?_,I.ok.hd,I.ok.frames,.inl rfl,?_,I.bs,Qr I.ok.bsz I.sz,?_,?_,I.stack,I.stkFree⟩
  ·exact fun y z c e1 e2=>I.ok.inj y z c (cl1 y c e1) (cl1 z c e2)
  ·intro y hk
   have hf:scope.names.lookup y=some .free:=by
    rcases hk with hk | hk
    ·rcases YF O.cell hk with q | q
     ·exact absurd rfl (O.cell _ (mem_of_lookup q))
     ·exact q.1
    ·rcases YF O.cell hk with q | q
     ·exact q
     ·cases q.2
   have:=cl2 _ (mem_of_lookup hf) rfl
   cases e:S.lookup y with
   | none=>exact absurd e this
   | some c=>exact ⟨c,e⟩
  ·intro y c hf;cases hf
  ·intro b hb
   obtain ⟨g0,g1,g2,g3,g4,g5⟩:=f3 b hb
   exact ⟨Qy (hobj b hb),fun y c e=>g4 y c (cl1 y c e)⟩
  ·intro b o e hb
   obtain ⟨g0,g1,g2,g3,g4,g5⟩:=f3 b hb
   rcases g3 with g3 | g3
   ·exact I.ok.noex b o e g3
   ·exact absurd (Qh e) (QS.mpr (Qr I.ok.bsz g3))
  ·intro b hb hs
   obtain ⟨g0,g1,g2,g3,g4,g5⟩:=f3 b hb
   rcases mem_cons.mp (I.stkSub b hs) with e | e
   ·exact g1 e
   ·exact g2 e
 have I4 : Inv (Yf X scope xs S B.heap.objs.size B H3 U) [] (σ++GX xs.length none) H3 Z:=by
  obtain ⟨m,hm,hl⟩:=I.loc
  refine ⟨ok',by rw [<- hs4];rfl,by rw [<- hs4];exact I.bare,by rw [h4];exact Un.kept old,⟨_,by rw [h4];exact hns₁,?_⟩,?_,I.hok.fresh (Qg _),fun y c e=>I.freeC y c (cl1 y c e),?_,by rw [h4];exact I.hok.kept old,?_⟩
  ·intro i y v e1 e2 e3
   have hlt:i < σ.length:=by
    rcases Nat.lt_or_ge i σ.length with z | z
    ·exact z
    ·rw [getElem?_append_right z] at e2
     have:=List.eq_of_mem_replicate (mem_of_getElem? e2)
     cases this
   rw [getElem?_append_left hlt] at e2
   have hsm:∃ k,scope.names.lookup y=some k:=by
    rcases e3 with hk | hk | hk
    ·rcases YF O.cell hk with q | q
     ·exact ⟨_,q⟩
     ·exact ⟨_,q.1⟩
    ·rcases YF O.cell hk with q | q
     ·exact ⟨_,q⟩
     ·exact ⟨_,q.1⟩
    ·rcases YF O.cell hk with q | q
     ·exact ⟨_,q⟩
     ·exact ⟨_,q.1⟩
   obtain ⟨e1',hyx⟩:X.N[i]?=some y/\y ∉ xs:=by
    have e1:(Vd X.N xs++xs)[i]?=some y:=e1
    rw [getElem?_append_left (by rw [ZaR,<- I.len];exact hlt)] at e1
    rcases Zjp e1 with z | z
    ·exact z
    ·obtain ⟨k,hk⟩:=hsm
     rcases z with z | z
     ·rw [z,O.noh.1] at hk;cases hk
     ·rw [z,O.noh.2] at hk;cases hk
   have hy:y∈X.N:=mem_of_getElem? e1'
   have hf:scope.names.lookup y=some .free:=by
    rcases e3 with hk | hk | hk
    ·rcases YF O.cell hk with q | q
     ·exact absurd q (O.own y hy hyx)
     ·exact q.1
    ·rcases YF O.cell hk with q | q
     ·exact absurd rfl (O.cell _ (mem_of_lookup q))
     ·exact q.1
    ·rcases YF O.cell hk with q | q
     ·exact q
     ·exact q.1
   have hk:=O.clos _ (mem_of_lookup hf) rfl
   have hv:Vis X.env.scope y:=by rcases hk with z | z;exact .inr (.inl z);exact .inr (.inr z)
   obtain ⟨u,ru,lu⟩:=hl i y v e1' e2 hv
   refine ⟨u,ru,?_⟩
   have hkc:(compEnvC scope S B.heap.objs.size X.env).kindOf y=some .cell\/(compEnvC scope S B.heap.objs.size X.env).kindOf y=some .free:=by
    rcases e3 with q | q | q
    ·rcases YF O.cell q with z | z
     ·exact absurd z (O.own y hy hyx)
     ·cases z.2
    ·exact .inl q
    ·exact .inr q
   rcases lu with ⟨q,_⟩ | ⟨_,c,hcl,hcc⟩
   ·rcases hk with z | z<;>(rw [q] at z;cases z)
   ·refine .inr ⟨hkc,?_⟩
    cases e:S.lookup y with
    | none=>exact absurd e (cl2 _ (mem_of_lookup hf) rfl)
    | some c' =>
     have:=cl1 y c' e
     rw [hcl] at this
     cases this
     refine ⟨c,e,?_⟩
     rw [h4]
     obtain ⟨oc,ho,hd⟩:=hcc
     exact ⟨oc,old _ _ ho,hd⟩
  ·intro y c e
   obtain ⟨v,oc,ho,hd⟩:=I.cell y c (cl1 y c e)
   exact ⟨v,oc,by rw [h4];exact old _ _ ho,hd⟩
  ·intro p hp;cases hp
  ·show (σ++GX xs.length none).length=(Vd X.N xs++xs).length
   rw [length_append,length_append,ZaR,I.len,Pa]
 have st4:tn 0 Z.heap:=by rw [h4];exact T.keep _ _ _ st3' fun b hb o e=>old b o e
 have fpok:∀ {H':Hp},(∀ b∈U,H' b=none)->∀ b∈U,Wo (Yf X scope xs S B.heap.objs.size B H3 U) [] H' b:=fun hn b hb=>by
  obtain ⟨g0,g1,g2,g3,g4,g5⟩:=f3 b hb
  refine ⟨hn b hb,Qy (hobj b hb),ok'.exfs b hb,.inl hb,fun y c e=>g4 y c (cl1 y c e),?_⟩
  intro p hp;cases hp
 have loop:Jw (Qt X.prog X.w) X.A (.compLoop (.ListComp elt [⟨tg,iter,cs,0⟩] scope pos) 0 (.ref it) (.ref D) (compEnvC scope S B.heap.objs.size X.env)) (RR (.ref D) B.heap.objs.size) Z:=by
  refine UY (fun n s'=>∃ i ys ws H',ws.length=xs.length/\Inv (Yf X scope xs S B.heap.objs.size B H3 U) [] (σ++ws) H' s'/\tn i s'.heap/\(∀ b∈U,H' b=none)/\W i n ys H') ?_ m0 ⟨0,[],_,H3,Pa,I4,st4,fun b hb=>(f3 b hb).1,w0⟩
  rintro n s5 ⟨i,ys,ws,H5,hws,I5,st5,fr5,w5⟩
  rcases turn i n ys H5 w5 with ⟨stop,q⟩ | ⟨go,N,M,hN,hM,step⟩
  ·refine Zt (T.done (Yf X scope xs S B.heap.objs.size B H3 U) rfl rfl rfl hc i [] s5 _ H5 _ I5 (fpok fr5) st5 stop) fun r s6 ⟨hr,I6⟩=>?_
   subst hr
   obtain ⟨m6,hn6,_⟩:=I6.loc
   have IX:Inv X pins σ H5 s6:=I.call' (ch:=U) I6.os I6.base I6.hok I6.bare fun b hb=>by
    obtain ⟨g0,g1,g2,g3,g4,g5⟩:=f3 b hb
    exact ⟨g3,g1,g4,g5⟩
   exact hRR D _ H5 s6 IX (I.fpOk (Qg _) I6.free) ⟨m6,hn6⟩ q
  ·refine Zt (T.item (Yf X scope xs S B.heap.objs.size B H3 U) rfl rfl rfl hc i [] s5 _ H5 _ I5 (fpok fr5) st5 go) fun r s6 zz=>?_
   obtain ⟨u,hr,h6⟩:=zz
   subst hr
   refine Zt h6 fun _ s7 zz=>?_
   obtain ⟨v,H7,I7,r7,y7,st7,fr7⟩:=zz
   have I7':=I7.pinned (fpok fr7) (T.obj _ _ st7)
   refine Zt (hg S B.heap.objs.size B H3 U _ s7 _ H7 v u _ I7' r7 (step ws v H7 hws y7)) fun _ s8 zz=>?_
   obtain ⟨σ8,H8,I8,o8,q8⟩:=zz
   obtain ⟨ws',hws',e8⟩:=hOK σ σ8 o8
   subst e8
   refine Zt (PCs.go (hcn S B.heap.objs.size B H3 U) _ s8 _ H8 _ I8 q8) fun bb s8b zz=>?_
   obtain ⟨H8b,I8b,q8b⟩:=zz
   cases bb with
   | false =>
    obtain ⟨m',hm',w9⟩:=hM H8b q8b
    refine ⟨m',hm',i+1,ys,ws',_,hws',I8b.unpinned (pins:=[]),T.keep _ _ _ st7 fun b hb o e=>(I8b.pin (b,o) (mem_append_right _ (mem_append_right _ (XA hb e)))).1,fun b hb=>?_,w9⟩
    obtain ⟨o,e,d⟩:=T.obj _ _ st7 b hb
    exact (I8b.pin (b,o) (mem_append_right _ (mem_append_right _ (XA hb e)))).2.1
   | true =>
    refine Zt (he S B.heap.objs.size B H3 U _ s8b _ H8b _ I8b q8b) fun uy s9 zz=>?_
    obtain ⟨y,H9,I9,r9,n9⟩:=zz
    obtain ⟨hl9,hz9,m',hm',w9⟩:=hN y H9 n9
    refine Zt (YH (X:=Yf X scope xs S B.heap.objs.size B H3 U) _ s9 _ H9 (.ref D) [y] (.ref D) [uy] (fun v H'=>H'=upd H9 D (.lst (ys++[y]))) I9 rfl (.cons r9 .nil) ⟨D,ys,y,rfl,rfl,hl9,hz9,rfl⟩) fun _ s10 zz=>?_
    obtain ⟨_,H10,I10,_,e10⟩:=zz
    subst e10
    refine ⟨m',hm',i+1,ys++[y],ws',_,hws',I10.unpinned (pins:=[]),T.keep _ _ _ st7 fun b hb o e=>(I10.pin (b,o) (mem_append_right _ (mem_append_right _ (XA hb e)))).1,fun b hb=>?_,w9⟩
    obtain ⟨o,e,d⟩:=T.obj _ _ st7 b hb
    exact (I10.pin (b,o) (mem_append_right _ (mem_append_right _ (XA hb e)))).2.1
 exact codeAny_compStart_list loop (T.self _ 0 _ _ _ st4 loop)
theorem Zed (O:CompOkN X scope xs)(hc:X.calm=true)(hi:PI X tg iter wi)(conv:∀ J σ D Q H,σ.length=X.N.length->CW J σ D Q H->Zbe J g tc te xs.length OK σ D Q H)(hOK:∀ σ W,OK σ W->∃ ws:St,ws.length=xs.length/\W=σ++ws)(hg:∀ S C B G U,PG (Yf X scope xs S C B G U) tg g)(hcn:∀ S C B G U,PCs (Yf X scope xs S C B G U) cs tc)(he:∀ S C B G U,PE (Yf X scope xs S C B G U) elt te)
 (hs:∀ v,GN iter X.env v=pure v:=by intro _;rfl):PE X (.ListComp elt [⟨tg,iter,cs,0⟩] scope pos) (tCW wi CW):=by
 intro pins s σ H Q I h
 obtain ⟨S,Z,cl1,cl2⟩:=WO (scope:=scope) (env:=X.env) fun y hy hf=>I.ok.has _ (O.clos y hy hf)
 rw [eval_ListComp]
 refine TK (use:=none) rfl hs Z O.kind O.names (Zt (hi pins s σ H _ I h) fun v s1 h1=>Zt h1 fun itv s2 h2=>?_)
 obtain ⟨it,U,tn,J,H2,e,I2,T,st2,f2,q⟩:=h2
 subst e
 refine Zay (RR:=fun acc C=>compPost (Qt X.prog X.w) X.A X.xe none (EP X pins σ Q) acc C) O hc cl1 cl2 hOK hg hcn he I2 T st2 f2 (fun z hz=>conv _ _ z _ _ I2.len (q z hz)) ?_
 intro D C H' s' I' ⟨g0,g1,g2,g3,g4,g5⟩ ⟨m,hm⟩ hq
 exact ⟨m,hm,fun h' hs'=>⟨.ref D,H',I'.turned (t':=s'.toks) (fun b o hb e=>(hs'.2 b hb).trans e) g0 g1 g3 g4 g5,rfl,hq⟩⟩
theorem ZeN {i:Nat}{y:Str}{Z S:Pos}(O:CompOkN X scope xs)(hc:X.calm=true)(hN:X.N.Nodup)(hiN:X.N[i]?=some y)(hy:Loc X.env.scope y)(hi:PI X tg iter wi)(conv:∀ J σ D Q H,σ.length=X.N.length->CW J σ D Q H->Zbe J g tc te xs.length OK σ D Q H)(hOK:∀ σ σ',OK σ σ'->∃ ws:St,ws.length=xs.length/\σ'=σ++ws)(hg:∀ U C B G W,PG (Yf X scope xs U C B G W) tg g)(hcn:∀ U C B G W,PCs (Yf X scope xs U C B G W) cs tc)(he:∀ U C B G W,PE (Yf X scope xs U C B G W) elt te)
 (hsw:Ta (.ListComp elt [⟨tg,iter,cs,0⟩] scope pos) (some (.Name y Z)) S.line X.env=pure true) (hf:X.fn y=true\/X.env.scope.names.lookup y=some .local:=by first | exact .inl rfl | exact .inr rfl | assumption)
 (hs:∀ v,GN iter X.env v=pure v:=by intro _;rfl):PS X (.Assign [.Name y Z] (.ListComp elt [⟨tg,iter,cs,0⟩] scope pos) S) (ZgR (tCW wi CW) (Vb i)):=by
 intro pins s σ H D I h
 obtain ⟨U,hcl,cl1,cl2⟩:=WO (scope:=scope) (env:=X.env) fun y hy hf=>I.ok.has _ (O.clos y hy hf)
 rw [exec_Assign_Name_used _ _ _ _ hsw]
 refine Qf (GD (Qf ?_))
 show Qq _ X.A (do let _ <- comprehension (.ListComp elt [⟨tg,iter,cs,0⟩] scope pos) scope X.env _ (newList []) false (eval iter X.env) (some (SO (.Name y Z) X.env))) _ _ s
 refine Qf (QP (TK (use:=some (SO (.Name y Z) X.env)) (Q:=fun _ s'=>SP X pins D .next s') rfl hs hcl O.kind O.names
  (Zt (hi pins s σ H _ I h) fun v s1 h1=>Zt h1 fun itv s2 h2=>?_)) (fun _ s' hq=>Qx (Qx hq)) fun _ _ e=>e)
 obtain ⟨it,W,tn,J,H2,e,I2,T,st2,f2,q⟩:=h2
 subst e
 refine Zay (RR:=fun acc C=>compPost (Qt X.prog X.w) X.A X.xe (some (SO (.Name y Z) X.env)) (fun _ s'=>SP X pins D .next s') acc C) O hc cl1 cl2 hOK hg hcn he I2 T st2 f2 (fun z hz=>conv _ _ z _ _ I2.len (q z hz)) ?_
 intro Dl C H' s' I' ⟨g0,g1,g2,g3,g4,g5⟩ ⟨m,hm⟩ hq
 show Qq _ X.A (SO (.Name y Z) X.env (.ref Dl)) _ _ _
 refine Oh (ZcZ I' hN hiN hy (v:=.ref Dl) rfl (fun s'' I'' zz=>?_) hf)
 obtain ⟨a,sb,ha⟩:=zz
 have haC:C≠a:=by
  rcases ha with z | z
  ·rw [z];exact g1
  ·exact fun z'=>g4 y a z z'.symm
 exact ⟨m,hm.sameBut sb haC,fun h' hs'=>⟨_,H',I''.turned (t':=s''.toks) (fun b o hb e=>(hs'.2 b hb).trans e) g0 g1 g3 g4 g5,hq⟩⟩
end
theorem ok1:∀ σ B:St,(∃ w,B=σ++[w])->∃ G:St,G.length=[x].length/\B=σ++G:=fun _ _ ⟨w,e⟩=>⟨[w],rfl,e⟩
theorem set1 {σ:St}{w v:Option V}{n:Nat}(h:σ.length=n):(σ++[w]).set n v=σ++[v]:=by subst h;simp
theorem CompW.n {J:It}{te:TE}{σ:St}{D:Addr}{Q:VK}{H:Hp}{n:Nat}(S:σ.length=n)(h:CompW J te σ D Q H):Zbe J (Vb n) tYes te 1 (fun σ B=>∃ w,B=σ++[w]) σ D Q H:=by
 obtain ⟨W,w0,t⟩:=h
 refine ⟨W,w0,fun i m ys H2 U=>(t i m ys H2 U).imp (fun z=>z) fun I=>?_⟩
 obtain ⟨go,N,hN,Z⟩:=I
 refine ⟨go,N,fun _=>False,hN,fun _ z=>z.elim,fun ws v G hl y=>?_⟩
 match ws,hl with
 | [w],_ =>
  show (∃ w',(σ++[w]).set n (some v)=σ++[w'])/\te ((σ++[w]).set n (some v)) G N
  rw [set1 S]
  exact ⟨⟨_,rfl⟩,Z v G y⟩
section
variable {X:Cx}{elt iter:Expr}{x:Str}{px pos:Pos}{scope:Scope}{wi:TI}{te:TE}
theorem Zef (O:CompOk X scope x):∀ J C G B I,PG (Yf X scope [x] J C G B I) (.Name x px) (Vb X.N.length):=fun J C G B I =>
 Yg (X:=Yf X scope [x] J C G B I) O.nd (show (Vd X.N [x]++[x])[X.N.length]?=some x by rw [<- ZaR X.N [x]];simp) (.inl (SX (O.loc x (mem_cons_self ..)))) (.inr (SX (O.loc x (mem_cons_self ..))))
theorem Zcq (O:CompOk X scope x)(I:X.calm=true)(hi:PI X (.Name x px) iter wi)(W:∀ S C G B U,PE (VA X scope x S C G B U) elt te)
 (Z:∀ v,GN iter X.env v=pure v:=by intro _;rfl):PE X (.ListComp elt [⟨.Name x px,iter,[],0⟩] scope pos) (Zpc wi te) :=
 Zed (CW:=fun J σ D Q H=>CompW J te σ D Q H) O I hi (fun _ _ _ _ _ hl h=>h.n hl) ok1 (Zef O) (fun _ _ _ _ _=>.inl ⟨rfl,rfl⟩) W Z
end
theorem Zgf {lo:Int}{n:Nat}{te:TE}{σ:St}{D:Addr}{Q:VK}{H:Hp}(hn:n<=Qj)(B:Nat->List V->Hp->Prop)(Z:B 0 [] (upd H D (.lst [])))
 (S:∀ i ys H,B i ys H->ys.length=i)
 (W:∀ i ys H,i < n->B i ys H->te (σ++[some (.int (lo+i))]) H fun y I=>I D=some (.lst ys)/\B (i+1) (ys++[y]) (upd I D (.lst (ys++[y])))) (U:∀ ys H,B n ys H->Q (.ref D) H):CompW (Itr lo n) te σ D Q H:=by
 refine ⟨fun i m ys H=>m=n - i/\i<=n/\B i ys H,⟨n,by simp,QC _,Z⟩,?_⟩
 rintro i m ys H2 ⟨rfl,hi,p⟩
 by_cases G:i < n
 ·have J:=S i ys _ p
  refine .inr ⟨G,_,fun y I (q:I D=some (.lst ys)/\B (i+1) (ys++[y]) (upd I D (.lst (ys++[y]))))=>⟨q.1,by omega,n - (i+1),by omega,rfl,G,q.2⟩,fun v H3 y=>?_⟩
  obtain ⟨e,e'⟩:=y
  subst e e'
  exact W i ys _ G p
 ·have e:i=n:=by omega
  subst e
  exact .inl ⟨Qg _,U ys H2 p⟩
theorem Zjg {K:Qa}{a:Addr}{xs:List V}{te:TE}{σ:St}{D:Addr}{Q:VK}{H:Hp}(hn:xs.length<=Qj)(B:Nat->List V->Hp->Prop)(Z:B 0 [] (upd H D (.lst [])))
 (S:∀ i ys H,B i ys H->ys.length=i/\SqT K H a xs)
 (W:∀ i x ys H,xs[i]?=some x->B i ys H->te (σ++[some x]) H fun y G=>G D=some (.lst ys)/\B (i+1) (ys++[y]) (upd G D (.lst (ys++[y])))) (U:∀ ys H,B xs.length ys H->Q (.ref D) H):CompW (Itt K a) te σ D Q H:=by
 refine ⟨fun i m ys H=>m=xs.length - i/\i<=xs.length/\B i ys H,⟨xs.length,by simp,QC _,Z⟩,?_⟩
 rintro i m ys H2 ⟨rfl,hi,p⟩
 obtain ⟨J,q⟩:=S i ys _ p
 by_cases I:i < xs.length
 ·refine .inr ⟨⟨xs,xs[i],q,by simp [I]⟩,_,fun y G (q:G D=some (.lst ys)/\B (i+1) (ys++[y]) (upd G D (.lst (ys++[y]))))=>⟨q.1,by omega,xs.length - (i+1),by omega,rfl,I,q.2⟩,fun v H3 y=>?_⟩
  obtain ⟨e,y⟩:=y
  subst e
  exact W i v ys _ (y xs q) p
 ·have e:i=xs.length:=by omega
  subst e
  exact .inl ⟨⟨xs,q,Qg _⟩,U ys H2 p⟩
section
variable {X:Cx}{tg:Expr}
end
section
variable {X:Cx}
theorem ZfG:∀{ys:List Str}{us:List Qb},Vals (ys.map V.str) us->Pi us ys
 | [],_,.nil=>.nil
 | y::ys,_,.cons r t=>by obtain ⟨k,rfl⟩:=r;exact .cons _ _ (ZfG t)
theorem Zfo:MtR X "str.join" (fun x xs H Q=>∃ sep a ys,x=.str sep/\xs=[.ref a]/\SqL X.K H a (ys.map V.str)/\(ys.map (·.length)).sum+ys.length * sep.length<=16777216/\Q (.str (Txt.join sep ys)) H):=by
 intro pins s σ H x xs v us Q I B J h
 obtain ⟨sep,a,ys,rfl,rfl,S,G,q⟩:=h
 obtain ⟨t,rfl⟩:=B
 obtain ⟨u,rfl,W⟩:=Yq J
 cases W
 obtain ⟨U,r,p,_⟩:=I.list S
 exact join_list p.isList (by simpa using ZfG r) G fun t' k=>⟨.str _,H,I.tok k,⟨_,rfl⟩,q⟩
theorem ZiA:SlR X (fun x lo hi H Q=>∃ z,x=.str z/\z.length<=Qj/\Q (.str (Txt.slice z lo hi)) H):=by
 intro pins s σ H x v vl vu lo hi sl Q I rx hs pl pu h
 obtain ⟨z,rfl,S,q⟩:=h
 obtain ⟨t,rfl⟩:=rx
 refine ⟨"str",_,F.slot_str_getitem.lookup,typeIs_str _ _ _,?_⟩
 have B:∀ (t':Tok) (k:Nat),EP X pins σ Q (.str (Txt.slice z lo hi) t') { s with toks:=k }:=fun t' k=>⟨.str _,H,I.tok k,⟨_,rfl⟩,q⟩
 obtain ⟨o,U,G,J⟩:=hs
 cases pl<;>cases pu
 ·exact GZ (l:=none) (u:=none) (st:=none) ⟨_,U,G,J⟩ rfl (PD ⟨Qr (Txt.slice_le z _ _) S,B⟩)
 ·rename_i j W
  exact GZ (l:=none) (u:=some (j,W)) (st:=none) ⟨_,U,G,J⟩ rfl (PD ⟨Qr (Txt.slice_le z _ _) S,B⟩)
 ·rename_i i Z
  exact GZ (l:=some (i,Z)) (u:=none) (st:=none) ⟨_,U,G,J⟩ rfl (PD ⟨Qr (Txt.slice_le z _ _) S,B⟩)
 ·rename_i i Z j W
  exact GZ (l:=some (i,Z)) (u:=some (j,W)) (st:=none) ⟨_,U,G,J⟩ rfl (PD ⟨Qr (Txt.slice_le z _ _) S,B⟩)
theorem Zhq:Yt X (.type "str") (fun xs H Q=>(∃ i,xs=[.int i]/\i.natAbs.log2 < 1920/\Q (.str (JO i)) H)\/∃ z,xs=[.str z]/\Q (.str z) H):=by
 intro pins s σ H xs us Q I r h
 rcases h with h | ⟨z,rfl,q⟩
 ·exact ZdL pins s σ H xs us Q I r h
 ·obtain ⟨u,rfl,t,rfl⟩:=Yq r
  exact RW ⟨.str _,H,I,⟨_,rfl⟩,q⟩
end
mutual
inductive DataOf (H:Hp):V->Sq->Prop
 | non:DataOf H .non .none
 | bl (b):DataOf H (.bl b) (.bool b)
 | int (i):DataOf H (.int i) (.int i)
 | str (x):DataOf H (.str x) (.str x)
 | lst {a xs ds}:H a=some (.lst xs)->DatasOf H xs ds->DataOf H (.ref a) (.list ds)
 | tup {a xs ds}:H a=some (.tup xs)->DatasOf H xs ds->DataOf H (.ref a) (.tuple ds)
inductive DatasOf (H:Hp):List V->List Sq->Prop
 | nil:DatasOf H [] []
 | cons {v d vs ds}:DataOf H v d->DatasOf H vs ds->DatasOf H (v::vs) (d::ds)
end
section
variable {P:Qi}{w:Qu}{H:Hp}{h:Heap}
mutual
theorem DataOf.reads (hok:HOk P w H h):∀{v d}(u:Qb),DataOf H v d->RelV v u->d.hasDict=false/\∃ as,Reads h u d as
 | _,_,u,.non,r=>by cases (show u=.none from r);exact ⟨rfl,_,.none⟩
 | _,_,u,.bl b,r=>by cases (show u=.bool b from r);exact ⟨rfl,_,.bool b⟩
 | _,_,u,.int i,r=>by obtain ⟨t,e⟩:=(show ∃ t,u=.int i t from r);subst e;exact ⟨rfl,_,.int i t⟩
 | _,_,u,.str x,r=>by obtain ⟨t,e⟩:=(show ∃ t,u=.str x t from r);subst e;exact ⟨rfl,_,.str x t⟩
 | _,_,u,.lst (a:=a) (xs:=xs) e q,r=>by
  cases (show u=.ref a from r)
  obtain ⟨_,B,n,J,g⟩:=(show ObjOk P w H h a (.lst xs) from hok a _ e)
  obtain ⟨G,as,I⟩:=DatasOf.reads hok B q J
  exact ⟨by simpa [SY] using G,_,.list g rfl rfl (by simpa using I)⟩
 | _,_,u,.tup (a:=a) (xs:=xs) e q,r=>by
  cases (show u=.ref a from r)
  obtain ⟨_,B,J,o,g,c,n,d⟩:=(show ObjOk P w H h a (.tup xs) from hok a _ e)
  obtain ⟨G,as,I⟩:=DatasOf.reads hok B q J
  exact ⟨by simpa [SY] using G,_,.tuple g c d (by simpa using I)⟩
theorem DatasOf.reads (hok:HOk P w H h):∀{vs ds}(us:List Qb),DatasOf H vs ds->Vals vs us->JT ds=false/\∃ as,ReadsAll h us ds as
 | _,_,_,.nil,.nil=>⟨rfl,_,.nil⟩
 | _,_,_,.cons r t,.cons rv tv=>by
  obtain ⟨G,as,I⟩:=DataOf.reads hok _ r rv
  obtain ⟨J,bs,B⟩:=DatasOf.reads hok _ t tv
  exact ⟨by simp [JT,G,J],_,.cons I B⟩
end
end
section
variable {X:Cx}
theorem Yv (W:X.A.guards=some [])(hu:X.A.units+64 < TV):Yt X (.builtin "repr") (fun xs H Q=>∃ x d,xs=[x]/\DataOf H x d/\d.showable=true/\d.shown.length<=Qj/\d.depth<=60/\Q (.str d.shown) H):=by
 intro pins s σ H xs us Q I r h
 obtain ⟨x,d,rfl,dd,S,J,hd,q⟩:=h
 obtain ⟨u,rfl,ru⟩:=Yq r
 have B:∀ (t':Tok) (k:Nat),EP X pins σ Q (.str d.shown t') { s with toks:=k }:=fun t' k=>⟨.str _,H,I.tok k,⟨_,rfl⟩,q⟩
 obtain ⟨G,as,Z⟩:=DataOf.reads I.hok u dd ru
 cases Z with
 | none=>exact PySem.P.repr_of_none (B _ _)
 | bool b=>exact PySem.P.repr_of_bool (B _ _)
 | int i t=>exact PySem.P.repr_of_int (by simpa [PyData.showable] using S) (B _ _)
 | str x t=>exact PySem.P.repr_of_str (B _ _) J
 | list h1 h2 h3 h4=>exact repr_of_reads' (Reads.list h1 h2 h3 h4) S (fun z=>by rw [G] at z;cases z) W (by omega) (fun _ _ e=>e) (fun h' t' k U=>⟨.str _,H,I.kept (t':=k) U,⟨_,rfl⟩,q⟩) J
 | tuple h1 h2 h3 h4=>exact repr_of_reads' (Reads.tuple h1 h2 h3 h4) S (fun z=>by rw [G] at z;cases z) W (by omega) (fun _ _ e=>e) (fun h' t' k U=>⟨.str _,H,I.kept (t':=k) U,⟨_,rfl⟩,q⟩) J
 | dict h1 h2 h3 h4 h5=>cases G
end
def Def (P:Qi)(w:Qu)(K:Qa)(mg:Str->Option Qb)(base:Heap)(k:Nat)(x:Str)(ps:List Str)(sp:Sp):Prop :=
 ∃ f fd,FnOk P w K mg base ZF k f fd ps sp/\Binds K fd ps []/\GH K (.ref f)=true/\mg x=some (.ref f)
theorem Def.mono {P:Qi}{w:Qu}{K:Qa}{mg:Str->Option Qb}{base:Heap}{j k:Nat}{x:Str}{ps:List Str}{sp:Sp}(D:Def P w K mg base j x ps sp)(h:j<=k):Def P w K mg base k x ps sp :=
 let ⟨f,fd,F,b,kp,m⟩:=D;⟨f,fd,F.mono h,b,kp,m⟩
section
variable {X:Cx}{k:Nat}{x:Str}{ps:List Str}{sp:Sp}{p pos:Pos}{e:Expr}{es:List Expr}{t:TA}
theorem ZJ (D:Def X.prog X.w X.K X.mg X.base k x ps sp)(I:Room k X.A)(U:PA X (e::es) t)(J:Gl X x:=by rfl)(G:(x == ("__debug__":Str))=false:=by decide)
 (S:QA (e::es) X.env=(false,eval e X.env)::QA es X.env:=by rfl) (B:(GG pos (QA es X.env)).any (·.1)=false:=by rfl) :
 PE X (.Call (.Name x p) (e::es) [] pos) (ZgS sp [] E0 t):=by
 obtain ⟨f,fd,F,b,kp,m⟩:=D
 exact Zly F I J m kp b .nil Zdn U G S B
end
def Kp (p:Addr)(H H':Hp):Prop:=∀ q o,q≠p->H q=some o->H' q=some o
theorem Kp.trans {p:Addr}{H H1 H2:Hp}(a:Kp p H H1)(b:Kp p H1 H2):Kp p H H2:=fun q o n h=>b q o n (a q o n h)
theorem Kp.upd (p:Addr)(H:Hp)(o:HO):Kp p H (upd H p o):=fun q u n h=>by rw [Zg n];exact h
theorem Same.kp {H H':Hp}(a:Same H H')(p:Addr):Kp p H H':=fun q o _ h=>a q o h
theorem Zm {H:Hp}{p:Addr}(h:H p=none)(o:HO):Same H (upd H p o):=fun b u q=>by rw [Zg (Zr q h)];exact q
def BoxAt (H:Hp)(p:Addr)(n:Nat):Prop:=∃ a b c:Int,H p=some (.lst [.int a,.int b,.int c])/\0<=a/\0<=c/\c<=n
theorem BoxAt.same {H H':Hp}{p:Addr}{n:Nat}(h:BoxAt H p n)(s:Same H H'):BoxAt H' p n:=let ⟨a,b,c,e,r⟩:=h;⟨a,b,c,s _ _ e,r⟩
theorem BoxAt.le {H:Hp}{p:Addr}{n m:Nat}(h:BoxAt H p n)(l:n<=m):BoxAt H p m:=let ⟨a,b,c,e,h1,h2,h3⟩:=h;⟨a,b,c,e,h1,h2,by omega⟩
inductive VX (M:Int)(vs:List V)(H:Hp)(Q:VK)(w_3:XK):Prop
 | mk (p:Addr) (n:Nat) (m:Int):vs=[.ref p,.int m]->BoxAt H p n->n<=1000000->0 < m->m < M->(∀ (r:Int) (H':Hp),0<=r->r < m->BoxAt H' p (n+1)->Kp p H H'->Q (.int r) H')->VX M vs H Q w_3
inductive Zeq (K:Qa)(vs:List V)(H:Hp)(Q:VK)(w_3:XK):Prop
 | mk (a:Addr) (ns:List Int) (k:Int):vs=[.ref a,.int k]->SqL K H a (ns.map V.int)->0<=k->(∀ (r:Int),Q (.int r) H)->Zeq K vs H Q w_3
inductive ZgI (K:Qa)(vs:List V)(H:Hp)(Q:VK)(w_3:XK):Prop
 | mk (a:Addr) (ns:List Int) (k:Int):vs=[.ref a,.int k]->SqL K H a (ns.map V.int)->0<=k->k<=1000->(∀ (p:Addr) (H':Hp),H p=none->BoxAt H' p 0->Same H H'->Q (.ref p) H')->ZgI K vs H Q w_3
theorem Zgm {n:Nat}(h:n<=1000):n<=sizeLine:=Gu (ZiC h)
theorem Zbq:∀ (rest:List Str) (B:Array Nat),(rest.foldl (fun B p=>B++(Qw "").cps++p.cps) B).toList=B.toList++rest.flatMap (·.cps.toList)
 | [],B=>by simp
 | p::r,B=>by
  have e:(Qw "").cps=#[]:=by decide +kernel
  rw [Nn,Zbq r,Tw,e]
  simp
theorem WP:∀ ys:List Str,(Txt.join (Qw "") ys).cps.toList=ys.flatMap (·.cps.toList)
 | []=>rfl
 | y::r=>by
  show (List.foldl (fun B p=>B++(Qw "").cps++p.cps) y.cps r).toList=_
  rw [Zbq];rfl
theorem Ym (x:Str):x.length=x.cps.toList.length:=by simp [Str.length]
theorem Zix (s e:Int)(i j:Nat)(B:s=i)(I:e=j):sliceRange s e 1=(Pc (j - i)).map (i+·):=by
 subst B I
 unfold sliceRange
 simp only [show (1:Int) > 0 by decide,if_true]
 have G:(if (i:Int) < (j:Int) then ((j:Int) - i+1 - 1) / 1 else 0).toNat=j - i:=by
  split
  ·rw [Int.ediv_one];omega
  ·omega
 rw [G]
 apply PJ
 intro k J
 omega
theorem Uu (z:Str)(lo hi:Option Int):(Txt.slice z lo hi).cps.toList=(z.cps.toList.drop (HT.sIx z.length 0 lo)).take (HT.sIx z.length z.length hi - HT.sIx z.length 0 lo):=by
 have key:PU lo hi 1 z.length=(Pc (HT.sIx z.length z.length hi - HT.sIx z.length 0 lo)).map (HT.sIx z.length 0 lo+·):=by
  unfold PU
  refine Zix _ _ _ _ ?_ ?_
  ·cases lo with
   | none=>rfl
   | some i=>simp only [HT.sIx,show (1:Int) > 0 by decide,if_true];split<;>omega
  ·cases hi with
   | none=>rfl
   | some i=>simp only [HT.sIx,show (1:Int) > 0 by decide,if_true];split<;>omega
 have G:HT.sIx z.length z.length hi<=z.length:=HT.sIx_le _ _ (Qg _) hi
 unfold Txt.slice
 rw [key]
 split
 ·rename_i h
  simp only [beq_self_eq_true,Bool.true_and,length_map,List.length_range,beq_iff_eq] at h
  have h0:HT.sIx z.length 0 lo=0\/z.length=0:=by omega
  rcases h0 with h0 | h0
  ·rw [h0] at h ⊢
   rw [List.drop_zero,h,Ym,Sa]
  ·have e:z.cps.toList=[]:=eq_nil_of_length_eq_zero (by rw [<- Ym];exact h0)
   rw [e];simp
 ·show (List.filterMap (fun k=>z.cps[k]?) ((Pc _).map _)).toArray.toList=_
  rw [List.filterMap_map]
  generalize HT.sIx z.length 0 lo=i at *
  generalize HT.sIx z.length z.length hi - i=n at *
  have B:∀ (n i:Nat),List.filterMap ((fun k=>z.cps[k]?) ∘ (i+·)) (Pc n)=(z.cps.toList.drop i).take n:=by
   intro n
   induction n with
   | zero=>intro i;simp
   | succ n ih =>
    intro i
    rw [List.range_succ,List.filterMap_append,ih,JU,RX]
    congr 1
    simp only [Jz,Tk,Function.comp,SJ]
    cases z.cps[i+n]?<;>rfl
  rw [B]
theorem ZcE (x y:Str):(x++y).cps.toList=x.cps.toList++y.cps.toList:=by
 show (x.cps++y.cps).toList=_
 simp
theorem XT (x y:Str):(x++y).length=x.length+y.length:=by rw [Ym,ZcE,length_append,<- Ym,<- Ym]
def Zcm (c:Nat):Bool:=decide (97<=c)&&decide (c<=122)
def VP (c:Nat):Bool:=decide (32<=c)&&decide (c<=126)
theorem Zho {X:Cx}{K:Qa}(B:X.K=K):Yt X (.builtin "len") (fun xs H Q=>∃ x n,xs=[x]/\ZiX K x H n/\Q (.int n) H):=by subst B;exact Zjd
@[reducible] def notStar:Expr->Bool
 | .Starred ..=>false
 | _=>true
theorem ZkI {e:Expr}{es:List Expr}{env:Env}(h:notStar e=true):QA (e::es) env=(false,eval e env)::QA es env:=by
 cases e<;>first | rfl | cases h
section
variable {X:Cx}{k:Nat}{x:Str}{ps:List Str}{sp:Sp}{p pos:Pos}{e:Expr}{es:List Expr}{te:TE}{t:TA}
theorem Wd (G:PE X e te)(B:PA X es t)(h:notStar e=true):PA X (e::es) (XQ te t):=Yz G B (ZkI h)
theorem Zc (G:PE X e te)(B:PA X es t)(h:notStar e=true:=by rfl):PA X (e::es) (XQ te t):=Yz G B (ZkI h)
end
section
variable {X:Cx}
theorem ZjL:Xt X (JN .FloorDiv) (rI (fun _ j=>0 < j/\j < 2 ^ 62) fun i j=>.int (i / j)):=opI fun i j _ _ _ _ _ B q=>by
 have h1:(0:Int) < j:=B.1
 have h2:j < 2 ^ 62:=B.2
 refine floordiv_int (by omega) (by rw [Ju i (by omega)];exact q) (.inl (PyProof.noPylong_of_log2 ?_))
 have G:j.natAbs≠0:=by omega
 have I:j.natAbs < 2 ^ 9000:=QB (show j.natAbs < 2 ^ 62 by omega) (SZ (by decide) (by decide))
 exact (Ra G).mpr I
end
section
variable {X:Cx}
end
section
variable {X:Cx}{tg:Expr}
end
theorem Zbo {prog:Qi}{w:Qu}{A:Qz}{I:Addr}{G:List Addr}{n:Nat}{P:Nat->Qb->Prop}{St:Nat->Heap->Prop}(D:Draws prog w A I G n P St) :
 Draws prog w A I G (n+1) (fun i v=>∃ j,i=j+1/\P j v) (fun i h=>∃ j,i=j+1/\St j h) where
 live:=fun i h ⟨j,_,st⟩=>D.live j h st
 frame:=fun i h h' ⟨j,e,st⟩ k=>⟨j,e,D.frame j h h' st k⟩
 item:=fun i s Q E hi ⟨j,e,st⟩ J=>by
  subst e
  exact D.item j s Q E (by omega) st fun x h' tk p B U=>J x h' tk ⟨j,rfl,p⟩ ⟨j+1,rfl,B⟩ U
 done:=fun s Q E ⟨j,e,st⟩ S=>by
  have:n=j:=by omega
  subst this
  exact D.done s Q E st S
section
variable {prog:Qi}{w:Qu}{A:Qz}{E:Qb->Qd->Prop}{s:Qd}
theorem ZaT (x:Str)(t G:Tok) :
 Meets (Jq.«enumerate.__new__» ⟨[.type "enumerate",.str x t],[("start",.int 1 G)]⟩) (fun _ R s =>
  R (.ok (.ret (.ref (s.heap.push { cls:=.type (GP x),data:=.fields #[.str x t,.int 0 0] }).objs.size)))
   {s with heap:=(s.heap.push { cls:=.type (GP x),data:=.fields #[.str x t,.int 0 0] }).push { cls:=.type "enumerate",data:=.fields #[.none,.bool false,.ref s.heap.objs.size,Gb 1,.none,.none] } }) :=
 .of_wp fun prog w A R s h=>by
  obtain ⟨hp,g,d,tk,os⟩:=s
  have B:=sub_enumerate
  wp_walk
  refine wpAny_stack_any fun st=>Qx ?_
  split
  ·rename_i c _ _ _ _ _
   cases (c == RN "enumerate")<;>(wp_walk using Ow;exact ⟨_,rfl,h⟩)
  ·wp_walk using Ow
   exact ⟨_,rfl,h⟩
end
section
variable {prog:Qi}{w:Qu}{A:Qz}{E:Qb->Qd->Prop}{s:Qd}
theorem Zcp {T B:String}{G a:Qb}{I:List (Str×Qb)}(hl:QX (.type T) "__init__"=pure (some (.builtin "object.__init__")))
 (W:Bind.madeBy (.type T)=pure (some B)) (J:(some B != some "object.__new__")=true) :
 Meets (Jq.«object.__init__» ⟨[G,a],I⟩) (fun _ R s=>s.TypeIs G T/\R (.ok (.ret .none)) s):=by
 refine Meets.of_wp fun prog w A R s S=>?_
 obtain ⟨Z,U⟩:=S
 repeat (any_goals first | assumption | wp_step)
 exact ⟨_,rfl,U⟩
theorem ZdM {T J B:String}{Bn Bi:Jq}{args:List Qb}{Z:List (Str×Qb)}{S:PySem.Spec}{Q Q₁:Qb->Qd->Prop}(ft:TypeCalled T J B)
 (hct:checkTypeCall T ⟨args,Z⟩=pure ()) (hcn:Gr J ⟨.type T::args,Z⟩=pure ())
 (U:entryFor table J=some Bn) (W:entryFor table B=some Bi) (g:Meets (Bn ⟨.type T::args,Z⟩) S) (h:S A.in1 (wants Q₁ E) s)
 (hnext:∀ obj G,Q₁ obj G->G.TypeIs obj T/\argsOk B ⟨obj::args,Z⟩/\∃ Si,Meets (Bi ⟨obj::args,Z⟩) Si/\Si A.in1 (wants (fun r s₂=>r=.none/\Q obj s₂) E) G) :
 Qq (Qt prog w) A (call (.type T) args Z) Q E s:=by
 obtain ⟨c,tl,hmro⟩:=ft.mro
 have q1:=ft.made
 have q2:=ft.sub
 refine Jg (No (show Qq _ _ (callAny (.type T) _) _ _ _ from Qx ⟨JH _ (by decide +kernel),PF F.entry_type_call ?_⟩))
 rw [Around.under_plain (weight_type_call_type T args Z) (units_type_call_type T args Z)]
 have q3:=ft.notType
 have q4:=ft.canCreate
 repeat (any_goals first | assumption | wp_step)
 refine Ge (GQ ft.plain U (Rb hcn (g prog w A.in1 _ s h))) fun r G hr=>?_
 rcases r with e | fl
 ·exact hr
 ·cases fl with
  | ret obj =>
   obtain ⟨hT,hok,Si,gi,hsi⟩:=hnext _ _ hr
   have q5:=ft.init.lookup
   have q6:=ft.init.bind obj
   repeat (any_goals first | assumption | wp_step)
   refine Ge (GQ ft.init.plain W (ft.init.check _ _ _ _ _ _ _ _ hT hok (gi prog w A.in1 _ G hsi))) fun r₂ s₂ I=>?_
   rcases r₂ with e | fl₂
   ·exact I
   ·cases fl₂ with
    | ret r =>
     obtain ⟨rfl,hq⟩:=I
     repeat (any_goals first | assumption | wp_step)
    | _=>exact I.elim
  | _=>exact hr.elim
theorem Vw (a b:Qb):checkTypeCall "enumerate" ⟨[a],[("start",b)]⟩=pure ():=by kernel_rfl
theorem VH (a b:Qb):Gr "enumerate.__new__" ⟨[.type "enumerate",a],[("start",b)]⟩=pure ():=by kernel_rfl
theorem Zbs (o a b:Qb):argsOk "object.__init__" ⟨[o,a],[("start",b)]⟩:=by
 unfold argsOk
 rw [signature?_of (id:="object.__init__") (n:=['_','_','t','i','n','i','_','_']) (o:=['t','c','e','j','b','o']) (by kernel_rfl) F.owner_object]
 kernel_rfl
theorem Zbj {x:Str}{t Z:Tok}{Q:Qb->Qd->Prop}
 (h:∀ h',IsEnum h' (s.heap.objs.size+1) s.heap.objs.size 1 .none->h'.IsStrIter s.heap.objs.size (GP x) x t 0->h'.objs.size=s.heap.objs.size+2 ->
  (∀ b o,s.heap.get? b=some o->h'.get? b=some o)->Q (.ref (s.heap.objs.size+1)) { s with heap:=h' }) :
 Qq (Qt prog w) A (call (.type "enumerate") [.str x t] [("start",.int 1 Z)]) Q E s:=by
 have ft:=F.called_enumerate
 refine ZdM (Q₁:=fun obj B=>B.TypeIs obj "enumerate"/\Q obj B) ft (Vw _ _) (VH _ _) F.entry_enumerate_new F.entry_object_init (ZaT x t Z) ?_
  (fun obj B U=>⟨U.1,Zbs obj _ _,_,Zcp ft.init.lookup ft.made (by decide),U.1,rfl,U.2⟩)
 generalize W:({ cls:=.type (GP x),data:=.fields #[.str x t,.int 0 0] }:Obj)=O
 have J:(s.heap.push O).objs.size=s.heap.objs.size+1:=Jv ..
 generalize G:({ cls:=.type "enumerate",data:=.fields #[.none,.bool false,.ref s.heap.objs.size,Gb 1,.none,.none] }:Obj)=I
 have S:((s.heap.push O).push I).get? (s.heap.objs.size+1)=some I:=by
  have e:=Qo (s.heap.push O) (o:=I) (by rw [<- G];rfl)
  rw [J] at e;exact e
 have hi:((s.heap.push O).push I).get? s.heap.objs.size=some O:=Qe _ (Qo _ (by rw [<- W];rfl))
 have key:RG { s with heap:=(s.heap.push O).push I } (.ref (s.heap.objs.size+1)) "enumerate"/\Q (.ref (s.heap.objs.size+1)) { s with heap:=(s.heap.push O).push I }:=by
  refine ⟨⟨I,S,by rw [<- G]⟩,h _ (by rw [<- G] at S ⊢;exact S) ⟨O,hi,by rw [<- W],by rw [<- W];rfl⟩ (by rw [Jv,J]) fun b o y=>Qe _ (Qe _ y)⟩
 rw [<- J] at key
 exact key
end
theorem Inv.turned2 {X:Cx}{pins:List (Addr×Obj)}{σ:St}{H:Hp}{s:Qd}{h':Heap}{t':Nat}{J:List Addr}(I:Inv X pins σ H s)(k:∀ b o,b ∉ J->s.heap.get? b=some o->h'.get? b=some o)(S:∀ b∈J,Wo X pins H b) :
 Inv X pins σ H { s with heap:=h',toks:=t' }:=by
 have G:∀ b u,H b=some u->b ∉ J:=fun b u e z=>by rw [(S b z).1] at e;cases e
 refine I.step (g':=s.gens) (d':=s.drawn) (ch:=J) (fun b hb=>?_) (fun b o _ _ B e _=>k b o B e) (fun b o _ _ B e _=>⟨o.slots,k b o B e⟩) (fun _ _ _ _ n=>n)
  (fun b o B e=>⟨o,k b o B e⟩) (fun _ _ e=>e) (fun _ _ _ e=>e) (fun b ps e=>⟨#[],by rw [e];simp⟩) (fun m hm=>?_) (fun b u e=>?_) I.bare
 ·obtain ⟨f0,U,f2,f3,W,Z⟩:=S b hb
  exact ⟨f3,U,W,Z⟩
 ·obtain ⟨o,es,ep,ho,r⟩:=hm
  exact ⟨o,es,ep,k _ o (fun z=>(S _ z).2.1 rfl) ho,r⟩
 ·refine (I.hok b u e).stay (fun c v B q=>k c v ?_ q) (fun _ q=>q) fun _ _ q=>q
  rcases B with z | z
  ·rw [z];exact G b u e
  ·exact G c _ z
theorem ZcL {prog:Qi}{w:Qu}{A:Qz}(G:A.handled=none)(B:Addr)(x:Str)(t:Tok) :
 Draws prog w A B [B] x.cps.size (fun i v=>∃ c u,x.cps[i]?=some c/\v=.str ⟨#[c]⟩ u) (fun i h=>h.IsStrIter B (GP x) x t i):=by
 cases ha:x.cps.all (· < 128)
 ·have e:GP x="str_iterator":=by simp [GP,ha]
  rw [e];exact Draws.strWide G B x t
 ·have e:GP x="str_ascii_iterator":=by simp [GP,ha]
  rw [e];exact Draws.strAscii G B x t
def Ite (x:Str):It:=⟨fun i _=>i < x.cps.size,fun i H v H'=>∃ t c,H t=none/\x.cps[i]?=some c/\v=.ref t/\H'=upd H t (.tup [.int ((i:Int)+1),.str ⟨#[c]⟩]),fun i _=>x.cps.size<=i⟩
theorem ZiQ {P:Qi}{w:Qu}{K:Qa}{elts:List Expr}{x1:Nat}{tp:Pos}(x:Str)(t:Tok)(e B:Addr)(Z:e≠B) :
 ZaJ P w K (.Tuple elts x1 tp) (Ite x) [e,B] e (fun i h=>(∃ old,IsEnum h e B ((i:Int)+1) old)/\h.IsStrIter B (GP x) x t i/\i<=x.cps.size) where
 mem:=by simp
 obj:=fun i h st b hb=>by
  obtain ⟨⟨old,G⟩,⟨o,S,c,d⟩,_⟩:=st
  rcases mem_cons.mp hb with q | hb
  ·rw [q];exact ⟨_,G,fun v z=>by cases z⟩
  ·rw [mem_singleton.mp hb];exact ⟨o,S,fun v z=>by rw [d] at z;cases z⟩
 keep:=fun i h h' st k=>by
  obtain ⟨⟨old,G⟩,⟨o,S,r⟩,hi⟩:=st
  exact ⟨⟨old,k e (by simp) _ G⟩,⟨o,k B (by simp) o S,r⟩,hi⟩
 item:=by
  intro X hP hw hK hc i pins s σ H E I hf st hg
  subst hP hw hK
  obtain ⟨⟨old,G⟩,hs,hi⟩:=st
  have hlt:i < x.cps.size:=hg
  have D:=Zbo (ZcL (prog:=X.prog) (w:=X.w) (A:=X.A.in1) (I.ok.hd hc) B x t)
  refine wpAny_pyNext_enum_itemD (i:=i+1) D (show IsEnum s.heap e B ((i+1:Nat):Int) old from G) ⟨i,rfl,hs⟩ (by omega) Z (by simpa using Z) fun v h' tk hP hOut J hT hsz hk=>?_
  obtain ⟨j,ej,c,u,hcc,rfl⟩:=hP
  have U:i=j:=by omega
  subst U
  obtain ⟨j,ej,J⟩:=J
  have U:i+1=j:=by omega
  subst U
  have hel:e < s.heap.objs.size:=Qh G
  have hil:B < s.heap.objs.size:=by obtain ⟨o,S,_⟩:=hs;exact Qh S
  refine ⟨_,rfl,wpAny_letOwnedTupleGo_enum hOut fun h2 he2 hs2=>?_⟩
  generalize hO:({ cls:=.type "tuple",data:=.seq #[.int ((i+1:Nat):Int) tk,.str ⟨#[c]⟩ u] }:Obj)=O at hT
  have I1:Inv X pins σ (upd H s.heap.objs.size (.tup [.int ((i:Int)+1),.str ⟨#[c]⟩])) { s with heap:=s.heap.push O,toks:=tk+1 }:=by
   refine I.laid (t':=tk+1) (fun b o y=>Qe _ y) (Qg _) (show ObjOk X.prog X.w _ _ _ (.tup _) from ⟨by show 2<=Qj;decide,[.int ((i+1:Nat):Int) tk,.str ⟨#[c]⟩ u],.cons ⟨tk,rfl⟩ (.cons ⟨u,rfl⟩ .nil),?_⟩)
   rw [<- hO];exact IsTup.new _ _
  have W:=I.hok.fresh (Qg s.heap.objs.size)
  have hf2:∀ b∈[e,B],Wo X pins (upd H s.heap.objs.size (.tup [.int ((i:Int)+1),.str ⟨#[c]⟩])) b:=fun b hb=>by
   obtain ⟨f0,f1⟩:=hf b hb
   have hb':b≠s.heap.objs.size:=by
    rcases mem_cons.mp hb with q | hb
    ·rw [q];exact Qy hel
    ·rw [mem_singleton.mp hb];exact Qy hil
   exact ⟨by rw [Zg hb'];exact f0,f1⟩
  have I2:Inv X pins σ (upd H s.heap.objs.size (.tup [.int ((i:Int)+1),.str ⟨#[c]⟩])) { s with heap:=h2,toks:=tk+1 }:=by
   refine I1.turned2 (t':=tk+1) (h':=h2) (fun b o hb y=>?_) hf2
   have hbe:b≠e:=fun q=>hb (by simp [q])
   have hbi:b≠B:=fun q=>hb (by simp [q])
   rw [hs2.2 b hbe]
   rcases Heap.get?_push_cases y with ⟨q1,q2⟩ | y
   ·rw [q1,q2];exact hT
   ·exact hk b o hbe hbi y
  refine ⟨.ref s.heap.objs.size,_,I2,rfl,⟨s.heap.objs.size,c,W,hcc,rfl,rfl⟩,⟨⟨_,he2⟩,?_,hlt⟩,fun b hb=>(hf2 b hb).1⟩
  obtain ⟨o,S,r⟩:=J
  exact ⟨o,by rw [hs2.2 B Z.symm];exact S,r⟩
 done:=by
  intro X hP hw hK hc i pins s σ H E I hf st hg
  subst hP hw hK
  obtain ⟨⟨old,G⟩,hs,hi⟩:=st
  have hle:x.cps.size<=i:=hg
  have D:=Zbo (ZcL (prog:=X.prog) (w:=X.w) (A:=X.A.in1) (I.ok.hd hc) B x t)
  have ei:i=x.cps.size:=by omega
  rw [ei] at hs
  obtain ⟨f0,f1,f2,f3,f4,f5⟩:=hf B (by simp)
  exact wpAny_pyNext_enum_endD D G ⟨_,rfl,hs⟩ fun h' eb=>⟨rfl,I.turned (t':=s.toks) (fun b o hb y=>eb b o hb y) f0 f1 f3 f4 f5⟩
 self:=fun _ _ _ _ _ st h=>by
  obtain ⟨⟨old,G⟩,_⟩:=st
  exact Ox G h
theorem ZaL {M:RB}{A:Qz}{E:Qb->Qd->Prop}{s:Qd}{pos:Pos}{T:String}{args:List (Bool×Sem Qb)}{kws:List (Option Str×Sem Qb)}{Q:Qb->Qd->Prop}
 (h1:args.any (·.1)=false) (h2:kws.any (·.1.isNone)=false)
 (h:Qq M A (evalArgs (.type T) true args kws) (fun a B=>Qq M A (call (.type T) a.pos a.kw) Q E B) E s):Qq M A (TW pos (.type T) [] args kws) Q E s:=by
 unfold TW
 refine Qf (Gf (Zt h fun a B q=>Qf (GD ?_)))
 simp only [h1,h2,Bool.or_false]
 refine Qf (Qx (Qf (Zt q fun r G I=>?_)))
 exact Qf (Gf (wpAny_point (Qx I)))
def ZmD (tl:TE):TI:=fun σ H R=>tl σ H fun v H1=>∃ x,[v]=[V.str x]/\R (Ite x) H1
section
variable {X:Cx}
theorem ZjS {l:Expr}{tl:TE}{G:List Expr}{x1 j:Nat}{tp p pos kp kpos:Pos}(hg:Gl X "enumerate")(hm:X.mg "enumerate"=none)(hl:PE X l tl)
 (W:QA [l] X.env=[(false,eval l X.env)]:=by rfl):PI X (.Tuple G x1 tp) (.Call (.Name "enumerate" p) [l] [⟨some "start",.Constant (.int 1) j kp,kpos⟩] pos) (ZmD tl):=by
 intro pins s σ H R I h
 have ha:PA X [l] (XQ tl XS):=Yz hl Za W
 have hk:PK X [⟨some "start",.Constant (.int 1) j kp,kpos⟩] (XQ (tC (.int 1)) XS):=ZlG Zh Znq
 refine QR (UD I hg hm boot_enumerate (ZaL (by rw [W];rfl) rfl (evalArgs_kw2 rfl ?_ W)))
 refine Zt (ha pos pins s σ H (fun vs H1=>∃ x,vs=[V.str x]/\R (Ite x) H1) I h) fun us s1 S=>?_
 obtain ⟨vs,H1,I1,r1,x,e,q⟩:=S
 subst e
 obtain ⟨u,rfl,t,rfl⟩:=Yq r1
 refine Zt (hk pos pins s1 σ H1 (fun vs H2=>vs=[V.int 1]/\H2=H1) I1 ⟨rfl,rfl⟩) fun ws s2 S=>?_
 obtain ⟨zs,H2,B,r2,e1,e2⟩:=S
 subst e1 e2
 obtain ⟨u',rfl,t',rfl⟩:=Yq r2
 refine Zbj fun h' Z U hsz J=>Ox Z ?_
 refine ⟨s2.heap.objs.size+1,[s2.heap.objs.size+1,s2.heap.objs.size],_,_,H2,rfl,B.kept (t':=s2.toks) J,ZiQ x t _ _ (Nat.succ_ne_self _),⟨⟨_,Z⟩,U,QC _⟩,fun b hb=>?_,q⟩
 rcases mem_cons.mp hb with z | hb
 ·rw [z];exact B.fpOk (Jc _) (B.hok.fresh (Jc _))
 ·rw [mem_singleton.mp hb];exact B.fpOk (Qg _) (B.hok.fresh (Qg _))
end
theorem Zjk {x:Str}{g:TG}{tb:TS}{D:Yl}{σ:St}{H:Hp}(B:Nat->St->Hp->Prop)(h0:B 0 σ H)
 (hs:∀ i c t σ H,x.cps[i]?=some c->H t=none->B i σ H->g (.ref t) σ (upd H t (.tup [.int ((i:Int)+1),.str ⟨#[c]⟩])) fun G H2=>tb { D with nx:=B (i+1),ct:=B (i+1),bk:=D.nx } G H2) (hd:∀ σ H,B x.cps.size σ H->D.nx σ H) :
 ∃ W:Nat->Nat->St->Hp->Prop,(∃ m,W 0 m σ H)/\∀ i m σ H,W i m σ H ->
  ((Ite x).stop i H/\D.nx σ H)\/((Ite x).go i H/\∃ N:St->Hp->Prop,(∀ I H',N I H'->∃ S,S < m/\W (i+1) S I H')/\∀ y H',(Ite x).yld i H y H'->g y σ H' fun G H2=>tb { D with nx:=N,ct:=N,bk:=D.nx } G H2):=by
 refine ⟨fun i m σ H=>m=x.cps.size - i/\i<=x.cps.size/\B i σ H,⟨x.cps.size,by simp,QC _,h0⟩,?_⟩
 rintro i m σ H ⟨rfl,hi,p⟩
 by_cases J:i < x.cps.size
 ·refine .inr ⟨J,B (i+1),fun I H' p'=>⟨x.cps.size - (i+1),by omega,rfl,J,p'⟩,fun y H' z=>?_⟩
  obtain ⟨t,c,e1,Z,e3,U⟩:=z
  subst e3 U
  exact hs i c t σ _ Z e1 p
 ·have e:i=x.cps.size:=by omega
  subst e
  exact .inl ⟨Qg _,hd σ H p⟩
end L2
namespace L2
open PySem PySem.W PySem.Spec PyProof.Rows
def ZaI (ks:List Str)(vs out:List Qb):Prop:=∃ ps:List (Str×Qb),ps.Perm (ks.zip vs)/\out=ps.map (·.2)/\ps.Pairwise fun p q=>¬ (q.1.cps.toList < p.1.cps.toList)
theorem ZeG:∀{keys:List Qb}{ks:List Str}(_:Pi keys ks)(vs:List Qb),(keys.zip vs).map (fun p=>(strOf p.1,p.2))=ks.zip vs
 | _,_,.nil,vs=>rfl
 | _,_,.cons x t h,[]=>rfl
 | _,_,.cons x t h,v::vs=>by
  rw [List.zip_cons_cons,map_cons,ZeG h vs];rfl
theorem ZjM {keys:Array Qb}{vs:List Qb}{ks:List Str}(U:Pi keys.toList ks){xs:Array Keyed}(hp:xs.Perm (keys.zip vs.toArray))(hs:SortedToK strKind xs xs.size):ZaI ks vs (xs.map (·.2)).toList:=by
 have Z:xs.toList.Perm (keys.toList.zip vs):=by
  have:=Array.perm_iff_toList_perm.mp hp
  rwa [ksk_zip] at this
 refine ⟨xs.toList.map fun p=>(strOf p.1,p.2),?_,?_,?_⟩
 ·have:=Z.map fun p=>(strOf p.1,p.2)
  rwa [ZeG U] at this
 ·rw [Array.toList_map,map_map];rfl
 ·rw [JV,List.pairwise_iff_getElem]
  intro i j hi hj J
  have S:i < xs.size:=by simpa using hi
  have G:j < xs.size:=by simpa using hj
  have B:∀ m (W:m < xs.size),KK strKind xs m=(strOf xs[m].1).cps.toList:=fun m W=>by
   have I:xs[m]∈keys.toList.zip vs:=Z.mem_iff.mp (by simp)
   have h1:=(of_mem_zip (show (xs[m].1,xs[m].2)∈_ from I)).1
   obtain ⟨x,t,e⟩:=U.all _ h1
   rw [KK_str W (x:=x) (t:=t) (q:=xs[m].2) (by rw [<- e])]
   rw [e];rfl
  have h:=hs i j (Gu J) G
  rw [B i S,B j G] at h
  simpa [KeyOrd.kle] using h
theorem ZhM {keys:Array Qb}{vs:List Qb}{ks:List Str}(B:Pi keys.toList ks):KeysOf strKind (keys.zip vs.toArray):=by
 intro p hp
 rw [ksk_zip] at hp
 obtain ⟨x,t,e⟩:=B.all _ (of_mem_zip (show (p.1,p.2)∈_ from hp)).1
 exact ⟨x.cps.toList,by rw [e]⟩
theorem ZhN {keys:Array Qb}{ks:List Str}(B:Pi keys.toList ks)(h2:2<=keys.size):keyKind' keys=pure oneType':=by
 obtain ⟨l⟩:=keys
 match l,B,h2 with
 | [],_,h2=>simp at h2
 | [_],_,h2=>simp at h2
 | v₁::v₂::r,B,_=>exact keyKind_strs B
theorem ZcY {x:Str}{t:Tok}:∀{vs:List Qb}{B:List Str},Pi vs B->Pi (vs++[.str x t]) (B++[x])
 | _,_,.nil=>.cons x t .nil
 | _,_,.cons y u h=>.cons y u (ZcY h)
section
variable {prog:Qi}{w:Qu}{A:Qz}{E:Qb->Qd->Prop}{s:Qd}{a kS:Addr}{vs:List Qb}{ks:List Str}{keys:Array Qb}{e e1:Nat}{P:Rp->Qd->Prop}
theorem ZbM {st:SortSt}(nk:s.heap.get? kS=some (Gj "list" keys e))(na:s.heap.get? a=some (Gj "list" #[] e1))(J:kS≠a)(hk:Pi keys.toList ks)(hlen:ks.length=vs.length)(h64:vs.length < 64)
 (hp:(RH st).Perm (keys.zip vs.toArray)) (hs:SortedToK strKind (RH st) (RH st).size) (Z:failedOf st=none)
 (h:∀ h' tk I c,(∀ b o,b≠a->b≠kS->s.heap.get? b=some o->h'.get? b=some o)->h'.get? a=some (Gj "list" I c)->ZaI ks vs I.toList->P (.done (.ret .none)) { s with heap:=h',toks:=tk }) :
 Qq (Qt prog w) A (ksk_tail a false e1 (.ref kS) st) P E s:=by
 have hsz:keys.size=vs.length:=by have:=hk.length;rw [GV] at this;omega
 have G:(RH st).size=vs.length:=by rw [hp.size_eq,Array.size_zip,hsz,size_toArray,Oy]
 have s1:=JA s.heap kS (QY fun _=>(#[]:Array Qb))
 have B:(s.heap.update kS (QY fun _=>(#[]:Array Qb))).get? a=some (Gj "list" #[] e1):=(s1.2 a J.symm).trans na
 have s2:=JA (s.heap.update kS (QY fun _=>(#[]:Array Qb))) a (QY fun _=>(RH st).map (·.2))
 obtain ⟨W,hc2⟩:∃ W,((s.heap.update kS (QY fun _=>(#[]:Array Qb))).update a (QY fun _=>(RH st).map (·.2))).get? a=some (Gj "list" ((RH st).map (·.2)) W):=⟨_,Sw B fun _=>(RH st).map (·.2)⟩
 unfold ksk_tail
 try dsimp only
 refine Qf (TM nk rfl ?_ (by rw [hsz,QV];omega) (QC _))
 refine Qf (wpAny_letGo (Qf (seqEpoch_at B rfl ?_)))
 refine Qf (TM B rfl ?_ (QC _) (Qr (Je (show ((RH st).map (·.2)).size=vs.length by rw [Array.size_map];exact G)) (by rw [QV];omega)))
 rw [Z]
 simp only [bne_self_eq_false,Gq,if_false]
 exact Qx (h _ _ _ W (fun b o U S y=>(s2.2 b U).trans ((s1.2 b S).trans y)) hc2 (ZjM hk hp hs))
theorem ZiD (nk:s.heap.get? kS=some (Gj "list" keys e))(na:s.heap.get? a=some (Gj "list" #[] e1))(S:kS≠a)(U:Pi keys.toList ks)(G:ks.length=vs.length)(J:vs.length < 64)
 (h:∀ h' tk W c,(∀ b o,b≠a->b≠kS->s.heap.get? b=some o->h'.get? b=some o)->h'.get? a=some (Gj "list" W c)->ZaI ks vs W.toList->P (.done (.ret .none)) { s with heap:=h',toks:=tk }) :
 Qq (Qt prog w) A (ksk_end a false vs.toArray e1 (.ref kS) keys) P E s:=by
 have hsz:keys.size=vs.length:=by have:=U.length;rw [GV] at this;omega
 have I:(keys.zip vs.toArray).size=vs.length:=by rw [Array.size_zip,hsz,size_toArray,Oy]
 unfold ksk_end
 simp only [Gq,if_false]
 by_cases h2:vs.toArray.size < 2
 ·rw [if_pos h2,if_pos h2]
  refine Qf (Qx ?_)
  rw [StateT.run_pure]
  refine Qf (Qx ?_)
  try dsimp only
  refine ZbM (st:=SortSt.mk' general' (keys.zip vs.toArray) #[] 7 none) nk na S U G J (Np _) ?_ rfl h
  intro i j hij hj
  have Z:j < (keys.zip vs.toArray).size:=hj
  rw [I] at Z
  rw [size_toArray] at h2
  have:i=j:=by omega
  subst this
  exact KeyOrd.kle_refl _
 ·rw [if_neg h2,if_neg h2]
  rw [size_toArray] at h2
  rw [ZhN U (by rw [hsz];omega)]
  refine Qf (Qx (Qf (QP (wpS_sortRunsK (κ:=strKind) strKind_oneLt (a₀:=keys.zip vs.toArray) (st:=SortSt.mk' oneType' (keys.zip vs.toArray) #[] 7 none)
   (Q:=fun _ B=>(RH B).Perm (keys.zip vs.toArray)/\failedOf B=none/\SortedToK strKind (RH B) (keys.zip vs.toArray).size)
   (ZhM U) ⟨Np _,rfl,rfl,rfl⟩ (by rw [I];omega) (by rw [I];exact J) fun B a1 a2 a3=>⟨a1,a2,a3⟩) ?_ fun _ _ y=>y)))
  rintro ⟨⟨⟩,B⟩ s' ⟨rfl,hp,hf,hs⟩
  try dsimp only
  exact ZbM nk na S U G J hp (by rw [hp.size_eq];exact hs) hf h
def Zcc (prog:Qi)(w:Qu)(A:Qz)(s:Qd)(a:Addr)(f:Qb)(vs:List Qb)(ks:List Str):Prop :=
 ∀ (i:Nat) (v:Qb) (k:Str),vs[i]?=some v->ks[i]?=some k->∀ (h:Heap) (tk:Nat),(∀ b o,b≠a->s.heap.get? b=some o->h.get? b=some o)->s.heap.objs.size<=h.objs.size->∀ Q':Qb->Qd->Prop,
  (∀ h' tk' t,(∀ b o,h.get? b=some o->h'.get? b=some o)->h.objs.size<=h'.objs.size->Q' (.str k t) { s with heap:=h',toks:=tk' })->Qq (Qt prog w) A (call f [v]) Q' (fun _ _=>False) { s with heap:=h,toks:=tk }
theorem ZgG {f:Qb}{s0:Qd}(hs0:∃ tk,s={ s0 with heap:=s.heap,toks:=tk })(k0:∀ b o,b≠a->s0.heap.get? b=some o->s.heap.get? b=some o)(z0:s0.heap.objs.size<=s.heap.objs.size)(hkn:s0.heap.objs.size<=kS)
 (nk:s.heap.get? kS=some (Gj "list" #[] 0)) (na:s.heap.get? a=some (Gj "list" #[] e1)) (Z:kS≠a) (hlen:ks.length=vs.length) (h64:vs.length < 64) (turn:Zcc prog w A s0 a f vs ks)
 (h:∀ h' tk S c,(∀ b o,b≠a->s0.heap.get? b=some o->h'.get? b=some o)->h'.get? a=some (Gj "list" S c)->ZaI ks vs S.toList->P (.done (.ret .none)) { s0 with heap:=h',toks:=tk }) :
 Qq (Qt prog w) A (ksk_rest a f false vs.toArray e1 (.ref kS)) P E s:=by
 obtain ⟨tk0,hs0⟩:=hs0
 unfold ksk_rest
 refine Qf (wpAny_rule ?_)
 first
  | rw [List.forIn_toArray]
  | (rw [<- Array.forIn_toList];simp only [List.toList_toArray])
 refine Qf (ksk_fold (fun i s'=>∃ h' tk G c,s'={ s0 with heap:=h',toks:=tk }/\(∀ b o,b≠a->s0.heap.get? b=some o->h'.get? b=some o)/\s0.heap.objs.size<=h'.objs.size/\h'.get? kS=some (Gj "list" G c)/\h'.get? a=some (Gj "list" #[] e1)/\Pi G.toList (ks.take i)) vs 0 s
  ⟨s.heap,tk0,#[],0,hs0,k0,z0,nk,na,by simpa using StrsAre.nil⟩ ?step ?done)
 case step =>
  rintro j x s' hx ⟨h',tk,G,c,rfl,k1,z1,J,U,W⟩
  simp only [Nat.zero_add] at W ⊢
  have hj:j < vs.length:=(Qk.mp hx).1
  obtain ⟨k,hkj⟩:∃ k,ks[j]?=some k:=⟨_,getElem?_eq_getElem (by omega)⟩
  have hz:G.size<=vs.length:=by
   have h1:=W.length
   rw [GV,length_take] at h1
   omega
  refine Qf (wpAny_attempt (QP (turn j x k hx hkj h' tk k1 z1 (fun v s''=>∃ g I B,v=.str k B/\s''={ s0 with heap:=g,toks:=I }/\(∀ b o,h'.get? b=some o->g.get? b=some o)/\h'.objs.size<=g.objs.size) (fun g I B q z=>⟨g,I,B,rfl,rfl,q,z⟩)) (fun v s'' he=>?_) fun _ _ hF=>hF.elim))
  obtain ⟨g,I,B,rfl,rfl,k2,z2⟩:=he
  try dsimp only
  have nk2:=k2 _ _ J
  have na2:=k2 _ _ U
  have s1:=JA g kS (QY (·.push (.str k B)))
  obtain ⟨c2,hc2⟩:∃ c2,(g.update kS (QY (·.push (.str k B)))).get? kS=some (Gj "list" (G.push (.str k B)) c2):=⟨_,Sw nk2 (·.push (.str k B))⟩
  have ek:ks.take (j+1)=ks.take j++[k]:=by rw [JU,hkj];simp
  have ea:(G.push (PY k B)).toList=G.toList++[PY k B]:=by simp
  refine Qf (TM nk2 rfl ?_ (by rw [QV];omega) (Qr (Je (Array.size_push ..)) (by rw [QV];omega)))
  refine Qx ⟨rfl,_,_,G.push (.str k B),c2,rfl,fun b o hb y=>?_,Qr (Qr z1 z2) (Je (Sb ..).symm),hc2,(s1.2 a Z.symm).trans na2,by rw [ea,ek];exact ZcY W⟩
  exact (s1.2 b (fun z=>by rw [z] at y;exact absurd (Qh y) (QS.mpr hkn))).trans (k2 _ _ (k1 b o hb y))
 case done =>
  rintro s' ⟨h',tk,G,c,rfl,k1,z1,J,U,W⟩
  have hk':Pi G.toList ks:=by
   have e3:ks.take (0+vs.length)=ks:=GA (by omega)
   rw [e3] at W
   exact W
  try dsimp only
  refine Qf (listItems_at J rfl ?_)
  refine ZiD J U Z hk' hlen h64 fun h3 tk3 S c3 k3 a3 o3=>h h3 tk3 S c3 (fun b o hb y=>k3 b o hb (fun z=>?_) (k1 b o hb y)) a3 o3
  rw [z] at y
  exact absurd (Qh y) (QS.mpr hkn)
theorem ZgH {f:Qb}{n:Nat}(U:s.heap.get? a=some (Gj "list" vs.toArray n))(G:ks.length=vs.length)(W:vs.length < 64)(I:Zcc prog w A s a f vs ks)
 (h:∀ h' tk S c,(∀ b o,b≠a->s.heap.get? b=some o->h'.get? b=some o)->h'.get? a=some (Gj "list" S c)->ZaI ks vs S.toList->P (.done (.ret .none)) { s with heap:=h',toks:=tk }) :
 Qq (Qt prog w) A (ksk_tree a f false) P E s:=by
 have Z:a < s.heap.objs.size:=Qh U
 have s1:=JA s.heap a (QY fun _=>(#[]:Array Qb))
 obtain ⟨e1,J⟩:∃ e1,(s.heap.update a (QY fun _=>(#[]:Array Qb))).get? a=some (Gj "list" #[] e1):=⟨_,Sw U fun _=>#[]⟩
 have B:((s.heap.update a (QY fun _=>(#[]:Array Qb))).push (Gj "tuple" vs.toArray 0)).objs.size=s.heap.objs.size+1:=by rw [RY,Sb]
 unfold ksk_tree
 refine Qf (listItems_at U rfl ?_)
 refine Qf (TM U rfl ?_ (by rw [size_toArray,QV];omega) (QC _))
 refine Qf (seqEpoch_at J rfl (Qf (wpAny_newTuple ?_ (by show vs.length<=_;rw [QV];omega))))
 refine Qf (wpAny_newList ?_ (QC _))
 refine Gf ?_
 refine ZgG (s0:=s) (s:={ s with heap:=((s.heap.update a (QY fun _=>(#[]:Array Qb))).push (Gj "tuple" vs.toArray 0)).push (Gj "list" #[] 0) }) (kS:=((s.heap.update a (QY fun _=>(#[]:Array Qb))).push (Gj "tuple" vs.toArray 0)).objs.size)
  ⟨s.toks,rfl⟩ (fun b o hb y=>Qe _ (Qe _ ((s1.2 b hb).trans y))) ?_ (by rw [B];exact Jc _) (Qo _ rfl) (Qe _ (Qe _ J)) (by rw [B];exact Jd (JW Z)) G W I h
 show s.heap.objs.size<=(((s.heap.update a _).push _).push _).objs.size
 rw [RY,B];omega
theorem ZlT {f:Qb}{l:Addr}{Q:Qb->Qd->Prop}(hl:s.heap.IsList l vs.toArray)(S:ks.length=vs.length)(Z:vs.length < 64)(ht:∀ x,Jq.«list.sort» ⟨[.ref x],[(Qw "key",f)]⟩=ksk_tree x f false)
 (J:∀ (h1:Heap) (W:Nat),(∀ b o,s.heap.get? b=some o->h1.get? b=some o)->s.heap.objs.size<=h1.objs.size->Zcc prog w A.in1.in1 { s with heap:=h1,toks:=W } (s.heap.objs.size+1) f vs ks)
 (h:∀ h' tk B c,(∀ b o,s.heap.get? b=some o->h'.get? b=some o)->h'.get? (s.heap.objs.size+1)=some (Gj "list" B c)->ZaI ks vs B.toList->Q (.ref (s.heap.objs.size+1)) { s with heap:=h',toks:=tk }) :
 Qq (Qt prog w) A (call (.builtin "sorted") [.ref l] [(Qw "key",f)]) Q E s:=by
 refine call_function_entry_kw kind_sorted plain_sorted entry_sorted (ksk_s1 _ _) ?_
 unfold Jq.«sorted»
 refine Qf (m:=checkCount "sorted" 1 1 _) (Qx ?_)
 refine Qf (collect_list hl ?_ (by rw [QV];omega))
 refine Qf (wpAny_newList ?_ (by rw [QV];omega))
 generalize hg:(s.heap.push (Gj "list" #[] 0)).update s.heap.objs.size (QY (·++vs.toArray))=g
 have hsz:g.objs.size=s.heap.objs.size+1:=by rw [<- hg,Sb,RY]
 have kg:∀ b o,s.heap.get? b=some o->(g.push (Gj "list" vs.toArray 0)).get? b=some o:=fun b o q=>by
  have G:b < s.heap.objs.size:=Qh q
  rw [Oz _ _ _ (by rw [hsz];exact Qy (JW G)),<- hg,PL _ _ _ _ (Qy G),Oz _ _ _ (Qy G)]
  exact q
 have I:(g.push (Gj "list" vs.toArray 0)).get? (s.heap.objs.size+1)=some (Gj "list" vs.toArray 0):=by rw [<- hsz];exact Qo _ rfl
 show Qq _ _ _ _ _ { s with heap:=g.push (Gj "list" vs.toArray 0) }
 rw [hsz]
 refine Qf (Gf (wpAny_call_entry_kw slot_list_sort ⟨_,I,rfl⟩ entry_list_sort ?body (ksk_l1 _ _)))
 show Qq (Qt prog w) A.in1.in1 (Jq.«list.sort» ⟨[.ref (s.heap.objs.size+1)],[(Qw "key",f)]⟩) _ _ _
 rw [ht]
 have U:s.heap.objs.size<=(g.push (Gj "list" vs.toArray 0)).objs.size:=by rw [RY,hsz];omega
 refine ZgH (s:={ s with heap:=g.push (Gj "list" vs.toArray 0) }) I S Z (J (g.push (Gj "list" vs.toArray 0)) s.toks kg U) fun h' tk B c k3 a3 o3=>⟨_,rfl,?_⟩
 exact Qx ⟨_,rfl,h h' tk B c (fun b o y=>k3 b o (Qy (JW (Qh y))) (kg b o y)) a3 o3⟩
end
def Xn (base:Heap)(mg:Str->Option Qb):Prop:=∃ bm ob,mg "__builtins__"=some (.ref bm)/\bm≠Tc/\base.get? bm=some ob/\ob.cls=.type "module"/\ob.dict=some Tc/\ob.data=.plain
def ZfY (ts:List Addr)(H:Hp):Prop:=∀ b,H b=none\/(∃ o xs,H b=some (.frz o (.lst xs)))\/(H b=some (.tbl #[])/\b∈ts)
theorem ZhR {P:Qi}{w:Qu}{K:Qa}{mg mb:Str->Option Qb}{CX:Uk}{k:Nat}{fa a:Addr}{fd:Qn}{x:Str}{sp:Sp}{B:Qd}{vs:List Qb}{ns:List Int}{ts:List Addr}
   (KX:K.In B.heap) (hns:B.heap.Ns Ql mg) (hb:B.heap.Ns Tc mb) (hbb:∀ x:Str,x≠"__name__"->mb x=JL x) (hlim:B.heap.NoLimit) (hg:B.gens=#[]) (hbm:Xn B.heap mg)
   (ha:B.heap.get? a=some { cls:=.type "list",data:=.seq vs.toArray }) (hi:Nu vs ns) (hl:ns.length<=Qj) (hr:Room k Rn)
   (I:∀ b∈ts,B.heap.get? b=some (RZ #[])/\K.lookup b=none/\∃ c,CodeHd B.heap c b)
   (F:∀ base:Heap,K.In base->base.Ns Ql mg->Xn base mg->FnOk P w K mg base CX k fa fd [x] sp) (hbind:∀ (s:Qd) (u:Qb),PQ s fd ⟨[u],[]⟩ [(x,u)])
   (hsp:∀ H:Hp,ZfY ts H->SqL K H a (ns.map V.int)->(∀ b∈ts,H b=some (.tbl #[]))->sp [.ref a] H (fun v _=>v=.bl true) fun _ _ _=>False)
   (hCX:∀ H e s',CX [] H B (fun _ _ _=>False) e s'->False) :
   Jw (Qt P w) Rn (.call (.ref fa) ⟨[.ref a],[]⟩) (fun r s'=>r=.ok (.ret (.bool true))/\OldK B.heap s'.heap/\s'.os=B.os/\PN s'.gens) B:=by
 have rv:=Zdf hi
 have lenV:=hi.length
 have nta:a ∉ ts:=fun z=>by
   have e:=(I a z).1
   rw [ha] at e;cases e
 have W : ∀ H:Hp,ZfY ts H->SqL K H a (ns.map V.int)->HOk P w H B.heap->(∀ b∈ts,H b=some (.tbl #[]))->(∀ b,H b≠none->b=a\/b∈ts)->(∀ b,H b≠none->K.lookup b=none) ->
     Jw (Qt P w) Rn (.call (.ref fa) ⟨[.ref a],[]⟩) (fun r s'=>r=.ok (.ret (.bool true))/\OldK B.heap s'.heap/\s'.os=B.os/\PN s'.gens) B:=by
   intro H hO hS hok hT hA hK
   have G:∀ {b:Addr} {o:Obj},B.heap.get? b=some o->H b=none->(Ut B.heap H).get? b=some o:=fun y n=>Zjq y n
   have Z:∀ {b:Addr} {o:Obj},B.heap.get? b=some o->(∀ its n,o.data≠.seq its n)->(∀ fs,o.data≠.fields fs)->H b=none:=fun {b o} y d1 d2=>by
     cases q:H b with
     | none=>rfl
     | some u =>
       rcases hA b (by rw [q];simp) with z | z
       · subst z
         rw [ha] at y;cases y
         exact absurd rfl (d1 _ _)
       · rw [(I b z).1] at y;cases y
         exact absurd rfl (d2 _)
   have S:∀ {b:Addr} {m:Str->Option Qb},B.heap.Ns b m->(Ut B.heap H).Ns b m:=fun {b m} ⟨o,es,ep,y,d,r⟩=>⟨o,es,ep,G y (Z y (fun its n z=>by rw [d] at z;cases z) fun fs z=>by rw [d] at z;cases z),d,r⟩
   have hKb:K.In (Ut B.heap H):=fun b o y=>G (KX b o y) (by
     cases q:H b with
     | none=>rfl
     | some u=>rw [hK b (by rw [q];simp)] at y;cases y)
   have hBm:Xn (Ut B.heap H) mg:=by
     obtain ⟨bm,ob,h1,h2,h3,h4,h5,h6⟩:=hbm
     exact ⟨bm,ob,h1,h2,G h3 (Z h3 (fun its n z=>by rw [h6] at z;cases z) fun fs z=>by rw [h6] at z;cases z),h4,h5,h6⟩
   have hM:Mod K mg (Ut B.heap H):=⟨hKb,S hns,⟨mb,S hb,hbb⟩,let ⟨mc,h1,h2⟩:=hlim;⟨mc,S h1,h2⟩⟩
   have e0:Env0 P w K mg (Ut B.heap H) Rn [] B H:=⟨rfl,hM,fun b o e=>Zlf e,Je (ZhB _ _),trivial,fun b hb=>absurd (show b∈([]:List Addr) from hb) (by simp),hok,.of_eq hg⟩
   refine Ge ((F _ hKb (S hns) hBm).run Rn [] B H ⟨[.ref a],[]⟩ [.ref a] [.ref a] _ _ hr e0 (hbind B (.ref a)) (.cons rfl .nil) (hsp H hO hS hT)) fun r s' h=>?_
   cases r with
   | error e=>exact (hCX H e s' h).elim
   | ok fl =>
     cases fl with
     | next=>exact QF h
     | brk=>exact QF h
     | cont=>exact QF h
     | ret u =>
       obtain ⟨v,H',os,bare,un,U,r',q⟩:=h
       have q':v=.bl true:=q
       subst q'
       obtain rfl:u=GF true:=r'
       have key:∀ b o,B.heap.get? b=some o->s'.heap.get? b=some o\/(b∈ts/\∃ more:Array Qb,s'.heap.get? b=some (RZ (#[]++more))):=fun b o y=>by
         cases q:H b with
         | none=>exact .inl (un.keep b o y q (by intro z;exact absurd (show b∈([]:List Addr) from z) (by simp)) (by simp))
         | some u =>
           rcases hO b with z | ⟨ob,xs,z⟩ | ⟨z,zt⟩
           · rw [q] at z;cases z
           · have z2:=un.frzs b ob _ z
             obtain ⟨e1,_⟩:=hok b _ z
             obtain ⟨e2,_⟩:=U b _ z2
             rw [y] at e1;cases e1
             exact .inl e2
           · obtain ⟨more,z2⟩:=un.tbls b #[] z
             exact .inr ⟨zt,more,show s'.heap.get? b=some { cls:=.none,data:=.fields (#[]++more) } from U b _ z2⟩
       refine ⟨rfl,⟨fun b o y=>?_,fun b o y=>?_⟩,os,bare⟩
       · rcases key b o y with z | ⟨zt,more,z⟩
         · exact .inl z
         · obtain ⟨t1,_,c,t3⟩:=I b zt
           rw [t1] at y;cases y
           exact .inr (.inl ⟨(t3.tab t1).isCodeTable,rfl,#[],more,rfl,z⟩)
       · rcases key b o y with z | ⟨zt,more,z⟩
         · exact ⟨_,z⟩
         · exact ⟨_,z⟩
 have okT:∀ (H:Hp) (b:Addr),b∈ts->ObjOk P w H B.heap b (.tbl #[]):=fun H b hb=>(I b hb).1
 cases hk:K.lookup a with
 | some o =>
   have e:=KX a o hk
   rw [ha] at e
   cases e
   refine W (fun b=>if b∈ts then some (.tbl #[]) else none) (fun b=>?_) (.inr ⟨_,vs.toArray,_,hk,rfl,rfl,rfl,by rw [size_toArray,lenV];exact hl,by simpa using rv⟩) (fun b u z=>?_) (fun b hb=>if_pos hb) (fun b z=>?_) (fun b z=>?_)
   · by_cases hb:b∈ts
     · exact .inr (.inr ⟨if_pos hb,hb⟩)
     · exact .inl (if_neg hb)
   · by_cases hb:b∈ts
     · have J:=(if_pos hb).symm.trans z
       cases J
       exact okT _ b hb
     · have J:=(if_neg hb).symm.trans z
       cases J
   · by_cases hb:b∈ts
     · exact .inr hb
     · exact absurd (if_neg hb) z
   · by_cases hb:b∈ts
     · exact (I b hb).2.1
     · exact absurd (if_neg hb) z
 | none =>
   refine W (fun b=>if b=a then some (.frz { cls:=.type "list",data:=.seq vs.toArray } (.lst (ns.map V.int))) else if b∈ts then some (.tbl #[]) else none) (fun b=>?_) (.inl (.inr ⟨{ cls:=.type "list",data:=.seq vs.toArray },if_pos rfl⟩)) (fun b u z=>?_)
     (fun b hb=>(if_neg (fun z:b=a=>nta (by rw [<- z];exact hb))).trans (if_pos hb)) (fun b z=>?_) (fun b z=>?_)
   · by_cases h1:b=a
     · exact .inr (.inl ⟨_,_,if_pos h1⟩)
     · by_cases hb:b∈ts
       · exact .inr (.inr ⟨(if_neg h1).trans (if_pos hb),hb⟩)
       · exact .inl ((if_neg h1).trans (if_neg hb))
   · by_cases h1:b=a
     · have J:=(if_pos h1).symm.trans z
       cases J
       subst h1
       exact ⟨ha,by rw [length_map];exact hl,vs,_,rv,ha⟩
     · have z1:=(if_neg h1).symm.trans z
       by_cases hb:b∈ts
       · have J:=(if_pos hb).symm.trans z1
         cases J
         exact okT _ b hb
       · have J:=(if_neg hb).symm.trans z1
         cases J
   · by_cases h1:b=a
     · exact .inl h1
     · by_cases hb:b∈ts
       · exact .inr hb
       · exact absurd ((if_neg h1).trans (if_neg hb)) z
   · by_cases h1:b=a
     · rw [h1];exact hk
     · by_cases hb:b∈ts
       · exact (I b hb).2.1
       · exact absurd ((if_neg h1).trans (if_neg hb)) z
theorem walk_ofT {l:Sy}{n k:Nat}{q:Qi}{S:List Str}{XP:(Str->Option Qb)->Heap->Prop}{YP:Qu->Heap->Prop}{d:DefRec}{K:Params->Qa}{CX:Qu->Uk}{sp:Qu->Sp}{x:Str}{ts:List Addr}
 (hn:l.most=some n) (hn2:n<=Qj) (hdf:d.params.defaults=[]) (hr:Room k Rn)
 (hY:∀ (w:Qu) (h:Heap),YP w h->(K w.params).In h/\∀ b∈ts,h.get? b=some (RZ #[]))
 (hK:∀ (w:Qu) (b:Addr),b∈ts->(K w.params).lookup b=none/\∃ c,JD (K w.params) c b=true)
 (F:∀ (w:Qu) (mg:Str->Option Qb) (fa:Addr) (h:Heap),(K w.params).In h->h.Ns Ql mg->mg d.name=some (.ref fa) ->
  ∃ fd:Qn,(∀ (s:Qd) (u:Qb),PQ s fd ⟨[u],[]⟩ [(x,u)]) /\
   ∀ base:Heap,(K w.params).In base->base.Ns Ql mg->Xn base mg->FnOk l.prog w (K w.params) mg base (CX w) k fa fd [x] (sp w))
 (hsp:∀ (w:Qu) (H:Hp) (a:Addr) (ns:List Int),ns.length<=n->ZfY ts H->SqL (K w.params) H a (ns.map V.int)->(∀ b∈ts,H b=some (.tbl #[]))->sp w [.ref a] H (fun v _=>v=.bl true) fun _ _ _=>False)
 (hCX:∀ (w:Qu) (H:Hp) (s:Qd) (e:Qb) (s':Qd),CX w [] H s (fun _ _ _=>False) e s'->False) :
 PySem.W.WalkO q S XP YP l.row.toRowW d [] (fun f vs=>PySem.call f vs):=by
 refine Att.attach_call hn hdf fun w s₀ U mg mb fa o pm cd doc a vs ns G Y ho hd hcd hmg Z J B hg=>?_
 obtain ⟨KX,hT⟩:=hY w _ Y
 obtain ⟨fd,hb,hF⟩:=F w mg fa _ KX G.T.g hmg
 exact ZhR (ts:=ts) KX G.T.g G.T.b G.T.builtins G.T.nolimit hg G.T.bmain Z J (Qr B hn2) hr (fun b I=>⟨hT b I,(hK w b I).1,let ⟨c,hc⟩:=(hK w b I).2;⟨c,Rc KX hc⟩⟩) hF hb (fun H hO hS hTb=>hsp w H a ns B hO hS hTb) fun H e s'=>hCX w H U e s'
abbrev Zaf (apos:Pos):Arguments:={ posonlyargs:=[],args:=[{ arg:="pair",annotation:=none,pos:=apos }],vararg:=none,kwonlyargs:=[],kw_defaults:=[],kwarg:=none,defaults:=[] }
abbrev UC (p1 p2 p3:Pos):Expr:=.Subscript (.Name "pair" p1) (.Constant (.int 0) 0 p2) p3
abbrev Ue:Scope:={ kind:=.function,names:=[("pair",.local)],isGenerator:=false,isCoroutine:=false,more:=[] }
section
variable {prog:Qi}{w:Qu}{A:Qz}{E:Qb->Qd->Prop}{s:Qd}
theorem Zjr {q t:Addr}{qual:Str}{apos p1 p2 p3:Pos}{pm W ct k:Qb}{G:Array Qb}{Q:Qb->Qd->Prop}
 (ho:s.heap.get? q=some { cls:=.type "function",data:=.func (Oa "<lambda>" qual (Zaf apos) (UC p1 p2 p3) Ue [] pm W ct) }) (hcd:s.heap.CodeRec W qual) (U:s.heap.NoLimit) (J:A.depth < SS)
 (ht:Nf s.heap t G) (h0:G[0]?=some k)
 (hQ:∀ h' tk,(∀ b o,s.heap.get? b=some o->h'.get? b=some o)->s.heap.objs.size<=h'.objs.size->Q k { s with heap:=h',toks:=tk }) :
 Qq (Qt prog w) A (call (.ref q) [.ref t]) Q E s:=by
 refine Jg (OA (body:=UC p1 p2 p3) J ho rfl rfl rfl rfl hcd ?_)
 refine Rb (a:=[(Qw "pair",Qm t)]) rfl ?_
 refine Tj rfl (fun y hy=>?_) fun env he B x=>⟨U.keeps x.toInCall.keep,OB ?_⟩
 ·rw [mem_singleton.mp hy];exact .inl rfl
 have hns:=x.toInCall.ns
 obtain ⟨h1,tk1,e1⟩:=x.toInCall.same
 have I:=x.toInCall.keep
 have hfr:=x.toInCall.fresh
 have hL:=hns.lt
 have S:env.kindOf "pair"=some .local:=by rw [he];rfl
 have hm:(Ng env.kindOf [(Qw "pair",Qm t)] fun _=>none) "pair"=some (.ref t):=by
  rw [he];rfl
 have hsc:env.scope.kind=.function:=by rw [he];rfl
 clear x
 refine RT (RO (Pm hsc S hns hm (RP ?_)) (by decide))
 have ht1:Nf B.heap t G:=by
  obtain ⟨o,e,r⟩:=ht
  exact ⟨o,I _ _ e,r⟩
 have fin:Q k { B with toks:=B.toks+1 }:=by
  subst e1
  exact hQ h1 (tk1+1) I (Gu (QK hfr hL))
 have hsz:0 < G.size:=(QZ.mp h0).1
 have Z:Nf (Shared.heap { B with toks:=B.toks+1 }) t G:=ht1
 exact JS (x:=k) Z.typeIs RU.lookup
  (getItem_tuple (j:=0) (Q:=fun r s'=>r=k/\(fun v s'=>(match (Except.ok (Flow.ret v):SQ) with | .ok (.ret v)=>Q v s' | .ok _=>False | .error e=>E e s')) r s') Z (by decide) (by decide) (Zcl (n:=G.size) (i:=0) (j:=0) (by unfold Wm;rw [if_pos (by decide),if_pos (by omega)];rfl)).1 h0 ⟨rfl,fin⟩) rfl
theorem ZeC:∀{ts:List Addr}{us:List Qb},Vals (ts.map V.ref) us->us=ts.map Qm
 | [],_,.nil=>rfl
 | t::ts,_,.cons r h=>by
  have e:=ZeC h
  cases (show _=Qm t from r)
  rw [e];rfl
end
def ZfZ (ks:List Str)(ts ts':List Addr):Prop:=∃ ps:List (Str×Addr),ps.Perm (ks.zip ts)/\ts'=ps.map (·.2)/\ps.Pairwise fun p q=>¬ (q.1.cps.toList < p.1.cps.toList)
def unR:Qb->Addr
 | .ref a=>a
 | _=>0
theorem Zlu {ks:List Str}{ts:List Addr}{I:List Qb}(h:ZaI ks (ts.map Qm) I):∃ B,I=B.map Qm/\ZfZ ks ts B:=by
 obtain ⟨ps,hp,U,S⟩:=h
 have G:∀ p∈ps,p.2=Qm (unR p.2):=fun p J=>by
  have h1:=(of_mem_zip (show (p.1,p.2)∈_ from hp.mem_iff.mp J)).2
  obtain ⟨t,_,e⟩:=mem_map.mp h1
  rw [<- e];rfl
 refine ⟨ps.map fun p=>unR p.2,?_,ps.map (fun p=>(p.1,unR p.2)),?_,?_,?_⟩
 ·rw [U,map_map]
  exact PJ G
 ·have h1:=hp.map fun p:Str×Qb=>(p.1,unR p.2)
  have h2:(ks.zip (ts.map Qm)).map (fun p:Str×Qb=>(p.1,unR p.2))=ks.zip ts:=by
   rw [List.zip_map_right,map_map]
   have:((fun p:Str×Qb=>(p.1,unR p.2)) ∘ Prod.map id Qm)=(id:Str×Addr->Str×Addr):=by funext p;rfl
   rw [this,List.map_id]
  rwa [h2] at h1
 ·rw [map_map];rfl
 ·rw [JV];exact S
def YK (c:Addr)(qual:Str):Heap->Prop:=fun h=>h.CodeRec (.ref c) qual
def LamAt (H:Hp)(Pl:Addr)(lpos:Pos)(qual:Str):Prop :=
 H Pl=some (.tbl #[])\/∃ c,H Pl=some (.tbl #[Gb lpos.line,Gb lpos.col,.ref c])/\H c=some (.ext (YK c qual))
theorem ZkV {P:Qi}{w:Qu}{H:Hp}{h:Heap}{c:Addr}{qual:Str}(e:h.CodeRec (.ref c) qual):ObjOk P w H h c (.ext (YK c qual)):=by
 obtain ⟨B,o,vs,t,z,g,r⟩:=id e
 cases z
 refine ⟨e,⟨o,g⟩,fun h1 h2 p k=>?_⟩
 obtain ⟨B,o,vs,t,z,g,r⟩:=p
 cases z
 exact ⟨_,o,vs,t,rfl,k _ g,r⟩
def Grown (Pl:Addr)(H H':Hp):Prop:=∀ b o,b≠Pl->H b=some o->H' b=some o
section
variable {X:Cx}{pins:List (Addr×Obj)}{σ:List (Option V)}{H:Hp}{s:Qd}{h':Heap}
theorem Inv.table {t':Nat}{Pl c:Addr}{ps:Array Qb}{qual:Str}{lpos:Pos}(I:Inv X pins σ H s)(G:H Pl=some (.tbl ps))(k:∀ b o,b≠Pl->s.heap.get? b=some o->h'.get? b=some o)
 (Z:h'.get? Pl=some (RZ (ps++#[Gb lpos.line,Gb lpos.col,.ref c]))) (W:s.heap.objs.size<=c) (hr:h'.CodeRec (.ref c) qual) :
 Inv X pins σ (upd (upd H Pl (.tbl (ps++#[Gb lpos.line,Gb lpos.col,.ref c]))) c (.ext (YK c qual))) { s with heap:=h',toks:=t' }:=by
 have J:H c=none:=I.hok.fresh W
 have U:c≠Pl:=fun z=>by rw [z,G] at J;cases J
 have S:∀ b,H b=none->b≠Pl:=fun b z e=>by rw [e,G] at z;cases z
 have B:∀ b o,b≠Pl->H b=some o->upd (upd H Pl (.tbl (ps++#[Gb lpos.line,Gb lpos.col,.ref c]))) c (.ext (YK c qual)) b=some o:=fun b o h1 e=>by rw [Zg (Zr e J),Zg h1];exact e
 have nL:X.env.locals≠Pl:=S _ I.free
 refine I.step (g':=s.gens) (d':=s.drawn) (ch:=[]) (fun _ z=>nomatch z) (fun b o _ _ _ e n=>k b o (S b n) e) (fun b o _ _ _ e n=>⟨o.slots,k b o (S b n) e⟩) (fun b o _ e n=>?_) (fun b o _ e=>?_)
  (fun b xs e=>B b _ (fun z=>by rw [z,G] at e;cases e) e) (fun b o u e=>B b _ (fun z=>by rw [z,G] at e;cases e) e) (fun b qs e=>?_) (fun m hm=>?_) (fun b u e=>?_) I.bare
 ·rw [Zg (fun z=>by rw [z] at e;exact absurd (Qh e) (QS.mpr W)),Zg (S b n)];exact n
 ·by_cases hb:b=Pl
  ·exact ⟨_,by rw [hb];exact Z⟩
  ·exact ⟨o,k b o hb e⟩
 ·by_cases hb:b=Pl
  ·rw [hb,G] at e
   cases e
   exact ⟨#[Gb lpos.line,Gb lpos.col,.ref c],by rw [hb,Zg U.symm,Zf]⟩
  ·exact ⟨#[],by rw [B b _ hb e];simp⟩
 ·obtain ⟨o,es,ep,ho,r⟩:=hm
  exact ⟨o,es,ep,k _ o nL ho,r⟩
 ·by_cases h1:b=c
  ·subst h1
   rw [Zf] at e
   cases e
   exact ZkV hr
  ·rw [Zg h1] at e
   by_cases h2:b=Pl
   ·subst h2
    rw [Zf] at e
    cases e
    exact Z
   ·rw [Zg h2] at e
    refine (I.hok b u e).stay (fun d v hd y=>k d v ?_ y) (fun d y=>B d _ (fun z=>by rw [z,G] at y;cases y) y) fun d xs y=>B d _ (fun z=>by rw [z,G] at y;cases y) y
    rcases hd with z | z
    ·rw [z];exact h2
    ·exact fun z2=>by rw [z2,G] at z;cases z
theorem Zjs {A:Qz}{E:Qb->Qd->Prop}{Q:Qb->Qd->Prop}{c Pl:Addr}{apos p1 p2 p3 lpos:Pos}(I:Inv X pins σ H s)(G:X.env.code=.ref c)(C:JD X.K c Pl=true)(hBm:Xn X.base X.mg)(hL:LamAt H Pl lpos (X.env.qual++"<lambda>"))
 (h:∀ (q:Addr) (H':Hp) (s':Qd) (pm cdv ct:Qb),Inv X pins σ H' s'->Grown Pl H H'->LamAt H' Pl lpos (X.env.qual++"<lambda>")->s'.heap.get? q=some { cls:=.type "function",data:=.func (Oa "<lambda>" (X.env.qual++"<lambda>") (Zaf apos) (UC p1 p2 p3) Ue [] pm cdv ct) } ->
  s'.heap.CodeRec cdv (X.env.qual++"<lambda>")->Q (.ref q) s') :
 Qq (Qt X.prog X.w) A (eval (.Lambda (Zaf apos) (UC p1 p2 p3) Ue lpos) X.env) Q E s:=by
 rw [arm_eval_Lambda]
 refine Qf (m:=evalAll []) (Op (Qf (Gf (m:=evalAllOpt []) (Rb (a:=[]) rfl ?_))))
 have hcl:closureFor Ue X.env=pure []:=rfl
 have hg:=I.mod.glob.keeps I.bk
 have CH:=Rc I.kIn C
 have tab:∀ ps,H Pl=some (.tbl ps)->s.heap.get? Pl=some (RZ ps):=fun ps e=>I.hok Pl _ e
 have U:∀ ps,s.heap.get? Pl=some (RZ ps)->s.heap.BuiltinsAt X.mg Pl/\Ql≠Pl:=fun ps e=>by
  obtain ⟨bm,ob,b1,b2,b3,b4,b5,b6⟩:=hBm
  have S:=I.bk _ _ b3
  have hmg:Ql≠Pl:=fun z=>by
   obtain ⟨o,es,ep,y,hd,_⟩:=hg
   rw [z,e] at y;cases y;cases hd
  refine ⟨⟨bm,ob,b1,b2,fun z=>?_,(fun z=>by rw [z,e] at S;cases S;cases b4),S,b4,b5,b6⟩,hmg⟩
  obtain ⟨o,es,ep,y,hd,_⟩:=hg
  rw [<- z,S] at y;cases y
  rw [b6] at hd;cases hd
 rcases hL with e | ⟨J,e,ec⟩
 ·have hP:=tab _ e
  obtain ⟨hb,hgP⟩:=U _ hP
  refine OR (clos:=[]) hcl I.ok.glob hg G CH hP trivial rfl hgP hb fun J Z h' tk hx hge hlt B hT=>?_
  have I1:=I.table (t':=tk) (h':=h') (qual:=X.env.qual++"<lambda>") (lpos:=lpos) e (fun b o hb' y=>hx b o hb' y) hT hge B
  have W:H J=none:=I.hok.fresh hge
  have hcP:J≠Pl:=fun z=>by rw [z,e] at W;cases W
  refine h _ _ _ ((X.mg "__name__").getD .none) (.ref J) Z (I1.kept (t':=tk) fun b o y=>Qe _ y) (fun b o h1 y=>by rw [Zg (Zr y W),Zg h1];exact y) (.inr ⟨J,by rw [Zg hcP.symm,Zf];rfl,Zf⟩) (Qo _ rfl) (B.push _)
 ·have hP:=tab _ e
  obtain ⟨hb,hgP⟩:=U _ hP
  have B:s.heap.CodeRec (.ref J) (X.env.qual++"<lambda>"):=(I.hok J _ ec).1
  refine Ry (clos:=[]) (cv:=.ref J) hcl I.ok.glob hg G CH hP trivial (by simp [Rq,Gb]) hb fun Z h' tk hk hz=>?_
  exact h _ _ _ ((X.mg "__name__").getD .none) (.ref J) Z ((I.kept (h':=h') (t':=tk) hk).kept (t':=tk) fun b o y=>Qe _ y) (fun b o _ y=>y) (.inr ⟨J,e,ec⟩) (Qo _ rfl) ((B.keeps hk).push _)
end
def Zpo (Pl:Addr)(lpos:Pos)(qual:Str)(te:TE):TE:=fun σ H Q=>te σ H fun x H1=>∃(l:Addr)(ts:List Addr)(ks:List Str),[x]=[.ref l]/\H1 l=some (.lst (ts.map V.ref))/\ts.length < 64/\ks.length=ts.length /\
 (∀ (i:Nat) (t:Addr) (k:Str),ts[i]?=some t->ks[i]?=some k->∃ vs,H1 t=some (.tup (.str k::vs)))/\LamAt H1 Pl lpos qual /\
 ∀ (H2:Hp) (r:Addr) (ts':List Addr),Grown Pl H1 H2->LamAt H2 Pl lpos qual->H2 r=none->ZfZ ks ts ts'->Q (.ref r) (upd H2 r (.lst (ts'.map V.ref)))
section
variable {X:Cx}
theorem ZjQ {k:Nat}{e:Expr}{te:TE}{apos p1 p2 p3 lpos kpos p pos:Pos}{c Pl:Addr}(hg:Gl X "sorted")(hm:X.mg "sorted"=none)(he:PE X e te)(hr:Room k X.A)(S:X.env.code=.ref c)(C:JD X.K c Pl=true)(hBm:Xn X.base X.mg)
 (hs:QA [e] X.env=[(false,eval e X.env)]:=by rfl):PE X (.Call (.Name "sorted" p) [e] [⟨some "key",.Lambda (Zaf apos) (UC p1 p2 p3) Ue lpos,kpos⟩] pos) (Zpo Pl lpos (X.env.qual++"<lambda>") te):=by
 intro pins s σ H Q I h
 have ha:PA X [e] (XQ te XS):=Yz he Za hs
 refine QR (UD I hg hm boot_sorted (callWith_kw ?_ (by rw [hs];rfl) (by rw [hs];rfl) rfl rfl))
 refine Zt (ha pos pins s σ H (fun xs H1=>∃ (l:Addr) (ts:List Addr) (ks:List Str),xs=[V.ref l]/\H1 l=some (.lst (ts.map V.ref))/\ts.length < 64/\ks.length=ts.length /\
  (∀ (i:Nat) (t:Addr) (k:Str),ts[i]?=some t->ks[i]?=some k->∃ vs,H1 t=some (.tup (.str k::vs)))/\LamAt H1 Pl lpos (X.env.qual++"<lambda>") /\
  ∀ (H2:Hp) (r:Addr) (B:List Addr),Grown Pl H1 H2->LamAt H2 Pl lpos (X.env.qual++"<lambda>")->H2 r=none->ZfZ ks ts B->Q (.ref r) (upd H2 r (.lst (B.map V.ref)))) I h) fun us s1 ⟨vs,H1,I1,r1,q1⟩=>?_
 obtain ⟨l,ts,ks,rfl,el,h64,hlen,htup,hL,q⟩:=q1
 obtain ⟨u,rfl,ru⟩:=Yq r1
 cases ru
 refine kws_cons (Zjs I1 S C hBm hL fun fq H2 s2 pm cdv ct Z gr hL2 hfo hrec=>kws_nil ?_)
 have nl:l≠Pl:=fun z=>by
  rw [z] at el
  rcases hL with y | ⟨_,y,_⟩<;>(rw [el] at y;cases y)
 have el2:=gr l _ nl el
 obtain ⟨its,rv,pl,hz⟩:=Z.list (SqL.of el2)
 have W:=ZeC rv
 subst W
 have J:∀ (i:Nat) (t:Addr) (k:Str),ts[i]?=some t->ks[i]?=some k->∃ its':Array Qb,Nf s2.heap t its'/\∃ tk,its'[0]?=some (.str k tk):=fun i t k h1 h2=>by
  obtain ⟨vs,ev⟩:=htup i t k h1 h2
  have nt:t≠Pl:=fun z=>by
   rw [z] at ev
   rcases hL with y | ⟨_,y,_⟩<;>(rw [ev] at y;cases y)
  obtain ⟨_,itv,rv',pt⟩:=(show ObjOk X.prog X.w H2 s2.heap t (.tup (.str k::vs)) from Z.hok t _ (gr t _ nt ev))
  cases rv' with
  | cons r rr =>
   obtain ⟨tk,e⟩:=r
   exact ⟨_,pt,tk,by rw [e];rfl⟩
 refine ZlT (vs:=ts.map Qm) (ks:=ks) pl.isList (by rw [length_map];exact hlen) (by rw [length_map];exact h64) (fun x=>ksk_t1 fq x) (fun h1 tk1 k1 z1=>?_) fun h' tk out cc k3 a3 o3=>?_
 ·intro i v k U hk h2 tk2 k2 z2 Q' hQ'
  rw [getElem?_map] at U
  cases ht:ts[i]? with
  | none=>rw [ht] at U;cases U
  | some t =>
   rw [ht] at U
   cases (show some (Qm t)=some v from U)
   obtain ⟨its',pt,tk',e0⟩:=J i t k ht hk
   have kp:∀ b o,s2.heap.get? b=some o->h2.get? b=some o:=fun b o y=>k2 b o (Qy (JW (Qh y))) (k1 b o y)
   have pt2:Nf h2 t its':=by
    obtain ⟨o,eo,r⟩:=pt
    exact ⟨o,kp _ _ eo,r⟩
   exact Zjr (s:={ s2 with heap:=h2,toks:=tk2 }) (kp _ _ hfo) (hrec.keeps kp) (Z.nolimit.keeps kp) (show X.A.depth < SS by have:=hr.dp;omega) pt2 e0 fun h3 tk3 k3 z3=>hQ' h3 tk3 tk' k3 z3
 ·obtain ⟨B,G,hT⟩:=Zlu o3
  have rv2:Vals (B.map V.ref) out.toList:=by
   rw [G]
   clear G hT o3
   induction B with
   | nil=>exact .nil
   | cons t r ih=>exact .cons rfl ih
  have hl2:(B.map V.ref).length<=sizeLine:=by
   obtain ⟨ps,hp,e,_⟩:=hT
   have:=hp.length_eq
   rw [Sz] at this
   rw [length_map,e,length_map,this]
   exact Zgm (by omega)
  exact ⟨.ref _,_,Z.laid (t':=tk) k3 (Jc _) (show ObjOk X.prog X.w _ h' _ (.lst (B.map V.ref)) from ⟨hl2,out.toList,cc,rv2,by rw [Re];exact a3⟩),rfl,q H2 _ B gr hL2 (Z.hok.fresh (Jc _)) hT⟩
end
theorem Zbx:QX (.type "tuple") "keys"=pure none:=am_miss_of_fast (by decide +kernel)
section
variable {prog:Qi}{w:Qu}{A:Qz}{E:Qb->Qd->Prop}{s:Qd}
theorem ZhL {a:Addr}{xs:Array Qb}{k:Nat}{I:Array (Option Qb)}{Q:Option Qb->Qd->Prop}(S:s.heap.get? a=some { cls:=.type "tuple",dict:=none,data:=.seq xs k,slots:=I })(U:A.handled=none)
 (h:∀ h' tk,(∀ b o,s.heap.get? b=some o->h'.get? b=some o)->Q none { s with heap:=h',toks:=tk }):Qq (Qt prog w) A (getAttr? (.ref a) "keys") Q E s:=by
 obtain ⟨hp,g,d,tk,os⟩:=s
 have J:∀ B,(⟨hp,g,d,B,os⟩:Qd).TypeIs (.ref a) "tuple":=fun _=>⟨_,S,rfl⟩
 have W:=sub_AttributeError
 have f3:=To.lookup
 have Z:=To.bind (.ref a)
 have f5:=am_tuple_getattr_none
 unfold getAttr? getAttrBy? getAttrBy
 repeat (any_goals first | assumption | exact J _ | ((with_reducible show Qq _ _ (call (JE "tuple.__getattribute__") _ _) _ _ _);refine RV F.slot_tuple_getattribute (J _) am_entry_tuple_getattribute (F.args_tuple_getattribute_2 _ _) (meets_getattribute_miss_tuple a xs k I "keys" _ Zbx (by decide) (by decide)) ⟨S,U,fun h' B e G=>?_⟩) | wp_step)
 obtain ⟨t',u',he⟩:=G.there
 show Qq _ _ (Ob _ _ _ _ _ _ _) _ _ _
 unfold Ob
 repeat (any_goals first | assumption | wp_step)
 all_goals exact h _ _ G.keeps
theorem UB:entryFor table "dict.update.loop"=some Jq.«dict.update.loop»:=entryFor_of_tree (by kernel_rfl)
theorem XE:plainId "dict.update.loop"=true:=by decide +kernel
end
section
variable {prog:Qi}{w:Qu}{A:Qz}{R:SQ->Qd->Prop}
def PairAt (prog:Qi)(w:Qu)(h:Heap)(v:Qb)(p:Zo×Qb):Prop:=∃ tt key,v=.ref tt/\Nf h tt #[key,p.2]/\(ZG prog w).is p.1 key=true
theorem PairAt.keep {h h':Heap}{v:Qb}{p:Zo×Qb}(x:PairAt prog w h v p)(k:∀ b o,h.get? b=some o->h'.get? b=some o):PairAt prog w h' v p:=by
 obtain ⟨G,key,e,⟨o,B,r⟩,z⟩:=x
 exact ⟨G,key,e,⟨o,k _ _ B,r⟩,z⟩
theorem PairAt.but {h h':Heap}{v:Qb}{p:Zo×Qb}{d:Addr}{o:Obj}(x:PairAt prog w h v p)(J:h.get? d=some o)(G:o.cls≠.type "tuple")(k:∀ b o,b≠d->h.get? b=some o->h'.get? b=some o):PairAt prog w h' v p:=by
 obtain ⟨S,key,e,⟨I,B,c,r⟩,z⟩:=x
 refine ⟨S,key,e,⟨I,k _ _ (fun y=>?_) B,c,r⟩,z⟩
 rw [y,J] at B
 cases B
 exact G c
theorem Zkn {d I t:Addr}{B:Array Qb}(ps:List (Zo×Qb))(hlen:ps.length=B.size)(hnd:(ps.map (·.1)).Nodup)(hsz:ps.length<=Qj)(hh:A.handled=none)(hIt:I≠t)(hId:I≠d) :
 ∀ (k i:Nat) (s:Qd) (n:Int) (tk:Tok),ps.length - i=k->i<=ps.length->s.heap.IsTupleIter I t i->s.heap.IsTuple t B->(∀ (j:Nat) (v:Qb) (p:Zo×Qb),B[j]?=some v->ps[j]?=some p->PairAt prog w s.heap v p)->s.heap.DictOf (ZG prog w) d (ps.take i) ->
 (∀ h' tk',(∀ b o,b≠I->b≠d->s.heap.get? b=some o->h'.get? b=some o)->h'.DictOf (ZG prog w) d ps->R (.ok (.ret .none)) { s with heap:=h',toks:=tk' }) ->
 Jw (Qt prog w) A (.builtin "dict.update.loop" ⟨[.ref d,.ref I,.int n tk,.none],[]⟩) R s:=by
 have W:=Walks.tuple (prog:=prog) (w:=w) (A:=A.in1) hh I t hIt.symm B
 intro k
 induction k with
 | zero =>
  intro i s n tk hk hi U htp hpr hd hR
  have hin:i=B.size:=by omega
  refine PF UB ?_
  rw [Rf XE _]
  show Qq _ A.in1 (pyNext (.ref I) >>= _) _ _ s
  refine Qf (W.done s _ _ ⟨by rw [<- hin];exact U,htp⟩ fun h' tk' kk=>?_)
  show Qq _ _ (Builtin.Dict.addKeywords d [] >>= _) _ _ _
  refine Qf (Qx (Qx (hR h' tk' (fun b o h1 _ y=>kk b o (by simpa using h1) y) ?_)))
  rw [GA (by omega)] at hd
  obtain ⟨o,es,ep,J,r⟩:=hd
  exact ⟨o,es,ep,kk d o (by simpa using hId.symm) J,r⟩
 | succ k ih =>
  intro i s n tk hk hi U htp hpr hd hR
  have hlt:i < B.size:=by omega
  refine PF UB ?_
  rw [Rf XE _]
  show Qq _ A.in1 (pyNext (.ref I) >>= _) _ _ s
  refine Qf (W.item i s _ _ hlt ⟨U,htp⟩ fun v h1 tk1 hv st1 kk=>?_)
  obtain ⟨hit1,htp1⟩:=st1
  have hI0:∃ o,s.heap.get? I=some o/\o.cls≠.type "tuple":=by
   obtain ⟨o,J,c,_⟩:=U
   exact ⟨o,J,by rw [c];decide⟩
  have Z:∀ (j:Nat) (v:Qb) (p:Zo×Qb),B[j]?=some v->ps[j]?=some p->PairAt prog w h1 v p:=fun j v p a b=>by
   obtain ⟨o,J,c⟩:=hI0
   exact (hpr j v p a b).but J c fun b o hb y=>kk b o (by simpa using hb) y
  obtain ⟨p,hp⟩:∃ p,ps[i]?=some p:=⟨_,getElem?_eq_getElem (by omega)⟩
  have hv':B[i]?=some v:=hv
  obtain ⟨tt,key,rfl,⟨ot,J,oc,on,od⟩,hkey⟩:=Z i v p hv' hp
  have hd1:h1.DictOf (ZG prog w) d (ps.take i):=by
   obtain ⟨o,es,ep,J,r⟩:=hd
   exact ⟨o,es,ep,kk d o (by simpa using hId.symm) J,r⟩
  have hT:RG { s with heap:=h1,toks:=tk1 } (.ref tt) "tuple":=⟨ot,J,oc⟩
  have hnew:stored (ps.take i) p.1 p.2=ps.take (i+1):=by
   have hni:p.1 ∉ (ps.take i).map (·.1):=fun z=>by
    have e1:(ps.map (·.1))=(ps.take i).map (·.1)++(ps.drop i).map (·.1):=by rw [<- map_append,List.take_append_drop]
    rw [e1,Tx] at hnd
    refine hnd.2.2 _ z _ (mem_map.mpr ⟨p,?_,rfl⟩) rfl
    exact mem_of_getElem? (i:=0) (by rw [RX];simpa using hp)
   unfold stored
   rw [if_neg,JU,hp]
   ·rfl
   ·intro z
    obtain ⟨q,hq,e⟩:=List.any_eq_true.mp z
    exact hni (mem_map.mpr ⟨q,hq,by simpa using e⟩)
  show Qq _ A.in1 (JM [.ref tt] _ >>= _) _ _ _
  refine Qf (Gf ?_)
  refine Qf (wpAny_tryCatch ?_)
  unfold Builtin.Dict.pairItems
  refine Qf (OC hT ?_)
  rw [if_pos (by decide)]
  refine Qf (wpAny_seqItems J od (Qx ?_))
  show Qq _ _ (JM [key,p.2] (dictSet d key p.2)) _ _ _
  refine Gf (wpAny_dictSet_pairs hkey hd1 (fun h2 hd2 S=>?_) (Qr (by rw [length_take];omega) hsz))
  rw [hnew] at hd2
  refine Qx ⟨plainId_quiet XE _,ih (i+1) _ (n+1) _ (by omega) (by omega) ?_ ?_ ?_ hd2 ?_⟩
  ·obtain ⟨o,G,r⟩:=hit1
   exact ⟨o,(S.2 I hId).trans G,r⟩
  ·obtain ⟨o,G,r⟩:=htp1
   refine ⟨o,(S.2 t (fun z=>?_)).trans G,r⟩
   obtain ⟨o',es,ep,eo2,c2,_⟩:=hd1
   rw [z,eo2] at G
   cases G
   rw [c2.1] at r
   exact absurd r.1 (by decide)
  ·intro j v p a b
   obtain ⟨o',es,ep,eo2,c2,_⟩:=hd1
   exact (Z j v p a b).but eo2 (by rw [c2.1];decide) fun b o hb y=>(S.2 b hb).trans y
  ·intro h3 tk3 k3 hd3
   exact hR h3 tk3 (fun b o h4 h5 y=>k3 b o h4 h5 ((S.2 b h5).trans (kk b o (by simpa using h4) y))) hd3
end
section
variable {prog:Qi}{w:Qu}{A:Qz}{E:Qb->Qd->Prop}{s:Qd}
theorem Zdh {t:Addr}{G:Array Qb}{Q:Qb->Qd->Prop}(ps:List (Zo×Qb))(ht:Nf s.heap t G)(hnd0:∃ o,s.heap.get? t=some o/\o.dict=none)(hlen:ps.length=G.size)(hnd:(ps.map (·.1)).Nodup)(hsz:ps.length<=Qj)(hh:A.handled=none)
 (hpr:∀ (j:Nat) (v:Qb) (p:Zo×Qb),G[j]?=some v->ps[j]?=some p->PairAt prog w s.heap v p)
 (h:∀ h' S,(∀ b o,s.heap.get? b=some o->h'.get? b=some o)->h'.DictOf (ZG prog w) s.heap.objs.size ps->Q (.ref s.heap.objs.size) { s with heap:=h',toks:=S }) :
 Qq (Qt prog w) A (call (.type "dict") [.ref t]) Q E s:=by
 refine callType_codes (Q₁:=fun obj J=>obj=.ref s.heap.objs.size/\J={ s with heap:=s.heap.push { cls:=.type "dict",data:=.dict #[] } }) F.kt_called_dict (F.kt_typeCall_dict_1 _) F.entry_dict_init (kt_code_dict_new _ ⟨rfl,rfl⟩) ?_
 rintro obj J ⟨rfl,rfl⟩
 have B:(s.heap.push { cls:=.type "dict",data:=.dict #[] }).DictOf (ZG prog w) s.heap.objs.size []:=Nl s.heap
 have tlt:t < s.heap.objs.size:=by obtain ⟨o,Z,_⟩:=ht;exact Qh Z
 obtain ⟨ot,I,oct,on,odt⟩:=id ht
 obtain ⟨o2,eo2,U⟩:=hnd0
 rw [I] at eo2
 cases eo2
 refine ⟨B.typeIs,F.args_dict_init_2 _ _,?_⟩
 unfold Jq.«dict.__init__»
 refine Qf ?_
 unfold Builtin.Dict.selfAndRest
 refine Qf (wpAny_notOrdered_dict B.typeIs ?_)
 show Qq _ _ (pure (s.heap.objs.size,[Qm t])) _ _ _
 refine Qx ?_
 show Qq _ _ (Sc "dict.__init__" s.heap.objs.size (.ref t) [] .none) _ _ _
 unfold Sc
 have hT:RG { s with heap:=s.heap.push { cls:=.type "dict",data:=.dict #[] } } (.ref t) "tuple":=⟨ot,Qe _ I,oct⟩
 refine Qf (OC hT ?_)
 rw [if_pos (by decide)]
 obtain ⟨c0,d0,dt0,sl0⟩:=ot
 have e1:c0=.type "tuple":=oct
 have e2:d0=none:=U
 have e3:dt0=.seq G on:=odt
 subst e1 e2 e3
 refine Qf (ZhL (s:={ s with heap:=s.heap.push { cls:=.type "dict",data:=.dict #[] } }) (Qe _ I) hh fun h1 tk1 k1=>?_)
 rw [if_pos (show (none:Option Qb).isNone=true from rfl)]
 have W:=k1 _ _ (Qe { cls:=.type "dict",data:=.dict #[] } I)
 have hd1:h1.DictOf (ZG prog w) s.heap.objs.size []:=by
  obtain ⟨o,es,ep,Z,r⟩:=B
  exact ⟨o,es,ep,k1 _ _ Z,r⟩
 have dlt:s.heap.objs.size < h1.objs.size:=by obtain ⟨o,es,ep,Z,r⟩:=hd1;exact Qh Z
 refine Qf (wpAny_rule (Qf (RQ (items:=G) ⟨_,W,rfl,on,rfl⟩ ?_)))
 refine Qx ⟨plainId_quiet XE _,Zkn (A:=A.in1) ps hlen hnd hsz hh (Jd (Qh W)) (Jd dlt) ps.length 0 _ 0 _ (by omega) (QC _) ⟨_,Qo _ rfl,rfl,rfl⟩ ⟨_,Qe _ W,rfl,on,rfl⟩ ?_ ?_ ?_⟩
 ·intro j v p a b
  exact (hpr j v p a b).keep fun b o y=>Qe _ (k1 _ _ (Qe _ y))
 ·obtain ⟨o,es,ep,Z,r⟩:=hd1
  exact ⟨o,es,ep,Qe _ Z,r⟩
 ·intro h' S k3 hd3
  refine ⟨rfl,h h' S (fun b o y=>?_) hd3⟩
  have y1:=k1 _ _ (Qe { cls:=.type "dict",data:=.dict #[] } y)
  exact k3 b o (Qy (Qh y1)) (Qy (Qh y)) (Qe _ y1)
end
section
variable {X:Cx}
theorem Ul (hc:X.calm=true):Yt X (.type "dict") (fun xs H Q=>∃ (t:Addr) (ts:List Addr) (kvs:List (Str×V)),xs=[.ref t]/\(∃ o,H t=some (.frz o (.tup (ts.map V.ref)))/\o.dict=none)/\ts.length=kvs.length/\kvs.length<=1000 /\
   (∀ (i:Nat) (a:Addr) (p:Str×V),ts[i]?=some a->kvs[i]?=some p->H a=some (.tup [.str p.1,p.2]))/\(kvs.map (·.1)).Nodup/\∀ d,H d=none->Q (.ref d) (upd H d (.dK (kvs.map fun p=>(Qs p.1,p.2))))):=by
 intro pins s σ H xs us Q I r h
 obtain ⟨t,ts,kvs,rfl,⟨W,Z,hdn⟩,B,hsz,hp,hnd,q⟩:=h
 have hq:SqT X.K H t (ts.map V.ref):=.inl (.inr ⟨W,Z⟩)
 have eo0:=(I.hok t _ Z).1
 obtain ⟨u,rfl,ru⟩:=Yq r
 cases ru
 obtain ⟨its,rv,pt,hz⟩:=I.tuple hq
 have U:=ZeC rv
 subst U
 have G:∀ (kvs:List (Str×V)) (ts:List Addr),ts.length=kvs.length->(∀ (i:Nat) (a:Addr) (p:Str×V),ts[i]?=some a->kvs[i]?=some p->H a=some (.tup [.str p.1,p.2])) ->
     ∃ ps:List (Zo×Qb),KV (kvs.map fun p=>((Qs p.1:Zo),p.2)) ps/\ps.length=kvs.length/\ps.map (·.1)=kvs.map (fun p=>(Qs p.1:Zo))/\∀ (j:Nat) (v:Qb) (p:Zo×Qb),(ts.map Qm)[j]?=some v->ps[j]?=some p->PairAt X.prog X.w s.heap v p:=by
   intro kvs
   induction kvs with
   | nil=>intro ts _ _;exact ⟨[],.nil,rfl,rfl,fun j v p _ e=>by simp at e⟩
   | cons kv r ih =>
     intro ts hl hh
     cases ts with
     | nil=>simp at hl
     | cons a ar =>
       obtain ⟨ps,k1,k2,k3,k4⟩:=ih ar (by simpa using hl) fun i b p e1 J=>hh (i+1) b p (by simpa using e1) (by simpa using J)
       obtain ⟨_,itv,rv',pa⟩:=(show ObjOk X.prog X.w H s.heap a (.tup [.str kv.1,kv.2]) from I.hok a _ (hh 0 a kv rfl rfl))
       cases rv' with
       | cons r1 rr =>
         cases rr with
         | cons r2 rr =>
           cases rr
           obtain ⟨tk,e⟩:=r1
           subst e
           rename_i u2
           refine ⟨(Qs kv.1,u2)::ps,.cons ⟨rfl,r2⟩ k1,by rw [length_cons,length_cons,k2],by rw [map_cons,map_cons,k3],fun j v p e1 J=>?_⟩
           cases j with
           | zero =>
             cases (show some (Qm a)=some v from e1)
             cases (show some ((Qs kv.1:Zo),u2)=some p from J)
             exact ⟨a,.str kv.1 tk,rfl,pa,ZaD _ _ _ _⟩
           | succ j=>exact k4 j v p (by simpa using e1) (by simpa using J)
 obtain ⟨ps,k1,k2,k3,k4⟩:=G kvs ts B hp
 have hnd2:(ps.map (·.1)).Nodup:=by
   rw [k3]
   have:kvs.map (fun p=>(Qs p.1:Zo))=(kvs.map (·.1)).map Sum.inr:=by rw [map_map];rfl
   rw [this]
   rw [List.Nodup,JV]
   exact hnd.imp fun h e=>h (by cases e;rfl)
 refine Zdh ps pt ⟨W,eo0,hdn⟩ (by rw [k2,size_toArray,length_map,B]) hnd2 (by rw [k2];exact Zgm hsz) (I.ok.hd hc) (fun j v p e1 J=>k4 j v p (by simpa using e1) J) fun h' tk' kk hd=>?_
 have S:=I.big
 refine ⟨.ref s.heap.objs.size,_,I.laid (t':=tk') kk (Qg _) (show ObjOk X.prog X.w _ h' _ (.dK (kvs.map fun p=>((Qs p.1:Zo),p.2))) from ⟨by rw [length_map];exact Zgm hsz,?_,ps,k1,hd⟩),rfl,q _ (I.hok.fresh (Qg _))⟩
 exact beq_eq_false_iff_ne.mpr (Jd S)
end
section
variable {X:Cx}{pins:List (Addr×Obj)}{σ:List (Option V)}{H H':Hp}{s:Qd}{h':Heap}
theorem Inv.many {t':Nat}(I:Inv X pins σ H s)(k:∀ b u,s.heap.get? b=some u->h'.get? b=some u)(ext:Same H H')(new:∀ b,b < s.heap.objs.size->H' b=H b)(hok:∀ b o,s.heap.objs.size<=b->H' b=some o->ObjOk X.prog X.w H' h' b o) :
 Inv X pins σ H' { s with heap:=h',toks:=t' }:=by
 refine I.step (g':=s.gens) (d':=s.drawn) (ch:=[]) (fun _ z=>nomatch z) (fun b o _ _ _ e _=>k b o e) (fun b o _ _ _ e _=>⟨o.slots,k b o e⟩) (fun b o _ e n=>by rw [new b (Qh e)];exact n) (fun b o _ e=>⟨o,k b o e⟩)
  (fun b xs e=>ext b _ e) (fun b o u e=>ext b _ e) (fun b ps e=>⟨#[],by rw [ext b _ e];simp⟩) (fun m B=>?_) (fun b u e=>?_) I.bare
 ·obtain ⟨o,es,ep,G,r⟩:=B
  exact ⟨o,es,ep,k _ o G,r⟩
 ·by_cases hb:b < s.heap.objs.size
  ·rw [new b hb] at e
   exact (I.hok b u e).stay (fun c v _ y=>k c v y) (fun c y=>ext c _ y) fun c xs y=>ext c _ y
  ·exact hok b u (Nat.not_lt.mp hb) e
end
def Zbh (v d:Addr):Heap->Prop:=fun h=>h.IsItemsView v d
def Vf (H:Hp):List (Addr×Zo×V)->Hp
 | []=>H
 | (a,k,v)::r=>upd (Vf H r) a (.tup [kV k,v])
theorem ZaS {H:Hp}{b:Addr}:∀{l:List (Addr×Zo×V)},b ∉ l.map (·.1)->Vf H l b=H b
 | [],_=>rfl
 | (a,k,v)::r,h=>by
  rw [map_cons,mem_cons,not_or] at h
  show upd (Vf H r) a _ b=_
  rw [Zg h.1];exact ZaS h.2
theorem Zfk {H:Hp}{a:Addr}{k:Zo}{v:V}:∀{l:List (Addr×Zo×V)},(l.map (·.1)).Nodup->(a,k,v)∈l->Vf H l a=some (.tup [kV k,v])
 | (b,k',v')::r,hn,hm=>by
  rw [map_cons,nodup_cons] at hn
  show upd (Vf H r) b _ a=_
  rcases mem_cons.mp hm with e | hm
  ·cases e;exact Zf
  ·rw [Zg (fun z:a=b=>hn.1 (by show b∈_;rw [<- z];exact mem_map.mpr ⟨_,hm,rfl⟩))]
   exact Zfk hn.2 hm
theorem ZhO {kvs:List (Zo×V)}{vs:List (Zo×Qb)}(r:KV kvs vs):∀{j:Nat}{k:Zo}{x:Qb},vs[j]?=some (k,x)->∃ v,kvs[j]?=some (k,v)/\RelV v x:=by
 induction r with
 | nil=>intro j k x e;simp at e
 | cons h t ih =>
  intro j k x e
  cases j with
  | zero =>
   cases (show some _=some (k,x) from e)
   rename_i a _ _
   refine ⟨a.2,?_,h.2⟩
   have e1:a.1=k:=h.1
   show some a=some (k,a.2)
   rw [<- e1]
  | succ j=>exact ih (by simpa using e)
section
variable {X:Cx}
theorem Zjv:MtR X "dict.items" (fun x xs H Q=>∃ d kvs,x=.ref d/\xs=[]/\H d=some (.dK kvs)/\∀ v,H v=none->Q (.ref v) (upd H v (.ext (Zbh v d)))):=by
 intro pins s σ H x xs v us Q I J S h
 obtain ⟨d,kvs,rfl,rfl,e,q⟩:=h
 cases J
 cases S
 obtain ⟨W,lo,vs,U,B⟩:=Zbn I.hok e
 refine PR Sd B.typeIs PySem.F.entry_dict_items (PySem.F.args_dict_items_1 _) (meets_dict_items (ZG X.prog X.w) d lo) ⟨⟨vs,B⟩,?_⟩
 refine ⟨.ref s.heap.objs.size,_,I.laid (t':=s.toks) (fun b o y=>Qe _ y) (Qg _) (show ObjOk X.prog X.w _ _ _ (.ext (Zbh s.heap.objs.size d)) from ⟨⟨_,Qo _ rfl,rfl,rfl⟩,⟨_,Qo _ rfl⟩,?_⟩),rfl,q _ (I.hok.fresh (Qg _))⟩
 rintro h1 h2 ⟨o,G,r⟩ k
 exact ⟨o,k _ G,r⟩
theorem Zbk (hc:X.calm=true):Yt X (.type "list") (fun xs H Q=>∃ v d kvs,xs=[.ref v]/\H v=some (.ext (Zbh v d))/\H d=some (.dK kvs) /\
 ∀ (l:Addr) (ts:List Addr) (H2:Hp),H l=none->Same H H2->ts.length=kvs.length->(∀ a∈ts,H a=none)->(∀ (i:Nat) (a:Addr) (p:Zo×V),ts[i]?=some a->kvs[i]?=some p->H2 a=some (.tup [kV p.1,p.2]))->H2 l=some (.lst (ts.map V.ref))->Q (.ref l) H2):=by
 intro pins s σ H xs us Q I r h
 obtain ⟨v,d,kvs,rfl,ev,ed,q⟩:=h
 obtain ⟨u,rfl,ru⟩:=Yq r
 cases ru
 obtain ⟨hz,lo,vs,kv,o,es,ep,ho,r1,r2,r3,r4,r5⟩:=Zbn I.hok ed
 have W:vs.length=kvs.length:=(GT kv).symm
 refine kdx_call (knd:=ZG X.prog X.w) (kvs:=vs) (ep:=ep) (I.ok.hd hc) (I.hok v _ ev).1 ⟨o,es,ho,r1,r2,r3,r4,r5⟩ (by rw [W];exact hz) fun h' tk acc c as hk hS hl hG S=>?_
 have hl2:as.length=kvs.length:=by rw [hl,W]
 have hnd:as.Nodup:=hG.rise.imp fun h=>Qy h
 generalize hL:as.zip (kvs.map fun p=>p)=L
 have J:L.map (·.1)=as:=by
  rw [<- hL,List.map_id']
  exact List.map_fst_zip (by omega)
 have U:∀ (j:Nat) (a:Addr) (p:Zo×V),as[j]?=some a->kvs[j]?=some p->(a,p.1,p.2)∈L:=fun j a p e1 e2=>by
  rw [<- hL,List.map_id']
  exact mem_of_getElem? (i:=j) (by rw [Gn];exact ⟨e1,e2⟩)
 have B:∀ a∈as,s.heap.objs.size < a:=hG.above
 have hfr:∀ b,s.heap.objs.size<=b->H b=none:=fun b hb=>I.hok.fresh hb
 have hnl:s.heap.objs.size ∉ L.map (·.1):=fun z=>by rw [J] at z;exact absurd (B _ z) (GC _)
 have Z:∀ b,b < s.heap.objs.size->b ∉ L.map (·.1):=fun b hb z=>by rw [J] at z;exact absurd (Nat.lt_trans (B _ z) hb) (GC _)
 have key:∀ b,b < s.heap.objs.size->upd (Vf H L) s.heap.objs.size (.lst (as.map V.ref)) b=H b:=fun b hb=>by rw [Zg (Qy hb),ZaS (Z b hb)]
 have sm:Same H (upd (Vf H L) s.heap.objs.size (.lst (as.map V.ref))):=fun b o e=>by rw [key b (I.hok.lt e)];exact e
 have G:∀ (j:Nat) (a:Addr) (p:Zo×V),as[j]?=some a->kvs[j]?=some p->upd (Vf H L) s.heap.objs.size (.lst (as.map V.ref)) a=some (.tup [kV p.1,p.2]):=fun j a p e1 e2=>by
  rw [Zg (Jd (B a (mem_of_getElem? e1)))]
  exact Zfk (by rw [J];exact hnd) (U j a p e1 e2)
 have I2:Inv X pins σ (upd (Vf H L) s.heap.objs.size (.lst (as.map V.ref))) { s with heap:=h',toks:=tk }:=by
  refine I.many hk sm key fun b o hb e=>?_
  by_cases h0:b=s.heap.objs.size
  ·subst h0
   rw [Zf] at e
   cases e
   refine ⟨by rw [length_map,hl2];exact hz,acc.toList,c,?_,by rw [Re];exact hS⟩
   rw [S]
   clear S hl hG hl2 hnd hL J U B hnl Z key sm G
   induction as with
   | nil=>exact .nil
   | cons a r ih=>exact .cons rfl ih
  ·rw [Zg h0] at e
   by_cases hm:b∈as
   ·obtain ⟨j,hj⟩:=Pb.mp hm
    obtain ⟨keyv,kk,x,e1,e2,e3⟩:=hG.pairs j b hj
    obtain ⟨vv,e4,rel⟩:=ZhO kv e1
    have e5:=G j b (kk,vv) hj e4
    rw [Zg h0,e] at e5
    cases e5
    refine ⟨by show 2<=Qj;decide,[keyv,x],.cons ?_ (.cons rel .nil),⟨_,e3,rfl,_,rfl⟩⟩
    rw [Zby] at e2
    rcases Yk e2 with ⟨i,tt,rfl,rfl⟩ | ⟨y,tt,rfl,rfl⟩
    ·exact ⟨tt,rfl⟩
    ·exact ⟨tt,rfl⟩
   ·rw [ZaS (by rw [J];exact hm),hfr b hb] at e
    cases e
 exact ⟨.ref s.heap.objs.size,_,I2,rfl,q _ as _ (hfr _ (Qg _)) sm hl2 (fun a ha=>hfr a (Gu (B a ha))) G Zf⟩
def Zpk:TE:=fun _ H Q=>∀ p o,H p=none->o.dict=none->Q (.ref p) (upd H p (.frz o (.tup [])))
theorem Zfy {J:Nat}{pos:Pos}:PE X (.Tuple [] J pos) Zpk:=by
 intro pins s σ H Q I W
 refine Rw (Zt (Za pos pins s σ H (fun xs H1=>xs=[]/\H1=H) I ⟨rfl,rfl⟩) fun us s1 G=>?_)
 obtain ⟨xs,H1,B,r,e1,S⟩:=G
 subst e1 S
 cases r
 refine ⟨QC _,?_⟩
 have U:H1 s1.heap.objs.size=none:=B.hok.fresh (Qg _)
 exact ⟨.ref s1.heap.objs.size,_,B.laid (t':=s1.toks) (o:=.frz _ (.tup [])) (fun b u e=>Qe _ e) (Qg _) ⟨Qo _ rfl,QC _,[],.nil,⟨_,Qo _ rfl,rfl,_,rfl⟩⟩,rfl,W _ _ U rfl⟩
theorem ZaM:Yt X (.type "tuple") (fun xs H Q=>∃ p ys,xs=[.ref p]/\SqL X.K H p ys/\∀ l o,H l=none->o.dict=none->Q (.ref l) (upd H l (.frz o (.tup ys)))):=by
 intro pins s σ H xs us Q I r h
 obtain ⟨p,ys,rfl,hq,q⟩:=h
 obtain ⟨u,rfl,W⟩:=Yq r
 cases W
 obtain ⟨B,G,pl,Z⟩:=I.list hq
 have U:=G.length
 refine Nk pl.isList (fun h' kp=>?_) (by simp only [size_toArray]<;>omega)
 have J:Inv X pins σ H { s with heap:=h' }:=I.kept (t':=s.toks) kp
 have S:(h'.push { cls:=.type "tuple",data:=.seq B.toArray }).get? h'.objs.size=some { cls:=.type "tuple",data:=.seq B.toArray }:=Qo _ rfl
 exact ⟨.ref h'.objs.size,_,J.laid (t':=s.toks) (o:=.frz { cls:=.type "tuple",data:=.seq B.toArray } (.tup ys)) (fun b o e=>Qe _ e) (Qg _) ⟨S,Z,B,G,⟨_,S,rfl,_,rfl⟩⟩,rfl,q _ _ (J.hok.fresh (Qg _)) rfl⟩
end
section
variable {O:KeyOrd}{key:Nat->O.α}{n:Nat}{s:Qd}{cmp:Nat->Nat->(Bool->Qd->Prop)->Qd->Prop}
end
structure FunC (K:Qa)(x qual:Str)(st:Stmt)(f:Addr)(fd:Qn)(c Pl:Addr):Prop where
 ex:∃ (oc:Qb) (od:Option Addr) (kV doc pm:Qb) (an:Option Addr) (ct:Qb) (osl:Array (Option Qb)),
  fd=JR x qual (Zab st) (Xx st) (Zk st) .none kV doc pm an (.ref c) ct/\K.lookup f=some ⟨oc,od,.func fd,osl⟩/\SU K (.ref c) qual=true
 kp:GH K (.ref f)=true
 hd:JD K c Pl=true
section
variable {P:Qi}{w:Qu}{K:Qa}{mg:Str->Option Qb}{base:Heap}
theorem FunC.ok {x qual:Str}{st:Stmt}{f c Pl:Addr}{fd:Qn}{N ps:List Str}{k:Nat}{sp:Sp}(F:FunC K x qual st f fd c Pl)(S:Zp N ps (Zk st)) 
 (B:∀ (A:Qz) (outer:List Env) (s:Qd) (H:Hp) (vs:List V) (Q:VK) (E:XK),Room k (A.deeper (Pe qual (Zk st) s.heap.objs.size f (.ref c)))->sp vs H Q E ->
  ∃ t,PSs (ZN ZF P w K mg base N qual (Zk st) f (.ref c) A outer s H E).nox (Xx st) t/\t { nx:=fun _ H'=>Q .non H',rt:=Q } (start N vs) H) (len:∀ vs H Q E,sp vs H Q E->vs.length=ps.length:=by intro _ _ _ _ h;first | (cases h;subst_vars;rfl) | (repeat (first | exact congrArg JI h.1 | (obtain ⟨_,h⟩:=h)))):FnOk P w K mg base ZF (k+1) f fd ps sp:=by
 obtain ⟨oc,od,kV,W,pm,an,Z,U,rfl,lk,I⟩:=F.ex
 refine Zgh lk I S len fun A outer s H vs Q E J G=>?_
 obtain ⟨t,h,q⟩:=B A outer s H vs Q E J G
 exact ⟨t,h.nox,q⟩
theorem FunC.fn {x qual:Str}{st:Stmt}{f c Pl:Addr}{fd:Qn}(F:FunC K x qual st f fd c Pl):Fun K x qual st f fd:=by
 obtain ⟨U,S,kV,I,Z,W,J,G,e,lk,B⟩:=F.ex
 exact ⟨⟨U,S,kV,I,Z,W,.ref c,J,G,e,lk,B⟩,F.kp⟩
end
theorem ZkF {X:Cx}{st:Stmt}:PS X st (fun _ _ _=>False):=fun _ _ _ _ _ _ h=>h.elim
structure TF (H H':Hp):Prop where
 tup:∀ b xs,H b=some (.tup xs)->H' b=some (.tup xs)
 frz:∀ b o u,H b=some (.frz o u)->H' b=some (.frz o u)
theorem TF.trans {H H1 H2:Hp}(a:TF H H1)(b:TF H1 H2):TF H H2:=⟨fun x xs h=>b.tup x xs (a.tup x xs h),fun x o u h=>b.frz x o u (a.frz x o u h)⟩
theorem Same.tf {H H':Hp}(h:Same H H'):TF H H':=⟨fun b _ e=>h b _ e,fun b _ _ e=>h b _ e⟩
theorem Grown.tf {Pl:Addr}{H H':Hp}{ps:Array Qb}(h:Grown Pl H H')(e:H Pl=some (.tbl ps)):TF H H' :=
 ⟨fun b _ y=>h b _ (fun z=>by rw [z,e] at y;cases y) y,fun b _ _ y=>h b _ (fun z=>by rw [z,e] at y;cases y) y⟩
theorem LamAt.tbl {H:Hp}{Pl:Addr}{lpos:Pos}{qual:Str}(h:LamAt H Pl lpos qual):∃ ps,H Pl=some (.tbl ps):=by
 rcases h with h | ⟨_,h,_⟩
 ·exact ⟨_,h⟩
 ·exact ⟨_,h⟩
theorem ZeA {H:Hp}{l:Addr}{xs:List V}{o:HO}(h:H l=some (.lst xs)):TF H (upd H l o) :=
 ⟨fun b _ y=>by rw [Zg (fun z=>by rw [z,h] at y;cases y)];exact y,fun b _ _ y=>by rw [Zg (fun z=>by rw [z,h] at y;cases y)];exact y⟩
theorem ZlY {H:Hp}{l:Addr}{xs:List (Zo×V)}{o:HO}(h:H l=some (.dK xs)):TF H (upd H l o) :=
 ⟨fun b _ y=>by rw [Zg (fun z=>by rw [z,h] at y;cases y)];exact y,fun b _ _ y=>by rw [Zg (fun z=>by rw [z,h] at y;cases y)];exact y⟩
theorem SqT.tf {K:Qa}{H H':Hp}{a:Addr}{xs:List V}(h:SqT K H a xs)(t:TF H H'):SqT K H' a xs:=by
 rcases h with (h | ⟨o,h⟩) | h
 ·exact .inl (.inl (t.tup _ _ h))
 ·exact .inl (.inr ⟨o,t.frz _ _ _ h⟩)
 ·exact .inr h
inductive Nd where
 | bare
 | leaf (m:Int) (ps:List (Str×V))
 | fork (qs:List Nat)
def Nd.parts:Nd->List Nat
 | .fork qs=>qs
 | _=>[]
def Nd.pairs:Nd->List (Str×V)
 | .leaf _ ps=>ps
 | _=>[]
def Nd.hasM (n:Int):Nd->Bool
 | .leaf m _=>decide (m=n)
 | _=>false
def PairT (H:Hp)(ts:List Addr)(ps:List (Str×V)):Prop:=ts.length=ps.length/\∀(i:Nat)(a:Addr)(p:Str×V),ts[i]?=some a->ps[i]?=some p->H a=some (.tup [.str p.1,p.2])
def PairsAt (H:Hp)(t:Addr)(ps:List (Str×V)):Prop:=∃ o ts,H t=some (.frz o (.tup (ts.map V.ref)))/\o.dict=none/\PairT H ts ps
def NodeAt (K:Qa)(H:Hp)(a:Addr):Nd->Prop
 | .bare=>SqT K H a [.str "bare"]
 | .leaf m ps=>∃ t,SqT K H a [.str "leaf",.int m,.ref t]/\PairsAt H t ps
 | .fork qs=>∃ t,SqT K H a [.str "fork",.ref t]/\SqT K H t (qs.map fun q:Nat=>V.int (q:Int))/\qs.length=4
theorem PairT.tf {H H':Hp}{ts:List Addr}{ps:List (Str×V)}(h:PairT H ts ps)(t:TF H H'):PairT H' ts ps:=⟨h.1,fun i a p e1 B=>t.tup _ _ (h.2 i a p e1 B)⟩
theorem PairsAt.tf {H H':Hp}{t:Addr}{ps:List (Str×V)}(h:PairsAt H t ps)(f:TF H H'):PairsAt H' t ps:=by
 obtain ⟨o,ts,e,d,p⟩:=h
 exact ⟨o,ts,f.frz _ _ _ e,d,p.tf f⟩
theorem NodeAt.tf {K:Qa}{H H':Hp}{a:Addr}{n:Nd}(h:NodeAt K H a n)(f:TF H H'):NodeAt K H' a n:=by
 cases n with
 | bare=>exact SqT.tf h f
 | leaf m ps=>obtain ⟨t,e,p⟩:=h;exact ⟨t,e.tf f,p.tf f⟩
 | fork qs=>obtain ⟨t,e,p,l⟩:=h;exact ⟨t,e.tf f,p.tf f,l⟩
inductive WU (K:Qa)(vs:List V)(H:Hp)(Q:VK)(w_3:XK):Prop
 | mk (a:Addr) (n:Nd):vs=[.ref a]->NodeAt K H a n->(∀ t H',Same H H'->SqT K H' t (n.parts.map fun q:Nat=>V.int (q:Int))->Q (.ref t) H')->WU K vs H Q w_3
inductive XY (K:Qa)(vs:List V)(H:Hp)(Q:VK)(w_3:XK):Prop
 | mk (a:Addr) (n:Nd):vs=[.ref a]->NodeAt K H a n->(∀ t H',Same H H'->PairsAt H' t n.pairs->Q (.ref t) H')->XY K vs H Q w_3
inductive UP (K:Qa)(vs:List V)(H:Hp)(Q:VK)(w_3:XK):Prop
 | mk (a:Addr) (n:Nd) (m:Int):vs=[.ref a,.int m]->NodeAt K H a n->Q (.bl (n.hasM m)) H->UP K vs H Q w_3
inductive WA (K:Qa)(vs:List V)(H:Hp)(Q:VK)(w_3:XK):Prop
 | mk (l:Addr) (qs:List Nat):vs=[.ref l]->(H l=some (.lst (qs.map fun q:Nat=>V.int (q:Int))))->qs.length=4->(∀ a H',Same H H'->NodeAt K H' a (.fork qs)->Q (.ref a) H')->WA K vs H Q w_3
end L2
namespace L2
open PySem
def CompV (J:It)(tc:TT)(te:TE)(σ:St)(D:Addr)(Q:VK)(H1:Hp):Prop :=
 ∃ W : Nat->Nat->List V->Hp->Prop,(∃ m,W 0 m [] (upd H1 D (.lst [])))/\∀ i m ys H2,W i m ys H2 ->
  (J.stop i H2/\Q (.ref D) H2)\/(J.go i H2/\∃ (N:VK) (M:Hp->Prop),(∀ y H4,N y H4->H4 D=some (.lst ys)/\ys.length < Qj/\∃ m',m' < m/\W (i+1) m' (ys++[y]) (upd H4 D (.lst (ys++[y]))))/\(∀ H4,M H4->∃ m',m' < m/\W (i+1) m' ys H4) /\
   ∀ v H3,J.yld i H2 v H3->tc (σ++[some v]) H3 fun b H4=>if b=true then te (σ++[some v]) H4 N else M H4)
def ZiH (wi:TI)(tc:TT)(te:TE):TE:=fun σ H Q=>wi σ H fun J H1=>∀ D,H1 D=none->CompV J tc te σ D Q H1
theorem CompV.n {J:It}{tc:TT}{te:TE}{σ:St}{D:Addr}{Q:VK}{H:Hp}{n:Nat}(S:σ.length=n)(h:CompV J tc te σ D Q H):Zbe J (Vb n) tc te 1 (fun σ B=>∃ w,B=σ++[w]) σ D Q H:=by
 obtain ⟨W,w0,t⟩:=h
 refine ⟨W,w0,fun i m ys H2 U=>(t i m ys H2 U).imp (fun z=>z) fun I=>?_⟩
 obtain ⟨go,N,M,hN,hM,Z⟩:=I
 refine ⟨go,N,M,hN,hM,fun ws v G hl y=>?_⟩
 match ws,hl with
 | [w],_ =>
  show (∃ w',(σ++[w]).set n (some v)=σ++[w'])/\tc ((σ++[w]).set n (some v)) G _
  rw [set1 S]
  exact ⟨⟨_,rfl⟩,Z v G y⟩
section
variable {X:Cx}{elt iter cnd:Expr}{x:Str}{px pos:Pos}{scope:Scope}{wi:TI}{te:TE}{tc:TT}
theorem ZjN (O:CompOk X scope x)(W:X.calm=true)(hi:PI X (.Name x px) iter wi)(U:∀ I C G B S,PT (VA X scope x I C G B S) cnd tc)(Z:∀ I C G B S,PE (VA X scope x I C G B S) elt te)
 (hs:∀ v,GN iter X.env v=pure v:=by intro _;rfl):PE X (.ListComp elt [⟨.Name x px,iter,[cnd],0⟩] scope pos) (ZiH wi tc te) :=
 Zed (CW:=fun J σ D Q H=>CompV J tc te σ D Q H) O W hi (fun _ _ _ _ _ hl h=>h.n hl) ok1 (Zef O) (fun I C G B S=>.inr ⟨_,rfl,U I C G B S⟩) Z hs
theorem ZaE {i:Nat}{y:Str}{py I:Pos}(O:CompOk X scope x)(hc:X.calm=true)(hN:X.N.Nodup)(Z:X.N[i]?=some y)(hy:Loc X.env.scope y)(hi:PI X (.Name x px) iter wi)(W:∀ S C G B U,PT (VA X scope x S C G B U) cnd tc)(he:∀ S C G B U,PE (VA X scope x S C G B U) elt te)
 (hsw:Ta (.ListComp elt [⟨.Name x px,iter,[cnd],0⟩] scope pos) (some (.Name y py)) I.line X.env=pure true) (hf:X.fn y=true\/X.env.scope.names.lookup y=some .local:=by first | exact .inl rfl | exact .inr rfl | assumption)
 (hs:∀ v,GN iter X.env v=pure v:=by intro _;rfl):PS X (.Assign [.Name y py] (.ListComp elt [⟨.Name x px,iter,[cnd],0⟩] scope pos) I) (ZgR (ZiH wi tc te) (Vb i)) :=
 ZeN (CW:=fun J σ D Q H=>CompV J tc te σ D Q H) O hc hN Z hy hi (fun _ _ _ _ _ hl h=>h.n hl) ok1 (Zef O) (fun S C G B U=>.inr ⟨_,rfl,W S C G B U⟩) he hsw hf hs
end
theorem Zhs {K:Qa}{a:Addr}{xs:List V}{tc:TT}{te:TE}{σ:St}{D:Addr}{Q:VK}{H:Hp}(hn:xs.length<=Qj)(B:Nat->List V->Hp->Prop)(h0:B 0 [] (upd H D (.lst [])))
 (U:∀ i ys H,B i ys H->ys.length<=i/\SqT K H a xs)
 (Z:∀ i x ys H,xs[i]?=some x->B i ys H->tc (σ++[some x]) H fun b J=>if b=true then te (σ++[some x]) J fun y G=>G D=some (.lst ys)/\B (i+1) (ys++[y]) (upd G D (.lst (ys++[y]))) else B (i+1) ys J) (W:∀ ys H,B xs.length ys H->Q (.ref D) H):CompV (Itt K a) tc te σ D Q H:=by
 refine ⟨fun i m ys H=>m=xs.length - i/\i<=xs.length/\B i ys H,⟨xs.length,by simp,QC _,h0⟩,?_⟩
 rintro i m ys H2 ⟨rfl,hi,p⟩
 obtain ⟨S,q⟩:=U i ys _ p
 by_cases I:i < xs.length
 ·refine .inr ⟨⟨xs,xs[i],q,by simp [I]⟩,_,_,fun y G (q:G D=some (.lst ys)/\B (i+1) (ys++[y]) (upd G D (.lst (ys++[y]))))=>⟨q.1,by omega,xs.length - (i+1),by omega,rfl,I,q.2⟩,fun G (q:B (i+1) ys G)=>⟨xs.length - (i+1),by omega,rfl,I,q⟩,fun v J y=>?_⟩
  obtain ⟨e,y⟩:=y
  subst e
  exact Z i v ys _ (y xs q) p
 ·have e:i=xs.length:=by omega
  subst e
  exact .inl ⟨⟨xs,q,Qg _⟩,W ys H2 p⟩
theorem Zge {K:Qa}{a:Addr}{xs:List V}{tc:TT}{te:TE}{σ:St}{D:Addr}{Q:VK}{H:Hp}(hn:xs.length<=Qj)(B:Nat->List V->Hp->Prop)(h0:B 0 [] (upd H D (.lst [])))
 (U:∀ i ys H,B i ys H->ys.length<=i/\SqL K H a xs)
 (Z:∀ i x ys H,xs[i]?=some x->B i ys H->tc (σ++[some x]) H fun b J=>if b=true then te (σ++[some x]) J fun y G=>G D=some (.lst ys)/\B (i+1) (ys++[y]) (upd G D (.lst (ys++[y]))) else B (i+1) ys J) (W:∀ ys H,B xs.length ys H->Q (.ref D) H):CompV (Itl K a) tc te σ D Q H:=by
 refine ⟨fun i m ys H=>m=xs.length - i/\i<=xs.length/\B i ys H,⟨xs.length,by simp,QC _,h0⟩,?_⟩
 rintro i m ys H2 ⟨rfl,hi,p⟩
 obtain ⟨S,q⟩:=U i ys _ p
 by_cases I:i < xs.length
 ·refine .inr ⟨⟨xs,xs[i],q,by simp [I]⟩,_,_,fun y G (q:G D=some (.lst ys)/\B (i+1) (ys++[y]) (upd G D (.lst (ys++[y]))))=>⟨q.1,by omega,xs.length - (i+1),by omega,rfl,I,q.2⟩,fun G (q:B (i+1) ys G)=>⟨xs.length - (i+1),by omega,rfl,I,q⟩,fun v J y=>?_⟩
  obtain ⟨e,y⟩:=y
  subst e
  exact Z i v ys _ (y xs q) p
 ·have e:i=xs.length:=by omega
  subst e
  exact .inl ⟨⟨xs,q,Qg _⟩,W ys H2 p⟩
end L2
namespace L2
open PySem PySem.Spec PyProof.Rows
section
variable {X:Cx}{elt iter tg:Expr}{xa xb:Str}{pos:Pos}{scope:Scope}{wi:TI}{te:TE}{g:TG}
end
section
variable {X:Cx}{elt iter tg cnd:Expr}{xa xb:Str}{pos:Pos}{scope:Scope}{wi:TI}{te:TE}{tc:TT}{g:TG}
end
end L2
namespace L2
open PySem
def YM:HO->Bool
 | .tup _=>false
 | .frz _ _=>false
 | .own _=>false
 | .met _ _=>false
 | .rng _ _=>false
 | .ext _=>false
 | _=>true
def WY (H h:Hp):Hp:=fun b=>match h b with
 | some o=>if YM o=true then none else H b
 | none=>H b
def one (p:Addr)(o:HO):Hp:=fun b=>if b=p then some o else none
theorem one_some {p b:Addr}{o u:HO}:one p o b=some u↔b=p/\o=u:=by
 unfold one
 by_cases h:b=p
 ·rw [if_pos h];exact ⟨fun z=>⟨h,QE z⟩,fun z=>by rw [z.2]⟩
 ·rw [if_neg h];exact ⟨fun z=>(by cases z),fun z=>absurd z.1 h⟩
abbrev YD:=Addr->Hp->Prop
abbrev Rs:=List (Addr×YD)
def Sep:Rs->Hp->Prop
 | [],_=>True
 | (a,R)::Δ,H=>∃ h,Same h H/\R a h/\Sep Δ (WY H h)
theorem cut_some {H h:Hp}{b:Addr}{o:HO}:WY H h b=some o↔H b=some o/\∀ u,h b=some u->YM u=false:=by
 unfold WY
 cases e:h b with
 | none=>exact ⟨fun z=>⟨z,fun u q=>by cases q⟩,fun z=>z.1⟩
 | some v =>
  cases m:YM v with
  | true=>show (if YM v=true then none else H b)=some o↔_;rw [if_pos m];exact ⟨fun z=>(by cases z),fun z=>(by have:=z.2 v rfl;rw [m] at this;cases this)⟩
  | false=>show (if YM v=true then none else H b)=some o↔_;rw [if_neg (by rw [m];decide)];exact ⟨fun z=>⟨z,fun u q=>(by cases q;exact m)⟩,fun z=>z.1⟩
theorem Zbm {H h:Hp}:Same (WY H h) H:=fun b o e=>(cut_some.mp e).1
theorem ZdO {H H' h:Hp}(s:Same H H'):Same (WY H h) (WY H' h):=fun b o e=>let ⟨x,y⟩:=cut_some.mp e;cut_some.mpr ⟨s _ _ x,y⟩
theorem Sep.mono:∀{Δ:Rs}{H H':Hp},Sep Δ H->Same H H'->Sep Δ H'
 | [],_,_,_,_=>trivial
 | (_,_)::_,_,_,⟨h,l,r,S⟩,s=>⟨h,l.trans s,r,S.mono (ZdO s)⟩
theorem Sep.swap {a b:Addr}{R T:YD}{Δ:Rs}{H:Hp}(S:Sep ((a,R)::(b,T)::Δ) H):Sep ((b,T)::(a,R)::Δ) H:=by
 obtain ⟨h,l,r,g,m,t,S⟩:=S
 refine ⟨g,m.trans Zbm,t,h,fun c o e=>cut_some.mpr ⟨l _ _ e,fun u q=>?_⟩,r,S.mono fun c o e=>?_⟩
 ·obtain ⟨G,U⟩:=cut_some.mp (m _ _ q)
  have B:=l _ _ e
  rw [G] at B;cases B
  exact U _ e
 ·obtain ⟨e1,B⟩:=cut_some.mp e
  obtain ⟨J,I⟩:=cut_some.mp e1
  exact cut_some.mpr ⟨cut_some.mpr ⟨J,B⟩,I⟩
theorem Sep.tail {a:Addr}{R:YD}{Δ:Rs}{H:Hp}(S:Sep ((a,R)::Δ) H):Sep Δ H:=by
 obtain ⟨h,l,r,S⟩:=S
 exact S.mono Zbm
class Pull (a:Addr) (Δ:Rs) (R:outParam YD) (Δ':outParam Rs):Prop where
 out:∀ {H},Sep Δ H->Sep ((a,R)::Δ') H
instance (priority:=1000) Pull.here {a:Addr} {R:YD} {Δ:Rs}:Pull a ((a,R)::Δ) R Δ:=⟨fun S=>S⟩
instance (priority:=900) Pull.there {a b:Addr} {R T:YD} {Δ Δ':Rs} [P:Pull a Δ R Δ']:Pull a ((b,T)::Δ) R ((b,T)::Δ') :=
 ⟨fun S=>by
  obtain ⟨h,l,r,S⟩:=S
  exact Sep.swap ⟨h,l,r,P.out S⟩⟩
theorem Sep.pull {Δ Δ':Rs}{H:Hp}{R:YD}(S:Sep Δ H)(a:Addr)[P:Pull a Δ R Δ']:Sep ((a,R)::Δ') H:=P.out S
theorem Sep.drop {Δ Δ':Rs}{H:Hp}{R:YD}(S:Sep Δ H)(a:Addr)[P:Pull a Δ R Δ']:Sep Δ' H:=(P.out S).tail
class Up (R:YD):Prop where
 up:∀ {a:Addr} {H H':Hp},R a H->Same H H'->R a H'
theorem Sep.get {Δ Δ':Rs}{H:Hp}{R:YD}(S:Sep Δ H)(a:Addr)[P:Pull a Δ R Δ'][U:Up R]:R a H:=by
 obtain ⟨h,l,r,_⟩:=P.out S
 exact U.up r l
def Pt (o:HO):YD:=fun a h=>h a=some o
abbrev ZX (xs:List V):YD:=Pt (.lst xs)
abbrev Uv (kv:List (Zo×V)):YD:=Pt (.dK kv)
instance {o:HO}:Up (Pt o):=⟨fun h s=>s _ _ h⟩
theorem Sep.new {Δ:Rs}{H:Hp}(S:Sep Δ H){p:Addr}(hp:H p=none)(o:HO):Sep ((p,Pt o)::Δ) (upd H p o):=by
 refine ⟨one p o,fun b u e=>?_,one_some.mpr ⟨rfl,rfl⟩,S.mono fun b u e=>?_⟩
 ·obtain ⟨rfl,rfl⟩:=one_some.mp e;exact Zf
 ·have hb:=Zr e hp
  exact cut_some.mpr ⟨by rw [Zg hb];exact e,fun v q=>absurd (one_some.mp q).1 hb⟩
theorem Sep.made {Δ:Rs}{H H':Hp}(S:Sep Δ H)(s:Same H H'){p:Addr}{o:HO}(hp:H p=none)(e:H' p=some o):Sep ((p,Pt o)::Δ) H':=by
 refine ⟨one p o,fun b u q=>?_,one_some.mpr ⟨rfl,rfl⟩,S.mono fun b u q=>?_⟩
 ·obtain ⟨rfl,rfl⟩:=one_some.mp q;exact e
 ·have hb:=Zr q hp
  exact cut_some.mpr ⟨s _ _ q,fun v q=>absurd (one_some.mp q).1 hb⟩
theorem Sep.put {Δ Δ':Rs}{H:Hp}{o:HO}(S:Sep Δ H)(a:Addr)(o':HO)[P:Pull a Δ (Pt o) Δ'](m:YM o=true:=by rfl):Sep ((a,Pt o')::Δ') (upd H a o'):=by
 obtain ⟨h,l,r,S⟩:=P.out S
 refine ⟨one a o',fun b u q=>?_,one_some.mpr ⟨rfl,rfl⟩,S.mono fun b u q=>?_⟩
 ·obtain ⟨rfl,rfl⟩:=one_some.mp q;exact Zf
 ·obtain ⟨B,G⟩:=cut_some.mp q
  have hb:b≠a:=fun z=>by
   have:=G o (by rw [z];exact r)
   rw [m] at this;cases this
  exact cut_some.mpr ⟨by rw [Zg hb];exact B,fun v q=>absurd (one_some.mp q).1 hb⟩
theorem Sep.say {Δ Δ':Rs}{H:Hp}{R:YD}(S:Sep Δ H)(a:Addr)(T:YD)[P:Pull a Δ R Δ'](f:∀ h,R a h->T a h):Sep ((a,T)::Δ') H:=by
 obtain ⟨h,l,r,S⟩:=P.out S
 exact ⟨h,l,f h r,S⟩
theorem Sep.call {Δ:Rs}{H H':Hp}{a:Addr}{R T:YD}{L:List Addr}(S:Sep ((a,R)::Δ) H)(k:∀ b o,b ∉ L->H b=some o->H' b=some o)
 (f:∀ h,Same h H->R a h->(∀ b∈L,∃ o,h b=some o/\YM o=true)/\∃ h',Same h' H'/\T a h'/\∀ b o,h' b=some o->YM o=true->b∈L\/H b=none\/∃ u,h b=some u/\YM u=true):Sep ((a,T)::Δ) H':=by
 obtain ⟨h,l,r,S⟩:=S
 obtain ⟨U,h',l',t,Z⟩:=f h l r
 refine ⟨h',l',t,S.mono fun b o e=>?_⟩
 obtain ⟨e1,B⟩:=cut_some.mp e
 have hb:b ∉ L:=fun z=>by
  obtain ⟨u,J,I⟩:=U b z
  rw [B u J] at I;cases I
 refine cut_some.mpr ⟨k b o hb e1,fun u q=>?_⟩
 cases m:YM u with
 | false=>rfl
 | true =>
  rcases Z b u q m with z | z | ⟨v,W,G⟩
  ·exact absurd z hb
  ·rw [e1] at z;cases z
  ·rw [B v W] at G;cases G
abbrev Bx (n:Nat):YD:=fun a h=>BoxAt h a n
instance {n:Nat}:Up (Bx n):=⟨fun h s=>h.same s⟩
theorem Sep.box {Δ:Rs}{H H':Hp}{p:Addr}{n m:Nat}(S:Sep ((p,Bx n)::Δ) H)(k:Kp p H H')(B:BoxAt H' p m):Sep ((p,Bx m)::Δ) H':=by
 refine S.call (L:=[p]) (fun b o nb e=>k b o (fun z=>nb (by simp [z])) e) fun h l r=>⟨fun b hb=>?_,?_⟩
 ·rw [mem_singleton.mp hb]
  obtain ⟨x,y,z,e,_⟩:=r
  exact ⟨_,e,rfl⟩
 ·obtain ⟨x,y,z,e,w⟩:=B
  refine ⟨one p (.lst [.int x,.int y,.int z]),fun b u q=>?_,⟨x,y,z,one_some.mpr ⟨rfl,rfl⟩,w⟩,fun b o q _=>.inl (by simp [(one_some.mp q).1])⟩
  obtain ⟨rfl,rfl⟩:=one_some.mp q;exact e
inductive ZcB (M:Int)(vs:List V)(H:Hp)(Q:VK)(w_3:XK):Prop
 | mk (p:Addr) (n:Nat) (m:Int) (Δ:Rs):vs=[.ref p,.int m]->Sep ((p,Bx n)::Δ) H->n<=1000000->0 < m->m < M->(∀ (r:Int) (H':Hp),0<=r->r < m->Sep ((p,Bx (n+1))::Δ) H'->Q (.int r) H')->ZcB M vs H Q w_3
theorem ZnR {M:Int}{vs:List V}{H:Hp}{Q:VK}{E:XK}(h:ZcB M vs H Q E):VX M vs H Q E:=by
 obtain ⟨p,n,m,Δ,e,S,h1,h2,G,q⟩:=h
 exact ⟨p,n,m,e,S.get p,h1,h2,G,fun r H' a b B k=>q r H' a b (S.box k B)⟩
theorem ZgC {x:V}{u:Qb}(h:Zgd u=some x):RelV x u:=by
 cases u<;>first | (cases h;exact rfl) | (cases h;exact ⟨_,rfl⟩) | cases h
theorem ZaG:∀{xs:List V}{us:List Qb},us.map Zgd=xs.map some->Vals xs us
 | [],[],_=>.nil
 | [],_::_,h=>by cases h
 | _::_,[],h=>by cases h
 | x::xs,u::us,h=>by
  rw [map_cons,map_cons,List.cons.injEq] at h
  exact .cons (ZgC h.1) (ZaG h.2)
def Zdy (K:Qa)(a:Addr)(vs:List V):Bool:=match K.lookup a with
 | some ⟨.type "tuple",_,.seq its _,_⟩=>decide (its.size<=100000)&&decide (its.toList.map Zgd=vs.map some)
 | _=>false
theorem ZeB {K:Qa}{a:Addr}{vs:List V}(h:Zdy K a vs=true)(H:Hp):SqT K H a vs:=by
 unfold Zdy at h
 split at h
 ·rename_i B n _ G
  simp only [QJ,decide_eq_true_eq] at h
  exact .inr ⟨_,B,n,G,rfl,rfl,Qr h.1 (by decide),ZaG h.2⟩
 ·cases h
structure Yi (mg:Str->Option Qb):Prop where
 len:mg "len"=none
 abs:mg "abs"=none
 int:mg "int"=none
 range:mg "range"=none
 min:mg "min"=none
 max:mg "max"=none
 repr:mg "repr"=none
 enumerate:mg "enumerate"=none
 ord:mg "ord"=none
 list:mg "list"=none
 tuple:mg "tuple"=none
 dict:mg "dict"=none
 sorted:mg "sorted"=none
 sum:mg "sum"=none
 all:mg "all"=none
 any:mg "any"=none
 divmod:mg "divmod"=none
 str:mg "str"=none
 isinstance:mg "isinstance"=none
 set:mg "set"=none
 zip:mg "zip"=none
 reversed:mg "reversed"=none
 bool:mg "bool"=none
abbrev DTk (P:Qi)(w:Qu)(K:Qa)(mg:Str->Option Qb)(base:Heap)(k:Nat):Prop:=Def P w K mg base k "_law_take" ["_law_box_here","_law_many"] (ZcB 4611686018427387904)
theorem FnOk.conv {P:Qi}{w:Qu}{K:Qa}{mg:Str->Option Qb}{base:Heap}{k:Nat}{f:Addr}{fd:Qn}{ps:List Str}{sp sp':Sp}(F:FnOk P w K mg base ZF k f fd ps sp)(h:∀ vs H Q E,sp' vs H Q E->sp vs H Q E):FnOk P w K mg base ZF k f fd ps sp' :=
 ⟨fun vs H Q E z=>F.len vs H Q E (h vs H Q E z),fun A outer s H args us vs Q E B I hb G z=>F.run A outer s H args us vs Q E B I hb G (h vs H Q E z)⟩
theorem Def.conv {P:Qi}{w:Qu}{K:Qa}{mg:Str->Option Qb}{base:Heap}{k:Nat}{x:Str}{ps:List Str}{sp sp':Sp}(D:Def P w K mg base k x ps sp)(h:∀ vs H Q E,sp' vs H Q E->sp vs H Q E):Def P w K mg base k x ps sp' :=
 let ⟨f,fd,F,b,kp,m⟩:=D;⟨f,fd,F.conv h,b,kp,m⟩
theorem Zhm {B:Type}{xs:List B}{r:Int}{v:B}(G:0<=r)(h:xs[r.toNat]?=some v):YG xs r=some v:=by
 have z:YG xs ((r.toNat:Nat):Int)=some v:=ZI h
 rwa [show ((r.toNat:Nat):Int)=r by omega] at z
theorem Wj {n m:Nat}(h:n<=m)(B:m<=100000:=by decide):n<=sizeLine:=Qr (Qr h B) (by decide)
theorem Xa {n m:Nat}(h:n<=m)(B:m<=100000:=by decide):n < sizeLine:=QK (Qr h B) (by decide)
def DefM (P:Qi)(w:Qu)(K:Qa)(mg:Str->Option Qb)(base:Heap)(k:Nat)(C:Addr)(m:Str)(ps:List Str)(sp:Sp):Prop:=∃ f fd,FnOk P w K mg base ZF k f fd ps sp/\Binds K fd ps []/\Vy K C m f
theorem DefM.mono {P:Qi}{w:Qu}{K:Qa}{mg:Str->Option Qb}{base:Heap}{j k:Nat}{C:Addr}{m:Str}{ps:List Str}{sp:Sp}(D:DefM P w K mg base j C m ps sp)(h:j<=k):DefM P w K mg base k C m ps sp :=
 let ⟨f,fd,F,b,q⟩:=D;⟨f,fd,F.mono h,b,q⟩
section
variable {X:Cx}{k:Nat}{C:Addr}{m:Str}{ps:List Str}{sp:Sp}{pos apos:Pos}{o e:Expr}{es:List Expr}{ta:TE}{t:TA}
theorem ZU {pl:Sem Bool}(D:DefM X.prog X.w X.K X.mg X.base k C m ps sp)(c:Cls X.K C)(J:Room k X.A)(U:PE X o ta)(W:PA X (e::es) t)
 (B:QA (e::es) X.env=(false,eval e X.env)::QA es X.env:=by rfl) (G:(GG pos (QA es X.env)).any (·.1)=false:=by rfl)
 (S:eval (.Call (.Attribute o m apos) (e::es) [] pos) X.env=(do
  let I <- eval o X.env
  Tr apos.atName
  let (f,first) <- JM [I] (Tb I m pl)
  TW pos f first (GG pos (QA (e::es) X.env)) (JQ pos (GO [] X.env))):=by rfl) :
 PE X (.Call (.Attribute o m apos) (e::es) [] pos) (Zdx C m sp [] E0 ta t):=by
 obtain ⟨f,fd,F,b,q⟩:=D
 exact ZlC U c q F J b .nil Zdn W B G S
end
def Kq (S:List Addr)(H H':Hp):Prop:=∀ b o,b ∉ S->H b=some o->H' b=some o
theorem Kq.trans {S:List Addr}{H H1 H2:Hp}(a:Kq S H H1)(b:Kq S H1 H2):Kq S H H2:=fun x o n h=>b x o n (a x o n h)
theorem Kq.sub {S B:List Addr}{H H':Hp}(a:Kq S H H')(h:∀ b∈S,b∈B):Kq B H H':=fun x o n e=>a x o (fun z=>n (h x z)) e
theorem Same.kq {S:List Addr}{H H':Hp}(h:Same H H'):Kq S H H':=fun b o _ e=>h b o e
theorem Zbw {H:Hp}{a:Addr}{o:HO}:Kq [a] H (upd H a o):=fun b u n e=>by rw [Zg (fun z=>n (by simp [z]))];exact e
theorem tn:¬ (("nodes":Str)="tables"):=by decide +kernel
def ZaP (ln dt:Addr):List (Str×V):=Xq "tables" (.ref dt) (Xq "nodes" (.ref ln) [])
theorem XI (B G:Addr):(ZaP B G).lookup ("nodes":Str)=some (.ref B):=by unfold ZaP;rw [Xb,if_neg tn,Xb,if_pos rfl]
theorem Zhz (G B:Addr):(ZaP G B).lookup ("tables":Str)=some (.ref B):=by unfold ZaP;rw [Xb,if_pos rfl]
theorem ZT (G B:Addr){m:Str}(h1:¬ m="tables")(h2:¬ m="nodes"):(ZaP G B).lookup m=none:=by
 unfold ZaP
 rw [Xb,if_neg h1,Xb,if_neg h2]
 rfl
structure StoreAt (K:Qa)(C st ln dt:Addr)(H:Hp)(nds:List Nd)(tabs:List (Zo×V)):Prop where
 ob:∃ dx,H st=some (.ins C dx (ZaP ln dt))
 nl:∃ as:List Addr,H ln=some (.lst (as.map V.ref))/\as.length=nds.length/\∀ (i:Nat) (a:Addr) (n:Nd),as[i]?=some a->nds[i]?=some n->NodeAt K H a n
 tb:H dt=some (.dK tabs)
theorem StoreAt.keep {K:Qa}{C st I G:Addr}{H H':Hp}{nds:List Nd}{B:List (Zo×V)}(S:StoreAt K C st I G H nds B)(h:Same H H'):StoreAt K C st I G H' nds B:=by
 obtain ⟨⟨dx,e⟩,⟨as,U,l,J⟩,W⟩:=S
 exact ⟨⟨dx,h _ _ e⟩,⟨as,h _ _ U,l,fun i a n x y=>(J i a n x y).tf h.tf⟩,h _ _ W⟩
theorem StoreAt.kq {K:Qa}{C st I G:Addr}{H H':Hp}{nds:List Nd}{B:List (Zo×V)}{L:List Addr}(S:StoreAt K C st I G H nds B)(k:Kq L H H')(t:TF H H')(h1:st ∉ L)(h2:I ∉ L)(U:G ∉ L):StoreAt K C st I G H' nds B:=by
 obtain ⟨⟨dx,e⟩,⟨as,W,l,J⟩,Z⟩:=S
 exact ⟨⟨dx,k _ _ h1 e⟩,⟨as,k _ _ h2 W,l,fun i a n x y=>(J i a n x y).tf t⟩,k _ _ U Z⟩
theorem Grown.kq {Pl:Addr}{H H':Hp}(g:Grown Pl H H'):Kq [Pl] H H':=fun b o n e=>g b o (fun z=>n (by simp [z])) e
theorem LamAt.kq {H H':Hp}{Pl:Addr}{lpos:Pos}{q:Str}{L:List Addr}(h:LamAt H Pl lpos q)(k:Kq L H H')(B:∀ b∈L,∃ xs,H b=some (.lst xs)):LamAt H' Pl lpos q:=by
 rcases h with h | ⟨c,h,h2⟩
 ·exact .inl (k _ _ (fun z=>by obtain ⟨_,e⟩:=B _ z;rw [h] at e;cases e) h)
 ·exact .inr ⟨c,k _ _ (fun z=>by obtain ⟨_,e⟩:=B _ z;rw [h] at e;cases e) h,k _ _ (fun z=>by obtain ⟨_,e⟩:=B _ z;rw [h2] at e;cases e) h2⟩
theorem ZjY {κ:Type}[DecidableEq κ]{kvs:List (κ×V)}{k:κ}{v:V}:(Ye kvs k v).length<=kvs.length+1:=by
 unfold Ye
 split
 ·rw [length_map];omega
 ·rw [length_append];exact Qg _
theorem Zch {G:Type}{xs:List G}{r:Int}(I:0<=r)(h1:r < (xs.length:Int)):∃ v,YG xs r=some v/\v∈xs:=by
 have B:r.toNat < xs.length:=by omega
 have z:YG xs ((r.toNat:Nat):Int)=some xs[r.toNat]:=ZI (getElem?_eq_getElem B)
 have e:((r.toNat:Nat):Int)=r:=by omega
 rw [e] at z
 exact ⟨_,z,Pf B⟩
def IsVal:V->Prop
 | .int i=>i.natAbs < 10 ^ 30
 | .str x=>x.length<=40/\x.cps.toList.all VP=true
 | _=>False
def Zdz:V->Bool
 | .int i=>decide (i.natAbs < 10 ^ 30)
 | .str x=>decide (x.length<=40)&&x.cps.toList.all VP
 | _=>false
theorem Uc {v:V}(h:Zdz v=true):IsVal v:=by
 cases v with
 | int i=>exact of_decide_eq_true (p:=i.natAbs < 10 ^ 30) h
 | str x =>
  have h':(decide (x.length<=40)&&x.cps.toList.all VP)=true:=h
  simp only [QJ,decide_eq_true_eq] at h'
  exact h'
 | _=>cases h
theorem IsVal.b31 {i:Int}(h:IsVal (.int i)):i.natAbs<=10 ^ 31:=Qr (Gu (show i.natAbs < 10 ^ 30 from h)) (by decide)
inductive ZcC (vs:List V)(H:Hp)(Q:VK)(w_3:XK):Prop
 | mk (p:Addr) (n:Nat):vs=[.ref p]->BoxAt H p n->n<=900000->(∀ (v:V) (H':Hp),IsVal v->BoxAt H' p (n+50)->Kp p H H'->Q v H')->ZcC vs H Q w_3
def Zkx:List Stmt->Str
 | .Assign _ (.Constant (.str x) _ _) _::_=>x
 | _::r=>Zkx r
 | []=>Str.empty
theorem FnOk.ex {P:Qi}{w:Qu}{K:Qa}{mg:Str->Option Qb}{base:Heap}{k:Nat}{f:Addr}{fd:Qn}{ps:List Str}{ok:List Str->Prop}{sp:List Str->Sp}(F:∀ NS,ok NS->FnOk P w K mg base ZF k f fd ps (sp NS)) :
 FnOk P w K mg base ZF k f fd ps (fun vs H Q E=>∃ NS,ok NS/\sp NS vs H Q E) :=
 ⟨fun vs H Q E ⟨NS,N,h⟩=>(F NS N).len vs H Q E h,fun A outer s H args us vs Q E B I hb G ⟨NS,N,h⟩=>(F NS N).run A outer s H args us vs Q E B I hb G h⟩
def Zcb (P:Qi)(w:Qu)(K:Qa)(mg:Str->Option Qb)(base:Heap)(k:Nat)(C:Addr)(x:Str)(ps:List Str)(sp:Sp):Prop:=∃ f fd,FnOk P w K mg base ZF k f fd ps sp/\Binds K fd ps []/\Mk K C f/\mg x=some (.ref C)
theorem Zdo {X:Cx}{k:Nat}{C:Addr}{x:Str}{ps:List Str}{sp:Sp}{p pos:Pos}(D:Zcb X.prog X.w X.K X.mg X.base k C x ps sp)(G:Room (k+1) X.A)(I:Gl X x:=by rfl)(B:(x == ("__debug__":Str))=false:=by decide) :
 PE X (.Call (.Name x p) [] [] pos) (ZkM C sp [] E0 XS):=by
 obtain ⟨f,fd,F,b,M,m⟩:=D
 exact ZjO M F G I m b .nil Zdn B
theorem SqL.obj {K:Qa}{H:Hp}{a:Addr}{xs:List V}(h:SqL K H a xs):(∀ H',SqL K H' a xs)\/∃ o,H a=some o/\(∀ tb,o≠.tbl tb)/\∀ H',H' a=some o->SqL K H' a xs:=by
 rcases h with (h | ⟨o,h⟩) | h
 ·exact .inr ⟨_,h,(fun tb z=>by cases z),fun H' e=>.inl (.inl e)⟩
 ·exact .inr ⟨_,h,(fun tb z=>by cases z),fun H' e=>.inl (.inr ⟨o,e⟩)⟩
 ·exact .inl fun H'=>.inr h
theorem ZcR {H H':Hp}{a:Addr}(s:Same H H')(h:H' a=none):H a=none:=by
 cases e:H a with
 | none=>rfl
 | some o=>rw [s _ _ e] at h;cases h
end L2
namespace L2
open PySem PySem.Spec PyProof.Rows
theorem Sep.nest {a:Addr}{Δ:Rs}:∀{Γ:Rs}{H h:Hp},Same h H->Sep Γ h->Sep Δ (WY H h)->Sep (Γ++Δ) H
 | [],_,_,_,_,S=>S.mono Zbm
 | (b,T)::Γ,H,h,l,⟨g,m,t,G⟩,S=>by
  refine ⟨g,m.trans l,t,Sep.nest (a:=a) (h:=WY h g) (ZdO l) G (S.mono fun c o e=>?_)⟩
  obtain ⟨e1,B⟩:=cut_some.mp e
  refine cut_some.mpr ⟨cut_some.mpr ⟨e1,fun u q=>B u (m _ _ q)⟩,fun u q=>B u (cut_some.mp q).1⟩
theorem Sep.pack' {Δ:Rs}:∀{Γ:Rs}{H:Hp},Sep (Γ++Δ) H->∃ h,Same h H/\Sep Γ h/\Sep Δ (WY H h)
 | [],H,S=>⟨fun _=>none,fun b o e=>(by cases e),trivial,S.mono fun b o e=>cut_some.mpr ⟨e,fun u q=>(by cases q)⟩⟩
 | (b,T)::Γ,H,⟨g,m,t,S⟩=>by
  obtain ⟨h',I,G,S⟩:=Sep.pack' S
  refine ⟨fun c=>match g c with | some o=>some o | none=>h' c,fun c o e=>?_,⟨g,fun c o e=>?_,t,G.mono fun c o e=>?_⟩,S.mono fun c o e=>?_⟩
  ·cases q:g c with
   | some u=>simp only [q] at e;cases e;exact m _ _ q
   | none=>simp only [q] at e;exact (cut_some.mp (I _ _ e)).1
  ·simp only [e]
  ·obtain ⟨e1,B⟩:=cut_some.mp (I _ _ e)
   refine cut_some.mpr ⟨?_,B⟩
   cases q:g c with
   | some u=>simp only [q];rw [m _ _ q] at e1;exact e1
   | none=>simp only [q];exact e
  ·obtain ⟨e1,B⟩:=cut_some.mp e
   obtain ⟨U,J⟩:=cut_some.mp e1
   refine cut_some.mpr ⟨U,fun u q=>?_⟩
   cases z:g c with
   | some v=>simp only [z] at q;cases q;exact J _ z
   | none=>simp only [z] at q;exact B _ q
theorem Sep.pack {a:Addr}{Γ Δ:Rs}{H:Hp}{R:YD}(S:Sep (Γ++Δ) H)(f:∀ h,Sep Γ h->R a h):Sep ((a,R)::Δ) H:=by
 obtain ⟨h,l,G,S⟩:=Sep.pack' S
 exact ⟨h,l,f h G,S⟩
section
variable {X:Cx}
end
section
variable {X:Cx}{k:Nat}{C:Addr}{x m:Str}{ps:List Str}{sp:Sp}{p pos apos:Pos}{o:Expr}{ta:TE}
theorem We {pl:Sem Bool}(D:DefM X.prog X.w X.K X.mg X.base k C m ps sp)(c:Cls X.K C)(G:Room k X.A)(J:PE X o ta)
 (I:eval (.Call (.Attribute o m apos) [] [] pos) X.env=(do
  let B <- eval o X.env
  Tr apos.atName
  let (f,first) <- JM [B] (Tb B m pl)
  TW pos f first (GG pos (QA [] X.env)) (JQ pos (GO [] X.env))):=by rfl) :
 PE X (.Call (.Attribute o m apos) [] [] pos) (Zdx C m sp [] E0 ta XS):=by
 obtain ⟨f,fd,F,b,q⟩:=D
 exact ZjP J c q F G b .nil Zdn I
end
section
variable {X:Cx}
end
inductive ZfO (i j k:Nat)(D:Yl)(σ:St)(vs:List V)(H1:Hp):Prop
 | mk (u v w:_):vs=[u,v,w]->D.nx (((σ.set i (some u)).set j (some v)).set k (some w)) H1->ZfO i j k D σ vs H1
def Zpm (i j k:Nat)(ta:TA):TS:=fun D σ H=>ta σ H fun vs H1=>ZfO i j k D σ vs H1
theorem ZlK {X:Cx}{pos:Pos}{i j k:Nat}{x y z:Str}{a b c:Expr}{ta:TA}{px py W pt:Pos}{kt k2 pt2}(hc:X.calm=true)(Z:X.N.Nodup)(hi:X.N[i]?=some x)(hj:X.N[j]?=some y)(hk:X.N[k]?=some z)(hij:i≠j)(hik:i≠k)(hjk:j≠k)
 (hx:X.env.scope.names.lookup x=some .local) (hy:X.env.scope.names.lookup y=some .local) (hz:X.env.scope.names.lookup z=some .local) (ha:PA X [a,b,c] ta)
 (hw:swappedStores [.Tuple [.Name x px,.Name y py,.Name z W] kt pt] (.Tuple [a,b,c] k2 pt2) X.env=pure (some [x,y,z]))
 (hs:swapsWithSole [.Tuple [.Name x px,.Name y py,.Name z W] kt pt] (.Tuple [a,b,c] k2 pt2) pos.line X.env=pure false:=by rfl) :
 PS X (.Assign [.Tuple [.Name x px,.Name y py,.Name z W] kt pt] (.Tuple [a,b,c] k2 pt2) pos) (Zpm i j k ta):=by
 intro pins s σ H D I h
 rw [exec_Assign_arm]
 refine Qf (GD ?_)
 rw [hs]
 refine Qf (Qx ?_)
 rw [if_neg (by decide)]
 refine Qf (Tuple_ (Zt (ha _ pins s σ H _ I h) fun us s1 zz=>?_))
 obtain ⟨vs,H1,I1,r1,S⟩:=zz
 obtain ⟨v1,v2,v3,e1,S⟩:=S
 subst e1
 obtain ⟨B,J,G,rfl,rv1,rv2,rv3⟩:∃ B J G,us=[B,J,G]/\RelV v1 B/\RelV v2 J/\RelV v3 G:=by
  cases r1 with
  | cons p q =>
   cases q with
   | cons p' q' =>
    cases q' with
    | cons p'' q'' =>
     cases q''
     exact ⟨_,_,_,rfl,p,p',p''⟩
 refine Tv ?_ (by show 3<=Qj;decide)
 have I2:Inv X pins σ H1 { s1 with heap:=s1.heap.push { cls:=.type "tuple",data:=.seq [B,J,G].toArray } }:=I1.kept (t':=s1.toks) fun b o e=>Qe _ e
 rw [hw]
 refine Qf (Qx ?_)
 show Qq (Qt X.prog X.w) X.A (do rule "assign.swapped-stores";let items <- unpackItems (.ref s1.heap.objs.size) 3 none;RD [fun v=>Tl X.env z v,fun v=>Tl X.env y v,fun v=>Tl X.env x v] items.reverse;pure Flow.next) _ _ _
 refine Qf (wpAny_rule (Qf (unpackItems_tuple (items:=#[B,J,G]) (I.ok.hd hc) (IsTup.new s1.heap _) fun h' U=>?_)))
 have I3:=I2.kept (h':=h') (t':=s1.toks) fun b o e=>U b o (Qy (Qh e)) e
 show Qq _ _ (RD [fun v=>Tl X.env z v,fun v=>Tl X.env y v,fun v=>Tl X.env x v] [G,J,B] >>= fun _=>pure Flow.next) _ _ _
 refine Qf (JG (Rg (XR I3 Z hk (.inl hz) rv3 (fun s2 I4=>?_) (.inr hz))))
 refine JG (Rg (XR I4 Z hj (.inl hy) rv2 (fun s3 I5=>?_) (.inr hy)))
 refine JG (Rg (XR I5 Z hi (.inl hx) rv1 (fun s4 I6=>Oi (Qx ?_)) (.inr hx)))
 rw [RI _ _ (Gg hjk),RI _ _ (Gg hik),RI _ _ (Gg hij)] at I6
 exact ⟨_,H1,I6,S⟩
section
variable {X:Cx}
end
end L2
namespace L2
open PySem
theorem Sep.newE {Δ:Rs}{H H2:Hp}{o:HO}(S:Sep Δ H){p:Addr}(hp:H p=none)(e:upd H p o=H2):Sep ((p,Pt o)::Δ) H2:=e ▸ S.new hp o
theorem Sep.putE {Δ Δ':Rs}{H H2:Hp}{o o':HO}{a:Addr}(S:Sep Δ H)(e:upd H a o'=H2)[P:Pull a Δ (Pt o) Δ'](m:YM o=true:=by rfl):Sep ((a,Pt o')::Δ') H2:=e ▸ S.put a o' m
theorem ZeK {lo:Int}{n:Nat}{te:TE}{σ:St}{D:Addr}{Q:VK}{H:Hp}{Δ:Rs}(hn:n<=Qj)(S:Sep Δ H)(hD:H D=none)(J:Nat->List V->Rs->Prop)(h0:J 0 [] Δ)
 (hs:∀ i ys Δ H,i < n->ys.length=i->J i ys Δ->Sep ((D,ZX ys)::Δ) H->te (σ++[some (.int (lo+i))]) H fun y G=>∃ Δ',J (i+1) (ys++[y]) Δ'/\Sep ((D,ZX ys)::Δ') G)
 (hd:∀ ys Δ H,J n ys Δ->ys.length=n->Sep ((D,ZX ys)::Δ) H->Q (.ref D) H):CompW (Itr lo n) te σ D Q H:=by
 refine ⟨fun i m ys H=>m=n - i/\i<=n/\ys.length=i/\∃ Δ,J i ys Δ/\Sep ((D,ZX ys)::Δ) H,⟨n,by simp,QC _,rfl,Δ,h0,S.new hD _⟩,?_⟩
 rintro i m ys H2 ⟨rfl,hi,U,Δ,j,S⟩
 by_cases B:i < n
 ·refine .inr ⟨B,_,fun y G (q:∃ Δ',J (i+1) (ys++[y]) Δ'/\Sep ((D,ZX ys)::Δ') G)=>?_,fun v H3 y=>?_⟩
  ·obtain ⟨Δ',W,I⟩:=q
   exact ⟨I.get D,by omega,n - (i+1),by omega,rfl,B,by simp [U],Δ',W,I.put D _⟩
  ·obtain ⟨e1,Z⟩:=y
   subst e1 Z
   exact hs i ys Δ _ B U j S
 ·have e:i=n:=by omega
  exact .inl ⟨by show n<=i;omega,hd ys Δ H2 (e ▸ j) (by omega) S⟩
theorem ZeJ {K:Qa}{a:Addr}{xs:List V}{tc:TT}{te:TE}{σ:St}{D:Addr}{Q:VK}{H:Hp}{Δ:Rs}(hn:xs.length<=Qj)(S:Sep Δ H)(hD:H D=none)(J:Nat->List V->Rs->Prop)(h0:J 0 [] Δ)
 (ha:∀ i ys Δ H,J i ys Δ->Sep ((D,ZX ys)::Δ) H->SqL K H a xs)
 (hs:∀ i x ys Δ H,xs[i]?=some x->ys.length<=i->J i ys Δ->Sep ((D,ZX ys)::Δ) H->tc (σ++[some x]) H fun b W=>if b=true then te (σ++[some x]) W fun y G=>∃ Δ',J (i+1) (ys++[y]) Δ'/\Sep ((D,ZX ys)::Δ') G else ∃ Δ',J (i+1) ys Δ'/\Sep ((D,ZX ys)::Δ') W)
 (hd:∀ ys Δ H,J xs.length ys Δ->ys.length<=xs.length->Sep ((D,ZX ys)::Δ) H->Q (.ref D) H):CompV (Itl K a) tc te σ D Q H:=by
 refine ⟨fun i m ys H=>m=xs.length - i/\i<=xs.length/\ys.length<=i/\∃ Δ,J i ys Δ/\Sep ((D,ZX ys)::Δ) H,⟨xs.length,by simp,QC _,Qg _,Δ,h0,S.new hD _⟩,?_⟩
 rintro i m ys H2 ⟨rfl,hi,hl,Δ,j,S⟩
 have q:=ha i ys Δ H2 j S
 by_cases B:i < xs.length
 ·refine .inr ⟨⟨xs,xs[i],q,by simp [B]⟩,_,_,fun y G (q:∃ Δ',J (i+1) (ys++[y]) Δ'/\Sep ((D,ZX ys)::Δ') G)=>?_,fun G (q:∃ Δ',J (i+1) ys Δ'/\Sep ((D,ZX ys)::Δ') G)=>?_,fun v W y=>?_⟩
  ·obtain ⟨Δ',U,I⟩:=q
   exact ⟨I.get D,by omega,xs.length - (i+1),by omega,rfl,B,by simp;omega,Δ',U,I.put D _⟩
  ·obtain ⟨Δ',U,I⟩:=q
   exact ⟨xs.length - (i+1),by omega,rfl,B,by omega,Δ',U,I⟩
  ·obtain ⟨e1,Z⟩:=y
   subst e1
   exact hs i v ys Δ _ (Z xs q) hl j S
 ·have e:i=xs.length:=by omega
  exact .inl ⟨⟨xs,q,by omega⟩,hd ys Δ H2 (e ▸ j) (by omega) S⟩
end L2
namespace L2
open PySem PySem.W PySem.Spec PyProof.Rows
section
variable {prog:Qi}{w:Qu}{A:Qz}{E:Qb->Qd->Prop}{s:Qd}{a:Addr}{as:List Addr}{ks:List Str}{P:Rp->Qd->Prop}
end
section
variable {X:Cx}
end
end L2
namespace L2
open PySem
def Uw (x:Str):Prop:=1<=x.length/\x.length<=8/\x.cps.toList.all Zcm=true
theorem Wv (c:Nat):(⟨#[c]⟩:Str).length=1:=rfl
theorem Zec {P:Nat->Bool}:∀{l:List Str},(∀ z∈l,∃ c,z=⟨#[c]⟩/\P c=true)->(l.map (·.length)).sum=l.length/\(l.flatMap (·.cps.toList)).length=l.length/\(l.flatMap (·.cps.toList)).all P=true
 | [],_=>⟨rfl,rfl,rfl⟩
 | z :: r,h=>by
  obtain ⟨c,rfl,G⟩:=h z mem_cons_self
  obtain ⟨U,B,J⟩:=Zec (l:=r) fun y S=>h y (mem_cons_of_mem _ S)
  refine ⟨?_,?_,?_⟩
  ·rw [map_cons,RJ,U,length_cons];show 1+_=_;omega
  ·have I:((⟨#[c]⟩:Str)::r).flatMap (·.cps.toList)=c::r.flatMap (·.cps.toList):=rfl
   rw [I,length_cons,length_cons,B]
  ·rw [Tw,SD,J];simp [G]
theorem ZhH {P:Nat->Bool}{zs:List Str}(h:∀ z∈zs,∃ c,z=⟨#[c]⟩/\P c=true):(zs.map (·.length)).sum+zs.length * (Qw "").length<=2 * zs.length/\(Txt.join (Qw "") zs).length=zs.length/\(Txt.join (Qw "") zs).cps.toList.all P=true:=by
 obtain ⟨G,B,I⟩:=Zec h
 refine ⟨?_,?_,?_⟩
 ·rw [G];show _+_ * 0<=_;omega
 ·rw [Ym,WP,B]
 ·rw [WP];exact I
theorem ZaK {P:Nat->Bool}{x y:Str}(h1:x.cps.toList.all P=true)(h2:y.cps.toList.all P=true):(x++y).cps.toList.all P=true:=by
 rw [ZcE,SD,h1,h2];rfl
theorem Zeb {P:Nat->Bool}{c:Nat}(h:P c=true):(⟨#[c]⟩:Str).cps.toList.all P=true:=by
 show [c].all P=true;simp [h]
theorem ZbL {P:Nat->Bool}{x:Str}{lo hi:Option Int}(h:x.cps.toList.all P=true):(Txt.slice x lo hi).cps.toList.all P=true:=by
 rw [Uu]
 rw [all_eq_true] at h ⊢
 exact fun c B=>h c (Rh (Ri B))
theorem ZiB {x:Str}{k:Int}(J:0<=k)(h1:k<=x.length):(Txt.slice x none (some k)).length+(Txt.slice x (some k) none).length=x.length:=by
 have G:¬ k < 0:=by omega
 rw [Ym,Ym,Uu,Uu,Ym]
 rw [Ym] at h1
 have e1:HT.sIx x.cps.toList.length 0 none=0:=rfl
 have I:HT.sIx x.cps.toList.length x.cps.toList.length none=x.cps.toList.length:=rfl
 have B:∀ d,HT.sIx x.cps.toList.length d (some k)=k.toNat:=fun d=>by
  unfold HT.sIx
  simp only [G,if_false]
  omega
 rw [e1,I,B,B,length_take,length_take,TX,TX]
 omega
theorem Zcs {x:Str}{P:Nat->Bool}(I:x.cps.toList.all P=true){r:Int}(G:0<=r)(h1:r < x.length):∃ c,YG x.cps.toList r=some c/\P c=true:=by
 have B:r.toNat < x.cps.toList.length:=by rw [<- Ym];omega
 exact ⟨_,Zhm G (getElem?_eq_getElem B),all_eq_true.mp I _ (Pf B)⟩
def a26:Str:="abcdefghijklmnopqrstuvwxyz"
theorem WQ:a26.length=26:=by decide +kernel
theorem Zcf:a26.cps.toList.all Zcm=true:=by decide +kernel
theorem Zle {xs:List V}{r:Int}(G:0<=r)(h1:r < (xs.length:Int)):∃ x∈xs,YG xs r=some x:=by
 have B:r.toNat < xs.length:=by omega
 exact ⟨_,Pf B,Zhm G (getElem?_eq_getElem B)⟩
theorem Sep.le {Δ:Rs}{H:Hp}{p:Addr}{n m:Nat}(S:Sep ((p,Bx n)::Δ) H)(h:n<=m):Sep ((p,Bx m)::Δ) H:=by
 obtain ⟨g,l,r,S⟩:=S
 exact ⟨g,l,BoxAt.le r h,S⟩
inductive Vo (vs:List V)(H:Hp)(Q:VK)(w_3:XK):Prop
 | mk (p:Addr) (n:Nat) (Δ:Rs):vs=[.ref p]->Sep ((p,Bx n)::Δ) H->n<=900000->(∀ (v:V) (H':Hp),IsVal v->Sep ((p,Bx (n+50))::Δ) H'->Q v H')->Vo vs H Q w_3
theorem Zme {vs:List V}{H:Hp}{Q:VK}{E:XK}(h:Vo vs H Q E):ZcC vs H Q E:=by
 obtain ⟨p,n,Δ,e,S,h1,q⟩:=h
 exact ⟨p,n,e,S.get p,h1,fun v H' G B k=>q v H' G (S.box k B)⟩
inductive ZbN (K:Qa)(vs:List V)(H:Hp)(Q:VK)(w_3:XK):Prop
 | mk (a:Addr) (ns:List Int) (k:Int) (Δ:Rs):vs=[.ref a,.int k]->SqL K H a (ns.map V.int)->Sep Δ H->0<=k->k<=1000->(∀ (p:Addr) (H':Hp),Same H H'->Sep ((p,Bx 0)::Δ) H'->Q (.ref p) H')->ZbN K vs H Q w_3
theorem Zog {K:Qa}{vs:List V}{H:Hp}{Q:VK}{E:XK}(h:ZbN K vs H Q E):ZgI K vs H Q E:=by
 obtain ⟨a,J,k,Δ,e,I,S,h1,h2,q⟩:=h
 refine ⟨a,J,k,e,I,h1,h2,fun p H' hp B s=>q p H' s ?_⟩
 obtain ⟨x,y,z,G,w⟩:=B
 exact (S.made s hp G).say p (Bx 0) fun h r=>⟨x,y,z,r,w⟩
theorem Zji {xs:List V}{i:Nat}:UZ xs none (some (i:Int))=xs.take i:=by
 unfold UZ
 rw [HT.sIx_none,HT.sIx_nat,List.drop_zero,Nat.sub_zero]
 by_cases h:i<=xs.length
 ·rw [Nat.min_eq_left h]
 ·rw [Nat.min_eq_right (by omega),GA (Qg _),GA (by omega)]
inductive Stp where
 | set (x:Str) (v:V)
 | clr (x:Str)
def Stp.vs:Stp->List V
 | .set x v=>[.str "set",.str x,v]
 | .clr x=>[.str "clear",.str x]
def Stp.ok (NS:List Str):Stp->Prop
 | .set x v=>x∈NS/\IsVal v
 | .clr x=>x∈NS
class IsLst (R:YD) (k:Nat):Prop where
 lst:∀ {a h},R a h->∃ xs,h a=some (.lst xs)/\xs.length=k
theorem Zlb {i:Int}(h:i.natAbs<=10 ^ 31):i.natAbs.log2 < 1920/\(Qw (JO i)).length<=40:=by
 constructor
 ·by_cases z:i.natAbs=0
  ·rw [z];decide
  ·exact (Ra z).mpr (QK h (by decide +kernel))
 ·have e:=int_text_length_le10 (a:=i) (k:=32) (by decide) (QK h (by decide))
  rw [Ym,PV,length_map,String.length_toList]
  omega
theorem Zem (q c:Nat)(h:c < 128):(Ga q c).length<=4:=by
 by_cases e:(c == q || c == 92)=true
 ·unfold Ga;simp only [e,if_true];show 2<=4;decide
 ·have B:(c == 200 || c == 92)=false:=by
   simp only [PB,not_or,beq_iff_eq] at e
   simp only [Bool.or_eq_false_iff,beq_eq_false_iff_ne]
   exact ⟨by omega,e.2⟩
  have z:Ga q c=Ga 200 c:=by
   unfold Ga
   simp only [Bool.not_eq_true] at e
   simp only [e,B]
  rw [z]
  have all:∀ c:_root_.Fin 128,(Ga 200 c.val).length<=4:=by decide +kernel
  exact all ⟨c,h⟩
theorem Zkd {x:Str}(h:∀ c∈x.cps.toList,c < 128):(reprText x).length<=2+4 * x.length:=by
 rw [<- reprLen_eq,<- Array.foldl_toList,Ym]
 have B:∀ (l:List Nat) (n:Nat),(∀ c∈l,c < 128)->l.foldl (fun n c=>n+(Ga (reprQuote x) c).length) n<=n+4 * l.length:=by
  intro l
  induction l with
  | nil=>intro n _;simp
  | cons c r ih =>
   intro n G
   have h1:=Zem (reprQuote x) c (G c mem_cons_self)
   have h2:=ih (n+(Ga (reprQuote x) c).length) fun d I=>G d (mem_cons_of_mem _ I)
   rw [Nn,length_cons]
   omega
 exact B _ _ h
def Wa (v:V):Prop:=v=.non\/IsVal v
def WC:V->Sq
 | .int i=>.int i
 | .str x=>.str x
 | _=>.none
theorem Zfq {H:Hp}{v:V}(h:Wa v):DataOf H v (WC v):=by
 rcases h with rfl | h
 ·exact .non
 ·cases v<;>first | exact .int _ | exact .str _ | exact h.elim
structure Sml (d:Sq)(n k:Nat):Prop where
 sh:d.showable=true
 ln:d.shown.length<=n
 dp:d.depth<=k
theorem ZlV {x:Str}{n:Nat}(h:∀ c∈x.cps.toList,c < 128)(B:2+4 * x.length<=n)(k:Nat):Sml (.str x) n k:=⟨rfl,Qr (Zkd h) B,QC _⟩
theorem Zia {v:V}(h:Wa v)(k:Nat):Sml (WC v) 200 k:=by
 rcases h with rfl | h
 ·exact ⟨rfl,by show 4<=200;decide,QC _⟩
 ·cases v with
  | int i =>
   obtain ⟨h1,h2⟩:=Zlb (IsVal.b31 h)
   exact ⟨decide_eq_true h1,Qr h2 (by decide),QC _⟩
  | str x =>
   refine ZlV (fun c B=>?_) (by have:x.length<=40:=h.1;omega) k
   have:=all_eq_true.mp h.2 c B
   unfold VP at this
   simp only [QJ,decide_eq_true_eq] at this
   omega
  | _=>exact h.elim
theorem VQ:∀ ds:List Sq,SE ds=ds.map Jx
 | []=>rfl
 | d::r=>by rw [SE,VQ r];rfl
theorem UN:∀{ds:List Sq},(∀ d∈ds,d.showable=true)->Oc ds=true
 | [],_=>rfl
 | d::r,h=>by rw [Oc,h d mem_cons_self,UN fun e B=>h e (mem_cons_of_mem _ B)];rfl
theorem ZaA {k:Nat}:∀{ds:List Sq},(∀ d∈ds,d.depth<=k)->SG ds<=k
 | [],_=>QC _
 | d::r,h=>by
  have h1:=h d mem_cons_self
  have h2:=ZaA (k:=k) (ds:=r) fun e B=>h e (mem_cons_of_mem _ B)
  simp [SG];omega
theorem Zde {H:Hp}:∀{vs:List V},(∀ v∈vs,Wa v)->DatasOf H vs (vs.map WC)
 | [],_=>.nil
 | v::r,h=>.cons (Zfq (h v mem_cons_self)) (Zde fun u B=>h u (mem_cons_of_mem _ B))
def WX (K:Qa)(C:Addr)(nds:List Nd)(tabs:List (Zo×V)):YD:=fun st h=>nds[0]?=some .bare/\∃ ln dt,StoreAt K C st ln dt h nds tabs
def ZiW (lp:Pos)(q:Str):YD:=fun Pl h=>LamAt h Pl lp q
instance {K:Qa} {C:Addr} {nds:List Nd} {tabs:List (Zo×V)}:Up (WX K C nds tabs):=⟨fun ⟨h0,ln,dt,h⟩ s=>⟨h0,ln,dt,h.keep s⟩⟩
theorem LamAt.same' {H H':Hp}{Pl:Addr}{B:Pos}{q:Str}(h:LamAt H Pl B q)(s:Same H H'):LamAt H' Pl B q:=by
 rcases h with h | ⟨c,h1,h2⟩
 ·exact .inl (s _ _ h)
 ·exact .inr ⟨c,s _ _ h1,s _ _ h2⟩
def some_of (H:Hp)(L:List Addr):Hp:=fun b=>if b∈L then H b else match H b with
 | some o=>if YM o=true then none else some o
 | none=>none
theorem WT {H:Hp}{L:List Addr}:Same (some_of H L) H:=fun b o e=>by
 unfold some_of at e
 split at e
 ·exact e
 ·split at e
  ·rename_i o' h'
   split at e
   ·cases e
   ·cases e;exact h'
  ·cases e
theorem XV {H:Hp}{L:List Addr}{b:Addr}(h:b∈L):some_of H L b=H b:=by unfold some_of;rw [if_pos h]
theorem UO {H:Hp}{L:List Addr}{b:Addr}{o:HO}(e:H b=some o)(m:YM o=false):some_of H L b=some o:=by
 unfold some_of
 split
 ·exact e
 ·simp only [e,m,Gq,if_false]
theorem Wz {H:Hp}{L:List Addr}{b:Addr}{o:HO}(e:some_of H L b=some o)(m:YM o=true):b∈L:=by
 unfold some_of at e
 split at e
 ·assumption
 ·split at e
  ·split at e
   ·cases e
   ·rename_i h;cases e;exact absurd m h
  ·cases e
theorem ZfF {H:Hp}{L:List Addr}:TF H (some_of H L):=⟨fun b xs e=>UO e rfl,fun b o u e=>UO e rfl⟩
theorem Sep.stoLam {K:Qa}{C st Pl:Addr}{Z:Pos}{q:Str}{nds:List Nd}{U:List (Zo×V)}{Δ:Rs}{H:Hp}(S:Sep ((st,WX K C nds U)::(Pl,ZiW Z q)::Δ) H) :
 ∃ I J,StoreAt K C st I J H nds U/\nds[0]?=some .bare/\LamAt H Pl Z q/\∀ H' nds' G,StoreAt K C st I J H' nds' G->nds'[0]?=some .bare->LamAt H' Pl Z q->Kq [I,J,Pl] H H'->Sep ((st,WX K C nds' G)::(Pl,ZiW Z q)::Δ) H':=by
 obtain ⟨h1,l1,⟨b0,I,J,r1⟩,h2,l2,r2,S⟩:=S
 have r2':LamAt h2 Pl Z q:=r2
 refine ⟨I,J,r1.keep l1,b0,(LamAt.same' r2' l2).same' Zbm,fun H' nds' G S' b0' L' kq=>?_⟩
 obtain ⟨tb,etb⟩:=r2'.tbl
 obtain ⟨tb',B⟩:=L'.tbl
 obtain ⟨dx,ob⟩:=r1.ob
 obtain ⟨as,nl,_⟩:=r1.nl
 obtain ⟨dx',ob'⟩:=S'.ob
 obtain ⟨as',nl',W,nod'⟩:=S'.nl
 have nPl:Pl ∉ [st,I,J]:=fun z=>by
  simp only [mem_cons,Pg,or_false] at z
  rcases z with z | z | z
  ·rw [z,ob'] at B;cases B
  ·rw [z,nl'] at B;cases B
  ·rw [z,S'.tb] at B;cases B
 refine ⟨some_of H' [st,I,J],WT,⟨b0',I,J,⟨⟨dx',by rw [XV (by simp)];exact ob'⟩,⟨as',by rw [XV (by simp)];exact nl',W,fun i a n e1 e2=>(nod' i a n e1 e2).tf ZfF⟩,by rw [XV (by simp)];exact S'.tb⟩⟩,?_⟩
 have imm:∀ b o,H' b=some o->YM o=false->WY H' (some_of H' [st,I,J]) b=some o:=fun b o e m=>cut_some.mpr ⟨e,fun u z=>by have:=WT _ _ z;rw [e] at this;cases this;exact m⟩
 refine ⟨some_of (WY H' (some_of H' [st,I,J])) [Pl],WT,?_,S.mono fun b o e=>?_⟩
 ·have ePl:some_of (WY H' (some_of H' [st,I,J])) [Pl] Pl=H' Pl:=by
   rw [XV (by simp)]
   have:WY H' (some_of H' [st,I,J]) Pl=some (.tbl tb'):=cut_some.mpr ⟨B,fun u z=>by
    cases m:YM u with
    | false=>rfl
    | true=>exact absurd (Wz z m) nPl⟩
   rw [this,B]
  rcases L' with z | ⟨c,z1,z2⟩
  ·exact .inl (by rw [ePl];exact z)
  ·refine .inr ⟨c,by rw [ePl];exact z1,?_⟩
   exact UO (imm _ _ z2 rfl) rfl
 ·obtain ⟨e1,e2⟩:=cut_some.mp e
  obtain ⟨e3,e4⟩:=cut_some.mp e1
  have n1:b≠I:=fun z=>by have:=e4 _ (z ▸ nl);cases this
  have n2:b≠J:=fun z=>by have:=e4 _ (z ▸ r1.tb);cases this
  have n3:b≠Pl:=fun z=>by have:=e2 _ (z ▸ etb);cases this
  have n4:b≠st:=fun z=>by have:=e4 _ (z ▸ ob);cases this
  have e5:=kq b o (by simp [n1,n2,n3]) e3
  refine cut_some.mpr ⟨cut_some.mpr ⟨e5,fun u z=>?_⟩,fun u z=>?_⟩
  ·cases m:YM u with
   | false=>rfl
   | true=>have:=Wz z m;simp [n1,n2,n4] at this
  ·cases m:YM u with
   | false=>rfl
   | true=>have:=Wz z m;simp [n3] at this
def Xs (C:Addr)(fs:List (Str×V)):YD:=fun a h=>∃ dx,h a=some (.ins C dx fs)
instance {C:Addr} {fs:List (Str×V)}:Up (Xs C fs):=⟨fun ⟨dx,h⟩ s=>⟨dx,s _ _ h⟩⟩
structure Yp where
 ah:Nat
 st:Stp
 tb:Nat
 co:Nat
def UV (ss:List Stp):YD:=fun l h=>∃ as:List Addr,h l=some (.lst (V.non::as.map V.ref))/\as.length=ss.length/\∀(i:Nat)(a:Addr)(s:Stp),as[i]?=some a->ss[i]?=some s->h a=some (.tup s.vs)
instance {ss:List Stp}:Up (UV ss):=⟨fun ⟨as,e,l,h⟩ s=>⟨as,s _ _ e,l,fun i a x e1 e2=>s _ _ (h i a x e1 e2)⟩⟩
abbrev UL (st la ls lt lc:Addr):List (Str×V):=[("kept",.ref st),("aheads",.ref la),("steps",.ref ls),("tables",.ref lt),("costs",.ref lc)]
abbrev ZiY (K:Qa)(CR CS:Addr)(pls:List Yp)(nds:List Nd)(tabs:List (Zo×V))(r st la ls lt lc:Addr):Rs :=
 [(r,Xs CR (UL st la ls lt lc)),(st,WX K CS nds tabs),(la,ZX (V.non::pls.map fun q=>V.int (q.ah:Int))),(ls,UV (pls.map (·.st))),(lt,ZX (V.int 0::pls.map fun q=>V.int (q.tb:Int))),(lc,ZX (V.int 0::pls.map fun q=>V.int (q.co:Int)))]
def Vs (K:Qa)(CR CS:Addr)(pls:List Yp)(nds:List Nd)(tabs:List (Zo×V)):YD:=fun r h=>∃ st la ls lt lc,Sep (ZiY K CR CS pls nds tabs r st la ls lt lc) h
instance {K:Qa} {CR CS:Addr} {pls:List Yp} {nds:List Nd} {tabs:List (Zo×V)}:Up (Vs K CR CS pls nds tabs):=⟨fun ⟨st,la,ls,lt,lc,S⟩ s=>⟨st,la,ls,lt,lc,S.mono s⟩⟩
theorem Sep.roaO {K:Qa}{CR CS r:Addr}{pls:List Yp}{nds:List Nd}{B:List (Zo×V)}{Δ:Rs}{H:Hp}(S:Sep ((r,Vs K CR CS pls nds B)::Δ) H):∃ st I U lt J,Sep ((r,Xs CR (UL st I U lt J))::(st,WX K CS nds B)::(I,ZX (V.non::pls.map fun q=>V.int (q.ah:Int)))::(U,UV (pls.map (·.st)))::(lt,ZX (V.int 0::pls.map fun q=>V.int (q.tb:Int)))::(J,ZX (V.int 0::pls.map fun q=>V.int (q.co:Int)))::Δ) H:=by
 obtain ⟨h,l,⟨st,I,U,lt,J,G⟩,S⟩:=S
 exact ⟨st,I,U,lt,J,Sep.nest (a:=r) (Γ:=ZiY K CR CS pls nds B r st I U lt J) l G S⟩
theorem Sep.roaC {K:Qa}{CR CS r st I U lt J:Addr}{pls:List Yp}{nds:List Nd}{B:List (Zo×V)}{Δ:Rs}{H:Hp}(S:Sep ((r,Xs CR (UL st I U lt J))::(st,WX K CS nds B)::(I,ZX (V.non::pls.map fun q=>V.int (q.ah:Int)))::(U,UV (pls.map (·.st)))::(lt,ZX (V.int 0::pls.map fun q=>V.int (q.tb:Int)))::(J,ZX (V.int 0::pls.map fun q=>V.int (q.co:Int)))::Δ) H):Sep ((r,Vs K CR CS pls nds B)::Δ) H :=
 Sep.pack (Γ:=ZiY K CR CS pls nds B r st I U lt J) S fun h G=>⟨st,I,U,lt,J,G⟩
theorem Sep.imm {Δ:Rs}{H:Hp}{a:Addr}{o:HO}(S:Sep Δ H)(e:H a=some o)(m:YM o=false):Sep ((a,Pt o)::Δ) H:=by
 refine ⟨one a o,fun b u q=>?_,one_some.mpr ⟨rfl,rfl⟩,S.mono fun b u q=>cut_some.mpr ⟨q,fun v z=>?_⟩⟩
 ·obtain ⟨rfl,rfl⟩:=one_some.mp q;exact e
 ·obtain ⟨rfl,rfl⟩:=one_some.mp z;exact m
theorem Sep.updR {Δ Δ':Rs}{H:Hp}{R T:YD}(S:Sep Δ H)(a:Addr)(o':HO)[P:Pull a Δ R Δ'](m:∀ h,R a h->∃ o,h a=some o/\YM o=true)
 (f:∀ h,R a h->Same h H->∀ h',h' a=some o'->(∀ b o,b≠a->h b=some o->h' b=some o)->(∀ b o,b≠a->H b=some o->YM o=false->h' b=some o)->T a h'):Sep ((a,T)::Δ') (upd H a o'):=by
 obtain ⟨h,l,r,S⟩:=P.out S
 obtain ⟨o,ea,I⟩:=m h r
 refine ⟨fun b=>if b=a then some o' else match h b with | some u=>some u | none=>some_of H [] b,fun b u e=>?_,f h r l _ (if_pos rfl) (fun b u nb e=>?_) (fun b u nb e G=>?_),S.mono fun b u e=>?_⟩
 ·dsimp only at e
  by_cases hb:b=a
  ·rw [if_pos hb] at e;cases e;rw [hb];exact Zf
  ·rw [if_neg hb] at e
   rw [Zg hb]
   cases q:h b with
   | some z=>rw [q] at e;cases e;exact l _ _ q
   | none=>rw [q] at e;exact WT _ _ e
 ·rw [if_neg nb,e]
 ·rw [if_neg nb]
  cases q:h b with
  | some z=>have:=l _ _ q;rw [e] at this;cases this;rfl
  | none=>exact UO e G
 ·obtain ⟨e1,B⟩:=cut_some.mp e
  have hb:b≠a:=fun z=>by have:=B o (by rw [z];exact ea);rw [I] at this;cases this
  refine cut_some.mpr ⟨by rw [Zg hb];exact e1,fun v q=>?_⟩
  simp only [if_neg hb] at q
  cases z:h b with
  | some x=>rw [z] at q;cases q;exact B _ z
  | none =>
   rw [z] at q
   cases mm:YM v with
   | false=>rfl
   | true=>have:=Wz q mm;cases this
theorem Sep.stepApp {Δ Δ':Rs}{H:Hp}{W:List Stp}{s:Stp}{G:Addr}{as:List Addr}(S:Sep Δ H)(l:Addr)[P:Pull l Δ (UV W) Δ'](e:H l=some (.lst (V.non::as.map V.ref)))(es:H G=some (.tup s.vs)):Sep ((l,UV (W++[s]))::Δ') (upd H l (.lst (V.non::as.map V.ref++[V.ref G]))):=by
 refine S.updR l _ (fun h ⟨as,e,_⟩=>⟨_,e,rfl⟩) fun h r l' h' e1 e2 e3=>?_
 obtain ⟨as',Z,hl,hs⟩:=r
 have e5:=l' _ _ Z
 rw [e] at e5
 have e6:as.map V.ref=as'.map V.ref:=(List.cons.inj (HO.lst.inj (QE e5))).2
 refine ⟨as'++[G],?_,by rw [length_append,length_append,hl];rfl,fun i a x B I=>?_⟩
 ·rw [e1,map_append,e6];rfl
 ·have J:G≠l:=fun z=>by rw [z,e] at es;cases es
  by_cases hi:i < as'.length
  ·rw [getElem?_append_left hi] at B
   rw [getElem?_append_left (by omega)] at I
   have U:=hs i a x B I
   exact e2 _ _ (fun z=>by rw [z,Z] at U;cases U) U
  ·rw [getElem?_append_right (by omega)] at B I
   have h0:i - as'.length=0:=by
    cases z:i - as'.length with
    | zero=>rfl
    | succ j=>rw [z] at B;simp at B
   rw [h0] at B
   rw [show i - W.length=0 by omega] at I
   cases (show some G=some a from B)
   cases (show some s=some x from I)
   exact e3 _ _ J es rfl
def Stp.ap:Stp->(Str->Option V)->(Str->Option V)
 | .set x v,F=>fun y=>if y=x then some v else F y
 | .clr x,F=>fun y=>if y=x then none else F y
def envs (pls:List Yp):List (Str->Option V):=pls.foldl (fun es q=>es++[q.st.ap (es.getD q.ah fun _=>none)]) [fun _=>none]
theorem ZaO (pls:List Yp)(q:Yp):envs (pls++[q])=envs pls++[q.st.ap ((envs pls).getD q.ah fun _=>none)]:=by
 unfold envs;rw [List.foldl_append];rfl
theorem ZlS {α:Type}{P:List α->Prop}(h0:P [])(hs:∀ l a,P l->P (l++[a])):∀ l,P l:=by
 have key:∀ n (l:List α),l.length=n->P l:=by
  intro n
  induction n with
  | zero=>intro l h;rw [eq_nil_of_length_eq_zero h];exact h0
  | succ n ih =>
   intro l h
   have hne:l≠[]:=fun z=>by rw [z] at h;cases h
   rw [<- List.dropLast_concat_getLast hne]
   exact hs _ _ (ih _ (by rw [List.length_dropLast];omega))
 exact fun l=>key _ l rfl
theorem Ub (pls:List Yp):(envs pls).length=pls.length+1:=by
 induction pls using ZlS with
 | h0=>rfl
 | hs l q ih=>rw [ZaO,length_append,ih,length_append];rfl
end L2
namespace L2
open PySem PySem.Spec PyProof.Rows
section
variable {X:Cx}
end
mutual
inductive DatT (K:Qa)(H:Hp):V->Sq->Prop
 | non:DatT K H .non .none
 | int (i):DatT K H (.int i) (.int i)
 | str (x):DatT K H (.str x) (.str x)
 | tup {a xs ds}:SqT K H a xs->DatTs K H xs ds->DatT K H (.ref a) (.tuple ds)
inductive DatTs (K:Qa)(H:Hp):List V->List Sq->Prop
 | nil:DatTs K H [] []
 | cons {v d vs ds}:DatT K H v d->DatTs K H vs ds->DatTs K H (v::vs) (d::ds)
end
section
variable {X:Cx}{pins:List (Addr×Obj)}{σ:St}{H:Hp}{s:Qd}
mutual
theorem DatT.reads (I:Inv X pins σ H s):∀{v d}(u:Qb),DatT X.K H v d->RelV v u->d.hasDict=false/\∃ as,Reads s.heap u d as
 | _,_,u,.non,r=>by cases (show u=.none from r);exact ⟨rfl,_,.none⟩
 | _,_,u,.int i,r=>by obtain ⟨t,e⟩:=(show ∃ t,u=.int i t from r);subst e;exact ⟨rfl,_,.int i t⟩
 | _,_,u,.str x,r=>by obtain ⟨t,e⟩:=(show ∃ t,u=.str x t from r);subst e;exact ⟨rfl,_,.str x t⟩
 | _,_,u,.tup (a:=a) (xs:=xs) e q,r=>by
  cases (show u=.ref a from r)
  obtain ⟨B,S,⟨o,g,c,n,d⟩,_⟩:=I.tuple e
  obtain ⟨G,as,J⟩:=DatTs.reads I B q S
  exact ⟨by simpa [SY] using G,_,.tuple g c d (by simpa using J)⟩
theorem DatTs.reads (I:Inv X pins σ H s):∀{vs ds}(us:List Qb),DatTs X.K H vs ds->Vals vs us->JT ds=false/\∃ as,ReadsAll s.heap us ds as
 | _,_,_,.nil,.nil=>⟨rfl,_,.nil⟩
 | _,_,_,.cons r t,.cons rv tv=>by
  obtain ⟨B,as,J⟩:=DatT.reads I _ r rv
  obtain ⟨S,bs,G⟩:=DatTs.reads I _ t tv
  exact ⟨by simp [JT,B,S],_,.cons J G⟩
end
end
theorem Zeg (n:Nat):∀ ts:List Str,(∀ t∈ts,t.length<=n)->piled ts<=ts.length * (n+2)
 | [],_=>by simp [piled]
 | t::r,h=>by
  have h1:=Zeg n r fun x B=>h x (mem_cons_of_mem _ B)
  have h2:=h t mem_cons_self
  rw [length_cons,Nat.add_mul]
  simp only [piled] at h1 ⊢
  simp only [map_cons,RJ] at h1 ⊢
  omega
theorem ZiO {ds:List Sq}{n k:Nat}(h:∀ d∈ds,Sml d n k):Sml (.tuple ds) (3+ds.length * (n+2)) (k+1):=by
 refine ⟨UN fun d B=>(h d B).sh,?_,?_⟩
 ·show (tupleText (SE ds)).length<=_
  rw [VQ]
  have U:(Qw (if (ds.map Jx).length == 1 then ",)" else ")":String)).length<=2:=by split<;>decide
  have S:(Str.join ", " (ds.map Jx)).length<=ds.length * (n+2):=by
   cases ds with
   | nil=>show 0<=_;omega
   | cons d r =>
    have e:=join_length_add ((d::r).map Jx) (by simp)
    have p:=Zeg n ((d::r).map Jx) (fun t G=>by
     obtain ⟨x,I,rfl⟩:=mem_map.mp G
     exact (h x I).ln)
    rw [length_map] at p
    omega
  show (Qw "("++Str.join ", " (ds.map Jx)++Qw (if (ds.map Jx).length == 1 then ",)" else ")":String)).length<=_
  rw [XT,XT]
  have J:(Qw "(").length=1:=by decide
  omega
 ·have:=ZaA (k:=k) fun d B=>(h d B).dp
  show SG ds+1<=_
  omega
end L2
namespace L2
open PySem
end L2
namespace L2
open PySem PySem.W PySem.Spec PyProof.Rows
section
variable {X:Cx}
end
end L2
namespace L2
open PySem
inductive ZiI (t u:TS)(D:Yl)(σ:St)(H:Hp):Prop
 | mk (I:St->Hp->Prop):t { D with nx:=I } σ H->(∀ σ' H',I σ' H'->u D σ' H')->ZiI t u D σ H
def tCut (t u:TS):TS:=fun D σ H=>ZiI t u D σ H
theorem Zaq {X:Cx}{st:Stmt}{rest:List Stmt}{t u:TS}(h1:PS X st t)(h2:PSs X rest u):PSs X (st::rest) (tCut t u):=by
 intro pins s σ H D I h
 obtain ⟨J,h,g⟩:=h
 refine TQ (Zt (h1 pins s σ H { D with nx:=J } I h) fun f s1 q=>?_)
 cases f with
 | next =>
  obtain ⟨B,H',G,q⟩:=q
  exact h2 pins s1 B H' D G (g _ _ q)
 | ret v=>exact q
 | brk=>exact q
 | cont=>exact q
end L2
namespace L2
open PySem PySem.Spec PyProof.Rows
theorem US {G I:TS}{D:Yl}{σ:St}{H:Hp}(h:let B:Yl:=D;let S:St:=σ;let J:St->Hp->Prop:=I B;G { B with nx:=J } S H):(ZP G I) D σ H:=h
theorem zs3 {G J I:TS}{D:Yl}{σ:St}{H:Hp}(h:let B:Yl:=D;let S:St:=σ;let U:St->Hp->Prop:=I B;let W:St->Hp->Prop:=J { B with nx:=U };G { B with nx:=W } S H):(ZP G (ZP J I)) D σ H:=h
theorem zs5 {G W U I J:TS}{D:Yl}{σ:St}{H:Hp}(h:let B:Yl:=D;let S:St:=σ;let N4:St->Hp->Prop:=J B;let N3:St->Hp->Prop:=I { B with nx:=N4 };let Z:St->Hp->Prop:=U { B with nx:=N3 };let N1:St->Hp->Prop:=W { B with nx:=Z };G { B with nx:=N1 } S H):(ZP G (ZP W (ZP U (ZP I J)))) D σ H:=h
theorem zs6 {G Z W I J U:TS}{D:Yl}{σ:St}{H:Hp}(h:let B:Yl:=D;let S:St:=σ;let N5:St->Hp->Prop:=U B;let N4:St->Hp->Prop:=J { B with nx:=N5 };let N3:St->Hp->Prop:=I { B with nx:=N4 };let N2:St->Hp->Prop:=W { B with nx:=N3 };let N1:St->Hp->Prop:=Z { B with nx:=N2 };G { B with nx:=N1 } S H):(ZP G (ZP Z (ZP W (ZP I (ZP J U))))) D σ H:=h
theorem zs8 {J a2 a3 U Z W I G:TS}{D:Yl}{σ:St}{H:Hp}(h:let B:Yl:=D;let S:St:=σ;let N7:St->Hp->Prop:=G B;let N6:St->Hp->Prop:=I { B with nx:=N7 };let N5:St->Hp->Prop:=W { B with nx:=N6 };let N4:St->Hp->Prop:=Z { B with nx:=N5 };let N3:St->Hp->Prop:=U { B with nx:=N4 };let N2:St->Hp->Prop:=a3 { B with nx:=N3 };let N1:St->Hp->Prop:=a2 { B with nx:=N2 };J { B with nx:=N1 } S H):(ZP J (ZP a2 (ZP a3 (ZP U (ZP Z (ZP W (ZP I G))))))) D σ H:=h
theorem zs9 {a1 a2 W a4 J G I Z U:TS}{D:Yl}{σ:St}{H:Hp}(h:let B:Yl:=D;let S:St:=σ;let N8:St->Hp->Prop:=U B;let N7:St->Hp->Prop:=Z { B with nx:=N8 };let N6:St->Hp->Prop:=I { B with nx:=N7 };let N5:St->Hp->Prop:=G { B with nx:=N6 };let N4:St->Hp->Prop:=J { B with nx:=N5 };let N3:St->Hp->Prop:=a4 { B with nx:=N4 };let N2:St->Hp->Prop:=W { B with nx:=N3 };let N1:St->Hp->Prop:=a2 { B with nx:=N2 };a1 { B with nx:=N1 } S H):(ZP a1 (ZP a2 (ZP W (ZP a4 (ZP J (ZP G (ZP I (ZP Z U)))))))) D σ H:=h
theorem zs10 {a1 a2 Z a4 U I J a8 W G:TS}{D:Yl}{σ:St}{H:Hp}(h:let B:Yl:=D;let S:St:=σ;let N9:St->Hp->Prop:=G B;let N8:St->Hp->Prop:=W { B with nx:=N9 };let N7:St->Hp->Prop:=a8 { B with nx:=N8 };let N6:St->Hp->Prop:=J { B with nx:=N7 };let N5:St->Hp->Prop:=I { B with nx:=N6 };let N4:St->Hp->Prop:=U { B with nx:=N5 };let N3:St->Hp->Prop:=a4 { B with nx:=N4 };let N2:St->Hp->Prop:=Z { B with nx:=N3 };let N1:St->Hp->Prop:=a2 { B with nx:=N2 };a1 { B with nx:=N1 } S H):(ZP a1 (ZP a2 (ZP Z (ZP a4 (ZP U (ZP I (ZP J (ZP a8 (ZP W G))))))))) D σ H:=h
theorem zs11 {a1 a2 a3 a4 Z U W a8 a9 I G:TS}{D:Yl}{σ:St}{H:Hp}(h:let B:Yl:=D;let S:St:=σ;let J:St->Hp->Prop:=G B;let N9:St->Hp->Prop:=I { B with nx:=J };let N8:St->Hp->Prop:=a9 { B with nx:=N9 };let N7:St->Hp->Prop:=a8 { B with nx:=N8 };let N6:St->Hp->Prop:=W { B with nx:=N7 };let N5:St->Hp->Prop:=U { B with nx:=N6 };let N4:St->Hp->Prop:=Z { B with nx:=N5 };let N3:St->Hp->Prop:=a4 { B with nx:=N4 };let N2:St->Hp->Prop:=a3 { B with nx:=N3 };let N1:St->Hp->Prop:=a2 { B with nx:=N2 };a1 { B with nx:=N1 } S H):(ZP a1 (ZP a2 (ZP a3 (ZP a4 (ZP Z (ZP U (ZP W (ZP a8 (ZP a9 (ZP I G)))))))))) D σ H:=h
end L2
namespace K35
open PySem L2
def top (i:Nat):Stmt:=TN.main.body.getD i (.Pass ⟨0,0,0,0⟩)
abbrev c_RoadError___init__:Stmt:=ZA (top 2) 0
abbrev s_alike:Stmt:=top 22
abbrev s_mark:Stmt:=top 23
abbrev s_digit:Stmt:=top 24
abbrev s_leaf_of:Stmt:=top 29
abbrev s_fork_of:Stmt:=top 30
abbrev s_parts_in:Stmt:=top 31
abbrev s_pairs_in:Stmt:=top 32
abbrev s_has_mark:Stmt:=top 33
abbrev c_Store___init__:Stmt:=ZA (top 39) 0
abbrev c_Store_empty:Stmt:=ZA (top 39) 1
abbrev c_Store_put:Stmt:=ZA (top 39) 2
abbrev c_Store_without:Stmt:=ZA (top 39) 3
abbrev c_Store_looked:Stmt:=ZA (top 39) 4
abbrev c_Store_way:Stmt:=ZA (top 39) 7
abbrev c_Store_made:Stmt:=ZA (top 39) 9
abbrev c_Store_check_table:Stmt:=ZA (top 39) 10
abbrev c_Store_keep:Stmt:=ZA (top 39) 12
abbrev c_Store_as_table:Stmt:=ZA (top 39) 13
abbrev c_Store_put_in:Stmt:=ZA (top 39) 14
abbrev c_Store_fork_parts:Stmt:=ZA (top 39) 15
abbrev c_Store_taken_from:Stmt:=ZA (top 39) 16
abbrev c_Roads___init__:Stmt:=ZA (top 41) 0
abbrev c_Roads_put:Stmt:=ZA (top 41) 1
abbrev c_Roads_places:Stmt:=ZA (top 41) 3
abbrev c_Roads_ahead:Stmt:=ZA (top 41) 4
abbrev c_Roads_step:Stmt:=ZA (top 41) 5
abbrev c_Roads_table:Stmt:=ZA (top 41) 11
abbrev c_Roads_looked:Stmt:=ZA (top 41) 12
abbrev c_Roads_check_place:Stmt:=ZA (top 41) 18
abbrev c_Roads_go_on:Stmt:=ZA (top 41) 20
abbrev c_Tokens___init__:Stmt:=ZA (top 43) 0
abbrev c_Tokens_make:Stmt:=ZA (top 43) 1
abbrev c_Hall___init__:Stmt:=ZA (top 45) 0
abbrev c_Hall_declare:Stmt:=ZA (top 45) 1
abbrev c_Hall_roads:Stmt:=ZA (top 45) 3
abbrev c_Hall_worlds:Stmt:=ZA (top 45) 4
abbrev c_Hall_place:Stmt:=ZA (top 45) 5
abbrev c_Hall_now:Stmt:=ZA (top 45) 6
abbrev c_Hall_set_to:Stmt:=ZA (top 45) 11
abbrev c_Hall_look:Stmt:=ZA (top 45) 16
abbrev c_Hall_look_or:Stmt:=ZA (top 45) 17
abbrev c_Hall_look_in:Stmt:=ZA (top 45) 18
abbrev c_Hall_check_world:Stmt:=ZA (top 45) 20
abbrev c_Hall_check_setting:Stmt:=ZA (top 45) 21
abbrev c_Hall_value_in:Stmt:=ZA (top 45) 22
abbrev c_Hall_value_or_default:Stmt:=ZA (top 45) 23
abbrev s_l_cell_at:Stmt:=top 47
abbrev s_l_box:Stmt:=top 48
abbrev s_l_take:Stmt:=top 49
abbrev s_l_names:Stmt:=top 50
abbrev s_l_value:Stmt:=top 51
abbrev s_l_told:Stmt:=top 52
abbrev s_l_looks_right:Stmt:=top 53
abbrev s_law:Stmt:=top 54
section
variable {P:Qi}{w:Qu}{K:Qa}{mg:Str->Option Qb}{base:Heap}
theorem scC:Zp ["_law_script","_law_k"] ["_law_script","_law_k"] (Zk s_l_cell_at):={}
theorem Zlg {f:Addr}{fd:Qn}(F:Fun K "_law_cell_at" "_law_cell_at" s_l_cell_at f fd)(T:Yi mg):FnOk P w K mg base ZF 1 f fd ["_law_script","_law_k"] (Zeq K):=by
 refine F.ok scC (fun S A outer s H vs Q E Z h=>?_)
 obtain ⟨a,B,k,rfl,I,h0,q⟩:=h
 refine ⟨_,Zd (Yb (ZK Zdm (pv 1) (Zu Ya rfl T.len QU (Yz (pv 0) Za)) (ZL _)) (Zi (Zq (ZD ZE (pv 0) (pv 1) (fun _ _=>rfl)))) ZM)
  (Zi (Zq Zh)),?_⟩
 refine ⟨_,rfl,_,rfl,a,_,rfl,.inl I,_,_,rfl,rfl,_,rfl,?_⟩
 refine Wc (fun c=>?_) (fun c=>?_)
 ·have J:k < (((B.map V.int).length:Nat):Int):=of_decide_eq_true c
  rw [length_map] at J
  have U:k.toNat < B.length:=by omega
  have W:k=((k.toNat:Nat):Int):=by omega
  have G:YG (B.map V.int) k=some (.int B[k.toNat]):=by
   have z:YG (B.map V.int) ((k.toNat:Nat):Int)=some (.int B[k.toNat]):=ZI (by rw [getElem?_map,getElem?_eq_getElem U];rfl)
   rwa [<- W] at z
  exact ⟨_,rfl,_,rfl,a,_,_,_,rfl,rfl,I,G,q _⟩
 ·exact q 0
theorem scB:Zp ["_law_script","_law_k","_law_cell"] ["_law_script","_law_k"] (Zk s_l_box):={}
theorem ZmU {f:Addr}{fd:Qn}(F:Fun K "_law_box" "_law_box" s_l_box f fd)(T:Yi mg)(D:Def P w K mg base 1 "_law_cell_at" ["_law_script","_law_k"] (Zeq K)):FnOk P w K mg base ZF 2 f fd ["_law_script","_law_k"] (ZgI K):=by
 refine F.ok scB (fun J A outer s H vs Q E I h=>?_)
 obtain ⟨a,U,k,rfl,G,S,h1,q⟩:=h
 refine ⟨_,Zd (Zv (i:=2) scB.nd rfl (QD rfl) (ZJ D I (Yz (pv 0) (Yz (pv 1) Za))))
  (Zi (Zq (Yc (Yz (Zw WF (Zu ZdJ rfl T.abs (by decide +kernel) (Yz (pv 2) Za)) (YI Zhn rfl T.int (by decide +kernel) (Yz (Zag Zov (Zu ZdJ rfl T.abs (by decide +kernel) (Yz (pv 2) Za)) (Zw ZbC Zh Zh) (ZL _)) Za)))
   (Yz (Zw Yy (Zw Yy (Zw XL (pv 2) Zh) (Zw WF Zh (pv 1))) Zh) (Yz Zh Za)))))),?_⟩
 refine ⟨_,rfl,_,rfl,a,U,k,rfl,G,S,fun r=>?_⟩
 refine ⟨_,rfl,_,rfl,⟨_,rfl,_,rfl,_,_,rfl,rfl,⟨by decide,by decide,by decide⟩,_,_,rfl,rfl,.inr ⟨_,rfl,?_⟩⟩⟩
 generalize hb:decide ((10:Int) ^ (Int.toNat 18)<=(if r < 0 then -r else r))=B
 refine ⟨_,_,rfl,rfl,.inr (by cases B<;>exact ⟨by decide,by decide⟩),_,rfl,_,_,rfl,rfl,(by show (0:Int) < _;decide),_,rfl,_,_,rfl,rfl,.inl ⟨by decide,by decide⟩,_,_,rfl,rfl,_,_,rfl,rfl,(by show 3<=Qj;decide),fun p hp=>?_⟩
 refine q p _ hp ⟨_,_,0,Zf,?_,by decide,by decide⟩ (Zm hp _)
 cases B
 ·simp
 ·simp only [if_true,Int.mul_one];split<;>omega
theorem scT:Zp ["_law_box_here","_law_many","_law_found","_law_once","_law_twice"] ["_law_box_here","_law_many"] (Zk s_l_take):={}
theorem Zls {f:Addr}{fd:Qn}(F:Fun K "_law_take" "_law_take" s_l_take f fd):FnOk P w K mg base ZF 1 f fd ["_law_box_here","_law_many"] (VX 4611686018427387904):=by
 refine F.ok scT (fun cdv A outer s H vs Q E hr h=>?_)
 obtain ⟨p,n,m,rfl,⟨a,b,c,hp,U,W,hcn⟩,hn,I,J,q⟩:=h
 refine ⟨_,Zd (Yb (ZK Zow (ZD ZE (pv 0) Zh (fun _ _=>rfl)) Zh (ZL _))
     (Zd (Zv (i:=2) scT.nd rfl (QD rfl) (Zw XL (ZD ZE (pv 0) Zh (fun _ _=>rfl)) (pv 1)))
       (Zd (Wg (Zw ZjL (ZD ZE (pv 0) Zh (fun _ _=>rfl)) (pv 1)) (VL (pv 0) Zh Ug)) (Zi (Zq (pv 2))))) ZM)
   (Zd (Wg (Zw Yy (ZD ZE (pv 0) Zh (fun _ _=>rfl)) Zh) (VL (pv 0) Zh Ug))
   (Zd (Zv (i:=3) scT.nd rfl (QD rfl) (Zw XL (Zw WF (Zw Yy (ZD ZE (pv 0) Zh (fun _ _=>rfl)) (Zw WF Zh (ZD ZE (pv 0) Zh (fun _ _=>rfl)))) (Zw Yy Zh (ZD ZE (pv 0) Zh (fun _ _=>rfl)))) Zh))
   (Zd (Zv (i:=4) scT.nd rfl (QD rfl) (Zw XL (Zw WF (Zw Yy (pv 3) (ZD ZE (pv 0) Zh (fun _ _=>rfl))) (Zw Yy (Zw XL (pv 3) Zh) Zh)) Zh))
   (Zi (Zq (Zw XL (Zw Zfw (Zw XL (Zw Yy (Zw WF (pv 4) Zh) (pv 3)) Zh) Zh) (pv 1))))))),?_⟩
 refine ⟨_,rfl,p,_,_,_,rfl,rfl,SqL.of hp,rfl,_,_,rfl,rfl,_,rfl,?_⟩
 refine Wc (fun S=>?_) (fun S=>?_)
 · have h0:0 < a:=of_decide_eq_true S
   refine ⟨_,rfl,p,_,_,_,rfl,rfl,SqL.of hp,rfl,_,rfl,_,_,rfl,rfl,I,?_⟩
   refine ⟨_,rfl,p,_,_,_,rfl,rfl,SqL.of hp,rfl,_,rfl,_,_,rfl,rfl,⟨I,by have h4:m < 4611686018427387904:=J;omega⟩,?_⟩
   refine ⟨_,rfl,p,_,_,_,rfl,rfl,hp,rfl,?_⟩
   refine ⟨_,rfl,?_⟩
   exact q _ _ (Gz _ (by omega)) (Gs _ I) ⟨a / m,b,c,Zf,Int.ediv_nonneg U (by omega),W,by omega⟩ (Kp.upd _ _ _)
 · refine ⟨_,rfl,p,_,_,_,rfl,rfl,SqL.of hp,rfl,_,_,rfl,rfl,?_⟩
   refine ⟨_,rfl,p,_,_,_,rfl,rfl,hp,rfl,?_⟩
   have G:upd H p (.lst [.int a,.int b,.int (c+1)]) p=some (.lst [.int a,.int b,.int (c+1)]):=Zf
   refine ⟨_,rfl,p,_,_,_,rfl,rfl,SqL.of G,rfl,_,rfl,p,_,_,_,rfl,rfl,SqL.of G,rfl,_,_,rfl,rfl,.inl ⟨by decide,by decide⟩,_,_,rfl,rfl,_,rfl,p,_,_,_,rfl,rfl,SqL.of G,rfl,_,_,rfl,rfl,_,_,rfl,rfl,.inr ⟨by omega,by omega⟩,_,_,rfl,rfl,(by show (0:Int) < _;decide),?_⟩
   generalize hO:((b+48271 * (c+1)) * (39373+(c+1))) % 2147483647=B
   have Z:0<=B:=by rw [<- hO];exact Gz _ (by decide)
   refine ⟨_,rfl,_,rfl,p,_,_,_,rfl,rfl,SqL.of G,rfl,_,_,rfl,rfl,_,rfl,_,_,rfl,rfl,(by show (0:Int) < _;decide),_,_,rfl,rfl,_,_,rfl,rfl,.inr ?_,_,_,rfl,rfl,(by show (0:Int) < _;decide),?_⟩
   · have:=Gz B (show (40009:Int)≠0 by decide)
     have:=Gs B (show (0:Int) < 40009 by decide)
     exact ⟨by omega,by omega⟩
   generalize hW:((B+(c+1)) * (B % 40009+7)) % 2147483629=twice
   refine ⟨_,rfl,_,_,rfl,rfl,.inr ⟨by decide,by decide⟩,_,rfl,_,_,rfl,rfl,_,_,rfl,rfl,(by show (0:Int) < _;decide),_,_,rfl,rfl,⟨by decide,by decide⟩,_,rfl,_,_,rfl,rfl,I,?_⟩
   exact q _ _ (Gz _ (by omega)) (Gs _ I) ⟨a,b,c+1,G,U,by omega,by omega⟩ (Kp.upd _ _ _)
end
structure Txt (K:Qa)(mg:Str->Option Qb):Prop extends Yi mg where
 base:∃ t,mg "BASE"=some (.int 4 t)
 zero:∃ t,mg "BARE_NUMBER"=some (.int 0 t)
 bare:∃ a,mg "BARE"=some (.ref a)/\∀ H,SqT K H a [.str "bare"]
 figs:∃ a,mg "FIGURES"=some (.ref a)/\∀ H,SqT K H a [.int 0,.int 1,.int 2,.int 3]
section
variable {P:Qi}{w:Qu}{K:Qa}{mg:Str->Option Qb}{base:Heap}
def Wu (l:List Nat):Nat->Int
 | 0=>0
 | i+1=>Wu l i+((i:Int)+1) * (((l.getD i 0:Nat):Int) - 97+1)
inductive Wk (vs:List V)(H:Hp)(Q:VK)(w_3:XK):Prop
 | mk (x:Str):vs=[.str x]->x.length<=1000->(∀ H',Same H H'->Q (.int (Wu x.cps.toList x.length)) H')->Wk vs H Q w_3
inductive XX (vs:List V)(H:Hp)(Q:VK)(w_3:XK):Prop
 | mk (n:Int) (k:Nat):vs=[.int n,.int k]->0<=n->k<=1000->Q (.int (n / 4 ^ k % 4)) H->XX vs H Q w_3
theorem oa:(Qw "a").cps.getD 0 0=97:=by decide +kernel
theorem scM:Zp ["name","total","place","letter"] ["name"] (Zk s_mark):={}
theorem Zlo {f:Addr}{fd:Qn}(F:Fun K "mark" "mark" s_mark f fd)(T:Txt K mg):FnOk P w K mg base ZF 1 f fd ["name"] Wk:=by
 refine F.ok scM (fun U A outer s H vs Q E hr h=>?_)
 obtain ⟨x,rfl,hx,q⟩:=h
 refine' ⟨?t,?h,?r⟩
 case h =>
  conv=>arg 2;whnf
  with_reducible refine' Zd ?a1 (Zd ?a2 (Zi ?a3))
  case a1=>exact Zv (i:=1) scM.nd rfl (QD rfl) Zh
  case a2=>exact WH Gm rfl (ZjS rfl T.enumerate (pv 0)) (VM rfl (YO (Yg (i:=2) scM.nd rfl (QD rfl)) (YO (Yg (i:=3) scM.nd rfl (QD rfl)) UH))) (Zi (Znt (i:=1) scM.nd rfl (QD rfl) (Zw WF (pv 2) (Zw Yy (Zw Xm (Zu ZdK rfl T.ord (by decide +kernel) (Zc (pv 3) Za)) (Zu ZdK rfl T.ord (by decide +kernel) (Zc ZR Za))) Zh)) ZmG))
  case a3=>exact Zq (pv 1)
 try dsimp only [ZN,Cx.nox]
 refine zs3 ?_
 intro zD zS S Z
 refine ⟨_,rfl,x,rfl,?_⟩
 refine Zjk (fun i σ H'=>∃ B I,σ=[some (.str x),some (.int (Wu x.cps.toList i)),B,I]/\Same H H'/\i<=x.cps.size) ⟨_,_,rfl,Same.refl H,QC _⟩ ?_ ?_
 ·rintro i c t σ H1 J W ⟨B,I,rfl,s1,hi⟩
  have G:i < x.cps.size:=(QZ.mp J).1
  have hz:x.cps.size<=1000:=hx
  refine ⟨t,_,rfl,SqT.of Zf,rfl,_,_,rfl,_,_,rfl,rfl,?_⟩
  refine ⟨_,rfl,_,rfl,_,rfl,_,rfl,rfl,_,rfl,rfl,_,_,rfl,rfl,_,_,rfl,rfl,_,_,rfl,rfl,.inl ⟨by omega,by omega⟩,_,_,rfl,rfl,?_⟩
  have e:Wu x.cps.toList (i+1)=Wu x.cps.toList i+((i:Int)+1) * ((((⟨#[c]⟩:Str).cps.getD 0 0:Nat):Int) - (((Qw "a").cps.getD 0 0:Nat):Int)+1):=by
   rw [oa]
   show Wu x.cps.toList i+((i:Int)+1) * (((x.cps.toList.getD i 0:Nat):Int) - 97+1)=Wu x.cps.toList i+((i:Int)+1) * ((c:Int) - 97+1)
   have e1:x.cps.toList.getD i 0=c:=by rw [getD_eq_getElem?_getD,SJ,J];rfl
   rw [e1]
  exact ⟨some (.int ((i:Int)+1)),some (.str ⟨#[c]⟩),by rw [e];rfl,s1.trans (Zm W _),G⟩
 ·rintro σ H1 ⟨B,I,rfl,s1,_⟩
  exact ⟨_,rfl,q H1 s1⟩
theorem scDg:Zp ["number","level","below"] ["number","level"] (Zk s_digit):={}
theorem ZjA {f:Addr}{fd:Qn}(F:Fun K "digit" "digit" s_digit f fd)(T:Txt K mg):FnOk P w K mg base ZF 1 f fd ["number","level"] XX:=by
 refine F.ok scDg (fun B A outer s H vs Q E W h=>?_)
 obtain ⟨n,k,rfl,J,Z,q⟩:=h
 obtain ⟨tb,hb⟩:=T.base
 refine' ⟨?t,?h,?r⟩
 case h =>
  conv=>arg 2;whnf
  with_reducible refine' Zd ?a1 (Zi ?a2)
  case a1=>exact WH Gm rfl (XU rfl T.range (Zc (pv 1) Za)) (Yg (i:=2) scDg.nd rfl (QD rfl)) (Zi (Zv (i:=0) scDg.nd rfl (QD rfl) (Zw Zfw (pv 0) (ZO rfl hb (v:=.int 4) ⟨_,rfl⟩))))
  case a2=>exact Zq (Zw XL (pv 0) (ZO rfl hb (v:=.int 4) ⟨_,rfl⟩))
 try dsimp only [ZN,Cx.nox]
 refine US ?_
 intro U S G
 refine ⟨_,rfl,k,rfl,by omega,by omega,?_⟩
 have I:(k:Int).toNat=k:=by omega
 rw [I]
 refine Uq (fun i σ H'=>∃ y,σ=[some (.int (n / 4 ^ i)),some (.int k),y]/\H'=H) ⟨_,by rw [Int.pow_zero,Int.ediv_one];rfl,rfl⟩ ?_ ?_
 ·rintro i σ H1 hi ⟨y,rfl,rfl⟩
  have e:n / 4 ^ (i+1)=n / 4 ^ i / 4:=by rw [Int.pow_succ,<- Int.ediv_ediv_of_nonneg (Int.pow_nonneg (by decide))]
  exact ⟨_,rfl,_,_,rfl,rfl,⟨by decide,by decide⟩,some (.int (0+(i:Int))),by rw [e];rfl,rfl⟩
 ·rintro σ H1 ⟨y,rfl,rfl⟩
  exact ⟨_,rfl,_,_,rfl,rfl,(by show (0:Int) < 4;decide),q⟩
theorem nbf:decide (V.str (Qw "bare")=V.str (Qw "fork"))=false:=by decide +kernel
theorem nlf:decide (V.str (Qw "leaf")=V.str (Qw "fork"))=false:=by decide +kernel
theorem nbl:decide (V.str (Qw "bare")=V.str (Qw "leaf"))=false:=by decide +kernel
theorem nfl:decide (V.str (Qw "fork")=V.str (Qw "leaf"))=false:=by decide +kernel
theorem scPi:Zp ["node"] ["node"] (Zk s_parts_in):={}
theorem ZjH {f:Addr}{fd:Qn}(F:Fun K "parts_in" "parts_in" s_parts_in f fd):FnOk P w K mg base ZF 1 f fd ["node"] (WU K):=by
 refine F.ok scPi (fun J A outer s H vs Q E S h=>?_)
 obtain ⟨a,n,rfl,B,q⟩:=h
 refine ⟨_,Zi (Zq (YN (ZK YX (ZD YL (pv 0) Zh (fun _ _=>rfl)) ZR (ZL _)) (ZD YL (pv 0) Zh (fun _ _=>rfl)) Zfy)),?_⟩
 cases n with
 | bare =>
  refine ⟨_,rfl,a,_,_,_,rfl,rfl,B,rfl,rfl,_,rfl,?_⟩
  rw [nbf]
  exact ZQ fun p o hp I=>q p _ (Zm hp _) (.inl (.inr ⟨o,Zf⟩))
 | leaf m ps =>
  obtain ⟨t,e,_⟩:=B
  refine ⟨_,rfl,a,_,_,_,rfl,rfl,e,rfl,rfl,_,rfl,?_⟩
  rw [nlf]
  exact ZQ fun p o hp I=>q p _ (Zm hp _) (.inl (.inr ⟨o,Zf⟩))
 | fork qs =>
  obtain ⟨t,e,G,_⟩:=B
  refine ⟨_,rfl,a,_,_,_,rfl,rfl,e,rfl,rfl,_,rfl,?_⟩
  rw [decide_eq_true rfl]
  exact Ys ⟨_,rfl,a,_,_,_,rfl,rfl,e,rfl,q t H (Same.refl H) G⟩
theorem scPr:Zp ["node"] ["node"] (Zk s_pairs_in):={}
theorem ZjG {f:Addr}{fd:Qn}(F:Fun K "pairs_in" "pairs_in" s_pairs_in f fd):FnOk P w K mg base ZF 1 f fd ["node"] (XY K):=by
 refine F.ok scPr (fun J A outer s H vs Q E S h=>?_)
 obtain ⟨a,n,rfl,G,q⟩:=h
 refine ⟨_,Zi (Zq (YN (ZK YX (ZD YL (pv 0) Zh (fun _ _=>rfl)) ZR (ZL _)) (ZD YL (pv 0) Zh (fun _ _=>rfl)) Zfy)),?_⟩
 have nil:∀ p o,H p=none->o.dict=none->PairsAt (upd H p (.frz o (.tup []))) p []:=fun p o hp B=>⟨o,[],Zf,B,rfl,fun i a p e=>by simp at e⟩
 cases n with
 | bare =>
  refine ⟨_,rfl,a,_,_,_,rfl,rfl,G,rfl,rfl,_,rfl,?_⟩
  rw [nbl]
  exact ZQ fun p o hp B=>q p _ (Zm hp _) (nil p o hp B)
 | fork qs =>
  obtain ⟨t,e,_⟩:=G
  refine ⟨_,rfl,a,_,_,_,rfl,rfl,e,rfl,rfl,_,rfl,?_⟩
  rw [nfl]
  exact ZQ fun p o hp B=>q p _ (Zm hp _) (nil p o hp B)
 | leaf m ps =>
  obtain ⟨t,e,I⟩:=G
  refine ⟨_,rfl,a,_,_,_,rfl,rfl,e,rfl,rfl,_,rfl,?_⟩
  rw [decide_eq_true rfl]
  exact Ys ⟨_,rfl,a,_,_,_,rfl,rfl,e,rfl,q t H (Same.refl H) I⟩
theorem scHm:Zp ["node","number"] ["node","number"] (Zk s_has_mark):={}
theorem Zli {f:Addr}{fd:Qn}(F:Fun K "has_mark" "has_mark" s_has_mark f fd):FnOk P w K mg base ZF 1 f fd ["node","number"] (UP K):=by
 refine F.ok scHm (fun G A outer s H vs Q E J h=>?_)
 obtain ⟨a,n,m,rfl,B,q⟩:=h
 refine ⟨_,Zi (Zq (Znj (Zag YX (ZD YL (pv 0) Zh (fun _ _=>rfl)) ZR (ZL _)) (Zno (Zag YX (ZD YL (pv 0) Zh (fun _ _=>rfl)) (pv 1) (ZL _))))),?_⟩
 cases n with
 | bare =>
  refine ⟨_,rfl,a,_,_,_,rfl,rfl,B,rfl,rfl,_,rfl,?_⟩
  rw [nbl]
  exact ZQ q
 | fork qs =>
  obtain ⟨t,e,_⟩:=B
  refine ⟨_,rfl,a,_,_,_,rfl,rfl,e,rfl,rfl,_,rfl,?_⟩
  rw [nfl]
  exact ZQ q
 | leaf m' ps =>
  obtain ⟨t,e,I⟩:=B
  refine ⟨_,rfl,a,_,_,_,rfl,rfl,e,rfl,rfl,_,rfl,?_⟩
  rw [decide_eq_true rfl]
  refine Ys ⟨_,rfl,a,_,_,_,rfl,rfl,e,rfl,_,rfl,rfl,?_⟩
  have:decide (V.int m'=V.int m)=decide (m'=m):=by
   by_cases z:m'=m
   ·subst z;rw [decide_eq_true rfl,decide_eq_true rfl]
   ·rw [decide_eq_false z,decide_eq_false (fun y=>z (by cases y;rfl))]
  rw [this]
  exact q
theorem scFo:Zp ["parts"] ["parts"] (Zk s_fork_of):={}
theorem Zid {f:Addr}{fd:Qn}(F:Fun K "fork_of" "fork_of" s_fork_of f fd)(T:Txt K mg):FnOk P w K mg base ZF 1 f fd ["parts"] (WA K):=by
 refine F.ok scFo (fun J A outer s H vs Q E U h=>?_)
 obtain ⟨l,qs,rfl,I,G,q⟩:=h
 refine ⟨_,Zi (Zq (YE (Zc ZR (Zc (YI Zdi rfl T.tuple (by decide +kernel) (Zc (pv 0) Za)) Za)))),?_⟩
 refine ⟨_,rfl,l,_,rfl,.inl ⟨SqL.of I,fun t S=>⟨(by show 2<=Qj;decide),fun a B=>?_⟩⟩⟩
 exact q a _ ((Zm S _).trans (Zm B _)) ⟨t,SqT.of Zf,SqT.of (Zm B _ _ _ Zf),G⟩
def pvl (H:Hp)(a:Addr):V:=match H a with
 | some (.tup [_,v])=>v
 | _=>.non
def Zce (ps:List (Str×V)):Prop:=ps.Pairwise fun p q=>¬ (q.1.cps.toList < p.1.cps.toList)
theorem Zii {H:Hp}{ts I:List Addr}{ps:List (Str×V)}(h:PairT H ts ps)(o:ZfZ (ps.map (·.1)) ts I):∃ G,G.Perm ps/\Zce G/\PairT H I G:=by
 obtain ⟨zs,hp,e,Z⟩:=o
 have val:∀ (i:Nat) (a:Addr) (p:Str×V),ts[i]?=some a->ps[i]?=some p->pvl H a=p.2:=fun i a p e1 B=>by unfold pvl;rw [h.2 i a p e1 B]
 have U:((ps.map (·.1)).zip ts).map (fun z=>(z.1,pvl H z.2))=ps:=by
  apply List.ext_getElem?
  intro i
  rw [getElem?_map]
  cases B:ps[i]? with
  | none =>
   have:((ps.map (·.1)).zip ts)[i]?=none:=by
    rw [List.getElem?_eq_none_iff] at B ⊢
    rw [Sz,length_map];omega
   rw [this];rfl
  | some p =>
   have hi:i < ps.length:=(Qk.mp B).1
   obtain ⟨a,ea⟩:∃ a,ts[i]?=some a:=⟨_,getElem?_eq_getElem (by rw [h.1];exact hi)⟩
   have:((ps.map (·.1)).zip ts)[i]?=some (p.1,a):=by
    rw [Gn]
    exact ⟨by rw [getElem?_map,B];rfl,ea⟩
   rw [this]
   show some (p.1,pvl H a)=some p
   rw [val i a p ea B]
 refine ⟨zs.map fun z=>(z.1,pvl H z.2),?_,?_,?_⟩
 ·have:=hp.map fun z:Str×Addr=>(z.1,pvl H z.2)
  rwa [U] at this
 ·unfold Zce;rw [JV];exact Z
 ·refine ⟨by rw [e,length_map,length_map],fun i a p e1 B=>?_⟩
  rw [e,getElem?_map] at e1
  rw [getElem?_map] at B
  cases ez:zs[i]? with
  | none=>rw [ez] at e1;cases e1
  | some z =>
   rw [ez] at e1 B
   cases (show some z.2=some a from e1)
   cases (show some (z.1,pvl H z.2)=some p from B)
   have W:=hp.mem_iff.mp (mem_of_getElem? ez)
   obtain ⟨j,S⟩:=Pb.mp W
   rw [Gn] at S
   obtain ⟨h1,h2⟩:=S
   rw [getElem?_map] at h1
   cases e3:ps[j]? with
   | none=>rw [e3] at h1;cases h1
   | some pj =>
    rw [e3] at h1
    have J:pj.1=z.1:=by simpa using h1
    have:=h.2 j z.2 pj h2 e3
    rw [this,val j z.2 pj h2 e3,J]
def Zx (x:Str):Int:=Wu x.cps.toList x.length
def Wh:Str:=(("leaf_of":Str)++".<locals>.")++"<lambda>"
inductive UR (K:Qa)(Pl:Addr)(lpos:Pos)(vs:List V)(H:Hp)(Q:VK)(w_3:XK):Prop
 | mk (l:Addr) (ts:List Addr) (ps:List (Str×V)):vs=[.ref l]->H l=some (.lst (ts.map V.ref))->PairT H ts ps->ps≠[]->ps.length < 64->(∀ p∈ps,p.1.length<=1000)->LamAt H Pl lpos Wh->(∀ (a:Addr) (H':Hp) (p1:Str×V) (pr:List (Str×V)),Grown Pl H H'->LamAt H' Pl lpos Wh->(p1::pr).Perm ps->Zce (p1::pr)->NodeAt K H' a (.leaf (Zx p1.1) (p1::pr))->Q (.ref a) H')->UR K Pl lpos vs H Q w_3
theorem Grown.trans' {Pl:Addr}{H H1 H2:Hp}(a:Grown Pl H H1)(b:Same H1 H2):Grown Pl H H2:=fun x o n h=>b _ _ (a x o n h)
theorem LamAt.same {H H':Hp}{Pl:Addr}{lpos:Pos}{q:Str}(h:LamAt H Pl lpos q)(s:Same H H'):LamAt H' Pl lpos q:=by
 rcases h with h | ⟨c,h,h2⟩
 ·exact .inl (s _ _ h)
 ·exact .inr ⟨c,s _ _ h,s _ _ h2⟩
theorem scLf:Zp ["pairs","rising","first_name"] ["pairs"] (Zk s_leaf_of):={}
def ZmL:Stmt->Pos
 | .Assign _ (.Call _ _ [⟨_,.Lambda _ _ _ p,_⟩] _) _=>p
 | _=>⟨0,0,0,0⟩
def YW:Pos:=ZmL ((Xx s_leaf_of).getD 0 (.Pass ⟨0,0,0,0⟩))
theorem Zll {f c Pl:Addr}{fd:Qn}(F:FunC K "leaf_of" "leaf_of" s_leaf_of f fd c Pl)(T:Txt K mg)(hBm:Xn base mg)(DM:Def P w K mg base 1 "mark" ["name"] Wk):FnOk P w K mg base ZF 2 f fd ["pairs"] (UR K Pl YW):=by
 refine F.ok scLf (fun A outer s H vs Q E hr h=>?_)
 obtain ⟨l,ts,ps,rfl,el,G,hne,h64,hnl,hL,q⟩:=h
 refine' ⟨?t,?h,?r⟩
 case h =>
  conv=>arg 2;whnf
  with_reducible refine' Zd ?a1 (Zd ?a2 (Zi ?a3))
  case a1=>exact Zv (i:=1) scLf.nd rfl (QD rfl) (ZjQ (c:=c) (Pl:=Pl) rfl T.sorted (pv 0) hr rfl F.hd hBm)
  case a2=>exact Zv (i:=2) scLf.nd rfl (QD rfl) (ZD YL (ZD ZE (pv 1) Zh (fun _ _=>rfl)) Zh (fun _ _=>rfl))
  case a3=>exact Zq (YE (Zc ZR (Zc (ZJ DM hr (Zc (pv 2) Za)) (Zc (YI ZaM rfl T.tuple (by decide +kernel) (Zc (pv 1) Za)) Za))))
 try dsimp only [ZN,Cx.nox]
 refine zs3 ?_
 intro zD zS zN2 zN1
 refine ⟨_,rfl,l,ts,ps.map (·.1),rfl,el,by rw [G.1];exact h64,by rw [length_map,G.1],fun i t k e1 Z=>?_,hL,fun H2 r ts' gr hL2 hr2 hT=>?_⟩
 ·rw [getElem?_map] at Z
  cases e3:ps[i]? with
  | none=>rw [e3] at Z;cases Z
  | some p =>
   rw [e3] at Z
   have e4:p.1=k:=by simpa using Z
   rw [<- e4]
   exact ⟨_,G.2 i t p e1 e3⟩
 obtain ⟨ps',B,U,I⟩:=Zii G hT
 obtain ⟨tb,htb⟩:=hL.tbl
 have tf2:TF H H2:=gr.tf htb
 have J:=I.tf tf2
 cases ps' with
 | nil=>exact absurd (OS B).symm hne
 | cons p1 pr =>
  cases ts' with
  | nil=>have:=I.1;simp at this
  | cons W tr =>
   have e1:=J.2 0 W p1 rfl rfl
   have s3:=Zm hr2 (.lst ((W::tr).map V.ref))
   have hn1:p1.1.length<=1000:=hnl p1 (B.mem_iff.mp mem_cons_self)
   refine ⟨_,rfl,r,_,_,_,rfl,rfl,SqL.of Zf,(show YG ((W::tr).map V.ref) ((0:Nat):Int)=some (V.ref W) from ZI rfl),W,_,_,_,rfl,rfl,SqT.of (s3 _ _ e1),rfl,?_⟩
   refine ⟨_,rfl,p1.1,rfl,hn1,fun H4 s4=>⟨_,rfl,r,_,rfl,SqL.of (s4 _ _ Zf),fun t o ht hd=>⟨(by show 3<=Qj;decide),fun a ha=>?_⟩⟩⟩
   have s5:=Zm ht (.frz o (.tup ((W::tr).map V.ref)))
   have s6:=Zm ha (.tup [.str "leaf",.int (Zx p1.1),.ref t])
   have S:=((s3.trans s4).trans s5).trans s6
   refine q a _ p1 pr (Grown.trans' gr S) (LamAt.same hL2 S) B U ⟨t,SqT.of Zf,o,W::tr,s6 _ _ Zf,hd,J.tf S.tf⟩
end
structure Xp (K:Qa)(C:Addr):Prop where
 cl:Cls K C
 nN:NoAttr K C "nodes"
 nT:NoAttr K C "tables"
section
variable {P:Qi}{w:Qu}{K:Qa}{mg:Str->Option Qb}{base:Heap}{C:Addr}
inductive Zer (K:Qa)(C:Addr)(vs:List V)(H:Hp)(Q:VK)(w_3:XK):Prop
 | mk (p dx:Addr):vs=[.ref p]->H p=some (.ins C dx [])->(∀ (ln dt:Addr) (H':Hp),H ln=none->H dt=none->StoreAt K C p ln dt H' [.bare] [(QQ 0,.bl true)]->Kq [p] H H'->Q .non H')->Zer K C vs H Q w_3
theorem scIn:Zp ["self"] ["self"] (Zk c_Store___init__):={}
theorem Zlj {f:Addr}{fd:Qn}(F:Fun K "__init__" "Store.__init__" c_Store___init__ f fd)(T:Txt K mg)(TC:Xp K C):FnOk P w K mg base ZF 1 f fd ["self"] (Zer K C):=by
 refine F.ok scIn (fun cdv A outer s H vs Q E hr h=>?_)
 obtain ⟨p,dx,rfl,hp,q⟩:=h
 obtain ⟨ab,hb,hbt⟩:=T.bare
 obtain ⟨tz,hz⟩:=T.zero
 refine ⟨_,Zd (YZ (pv 0) (Yc (Zc (ZO rfl hb (v:=.ref ab) rfl) Za)) rfl) (Zi (YZ (pv 0) (Zlz (ZjV (ZO rfl hz (v:=.int 0) ⟨_,rfl⟩) YY ZlH) rfl rfl (by simp) (by decide)) rfl)),?_⟩
 refine ⟨(by show 1<=Qj;decide),fun ln U=>?_⟩
 have I:p≠ln:=Zr hp U
 refine ⟨_,rfl,p,C,dx,[],rfl,(by rw [Zg I];exact hp),TC.cl,TC.nN,(by show 0 < 1000;decide),?_⟩
 intro Z B
 have J:p≠Z:=fun z=>by rw [<- z,Zf] at B;cases B
 have S:ln≠Z:=fun z=>by rw [<- z,Zg I.symm,Zf] at B;cases B
 have G:H Z=none:=by rw [Zg J.symm,Zg S.symm] at B;exact B
 refine ⟨Zf,[(QQ 0,.bl true)],rfl,by decide,_,rfl,p,C,dx,_,rfl,(by rw [Zg J,Zg J,Zf]),TC.cl,TC.nT,(by show 1 < 1000;decide),?_⟩
 refine q ln Z _ U G ⟨⟨dx,Zf⟩,⟨[ab],?_,rfl,fun i a n e1 e2=>?_⟩,?_⟩ fun b o nb e=>?_
 ·rw [Zg I.symm,Zg S,Zg S,Zg I.symm,Zf];rfl
 ·cases i with
  | zero =>
   cases (show some ab=some a from e1)
   cases (show some Nd.bare=some n from e2)
   exact hbt _
  | succ i=>simp at e1
 ·rw [Zg J.symm,Zf];rfl
 ·have W:b≠p:=fun z=>nb (by simp [z])
  rw [Zg W,Zg (Zr e G),Zg (Zr e G),Zg W,Zg (Zr e U)];exact e
inductive UQ (K:Qa)(C:Addr)(vs:List V)(H:Hp)(Q:VK)(w_3:XK):Prop
 | mk (st ln dt a:Addr) (nds:List Nd) (tabs:List (Zo×V)) (n:Nd):vs=[.ref st,.ref a]->StoreAt K C st ln dt H nds tabs->NodeAt K H a n->nds.length<=100000->(∀ H',StoreAt K C st ln dt H' (nds++[n]) tabs->Kq [ln] H H'->TF H H'->Q (.int nds.length) H')->UQ K C vs H Q w_3
theorem scKe:Zp ["self","node"] ["self","node"] (Zk c_Store_keep):={}
theorem Zlk {f:Addr}{fd:Qn}(F:Fun K "keep" "Store.keep" c_Store_keep f fd)(T:Txt K mg)(Z:Xp K C):FnOk P w K mg base ZF 1 f fd ["self","node"] (UQ K C):=by
 refine F.ok scKe (fun cdv A outer s H vs Q E hr h=>?_)
 obtain ⟨st,G,dt,a,nds,tabs,n,rfl,⟨⟨dx,W⟩,⟨as,I,hl,hn⟩,tb⟩,hna,hsz,q⟩:=h
 refine ⟨_,Zd (Yh (XD QI QL QM YH (ZC (pv 0) rfl) (Zc (pv 1) Za))) (Zi (Zq (Zw Xm (Zu Ya rfl T.len QU (Zc (ZC (pv 0) rfl) Za)) Zh))),?_⟩
 have e1:(as.map V.ref).length < sizeLine:=by rw [length_map,hl];exact QK hsz (by decide)
 refine ⟨_,rfl,st,C,dx,_,_,rfl,W,Z.cl,Z.nN,XI G dt,.inl ⟨rfl,_,SqL.of I⟩,_,rfl,G,_,_,rfl,rfl,I,e1,?_⟩
 have U:st≠G:=ZbA W I (by intro z;cases z)
 have ndl:dt≠G:=ZbA tb I (by intro z;cases z)
 refine ⟨_,rfl,st,C,dx,_,_,rfl,(by rw [Zg U];exact W),Z.cl,Z.nN,XI G dt,G,_,rfl,.inl (SqL.of Zf),_,_,rfl,rfl,?_⟩
 have tf:=ZeA (o:=.lst (as.map V.ref++[.ref a])) I
 have e2:((((as.map V.ref++[V.ref a]).length:Nat):Int) - 1)=(nds.length:Int):=by rw [length_append,length_map,hl];show ((nds.length+1:Nat):Int) - 1=_;omega
 have S:Q (.int (nds.length:Int)) (upd H G (.lst (as.map V.ref++[.ref a]))):=by
  refine q _ ⟨⟨dx,by rw [Zg U];exact W⟩,⟨as++[a],by rw [map_append];exact Zf,by rw [length_append,length_append,hl];rfl,fun i b m B J=>?_⟩,by rw [Zg ndl];exact tb⟩ Zbw tf
  by_cases hi:i < as.length
  ·rw [getElem?_append_left hi] at B
   rw [getElem?_append_left (by rw [<- hl];exact hi)] at J
   exact (hn i b m B J).tf tf
  ·rw [getElem?_append_right (by omega)] at B
   rw [getElem?_append_right (by omega)] at J
   have h0:i - as.length=0:=by
    cases z:i - as.length with
    | zero=>rfl
    | succ j=>rw [z] at B;simp at B
   rw [h0] at B
   rw [show i - nds.length=0 by omega] at J
   cases (show some a=some b from B)
   cases (show some n=some m from J)
   exact hna.tf tf
 rw [<- e2] at S
 exact S
inductive Zdr (K:Qa)(C:Addr)(vs:List V)(H:Hp)(Q:VK)(w_3:XK):Prop
 | mk (st ln dt:Addr) (nds:List Nd) (tabs:List (Zo×V)) (n:Int):vs=[.ref st,.int n]->StoreAt K C st ln dt H nds tabs->tabs.length<=100000->(∀ H',StoreAt K C st ln dt H' nds (Ye tabs (QQ n) (.bl true))->Kq [dt] H H'->TF H H'->Q (.int n) H')->Zdr K C vs H Q w_3
theorem scAs:Zp ["self","number"] ["self","number"] (Zk c_Store_as_table):={}
theorem ZmT {f:Addr}{fd:Qn}(F:Fun K "as_table" "Store.as_table" c_Store_as_table f fd)(U:Xp K C):FnOk P w K mg base ZF 1 f fd ["self","number"] (Zdr K C):=by
 refine F.ok scAs (fun cdv A outer s H vs Q E hr h=>?_)
 obtain ⟨st,W,G,nds,B,n,rfl,⟨⟨dx,J⟩,⟨as,Z,hl,hn⟩,tb⟩,hsz,q⟩:=h
 refine ⟨_,Zd (UJ (YS hr) (ZC (pv 0) rfl) (pv 1) YY rfl) (Zi (Zq (pv 1))),?_⟩
 refine ⟨_,rfl,st,C,dx,_,_,rfl,J,U.cl,U.nT,Zhz W G,_,rfl,G,_,rfl,DPut.k (k:=QQ n) tb (QK hsz (by decide)),_,rfl,?_⟩
 have S:st≠G:=ZbA J tb (by intro z;cases z)
 have I:W≠G:=ZbA Z tb (by intro z;cases z)
 have tf:=ZlY (o:=.dK (Ye B (QQ n) (.bl true))) tb
 exact q _ ⟨⟨dx,by rw [Zg S];exact J⟩,⟨as,by rw [Zg I];exact Z,hl,fun i a m e1 e2=>(hn i a m e1 e2).tf tf⟩,Zf⟩ Zbw tf
inductive Zcv (K:Qa)(C:Addr)(vs:List V)(H:Hp)(Q:VK)(w_3:XK):Prop
 | mk (st ln dt:Addr) (nds:List Nd) (tabs:List (Zo×V)) (n:Int):vs=[.ref st,.int n]->StoreAt K C st ln dt H nds tabs->(Zz tabs (QQ n)).isSome=true->Q .non H->Zcv K C vs H Q w_3
theorem scCk:Zp ["self","table"] ["self","table"] (Zk c_Store_check_table):={}
theorem Zjz {f:Addr}{fd:Qn}(F:Fun K "check_table" "Store.check_table" c_Store_check_table f fd)(G:Xp K C):FnOk P w K mg base ZF 1 f fd ["self","table"] (Zcv K C):=by
 refine F.ok scCk (fun U A outer s H vs Q E W h=>?_)
 obtain ⟨st,S,B,nds,I,n,rfl,⟨⟨dx,J⟩,⟨as,nl,hl,hn⟩,tb⟩,Z,q⟩:=h
 refine ⟨_,Zi (Yb (XM (ZcT (YS W) (pv 1) (ZC (pv 0) rfl))) (Zi ZkF) ZM),?_⟩
 refine ⟨_,rfl,_,rfl,st,C,dx,_,_,rfl,J,G.cl,G.nT,Zhz S B,B,_,rfl,DGet.k (k:=QQ n) tb,_,rfl,?_⟩
 rw [Z]
 exact ZQ q
end
def ZW (n:Int)(k:Nat):Nat:=(n / 4 ^ k % 4).toNat
theorem Ws (n:Int)(k:Nat):(ZW n k:Int)=n / 4 ^ k % 4:=Int.toNat_of_nonneg (Gz _ (by decide))
theorem Ua (n:Int)(k:Nat):ZW n k < 4:=by
 have h1:=Ws n k
 have h2:=Gs (n / 4 ^ k) (show (0:Int) < 4 by decide)
 omega
def Xl (nds:List Nd)(m:Int):Nat->Nat->Nat->Option (List Nat)
 | 0,_,_=>none
 | f+1,lev,num=>match nds[num]? with
  | none=>none
  | some (.fork qs)=>(qs[ZW m lev]?).bind fun q=>(Xl nds m f (lev+1) q).map (num::·)
  | some _=>some [num]
def iN (n:Nat):V:=.int (n:Int)
section
variable {P:Qi}{w:Qu}{K:Qa}{mg:Str->Option Qb}{base:Heap}{C:Addr}
theorem _root_.L2.StoreAt.node {st G J:Addr}{H:Hp}{nds:List Nd}{B:List (Zo×V)}(S:StoreAt K C st G J H nds B){i:Nat}{n:Nd}(h:nds[i]?=some n):∃(as:List Addr)(a:Addr),H G=some (.lst (as.map V.ref))/\as[i]?=some a/\NodeAt K H a n:=by
 obtain ⟨_,⟨as,e,l,I⟩,_⟩:=S
 have hi:i < as.length:=by rw [l];exact (Qk.mp h).1
 exact ⟨as,as[i],e,getElem?_eq_getElem hi,I i _ n (getElem?_eq_getElem hi) h⟩
inductive ZgO (K:Qa)(C:Addr)(vs:List V)(H:Hp)(Q:VK)(w_3:XK):Prop
 | mk (st ln dt:Addr) (nds:List Nd) (tabs:List (Zo×V)) (t:Nat) (x:Str) (f:Nat) (ws:List Nat):vs=[.ref st,iN t,.str x]->StoreAt K C st ln dt H nds tabs->(Zz tabs (QQ (t:Int))).isSome=true->x.length<=1000->0<=Zx x->f<=1000->Xl nds (Zx x) f 0 t=some ws->(∀ r H',H r=none->Same H H'->H' r=some (.lst (ws.map iN))->Q (.ref r) H')->ZgO K C vs H Q w_3
theorem scWa:Zp ["self","table","name","told","parts","part"] ["self","table","name"] (Zk c_Store_way):={}
theorem Znf {f : Addr}{fd:Qn}(F:Fun K "way" "Store.way" c_Store_way f fd)(T:Txt K mg)(TC:Xp K C)(DC:DefM P w K mg base 1 C "check_table" ["self","table"] (Zcv K C))(DP:Def P w K mg base 1 "parts_in" ["node"] (WU K))
 (DM:Def P w K mg base 1 "mark" ["name"] Wk) (DG:Def P w K mg base 1 "digit" ["number","level"] XX):FnOk P w K mg base ZF 2 f fd ["self","table","name"] (ZgO K C):=by
 refine F.ok scWa (fun cdv A outer s H vs Q E hr h=>?_)
 obtain ⟨st,ln,dt,nds,tabs,t,x,fu,ws,rfl,S,htab,hx,hm,hfu,J,q⟩:=h
 refine' ⟨?t,?h,?r⟩
 case h =>
  conv=>arg 2;whnf
  with_reducible refine' Zd ?a1 (Zd ?a2 (Zd ?a3 (Zd (ZjX ?w0 ?w1 (Zd ?b1 (Zd ?b2 (Zi ?b3)))) (Zi ?a5))))
  case a1=>exact Yh (ZU DC TC.cl hr (pv 0) (Zc (pv 1) Za))
  case a2=>exact Zv (i:=3) scWa.nd rfl (QD rfl) (Yc (Zc (pv 1) Za))
  case a3=>exact Zv (i:=4) scWa.nd rfl (QD rfl) (ZJ DP hr (Zc (ZD ZE (ZC (pv 0) rfl) (pv 1) (fun _ _=>rfl)) Za))
  case w0=>exact Gm
  case w1=>exact Vm (pv 4) (fun _=>rfl)
  case b1=>exact Zv (i:=5) scWa.nd rfl (QD rfl) (ZD YL (pv 4) (ZJ DG hr (Zc (ZJ DM hr (Zc (pv 2) Za)) (Zc (Zw Xm (Zu Ya rfl T.len QU (Zc (pv 3) Za)) Zh) Za))) (fun _ _=>rfl))
  case b2=>exact Yh (XD QI QL QM YH (pv 3) (Zc (pv 5) Za))
  case b3=>exact Zv (i:=4) scWa.nd rfl (QD rfl) (ZJ DP hr (Zc (ZD ZE (ZC (pv 0) rfl) (pv 5) (fun _ _=>rfl)) Za))
  case a5=>exact Zq (pv 3)
 try dsimp only [ZN,Cx.nox]
 refine zs5 ?_
 intro zD zS zN4 zN3 zN2 zN1
 obtain ⟨dx,ob⟩:=S.ob
 refine ⟨_,rfl,st,dx,_,rfl,ob,ZT ln dt (by decide +kernel) (by decide +kernel),_,rfl,st,ln,dt,nds,tabs,t,rfl,S,htab,_,rfl,(by show 1<=Qj;decide),fun l hl=>?_⟩
 obtain ⟨n,hn⟩:∃ n,nds[t]?=some n:=by
  cases fu with
  | zero=>cases J
  | succ fu =>
   cases e:nds[t]? with
   | none=>unfold Xl at J;rw [e] at J;cases J
   | some n=>exact ⟨n,rfl⟩
 have s1:=Zm hl (.lst [iN t])
 have S1:=S.keep s1
 obtain ⟨as,a,nl,ha,hna⟩:=S1.node hn
 obtain ⟨dx1,ob1⟩:=S1.ob
 refine ⟨_,rfl,st,C,dx1,_,_,rfl,ob1,TC.cl,TC.nN,XI ln dt,_,rfl,ln,_,_,_,rfl,rfl,SqL.of nl,ZI (by rw [getElem?_map,ha];rfl),a,n,rfl,hna,fun pt H2 s2 hpt=>?_⟩
 refine ⟨fun U σ H'=>∃ (B wr:List Nat) (G:Nat) (n:Nd) (pt:Addr) (y:Option V),σ=[some (.ref st),some (iN t),some (.str x),some (.ref l),some (.ref pt),y]/\Same H H'/\H' l=some (.lst ((B++[G]).map iN))/\nds[G]?=some n/\SqT K H' pt (n.parts.map iN)/\Xl nds (Zx x) U B.length G=some wr/\ws=B++wr/\U+B.length<=1000,
  ⟨fu,[],ws,t,n,pt,_,rfl,s1.trans s2,s2 _ _ Zf,hn,hpt,J,rfl,by simpa using hfu⟩,?_⟩
 rintro U σ H3 ⟨B,wr,G,n,pt,y,rfl,s3,W,hn3,hpt3,I,rfl,hfl⟩
 refine ⟨_,rfl,_,.inr (.inl ⟨_,hpt3,rfl⟩),?_⟩
 have stop:n.parts=[]->Xl nds (Zx x) U B.length G=some [G]:=fun z=>by
  cases U with
  | zero=>cases I
  | succ U =>
   unfold Xl at I ⊢
   rw [hn3] at I ⊢
   cases n with
   | bare=>rfl
   | leaf m ps=>rfl
   | fork qs =>
    have z':qs=[]:=z
    subst z'
    simp at I
 by_cases hz:n.parts=[]
 ·rw [hz]
  refine ZQ ⟨_,rfl,?_⟩
  have e:=stop hz
  rw [I] at e
  cases e
  exact q l H3 hl s3 W
 ·have hk : (!(n.parts.map iN).isEmpty)=true:=by
   cases e:n.parts with
   | nil=>exact absurd e hz
   | cons _ _=>rfl
  rw [hk]
  cases n with
  | bare=>exact absurd rfl hz
  | leaf m ps=>exact absurd rfl hz
  | fork qs =>
   cases U with
   | zero=>cases I
   | succ U =>
    unfold Xl at I
    rw [hn3] at I
    cases eq1:qs[ZW (Zx x) B.length]? with
    | none=>simp [eq1] at I
    | some q1 =>
     have Z:(Xl nds (Zx x) U (B.length+1) q1).map (G::·)=some wr:=by simpa [eq1] using I
     cases eq2:Xl nds (Zx x) U (B.length+1) q1 with
     | none=>rw [eq2] at Z;cases Z
     | some wr' =>
      rw [eq2] at Z
      have ewr:G::wr'=wr:=by simpa using Z
      obtain ⟨n',hn'⟩:∃ n',nds[q1]?=some n':=by
       cases U with
       | zero=>cases eq2
       | succ U =>
        cases e:nds[q1]? with
        | none=>unfold Xl at eq2;rw [e] at eq2;cases eq2
        | some n=>exact ⟨n,rfl⟩
      have e2:((((B++[G]).map iN).length:Nat):Int) - 1=(B.length:Int):=by rw [length_map,length_append];show ((B.length+1:Nat):Int) - 1=_;omega
      have hat:YG (qs.map iN) (Zx x / 4 ^ B.length % 4)=some (iN q1):=by rw [<- Ws];exact ZI (by rw [getElem?_map,eq1];rfl)
      refine Ys ⟨_,fun σ' H' h=>⟨U,TU _,h⟩,_,rfl,_,rfl,x,rfl,hx,fun H4 s4=>?_⟩
      refine ⟨_,rfl,l,_,rfl,.inl (SqL.of (s4 _ _ W)),_,_,rfl,rfl,Zx x,B.length,congrArg (fun z=>[V.int (Zx x),V.int z]) e2,hm,by omega,pt,_,_,_,rfl,rfl,hpt3.tf s4.tf,hat,?_⟩
      refine ⟨_,rfl,.inl ⟨rfl,_,SqL.of (s4 _ _ W)⟩,_,rfl,l,_,_,rfl,rfl,s4 _ _ W,(by rw [length_map,length_append];show B.length+1 < Qj;exact QK (show B.length+1<=1001 by omega) (by decide)),?_⟩
      have s5:Same H (upd H4 l (.lst ((B++[G]).map iN++[iN q1]))):=fun b o e=>by rw [Zg (Zr e hl)];exact s4 _ _ (s3 _ _ e)
      have S5:=S.keep s5
      obtain ⟨as5,a5,nl5,ha5,hna5⟩:=S5.node hn'
      obtain ⟨dx5,ob5⟩:=S5.ob
      refine ⟨_,rfl,st,C,dx5,_,_,rfl,ob5,TC.cl,TC.nN,XI ln dt,_,rfl,ln,_,_,_,rfl,rfl,SqL.of nl5,ZI (by rw [getElem?_map,ha5];rfl),a5,n',rfl,hna5,fun pt6 H6 s6 hpt6=>?_⟩
      refine ⟨B++[G],wr',q1,n',pt6,_,rfl,s5.trans s6,?_,hn',hpt6,?_,?_,?_⟩
      ·rw [map_append];exact s6 _ _ Zf
      ·rw [length_append];exact eq2
      ·rw [<- ewr,OD];rfl
      ·rw [length_append];show U+(B.length+1)<=1000;omega
def lk (ps:List (Str×V))(x:Str):Option V:=Zz (ps.map fun p=>((Qs p.1:Zo),p.2)) (Qs x)
inductive WB (K:Qa)(C:Addr)(vs:List V)(H:Hp)(Q:VK)(w_3:XK):Prop
 | mk (st ln dt:Addr) (nds:List Nd) (tabs:List (Zo×V)) (t:Nat) (x:Str) (f:Nat) (ws:List Nat) (e:Nat) (n:Nd):vs=[.ref st,iN t,.str x]->StoreAt K C st ln dt H nds tabs->(Zz tabs (QQ (t:Int))).isSome=true->x.length<=1000->0<=Zx x->f<=1000->Xl nds (Zx x) f 0 t=some (ws++[e])->nds[e]?=some n->n.pairs.length<=1000->(n.pairs.map (·.1)).Nodup->(∀ H',Same H H'->Q ((lk n.pairs x).getD .non) H')->WB K C vs H Q w_3
theorem scLo:Zp ["self","table","name","end"] ["self","table","name"] (Zk c_Store_looked):={}
theorem ZcS {f:Addr}{fd:Qn}(F:Fun K "looked" "Store.looked" c_Store_looked f fd)(T:Txt K mg)(TC:Xp K C)(DW:DefM P w K mg base 2 C "way" ["self","table","name"] (ZgO K C))(DR:Def P w K mg base 1 "pairs_in" ["node"] (XY K)):FnOk P w K mg base ZF 3 f fd ["self","table","name"] (WB K C):=by
 refine F.ok scLo (fun cdv A outer s H vs Q E hr h=>?_)
 obtain ⟨st,U,dt,nds,G,t,x,fu,ws,e,n,rfl,S,B,hx,hm,W,J,hn,hsz,hnd,q⟩:=h
 refine' ⟨?t,?h,?r⟩
 case h =>
  conv=>arg 2;whnf
  with_reducible refine' Zd ?a1 (Zi ?a2)
  case a1=>exact Zv (i:=3) scLo.nd rfl (QD rfl) (ZD ZE (ZU DW TC.cl hr (pv 0) (Zc (pv 1) (Zc (pv 2) Za))) (ZkB ZiT Zh) (fun _ _=>rfl))
  case a2=>exact Zq (Zee (YS hr) (YI (Ul rfl) rfl T.dict (by decide +kernel) (Zc (ZJ DR (hr.mono (by decide)) (Zc (ZD ZE (ZC (pv 0) rfl) (pv 3) (fun _ _=>rfl)) Za)) Za)) (pv 2) ⟨rfl,rfl,rfl,rfl⟩)
 try dsimp only [ZN,Cx.nox]
 refine US ?_
 intro zD zS zN1
 obtain ⟨dx,ob⟩:=S.ob
 refine ⟨_,rfl,st,dx,_,rfl,ob,ZT U dt (by decide +kernel) (by decide +kernel),_,rfl,_,rfl,st,U,dt,nds,G,t,x,fu,_,rfl,S,B,hx,hm,W,J,fun r H1 hr1 s1 el=>?_⟩
 refine ⟨_,rfl,r,_,_,iN e,rfl,rfl,SqL.of el,(by rw [map_append];exact Zjb _ _),?_⟩
 have S1:=S.keep s1
 obtain ⟨as,a,nl,ha,Z⟩:=S1.node hn
 obtain ⟨dx1,ob1⟩:=S1.ob
 refine ⟨_,rfl,st,C,dx1,_,_,rfl,ob1,TC.cl,TC.nN,XI U dt,_,rfl,U,_,_,_,rfl,rfl,SqL.of nl,ZI (by rw [getElem?_map,ha];rfl),a,n,rfl,Z,fun pt H2 s2 hpt=>?_⟩
 obtain ⟨o,ts,ept,hod,I,hp⟩:=hpt
 refine ⟨pt,ts,n.pairs,rfl,⟨o,ept,hod⟩,I,hsz,hp,hnd,fun d hd=>⟨d,rfl,.inl ⟨_,.inl Zf⟩,_,rfl,_,DGet.k (k:=Qs x) Zf,?_⟩⟩
 exact q _ ((s1.trans s2).trans (Zm hd _))
end
def Xj (num lev:Nat):Nd->List Nat
 | .fork qs=>qs
 | .leaf m _=>[0,1,2,3].map fun g=>if g=ZW m lev then num else 0
 | .bare=>[]
def ZdD:Nd->Prop
 | .leaf m ps=>∃ p1 pr,ps=p1::pr/\Zx p1.1=m/\p1.1.length<=1000/\0<=m
 | _=>True
section
variable {P:Qi}{w:Qu}{K:Qa}{mg:Str->Option Qb}{base:Heap}{C:Addr}
inductive ZgJ (K:Qa)(C:Addr)(vs:List V)(H:Hp)(Q:VK)(w_3:XK):Prop
 | mk (st ln dt:Addr) (nds:List Nd) (tabs:List (Zo×V)) (num lev:Nat) (n:Nd):vs=[.ref st,iN num,iN lev]->StoreAt K C st ln dt H nds tabs->nds[num]?=some n->n≠.bare->ZdD n->lev<=1000->(∀ r H',H r=none->Same H H'->H' r=some (.lst ((Xj num lev n).map iN))->Q (.ref r) H')->ZgJ K C vs H Q w_3
abbrev nFp:List Str:=["self","number","level","node","first_name","at"]
theorem scFp:Zp nFp ["self","number","level"] (Zk c_Store_fork_parts):={}
theorem Zos {f:Addr}{fd:Qn}(F:Fun K "fork_parts" "Store.fork_parts" c_Store_fork_parts f fd)(T:Txt K mg)(TC:Xp K C)(DP:Def P w K mg base 1 "parts_in" ["node"] (WU K))(DR:Def P w K mg base 1 "pairs_in" ["node"] (XY K))
 (DM:Def P w K mg base 1 "mark" ["name"] Wk) (DG:Def P w K mg base 1 "digit" ["number","level"] XX):FnOk P w K mg base ZF 2 f fd ["self","number","level"] (ZgJ K C):=by
 refine F.ok scFp (fun cdv A outer s H vs Q E hr h=>?_)
 obtain ⟨st,ln,dt,nds,tabs,G,B,n,rfl,S,hn,hnb,hok,hlev,q⟩:=h
 obtain ⟨tz,hz⟩:=T.zero
 obtain ⟨af,hf,hft⟩:=T.figs
 refine' ⟨?t,?h,?r⟩
 case h =>
  conv=>arg 2;whnf
  with_reducible refine' Zd ?a1 (Zd ?a2 (Zd ?a3 (Zd ?a4 (Zi ?a5))))
  case a1=>exact Zv (i:=3) scFp.nd rfl (QD rfl) (ZD ZE (ZC (pv 0) rfl) (pv 1) (fun _ _=>rfl))
  case a2=>exact Yb (Vm (ZJ DP hr (Zc (pv 3) Za)) (fun _=>rfl)) (Zi (Zq (YI Vz rfl T.list (by decide +kernel) (Zc (ZJ DP hr (Zc (pv 3) Za)) Za)))) ZM
  case a3=>exact Zv (i:=4) scFp.nd rfl (QD rfl) (ZD YL (ZD YL (ZJ DR hr (Zc (pv 3) Za)) Zh (fun _ _=>rfl)) Zh (fun _ _=>rfl))
  case a4=>exact Zv (i:=5) scFp.nd rfl (SW rfl) (ZJ DG hr (Zc (ZJ DM hr (Zc (pv 4) Za)) (Zc (pv 2) Za)))
  case a5=>exact Zq (Zcq (CompOk.of nFp c_Store_fork_parts rfl rfl (by decide +kernel)) rfl (Zil (ZO rfl hf (v:=.ref af) rfl)) (fun _ _ _ _ _=>YN (ZK YX (pv 6) (pv 5) (ZL _)) (pv 1) (ZO rfl hz (v:=.int 0) ⟨_,rfl⟩)))
 try dsimp only [ZN,Cx.nox]
 refine zs5 ?_
 intro zD zS zN4 zN3 zN2 zN1
 obtain ⟨as,a,nl,ha,J⟩:=S.node hn
 obtain ⟨dx,ob⟩:=S.ob
 refine ⟨_,rfl,st,C,dx,_,_,rfl,ob,TC.cl,TC.nN,XI ln dt,_,rfl,ln,_,_,_,rfl,rfl,SqL.of nl,ZI (by rw [getElem?_map,ha];rfl),?_⟩
 refine ⟨_,rfl,a,n,rfl,J,fun pt H2 s2 hpt=>⟨_,.inr (.inl ⟨_,hpt,rfl⟩),?_⟩⟩
 cases n with
 | bare=>exact absurd rfl hnb
 | fork qs =>
  have h4:qs.length=4:=by obtain ⟨_,_,_,z⟩:=J;exact z
  have hk:(!(((Nd.fork qs).parts).map (fun q:Nat=>V.int (q:Int))).isEmpty)=true:=by
   cases qs with
   | nil=>cases h4
   | cons _ _=>rfl
  rw [hk]
  refine Ys ⟨_,rfl,a,_,rfl,J.tf s2.tf,fun U H3 s3 I=>⟨U,_,rfl,.inr I,fun l hl=>?_⟩⟩
  have hl0:H l=none:=by
   cases e:H l with
   | none=>rfl
   | some o=>rw [s3 _ _ (s2 _ _ e)] at hl;cases hl
  exact q l _ hl0 ((s2.trans s3).trans (Zm hl _)) Zf
 | leaf m ps =>
  obtain ⟨p1,pr,rfl,hm1,hx1,hm0⟩:=hok
  refine ZQ ⟨_,rfl,a,_,rfl,J.tf s2.tf,fun U H3 s3 I=>?_⟩
  obtain ⟨o,ts,ept,hod,hlen,hp⟩:=I
  cases ts with
  | nil=>simp [Nd.pairs] at hlen
  | cons t1 tr =>
   have et1:=hp 0 t1 p1 rfl rfl
   refine ⟨U,_,_,_,rfl,rfl,.inl (.inr ⟨o,ept⟩),(show YG ((t1::tr).map V.ref) ((0:Nat):Int)=some (V.ref t1) from ZI rfl),t1,_,_,_,rfl,rfl,SqT.of et1,rfl,?_⟩
   refine ⟨_,rfl,p1.1,rfl,hx1,fun H4 s4=>⟨_,rfl,Zx p1.1,B,rfl,by rw [hm1];exact hm0,hlev,?_⟩⟩
   refine ⟨af,rfl,⟨_,hft _⟩,fun D hD=>?_⟩
   have s24:=(s2.trans s3).trans s4
   have hD0:H D=none:=by
    cases e:H D with
    | none=>rfl
    | some o=>rw [s24 _ _ e] at hD;cases hD
   refine Zjg (K:=K) (a:=af) (xs:=[.int 0,.int 1,.int 2,.int 3]) (by show 4<=Qj;decide) (fun i ys H'=>ys=(([0,1,2,3]:List Nat).take i).map (fun g=>iN (if g=ZW m B then G else 0))/\i<=4/\H' D=some (.lst ys)/\Same H H') ?_ ?_ ?_ ?_
   ·exact ⟨rfl,by decide,Zf,s24.trans (Zm hD _)⟩
   ·rintro i ys Z ⟨rfl,hi,_,_⟩
    exact ⟨by rw [length_map,length_take];show min i 4=i;omega,hft _⟩
   ·rintro i x ys Z hi ⟨rfl,hi4,W,s5⟩
    have hi':i < 4:=(Qk.mp hi).1
    have ex:x=iN i:=by
     rcases i with _ | _ | _ | _ | i
     ·cases hi;rfl
     ·cases hi;rfl
     ·cases hi;rfl
     ·cases hi;rfl
     ·omega
    subst ex
    have fin:∀ y,y=iN (if i=ZW m B then G else 0)->Z D=some (.lst ((([0,1,2,3]:List Nat).take i).map (fun g=>iN (if g=ZW m B then G else 0))))/\(((([0,1,2,3]:List Nat).take i).map (fun g=>iN (if g=ZW m B then G else 0))++[y])=(([0,1,2,3]:List Nat).take (i+1)).map (fun g=>iN (if g=ZW m B then G else 0))/\i+1<=4/\upd Z D (.lst ((([0,1,2,3]:List Nat).take i).map (fun g=>iN (if g=ZW m B then G else 0))++[y])) D=some (.lst ((([0,1,2,3]:List Nat).take i).map (fun g=>iN (if g=ZW m B then G else 0))++[y]))/\Same H (upd Z D (.lst ((([0,1,2,3]:List Nat).take i).map (fun g=>iN (if g=ZW m B then G else 0))++[y])))):=by
     intro y ey
     refine ⟨W,?_,by omega,Zf,fun b o e=>by rw [Zg (Zr e hD0)];exact s5 _ _ e⟩
     subst ey
     rcases i with _ | _ | _ | _ | i
     ·rfl
     ·rfl
     ·rfl
     ·rfl
     ·omega
    have ed:decide (iN i=V.int (Zx p1.1 / 4 ^ B % 4))=decide (i=ZW m B):=by
     rw [hm1,<- Ws]
     by_cases z:i=ZW m B
     ·rw [decide_eq_true z,z];exact decide_eq_true rfl
     ·rw [decide_eq_false z]
      exact decide_eq_false fun y=>z (by have:=V.int.inj y;omega)
    refine ⟨_,rfl,_,rfl,rfl,_,rfl,?_⟩
    rw [ed]
    by_cases z:i=ZW m B
    ·rw [decide_eq_true z]
     exact Ys ⟨_,rfl,fin _ (by rw [if_pos z])⟩
    ·rw [decide_eq_false z]
     exact ZQ (fin _ (by rw [if_neg z];rfl))
   ·rintro ys Z ⟨rfl,_,W,s5⟩
    refine q D Z hD0 s5 ?_
    rw [W]
    rfl
end
def gK (p:Str×V):Zo×V:=(Qs p.1,p.2)
theorem ZmN (ps:List (Str×V))(x:Str):lk ps x=Zz (ps.map gK) (Qs x):=rfl
theorem ZhS (x:Str):lk [] x=none:=rfl
theorem UE (p:Str×V)(ps:List (Str×V))(x:Str):lk (p::ps) x=if p.1=x then some p.2 else lk ps x:=by
 by_cases h:p.1=x
 ·rw [if_pos h];exact YC (show (gK p).1=Qs x by rw [<- h];rfl)
 ·rw [if_neg h];exact YB (show ¬ (gK p).1=Qs x from fun z=>h (Js z))
theorem VE {ps:List (Str×V)}(B:(ps.map (·.1)).Nodup){x:Str}{v:V}:lk ps x=some v↔(x,v)∈ps:=by
 induction ps with
 | nil=>simp [ZhS]
 | cons p ps ih =>
  rw [map_cons,nodup_cons] at B
  rw [UE]
  by_cases h:p.1=x
  ·rw [if_pos h]
   constructor
   ·intro e
    cases e
    rw [<- h];exact mem_cons_self
   ·intro e
    rcases mem_cons.mp e with e | e
    ·rw [<- e]
    ·exact absurd (h ▸ PM (f:=(·.1)) e) B.1
  ·rw [if_neg h,ih B.2,mem_cons]
   exact ⟨.inr,fun e=>e.resolve_left fun z=>h (by rw [<- z])⟩
theorem Zfm {ps:List (Str×V)}{x:Str}(h:∀ p∈ps,p.1≠x):lk ps x=none:=by
 induction ps with
 | nil=>rfl
 | cons p ps ih=>rw [UE,if_neg (h p mem_cons_self)];exact ih fun q B=>h q (mem_cons_of_mem _ B)
theorem Zfn {ps qs:List (Str×V)}(h:ps.Perm qs)(G:(qs.map (·.1)).Nodup)(x:Str):lk ps x=lk qs x:=by
 have B:(ps.map (·.1)).Nodup:=(h.map (·.1)).nodup_iff.mpr G
 cases e:lk qs x with
 | some v=>exact (VE B).mpr (h.mem_iff.mpr ((VE G).mp e))
 | none =>
  cases e2:lk ps x with
  | none=>rfl
  | some v=>rw [(VE G).mpr (h.mem_iff.mp ((VE B).mp e2))] at e;cases e
def Wx (ps:List (Str×V))(x:Str)(v:V):List (Str×V) :=
 if (ps.any fun p=>decide (p.1=x))=true then ps.map (fun p=>if p.1=x then (p.1,v) else p) else ps++[(x,v)]
theorem Zek (ps:List (Str×V))(x:Str)(v:V):Ye (ps.map gK) (Qs x) v=(Wx ps x v).map gK:=by
 have e:∀ p:Str×V,decide ((gK p).1=Qs x)=decide (p.1=x):=fun p=>by
  by_cases h:p.1=x
  ·rw [decide_eq_true h];exact decide_eq_true (by rw [<- h];rfl)
  ·rw [decide_eq_false h];exact decide_eq_false fun z=>h (Js z)
 have e1:((ps.map gK).any fun B=>decide (B.1=Qs x))=ps.any fun p=>decide (p.1=x):=by
  rw [List.any_map];congr 1;funext p;exact e p
 unfold Ye Wx
 rw [e1]
 by_cases h:(ps.any fun p=>decide (p.1=x))=true
 ·rw [if_pos h,if_pos h,map_map,map_map]
  congr 1
  funext p
  show (if (gK p).1=Qs x then ((gK p).1,v) else gK p)=gK (if p.1=x then (p.1,v) else p)
  by_cases z:p.1=x
  ·rw [if_pos z,if_pos (show (gK p).1=Qs x by rw [<- z];rfl)];rfl
  ·rw [if_neg z,if_neg (show ¬ (gK p).1=Qs x from fun y=>z (Js y))]
 ·rw [if_neg h,if_neg h,map_append];rfl
theorem Zio (ps:List (Str×V))(x:Str)(v:V):(Wx ps x v).map (·.1)=if x∈ps.map (·.1) then ps.map (·.1) else ps.map (·.1)++[x]:=by
 have e:(ps.any fun p=>decide (p.1=x))=true↔x∈ps.map (·.1):=by
  rw [OT,mem_map]
  exact ⟨fun ⟨p,h,z⟩=>⟨p,h,of_decide_eq_true z⟩,fun ⟨p,h,z⟩=>⟨p,h,decide_eq_true z⟩⟩
 unfold Wx
 by_cases h:(ps.any fun p=>decide (p.1=x))=true
 ·rw [if_pos h,if_pos (e.mp h),map_map]
  apply PJ
  intro p _
  show (if p.1=x then (p.1,v) else p).1=p.1
  split<;>rfl
 ·rw [if_neg h,if_neg fun z=>h (e.mpr z),map_append];rfl
theorem ZlL (ps:List (Str×V))(x y:Str)(v:V):lk (Wx ps x v) y=if y=x then some v else lk ps y:=by
 rw [ZmN,<- Zek,WD]
 by_cases h:y=x
 ·rw [if_pos h,if_pos (by rw [h])]
 ·rw [if_neg h,if_neg fun z=>h (Js z)];rfl
structure Yr (NS:List Str):Prop where
 few:NS.length < 64
 len:∀ x∈NS,x.length<=1000
 lo:∀ x∈NS,0<=Zx x
 hi:∀ x∈NS,Zx x < 1024
structure LeafG (NS:List Str)(m:Int)(ps:List (Str×V)):Prop where
 ne:ps≠[]
 nd:(ps.map (·.1)).Nodup
 sub:∀ p∈ps,p.1∈NS
 mrk:∀ p∈ps,Zx p.1=m
def Xr (x:Str):Nat:=(Zx x).toNat
def TriE (NS:List Str)(nds:List Nd)(F:Str->Option V)(lev r num:Nat):Prop :=
 (num=0/\nds[num]?=some .bare/\∀ x∈NS,Xr x % 4 ^ lev=r->F x=none) \/
 ∃ m ps,nds[num]?=some (.leaf m ps)/\LeafG NS m ps/\m.toNat % 4 ^ lev=r/\∀ x∈NS,Xr x % 4 ^ lev=r->F x=lk ps x
def Tri (NS:List Str)(nds:List Nd)(F:Str->Option V):Nat->Nat->Nat->Nat->Prop
 | 0,lev,r,num=>TriE NS nds F lev r num
 | d+1,lev,r,num=>TriE NS nds F lev r num\/∃ qs,nds[num]?=some (.fork qs)/\qs.length=4/\∀ i q,qs[i]?=some q->Tri NS nds F d (lev+1) (r+i * 4 ^ lev) q
def NEx (nds nds':List Nd):Prop:=∀(i:Nat)(n:Nd),nds[i]?=some n->nds'[i]?=some n
theorem NEx.refl (nds:List Nd):NEx nds nds:=fun _ _ h=>h
theorem NEx.trans {a b c:List Nd}(h:NEx a b)(h':NEx b c):NEx a c:=fun i n e=>h' i n (h i n e)
theorem NEx.app (nds:List Nd)(n:Nd):NEx nds (nds++[n]):=fun i m e=>by rw [getElem?_append_left (Qk.mp e).1];exact e
section
variable {NS:List Str}{nds nds':List Nd}{F F':Str->Option V}
theorem TriE.mono {G r B:Nat}(h:TriE NS nds F G r B)(e:NEx nds nds'):TriE NS nds' F G r B:=by
 rcases h with ⟨h1,h2,I⟩ | ⟨m,ps,h1,h2⟩
 ·exact .inl ⟨h1,e _ _ h2,I⟩
 ·exact .inr ⟨m,ps,e _ _ h1,h2⟩
theorem Tri.mono:∀(d:Nat){G r B:Nat},Tri NS nds F d G r B->NEx nds nds'->Tri NS nds' F d G r B
 | 0,_,_,_,h,e=>TriE.mono h e
 | d+1,_,_,_,.inl h,e=>.inl (TriE.mono h e)
 | d+1,_,_,_,.inr ⟨qs,h1,h2,h3⟩,e=>.inr ⟨qs,e _ _ h1,h2,fun i q I=>Tri.mono d (h3 i q I) e⟩
theorem TriE.congr {B r G:Nat}(h:TriE NS nds F B r G)(e:∀ x∈NS,Xr x % 4 ^ B=r->F' x=F x):TriE NS nds F' B r G:=by
 rcases h with ⟨h1,h2,S⟩ | ⟨m,ps,h1,h2,S,U⟩
 ·exact .inl ⟨h1,h2,fun x J I=>by rw [e x J I];exact S x J I⟩
 ·exact .inr ⟨m,ps,h1,h2,S,fun x J I=>by rw [e x J I];exact U x J I⟩
theorem WS (n B:Nat):n % 4 ^ (B+1)=n % 4 ^ B+(n / 4 ^ B % 4) * 4 ^ B:=by
 rw [Nat.pow_succ,Nat.mod_mul,Nat.mul_comm (4 ^ B)]
theorem Wy {n B r i:Nat}(G:r < 4 ^ B)(h:n % 4 ^ (B+1)=r+i * 4 ^ B):n % 4 ^ B=r/\n / 4 ^ B % 4=i:=by
 rw [WS] at h
 have hp:0 < 4 ^ B:=Nat.pow_pos (by decide)
 have h1:=Nat.mod_lt n hp
 have e1:n % 4 ^ B=r:=by
  have z:=congrArg (· % 4 ^ B) h
  simp only [Nat.add_mul_mod_self_right] at z
  rwa [Nat.mod_mod,OU G] at z
 refine ⟨e1,?_⟩
 rw [e1] at h
 exact Nat.eq_of_mul_eq_mul_right hp (Nat.add_left_cancel h)
theorem UM {B r i:Nat}(G:r < 4 ^ B)(hi:i < 4):r+i * 4 ^ B < 4 ^ (B+1):=by
 rw [Nat.pow_succ]
 have:i * 4 ^ B<=3 * 4 ^ B:=Rj _ (by omega)
 omega
theorem Tri.congr:∀(d:Nat){B r G:Nat},r < 4 ^ B->Tri NS nds F d B r G->(∀ x∈NS,Xr x % 4 ^ B=r->F' x=F x)->Tri NS nds F' d B r G
 | 0,_,_,_,_,h,e=>TriE.congr h e
 | d+1,_,_,_,_,.inl h,e=>.inl (TriE.congr h e)
 | d+1,_,_,_,hr,.inr ⟨qs,h1,h2,h3⟩,e=>.inr ⟨qs,h1,h2,fun i q I=>Tri.congr d (UM hr (by rw [<- h2];exact (Qk.mp I).1)) (h3 i q I) fun x S J=>e x S (Wy hr J).1⟩
theorem Xy {n:Int}(h:0<=n)(B:Nat):ZW n B=n.toNat / 4 ^ B % 4:=by
 obtain ⟨k,rfl⟩:=Int.eq_ofNat_of_zero_le h
 unfold ZW
 have:((k:Int) / 4 ^ B % 4)=((k / 4 ^ B % 4:Nat):Int):=by norm_cast
 rw [this]
 rfl
theorem Zmb (N:Yr NS):∀(d:Nat){B r G:Nat}{x:Str},r < 4 ^ B->Tri NS nds F d B r G->x∈NS->Xr x % 4 ^ B=r ->
 ∃ U e n,Xl nds (Zx x) (d+1) B G=some (U++[e])/\nds[e]?=some n/\((e=0/\n=.bare/\F x=none)\/∃ m ps,n=.leaf m ps/\LeafG NS m ps/\F x=lk ps x):=by
 have I:∀ {B r G:Nat} {x:Str} (d:Nat),TriE NS nds F B r G->x∈NS->Xr x % 4 ^ B=r->∃ U e n,Xl nds (Zx x) (d+1) B G=some (U++[e])/\nds[e]?=some n/\((e=0/\n=.bare/\F x=none)\/∃ m ps,n=.leaf m ps/\LeafG NS m ps/\F x=lk ps x):=by
  intro B r G x d h J S
  rcases h with ⟨h1,h2,W⟩ | ⟨m,ps,h1,h2,W,h4⟩
  ·exact ⟨[],G,.bare,by unfold Xl;rw [h2];rfl,h2,.inl ⟨h1,rfl,W x J S⟩⟩
  ·exact ⟨[],G,.leaf m ps,by unfold Xl;rw [h1];rfl,h1,.inr ⟨m,ps,rfl,h2,h4 x J S⟩⟩
 intro d
 induction d with
 | zero=>exact fun _ h J S=>I 0 h J S
 | succ d ih =>
  intro B r G x Z h J S
  rcases h with h | ⟨qs,h1,h2,W⟩
  ·exact I _ h J S
  ·have hi:ZW (Zx x) B < qs.length:=by rw [h2];exact Ua _ _
   have hq:=getElem?_eq_getElem hi
   obtain ⟨U,e,n,e1,e2,e3⟩:=ih (UM Z (Ua _ _)) (W _ _ hq) J (by rw [WS,S,Xy (N.lo x J)];rfl)
   refine ⟨G::U,e,n,?_,e2,e3⟩
   unfold Xl
   rw [h1]
   show ((qs[ZW (Zx x) B]?).bind fun q=>(Xl nds (Zx x) (d+1) (B+1) q).map (G::·))=_
   rw [hq]
   show (Xl nds (Zx x) (d+1) (B+1) _).map (G::·)=_
   rw [e1]
   rfl
end
theorem Zld:∀{l N:List Str},l.Nodup->(∀ x∈l,x∈N)->l.length<=N.length:=by
 intro l
 induction l with
 | nil=>intro N _ _;exact QC _
 | cons a l ih =>
  intro N B G
  rw [nodup_cons] at B
  have J:a∈N:=G a mem_cons_self
  have:=ih (N:=N.erase a) B.2 fun x I=>(List.mem_erase_of_ne (show x≠a from fun z=>B.1 (by rw [<- z];exact I))).mpr (G x (mem_cons_of_mem _ I))
  rw [List.length_erase_of_mem J] at this
  have h1:0 < N.length:=List.length_pos_of_mem J
  rw [length_cons];omega
section
variable {NS:List Str}{nds nds':List Nd}{F F':Str->Option V}
theorem LeafG.few {m:Int}{ps:List (Str×V)}(G:LeafG NS m ps):ps.length<=NS.length:=by
 have:=Zld G.nd (N:=NS) fun x B=>by obtain ⟨p,hp,rfl⟩:=mem_map.mp B;exact G.sub p hp
 rwa [length_map] at this
theorem LeafG.perm {m:Int}{ps qs:List (Str×V)}(G:LeafG NS m ps)(h:qs.Perm ps):LeafG NS m qs :=
 ⟨fun z=>G.ne (by rw [z] at h;exact (OS h).symm),(h.map (·.1)).nodup_iff.mpr G.nd,fun p hp=>G.sub p (h.mem_iff.mp hp),fun p hp=>G.mrk p (h.mem_iff.mp hp)⟩
theorem LeafG.ok {m:Int}{ps:List (Str×V)}(N:Yr NS)(G:LeafG NS m ps):ZdD (.leaf m ps):=by
 cases ps with
 | nil=>exact absurd rfl G.ne
 | cons p pr =>
  have h1:=G.mrk p mem_cons_self
  have h2:=G.sub p mem_cons_self
  exact ⟨p,pr,rfl,h1,N.len _ h2,by rw [<- h1];exact N.lo _ h2⟩
theorem Zka {ps:List (Str×V)}{x:Str}(v:V)(W:x∈NS)(I:(ps.map (·.1)).Nodup)(S:∀ p∈ps,p.1∈NS)(U:∀ p∈ps,Zx p.1=Zx x):LeafG NS (Zx x) (Wx ps x v):=by
 have G:=Zio ps x v
 have B:∀ p∈Wx ps x v,p.1∈ps.map (·.1)\/p.1=x:=fun p hp=>by
  have h1:p.1∈(Wx ps x v).map (·.1):=PM hp
  rw [G] at h1
  by_cases h:x∈ps.map (·.1)
  ·rw [if_pos h] at h1;exact .inl h1
  ·rw [if_neg h] at h1
   rcases mem_append.mp h1 with z | z
   ·exact .inl z
   ·exact .inr (mem_singleton.mp z)
 refine ⟨fun z=>?_,?_,fun p hp=>?_,fun p hp=>?_⟩
 ·rw [z] at G
  by_cases h:x∈ps.map (·.1)
  ·rw [if_pos h] at G;rw [<- G] at h;cases h
  ·rw [if_neg h] at G;simp at G
 ·rw [G]
  by_cases h:x∈ps.map (·.1)
  ·rw [if_pos h];exact I
  ·rw [if_neg h,Tx]
   exact ⟨I,by simp,fun a Z b hb e=>h (by rw [mem_singleton.mp hb] at e;rw [<- e];exact Z)⟩
 ·rcases B p hp with z | z
  ·obtain ⟨q,J,e⟩:=mem_map.mp z
   rw [<- e];exact S q J
  ·rw [z];exact W
 ·rcases B p hp with z | z
  ·obtain ⟨q,J,e⟩:=mem_map.mp z
   rw [<- e];exact U q J
  ·rw [z]
def upF (F:Str->Option V)(x:Str)(v:V):Str->Option V:=fun y=>if y=x then some v else F y
theorem Zkl {d B r:Nat}{m:Int}{ps qs:List (Str×V)}{x:Str}{v:V}{I:Nat}(N:Yr NS)(hx:x∈NS)(W:Xr x % 4 ^ B=r)(S:nds[I]?=some (.leaf m qs))(Z:m=Zx x)(G:LeafG NS (Zx x) (Wx ps x v))(hp:qs.Perm (Wx ps x v))
 (hF:∀ y∈NS,Xr y % 4 ^ B=r->F y=lk ps y):Tri NS nds (upF F x v) d B r I:=by
 subst Z
 have h:TriE NS nds (upF F x v) B r I:=by
  refine .inr ⟨Zx x,qs,S,G.perm hp,W,fun y U J=>?_⟩
  rw [Zfn hp G.nd,ZlL]
  unfold upF
  by_cases h:y=x
  ·rw [if_pos h,if_pos h]
  ·rw [if_neg h,if_neg h];exact hF y U J
 cases d with
 | zero=>exact h
 | succ d=>exact .inl h
theorem Zjm {d B r I:Nat}{n:Nd}(N:Yr NS)(h0:nds[0]?=some .bare)(hr:r < 4 ^ B)(h:Tri NS nds F (d+1) B r I)(W:nds[I]?=some n)(hnb:n≠.bare) :
 (Xj I B n).length=4/\∀ (i q:Nat),(Xj I B n)[i]?=some q->Tri NS nds F d (B+1) (r+i * 4 ^ B) q:=by
 have wrapE:∀ {r' q:Nat},TriE NS nds F (B+1) r' q->Tri NS nds F d (B+1) r' q:=fun g=>by
  cases d with
  | zero=>exact g
  | succ d=>exact .inl g
 rcases h with h | ⟨qs,h1,h2,h3⟩
 ·rcases h with ⟨_,e,_⟩ | ⟨m,ps,e,G,hm,hF⟩
  ·rw [W] at e;cases e;exact absurd rfl hnb
  ·rw [W] at e;cases e
   obtain ⟨p1,pr,e1,e2,e3,e4⟩:=G.ok N
   refine ⟨rfl,fun i q U=>?_⟩
   have hi:i < 4:=(Qk.mp U).1
   have S:(if i=ZW m B then I else 0)=q:=by
    rcases i with _ | _ | _ | _ | i
    ·exact QE U
    ·exact QE U
    ·exact QE U
    ·exact QE U
    ·omega
   have Z:m.toNat % 4 ^ (B+1)=r+ZW m B * 4 ^ B:=by rw [WS,hm,Xy e4]
   by_cases z:i=ZW m B
   ·rw [if_pos z] at S
    subst S
    exact wrapE (.inr ⟨m,ps,W,G,by rw [Z,z],fun y hy J=>hF y hy (Wy hr J).1⟩)
   ·rw [if_neg z] at S
    subst S
    refine wrapE (.inl ⟨rfl,h0,fun y hy J=>?_⟩)
    rw [hF y hy (Wy hr J).1]
    refine Zfm fun p hp e=>z ?_
    have:=(Wy hr J).2
    rw [<- this,<- e]
    unfold Xr
    rw [G.mrk p hp,Xy e4]
 ·rw [W] at h1;cases h1
  exact ⟨h2,h3⟩
theorem Zjt {r B:Nat}{n:Nd}{x:Str}(N:Yr NS)(h:Tri NS nds F 0 5 r B)(J:nds[B]?=some n)(I:n≠.bare)(U:x∈NS)(S:Xr x % 4 ^ 5=r):n.hasM (Zx x)=true:=by
 rcases h with ⟨_,e,_⟩ | ⟨m,ps,e,G,hm,hF⟩
 ·rw [J] at e;cases e;exact absurd rfl I
 ·rw [J] at e;cases e
  refine decide_eq_true ?_
  obtain ⟨p1,pr,e1,Z,e3,e4⟩:=G.ok N
  have h1:Zx p1.1 < 1024:=N.hi _ (G.sub p1 (by rw [e1];exact mem_cons_self))
  have h2:=N.hi x U
  have h3:=N.lo x U
  rw [Z] at h1
  unfold Xr at S
  have W:m.toNat % 1024=r:=hm
  have h5:(Zx x).toNat % 1024=r:=S
  rw [OU (by omega)] at W h5
  omega
theorem Zjl {d B r G num':Nat}{qs:List Nat}{x:Str}{v:V}(N:Yr NS)(U:r < 4 ^ B)(hx:x∈NS)(hxr:Xr x % 4 ^ B=r)(S:qs.length=4)(hq:∀(i q:Nat),qs[i]?=some q->Tri NS nds F d (B+1) (r+i * 4 ^ B) q)
 (e:NEx nds nds') (W:Tri NS nds' F' d (B+1) (r+ZW (Zx x) B * 4 ^ B) num') (Z:∀ y,y≠x->F' y=F y) (h:nds'[G]?=some (.fork (qs.set (ZW (Zx x) B) num'))):Tri NS nds' F' (d+1) B r G:=by
 refine .inr ⟨_,h,by rw [length_set,S],fun i q hi=>?_⟩
 have I:i < 4:=by rw [<- S];have:=(Qk.mp hi).1;rwa [length_set] at this
 rw [Tz] at hi
 by_cases z:ZW (Zx x) B=i
 ·rw [if_pos z,if_pos (by rw [S,z];exact I)] at hi
  cases hi
  rw [<- z]
  exact W
 ·rw [if_neg z] at hi
  refine Tri.congr d (UM U I) (Tri.mono d (hq i q hi) e) fun y hy J=>Z y fun w=>z ?_
  rw [w] at J
  rw [Xy (N.lo x hx)]
  exact (Wy U J).2
end
section
variable {P:Qi}{w:Qu}{K:Qa}{mg:Str->Option Qb}{base:Heap}{C Pl:Addr}{NS:List Str}
def VW (K:Qa)(C Pl:Addr)(NS:List Str):Nat->Sp
 | 0=>fun _ _ _ _=>False
 | d+1=>fun vs H Q _=>∃ (st ln dt:Addr) (nds:List Nd) (tabs:List (Zo×V)) (num lev r:Nat) (x:Str) (v:V) (F:Str->Option V),vs=[.ref st,iN num,iN lev,.str x,v]/\StoreAt K C st ln dt H nds tabs/\nds[0]?=some .bare/\Tri NS nds F d lev r num/\r < 4 ^ lev/\lev+d=5/\x∈NS/\Xr x % 4 ^ lev=r/\nds.length+d+1<=100000/\LamAt H Pl YW Wh /\
  ∀ (H':Hp) (nds':List Nd) (num':Nat),StoreAt K C st ln dt H' nds' tabs->NEx nds nds'->nds'.length<=nds.length+d+1->Tri NS nds' (upF F x v) d lev r num'->LamAt H' Pl YW Wh->Kq [ln,Pl] H H'->TF H H'->Q (iN num') H'
abbrev nPi:List Str:=["self","number","level","name","value"]
theorem scPI:Zp ["self","number","level","name","value","node","pairs","parts","figure"] nPi (Zk c_Store_put_in):={}
theorem Zbc {nds:List Nd}{F:Str->Option V}:∀{d G r B:Nat},Tri NS nds F d G r B->∃ n,nds[B]?=some n/\(n=.bare->B=0):=by
 have e:∀ {G r B:Nat},TriE NS nds F G r B->∃ n,nds[B]?=some n/\(n=.bare->B=0):=fun h=>by
  rcases h with ⟨h1,h2,_⟩ | ⟨m,ps,h1,_⟩
  ·exact ⟨_,h2,fun _=>h1⟩
  ·exact ⟨_,h1,fun z=>by cases z⟩
 intro d G r B h
 cases d with
 | zero=>exact e h
 | succ d =>
  rcases h with h | ⟨qs,h1,_⟩
  ·exact e h
  ·exact ⟨_,h1,fun z=>by cases z⟩
theorem ZjZ {nds:List Nd}{F:Str->Option V}{d I r B:Nat}{n:Nd}{x:Str}(U:nds[0]?=some .bare)(h:Tri NS nds F d I r B)(J:nds[B]?=some n)(S:B=0\/n.hasM (Zx x)=true) :
 (n.pairs.map (·.1)).Nodup/\(∀ p∈n.pairs,p.1∈NS)/\(∀ p∈n.pairs,Zx p.1=Zx x)/\(∀ y∈NS,Xr y % 4 ^ I=r->F y=lk n.pairs y)/\n.pairs.length<=NS.length:=by
 have e:TriE NS nds F I r B->(n.pairs.map (·.1)).Nodup/\(∀ p∈n.pairs,p.1∈NS)/\(∀ p∈n.pairs,Zx p.1=Zx x)/\(∀ y∈NS,Xr y % 4 ^ I=r->F y=lk n.pairs y)/\n.pairs.length<=NS.length:=fun g=>by
  rcases g with ⟨h1,h2,Z⟩ | ⟨m,ps,h1,G,hm,hF⟩
  ·rw [J] at h2;cases h2
   exact ⟨List.nodup_nil,fun p hp=>(by cases hp),fun p hp=>(by cases hp),Z,QC _⟩
  ·rw [J] at h1;cases h1
   rcases S with z | z
   ·rw [z,U] at J;cases J
   ·have W:m=Zx x:=of_decide_eq_true z
    exact ⟨G.nd,G.sub,fun p hp=>by rw [G.mrk p hp,W],hF,G.few⟩
 cases d with
 | zero=>exact e h
 | succ d =>
  rcases h with h | ⟨qs,h1,_⟩
  ·exact e h
  ·rw [J] at h1;cases h1
   rcases S with z | z
   ·rw [z,U] at J;cases J
   ·cases z
theorem Zlq {f:Addr}{fd:Qn}{d k:Nat}(N:Yr NS)(hk:2<=k)(F:Fun K "put_in" "Store.put_in" c_Store_put_in f fd)(T:Txt K mg)(TC:Xp K C)
 (DH:Def P w K mg base 1 "has_mark" ["node","number"] (UP K)) (DR:Def P w K mg base 1 "pairs_in" ["node"] (XY K)) (DM:Def P w K mg base 1 "mark" ["name"] Wk) (DG:Def P w K mg base 1 "digit" ["number","level"] XX)
 (DL:Def P w K mg base 2 "leaf_of" ["pairs"] (UR K Pl YW)) (DO:Def P w K mg base 1 "fork_of" ["parts"] (WA K)) (DK:DefM P w K mg base 1 C "keep" ["self","node"] (UQ K C)) (DF:DefM P w K mg base 2 C "fork_parts" ["self","number","level"] (ZgJ K C))
 (DI:DefM P w K mg base k C "put_in" nPi (VW K C Pl NS d)):FnOk P w K mg base ZF (k+1) f fd nPi (VW K C Pl NS (d+1)):=by
 refine F.ok scPI (fun cdv A outer s H vs Q E hr h=>?_)
 obtain ⟨st,ln,dt,nds,tabs,I,B,r,x,v,Fm,rfl,S,h0,W,hrl,hlev,hx,hxr,hlen,hL,q⟩:=h
 obtain ⟨tz,hz⟩:=T.zero
 have hr1:=hr.mono (show 1<=k by omega)
 have hr2:=hr.mono hk
 refine' ⟨?t,?h,?r⟩
 case h =>
  conv=>arg 2;whnf
  with_reducible refine' Zd ?a1 (Zd (Yb ?a2 (Zd ?c1 (Zd ?c2 (Zi ?c3))) ZM) (Zd ?a3 (Zd ?a4 (Zd ?a5 (Zi ?a6)))))
  case a1=>exact Zv (i:=5) scPI.nd rfl (QD rfl) (ZD ZE (ZC (pv 0) rfl) (pv 1) (fun _ _=>rfl))
  case a2=>exact PW.pt (ZbK (ZK YX (pv 1) (ZO rfl hz (v:=.int 0) ⟨_,rfl⟩) (ZL _)) (VO (UK (ZJ DH hr1 (Zc (pv 5) (Zc (ZJ DM hr1 (Zc (pv 3) Za)) Za))))))
  case c1=>exact Zv (i:=6) scPI.nd rfl (QD rfl) (YI (Ul rfl) rfl T.dict (by decide +kernel) (Zc (ZJ DR hr1 (Zc (pv 5) Za)) Za))
  case c2=>exact UJ (YS hr) (pv 6) (pv 3) (pv 4) rfl
  case c3=>exact Zq (ZU DK TC.cl hr1 (pv 0) (Zc (ZJ DL hr2 (Zc (YI (Zbk rfl) rfl T.list (by decide +kernel) (Zc (Znl JK Sd PySem.F.type_dict_items Zjv (pv 6)) Za)) Za)) Za))
  case a3=>exact Zv (i:=7) scPI.nd rfl (QD rfl) (ZU DF TC.cl hr2 (pv 0) (Zc (pv 1) (Zc (pv 2) Za)))
  case a4=>exact Zv (i:=8) scPI.nd rfl (QD rfl) (ZJ DG hr1 (Zc (ZJ DM hr1 (Zc (pv 3) Za)) (Zc (pv 2) Za)))
  case a5=>exact Wg (ZU DI TC.cl hr (pv 0) (Zc (ZD ZE (pv 7) (pv 8) (fun _ _=>rfl)) (Zc (Zw Yy (pv 2) Zh) (Zc (pv 3) (Zc (pv 4) Za))))) (VL (pv 7) (pv 8) Ug)
  case a6=>exact Zq (ZU DK TC.cl hr1 (pv 0) (Zc (ZJ DO hr1 (Zc (pv 7) Za)) Za))
 try dsimp only [ZN,Cx.nox]
 refine zs6 ?_
 intro zD zS zN5 zN4 zN3 zN2 zN1
 obtain ⟨n,hn,hbare⟩:=Zbc W
 obtain ⟨as,a,nl,ha,hna⟩:=S.node hn
 obtain ⟨dx,ob⟩:=S.ob
 obtain ⟨tb,htb⟩:=hL.tbl
 have hst:st ∉ [Pl]:=fun z=>by rw [mem_singleton.mp z,htb] at ob;cases ob
 have hln:ln ∉ [Pl]:=fun z=>by rw [mem_singleton.mp z,htb] at nl;cases nl
 have hdt:dt ∉ [Pl]:=fun z=>by have e:=S.tb;rw [mem_singleton.mp z,htb] at e;cases e
 refine ⟨_,rfl,st,C,dx,_,_,rfl,ob,TC.cl,TC.nN,XI ln dt,_,rfl,ln,_,_,_,rfl,rfl,SqL.of nl,ZI (by rw [getElem?_map,ha];rfl),?_⟩
 refine ⟨_,rfl,rfl,_,rfl,?_⟩
 have ed:decide (iN I=V.int 0)=decide (I=0):=by
  by_cases z:I=0
  ·rw [decide_eq_true z,z];exact decide_eq_true rfl
  ·rw [decide_eq_false z]
   exact decide_eq_false fun y=>z (by have:=V.int.inj y;omega)
 rw [ed]
 rcases Classical.em (I=0\/n.hasM (Zx x)=true) with hc | hc
 ·obtain ⟨hnd,hsub,hmrk,hF,hfew⟩:=ZjZ h0 W hn hc
  by_cases z0:I=0
  rw [decide_eq_true z0]
  have s1:Same H H:=Same.refl H
  refine Ys (Ys ?_)
  rotate_left
  rw [decide_eq_false z0]
  refine ZQ ⟨_,rfl,_,rfl,x,rfl,N.len x hx,fun H1 s1=>⟨a,n,Zx x,rfl,hna.tf s1.tf,_,rfl,?_⟩⟩
  rw [hc.resolve_left z0]
  refine Ys ?_
  all_goals
   have S1:=S.keep s1
   refine ⟨_,rfl,a,n,rfl,hna.tf s1.tf,fun pt H2 s2 hpt=>?_⟩
   obtain ⟨o,ts,ept,hod,hlts,hp⟩:=hpt
   have hfw:=N.few
   refine ⟨pt,ts,n.pairs,rfl,⟨o,ept,hod⟩,hlts,by omega,hp,hnd,fun dd hd=>?_⟩
   have hd0:H dd=none:=by
    cases e:H dd with
    | none=>rfl
    | some o=>rw [s2 _ _ (s1 _ _ e)] at hd;cases hd
   have s3:=Zm hd (.dK (n.pairs.map fun p=>((Qs p.1:Zo),p.2)))
   refine ⟨_,rfl,_,rfl,_,rfl,dd,_,rfl,DPut.k (k:=Qs x) Zf (by rw [length_map];exact QK (show n.pairs.length<=64 by omega) (by decide)),?_⟩
   have s4:Same H (upd (upd H2 dd (.dK (n.pairs.map fun p=>((Qs p.1:Zo),p.2)))) dd (.dK (Ye (n.pairs.map fun p=>((Qs p.1:Zo),p.2)) (Qs x) v))):=fun b o e=>by
    rw [Zg (Zr e hd0),Zg (Zr e hd0)];exact s2 _ _ (s1 _ _ e)
   have ed4:upd (upd H2 dd (.dK (n.pairs.map fun p=>((Qs p.1:Zo),p.2)))) dd (.dK (Ye (n.pairs.map fun p=>((Qs p.1:Zo),p.2)) (Qs x) v)) dd=some (.dK ((Wx n.pairs x v).map gK)):=by
    rw [Zf,<- Zek];rfl
   generalize upd (upd H2 dd (.dK (n.pairs.map fun p=>((Qs p.1:Zo),p.2)))) dd (.dK (Ye (n.pairs.map fun p=>((Qs p.1:Zo),p.2)) (Qs x) v))=H4 at *
   have S4:=S.keep s4
   obtain ⟨dx4,ob4⟩:=S4.ob
   refine ⟨_,rfl,st,dx4,_,rfl,ob4,ZT ln dt (by decide +kernel) (by decide +kernel),_,rfl,.inr (.inr (.inl ⟨rfl,.inl ⟨_,ed4⟩⟩)),dd,_,rfl,rfl,ed4,fun vv hvv=>?_⟩
   have s5:=Zm hvv (.ext (Zbh vv dd))
   refine ⟨vv,dd,_,rfl,Zf,s5 _ _ ed4,fun l ts2 H5 hl5 s5b hlt2 hnone htup hlst=>?_⟩
   have s6:Same H H5:=(s4.trans s5).trans s5b
   have G:=Zka (NS:=NS) v hx hnd hsub hmrk
   have hPT:PairT H5 ts2 (Wx n.pairs x v):=by
    refine ⟨by rw [hlt2,length_map],fun i b p e1 e2=>?_⟩
    exact htup i b (gK p) e1 (by rw [getElem?_map,e2];rfl)
   have hL5:=LamAt.same hL s6
   refine ⟨l,ts2,Wx n.pairs x v,rfl,hlst,hPT,G.ne,by have:=G.few;omega,fun p hp=>N.len _ (G.sub p hp),hL5,fun a6 H6 p1 pr g6 L6 perm6 sort6 node6=>?_⟩
   have tb5:H5 Pl=some (.tbl tb):=s6 _ _ htb
   have tf6:TF H5 H6:=g6.tf tb5
   have S6:=(S.keep s6).kq g6.kq tf6 hst hln hdt
   refine ⟨st,ln,dt,a6,nds,tabs,_,rfl,S6,node6,by omega,fun H7 S7 k7 tf7=>?_⟩
   have nl6:∃ xs,H6 ln=some (.lst xs):=by obtain ⟨as6,e6,_⟩:=S6.nl;exact ⟨_,e6⟩
   have hmk:Zx p1.1=Zx x:=(G.perm perm6).mrk p1 mem_cons_self
   refine q H7 _ nds.length S7 (NEx.app nds _) (by rw [length_append];show nds.length+1<=_;omega) ?_ (L6.kq k7 fun b hb=>by rw [mem_singleton.mp hb];exact nl6) ?_ ((s6.tf.trans tf6).trans tf7)
   ·exact Zkl (ps:=n.pairs) N hx hxr (by rw [getElem?_append_right (Qg _),GB];rfl) hmk G perm6 hF
   ·exact (Same.kq s6).trans ((g6.kq.sub fun b hb=>by simp at hb ⊢;exact .inr hb).trans (k7.sub fun b hb=>by simp at hb ⊢;exact .inl hb))
 ·have z0:I≠0:=fun z=>hc (.inl z)
  have zm:n.hasM (Zx x)=false:=by
   cases e:n.hasM (Zx x) with
   | false=>rfl
   | true=>exact absurd (.inr e) hc
  have hnb:n≠.bare:=fun z=>z0 (hbare z)
  rw [decide_eq_false z0]
  refine ZQ ⟨_,rfl,_,rfl,x,rfl,N.len x hx,fun H1 s1=>⟨a,n,Zx x,rfl,hna.tf s1.tf,_,rfl,?_⟩⟩
  rw [zm]
  refine ZQ ?_
  cases d with
  | zero =>
   have h5:B=5:=by omega
   subst h5
   exact absurd (.inr (Zjt N W hn hnb hx hxr)) hc
  | succ d =>
   obtain ⟨hf4,hft⟩:=Zjm N h0 hrl W hn hnb
   have hok:ZdD n:=by
    rcases W with W | ⟨qs,h1,_⟩
    ·rcases W with ⟨z,_⟩ | ⟨m,ps,h1,G,_⟩
     ·exact absurd z z0
     ·rw [hn] at h1;cases h1;exact G.ok N
    ·rw [hn] at h1;cases h1;exact trivial
   have S1:=S.keep s1
   obtain ⟨dx1,ob1⟩:=S1.ob
   refine ⟨_,rfl,st,dx1,_,rfl,ob1,ZT ln dt (by decide +kernel) (by decide +kernel),_,rfl,_,rfl,st,ln,dt,nds,tabs,I,B,n,rfl,S1,hn,hnb,hok,by omega,fun rl H2 hrl1 s2 el=>?_⟩
   refine ⟨_,rfl,x,rfl,N.len x hx,fun H3 s3=>⟨_,rfl,Zx x,B,rfl,N.lo x hx,by omega,?_⟩⟩
   have s13:Same H H3:=(s1.trans s2).trans s3
   have S3:=S.keep s13
   have J:H rl=none:=by
    cases e:H rl with
    | none=>rfl
    | some o=>rw [s1 _ _ e] at hrl1;cases hrl1
   have el3:=s3 _ _ el
   have hdl:ZW (Zx x) B < (Xj I B n).length:=by rw [hf4];exact Ua _ _
   have hq1:=getElem?_eq_getElem hdl
   generalize (Xj I B n)[ZW (Zx x) B]=q1 at hq1
   have hat:YG ((Xj I B n).map iN) (Zx x / 4 ^ B % 4)=some (iN q1):=by rw [<- Ws];exact ZI (by rw [getElem?_map,hq1];rfl)
   obtain ⟨dx3,ob3⟩:=S3.ob
   refine ⟨_,rfl,st,dx3,_,rfl,ob3,ZT ln dt (by decide +kernel) (by decide +kernel),_,rfl,_,rfl,rl,_,_,_,rfl,rfl,SqL.of el3,hat,_,rfl,_,_,rfl,rfl,_,rfl,_,rfl,?_⟩
   refine ⟨st,ln,dt,nds,tabs,q1,B+1,_,x,v,Fm,rfl,S3,h0,hft _ _ hq1,UM hrl (Ua _ _),by omega,hx,by rw [WS,hxr,Xy (N.lo x hx)];rfl,by omega,LamAt.same hL s13,fun H5 Z U S5 ext5 len5 tri5 L5 kq5 tf5=>?_⟩
   have nrl:rl ∉ [ln,Pl]:=fun z=>by
    rcases mem_cons.mp z with z | z
    ·rw [z,nl] at J;cases J
    ·rw [mem_singleton.mp z,htb] at J;cases J
   have el5:=kq5 _ _ nrl el3
   have hix:Wm ((Xj I B n).map iN).length (Zx x / 4 ^ B % 4)=some (ZW (Zx x) B):=by
    rw [<- Ws,length_map]
    unfold Wm
    rw [if_pos (by omega),if_pos (by omega)]
    rfl
   refine ⟨_,rfl,_,rfl,rl,_,_,_,rfl,rfl,el5,hix,?_⟩
   have tf6:=ZeA (o:=.lst (((Xj I B n).map iN).set (ZW (Zx x) B) (iN U))) el5
   have k6:Kq [rl] H5 (upd H5 rl (.lst (((Xj I B n).map iN).set (ZW (Zx x) B) (iN U)))):=Zbw
   have nst:st ∉ [rl]:=fun z=>by rw [<- mem_singleton.mp z,ob] at J;cases J
   have nln:ln ∉ [rl]:=fun z=>by rw [<- mem_singleton.mp z,nl] at J;cases J
   have ndt:dt ∉ [rl]:=fun z=>by rw [<- mem_singleton.mp z,S.tb] at J;cases J
   have S6:=S5.kq k6 tf6 nst nln ndt
   have el6:upd H5 rl (.lst (((Xj I B n).map iN).set (ZW (Zx x) B) (iN U))) rl=some (.lst (((Xj I B n).set (ZW (Zx x) B) U).map iN)):=by rw [Zf,OE]
   have L6:=L5.kq k6 fun b hb=>by rw [mem_singleton.mp hb];exact ⟨_,el5⟩
   have kh:Kq [ln,Pl] H (upd H5 rl (.lst (((Xj I B n).map iN).set (ZW (Zx x) B) (iN U)))):=fun b o nb e=>by
    rw [Zg (Zr e J)];exact kq5 _ _ nb (s13 _ _ e)
   generalize upd H5 rl (.lst (((Xj I B n).map iN).set (ZW (Zx x) B) (iN U)))=H6 at *
   obtain ⟨dx6,ob6⟩:=S6.ob
   refine ⟨_,rfl,st,dx6,_,rfl,ob6,ZT ln dt (by decide +kernel) (by decide +kernel),_,rfl,rl,(Xj I B n).set (ZW (Zx x) B) U,rfl,el6,by rw [length_set,hf4],fun a7 H7 s7 node7=>?_⟩
   have S7:=S6.keep s7
   refine ⟨st,ln,dt,a7,Z,tabs,_,rfl,S7,node7,by omega,fun H8 S8 k8 tf8=>?_⟩
   have nl7:∃ xs,H7 ln=some (.lst xs):=by obtain ⟨as7,e7,_⟩:=S7.nl;exact ⟨_,e7⟩
   refine q H8 _ Z.length S8 (ext5.trans (NEx.app Z _)) (by rw [length_append];show Z.length+1<=_;omega) ?_ ((LamAt.same L6 s7).kq k8 fun b hb=>by rw [mem_singleton.mp hb];exact nl7) ?_ ((((s13.tf.trans tf5).trans tf6).trans s7.tf).trans tf8)
   ·refine Zjl (v:=v) (num':=U) (F:=Fm) (qs:=Xj I B n) N hrl hx hxr hf4 hft (ext5.trans (NEx.app Z _)) (Tri.mono d tri5 (NEx.app Z _)) (fun y hy=>if_neg hy) ?_
    rw [getElem?_append_right (Qg _),GB];rfl
   ·exact (kh.trans (Same.kq s7)).trans (k8.sub fun b hb=>by simp at hb ⊢;exact .inl hb)
end
section
variable {P:Qi}{w:Qu}{K:Qa}{mg:Str->Option Qb}{base:Heap}{C Pl:Addr}{NS:List Str}
theorem Zfu {f:Addr}{fd:Qn}(N:Yr NS)(F:Fun K "put_in" "Store.put_in" c_Store_put_in f fd)(T:Txt K mg)(J:Xp K C)
 (S:Def P w K mg base 1 "has_mark" ["node","number"] (UP K)) (G:Def P w K mg base 1 "pairs_in" ["node"] (XY K)) (U:Def P w K mg base 1 "mark" ["name"] Wk) (B:Def P w K mg base 1 "digit" ["number","level"] XX)
 (Z:Def P w K mg base 2 "leaf_of" ["pairs"] (UR K Pl YW)) (I:Def P w K mg base 1 "fork_of" ["parts"] (WA K)) (W:DefM P w K mg base 1 C "keep" ["self","node"] (UQ K C)) (DF:DefM P w K mg base 2 C "fork_parts" ["self","number","level"] (ZgJ K C))
 (b:Binds K fd nPi []) (mt:Vy K C "put_in" f):∀ d,FnOk P w K mg base ZF (2+d) f fd nPi (VW K C Pl NS d)
 | 0=>F.ok scPI (len:=(fun _ _ _ _ h=>h.elim)) (fun _ _ _ _ _ _ _ _ _ h=>h.elim)
 | d+1=>Zlq N (OV 2 d) F T J S G U B Z I W DF ⟨f,fd,Zfu N F T J S G U B Z I W DF b mt d,b,mt⟩
inductive Zcu (vs:List V)(H:Hp)(Q:VK)(w_3:XK):Prop
 | mk (u v:_):vs=[u,v]->scal u v=true->Q (.bl (decide (u=v))) H->Zcu vs H Q w_3
theorem scAl:Zp ["one","other"] ["one","other"] (Zk s_alike):={}
theorem Zjy {f:Addr}{fd:Qn}(F:Fun K "alike" "alike" s_alike f fd):FnOk P w K mg base ZF 1 f fd ["one","other"] Zcu:=by
 refine F.ok scAl (fun B A outer s H vs Q E I h=>?_)
 obtain ⟨u,v,rfl,G,q⟩:=h
 exact ⟨_,Zi (Zq (Zag YX (pv 0) (pv 1) (ZL _))),⟨_,rfl,_,rfl,G,q⟩⟩
def ValV:V->Prop
 | .int _=>True
 | .str _=>True
 | _=>False
theorem ValV.scal {o:Option V}{v:V}(h:ValV v)(G:∀ u,o=some u->ValV u):scal (o.getD .non) v=true:=by
 cases o with
 | none=>cases v<;>first | rfl | exact h.elim
 | some u =>
  have B:=G u rfl
  cases u<;>first | exact B.elim | (cases v<;>first | rfl | exact h.elim)
theorem ValV.ne {v:V}(h:ValV v):v≠.non:=fun z=>by subst z;exact h
theorem Vp {nds:List Nd}{F:Str->Option V}{t:Nat}{x:Str}(N:Yr NS)(h:Tri NS nds F 5 0 0 t)(S:x∈NS) :
 ∃ B e n,Xl nds (Zx x) 6 0 t=some (B++[e])/\nds[e]?=some n/\n.pairs.length<=1000/\(n.pairs.map (·.1)).Nodup/\lk n.pairs x=F x:=by
 obtain ⟨B,e,n,e1,I,J⟩:=Zmb N 5 (by decide) h S (by rw [OF,Nj])
 refine ⟨B,e,n,e1,I,?_⟩
 have U:=N.few
 rcases J with ⟨_,rfl,z⟩ | ⟨m,ps,rfl,G,z⟩
 ·exact ⟨QC _,List.nodup_nil,by rw [z];rfl⟩
 ·exact ⟨by have:=G.few;show ps.length<=1000;omega,G.nd,z.symm⟩
inductive ZgL (K:Qa)(C Pl:Addr)(NS:List Str)(vs:List V)(H:Hp)(Q:VK)(w_3:XK):Prop
 | mk (st ln dt:Addr) (nds:List Nd) (tabs:List (Zo×V)) (t:Nat) (x:Str) (v:V) (F:Str->Option V):vs=[.ref st,iN t,.str x,v]->StoreAt K C st ln dt H nds tabs->nds[0]?=some .bare->(Zz tabs (QQ (t:Int))).isSome=true->Tri NS nds F 5 0 0 t->x∈NS->ValV v->(∀ u,F x=some u->ValV u)->nds.length+6<=100000->tabs.length<=100000->LamAt H Pl YW Wh->(∀ (H':Hp) (nds':List Nd) (tabs':List (Zo×V)) (t':Nat),StoreAt K C st ln dt H' nds' tabs'->NEx nds nds'->nds'.length<=nds.length+6->tabs'.length<=tabs.length+1->(∀ k,(Zz tabs k).isSome=true->(Zz tabs' k).isSome=true)->(Zz tabs' (QQ (t':Int))).isSome=true->Tri NS nds' (upF F x v) 5 0 0 t'->LamAt H' Pl YW Wh->Kq [ln,dt,Pl] H H'->TF H H'->Q (iN t') H')->ZgL K C Pl NS vs H Q w_3
theorem scPu:Zp ["self","table","name","value"] ["self","table","name","value"] (Zk c_Store_put):={}
theorem Zna {f:Addr}{fd:Qn}(N:Yr NS)(F:Fun K "put" "Store.put" c_Store_put f fd)(TC:Xp K C)(DA:Def P w K mg base 1 "alike" ["one","other"] Zcu)(DLk:DefM P w K mg base 3 C "looked" ["self","table","name"] (WB K C))
 (DAs:DefM P w K mg base 1 C "as_table" ["self","number"] (Zdr K C)) (DI:DefM P w K mg base 8 C "put_in" nPi (VW K C Pl NS 6)):FnOk P w K mg base ZF 9 f fd ["self","table","name","value"] (ZgL K C Pl NS):=by
 refine F.ok scPu (fun cdv A outer s H vs Q E hr h=>?_)
 obtain ⟨st,ln,Z,nds,B,t,x,v,Fm,rfl,S,h0,J,I,hx,hv,hFv,hlen,htl,hL,q⟩:=h
 have hr1:=hr.mono (show 1<=8 by decide)
 have hr3:=hr.mono (show 3<=8 by decide)
 refine' ⟨?t,?h,?r⟩
 case h =>
  conv=>arg 2;whnf
  with_reducible refine' Zd (Yb ?a1 (Zi ?a2) ZM) (Zi ?a3)
  case a1=>exact UK (ZJ DA hr1 (Zc (ZU DLk TC.cl hr3 (pv 0) (Zc (pv 1) (Zc (pv 2) Za))) (Zc (pv 3) Za)))
  case a2=>exact Zq (pv 1)
  case a3=>exact Zq (ZU DAs TC.cl hr1 (pv 0) (Zc (ZU DI TC.cl hr (pv 0) (Zc (pv 1) (Zc Zh (Zc (pv 2) (Zc (pv 3) Za))))) Za))
 try dsimp only [ZN,Cx.nox]
 refine US ?_
 intro zD zS zN1
 obtain ⟨dx,ob⟩:=S.ob
 obtain ⟨ws,e,n,e1,e2,e3,e4,e5⟩:=Vp N I hx
 refine ⟨_,rfl,st,dx,_,rfl,ob,ZT ln Z (by decide +kernel) (by decide +kernel),_,rfl,_,rfl,st,ln,Z,nds,B,t,x,6,ws,e,n,rfl,S,J,N.len x hx,N.lo x hx,by decide,e1,e2,e3,e4,fun H1 s1=>?_⟩
 rw [e5]
 refine ⟨_,rfl,_,_,rfl,hv.scal hFv,_,rfl,?_⟩
 have S1:=S.keep s1
 have hL1:=LamAt.same hL s1
 by_cases hc:(Fm x).getD .non=v
 ·rw [decide_eq_true hc]
  refine Ys ⟨_,rfl,q H1 nds B t S1 (NEx.refl _) (by omega) (by omega) (fun _ h=>h) J (Tri.congr 5 (by decide) I fun y _ _=>?_) hL1 (Same.kq s1) s1.tf⟩
  unfold upF
  by_cases z:y=x
  ·rw [if_pos z,z]
   cases eF:Fm x with
   | none=>rw [eF] at hc;exact absurd hc.symm hv.ne
   | some u=>rw [eF] at hc;exact congrArg some hc.symm
  ·rw [if_neg z]
 ·rw [decide_eq_false hc]
  obtain ⟨dx1,ob1⟩:=S1.ob
  refine ZQ ⟨_,rfl,st,dx1,_,rfl,ob1,ZT ln Z (by decide +kernel) (by decide +kernel),_,rfl,st,dx1,_,rfl,ob1,ZT ln Z (by decide +kernel) (by decide +kernel),_,rfl,_,rfl,_,rfl,?_⟩
  refine ⟨st,ln,Z,nds,B,t,0,0,x,v,Fm,rfl,S1,h0,I,by decide,rfl,hx,by rw [OF,Nj],hlen,hL1,fun H2 U G S2 ext2 len2 tri2 L2' kq2 tf2=>?_⟩
  refine ⟨st,ln,Z,U,B,G,rfl,S2,by omega,fun H3 S3 k3 tf3=>?_⟩
  obtain ⟨tb,htb⟩:=L2'.tbl
  refine q H3 U _ G S3 ext2 len2 (XJ _ _ _) (fun k hk=>?_) (by rw [WD,if_pos rfl];rfl) tri2 ?_ ?_ ((s1.tf.trans tf2).trans tf3)
  ·rw [WD]
   by_cases z:k=QQ (G:Int)
   ·rw [if_pos z];rfl
   ·rw [if_neg z];exact hk
  ·have W:∀ b∈[Z],∃ xs,H2 b=some (.dK xs):=fun b hb=>by rw [mem_singleton.mp hb];exact ⟨_,S2.tb⟩
   rcases L2' with h | ⟨c,h,h2⟩
   ·exact .inl (k3 _ _ (fun z=>by obtain ⟨_,e⟩:=W _ z;rw [h] at e;cases e) h)
   ·exact .inr ⟨c,k3 _ _ (fun z=>by obtain ⟨_,e⟩:=W _ z;rw [h] at e;cases e) h,k3 _ _ (fun z=>by obtain ⟨_,e⟩:=W _ z;rw [h2] at e;cases e) h2⟩
  ·exact ((Same.kq s1).trans (kq2.sub fun b hb=>by simp at hb ⊢;rcases hb with z | z;exact .inl z;exact .inr (.inr z))).trans (k3.sub fun b hb=>by simp at hb ⊢;exact .inr (.inl hb))
end
section
variable {NS:List Str}{nds nds':List Nd}{F F':Str->Option V}
def dnF (F:Str->Option V)(x:Str):Str->Option V:=fun y=>if y=x then none else F y
def Wr (ps:List (Str×V))(x:Str):List (Str×V):=ps.filter fun p=>!decide (p.1=x)
theorem ZeV (ps:List (Str×V))(x y:Str):lk (Wr ps x) y=if y=x then none else lk ps y:=by
 induction ps with
 | nil => by_cases h:y=x
          · rw [if_pos h];rfl
          · rw [if_neg h];rfl
 | cons p ps ih =>
   unfold Wr at ih ⊢
   rw [OW]
   by_cases hp:p.1=x
   · rw [decide_eq_true hp]
     show lk (ps.filter fun p=>!decide (p.1=x)) y=_
     rw [ih,UE]
     by_cases h:y=x
     · rw [if_pos h,if_pos h]
     · rw [if_neg h,if_neg h,if_neg fun z=>h (by rw [<- z,hp])]
   · rw [decide_eq_false hp]
     show lk (p::ps.filter fun p=>!decide (p.1=x)) y=_
     rw [UE,ih,UE]
     by_cases h:y=x
     · rw [if_pos h,if_pos h,if_neg fun z=>hp (by rw [z,h])]
     · rw [if_neg h,if_neg h]
theorem LeafG.but {m:Int}{ps:List (Str×V)}{x:Str}(G:LeafG NS m ps)(h:Wr ps x≠[]):LeafG NS m (Wr ps x):=by
 have B:(Wr ps x).Sublist ps:=List.filter_sublist
 exact ⟨h,G.nd.sublist (B.map (·.1)),fun p hp=>G.sub p (B.subset hp),fun p hp=>G.mrk p (B.subset hp)⟩
theorem Zdc {d G r B:Nat}(h:TriE NS nds F G r B):Tri NS nds F d G r B:=by
 cases d with
 | zero=>exact h
 | succ d=>exact .inl h
theorem ZiM {d B r I:Nat}{n:Nd}{x:Str}{v0:V}(h:Tri NS nds F d B r I)(W:nds[I]?=some n)(hx:x∈NS)(J:Xr x % 4 ^ B=r)(S:F x=some v0) :
 (∃ ps,n=.leaf (Zx x) ps/\LeafG NS (Zx x) ps/\∀ y∈NS,Xr y % 4 ^ B=r->F y=lk ps y)\/∃ qs d',d=d'+1/\n=.fork qs/\qs.length=4/\∀ i q,qs[i]?=some q->Tri NS nds F d' (B+1) (r+i * 4 ^ B) q:=by
 have e:TriE NS nds F B r I->∃ ps,n=.leaf (Zx x) ps/\LeafG NS (Zx x) ps/\∀ y∈NS,Xr y % 4 ^ B=r->F y=lk ps y:=fun g=>by
  rcases g with ⟨_,_,U⟩ | ⟨m,ps,h1,G,_,Z⟩
  ·rw [U x hx J] at S;cases S
  ·rw [W] at h1;cases h1
   have hm:Zx x=m:=by
    rw [Z x hx J] at S
    exact G.mrk _ ((VE G.nd).mp S)
   subst hm
   exact ⟨ps,rfl,G,Z⟩
 cases d with
 | zero=>exact .inl (e h)
 | succ d =>
  rcases h with h | ⟨qs,h1,h2,U⟩
  ·exact .inl (e h)
  ·rw [W] at h1;cases h1
   exact .inr ⟨qs,d,rfl,rfl,h2,U⟩
theorem Zkm {B r I:Nat}{ps qs:List (Str×V)}{x:Str}(d:Nat)(W:Xr x % 4 ^ B=r)(S:nds[I]?=some (.leaf (Zx x) qs))(G:LeafG NS (Zx x) (Wr ps x))(hp:qs.Perm (Wr ps x))(Z:∀ y∈NS,Xr y % 4 ^ B=r->F y=lk ps y):Tri NS nds (dnF F x) d B r I:=by
 refine Zdc (.inr ⟨Zx x,qs,S,G.perm hp,W,fun y U J=>?_⟩)
 rw [Zfn hp G.nd,ZeV]
 unfold dnF
 by_cases h:y=x
 ·rw [if_pos h,if_pos h]
 ·rw [if_neg h,if_neg h];exact Z y U J
theorem Zkk {B r:Nat}{ps:List (Str×V)}{x:Str}(d:Nat)(S:nds[0]?=some .bare)(hb:Wr ps x=[])(J:∀ y∈NS,Xr y % 4 ^ B=r->F y=lk ps y):Tri NS nds (dnF F x) d B r 0:=by
 refine Zdc (.inl ⟨rfl,S,fun y I G=>?_⟩)
 have:=ZeV ps x y
 rw [hb,ZhS] at this
 unfold dnF
 by_cases h:y=x
 ·rw [if_pos h]
 ·rw [if_neg h] at this ⊢;rw [J y I G];exact this.symm
theorem Zij {d B r num':Nat}{qs:List Nat}{x:Str}(N:Yr NS)(J:r < 4 ^ B)(hx:x∈NS)(Z:Xr x % 4 ^ B=r)(S:qs.length=4)(hq:∀(i q:Nat),qs[i]?=some q->Tri NS nds F d (B+1) (r+i * 4 ^ B) q)
 (e:NEx nds nds') (U:Tri NS nds' F' d (B+1) (r+ZW (Zx x) B * 4 ^ B) num') (W:∀ y,y≠x->F' y=F y) (i q:Nat) (hi:(qs.set (ZW (Zx x) B) num')[i]?=some q):Tri NS nds' F' d (B+1) (r+i * 4 ^ B) q:=by
 have G:i < 4:=by rw [<- S];have:=(Qk.mp hi).1;rwa [length_set] at this
 rw [Tz] at hi
 by_cases z:ZW (Zx x) B=i
 ·rw [if_pos z,if_pos (by rw [S,z];exact G)] at hi
  cases hi
  rw [<- z]
  exact U
 ·rw [if_neg z] at hi
  refine Tri.congr d (UM J G) (Tri.mono d (hq i q hi) e) fun y hy I=>W y fun w=>z ?_
  rw [w] at I
  rw [Xy (N.lo x hx)]
  exact (Wy J I).2
theorem Zbp {qs:List Nat}{q:Nat}(h:(qs.filter fun p=>!decide (p=0))=[q]):∃ i:Nat,qs[i]?=some q/\q≠0/\∀(j p:Nat),qs[j]?=some p->j≠i->p=0:=by
 induction qs with
 | nil=>cases h
 | cons a qs ih =>
  rw [OW] at h
  by_cases I:a=0
  ·rw [decide_eq_true I] at h
   obtain ⟨i,h1,h2,J⟩:=ih h
   refine ⟨i+1,h1,h2,fun j p G B=>?_⟩
   cases j with
   | zero=>cases G;exact I
   | succ j=>exact J j p G fun z=>B (by rw [z])
  ·rw [decide_eq_false I] at h
   have h':a::(qs.filter fun p=>!decide (p=0))=[q]:=h
   obtain ⟨e1,S⟩:=List.cons.inj h'
   refine ⟨0,by rw [e1];rfl,by rw [<- e1];exact I,fun j p G B=>?_⟩
   cases j with
   | zero=>exact absurd rfl B
   | succ j =>
    have hp:p∈qs:=mem_of_getElem? G
    by_cases z:p=0
    ·exact z
    ·have:p∈qs.filter fun p=>!decide (p=0):=mem_filter.mpr ⟨hp,by rw [decide_eq_false z];rfl⟩
     rw [S] at this;cases this
theorem ZnV {d B r q:Nat}{qs:List Nat}{m:Int}{ps:List (Str×V)}(N:Yr NS)(h0:nds[0]?=some .bare)(hr:r < 4 ^ B)(hl:qs.length=4)(hq:∀(i q:Nat),qs[i]?=some q->Tri NS nds F d (B+1) (r+i * 4 ^ B) q)
 (h1:(qs.filter fun p=>!decide (p=0))=[q]) (hn:nds[q]?=some (.leaf m ps)):Tri NS nds F (d+1) B r q:=by
 obtain ⟨i,hi,hq0,S⟩:=Zbp h1
 have J:TriE NS nds F (B+1) (r+i * 4 ^ B) q:=by
  have:=hq i q hi
  cases d with
  | zero=>exact this
  | succ d =>
   rcases this with h | ⟨qs',h,_⟩
   ·exact h
   ·rw [hn] at h;cases h
 rcases J with ⟨z,_⟩ | ⟨m',ps',e,G,hm,hF⟩
 ·exact absurd z hq0
 ·rw [hn] at e;cases e
  obtain ⟨p1,pr,e1,e2,e3,e4⟩:=G.ok N
  obtain ⟨W,Z⟩:=Wy hr hm
  refine .inl (.inr ⟨m,ps,hn,G,W,fun y U hry=>?_⟩)
  have hj:ZW (Zx y) B < qs.length:=by rw [hl];exact Ua _ _
  have I:Xr y % 4 ^ (B+1)=r+ZW (Zx y) B * 4 ^ B:=by rw [WS,hry,Xy (N.lo y U)];rfl
  by_cases z:ZW (Zx y) B=i
  ·rw [z] at I;exact hF y U I
  ·have hz:=S _ _ (getElem?_eq_getElem hj) z
   have ht:=hq _ _ (getElem?_eq_getElem hj)
   rw [hz] at ht
   have hE:TriE NS nds F (B+1) (r+ZW (Zx y) B * 4 ^ B) 0:=by
    cases d with
    | zero=>exact ht
    | succ d =>
     rcases ht with h | ⟨qs',h,_⟩
     ·exact h
     ·rw [h0] at h;cases h
   rcases hE with ⟨_,_,h3⟩ | ⟨m',ps',e,_⟩
   ·rw [h3 y U I]
    refine (Zfm fun p hp e=>z ?_).symm
    rw [Xy (N.lo y U),<- Z,<- e,G.mrk p hp]
   ·rw [h0] at e;cases e
theorem Zbb {d B r G:Nat}{qs:List Nat}(I:nds[G]?=some (.fork qs))(S:qs.length=4)(J:∀(i q:Nat),qs[i]?=some q->Tri NS nds F d (B+1) (r+i * 4 ^ B) q):Tri NS nds F (d+1) B r G:=.inr ⟨qs,I,S,J⟩
end
theorem Zlc {X:Cx}{K:Qa}(B:X.K=K):IxR X (rIxT K):=by subst B;exact YL
section
variable {P:Qi}{w:Qu}{K:Qa}{mg:Str->Option Qb}{base:Heap}{C Pl:Addr}{NS:List Str}
def ZbY (K:Qa)(C Pl:Addr)(NS:List Str):Nat->Sp
 | 0=>fun _ _ _ _=>False
 | d+1=>fun vs H Q _=>∃ (st ln dt:Addr) (nds:List Nd) (tabs:List (Zo×V)) (num lev r:Nat) (x:Str) (v0:V) (F:Str->Option V),vs=[.ref st,iN num,iN lev,.str x]/\StoreAt K C st ln dt H nds tabs/\nds[0]?=some .bare/\Tri NS nds F d lev r num/\r < 4 ^ lev/\lev+d=5/\x∈NS/\Xr x % 4 ^ lev=r/\F x=some v0/\nds.length+d+1<=100000/\LamAt H Pl YW Wh /\
  ∀ (H':Hp) (nds':List Nd) (num':Nat),StoreAt K C st ln dt H' nds' tabs->NEx nds nds'->nds'.length<=nds.length+d+1->Tri NS nds' (dnF F x) d lev r num'->LamAt H' Pl YW Wh->Kq [ln,Pl] H H'->TF H H'->Q (iN num') H'
abbrev nTk:List Str:=["self","number","level","name"]
abbrev nTa:List Str:=["self","number","level","name","node","left","parts","figure","filled"]
theorem scTk:Zp nTa nTk (Zk c_Store_taken_from):={}
theorem Znc {f : Addr}{fd:Qn}{d k:Nat}(N:Yr NS)(hk:2<=k)(F:Fun K "taken_from" "Store.taken_from" c_Store_taken_from f fd)(T:Txt K mg)(TC:Xp K C)
 (DH:Def P w K mg base 1 "has_mark" ["node","number"] (UP K)) (DP:Def P w K mg base 1 "parts_in" ["node"] (WU K)) (DR:Def P w K mg base 1 "pairs_in" ["node"] (XY K)) (DM:Def P w K mg base 1 "mark" ["name"] Wk) (DG:Def P w K mg base 1 "digit" ["number","level"] XX)
 (DL:Def P w K mg base 2 "leaf_of" ["pairs"] (UR K Pl YW)) (DO:Def P w K mg base 1 "fork_of" ["parts"] (WA K)) (DK:DefM P w K mg base 1 C "keep" ["self","node"] (UQ K C))
 (DI:DefM P w K mg base k C "taken_from" nTk (ZbY K C Pl NS d)):FnOk P w K mg base ZF (k+1) f fd nTk (ZbY K C Pl NS (d+1)):=by
 refine F.ok scTk (fun cdv A outer s H vs Q E hr h=>?_)
 obtain ⟨st,ln,dt,nds,tabs,num,J,r,x,v0,Fm,rfl,S,h0,htri,hrl,hlev,hx,hxr,hFx,hlen,hL,q⟩:=h
 obtain ⟨tz,hz⟩:=T.zero
 have hr1:=hr.mono (show 1<=k by omega)
 have hr2:=hr.mono hk
 refine' ⟨?t,?h,?r⟩
 case h =>
  conv=>arg 2;whnf
  with_reducible refine' Zd ?a1 (Zd (Yb ?a2 (Zd ?c1 (Zi ?c2)) ZM) (Zd ?a3 (Zd ?a4 (Zd ?a5 (Zd ?a6 (Zd (Yb ?a7 (Zi ?a8) ZM) (Zi ?a9)))))))
  case a1=>exact Zv (i:=4) scTk.nd rfl (QD rfl) (ZD ZE (ZC (pv 0) rfl) (pv 1) (fun _ _=>rfl))
  case a2=>exact UK (ZJ DH hr1 (Zc (pv 4) (Zc (ZJ DM hr1 (Zc (pv 3) Za)) Za)))
  case c1=>exact ZaE (i:=5) (CompOk.of nTa c_Store_taken_from rfl rfl (by decide +kernel)) rfl scTk.nd rfl (QD rfl) (Zil (ZJ DR hr1 (Zc (pv 4) Za))) (fun _ _ _ _ _=>ZK XB (ZD (Zlc (K:=K) rfl) (pv 9) Zh (fun _ _=>rfl)) (pv 3) (ZL _)) (fun _ _ _ _ _=>pv 9) rfl
  case c2=>exact Zq (YN (Vm (pv 5) (fun _=>rfl)) (ZU DK TC.cl hr1 (pv 0) (Zc (ZJ DL hr2 (Zc (pv 5) Za)) Za)) (ZO rfl hz (v:=.int 0) ⟨_,rfl⟩))
  case a3=>exact Zv (i:=6) scTk.nd rfl (QD rfl) (YI Vz rfl T.list (by decide +kernel) (Zc (ZJ DP hr1 (Zc (pv 4) Za)) Za))
  case a4=>exact Zv (i:=7) scTk.nd rfl (QD rfl) (ZJ DG hr1 (Zc (ZJ DM hr1 (Zc (pv 3) Za)) (Zc (pv 2) Za)))
  case a5=>exact Wg (ZU DI TC.cl hr (pv 0) (Zc (ZD ZE (pv 6) (pv 7) (fun _ _=>rfl)) (Zc (Zw Yy (pv 2) Zh) (Zc (pv 3) Za)))) (VL (pv 6) (pv 7) Ug)
  case a6=>exact ZaE (i:=8) (CompOk.of nTa c_Store_taken_from rfl rfl (by decide +kernel)) rfl scTk.nd rfl (QD rfl) (Zai (pv 6)) (fun _ _ _ _ _=>ZK XB (pv 9) (ZO rfl hz (v:=.int 0) ⟨_,rfl⟩) (ZL _)) (fun _ _ _ _ _=>pv 9) rfl
  case a7=>exact PW.pt (Zip (ZK YX (Zu Ya rfl T.len QU (Zc (pv 8) Za)) Zh (ZL _)) (Zfz (Vm (ZJ DR hr1 (Zc (ZD ZE (ZC (pv 0) rfl) (ZD ZE (pv 8) Zh (fun _ _=>rfl)) (fun _ _=>rfl)) Za)) (fun _=>rfl))))
  case a8=>exact Zq (ZD ZE (pv 8) Zh (fun _ _=>rfl))
  case a9=>exact Zq (ZU DK TC.cl hr1 (pv 0) (Zc (ZJ DO hr1 (Zc (pv 6) Za)) Za))
 try dsimp only [ZN,Cx.nox]
 refine zs8 ?_
 intro zD zS zN7 zN6 zN5 zN4 zN3 zN2 zN1
 obtain ⟨n,hn,hbare⟩:=Zbc htri
 obtain ⟨as,a,nl,ha,hna⟩:=S.node hn
 obtain ⟨dx,ob⟩:=S.ob
 obtain ⟨tb,htb⟩:=hL.tbl
 have hst:st ∉ [Pl]:=fun z=>by rw [mem_singleton.mp z,htb] at ob;cases ob
 have hln:ln ∉ [Pl]:=fun z=>by rw [mem_singleton.mp z,htb] at nl;cases nl
 have hdt:dt ∉ [Pl]:=fun z=>by have e:=S.tb;rw [mem_singleton.mp z,htb] at e;cases e
 refine ⟨_,rfl,st,C,dx,_,_,rfl,ob,TC.cl,TC.nN,XI ln dt,_,rfl,ln,_,_,_,rfl,rfl,SqL.of nl,ZI (by rw [getElem?_map,ha];rfl),?_⟩
 refine ⟨_,rfl,_,rfl,x,rfl,N.len x hx,fun H1 s1=>⟨a,n,Zx x,rfl,hna.tf s1.tf,_,rfl,?_⟩⟩
 rcases ZiM htri hn hx hxr hFx with ⟨ps,rfl,G,hF⟩ | ⟨qs,d',rfl,rfl,hq4,hqs⟩
 ·rw [show (Nd.leaf (Zx x) ps).hasM (Zx x)=true from decide_eq_true rfl]
  refine Ys ?_
  refine ⟨_,rfl,a,_,rfl,hna.tf s1.tf,fun pt H2 s2 hpt=>?_⟩
  obtain ⟨o,ts,ept,hod,hlts,hp⟩:=hpt
  have hlts':ts.length=ps.length:=hlts
  have s12:=s1.trans s2
  have hfw:=N.few
  have hgf:=G.few
  refine ⟨pt,rfl,⟨_,.inl (.inr ⟨o,ept⟩)⟩,fun D hD=>?_⟩
  have hD0:H D=none:=by
   cases e:H D with
   | none=>rfl
   | some o=>rw [s12 _ _ e] at hD;cases hD
  have hzl:(ts.zip ps).length=ts.length:=by rw [Sz,hlts',Oy]
  have hzs:(ts.zip ps).map (·.2)=ps:=List.map_snd_zip (by omega)
  refine Zhs (K:=K) (a:=pt) (xs:=ts.map V.ref) (by rw [length_map];exact Qr (show ts.length<=64 by omega) (by decide))
   (fun i ys H'=>ys=(((ts.zip ps).take i).filter fun z=>!decide (z.2.1=x)).map (fun z=>V.ref z.1)/\H' D=some (.lst ys)/\Same H2 H') ⟨rfl,Zf,Zm hD _⟩ ?_ ?_ ?_
  ·rintro i ys H' ⟨rfl,_,s'⟩
   refine ⟨?_,.inl (.inr ⟨o,s' _ _ ept⟩)⟩
   rw [length_map]
   exact Qr (SK _ _) (by rw [length_take];exact Nq _ _)
  ·rintro i v ys H' hi ⟨rfl,hDl,s'⟩
   have hit:i < ts.length:=by have:=(Qk.mp hi).1;rwa [length_map] at this
   have et:=getElem?_eq_getElem hit
   have ep:=getElem?_eq_getElem (show i < ps.length by omega)
   generalize ts[i]=ti at et
   generalize ps[i]=pi at ep
   have hv:V.ref ti=v:=by rw [getElem?_map,et] at hi;exact QE hi
   subst hv
   have ez:(ts.zip ps)[i]?=some (ti,pi):=Gn.mpr ⟨et,ep⟩
   have htup:=s' _ _ (hp i ti pi et ep)
   have hts:=OX (fun z:Addr×(Str×V)=>!decide (z.2.1=x)) (ts.zip ps) i (ti,pi) ez
   refine ⟨_,rfl,ti,_,_,_,rfl,rfl,SqT.of htup,rfl,_,rfl,rfl,_,rfl,?_⟩
   have edx:(!decide (V.str pi.1=V.str x))=!decide (pi.1=x):=by
    by_cases z:pi.1=x
    ·rw [z,decide_eq_true rfl,decide_eq_true rfl]
    ·rw [decide_eq_false z,decide_eq_false fun y=>z (V.str.inj y)]
   rw [edx]
   by_cases z:pi.1=x
   ·rw [decide_eq_true z]
    refine ZQ ⟨?_,hDl,s'⟩
    rw [hts]
    show _=List.map _ (_++if (!decide (pi.1=x))=true then [(ti,pi)] else [])
    rw [decide_eq_true z]
    simp
   ·rw [decide_eq_false z]
    refine Ys ⟨_,rfl,hDl,?_,Zf,fun b u e=>by rw [Zg (Zr e hD)];exact s' _ _ e⟩
    rw [hts]
    show _=List.map _ (_++if (!decide (pi.1=x))=true then [(ti,pi)] else [])
    rw [decide_eq_false z]
    simp
  ·rintro ys H5 ⟨rfl,hD5,s5⟩
   rw [length_map,<- hzl,Sa] at hD5
   have hlp:((ts.zip ps).filter fun z=>!decide (z.2.1=x)).map (·.2)=Wr ps x:=by
    unfold Wr
    conv=>rhs;rw [<- hzs]
    rw [List.filter_map];rfl
   have hlt:((ts.zip ps).filter fun z=>!decide (z.2.1=x)).map (fun z=>V.ref z.1)=(((ts.zip ps).filter fun z=>!decide (z.2.1=x)).map (·.1)).map V.ref:=by rw [map_map];rfl
   have s15:Same H H5:=s12.trans s5
   have hPT:PairT H5 (((ts.zip ps).filter fun z=>!decide (z.2.1=x)).map (·.1)) (Wr ps x):=by
    refine ⟨by rw [<- hlp,length_map,length_map],fun i b p e1 e2=>?_⟩
    rw [<- hlp,getElem?_map] at e2
    rw [getElem?_map] at e1
    cases ez:((ts.zip ps).filter fun z=>!decide (z.2.1=x))[i]? with
    | none=>rw [ez] at e1;cases e1
    | some z =>
     rw [ez] at e1 e2
     cases (show some z.1=some b from e1)
     cases (show some z.2=some p from e2)
     obtain ⟨j,hj⟩:=Pb.mp (mem_filter.mp (mem_of_getElem? ez)).1
     obtain ⟨h1,h2⟩:=Gn.mp hj
     exact s5 _ _ (hp j _ _ h1 h2)
   refine ⟨_,rfl,_,.inl ⟨_,SqL.of hD5,rfl⟩,?_⟩
   by_cases hb:Wr ps x=[]
   ·have:((ts.zip ps).filter fun z=>!decide (z.2.1=x))=[]:=by
     have:=congrArg JI hlp
     rw [hb,length_map] at this
     exact Ja.mp this
    rw [this]
    exact ZQ (q H5 nds 0 (S.keep s15) (NEx.refl _) (by omega) (Zkk d h0 hb hF) (LamAt.same hL s15) (Same.kq s15) s15.tf)
   ·have G2:=G.but hb
    have hne:(!(((ts.zip ps).filter fun z=>!decide (z.2.1=x)).map (fun z=>V.ref z.1)).isEmpty)=true:=by
     cases e:((ts.zip ps).filter fun z=>!decide (z.2.1=x)) with
     | nil=>rw [e] at hlp;exact absurd hlp.symm hb
     | cons _ _=>rfl
    rw [hne]
    have S5:=S.keep s15
    obtain ⟨dx5,ob5⟩:=S5.ob
    refine Ys ⟨_,rfl,st,dx5,_,rfl,ob5,ZT ln dt (by decide +kernel) (by decide +kernel),_,rfl,D,_,Wr ps x,rfl,by rw [hD5,hlt],hPT,hb,by have:=G2.few;omega,fun p hp=>N.len _ (G2.sub p hp),LamAt.same hL s15,fun a6 H6 p1 pr g6 L6 perm6 sort6 node6=>?_⟩
    have tb5:H5 Pl=some (.tbl tb):=s15 _ _ htb
    have tf6:TF H5 H6:=g6.tf tb5
    have S6:=S5.kq g6.kq tf6 hst hln hdt
    refine ⟨st,ln,dt,a6,nds,tabs,_,rfl,S6,node6,by omega,fun H7 S7 k7 tf7=>?_⟩
    have nl6:∃ xs,H6 ln=some (.lst xs):=by obtain ⟨as6,e6,_⟩:=S6.nl;exact ⟨_,e6⟩
    have hmk:Zx p1.1=Zx x:=(G2.perm perm6).mrk p1 mem_cons_self
    rw [hmk] at S7
    refine q H7 _ nds.length S7 (NEx.app nds _) (by rw [length_append];show nds.length+1<=_;omega) ?_ (L6.kq k7 fun b hb=>by rw [mem_singleton.mp hb];exact nl6) ?_ ((s15.tf.trans tf6).trans tf7)
    ·exact Zkm d hxr (by rw [getElem?_append_right (Qg _),GB];rfl) G2 perm6 hF
    ·exact (Same.kq s15).trans ((g6.kq.sub fun b hb=>by simp at hb ⊢;exact .inr hb).trans (k7.sub fun b hb=>by simp at hb ⊢;exact .inl hb))
 ·refine ZQ ?_
  refine ⟨_,rfl,a,_,rfl,hna.tf s1.tf,fun pt H2 s2 hpt=>⟨pt,_,rfl,.inr hpt,fun rl hrl1=>?_⟩⟩
  have s12:=s1.trans s2
  have U:H rl=none:=by
   cases e:H rl with
   | none=>rfl
   | some o=>rw [s12 _ _ e] at hrl1;cases hrl1
  refine ⟨_,rfl,x,rfl,N.len x hx,fun H3 s3=>⟨_,rfl,Zx x,J,rfl,N.lo x hx,by omega,?_⟩⟩
  have el3:H3 rl=some (.lst (qs.map iN)):=s3 _ _ Zf
  have s13:Same H H3:=(s12.trans (Zm hrl1 _)).trans s3
  have S3:=S.keep s13
  have hdl:ZW (Zx x) J < qs.length:=by rw [hq4];exact Ua _ _
  have hq1:=getElem?_eq_getElem hdl
  generalize qs[ZW (Zx x) J]=q1 at hq1
  have hat:YG (qs.map iN) (Zx x / 4 ^ J % 4)=some (iN q1):=by rw [<- Ws];exact ZI (by rw [getElem?_map,hq1];rfl)
  obtain ⟨dx3,ob3⟩:=S3.ob
  refine ⟨_,rfl,st,dx3,_,rfl,ob3,ZT ln dt (by decide +kernel) (by decide +kernel),_,rfl,_,rfl,rl,_,_,_,rfl,rfl,SqL.of el3,hat,_,rfl,_,_,rfl,rfl,_,rfl,?_⟩
  refine ⟨st,ln,dt,nds,tabs,q1,J+1,_,x,v0,Fm,rfl,S3,h0,hqs _ _ hq1,UM hrl (Ua _ _),by omega,hx,by rw [WS,hxr,Xy (N.lo x hx)];rfl,hFx,by omega,LamAt.same hL s13,fun H5 B W S5 ext5 len5 tri5 L5 kq5 tf5=>?_⟩
  have nrl:rl ∉ [ln,Pl]:=fun z=>by
   rcases mem_cons.mp z with z | z
   ·rw [z,nl] at U;cases U
   ·rw [mem_singleton.mp z,htb] at U;cases U
  have el5:=kq5 _ _ nrl el3
  have hix:Wm (qs.map iN).length (Zx x / 4 ^ J % 4)=some (ZW (Zx x) J):=by
   rw [<- Ws,length_map]
   unfold Wm
   rw [if_pos (by omega),if_pos (by omega)]
   rfl
  refine ⟨_,rfl,_,rfl,rl,_,_,_,rfl,rfl,el5,hix,?_⟩
  have tf6:=ZeA (o:=.lst ((qs.map iN).set (ZW (Zx x) J) (iN W))) el5
  have k6:Kq [rl] H5 (upd H5 rl (.lst ((qs.map iN).set (ZW (Zx x) J) (iN W)))):=Zbw
  have nst:st ∉ [rl]:=fun z=>by rw [<- mem_singleton.mp z,ob] at U;cases U
  have nln:ln ∉ [rl]:=fun z=>by rw [<- mem_singleton.mp z,nl] at U;cases U
  have ndt:dt ∉ [rl]:=fun z=>by rw [<- mem_singleton.mp z,S.tb] at U;cases U
  have S6:=S5.kq k6 tf6 nst nln ndt
  have el6:upd H5 rl (.lst ((qs.map iN).set (ZW (Zx x) J) (iN W))) rl=some (.lst ((qs.set (ZW (Zx x) J) W).map iN)):=by rw [Zf,OE]
  have L6:=L5.kq k6 fun b hb=>by rw [mem_singleton.mp hb];exact ⟨_,el5⟩
  have kh:Kq [ln,Pl] H (upd H5 rl (.lst ((qs.map iN).set (ZW (Zx x) J) (iN W)))):=fun b o nb e=>by
   rw [Zg (Zr e U)];exact kq5 _ _ nb (s13 _ _ e)
  generalize upd H5 rl (.lst ((qs.map iN).set (ZW (Zx x) J) (iN W)))=H6 at *
  have hps:∀ (i q:Nat),(qs.set (ZW (Zx x) J) W)[i]?=some q->Tri NS B (dnF Fm x) d' (J+1) (r+i * 4 ^ J) q:=fun i q hi=>Zij N hrl hx hxr hq4 hqs ext5 tri5 (fun y hy=>if_neg hy) i q hi
  have hp4:(qs.set (ZW (Zx x) J) W).length=4:=by rw [length_set,hq4]
  generalize qs.set (ZW (Zx x) J) W=qn at *
  have h05:=ext5 _ _ h0
  have tfh:TF H H6:=(s13.tf.trans tf5).trans tf6
  refine ⟨_,rfl,rl,rfl,⟨_,SqL.of el6⟩,fun D hD=>?_⟩
  refine Zge (K:=K) (a:=rl) (xs:=qn.map iN) (by rw [length_map,hp4];decide)
   (fun i ys H'=>ys=((qn.take i).filter fun p=>!decide (p=0)).map iN/\H' D=some (.lst ys)/\Same H6 H') ⟨rfl,Zf,Zm hD _⟩ ?_ ?_ ?_
  ·rintro i ys H' ⟨rfl,_,s'⟩
   refine ⟨?_,SqL.of (s' _ _ el6)⟩
   rw [length_map]
   exact Qr (SK _ _) (by rw [length_take];exact Nq _ _)
  ·rintro i v ys H' hi ⟨rfl,hDl,s'⟩
   have hit:i < qn.length:=by have:=(Qk.mp hi).1;rwa [length_map] at this
   have et:=getElem?_eq_getElem hit
   generalize qn[i]=qi at et
   have hv:iN qi=v:=by rw [getElem?_map,et] at hi;exact QE hi
   subst hv
   have hts:=OX (fun p:Nat=>!decide (p=0)) qn i qi et
   refine ⟨_,rfl,rfl,_,rfl,?_⟩
   have edx:(!decide (iN qi=V.int 0))=!decide (qi=0):=by
    by_cases z:qi=0
    ·rw [z];rfl
    ·rw [decide_eq_false z,decide_eq_false fun y=>z (by have:=V.int.inj y;omega)]
   rw [edx]
   by_cases z:qi=0
   ·rw [decide_eq_true z]
    refine ZQ ⟨?_,hDl,s'⟩
    rw [hts]
    show _=List.map _ (_++if (!decide (qi=0))=true then [qi] else [])
    rw [decide_eq_true z]
    simp
   ·rw [decide_eq_false z]
    refine Ys ⟨_,rfl,hDl,?_,Zf,fun b u e=>by rw [Zg (Zr e hD)];exact s' _ _ e⟩
    rw [hts]
    show _=List.map _ (_++if (!decide (qi=0))=true then [qi] else [])
    rw [decide_eq_false z]
    simp
  ·rintro ys H7 ⟨rfl,hD7,s7⟩
   rw [length_map,Sa] at hD7
   generalize hfl:(qn.filter fun p=>!decide (p=0))=fl at hD7
   have S7:=S6.keep s7
   refine ⟨_,rfl,D,_,rfl,.inl (SqL.of hD7),rfl,_,rfl,?_⟩
   by_cases h1:fl.length=1
   ·obtain ⟨q8,rfl⟩:∃ q8,fl=[q8]:=by
     cases fl with
     | nil=>cases h1
     | cons b t=>cases t with
      | nil=>exact ⟨b,rfl⟩
      | cons _ _=>simp at h1
    obtain ⟨i8,hi8,hq80,_⟩:=Zbp hfl
    obtain ⟨n8,hn8,_⟩:=Zbc (hps i8 q8 hi8)
    obtain ⟨as8,a8,nl8,ha8,hna8⟩:=S7.node hn8
    obtain ⟨dx8,ob8⟩:=S7.ob
    refine Ys ⟨_,rfl,st,C,dx8,_,_,rfl,ob8,TC.cl,TC.nN,XI ln dt,_,rfl,D,_,_,_,rfl,rfl,SqL.of hD7,(show YG ([q8].map iN) ((0:Nat):Int)=some (iN q8) from ZI rfl),ln,_,_,_,rfl,rfl,SqL.of nl8,ZI (by rw [getElem?_map,ha8];rfl),a8,n8,rfl,hna8,fun pt9 H9 s9 hpt9=>?_⟩
    obtain ⟨o9,ts9,ept9,_,hl9,_⟩:=hpt9
    refine ⟨_,.inr (.inl ⟨_,.inl (.inr ⟨o9,ept9⟩),rfl⟩),?_⟩
    have I:=s7.trans s9
    cases n8 with
    | leaf m8 ps8 =>
     have hne:(!(ts9.map V.ref).isEmpty)=true:=by
      cases ts9 with
      | nil =>
       have hE:TriE NS B (dnF Fm x) (J+1) (r+i8 * 4 ^ J) q8:=by
        have:=hps i8 q8 hi8
        cases d' with
        | zero=>exact this
        | succ d' =>
         rcases this with h | ⟨qs',h,_⟩
         ·exact h
         ·rw [hn8] at h;cases h
       rcases hE with ⟨z,_⟩ | ⟨m',ps',e,G,_⟩
       ·exact absurd z hq80
       ·rw [hn8] at e;cases e
        exact absurd (Ja.mp (show ps8.length=0 from hl9.symm)) G.ne
      | cons _ _=>rfl
     rw [hne]
     refine Ys ⟨_,rfl,D,_,_,_,rfl,rfl,SqL.of (s9 _ _ hD7),(show YG ([q8].map iN) ((0:Nat):Int)=some (iN q8) from ZI rfl),?_⟩
     exact q H9 B q8 (S6.keep I) ext5 (by omega) (ZnV N h05 hrl hp4 hps hfl hn8) (LamAt.same L6 I) (kh.trans (Same.kq I)) (tfh.trans I.tf)
    | bare =>
     rw [Ja.mp (show ts9.length=0 from hl9)]
     refine ZQ ?_
     obtain ⟨dxA,obA⟩:=(S6.keep I).ob
     refine ⟨_,rfl,st,dxA,_,rfl,obA,ZT ln dt (by decide +kernel) (by decide +kernel),_,rfl,rl,qn,rfl,I _ _ el6,hp4,fun aB HB sB Z=>?_⟩
     have SB:=(S6.keep I).keep sB
     refine ⟨st,ln,dt,aB,B,tabs,_,rfl,SB,Z,by omega,fun HC SC kC tfC=>?_⟩
     have nlB:∃ xs,HB ln=some (.lst xs):=by obtain ⟨asB,eB,_⟩:=SB.nl;exact ⟨_,eB⟩
     refine q HC _ B.length SC (ext5.trans (NEx.app B _)) (by rw [length_append];show B.length+1<=_;omega) ?_ ((LamAt.same (LamAt.same L6 I) sB).kq kC fun b hb=>by rw [mem_singleton.mp hb];exact nlB) ?_ (((tfh.trans I.tf).trans sB.tf).trans tfC)
     ·exact Zbb (by rw [getElem?_append_right (Qg _),GB];rfl) hp4 fun i q hi=>Tri.mono d' (hps i q hi) (NEx.app B _)
     ·exact ((kh.trans (Same.kq I)).trans (Same.kq sB)).trans (kC.sub fun b hb=>by simp at hb ⊢;exact .inl hb)
    | fork qs8 =>
     rw [Ja.mp (show ts9.length=0 from hl9)]
     refine ZQ ?_
     obtain ⟨dxA,obA⟩:=(S6.keep I).ob
     refine ⟨_,rfl,st,dxA,_,rfl,obA,ZT ln dt (by decide +kernel) (by decide +kernel),_,rfl,rl,qn,rfl,I _ _ el6,hp4,fun aB HB sB Z=>?_⟩
     have SB:=(S6.keep I).keep sB
     refine ⟨st,ln,dt,aB,B,tabs,_,rfl,SB,Z,by omega,fun HC SC kC tfC=>?_⟩
     have nlB:∃ xs,HB ln=some (.lst xs):=by obtain ⟨asB,eB,_⟩:=SB.nl;exact ⟨_,eB⟩
     refine q HC _ B.length SC (ext5.trans (NEx.app B _)) (by rw [length_append];show B.length+1<=_;omega) ?_ ((LamAt.same (LamAt.same L6 I) sB).kq kC fun b hb=>by rw [mem_singleton.mp hb];exact nlB) ?_ (((tfh.trans I.tf).trans sB.tf).trans tfC)
     ·exact Zbb (by rw [getElem?_append_right (Qg _),GB];rfl) hp4 fun i q hi=>Tri.mono d' (hps i q hi) (NEx.app B _)
     ·exact ((kh.trans (Same.kq I)).trans (Same.kq sB)).trans (kC.sub fun b hb=>by simp at hb ⊢;exact .inl hb)
   ·have hd1:decide (V.int (((fl.map iN).length:Nat):Int)=V.int 1)=false:=decide_eq_false fun z=>h1 (by have:=V.int.inj z;rw [length_map] at this;omega)
    rw [hd1]
    have I:=s7
    refine ZQ (ZQ ?_)
    obtain ⟨dxA,obA⟩:=(S6.keep I).ob
    refine ⟨_,rfl,st,dxA,_,rfl,obA,ZT ln dt (by decide +kernel) (by decide +kernel),_,rfl,rl,qn,rfl,I _ _ el6,hp4,fun aB HB sB Z=>?_⟩
    have SB:=(S6.keep I).keep sB
    refine ⟨st,ln,dt,aB,B,tabs,_,rfl,SB,Z,by omega,fun HC SC kC tfC=>?_⟩
    have nlB:∃ xs,HB ln=some (.lst xs):=by obtain ⟨asB,eB,_⟩:=SB.nl;exact ⟨_,eB⟩
    refine q HC _ B.length SC (ext5.trans (NEx.app B _)) (by rw [length_append];show B.length+1<=_;omega) ?_ ((LamAt.same (LamAt.same L6 I) sB).kq kC fun b hb=>by rw [mem_singleton.mp hb];exact nlB) ?_ (((tfh.trans I.tf).trans sB.tf).trans tfC)
    ·exact Zbb (by rw [getElem?_append_right (Qg _),GB];rfl) hp4 fun i q hi=>Tri.mono d' (hps i q hi) (NEx.app B _)
    ·exact ((kh.trans (Same.kq I)).trans (Same.kq sB)).trans (kC.sub fun b hb=>by simp at hb ⊢;exact .inl hb)
theorem Zfv {f:Addr}{fd:Qn}(N:Yr NS)(F:Fun K "taken_from" "Store.taken_from" c_Store_taken_from f fd)(T:Txt K mg)(J:Xp K C)
 (S:Def P w K mg base 1 "has_mark" ["node","number"] (UP K)) (Z:Def P w K mg base 1 "parts_in" ["node"] (WU K)) (G:Def P w K mg base 1 "pairs_in" ["node"] (XY K)) (U:Def P w K mg base 1 "mark" ["name"] Wk) (B:Def P w K mg base 1 "digit" ["number","level"] XX)
 (DL:Def P w K mg base 2 "leaf_of" ["pairs"] (UR K Pl YW)) (I:Def P w K mg base 1 "fork_of" ["parts"] (WA K)) (W:DefM P w K mg base 1 C "keep" ["self","node"] (UQ K C))
 (b:Binds K fd nTk []) (mt:Vy K C "taken_from" f):∀ d,FnOk P w K mg base ZF (2+d) f fd nTk (ZbY K C Pl NS d)
 | 0=>F.ok scTk (len:=(fun _ _ _ _ h=>h.elim)) (fun _ _ _ _ _ _ _ _ _ h=>h.elim)
 | d+1=>Znc N (OV 2 d) F T J S Z G U B DL I W ⟨f,fd,Zfv N F T J S Z G U B DL I W b mt d,b,mt⟩
inductive Zkj (K:Qa)(C Pl:Addr)(NS:List Str)(vs:List V)(H:Hp)(Q:VK)(w_3:XK):Prop
 | mk (st ln dt:Addr) (nds:List Nd) (tabs:List (Zo×V)) (t:Nat) (x:Str) (F:Str->Option V):vs=[.ref st,iN t,.str x]->StoreAt K C st ln dt H nds tabs->nds[0]?=some .bare->(Zz tabs (QQ (t:Int))).isSome=true->Tri NS nds F 5 0 0 t->x∈NS->(∀ u,F x=some u->ValV u)->nds.length+6<=100000->tabs.length<=100000->LamAt H Pl YW Wh->(∀ (H':Hp) (nds':List Nd) (tabs':List (Zo×V)) (t':Nat),StoreAt K C st ln dt H' nds' tabs'->NEx nds nds'->nds'.length<=nds.length+6->tabs'.length<=tabs.length+1->(∀ k,(Zz tabs k).isSome=true->(Zz tabs' k).isSome=true)->(Zz tabs' (QQ (t':Int))).isSome=true->Tri NS nds' (dnF F x) 5 0 0 t'->LamAt H' Pl YW Wh->Kq [ln,dt,Pl] H H'->TF H H'->Q (iN t') H')->Zkj K C Pl NS vs H Q w_3
theorem scWo:Zp ["self","table","name"] ["self","table","name"] (Zk c_Store_without):={}
theorem Zou {f:Addr}{fd:Qn}(N:Yr NS)(F:Fun K "without" "Store.without" c_Store_without f fd)(TC:Xp K C)(DLk:DefM P w K mg base 3 C "looked" ["self","table","name"] (WB K C))
 (DAs:DefM P w K mg base 1 C "as_table" ["self","number"] (Zdr K C)) (DI:DefM P w K mg base 8 C "taken_from" nTk (ZbY K C Pl NS 6)):FnOk P w K mg base ZF 9 f fd ["self","table","name"] (Zkj K C Pl NS):=by
 refine F.ok scWo (fun cdv A outer s H vs Q E hr h=>?_)
 obtain ⟨st,ln,Z,nds,B,t,x,Fm,rfl,S,h0,J,I,hx,hFv,hlen,htl,hL,q⟩:=h
 have hr1:=hr.mono (show 1<=8 by decide)
 have hr3:=hr.mono (show 3<=8 by decide)
 refine' ⟨?t,?h,?r⟩
 case h =>
  conv=>arg 2;whnf
  with_reducible refine' Zd (Yb ?a1 (Zi ?a2) ZM) (Zi ?a3)
  case a1=>exact XM (UG (ZU DLk TC.cl hr3 (pv 0) (Zc (pv 1) (Zc (pv 2) Za))))
  case a2=>exact Zq (pv 1)
  case a3=>exact Zq (ZU DAs TC.cl hr1 (pv 0) (Zc (ZU DI TC.cl hr (pv 0) (Zc (pv 1) (Zc Zh (Zc (pv 2) Za)))) Za))
 try dsimp only [ZN,Cx.nox]
 refine US ?_
 intro zD zS zN1
 obtain ⟨dx,ob⟩:=S.ob
 obtain ⟨ws,e,n,e1,e2,e3,e4,e5⟩:=Vp N I hx
 refine ⟨_,rfl,st,dx,_,rfl,ob,ZT ln Z (by decide +kernel) (by decide +kernel),_,rfl,_,rfl,st,ln,Z,nds,B,t,x,6,ws,e,n,rfl,S,J,N.len x hx,N.lo x hx,by decide,e1,e2,e3,e4,fun H1 s1=>?_⟩
 rw [e5]
 refine ⟨_,rfl,?_⟩
 have S1:=S.keep s1
 have hL1:=LamAt.same hL s1
 cases eF:Fm x with
 | none =>
  refine Ys ⟨_,rfl,q H1 nds B t S1 (NEx.refl _) (by omega) (by omega) (fun _ h=>h) J (Tri.congr 5 (by decide) I fun y _ _=>?_) hL1 (Same.kq s1) s1.tf⟩
  unfold dnF
  by_cases z:y=x
  ·rw [if_pos z,z,eF]
  ·rw [if_neg z]
 | some u =>
  have hc:decide ((some u).getD .non=V.non)=false:=decide_eq_false (hFv u eF).ne
  rw [hc]
  obtain ⟨dx1,ob1⟩:=S1.ob
  refine ZQ ⟨_,rfl,st,dx1,_,rfl,ob1,ZT ln Z (by decide +kernel) (by decide +kernel),_,rfl,st,dx1,_,rfl,ob1,ZT ln Z (by decide +kernel) (by decide +kernel),_,rfl,_,rfl,?_⟩
  refine ⟨st,ln,Z,nds,B,t,0,0,x,u,Fm,rfl,S1,h0,I,by decide,rfl,hx,by rw [OF,Nj],eF,hlen,hL1,fun H2 U G S2 ext2 len2 tri2 L2' kq2 tf2=>?_⟩
  refine ⟨st,ln,Z,U,B,G,rfl,S2,by omega,fun H3 S3 k3 tf3=>?_⟩
  refine q H3 U _ G S3 ext2 len2 (XJ _ _ _) (fun k hk=>?_) (by rw [WD,if_pos rfl];rfl) tri2 ?_ ?_ ((s1.tf.trans tf2).trans tf3)
  ·rw [WD]
   by_cases z:k=QQ (G:Int)
   ·rw [if_pos z];rfl
   ·rw [if_neg z];exact hk
  ·have W:∀ b∈[Z],∃ xs,H2 b=some (.dK xs):=fun b hb=>by rw [mem_singleton.mp hb];exact ⟨_,S2.tb⟩
   rcases L2' with h | ⟨c,h,h2⟩
   ·exact .inl (k3 _ _ (fun z=>by obtain ⟨_,e⟩:=W _ z;rw [h] at e;cases e) h)
   ·exact .inr ⟨c,k3 _ _ (fun z=>by obtain ⟨_,e⟩:=W _ z;rw [h] at e;cases e) h,k3 _ _ (fun z=>by obtain ⟨_,e⟩:=W _ z;rw [h2] at e;cases e) h2⟩
  ·exact ((Same.kq s1).trans (kq2.sub fun b hb=>by simp at hb ⊢;rcases hb with z | z;exact .inl z;exact .inr (.inr z))).trans (k3.sub fun b hb=>by simp at hb ⊢;exact .inr (.inl hb))
end
section
variable {P:Qi}{w:Qu}{K:Qa}{mg:Str->Option Qb}{base:Heap}{C Pl:Addr}{NS:List Str}
abbrev Xf:YD:=ZiW YW Wh
inductive ZbV (K:Qa)(C Pl:Addr)(vs:List V)(H:Hp)(Q:VK)(w_3:XK):Prop
 | mk (NS:List Str) (st:Addr) (nds:List Nd) (tabs:List (Zo×V)) (t:Nat) (x:Str) (v:V) (F:Str->Option V) (Δ:Rs):Yr NS->vs=[.ref st,iN t,.str x,v]->Sep ((st,WX K C nds tabs)::(Pl,Xf)::Δ) H->(Zz tabs (QQ (t:Int))).isSome=true->Tri NS nds F 5 0 0 t->x∈NS->ValV v->(∀ u,F x=some u->ValV u)->nds.length+6<=100000->tabs.length<=100000->(∀ (H':Hp) (nds':List Nd) (tabs':List (Zo×V)) (t':Nat),Sep ((st,WX K C nds' tabs')::(Pl,Xf)::Δ) H'->NEx nds nds'->nds'.length<=nds.length+6->tabs'.length<=tabs.length+1->(∀ k,(Zz tabs k).isSome=true->(Zz tabs' k).isSome=true)->(Zz tabs' (QQ (t':Int))).isSome=true->Tri NS nds' (upF F x v) 5 0 0 t'->Q (iN t') H')->ZbV K C Pl vs H Q w_3
inductive Zdw (K:Qa)(C Pl:Addr)(vs:List V)(H:Hp)(Q:VK)(w_3:XK):Prop
 | mk (NS:List Str) (st:Addr) (nds:List Nd) (tabs:List (Zo×V)) (t:Nat) (x:Str) (F:Str->Option V) (Δ:Rs):Yr NS->vs=[.ref st,iN t,.str x]->Sep ((st,WX K C nds tabs)::(Pl,Xf)::Δ) H->(Zz tabs (QQ (t:Int))).isSome=true->Tri NS nds F 5 0 0 t->x∈NS->(∀ u,F x=some u->ValV u)->nds.length+6<=100000->tabs.length<=100000->(∀ (H':Hp) (nds':List Nd) (tabs':List (Zo×V)) (t':Nat),Sep ((st,WX K C nds' tabs')::(Pl,Xf)::Δ) H'->NEx nds nds'->nds'.length<=nds.length+6->tabs'.length<=tabs.length+1->(∀ k,(Zz tabs k).isSome=true->(Zz tabs' k).isSome=true)->(Zz tabs' (QQ (t':Int))).isSome=true->Tri NS nds' (dnF F x) 5 0 0 t'->Q (iN t') H')->Zdw K C Pl vs H Q w_3
theorem Zoz {f:Addr}{fd:Qn}{k:Nat}{ps:List Str}(h:∀ NS,Yr NS->FnOk P w K mg base ZF k f fd ps (ZgL K C Pl NS)):FnOk P w K mg base ZF k f fd ps (ZbV K C Pl) :=
 (FnOk.ex h).conv fun vs H Q E J=>by
  obtain ⟨NS,st,nds,I,t,x,v,F,Δ,N,e,S,h1,h2,h3,W,h5,h6,Z,q⟩:=J
  obtain ⟨ln,U,SA,b0,L,G⟩:=S.stoLam
  exact ⟨NS,N,st,ln,U,nds,I,t,x,v,F,e,SA,b0,h1,h2,h3,W,h5,h6,Z,L,fun H' nds' B t' S' ext len tl mono tok XZ L' kq tf=>q H' nds' B t' (G H' nds' B S' (ext _ _ b0) L' kq) ext len tl mono tok XZ⟩
theorem wo_S {f:Addr}{fd:Qn}{k:Nat}{ps:List Str}(h:∀ NS,Yr NS->FnOk P w K mg base ZF k f fd ps (Zkj K C Pl NS)):FnOk P w K mg base ZF k f fd ps (Zdw K C Pl) :=
 (FnOk.ex h).conv fun vs H Q E J=>by
  obtain ⟨NS,st,nds,I,t,x,F,Δ,N,e,S,h1,h2,Z,W,h5,h6,q⟩:=J
  obtain ⟨ln,U,SA,b0,L,G⟩:=S.stoLam
  exact ⟨NS,N,st,ln,U,nds,I,t,x,F,e,SA,b0,h1,h2,Z,W,h5,h6,L,fun H' nds' B t' S' ext len tl mono tok XZ L' kq tf=>q H' nds' B t' (G H' nds' B S' (ext _ _ b0) L' kq) ext len tl mono tok XZ⟩
inductive Zas (K:Qa)(C:Addr)(vs:List V)(H:Hp)(Q:VK)(w_3:XK):Prop
 | mk (p dx:Addr) (H0:Hp) (Δ:Rs):vs=[.ref p]->H=upd (upd H0 dx (.own p)) p (.ins C dx [])->H0 p=none->H0 dx=none->dx≠p->Sep Δ H0->(∀ H',Same H0 H'->Sep ((p,WX K C [.bare] [(QQ 0,.bl true)])::Δ) H'->Q .non H')->Zas K C vs H Q w_3
theorem ZmE {vs:List V}{H:Hp}{Q:VK}{E:XK}(h:Zas K C vs H Q E):Zer K C vs H Q E:=by
 obtain ⟨p,dx,G,Δ,e,rfl,h1,h2,h3,S,q⟩:=h
 refine ⟨p,dx,e,Zf,fun ln dt H' Z U SA kq=>?_⟩
 have W:Same G (upd (upd G dx (.own p)) p (.ins C dx [])):=(Zm h2 _).trans (Zm (by rw [Zg h3.symm];exact h1) _)
 have s0:Same G H':=fun b o e=>kq b o (by simp only [mem_singleton];exact Zr e h1) (W b o e)
 refine q H' s0 ?_
 have n1:=ZcR W Z
 have n2:=ZcR W U
 obtain ⟨I,ob⟩:=SA.ob
 obtain ⟨as,nl,B,J⟩:=SA.nl
 refine ⟨some_of H' [p,ln,dt],WT,⟨rfl,ln,dt,⟨⟨I,by rw [XV (by simp)];exact ob⟩,⟨as,by rw [XV (by simp)];exact nl,B,fun i a n e1 e2=>(J i a n e1 e2).tf ZfF⟩,by rw [XV (by simp)];exact SA.tb⟩⟩,S.mono fun b o e=>cut_some.mpr ⟨s0 _ _ e,fun u z=>?_⟩⟩
 cases m:YM u with
 | false=>rfl
 | true =>
  have:=Wz z m
  simp only [mem_cons,Pg,or_false] at this
  rcases this with z | z | z
  ·exact absurd z (Zr e h1)
  ·exact absurd z (Zr e n1)
  ·exact absurd z (Zr e n2)
inductive Zes (K:Qa)(C:Addr)(vs:List V)(H:Hp)(Q:VK)(w_3:XK):Prop
 | mk (st:Addr) (nds:List Nd) (tabs:List (Zo×V)):vs=[.ref st]->WX K C nds tabs st H->Q (.int (nds.length:Int)) H->Zes K C vs H Q w_3
theorem scMd:Zp ["self"] ["self"] (Zk c_Store_made):={}
theorem Zlm {f:Addr}{fd:Qn}(F:Fun K "made" "Store.made" c_Store_made f fd)(T:Txt K mg)(B:Xp K C):FnOk P w K mg base ZF 1 f fd ["self"] (Zes K C):=by
 refine F.ok scMd (fun W A outer s H vs Q E hr h=>?_)
 obtain ⟨st,nds,I,rfl,⟨b0,G,J,⟨⟨dx,S⟩,⟨as,U,Z,hn⟩,tb⟩⟩,q⟩:=h
 refine ⟨_,Zi (Zq (Zu Ya rfl T.len QU (Zc (ZC (pv 0) rfl) Za))),?_⟩
 refine ⟨_,rfl,st,C,dx,_,_,rfl,S,B.cl,B.nN,XI G J,G,_,rfl,.inl (SqL.of U),?_⟩
 rw [length_map,Z];exact q
inductive Zcw (K:Qa)(C:Addr)(vs:List V)(H:Hp)(Q:VK)(w_3:XK):Prop
 | mk (v:_):vs=[v]->Q (.int 0) H->Zcw K C vs H Q w_3
theorem scEm:Zp ["self"] ["self"] (Zk c_Store_empty):={}
theorem ZjB {f:Addr}{fd:Qn}(F:Fun K "empty" "Store.empty" c_Store_empty f fd)(T:Txt K mg):FnOk P w K mg base ZF 1 f fd ["self"] (Zcw K C):=by
 refine F.ok scEm (fun B A outer s H vs Q E I h=>?_)
 obtain ⟨v,rfl,q⟩:=h
 obtain ⟨J,G⟩:=T.zero
 exact ⟨_,Zi (Zq (ZO rfl G (v:=.int 0) ⟨_,rfl⟩)),q⟩
end
structure Wp (K:Qa)(CR:Addr):Prop where
 cl:Cls K CR
 nk:NoAttr K CR "kept"
 na:NoAttr K CR "aheads"
 ns:NoAttr K CR "steps"
 nt:NoAttr K CR "tables"
 nc:NoAttr K CR "costs"
section
variable {P:Qi}{w:Qu}{K:Qa}{mg:Str->Option Qb}{base:Heap}{CR CS Pl:Addr}{NS:List Str}
theorem Zcr {st B I lt G:Addr}:(UL st B I lt G).lookup ("kept":Str)=some (V.ref st):=rfl
theorem ZaX {st B I lt G:Addr}:(UL st B I lt G).lookup ("aheads":Str)=some (V.ref B):=rfl
theorem ZgD {st G B lt I:Addr}:(UL st G B lt I).lookup ("steps":Str)=some (V.ref B):=rfl
theorem Zke {st B I lt G:Addr}:(UL st B I lt G).lookup ("tables":Str)=some (V.ref lt):=rfl
theorem rf_c {st G I lt B:Addr}:(UL st G I lt B).lookup ("costs":Str)=some (V.ref B):=rfl
theorem Wi {st B S lt I:Addr}{m:Str}(h:[("kept":Str),"aheads","steps","tables","costs"].all (fun k=>!(m == k))=true):(UL st B S lt I).lookup m=none:=by
 simp only [RL,OG,RM,QJ,GR] at h
 obtain ⟨h1,h2,J,G,U⟩:=h
 simp [UL,Gv,h1,h2,J,G,U]
abbrev RdR (K:Qa)(CR CS:Addr)(r:Addr)(pls:List Yp)(nds:List Nd)(tabs:List (Zo×V))(H:Hp):Prop:=Vs K CR CS pls nds tabs r H
inductive ZbO (K:Qa)(CR CS:Addr)(vs:List V)(H:Hp)(Q:VK)(w_3:XK):Prop
 | mk (r:Addr) (pls:List Yp) (nds:List Nd) (tabs:List (Zo×V)) (k:Nat):vs=[.ref r,.int (k:Int)]->RdR K CR CS r pls nds tabs H->k<=pls.length->Q .non H->ZbO K CR CS vs H Q w_3
abbrev nRCk:List Str:=["self","place"]
abbrev ZbJ:List Str:=["self","place"]
theorem ZoQ:Zp nRCk ZbJ (Zk c_Roads_check_place):={}
theorem Zlr {f:Addr}{fd:Qn}(F:Fun K "check_place" "Roads.check_place" c_Roads_check_place f fd)(T:Yi mg)(G:Wp K CR):FnOk P w K mg base ZF 1 f fd ZbJ (ZbO K CR CS):=by
 refine F.ok ZoQ (fun U A outer s H vs Q E Z h=>?_)
 obtain ⟨r,pls,nds,I,k,rfl,⟨st,B,ls,lt,W,S⟩,hk,q⟩:=h
 obtain ⟨dx,J⟩:=S.get r
 refine' ⟨?t,?h,?r⟩
 case h =>
  conv=>arg 2;whnf
  with_reducible refine' (Zi (Yb ?h1 (Zi ZkF) ZM))
  case h1=>exact VN (Zej ZkA Zdm Zh (pv 1) (Zu Ya rfl T.len QU (Zc (ZC (pv 0) rfl) Za)))
 try dsimp only [ZN,Cx.nox]
 refine ⟨_,rfl,_,_,rfl,rfl,_,rfl,?_⟩
 rw [decide_eq_true (show (0:Int)<=(k:Int) by omega)]
 refine Ys ⟨_,rfl,r,CR,dx,_,_,rfl,J,G.cl,G.na,ZaX,B,_,rfl,.inl (SqL.of (S.get B)),_,_,rfl,rfl,_,rfl,?_⟩
 rw [decide_eq_true (show (k:Int) < (((V.non::pls.map fun q=>V.int (q.ah:Int)).length:Nat):Int) by rw [length_cons,length_map];omega)]
 exact ZQ q
inductive ZaZ (K:Qa)(CR CS:Addr)(vs:List V)(H:Hp)(Q:VK)(w_3:XK):Prop
 | mk (r:Addr) (pls:List Yp) (nds:List Nd) (tabs:List (Zo×V)):vs=[.ref r]->RdR K CR CS r pls nds tabs H->Q (.int ((pls.length+1:Nat):Int)) H->ZaZ K CR CS vs H Q w_3
abbrev nRPl:List Str:=["self"]
abbrev Zgy:List Str:=["self"]
theorem ZoT:Zp nRPl Zgy (Zk c_Roads_places):={}
theorem Zif {f:Addr}{fd:Qn}(F:Fun K "places" "Roads.places" c_Roads_places f fd)(T:Yi mg)(G:Wp K CR):FnOk P w K mg base ZF 1 f fd Zgy (ZaZ K CR CS):=by
 refine F.ok ZoT (fun U A outer s H vs Q E Z h=>?_)
 obtain ⟨r,pls,nds,I,rfl,⟨st,B,ls,lt,W,S⟩,q⟩:=h
 obtain ⟨dx,J⟩:=S.get r
 refine' ⟨?t,?h,?r⟩
 case h =>
  conv=>arg 2;whnf
  with_reducible refine' (Zi ?h1)
  case h1=>exact Zq (Zu Ya rfl T.len QU (Zc (ZC (pv 0) rfl) Za))
 try dsimp only [ZN,Cx.nox]
 refine ⟨_,rfl,r,CR,dx,_,_,rfl,J,G.cl,G.na,ZaX,B,_,rfl,.inl (SqL.of (S.get B)),?_⟩
 rw [length_cons,length_map];exact q
def ahV (pls:List Yp):Nat->V
 | 0=>.non
 | k+1=>.int (((pls.getD k ⟨0,.clr "",0,0⟩).ah:Nat):Int)
theorem Zmx {pls:List Yp}{k:Nat}(h:k<=pls.length):(V.non::pls.map fun q=>V.int (q.ah:Int))[k]?=some (ahV pls k):=by
 cases k with
 | zero=>rfl
 | succ k =>
  rw [Jb,getElem?_map,getElem?_eq_getElem (show k < pls.length by omega)]
  show some _=some (V.int _)
  rw [getD_eq_getElem?_getD,getElem?_eq_getElem (show k < pls.length by omega)]
  rfl
inductive Zct (K:Qa)(CR CS:Addr)(vs:List V)(H:Hp)(Q:VK)(w_3:XK):Prop
 | mk (r:Addr) (pls:List Yp) (nds:List Nd) (tabs:List (Zo×V)) (k:Nat):vs=[.ref r,.int (k:Int)]->RdR K CR CS r pls nds tabs H->k<=pls.length->Q (ahV pls k) H->Zct K CR CS vs H Q w_3
abbrev nRAh:List Str:=["self","place"]
abbrev Zgv:List Str:=["self","place"]
theorem ZoP:Zp nRAh Zgv (Zk c_Roads_ahead):={}
theorem Zjx {f:Addr}{fd:Qn}(F:Fun K "ahead" "Roads.ahead" c_Roads_ahead f fd)(T:Yi mg)(I:Wp K CR)(B:DefM P w K mg base 1 CR "check_place" ZbJ (ZbO K CR CS)):FnOk P w K mg base ZF 2 f fd Zgv (Zct K CR CS):=by
 refine F.ok ZoP (fun cdv A outer s H vs Q E Z h=>?_)
 obtain ⟨r,pls,nds,G,k,rfl,R,W,q⟩:=h
 obtain ⟨st,J,ls,lt,lc,S⟩:=id R
 obtain ⟨dx,U⟩:=S.get r
 refine' ⟨?t,?h,?r⟩
 case h =>
  conv=>arg 2;whnf
  with_reducible refine' (Zd ?h1 (Zi ?h2))
  case h1=>exact Yh (ZU B I.cl Z (pv 0) (Zc (pv 1) Za))
  case h2=>exact Zq (ZD ZE (ZC (pv 0) rfl) (pv 1) (fun _ _=>rfl))
 try dsimp only [ZN,Cx.nox]
 refine US ?_
 intro zD zS zN1
 refine ⟨_,rfl,r,dx,_,rfl,U,Wi (by decide +kernel),_,rfl,r,pls,nds,G,k,rfl,R,W,?_⟩
 exact ⟨_,rfl,r,CR,dx,_,_,rfl,U,I.cl,I.na,ZaX,_,rfl,J,_,_,_,rfl,rfl,SqL.of (S.get J),ZI (Zmx W),q⟩
end
def WfP (pls:List Yp):Prop:=∀(k:Nat)(q:Yp),pls[k]?=some q->q.ah<=k
section
variable {P:Qi}{w:Qu}{K:Qa}{mg:Str->Option Qb}{base:Heap}{CR CS Pl:Addr}{NS:List Str}
def StV (pls:List Yp)(k:Nat)(v:V)(H:Hp):Prop:=match k with
 | 0=>v=.non
 | k+1=>∃ a s,v=.ref a/\(pls.map (·.st))[k]?=some s/\H a=some (.tup s.vs)
inductive ZcA (K:Qa)(CR CS:Addr)(vs:List V)(H:Hp)(Q:VK)(w_3:XK):Prop
 | mk (r:Addr) (pls:List Yp) (nds:List Nd) (tabs:List (Zo×V)) (k:Nat):vs=[.ref r,.int (k:Int)]->RdR K CR CS r pls nds tabs H->k<=pls.length->(∀ v,StV pls k v H->Q v H)->ZcA K CR CS vs H Q w_3
abbrev nRSt:List Str:=["self","place"]
abbrev ZgA:List Str:=["self","place"]
theorem ZoV:Zp nRSt ZgA (Zk c_Roads_step):={}
theorem ZjI {f:Addr}{fd:Qn}(F:Fun K "step" "Roads.step" c_Roads_step f fd)(T:Yi mg)(G:Wp K CR)(B:DefM P w K mg base 1 CR "check_place" ZbJ (ZbO K CR CS)):FnOk P w K mg base ZF 2 f fd ZgA (ZcA K CR CS):=by
 refine F.ok ZoV (fun cdv A outer s H vs Q E hr h=>?_)
 obtain ⟨r,pls,nds,J,k,rfl,R,hk,q⟩:=h
 obtain ⟨st,la,Z,lt,lc,S⟩:=id R
 obtain ⟨dx,W⟩:=S.get r
 obtain ⟨as,I,hal,U⟩:=S.get Z
 refine' ⟨?t,?h,?r⟩
 case h =>
  conv=>arg 2;whnf
  with_reducible refine' (Zd ?h1 (Zi ?h2))
  case h1=>exact Yh (ZU B G.cl hr (pv 0) (Zc (pv 1) Za))
  case h2=>exact Zq (ZD ZE (ZC (pv 0) rfl) (pv 1) (fun _ _=>rfl))
 try dsimp only [ZN,Cx.nox]
 refine US ?_
 intro zD zS zN1
 refine ⟨_,rfl,r,dx,_,rfl,W,Wi (by decide +kernel),_,rfl,r,pls,nds,J,k,rfl,R,hk,?_⟩
 rw [length_map] at hal
 cases k with
 | zero=>exact ⟨_,rfl,r,CR,dx,_,_,rfl,W,G.cl,G.ns,ZgD,_,rfl,Z,_,_,_,rfl,rfl,SqL.of I,ZI rfl,q _ rfl⟩
 | succ k =>
  have ha:=getElem?_eq_getElem (show k < as.length by omega)
  have hs:(pls.map (·.st))[k]?=some pls[k].st:=by rw [getElem?_map,getElem?_eq_getElem (show k < pls.length by omega)];rfl
  exact ⟨_,rfl,r,CR,dx,_,_,rfl,W,G.cl,G.ns,ZgD,_,rfl,Z,_,_,_,rfl,rfl,SqL.of I,ZI (show (V.non::as.map V.ref)[k+1]?=some (.ref as[k]) by rw [Jb,getElem?_map,ha];rfl),q _ ⟨_,_,rfl,hs,U k _ _ ha hs⟩⟩
def tbN (pls:List Yp):Nat->Nat
 | 0=>0
 | k+1=>(pls.getD k ⟨0,.clr "",0,0⟩).tb
theorem Uh {pls:List Yp}{k:Nat}(h:k<=pls.length):(0::pls.map (·.tb))[k]?=some (tbN pls k):=by
 cases k with
 | zero=>rfl
 | succ k =>
  rw [Jb,getElem?_map,getElem?_eq_getElem (show k < pls.length by omega)]
  show some _=some (pls.getD k ⟨0,.clr "",0,0⟩).tb
  rw [getD_eq_getElem?_getD,getElem?_eq_getElem (show k < pls.length by omega)]
  rfl
theorem ZnS {pls:List Yp}{k:Nat}(h:k<=pls.length):(V.int 0::pls.map fun q=>V.int (q.tb:Int))[k]?=some (.int (tbN pls k:Int)):=by
 have e:(V.int 0::pls.map fun q=>V.int (q.tb:Int))=(0::pls.map (·.tb)).map fun n:Nat=>V.int (n:Int):=by rw [map_cons,map_map];rfl
 rw [e,getElem?_map,Uh h];rfl
inductive Zav (K:Qa)(CR CS:Addr)(vs:List V)(H:Hp)(Q:VK)(w_3:XK):Prop
 | mk (r:Addr) (pls:List Yp) (nds:List Nd) (tabs:List (Zo×V)) (k:Nat):vs=[.ref r,.int (k:Int)]->RdR K CR CS r pls nds tabs H->k<=pls.length->Q (.int (tbN pls k:Int)) H->Zav K CR CS vs H Q w_3
abbrev nRTa:List Str:=["self","place"]
abbrev Zdq:List Str:=["self","place"]
theorem ZoW:Zp nRTa Zdq (Zk c_Roads_table):={}
theorem ZjJ {f:Addr}{fd:Qn}(F:Fun K "table" "Roads.table" c_Roads_table f fd)(T:Yi mg)(I:Wp K CR)(B:DefM P w K mg base 1 CR "check_place" ZbJ (ZbO K CR CS)):FnOk P w K mg base ZF 2 f fd Zdq (Zav K CR CS):=by
 refine F.ok ZoW (fun Z A outer s H vs Q E W h=>?_)
 obtain ⟨r,pls,nds,G,k,rfl,R,U,q⟩:=h
 obtain ⟨st,la,ls,lt,lc,S⟩:=id R
 obtain ⟨dx,J⟩:=S.get r
 refine' ⟨?t,?h,?r⟩
 case h =>
  conv=>arg 2;whnf
  with_reducible refine' (Zd ?h1 (Zi ?h2))
  case h1=>exact Yh (ZU B I.cl W (pv 0) (Zc (pv 1) Za))
  case h2=>exact Zq (ZD ZE (ZC (pv 0) rfl) (pv 1) (fun _ _=>rfl))
 try dsimp only [ZN,Cx.nox]
 refine US ?_
 intro zD zS zN1
 refine ⟨_,rfl,r,dx,_,rfl,J,Wi (by decide +kernel),_,rfl,r,pls,nds,G,k,rfl,R,U,?_⟩
 exact ⟨_,rfl,r,CR,dx,_,_,rfl,J,I.cl,I.nt,Zke,_,rfl,lt,_,_,_,rfl,rfl,SqL.of (S.get lt),ZI (ZnS U),q⟩
end
structure RInv (NS:List Str)(pls:List Yp)(nds:List Nd)(tabs:List (Zo×V)):Prop where
 wf:WfP pls
 tr:∀ (k:Nat) (F:Str->Option V) (t:Nat),(envs pls)[k]?=some F->(0::pls.map (·.tb))[k]?=some t->(Zz tabs (QQ (t:Int))).isSome=true/\Tri NS nds F 5 0 0 t/\∀ x u,F x=some u->IsVal u
theorem ZcD {v:V}(h:IsVal v):ValV v:=by
 cases v<;>first | trivial | exact h.elim
theorem RInv.app {NS:List Str}{pls:List Yp}{nds nds':List Nd}{S J:List (Zo×V)}(I:RInv NS pls nds S){q:Yp}{F:Str->Option V}(hk:q.ah<=pls.length)(hF:(envs pls)[q.ah]?=some F)(ext:NEx nds nds')
 (mono:∀ k,(Zz S k).isSome=true->(Zz J k).isSome=true) (ht:(Zz J (QQ (q.tb:Int))).isSome=true) (XZ:Tri NS nds' (q.st.ap F) 5 0 0 q.tb) (hv:∀ x v,q.st=.set x v->IsVal v):RInv NS (pls++[q]) nds' J:=by
 have Z:=(I.tr q.ah F _ hF (Uh hk)).2.2
 refine ⟨fun k p e=>?_,fun k G t e1 e2=>?_⟩
 ·by_cases h:k < pls.length
  ·rw [getElem?_append_left h] at e;exact I.wf k p e
  ·rw [getElem?_append_right (by omega)] at e
   have:k - pls.length=0:=by
    cases z:k - pls.length with
    | zero=>rfl
    | succ j=>rw [z] at e;simp at e
   rw [this] at e
   cases (show some q=some p from e)
   omega
 ·rw [ZaO] at e1
  by_cases h:k < (envs pls).length
  ·rw [getElem?_append_left h] at e1
   have U:(0::pls.map (·.tb))[k]?=some t:=by
    rw [map_append,<- OP,getElem?_append_left (by rw [length_cons,length_map];rw [Ub] at h;exact h)] at e2
    exact e2
   obtain ⟨g1,g2,g3⟩:=I.tr k G t e1 U
   exact ⟨mono _ g1,Tri.mono 5 g2 ext,g3⟩
  ·rw [getElem?_append_right (by omega)] at e1
   have hz:k - (envs pls).length=0:=by
    cases z:k - (envs pls).length with
    | zero=>rfl
    | succ j=>rw [z] at e1;simp at e1
   rw [hz] at e1
   have W:q.st.ap ((envs pls).getD q.ah fun _=>none)=G:=QE e1
   rw [getD_eq_getElem?_getD,hF] at W
   have ek:k=pls.length+1:=by rw [Ub] at h hz;omega
   have U:q.tb=t:=by
    rw [ek,Jb,map_append,getElem?_append_right (by rw [length_map];omega),length_map,GB] at e2
    exact QE e2
   subst W U
   refine ⟨ht,XZ,fun x u B=>?_⟩
   have B:q.st.ap F x=some u:=B
   cases es:q.st with
   | set y v =>
    rw [es] at B
    have B:(if x=y then some v else F x)=some u:=B
    by_cases z:x=y
    ·rw [if_pos z] at B;cases B;exact hv y _ es
    ·rw [if_neg z] at B;exact Z x u B
   | clr y =>
    rw [es] at B
    have B:(if x=y then none else F x)=some u:=B
    by_cases z:x=y
    ·rw [if_pos z] at B;cases B
    ·rw [if_neg z] at B;exact Z x u B
section
variable {P:Qi}{w:Qu}{K:Qa}{mg:Str->Option Qb}{base:Heap}{CR CS Pl:Addr}
inductive Zkg (K:Qa)(CR CS Pl:Addr)(vs:List V)(H:Hp)(Q:VK)(w_3:XK):Prop
 | mk (NS:List Str) (r sa:Addr) (pls:List Yp) (nds:List Nd) (tabs:List (Zo×V)) (k:Nat) (s:Stp) (Δ:Rs):vs=[.ref r,.int (k:Int),.ref sa]->Yr NS->Sep ((r,Vs K CR CS pls nds tabs)::(Pl,Xf)::Δ) H->H sa=some (.tup s.vs)->RInv NS pls nds tabs->s.ok NS->k<=pls.length->pls.length<=10000->nds.length<=90000->tabs.length<=90000->(∀ (H':Hp) (nds':List Nd) (tabs':List (Zo×V)) (t':Nat),Sep ((r,Vs K CR CS (pls++[⟨k,s,t',nds'.length - nds.length⟩]) nds' tabs')::(Pl,Xf)::Δ) H'->RInv NS (pls++[⟨k,s,t',nds'.length - nds.length⟩]) nds' tabs'->NEx nds nds'->nds'.length<=nds.length+6->tabs'.length<=tabs.length+1->Q (.int ((pls.length+1:Nat):Int)) H')->Zkg K CR CS Pl vs H Q w_3
theorem NEx.len {nds nds':List Nd}(h:NEx nds nds'):nds.length<=nds'.length:=by
 cases e:nds.length with
 | zero=>omega
 | succ n =>
  have B:n < nds.length:=by omega
  have:=(Qk.mp (h n _ (getElem?_eq_getElem B))).1
  omega
abbrev nRGo:List Str:=["self","place","step","table","made_ahead"]
abbrev Zgw:List Str:=["self","place","step"]
theorem scRGo:Zp nRGo Zgw (Zk c_Roads_go_on):={}
theorem Zlh {f:Addr}{fd:Qn}(F:Fun K "go_on" "Roads.go_on" c_Roads_go_on f fd)(T:Yi mg)(G:Wp K CR)(TC:Xp K CS)(DR_table:DefM P w K mg base 9 CR "table" Zdq (Zav K CR CS))(DS_made:DefM P w K mg base 9 CS "made" ["self"] (Zes K CS))
 (DS_put:DefM P w K mg base 9 CS "put" ["self","table","name","value"] (ZbV K CS Pl)) (DS_without:DefM P w K mg base 9 CS "without" ["self","table","name"] (Zdw K CS Pl)):FnOk P w K mg base ZF 10 f fd Zgw (Zkg K CR CS Pl):=by
 refine F.ok scRGo (fun cdv A outer s H vs Q E hr h=>?_)
 obtain ⟨NS,r,sa,pls,nds,tabs,k,s,Δ,rfl,N,S0,es,I,hs,hk,hpl,hnd,htb,q⟩:=h
 obtain ⟨st,Z,ls,lt,lc,S⟩:=S0.roaO
 obtain ⟨dx,ob⟩:=S.get r
 obtain ⟨b0,ln,dt,SA⟩:=S.get st
 obtain ⟨dxs,obs⟩:=SA.ob
 obtain ⟨Fk,hFk⟩:∃ Fk,(envs pls)[k]?=some Fk:=⟨_,getElem?_eq_getElem (by rw [Ub];omega)⟩
 obtain ⟨g1,g2,g3⟩:=I.tr k Fk _ hFk (Uh hk)
 refine' ⟨?t,?h,?r⟩
 case h =>
  conv=>arg 2;whnf
  with_reducible refine' (Zd ?h1 (Zd ?h2 (Zd (Yb ?h3 (Zi ?h4) (Zi ?h5)) (Zd ?h6 (Zd ?h7 (Zd ?h8 (Zd ?h9 (Zi ?h10))))))))
  case h1=>exact Zv (i:=3) scRGo.nd rfl (QD rfl) (ZU DR_table G.cl hr (pv 0) (Zc (pv 1) Za))
  case h2=>exact Zv (i:=4) scRGo.nd rfl (QD rfl) (We DS_made TC.cl hr (ZC (pv 0) rfl))
  case h3=>exact ZK YX (ZD YL (pv 2) Zh (fun _ _=>rfl)) ZR (ZL _)
  case h4=>exact Zv (i:=3) scRGo.nd rfl (QD rfl) (ZU DS_put TC.cl hr (ZC (pv 0) rfl) (Zc (pv 3) (Zc (ZD YL (pv 2) Zh (fun _ _=>rfl)) (Zc (ZD YL (pv 2) Zh (fun _ _=>rfl)) Za))))
  case h5=>exact Zv (i:=3) scRGo.nd rfl (QD rfl) (ZU DS_without TC.cl hr (ZC (pv 0) rfl) (Zc (pv 3) (Zc (ZD YL (pv 2) Zh (fun _ _=>rfl)) Za)))
  case h6=>exact Yh (XD QI QL QM YH (ZC (pv 0) rfl) (Zc (pv 1) Za))
  case h7=>exact Yh (XD QI QL QM YH (ZC (pv 0) rfl) (Zc (pv 2) Za))
  case h8=>exact Yh (XD QI QL QM YH (ZC (pv 0) rfl) (Zc (pv 3) Za))
  case h9=>exact Yh (XD QI QL QM YH (ZC (pv 0) rfl) (Zc (Zw Xm (We DS_made TC.cl hr (ZC (pv 0) rfl)) (pv 4)) Za))
  case h10=>exact Zq (Zw Xm (Zu Ya rfl T.len QU (Zc (ZC (pv 0) rfl) Za)) Zh)
 try dsimp only [ZN,Cx.nox]
 refine zs8 ?_
 intro zD zS zN7 zN6 zN5 zN4 zN3 zN2 zN1
 refine ⟨_,rfl,r,dx,_,rfl,ob,Wi (by decide +kernel),_,rfl,r,pls,nds,tabs,k,rfl,S0.get r,hk,?_⟩
 refine ⟨_,rfl,r,CR,dx,_,_,rfl,ob,G.cl,G.nk,Zcr,st,dxs,_,rfl,obs,ZT ln dt (by decide +kernel) (by decide +kernel),st,nds,tabs,rfl,S.get st,?_⟩
 have S1:=((S.imm es rfl).pull Pl).pull st
 cases s with
 | set x v =>
  obtain ⟨hx,hv⟩:=hs
  refine ⟨_,rfl,sa,_,_,_,rfl,rfl,SqT.of es,ZI (j:=0) rfl,rfl,_,rfl,?_⟩
  rw [decide_eq_true rfl]
  refine Ys ⟨_,rfl,r,CR,dx,_,_,rfl,ob,G.cl,G.nk,Zcr,st,dxs,_,rfl,obs,ZT ln dt (by decide +kernel) (by decide +kernel),_,rfl,_,rfl,sa,_,_,_,rfl,rfl,SqT.of es,ZI (j:=1) rfl,_,rfl,sa,_,_,_,rfl,rfl,SqT.of es,ZI (j:=2) rfl,?_⟩
  refine ⟨NS,st,nds,tabs,tbN pls k,x,v,Fk,_,N,rfl,S1,g1,g2,hx,ZcD hv,fun u hu=>ZcD (g3 x u hu),by omega,by omega,fun H2 B J t2 S2 W len2 tl2 mono2 ht2 tri2=>?_⟩
  have I2:=RInv.app (q:=⟨k,.set x v,t2,B.length - nds.length⟩) I hk hFk W mono2 ht2 tri2 (fun y u e=>by cases e;exact hv)
  revert S2 I2
  generalize Stp.set x v=s at *
  intro S2 I2
  obtain ⟨dx2,ob2⟩:=S2.get r
  refine ⟨_,rfl,r,CR,dx2,_,_,rfl,ob2,G.cl,G.na,ZaX,.inl ⟨rfl,_,SqL.of (S2.get Z)⟩,_,rfl,Z,_,_,rfl,rfl,S2.get Z,Xa (show _<=20000 by rw [length_cons,length_map];omega),?_⟩
  generalize U:upd H2 Z _=H3
  have S3:=S2.putE U
  clear U
  obtain ⟨dx3,ob3⟩:=S3.get r
  obtain ⟨as3,els,hal,_⟩:=S3.get ls
  rw [length_map] at hal
  refine ⟨_,rfl,r,CR,dx3,_,_,rfl,ob3,G.cl,G.ns,ZgD,.inl ⟨rfl,_,SqL.of els⟩,_,rfl,ls,_,_,rfl,rfl,els,Xa (show _<=20000 by rw [length_cons,length_map];omega),?_⟩
  generalize U:upd H3 ls _=H4
  have S4:=U ▸ S3.stepApp ls els (S3.get sa)
  clear U
  obtain ⟨dx4,ob4⟩:=S4.get r
  refine ⟨_,rfl,r,CR,dx4,_,_,rfl,ob4,G.cl,G.nt,Zke,.inl ⟨rfl,_,SqL.of (S4.get lt)⟩,_,rfl,lt,_,_,rfl,rfl,S4.get lt,Xa (show _<=20000 by rw [length_cons,length_map];omega),?_⟩
  generalize U:upd H4 lt _=H5
  have S5:=S4.putE U
  clear U
  obtain ⟨dx5,ob5⟩:=S5.get r
  obtain ⟨_,ln5,dt5,SA5⟩:=S5.get st
  obtain ⟨dxs5,obs5⟩:=SA5.ob
  refine ⟨_,rfl,r,CR,dx5,_,_,rfl,ob5,G.cl,G.nc,rf_c,.inl ⟨rfl,_,SqL.of (S5.get lc)⟩,_,rfl,r,CR,dx5,_,_,rfl,ob5,G.cl,G.nk,Zcr,st,dxs5,_,rfl,obs5,ZT ln5 dt5 (by decide +kernel) (by decide +kernel),st,B,J,rfl,S5.get st,_,rfl,_,_,rfl,rfl,lc,_,_,rfl,rfl,S5.get lc,Xa (show _<=20000 by rw [length_cons,length_map];omega),?_⟩
  generalize U:upd H5 lc _=H6
  have S6:=S5.putE U
  clear U
  obtain ⟨dx6,ob6⟩:=S6.get r
  refine ⟨_,rfl,r,CR,dx6,_,_,rfl,ob6,G.cl,G.na,ZaX,Z,_,rfl,.inl (SqL.of (S6.get Z)),_,_,rfl,rfl,?_⟩
  have hle:=W.len
  have ec:V.int ((B.length:Int) - (nds.length:Int))=V.int ((B.length - nds.length:Nat):Int):=congrArg V.int (by omega)
  have S7:=(((((((S6.drop sa).pull Pl).pull lc).pull lt).pull ls).pull Z).pull st).pull r
  have S8:Sep ((r,Xs CR (UL st Z ls lt lc))::(st,WX K CS B J)::(Z,ZX (V.non::(pls++[(⟨k,s,t2,B.length - nds.length⟩:Yp)]).map fun q=>V.int (q.ah:Int)))::(ls,UV ((pls++[(⟨k,s,t2,B.length - nds.length⟩:Yp)]).map (·.st)))::(lt,ZX (V.int 0::(pls++[(⟨k,s,t2,B.length - nds.length⟩:Yp)]).map fun q=>V.int (q.tb:Int)))::(lc,ZX (V.int 0::(pls++[(⟨k,s,t2,B.length - nds.length⟩:Yp)]).map fun q=>V.int (q.co:Int)))::(Pl,Xf)::Δ) H6:=by
   rw [map_append,map_append,map_append,map_append]
   show Sep (_::_::_::_::_::(lc,ZX (V.int 0::(pls.map (fun q=>V.int (q.co:Int))++[V.int ((B.length - nds.length:Nat):Int)])))::_) _
   rw [<- ec]
   exact S7
  have e9:(((V.non::pls.map fun q=>V.int (q.ah:Int))++[V.int (k:Int)]).length:Int) - 1=((pls.length+1:Nat):Int):=by rw [length_append,length_cons,length_map];show ((pls.length+1+1:Nat):Int) - 1=_;omega
  have:=q H6 B J t2 S8.roaC I2 W len2 tl2
  rw [<- e9] at this
  exact this
 | clr x =>
  refine ⟨_,rfl,sa,_,_,_,rfl,rfl,SqT.of es,ZI (j:=0) rfl,rfl,_,rfl,?_⟩
  rw [show decide (V.str "clear"=V.str (Qw "set"))=false by decide +kernel]
  refine ZQ ⟨_,rfl,r,CR,dx,_,_,rfl,ob,G.cl,G.nk,Zcr,st,dxs,_,rfl,obs,ZT ln dt (by decide +kernel) (by decide +kernel),_,rfl,_,rfl,sa,_,_,_,rfl,rfl,SqT.of es,ZI (j:=1) rfl,?_⟩
  refine ⟨NS,st,nds,tabs,tbN pls k,x,Fk,_,N,rfl,S1,g1,g2,hs,fun u hu=>ZcD (g3 x u hu),by omega,by omega,fun H2 B J t2 S2 W len2 tl2 mono2 ht2 tri2=>?_⟩
  have I2:=RInv.app (q:=⟨k,.clr x,t2,B.length - nds.length⟩) I hk hFk W mono2 ht2 tri2 (fun y u e=>by cases e)
  revert S2 I2
  generalize Stp.clr x=s at *
  intro S2 I2
  obtain ⟨dx2,ob2⟩:=S2.get r
  refine ⟨_,rfl,r,CR,dx2,_,_,rfl,ob2,G.cl,G.na,ZaX,.inl ⟨rfl,_,SqL.of (S2.get Z)⟩,_,rfl,Z,_,_,rfl,rfl,S2.get Z,Xa (show _<=20000 by rw [length_cons,length_map];omega),?_⟩
  generalize U:upd H2 Z _=H3
  have S3:=S2.putE U
  clear U
  obtain ⟨dx3,ob3⟩:=S3.get r
  obtain ⟨as3,els,hal,_⟩:=S3.get ls
  rw [length_map] at hal
  refine ⟨_,rfl,r,CR,dx3,_,_,rfl,ob3,G.cl,G.ns,ZgD,.inl ⟨rfl,_,SqL.of els⟩,_,rfl,ls,_,_,rfl,rfl,els,Xa (show _<=20000 by rw [length_cons,length_map];omega),?_⟩
  generalize U:upd H3 ls _=H4
  have S4:=U ▸ S3.stepApp ls els (S3.get sa)
  clear U
  obtain ⟨dx4,ob4⟩:=S4.get r
  refine ⟨_,rfl,r,CR,dx4,_,_,rfl,ob4,G.cl,G.nt,Zke,.inl ⟨rfl,_,SqL.of (S4.get lt)⟩,_,rfl,lt,_,_,rfl,rfl,S4.get lt,Xa (show _<=20000 by rw [length_cons,length_map];omega),?_⟩
  generalize U:upd H4 lt _=H5
  have S5:=S4.putE U
  clear U
  obtain ⟨dx5,ob5⟩:=S5.get r
  obtain ⟨_,ln5,dt5,SA5⟩:=S5.get st
  obtain ⟨dxs5,obs5⟩:=SA5.ob
  refine ⟨_,rfl,r,CR,dx5,_,_,rfl,ob5,G.cl,G.nc,rf_c,.inl ⟨rfl,_,SqL.of (S5.get lc)⟩,_,rfl,r,CR,dx5,_,_,rfl,ob5,G.cl,G.nk,Zcr,st,dxs5,_,rfl,obs5,ZT ln5 dt5 (by decide +kernel) (by decide +kernel),st,B,J,rfl,S5.get st,_,rfl,_,_,rfl,rfl,lc,_,_,rfl,rfl,S5.get lc,Xa (show _<=20000 by rw [length_cons,length_map];omega),?_⟩
  generalize U:upd H5 lc _=H6
  have S6:=S5.putE U
  clear U
  obtain ⟨dx6,ob6⟩:=S6.get r
  refine ⟨_,rfl,r,CR,dx6,_,_,rfl,ob6,G.cl,G.na,ZaX,Z,_,rfl,.inl (SqL.of (S6.get Z)),_,_,rfl,rfl,?_⟩
  have hle:=W.len
  have ec:V.int ((B.length:Int) - (nds.length:Int))=V.int ((B.length - nds.length:Nat):Int):=congrArg V.int (by omega)
  have S7:=(((((((S6.drop sa).pull Pl).pull lc).pull lt).pull ls).pull Z).pull st).pull r
  have S8:Sep ((r,Xs CR (UL st Z ls lt lc))::(st,WX K CS B J)::(Z,ZX (V.non::(pls++[(⟨k,s,t2,B.length - nds.length⟩:Yp)]).map fun q=>V.int (q.ah:Int)))::(ls,UV ((pls++[(⟨k,s,t2,B.length - nds.length⟩:Yp)]).map (·.st)))::(lt,ZX (V.int 0::(pls++[(⟨k,s,t2,B.length - nds.length⟩:Yp)]).map fun q=>V.int (q.tb:Int)))::(lc,ZX (V.int 0::(pls++[(⟨k,s,t2,B.length - nds.length⟩:Yp)]).map fun q=>V.int (q.co:Int)))::(Pl,Xf)::Δ) H6:=by
   rw [map_append,map_append,map_append,map_append]
   show Sep (_::_::_::_::_::(lc,ZX (V.int 0::(pls.map (fun q=>V.int (q.co:Int))++[V.int ((B.length - nds.length:Nat):Int)])))::_) _
   rw [<- ec]
   exact S7
  have e9:(((V.non::pls.map fun q=>V.int (q.ah:Int))++[V.int (k:Int)]).length:Int) - 1=((pls.length+1:Nat):Int):=by rw [length_append,length_cons,length_map];show ((pls.length+1+1:Nat):Int) - 1=_;omega
  have:=q H6 B J t2 S8.roaC I2 W len2 tl2
  rw [<- e9] at this
  exact this
end
section
variable {P:Qi}{w:Qu}{K:Qa}{mg:Str->Option Qb}{base:Heap}{CR CS Pl:Addr}
def GoP (K:Qa)(CR CS Pl:Addr)(NS:List Str)(r:Addr)(pls:List Yp)(nds:List Nd)(tabs:List (Zo×V))(k:Nat)(s:Stp)(Δ:Rs)(H:Hp)(Q:VK):Prop :=
 Yr NS/\Sep ((r,Vs K CR CS pls nds tabs)::(Pl,Xf)::Δ) H/\RInv NS pls nds tabs/\s.ok NS/\k<=pls.length/\pls.length<=10000/\nds.length<=90000/\tabs.length<=90000 /\
 ∀ (H':Hp) (nds':List Nd) (tabs':List (Zo×V)) (t':Nat),Sep ((r,Vs K CR CS (pls++[⟨k,s,t',nds'.length - nds.length⟩]) nds' tabs')::(Pl,Xf)::Δ) H'->RInv NS (pls++[⟨k,s,t',nds'.length - nds.length⟩]) nds' tabs'->nds'.length<=nds.length+6->tabs'.length<=tabs.length+1->Q (.int ((pls.length+1:Nat):Int)) H'
inductive Zet (K:Qa)(CR CS Pl:Addr)(vs:List V)(H:Hp)(Q:VK)(w_3:XK):Prop
 | mk (NS:List Str) (r:Addr) (pls:List Yp) (nds:List Nd) (tabs:List (Zo×V)) (k:Nat) (x:Str) (v:V) (Δ:Rs):vs=[.ref r,.int (k:Int),.str x,v]->GoP K CR CS Pl NS r pls nds tabs k (.set x v) Δ H Q->Zet K CR CS Pl vs H Q w_3
abbrev nRPu:List Str:=["self","place","name","value"]
abbrev Zgz:List Str:=["self","place","name","value"]
theorem ZoU:Zp nRPu Zgz (Zk c_Roads_put):={}
theorem Zlp {f:Addr}{fd:Qn}(F:Fun K "put" "Roads.put" c_Roads_put f fd)(T:Yi mg)(TR:Wp K CR)(B:DefM P w K mg base 10 CR "go_on" Zgw (Zkg K CR CS Pl)):FnOk P w K mg base ZF 11 f fd Zgz (Zet K CR CS Pl):=by
 refine F.ok ZoU (fun Z A outer s H vs Q E hr h=>?_)
 obtain ⟨NS,r,pls,nds,J,k,x,v,Δ,rfl,N,S,I,hs,hk,h1,h2,U,q⟩:=h
 obtain ⟨st,la,ls,lt,lc,SR⟩:=S.get r
 obtain ⟨dx,W⟩:=SR.get r
 refine' ⟨?t,?h,?r⟩
 case h =>
  conv=>arg 2;whnf
  with_reducible refine' (Zi ?h1)
  case h1=>exact Zq (ZU B TR.cl hr (pv 0) (Zc (pv 1) (Zc (YE (Zc ZR (Zc (pv 2) (Zc (pv 3) Za)))) Za)))
 try dsimp only [ZN,Cx.nox]
 refine ⟨_,rfl,r,dx,_,rfl,W,Wi (by decide +kernel),_,rfl,_,rfl,_,rfl,(by show 3<=Qj;decide),fun t ht=>?_⟩
 exact ⟨NS,r,t,pls,nds,J,k,.set x v,Δ,rfl,N,(S.new ht _).drop t,Zf,I,hs,hk,h1,h2,U,fun H' nds' G t' S' I' _ l1 l2=>q H' nds' G t' S' I' l1 l2⟩
inductive Zcy (K:Qa)(CR CS:Addr)(vs:List V)(H:Hp)(Q:VK)(w_3:XK):Prop
 | mk (r dx:Addr) (H0:Hp) (Δ:Rs):vs=[.ref r]->H=upd (upd H0 dx (.own r)) r (.ins CR dx [])->H0 r=none->H0 dx=none->dx≠r->Sep Δ H0->(∀ H',Sep ((r,Vs K CR CS [] [.bare] [(QQ 0,.bl true)])::Δ) H'->Q .non H')->Zcy K CR CS vs H Q w_3
abbrev nRIn:List Str:=["self"]
abbrev ZkD:List Str:=["self"]
theorem ZoR:Zp nRIn ZkD (Zk c_Roads___init__):={}
theorem ZjD {f:Addr}{fd:Qn}(F:Fun K "__init__" "Roads.__init__" c_Roads___init__ f fd)(T:Yi mg)(I:Wp K CR)(TC:Xp K CS)(J:Zcb P w K mg base 1 CS "Store" ["self"] (Zas K CS))(G:DefM P w K mg base 2 CS "empty" ["self"] (Zcw K CS)):FnOk P w K mg base ZF 3 f fd ZkD (Zcy K CR CS):=by
 refine F.ok ZoR (fun cdv A outer s H vs Q E hr h=>?_)
 obtain ⟨r,dx,H0,Δ,rfl,rfl,h1,h2,h3,S0,q⟩:=h
 have S:=((S0.new h2 (.own r)).new (p:=r) (by rw [Zg h3.symm];exact h1) (.ins CR dx [])).drop dx
 generalize upd (upd H0 dx (.own r)) r (.ins CR dx [])=H at *
 refine' ⟨?t,?h,?r⟩
 case h =>
  conv=>arg 2;whnf
  with_reducible refine' (Zd ?h1 (Zd ?h2 (Zd ?h3 (Zd ?h4 (Zi ?h5)))))
  case h1=>exact YZ (pv 0) (Zdo J hr) rfl
  case h2=>exact YZ (pv 0) (Yc (Zc WG Za)) rfl
  case h3=>exact YZ (pv 0) (Yc (Zc WG Za)) rfl
  case h4=>exact YZ (pv 0) (Yc (Zc (We G TC.cl hr (ZC (pv 0) rfl)) Za)) rfl
  case h5=>exact YZ (pv 0) (Yc (Zc Zh Za)) rfl
 try dsimp only [ZN,Cx.nox]
 refine zs5 ?_
 intro zD zS zN4 zN3 zN2 zN1
 intro st dx2 Z U hne
 refine ⟨st,dx2,_,_,rfl,rfl,Z,U,hne,S,fun H1 _ S1=>⟨rfl,?_⟩⟩
 refine ⟨_,rfl,r,CR,dx,_,rfl,S1.get r,I.cl,I.nk,(by show 0 < 1000;decide),?_⟩
 generalize B:upd H1 r _=H2
 have S2:=S1.putE B
 clear B
 refine ⟨(by show 1<=Qj;decide),fun la hla=>?_⟩
 generalize B:upd H2 la _=H3
 have S3:=S2.newE hla B
 clear B
 refine ⟨_,rfl,r,CR,dx,_,rfl,S3.get r,I.cl,I.na,(by show 1 < 1000;decide),?_⟩
 generalize B:upd H3 r _=H4
 have S4:=S3.putE B
 clear B
 refine ⟨(by show 1<=Qj;decide),fun W hls=>?_⟩
 generalize B:upd H4 W _=H5
 have S5:=S4.newE hls B
 clear B
 refine ⟨_,rfl,r,CR,dx,_,rfl,S5.get r,I.cl,I.ns,(by show 2 < 1000;decide),?_⟩
 generalize B:upd H5 r _=H6
 have S6:=S5.putE B
 clear B
 obtain ⟨b0,ln,dt,SA⟩:=S6.get st
 obtain ⟨dxs,obs⟩:=SA.ob
 refine ⟨_,rfl,r,CR,dx,_,_,rfl,S6.get r,I.cl,I.nk,rfl,st,dxs,_,rfl,obs,ZT ln dt (by decide +kernel) (by decide +kernel),_,rfl,(by show 1<=Qj;decide),fun lt hlt=>?_⟩
 generalize B:upd H6 lt _=H7
 have S7:=S6.newE hlt B
 clear B
 refine ⟨_,rfl,r,CR,dx,_,rfl,S7.get r,I.cl,I.nt,(by show 3 < 1000;decide),?_⟩
 generalize B:upd H7 r _=H8
 have S8:=S7.putE B
 clear B
 refine ⟨(by show 1<=Qj;decide),fun lc hlc=>?_⟩
 generalize B:upd H8 lc _=H9
 have S9:=S8.newE hlc B
 clear B
 refine ⟨_,rfl,r,CR,dx,_,rfl,S9.get r,I.cl,I.nc,(by show 4 < 1000;decide),?_⟩
 generalize B:upd H9 r _=H10
 have S10:=S9.putE B
 clear B
 have S11:=S10.say W (UV []) fun h z=>⟨[],z,rfl,fun i a s e=>by simp at e⟩
 have S12:=S11.say r (Xs CR (UL st la W lt lc)) fun h z=>⟨dx,z⟩
 have S13:=(((((S12.pull lc).pull lt).pull W).pull la).pull st).pull r
 exact q _ (Sep.roaC (pls:=[]) S13)
end
end K35
namespace L2
open PySem PySem.Spec PyProof.Rows
abbrev vMro:List Value:=[.type "ValueError",.type "Exception",.type "BaseException",.type "object"]
inductive VT:List Qb->Prop
 | base:VT vMro
 | own {a:Addr} {r:List Qb}:VT r->VT (.ref a::r)
def ZgY:List Qb->Bool
 | .ref _::r=>ZgY r
 | l=>decide (l=vMro)
theorem VT.of:∀{l:List Qb},ZgY l=true->VT l
 | [],h=>nomatch (of_decide_eq_true h:([]:List Qb)=vMro)
 | v::r,h=>by cases v<;>first | exact .own (VT.of h) | (have e:=of_decide_eq_true h;rw [e];exact .base)
theorem VT.has {l:List Qb}(T:VT l){x:String}{b:Bool}(hb:vMro.contains (.type x)=b):l.contains (.type x)=b:=by
 induction T with
 | base=>exact hb
 | own _ ih=>rw [contains_cons,ih];rfl
theorem VT.refuse {l:List Qb}(T:VT l)(B:Qb):refuseLoop B "__setattr__" l=pure ():=by
 induction T with
 | base=>exact JF.passes B
 | own _ ih=>rw [refuseLoop_ref];exact ih
def ZeF (K:Qa)(C:Addr):Bool:=match K.lookup C with
 | some ⟨.type "type",_,.cls cd,sl⟩=>(match cd.mro,sl.toList with
  | .ref C'::bm,[_,_,_,_,some (.builtin n),_]=>C' == C&&!cd.hasDel&&cd.hasDict&&n == "ValueError.__new__"&&ZgY bm
  | _,_=>false)
 | _=>false
theorem Zaw {K:Qa}{h:Heap}{C:Addr}(X:K.In h)(q:ZeF K C=true):∃ nm J N bs bm sn sub ab col dd k0 k1 k2 k3 k5,
 h.get? C=some (GS nm J C N bs bm true sn sub ab col dd k0 k1 k2 k3 k5 "ValueError.__new__")/\VT bm:=by
 unfold ZeF at q
 split at q
 ·rename_i dd Z U ho
  split at q
  ·rename_i C' bm k0 k1 k2 k3 n k5 S W
   simp only [QJ,beq_iff_eq,GR] at q
   obtain ⟨⟨⟨⟨rfl,B⟩,G⟩,rfl⟩,ht⟩:=q
   obtain ⟨nm,bs,mro,ns,J,hd,sn,sub,ab,col,del⟩:=Z
   dsimp only at S B G
   subst S B G
   have I:U=#[k0,k1,k2,k3,some (.builtin "ValueError.__new__"),k5]:=by
    obtain ⟨l⟩:=U
    simp only at W
    rw [W]
   subst I
   exact ⟨nm,J,ns,bs,bm,sn,sub,ab,col,dd,k0,k1,k2,k3,k5,X _ _ ho,.of ht⟩
  ·cases q
 ·cases q
section
variable {prog:Qi}{w:Qu}{A:Qz}{E:Qb->Qd->Prop}{h:Heap}{g:Array Og}{d:Drawn}{t:Nat}{os:OsState}
variable {nm q:Str}{C N:Addr}{bs bm:List Qb}{sn:List Str}{sub:List Qb}{ab:Bool}{col:Option Bool}{dd:Option Addr}{k0 k1 k2 k3 k5:Option Qb}
theorem ZeO {M:RB}(T:VT bm){rest:List Qb}{Q:Unit->Qd->Prop}(G:h.get? C=some (GS nm q C N bs bm true sn sub ab col dd k0 k1 k2 k3 k5 "ValueError.__new__"))
 (J:Q () ⟨h,g,d,t,os⟩):Qq M A (Gr "ValueError.__new__" ⟨.ref C::rest,[]⟩) Q E ⟨h,g,d,t,os⟩:=by
 have F:=GJ
 have B:(Qm C::bm).contains (.type "ValueError")=true:=by rw [contains_cons,T.has F.hasB,Sr]
 have I:=F.noStar
 simp only [Gr,F.newKind,F.newSplit,F.newRow]
 repeat (first | refine QG G ?_ | (refine Gk G ?_;rw [B]) | refine wpAny_staticBase_exc G ?_ | refine OY G ?_ | simp only [bne_self_eq_false,Gq,if_false] | wp_step)
 exact J
theorem Zpr {R:SQ->Qd->Prop}(T:VT bm){rest:List Qb}(U:h.get? C=some (GS nm q C N bs bm true sn sub ab col dd k0 k1 k2 k3 k5 "ValueError.__new__"))
 (Z:R (.ok (.ret (.ref (h.objs.size+1)))) ⟨(h.push { cls:=.type "tuple",data:=.seq rest.toArray }).push
  {cls:=.ref C,data:=.fields #[.ref h.objs.size,.none,.none,.none,.bool false,.none] },g,d,t,os⟩) (J:rest.length<=Qj) :
 Jw (Qt prog w) A (.builtin "ValueError.__new__" ⟨.ref C::rest,[]⟩) R ⟨h,g,d,t,os⟩:=by
 have F:=GJ
 have I:=F.ends
 have W:(Qm C::bm).contains (.type "ValueError")=true:=by rw [contains_cons,T.has F.hasB,Sr]
 have B:(Qm C::bm).contains (.type "AttributeError")=false:=by rw [contains_cons,T.has F.noAttr];rfl
 have S:(Qm C::bm).contains (.type "NameError")=false:=by rw [contains_cons,T.has F.noName];rfl
 refine codeAny_builtinAt F.entry ?_
 unfold Jq.«BaseException.__new__»
 refine Nr ?_
 show PySem.wpAt _ _ _ (stack >>= _) _ _ _
 refine Nr (PySem.wpAt_stack fun p G=>Rz ?_)
 wp_walk
 refine Rz ?_
 rw [F.owner]
 repeat (first | with_reducible refine wpAny_madeHere_exc F.canon U ?_ | with_reducible refine QG U ?_ | (with_reducible refine Gk U ?_;first | rw [W] | rw [B] | rw [S]) | wp_step)
 show R _ _
 rw [Jv]
 exact Z
theorem ZeQ (T:VT bm){rest:List Qb}{fI:Addr}{oI:Obj}{Q:Fin->Qd->Prop}
   (S:h.get? C=some (GS nm q C N bs bm true sn sub ab col dd k0 k1 k2 k3 k5 "ValueError.__new__")) (LI:GE (Qt prog w) h (QX (.ref C) "__init__") (some (.ref fI)))
   (Z:h.get? fI=some oI) (W:oI.cls=.type "function")
   (hq:∀ h' e,Heap.MadeExcOf h h' e (.ref C) rest->h.objs.size<=e ->
     Qq (Qt prog w) A (call (.ref fI) (.ref e::rest)) (fun r s'=>r=.none/\Q (.done (.ret (.ref e))) s') E ⟨h',g,d,t,os⟩) (I:rest.length<=Qj) :
   Qq (Qt prog w) A (Jq.«type.__call__» ⟨.ref C::rest,[]⟩) Q E ⟨h,g,d,t,os⟩:=by
 have F:=GJ
 repeat (first | with_reducible refine QG S ?_ | with_reducible refine OY S ?_ | wp_step)
 refine codeAny_call_builtin_code (JH _ F.quiet) (ZeO T S ?_)
 refine Zpr T S ?_ I
 show Qq _ _ _ _ _ _
 have J:=Qe { cls:=.ref C,data:=.fields #[.ref h.objs.size,.none,.none,.none,.bool false,.none] }
   (Qe { cls:=.type "tuple",data:=.seq rest.toArray } S)
 have B:=Qe { cls:=.ref C,data:=.fields #[.ref h.objs.size,.none,.none,.none,.bool false,.none] }
   (Qe { cls:=.type "tuple",data:=.seq rest.toArray } Z)
 have G:((h.push { cls:=.type "tuple",data:=.seq rest.toArray }).push
     { cls:=.ref C,data:=.fields #[.ref h.objs.size,.none,.none,.none,.bool false,.none] }).get? (h.objs.size+1)=some
     { cls:=.ref C,data:=.fields #[.ref h.objs.size,.none,.none,.none,.bool false,.none] }:=by heap_get
 have U:(Qm C::bm).contains (.ref C)=true:=by simp
 unfold isInstance
 repeat (first | with_reducible refine QG G ?_ | (with_reducible refine Gk J ?_;rw [U]) | wp_step)
 show Qq _ _ (QX (.ref C) _) _ _ _
 refine (LI.keeps (h':=(h.push { cls:=.type "tuple",data:=.seq rest.toArray }).push { cls:=.ref C,data:=.fields #[.ref h.objs.size,.none,.none,.none,.bool false,.none] }) fun b o e=>Qe _ (Qe _ e)) _ _ _ _ (fun _ _ e=>e) ?_
 refine Gf (Qf ?_)
 unfold bindSpecial
 refine Qf (OC (T:="function") ⟨_,B,W⟩ ?_)
 rw [if_pos (by decide)]
 refine Qx (Qf (QP (hq _ (h.objs.size+1) ⟨fun b o hb=>Qe _ (Qe _ hb),Jt (Jc _),h.objs.size,G,Jt (Qg _),?_⟩ (Jc _)) (fun r s' hr=>?_) fun _ _ x=>x))
 · exact Qe _ (OH rfl rfl)
 · obtain ⟨rfl,hQ⟩:=hr
   wp_walk
   exact hQ
theorem Zob (T:VT bm){rest:List Qb}{S:Addr}{W:Obj}{Q:Qb->Qd->Prop}
 (G:h.get? C=some (GS nm q C N bs bm true sn sub ab col dd k0 k1 k2 k3 k5 "ValueError.__new__")) (LI:GE (Qt prog w) h (QX (.ref C) "__init__") (some (.ref S)))
 (J:h.get? S=some W) (I:W.cls=.type "function")
 (Z:∀ h' e,Heap.MadeExcOf h h' e (.ref C) rest->h.objs.size<=e ->
  Qq (Qt prog w) (A.under (.builtin "type.__call__" ⟨.ref C::rest,[]⟩)) (call (.ref S) (.ref e::rest)) (fun r s'=>r=.none/\Q (.ref e) s') E ⟨h',g,d,t,os⟩) (B:rest.length<=Qj) :
 Qq (Qt prog w) A (call (.ref C) rest) Q E ⟨h,g,d,t,os⟩:=by
 have f1:=tc_lookup
 have f2:=tc_bind (.ref C)
 have hT:(⟨h,g,d,t,os⟩:Qd).TypeIs (.ref C) "type":=⟨_,G,rfl⟩
 refine Jg (No ?_)
 show Qq _ _ (callAny (.ref C) _) _ _ _
 repeat (any_goals (first | assumption | with_reducible refine QG G ?_ | wp_step))
 refine ⟨rfl,?_⟩
 refine codeAny_call_builtin_at (JH _ (by decide +kernel)) entry_typeCall (wpAny_check_type_call_sub G (ZeQ T G LI J I (fun h' e hm U=>?_) B))
 exact Z h' e hm U
theorem Zmg {M:RB}{env:Env}{s:Qd}{x:Sem Qb}{Q:Flow->Qd->Prop}(T:VT bm)(hh:A.handled=none)
 (h:Qq M A x (fun v B=>∃ e J vs,v=.ref e/\B.heap.get? C=some (GS nm q C N bs bm true sn sub ab col dd k0 k1 k2 k3 k5 "ValueError.__new__") /\
  B.heap.get? e=some J/\J.cls=.ref C/\J.data=.fields vs/\vs[1]?=some .none/\E (.ref e) B) E s) :
 Qq M A (raiseStmt env (some x) none) Q E s:=by
 have S:(Qm C::bm).contains (.type "BaseException")=true:=by rw [contains_cons,T.has GJ.hasBase,Sr]
 unfold raiseStmt
 refine Qf (QP h (fun v B G=>?_) fun _ _ x=>x)
 obtain ⟨e,J,vs,rfl,Z,W,I,U,h1,hE⟩:=G
 obtain ⟨oc,odi,oda,osl⟩:=J
 dsimp only at I U
 subst I U
 obtain ⟨hp,g,d,tk,os⟩:=B
 repeat (first | with_reducible refine QG W ?_ | with_reducible refine QG Z ?_ | (with_reducible refine Gk Z ?_;rw [S]) | with_reducible refine TD W rfl h1 ?_ | wp_step)
 exact wpAny_raiseNew_none hh hE
end
section
variable {prog:Qi}{w:Qu}{A:Qz}{E:Qb->Qd->Prop}{h:Heap}{g:Array Og}{d:Drawn}{t:Nat}{os:OsState}
variable {nm q:Str}{C N x:Addr}{bs bm:List Qb}{sn:List Str}{sub:List Qb}{ab:Bool}{col:Option Bool}{dd:Option Addr}{k0 k1 k2 k3 k5:Option Qb}{name:Str}{v:Qb}{o:Obj}
theorem Zha {M:RB}{B:Qb}{Q:Unit->Qd->Prop}(T:VT bm)
 (S:h.get? C=some (GS nm q C N bs bm true sn sub ab col dd k0 k1 k2 k3 k5 "ValueError.__new__")) (W:h.get? x=some o) (J:o.cls=.ref C) (U:Q () ⟨h,g,d,t,os⟩) :
 Qq M A (Gr "object.__setattr__" ⟨[.ref x,B,v],[]⟩) Q E ⟨h,g,d,t,os⟩:=by
 have G:=JF
 have I:(Qm C::bm).contains (.type "object")=true:=by rw [contains_cons,T.has G.hasOwner,Sr]
 have Z:=G.args (.ref x) B v
 simp only [Gr,G.kind,G.split]
 refine Qf ?_
 ·unfold isInstance
  repeat (first | (with_reducible refine QG W ?_;rw [J]) | (with_reducible refine Gk S ?_;rw [I]) | wp_step)
  exact U
theorem Zmh {Q:Unit->Qd->Prop}(T:VT bm)(hC:h.get? C=some (GS nm q C N bs bm true sn sub ab col dd k0 k1 k2 k3 k5 "ValueError.__new__"))
   (LS:GE (Qt prog w) h (QX (.ref C) "__setattr__") (some (.builtin "object.__setattr__"))) (LN:GE (Qt prog w) h (QX (.ref C) name) none)
   (J:h.get? x=some o) (hc:o.cls=.ref C) (hdn:o.dict=none) (hnc:∀ c,o.data≠.cls c)
   (hq:∀ h' Z,h'.get? x=some { o with dict:=some h.objs.size }->h'.Ns1 h.objs.size (fun y=>if y=name then some v else none)->(∀ b ob,b≠x->h.get? b=some ob->h'.get? b=some ob)->Q () ⟨h',g,d,Z,os⟩) :
   Qq (Qt prog w) A (setAttr (.ref x) name v) Q E ⟨h,g,d,t,os⟩:=by
 have SF:=JF
 have f3:=SF.slot.bind (.ref x)
 unfold setAttr callSpecial? specialOf
 have LS':∀ {tk:Nat} {A:Qz} {Q:Option Qb->Qd->Prop} {E:Qb->Qd->Prop},Q (some (.builtin "object.__setattr__")) ⟨h,g,d,tk,os⟩->Qq (Qt prog w) A (QX (.ref C) "__setattr__") Q E ⟨h,g,d,tk,os⟩:=fun q=>LS _ _ _ _ (fun _ _ e=>e) q
 have LN':∀ {tk:Nat} {A:Qz} {Q:Option Qb->Qd->Prop} {E:Qb->Qd->Prop},Q none ⟨h,g,d,tk,os⟩->Qq (Qt prog w) A (QX (.ref C) name) Q E ⟨h,g,d,tk,os⟩:=fun q=>LN _ _ _ _ (fun _ _ e=>e) q
 repeat (any_goals (first | assumption | (with_reducible refine QG J ?_;rw [hc]) | (with_reducible refine LS' ?_) | wp_step))
 refine GQ SF.slot.plain SF.entry (Zha T hC J hc ?_)
 have I:=T.refuse (.ref x)
 unfold Jq.«object.__setattr__»
 repeat (first | rw [refuse_eq] | (rw [refuseLoop_ref,I]) | (with_reducible refine QG J ?_;rw [hc]) | with_reducible refine wpAny_mroOf_exc hC ?_ | (with_reducible refine LN' ?_) | wp_step)
 rw [hdn,if_neg (by simp [typeHasDict])]
 split
 · rename_i G
   cases G
 split
 · rename_i c G
   exact absurd G (hnc c)
 · have B:(h.push { cls:=.type "dict",data:=.dict #[] }).get? x=some o:=Qe _ J
   have U:x≠h.objs.size:=Qy (Qh J)
   refine Qf (wpAny_alloc' ?_)
   refine Qf (wpAny_update' B ?_)
   refine Qx ?_
   have hgd:((h.push { cls:=.type "dict",data:=.dict #[] }).update x fun o=>{ cls:=o.cls,dict:=some h.objs.size,data:=o.data,slots:=o.slots }).get? h.objs.size
       = some { cls:=.type "dict",data:=.dict #[] } :=
     (PL _ _ _ _ U.symm).trans (OH rfl rfl)
   have hnd:((h.push { cls:=.type "dict",data:=.dict #[] }).update x fun o=>{ cls:=o.cls,dict:=some h.objs.size,data:=o.data,slots:=o.slots }).Ns h.objs.size (fun _=>none) :=
     ⟨_,#[],_,hgd,rfl,fun e he=>absurd he (by simp),fun _=>rfl⟩
   show Qq _ _ (Ph h.objs.size (.str name _) name v) _ _ _
   unfold Ph OZ
   refine Qf (Qx (Qf (wpAny_nsSet1 (Ol hnd) fun h' S hs=>?_)))
   obtain ⟨oD,esD,epD,hoD,hdD,hcD⟩:=S.count (Within.cons name v Within.nil)
   refine Qf (OL hoD (by rw [hdD];exact OM (Qr hcD (by rw [length_cons,Pz,QV];omega))) ?_)
   wp_walk
   have hx':h'.get? x=some { cls:=o.cls,dict:=some h.objs.size,data:=o.data,slots:=o.slots }:=by
     refine (hs.2 x U).trans (Jo _ B ?_)
     have hfr:=(Heap.get?_some_iff.mp J).2
     obtain ⟨oc,od,odt,osl⟩:=o
     cases odt<;>first | rfl | exact hfr
   repeat (any_goals (first | assumption | wp_step))
   exact hq h' _ hx' S fun b ob W hb=>(hs.2 b (Qy (Qh hb))).trans ((PL _ _ _ _ W).trans (Qe _ hb))
end
def TbAt (base:Heap)(n:Nat)(H:Hp)(h:Heap)(ea:Addr)(vs:Array Qb):Option Qb->Prop
 | none=>vs[1]?=some .none
 | some fl=>∃ T oT ts,vs[1]?=some (.ref T)/\T≠ea/\base.get? T=none/\H T=none/\n<=T/\h.get? T=some oT/\oT.data=.fields ts/\ts[3]?=some fl
def ExcAt (base:Heap)(n:Nat)(H:Hp)(ea C dx:Addr)(fl:Option Qb)(h:Heap):Prop :=
 base.get? ea=none/\H ea=none/\n<=ea/\∃ oe vs,h.get? ea=some oe/\oe.cls=.ref C/\oe.dict=some dx/\oe.data=.fields vs/\TbAt base n H h ea vs fl
def Keep (fs:List Addr)(n:Nat)(H:Hp)(h h':Heap):Prop :=
 (∀ b o,h.get? b=some o->b∈fs->∃ sl,h'.get? b=some { o with slots:=sl })/\(∀ b o,h.get? b=some o->b ∉ fs->(H b≠none\/b < n)->h'.get? b=some o) /\
 (∀ b m,h.Ns b m->h'.Ns b m)/\(∀ b v,h.IsCell b v->h'.IsCell b v)/\h.objs.size<=h'.objs.size
theorem Keep.trans {fs:List Addr}{n:Nat}{H:Hp}{h h1 h2:Heap}(a:Keep fs n H h h1)(b:Keep fs n H h1 h2):Keep fs n H h h2:=by
 refine ⟨fun c o e m=>?_,fun c o e m k=>b.2.1 c o (a.2.1 c o e m k) m k,fun c m x=>b.2.2.1 c m (a.2.2.1 c m x),fun c v x=>b.2.2.2.1 c v (a.2.2.2.1 c v x),Qr a.2.2.2.2 b.2.2.2.2⟩
 obtain ⟨I,e1⟩:=a.1 c o e m
 obtain ⟨B,G⟩:=b.1 c _ e1 m
 exact ⟨B,G⟩
theorem Zgq {h h':Heap}(k:∀ b o,h.get? b=some o->(∀ vs,o.data≠.fields vs)->∃ G,h'.get? b=some { o with slots:=G }){b:Addr}{m:Str->Option Qb}(x:h.Ns b m):h'.Ns b m:=by
 obtain ⟨o,es,ep,J,B,r⟩:=x
 obtain ⟨G,I⟩:=k b o J fun vs q=>by rw [B] at q;cases q
 exact ⟨_,es,ep,I,B,r⟩
theorem Zci {h h':Heap}(k:∀ b o,h.get? b=some o->(∀ vs,o.data≠.fields vs)->∃ B,h'.get? b=some { o with slots:=B }){b:Addr}{v:Option Qb}(x:h.IsCell b v):h'.IsCell b v:=by
 obtain ⟨o,J,G⟩:=x
 obtain ⟨B,I⟩:=k b o J fun vs q=>by rw [G] at q;cases q
 exact ⟨_,I,G⟩
section
variable {M:RB}{A:Qz}{E:Qb->Qd->Prop}{s:Qd}{base:Heap}{n:Nat}{H:Hp}{env:Env}{outer:List Env}{L ea C dx:Addr}
theorem ZbB {oe:Obj}{vs:Array Qb}{I:Qb}{hadNext:Bool}{Q:Unit->Qd->Prop}
   (hfr:A.frames=some (env::outer)) (hl:s.heap.FunFrames base (env::outer)) (hf:env.frame=some L)
   (he:s.heap.get? ea=some oe) (hkb:base.StaysIn s.heap) (hen:base.get? ea=none) (hHe:H ea=none) (hne:n<=ea) (hcl:oe.cls=.ref C) (hdi:oe.dict=some dx) (hd:oe.data=.fields vs) (hsz:1 < vs.size) (hH:∀ b,s.heap.objs.size<=b->H b=none)
   (h:∀ h',base.StaysIn h'->h'.FunFrames base (env::outer)->ExcAt base n H ea C dx (some (Gb L)) h'->Keep (Yx (env::outer)) n H s.heap h'->Q () { s with heap:=h' }) :
   Qq M A (do let a <- frameOf env;let pl <- entryPlaceOf L hadNext;let b <- RA I a .none (Gb L) .none pl;setField (.ref ea) 1 b) Q E s:=by
 have hene:ea ∉ (env::outer).filterMap (·.frame):=fun hm=>by
   obtain ⟨_,o,ho,J⟩:=hl.mem hm
   rw [he] at ho;injection ho with ho;subst ho;exact J vs hd
 refine Qf (wpAny_frameOf_fun hfr hl hf fun B G=>?_)
 refine Qf (wpAny_entryPlaceOf fun pl hpl=>?_)
 unfold RA newFields
 refine Qf (Tv ?_ (hpl.sizeOk5 _ _ _ _ _))
 have S:B.get? ea=some oe:=(G.2.1 ea hene).trans he
 have kb₁:base.StaysIn B:=fun b o U=>(G.2.1 b fun hm=>by rw [(hl.mem hm).1] at U;cases U).trans (hkb b o U)
 have he₂:=Qe (h:=B) { cls:=.type "traceback",dict:=none,data:=.fields ([I,.ref L,.none,Gb L,.none]++(if pl.isEmpty then GX 6 QW else pl)).toArray } S
 refine Rk he₂ hd hsz ?_
 have hTe:B.objs.size≠ea:=Jd (Qh S)
 have Z:=Tn hd (·.setIfInBounds 1 (Qm B.objs.size))
 have he₃:=Jo (Gd (·.setIfInBounds 1 (Qm B.objs.size))) he₂ (SL Z)
 have hT₃:=(Gi (B.push { cls:=.type "traceback",dict:=none,data:=.fields ([I,.ref L,.none,Gb L,.none]++(if pl.isEmpty then GX 6 QW else pl)).toArray })
   (Gd (·.setIfInBounds 1 (Qm B.objs.size))) (Gg hTe)).trans (Qo B rfl)
 have keep:∀ b o,b≠ea->B.get? b=some o ->
     ((B.push { cls:=.type "traceback",dict:=none,data:=.fields ([I,.ref L,.none,Gb L,.none]++(if pl.isEmpty then GX 6 QW else pl)).toArray }).update ea (Gd (·.setIfInBounds 1 (Qm B.objs.size)))).get? b=some o :=
   fun b o hbe hb=>by
     rw [Gi _ _ (Gg hbe)]
     exact Qe _ hb
 have W:∀ b o,s.heap.get? b=some o->(∀ vs,o.data≠.fields vs)->b≠ea:=fun b o hb J q=>by
   rw [q,he] at hb;injection hb with hb;subst hb;exact J vs hd
 have up:∀ b o,s.heap.get? b=some o->(∀ vs,o.data≠.fields vs)->∃ sl,((B.push { cls:=.type "traceback",dict:=none,data:=.fields ([I,.ref L,.none,Gb L,.none]++(if pl.isEmpty then GX 6 QW else pl)).toArray }).update ea (Gd (·.setIfInBounds 1 (Qm B.objs.size)))).get? b=some { o with slots:=sl }:=fun b o hb J=>by
   obtain ⟨sl,hs⟩:=G.2.2 b o hb
   exact ⟨sl,keep b _ (W b o hb J) hs⟩
 have hmap:∀ {o:Obj} {f:Array Qb->Array Qb},(o.mapFields f).dict=o.dict:=fun {o f}=>by unfold Gd;split<;>rfl
 refine h _ (fun b o U=>keep b o (fun q=>by rw [q,hen] at U;cases U) (kb₁ b o U)) (hl.of_keeps fun b o hb J=>let ⟨sl,e⟩:=up b o hb J;⟨_,e,rfl⟩) ?_ ?_
 · refine ⟨hen,hHe,hne,_,_,he₃,(Obj.cls_mapFields _ _).trans hcl,hmap.trans hdi,Z,B.objs.size,_,_,by simp [hsz],hTe,kb₁.fresh,hH _ (by rw [G.1];exact Qg _),?_,hT₃,rfl,by first | (simp;done) | (rcases hpl with rfl | ⟨_,_,_,_,_,_,_,rfl⟩<;>simp)⟩
   exact Qr hne (Gu (Qh S))
 · refine ⟨fun b o hb hm=>?_,fun b o hb hm k=>?_,fun b m x=>Zgq up x,fun b v x=>Zci up x,?_⟩
   · obtain ⟨sl,hs⟩:=G.2.2 b o hb
     exact ⟨sl,keep b _ (fun q=>hene (by rw [<- q];exact hm)) hs⟩
   · refine keep b o (fun q=>?_) ((G.2.1 b hm).trans hb)
     rcases k with k | k
     · exact k (by rw [q];exact hHe)
     · rw [q] at k;exact absurd k (QS.mpr hne)
   · rw [JX,Jv,G.1];exact Jc _
theorem Zfp {fl:Option Qb}{Q:Unit->Qd->Prop}(hfl:fl=none\/fl=some .none)
 (hfr:A.frames=some (env::outer)) (hl:s.heap.FunFrames base (env::outer)) (hf:env.frame=some L) (hkb:base.StaysIn s.heap) (x:ExcAt base n H ea C dx fl s.heap) (hH:∀ b,s.heap.objs.size<=b->H b=none)
 (h:∀ h',base.StaysIn h'->h'.FunFrames base (env::outer)->ExcAt base n H ea C dx (some (Gb L)) h'->Keep (Yx (env::outer)) n H s.heap h'->Q () { s with heap:=h' }) :
 Qq M A (noteFrame (.ref ea) env) Q E s:=by
 obtain ⟨W,hHe,hne,oe,vs,he,U,hdi,hd,tb⟩:=x
 unfold noteFrame
 simp only [hf]
 rcases hfl with rfl | rfl
 ·have h1:vs[1]?=some .none:=tb
  refine Qf (TD he hd h1 ?_)
  rw [if_neg (by decide)]
  exact ZbB hfr hl hf he hkb W hHe hne U hdi hd (QZ.mp h1).1 hH h
 ·obtain ⟨T,oT,ts,h1,hTe,hnT,hHT,Z,hT,J,h3⟩:=tb
  refine Qf (TD he hd h1 ?_)
  rw [if_pos (show (Qm T != QW)=true from by simp)]
  refine Qf (TD hT J h3 ?_)
  rw [if_neg (show ¬ ((QW == Gb L)=true) from by simp [Gb])]
  refine Qf (Rk hT J (QZ.mp h3).1 ?_)
  have B:∀ b,b≠T->(s.heap.update T (Gd (·.setIfInBounds 3 QW))).get? b=s.heap.get? b:=fun b hb=>Gi _ _ (Gg hb)
  have G:∀ b o,s.heap.get? b=some o->(∀ vs,o.data≠.fields vs)->b≠T:=fun b o hb I q=>by
   rw [q,hT] at hb;injection hb with hb;subst hb;exact I ts J
  have up:∀ b o,s.heap.get? b=some o->(∀ vs,o.data≠.fields vs)->∃ sl,(s.heap.update T (Gd (·.setIfInBounds 3 QW))).get? b=some { o with slots:=sl }:=fun b o hb I=>⟨o.slots,(B b (G b o hb I)).trans hb⟩
  have hsz:(s.heap.update T (Gd (·.setIfInBounds 3 QW))).objs.size=s.heap.objs.size:=JX ..
  have kp:Keep (Yx (env::outer)) n H s.heap (s.heap.update T (Gd (·.setIfInBounds 3 QW))):=by
   refine ⟨fun b o hb hm=>⟨o.slots,(B b fun q=>?_).trans hb⟩,fun b o hb hm k=>(B b fun q=>?_).trans hb,fun b m x=>Zgq up x,fun b v x=>Zci up x,Je hsz.symm⟩
   ·obtain ⟨_,o',ho',I⟩:=hl.mem hm
    rw [q,hT] at ho';cases ho';exact I ts J
   ·rcases k with k | k
    ·exact k (by rw [q];exact hHT)
    ·rw [q] at k;exact absurd k (QS.mpr Z)
  exact ZbB (s:={ s with heap:=s.heap.update T (Gd (·.setIfInBounds 3 QW)) }) hfr (hl.of_keeps fun b o hb I=>⟨o,(B b (G b o hb I)).trans hb,rfl⟩) hf ((B ea (Gg hTe)).trans he)
   (fun b o S=>(B b fun q=>by rw [q,hnT] at S;cases S).trans (hkb b o S)) W hHe hne U hdi hd (QZ.mp h1).1 (fun b hb=>hH b (by rw [<- hsz];exact hb))
   fun h' x1 x2 x3 x4=>h h' x1 x2 x3 (kp.trans x4)
theorem Zaa {l:List Env}{fl:Qb}{Q:Unit->Qd->Prop}(hkb:base.StaysIn s.heap)(hl:s.heap.FunFrames base l)(x:ExcAt base n H ea C dx (some fl) s.heap)
 (h:∀ h',base.StaysIn h'->h'.FunFrames base l->ExcAt base n H ea C dx (some .none) h'->(∀ fs,(∀ b∈fs,∃ o,s.heap.get? b=some o/\∀ vs,o.data≠.fields vs)->Keep fs n H s.heap h')->Q () { s with heap:=h' }) :
 Qq M A (setFlight (.ref ea) none) Q E s:=by
 obtain ⟨hen,hHe,hne,oe,vs,he,hcl,hdi,hd,T,oT,ts,h1,hTe,hnT,Z,S,hT,J,h3⟩:=x
 have U:3 < ts.size:=(QZ.mp h3).1
 have B:∀ b,b≠T->(s.heap.update T (Gd (·.setIfInBounds 3 ((none:Option Addr).elim QW fun f=>Gb f)))).get? b=s.heap.get? b :=
  fun b hb=>Gi _ _ (Gg hb)
 have G:∀ b o,s.heap.get? b=some o->(∀ vs,o.data≠.fields vs)->b≠T:=fun b o hb I q=>by
  rw [q,hT] at hb;injection hb with hb;subst hb;exact I ts J
 have up:∀ b o,s.heap.get? b=some o->(∀ vs,o.data≠.fields vs)->∃ sl,(s.heap.update T (Gd (·.setIfInBounds 3 ((none:Option Addr).elim QW fun f=>Gb f)))).get? b=some { o with slots:=sl }:=fun b o hb I=>⟨o.slots,(B b (G b o hb I)).trans hb⟩
 unfold setFlight
 refine Qf (TD he hd h1 ?_)
 rw [if_pos (show (Qm T != QW)=true from by simp)]
 refine Rk hT J U (h _ (fun b o W=>(B b fun q=>by rw [q,hnT] at W;cases W).trans (hkb b o W))
  (hl.of_keeps fun b o hb I=>⟨o,(B b (G b o hb I)).trans hb,rfl⟩) ?_ fun fs hfs=>?_)
 ·exact ⟨hen,hHe,hne,oe,vs,(B ea (Gg hTe)).trans he,hcl,hdi,hd,T,_,_,h1,hTe,hnT,Z,S,Jo _ hT (SL (Tn J _)),Tn J _,by simp [U]⟩
 ·refine ⟨fun b o hb hm=>⟨o.slots,(B b fun q=>?_).trans hb⟩,fun b o hb hm k=>(B b fun q=>?_).trans hb,fun b m x=>Zgq up x,fun b v x=>Zci up x,Je (JX ..).symm⟩
  ·obtain ⟨o',ho',I⟩:=hfs b hm
   rw [q,hT] at ho';cases ho';exact I ts J
  ·rcases k with k | k
   ·exact k (by rw [q];exact Z)
   ·rw [q] at k;exact absurd k (QS.mpr S)
theorem ZdX {S:Option Qb}{Q:Unit->Qd->Prop}(I:S=none\/S=some .none)
 (J:A.frames=some (env::outer)) (W:s.heap.FunFrames base (env::outer)) (hf:env.frame=some L) (G:base.StaysIn s.heap) (x:ExcAt base n H ea C dx S s.heap) (hH:∀ b,s.heap.objs.size<=b->H b=none)
 (h:∀ h',base.StaysIn h'->h'.FunFrames base outer->ExcAt base n H ea C dx (some .none) h'->Keep (Yx (env::outer)) n H s.heap h'->Q () { s with heap:=h' }) :
 Qq M A (leaving env (.ref ea)) Q E s:=by
 unfold leaving
 refine Qf (Zfp I J W hf G x hH fun h1 b1 U Z k1=>?_)
 refine Zaa b1 U Z fun h2 b2 f2 x2 k2=>h h2 b2 f2.2.2 x2 (k1.trans (k2 _ fun b hb=>?_))
 obtain ⟨_,o,ho,B⟩:=U.mem hb
 exact ⟨o,ho,B⟩
end
theorem Keep.hok {P:Qi}{w:Qu}{fs:List Addr}{n:Nat}{H:Hp}{h h':Heap}(x:HOk P w H h)(G:∀ b∈fs,H b=none)(k:Keep fs n H h h'):HOk P w H h':=fun a o e=>by
 have B:∀ b,b=a\/H b=some (.own a)->H b≠none:=fun b hb z=>by
  rcases hb with rfl | hb
  ·rw [e] at z;cases z
  ·rw [hb] at z;cases z
 exact (x a o e).stay (fun b u hb q=>k.2.1 b u q (fun m=>B b hb (G b m)) (.inl (B b hb))) (fun _ q=>q) (fun _ _ q=>q)
theorem ExcAt.le {base:Heap}{n G:Nat}{H:Hp}{ea C dx:Addr}{B:Option Qb}{h:Heap}(x:ExcAt base G H ea C dx B h)(l:n<=G):ExcAt base n H ea C dx B h:=by
 obtain ⟨a,b,c,oe,vs,e1,U,W,J,tb⟩:=x
 refine ⟨a,b,Qr l c,oe,vs,e1,U,W,J,?_⟩
 cases B with
 | none=>exact tb
 | some f=>obtain ⟨T,S,ts,t1,Z,I,t4,t5,t6⟩:=tb;exact ⟨T,S,ts,t1,Z,I,t4,Qr l t5,t6⟩
section
variable {X:Cx}{pins:List (Addr×Obj)}{σ:St}{H H1 H2:Hp}{s s1 s2:Qd}{h':Heap}
def Zhb (n:Nat)(H:Hp)(h:Heap):List Addr:=(Pc h.objs.size).filter fun b=>(H b).isNone&&decide (n<=b)
theorem Inv.flown {t':Nat}(J:Inv X pins σ H1 s1)(S:Inv X pins σ H2 s2)(k:Keep (Yx X.stack) s1.heap.objs.size H2 s2.heap h'):Inv X pins σ H2 { s2 with heap:=h',toks:=t' }:=by
 have Z:∀ b,b∈Zhb s1.heap.objs.size H2 s2.heap->s1.heap.objs.size<=b:=fun b hb=>by
  have:=(mem_filter.mp hb).2
  simp only [QJ,decide_eq_true_eq] at this
  exact this.2
 have I:∀ b o,s2.heap.get? b=some o->b ∉ Zhb s1.heap.objs.size H2 s2.heap->H2 b≠none\/b < s1.heap.objs.size:=fun b o e hb=>by
  by_cases z:H2 b=none
  ·refine .inr (Nat.lt_of_not_le fun l=>hb (mem_filter.mpr ⟨Nv.mpr (Qh e),?_⟩))
   rw [z];simp [l]
  ·exact .inl z
 refine S.call (g':=s2.gens) (d':=s2.drawn) (ch:=Zhb s1.heap.objs.size H2 s2.heap) ⟨fun b o e U W G=>k.2.1 b o e W (I b o e G),fun b o e U W G=>k.1 b o e W,fun b o e U G=>U,fun b o e G=>?_,fun _ _ e=>e,fun _ _ _ e=>e,fun _ ps e=>⟨#[],by rw [e];simp⟩⟩ (k.hok S.hok S.stkFree) S.bare fun b hb=>?_
 ·by_cases m:b∈Yx X.stack
  ·obtain ⟨sl,q⟩:=k.1 b o e m;exact ⟨_,q⟩
  ·exact ⟨o,k.2.1 b o e m (I b o e G)⟩
 ·have B:=Z b hb
  refine ⟨.inr (Qr J.sz B),fun z=>?_,fun x c hx z=>?_,fun p hp z=>?_⟩
  ·have:=J.lt;rw [<- z] at this;exact absurd this (QS.mpr B)
  ·obtain ⟨v,o,e,_⟩:=J.cell x c hx
   have:=Qh e;rw [z] at this;exact absurd this (QS.mpr B)
  ·have:=Qh (J.pin p hp).1;rw [z] at this;exact absurd this (QS.mpr B)
structure Cx.Old (X:Cx)(a:Addr):Prop where
 t:∀ xs,X.H₀ a≠some (.tup xs)
 f:∀ o u,X.H₀ a≠some (.frz o u)
 b:∀ ps,X.H₀ a≠some (.tbl ps)
theorem Inv.old {a:Addr}(I:Inv X pins σ H s)(h:H a=none):X.Old a where
 t:=fun xs e=>(by have:=I.base.tups a xs e;rw [h] at this;cases this)
 f:=fun o u e=>(by have:=I.base.frzs a o u e;rw [h] at this;cases this)
 b:=fun ps e=>(by obtain ⟨m,q⟩:=I.base.tbls a ps e;rw [h] at q;cases q)
theorem Cx.Old.nt {a b:Addr}(O:X.Old a){xs:List V}(e:X.H₀ b=some (.tup xs)):b≠a:=fun z=>O.t xs (by rw [<- z];exact e)
theorem Cx.Old.nf {a b:Addr}(O:X.Old a){o:Obj}{u:HO}(e:X.H₀ b=some (.frz o u)):b≠a:=fun z=>O.f o u (by rw [<- z];exact e)
theorem Cx.Old.nb {a b:Addr}(O:X.Old a){ps:Array Qb}(e:X.H₀ b=some (.tbl ps)):b≠a:=fun z=>O.b ps (by rw [<- z];exact e)
theorem Inv.track {a:Addr}{o:HO}(I:Inv X pins σ H s)(B:H a=none)(h0:X.s₀.heap.objs.size<=a)(S:a≠X.env.locals)(Z:∀ x c,X.env.cells.lookup x=some c->c≠a)(hp:∀ p∈X.pn++pins,p.1≠a)
 (new:ObjOk X.prog X.w (upd H a o) s.heap a o):Inv X pins σ (upd H a o) s:=by
 have old:∀ b u,X.s₀.heap.get? b=some u->b≠a:=fun b u e z=>by
  have:=Qh e;rw [z] at this;exact absurd this (QS.mpr h0)
 refine ⟨I.ok,I.os,I.bare,⟨I.base.keep,I.base.slot,fun b u e n J=>?_,I.base.there,fun b xs e=>?_,fun b u xs e=>?_,fun b ps e=>?_⟩,I.loc,I.cell,?_,fun x c J=>?_,fun p G=>?_,fun b u e=>?_,I.len⟩
 ·rw [Zg (old b u e)];exact I.base.free b u e n J
 ·rw [Zg ((I.old B).nt e)];exact I.base.tups b xs e
 ·rw [Zg ((I.old B).nf e)];exact I.base.frzs b u xs e
 ·rw [Zg ((I.old B).nb e)];exact I.base.tbls b ps e
 ·rw [Zg (Gg S)];exact I.free
 ·rw [Zg (Z x c J)];exact I.freeC x c J
 ·obtain ⟨e1,U,W⟩:=I.pin p G
  exact ⟨e1,by rw [Zg (hp p G)];exact U,W⟩
 ·by_cases z:b=a
  ·subst z;rw [Zf] at e;cases e;exact new
  ·rw [Zg z] at e
   exact (I.hok b u e).stay (fun _ _ _ q=>q) (fun c q=>by rw [Zg (Zr q B)];exact q) (fun c xs q=>by rw [Zg (Zr q B)];exact q)
end
def XH (P:Qi)(w:Qu)(base:Heap):Uk:=fun outer H s E e s'=>∃(ea C dx:Addr)(H':Hp),e=.ref ea/\base.StaysIn s'.heap/\s'.heap.FunFrames base outer/\ExcAt base s.heap.objs.size H' ea C dx (some .none) s'.heap/\s'.os=s.os/\PN s'.gens /\
 Un (Yx outer) [] H H' s.heap s'.heap/\HOk P w H' s'.heap/\E (.ref C) (some dx) H'
section
variable {P:Qi}{w:Qu}{K:Qa}{mg:Str->Option Qb}{base:Heap}{k:Nat}{f:Addr}{fd:Qn}{ps:List Str}{sp sp':Sp}{CX:Uk}
def YR (X:Cx)(EE:St->XK):Prop:=∀(pins:List (Addr×Obj))(σ:St)(H1 H2:Hp)(s1 s2:Qd)(ea C dx:Addr)(fl:Option Qb),Inv X pins σ H1 s1->Inv X pins σ H2 s2->(fl=none\/fl=some .none)->ExcAt X.base s1.heap.objs.size H2 ea C dx fl s2.heap->EE σ (.ref C) (some dx) H2->X.xe (.ref ea) s2
theorem ZiU {N:List Str}{qual:Str}{scope:Scope}{S:Qb}{A:Qz}{outer:List Env}{s:Qd}{H:Hp}{E:XK}:YR (ZN (XH P w base) P w K mg base N qual scope f S A outer s H E) (fun _=>E):=by
 intro pins σ H1 H2 s1 s2 ea C dx fl I1 B hfl x q
 have hsz:s.heap.objs.size<=s1.heap.objs.size:=I1.sz
 have G:HOk P w H2 s2.heap:=B.hok
 refine ZdX (base:=base) (n:=s.heap.objs.size) (H:=H2) (outer:=outer) (L:=s.heap.objs.size) hfl B.ok.frames B.stack rfl B.bk (x.le hsz) (fun b hb=>G.fresh hb) fun h' b1 f1 x1 k1=>?_
 have un:Un (Yx outer) [] H H2 s.heap s2.heap:=B.base
 have nL:∀ b o,s.heap.get? b=some o->b ∉ Yx outer->b ∉ Yx (Pe qual scope s.heap.objs.size f S::outer):=fun b o e I m=>by
  rcases mem_filterMap.mp m with ⟨v,hv,U⟩
  rcases mem_cons.mp hv with rfl | hv
  ·cases (show some s.heap.objs.size=some b from U);exact absurd (Qh e) (GC _)
  ·exact I (mem_filterMap.mpr ⟨v,hv,U⟩)
 have inL:∀ b,b∈Yx outer->b∈Yx (Pe qual scope s.heap.objs.size f S::outer):=fun b m=>by
  obtain ⟨v,hv,U⟩:=mem_filterMap.mp m
  exact mem_filterMap.mpr ⟨v,mem_cons_of_mem _ hv,U⟩
 refine ⟨ea,C,dx,H2,rfl,b1,f1,x1,B.os,B.bare,⟨fun b o e W I J=>k1.2.1 b o (un.keep b o e W I J) (nL b o e I) (.inr (Qh e)),fun b o e W I J=>?_,un.free,fun b o e J=>?_,un.tups,un.frzs,un.tbls⟩,k1.hok G B.stkFree,q⟩
 ·obtain ⟨sl,e1⟩:=un.slot b o e W I J
  obtain ⟨sl2,Z⟩:=k1.1 b _ e1 (inL b I)
  exact ⟨sl2,Z⟩
 ·obtain ⟨o',e1⟩:=un.there b o e J
  by_cases m:b∈Yx (Pe qual scope s.heap.objs.size f S::outer)
  ·obtain ⟨sl,Z⟩:=k1.1 b o' e1 m;exact ⟨_,Z⟩
  ·exact ⟨o',k1.2.1 b o' e1 m (.inr (Qh e))⟩
end
abbrev Cx.tryc (X:Cx)(pn:List (Addr×Obj))(Z:Qb->Qd->Prop):Cx:={ X with pn:=pn,xe:=Z }
abbrev Cx.marked (X:Cx)(ea:Addr)(Z:Qb->Qd->Prop):Cx:={ X with A:=X.A.mark (some (.ref ea)),calm:=false,xe:=Z }
def XO (ea C dx:Addr):HO:=.ext fun h=>∃ oe vs,h.get? ea=some oe/\oe.cls=.ref C/\oe.dict=some dx/\oe.data=.fields vs
section
variable {X:Cx}{pins:List (Addr×Obj)}{σ:St}{H:Hp}{s:Qd}
theorem Inv.tryc (I:Inv X pins σ H s)(Z:Qb->Qd->Prop):Inv (X.tryc (X.pn++pins) Z) [] σ H s :=
 ⟨⟨I.ok.mod,I.ok.kind,I.ok.glob,I.ok.blt,I.ok.above,I.ok.inj,I.ok.has,I.ok.cab,I.ok.hd,I.ok.frames,I.ok.stk,I.ok.exf,I.ok.bs,I.ok.bsz,I.ok.noex,I.ok.exfs,I.ok.funs,I.ok.frf⟩,I.os,I.bare,I.base,I.loc,I.cell,I.free,I.freeC,fun p hp=>I.pin p (by rw [append_nil] at hp;exact hp),I.hok,I.len⟩
theorem Inv.untryc {B:List (Addr×Obj)}{Z:Qb->Qd->Prop}(I:Inv (X.tryc (X.pn++pins) Z) B σ H s):Inv X pins σ H s :=
 ⟨⟨I.ok.mod,I.ok.kind,I.ok.glob,I.ok.blt,I.ok.above,I.ok.inj,I.ok.has,I.ok.cab,I.ok.hd,I.ok.frames,I.ok.stk,I.ok.exf,I.ok.bs,I.ok.bsz,I.ok.noex,I.ok.exfs,I.ok.funs,I.ok.frf⟩,I.os,I.bare,I.base,I.loc,I.cell,I.free,I.freeC,fun p hp=>I.pin p (Pj _ hp),I.hok,I.len⟩
theorem Inv.mark (I:Inv X pins σ H s)(ea:Addr)(Z:Qb->Qd->Prop):Inv (X.marked ea Z) pins σ H s :=
 ⟨⟨I.ok.mod,I.ok.kind,I.ok.glob,I.ok.blt,I.ok.above,I.ok.inj,I.ok.has,I.ok.cab,(fun z=>by cases z),I.ok.frames,I.ok.stk,I.ok.exf,I.ok.bs,I.ok.bsz,I.ok.noex,I.ok.exfs,I.ok.funs,I.ok.frf⟩,I.os,I.bare,I.base,I.loc,I.cell,I.free,I.freeC,I.pin,I.hok,I.len⟩
theorem Inv.unmark {ea:Addr}{Z:Qb->Qd->Prop}(I:Inv (X.marked ea Z) pins σ H s)(B:X.calm=true->X.A.handled=none):Inv X pins σ H s :=
 ⟨⟨I.ok.mod,I.ok.kind,I.ok.glob,I.ok.blt,I.ok.above,I.ok.inj,I.ok.has,I.ok.cab,B,I.ok.frames,I.ok.stk,I.ok.exf,I.ok.bs,I.ok.bsz,I.ok.noex,I.ok.exfs,I.ok.funs,I.ok.frf⟩,I.os,I.bare,I.base,I.loc,I.cell,I.free,I.freeC,I.pin,I.hok,I.len⟩
theorem Zla {M:RB}{A:Qz}{E:Qb->Qd->Prop}{i:Nat}{x:Str}{pos:Pos}{Q:Unit->Qd->Prop}(I:Inv X pins σ H s)(hN:X.N.Nodup)(hi:X.N[i]?=some x)(hk:X.env.kindOf x=some .local)
 (h:∀ s',Inv X pins (σ.set i none) H s'->Q () s'):Qq M A (do Tl X.env x .none;Rl X.env x pos) Q E s:=by
 obtain ⟨m,Z,hl⟩:=id I.loc
 have S:(X.env.scope.kind == .class || (X.env.scope.kind == .module&&X.env.locals != X.env.globals))=false:=by rw [I.ok.kind];rfl
 have cne:=I.cne
 refine wpAny_nameGoes_keeps hk Z S fun h' v W B=>?_
 obtain ⟨oL,_,_,hoL,_⟩:=id Z
 refine h _ ⟨I.ok,I.os,I.bare,⟨fun b o e n hb J=>?_,fun b o e n hb J=>?_,I.base.free,fun b o e J=>?_,I.base.tups,I.base.frzs,I.base.tbls⟩,⟨_,W,fun j y v' e1 G e3=>?_⟩,fun y c e=>?_,I.free,I.freeC,fun p hp=>?_,fun b ob e=>?_,by simpa using I.len⟩
 ·exact (B.2 b (Qy (QB (Qh e) I.ok.above))).trans (I.base.keep b o e n hb J)
 ·obtain ⟨sl,e1⟩:=I.base.slot b o e n hb J
  exact ⟨sl,(B.2 b (Qy (QB (Qh e) I.ok.above))).trans e1⟩
 ·obtain ⟨o',e1⟩:=I.base.there b o e J
  exact ⟨o',(B.2 b (Qy (QB (Qh e) I.ok.above))).trans e1⟩
 ·by_cases U:j=i
  ·subst U
   rw [Tz] at G
   split at G
   ·split at G<;>cases G
   ·rename_i z;exact absurd rfl z
  ·rw [Pk (Gg U)] at G
   obtain ⟨u',r',q⟩:=hl j y v' e1 G e3
   refine ⟨u',r',?_⟩
   rcases q with ⟨k,e⟩ | ⟨k,c,e,z⟩
   ·refine .inl ⟨k,?_⟩
    have:y≠x:=fun e=>U (ZaU hN e1 (e ▸ hi))
    simp [this,e]
   ·exact .inr ⟨k,c,e,z.sameBut B (cne y c e)⟩
 ·obtain ⟨w',z⟩:=I.cell y c e
  exact ⟨w',z.sameBut B (cne y c e)⟩
 ·obtain ⟨e,n,ne,nf,d⟩:=I.pin p hp
  exact ⟨(B.2 p.1 ne).trans e,n,ne,nf,d⟩
 ·refine (I.hok b ob e).stay (fun c w' hc q=>(B.2 c ?_).trans q) (fun _ q=>q) fun _ _ q=>q
  rintro rfl
  rcases hc with rfl | hc
  ·rw [I.free] at e;cases e
  ·rw [I.free] at hc;cases hc
end
def ZnO (K:Qa)(C0:Addr)(i:Nat)(tb:(St->XK)->TS)(th:TS):TS:=fun D σ H =>
 tb (fun σ' Cv dO H'=>∃ C dx,Cv=.ref C/\dO=some dx/\PySem.W.exmOne K (.ref C) (.ref C0)=some true/\∀ ea,H' ea=none ->
  th { nx:=fun σ2 H2=>D.nx (σ2.set i none) H2,rt:=D.rt,bk:=fun σ2 H2=>D.bk (σ2.set i none) H2,ct:=fun σ2 H2=>D.ct (σ2.set i none) H2 } (σ'.set i (some (.ref ea))) (upd H' ea (XO ea C dx))) D σ H
section
variable {X:Cx}{body suite:List Stmt}{b0:Stmt}{C0:Addr}{x0 n:Str}{i:Nat}{tb:(St->XK)->TS}{th:TS}{p0 hp pos:Pos}
theorem ZjW (hcalm:X.calm=true)(S:X.stack=X.env::X.outer)(hfr:X.env.frame=some X.env.locals)(hN:X.N.Nodup)(hi:X.N[i]?=some n)(hk:X.env.kindOf n=some .local)(hg:Gl X x0)(hm:X.mg x0=some (.ref C0))(hdb:(x0 == ("__debug__":Str))=false)
 (hb:∀ pn Z EE,YR (X.tryc pn Z) EE->PSs (X.tryc pn Z) body (tb EE)) (hh:∀ ea Z,PSs (X.marked ea Z) (b0::suite) th) :
 PS X (.Try body [.ExceptHandler (some (.Name x0 p0)) (some n) (b0::suite) hp] [] [] pos) (ZnO X.K C0 i tb th):=by
 intro pins s σ H D I h
 rw [arm_exec_Try]
 refine Qf (GD (wpAny_tryStmt_except ?_))
 refine QP (hb (X.pn++pins) _ _ ?W [] s σ H D (I.tryc _) h) (fun f s1 U=>?_) (fun e s1 z=>z)
 case W =>
  intro pins' σ1 H1 H2 s1 s2 ea C dx fl I1 I2 hfl x q
  have J1:=I1.untryc
  have J2:=I2.untryc
  obtain ⟨C',dx',e1,e2,hex,hq⟩:=q
  cases e1
  cases e2
  have fr:X.A.frames=some (X.env::X.outer):=by rw [<- S];exact J2.ok.frames
  have ff:s2.heap.FunFrames X.base (X.env::X.outer):=by rw [<- S];exact J2.stack
  have off:∀ {h:Heap},h.FunFrames X.base (X.env::X.outer)->∀ b∈Yx (X.env::X.outer),∃ o,h.get? b=some o/\∀ vs,o.data≠.fields vs:=fun f b hb=>(f.mem hb).2
  refine Zfp (base:=X.base) (n:=s1.heap.objs.size) (H:=H2) hfl fr ff hfr J2.bk x (fun b hb=>J2.hok.fresh hb) fun h3 b3 f3 x3 k3=>?_
  refine Zaa b3 f3 x3 fun h4 b4 f4 x4 k4=>?_
  have k34:=k3.trans (k4 _ (off f3))
  have J4:Inv X pins σ1 H2 { s2 with heap:=h4 }:=J1.flown (t':=s2.toks) J2 (by rw [S];exact k34)
  refine wpAny_handleBy_cons (codeAny_handlers_test ?_) (by intro q;cases q)
  refine Wt (X:=X.marked ea X.xe) (J4.mark ea X.xe) hg hm ?_ hdb
  have LT:GE (Qt X.prog X.w) h4 (typeOf (.ref ea)) (.ref C):=by
   obtain ⟨_,_,_,oe,vs,he,hc,_⟩:=x4
   rw [<- hc];exact (Na he).andThen .now
  refine (PySem.W.exm_one (h:=h4) J4.kIn LT hex) _ _ _ _ (fun _ _ e=>e) ?_
  refine codeAny_handlers_suite_as ?_
  refine Zaa b4 f4 x4 fun h5 b5 f5 x5 k5=>?_
  have k45:=k34.trans (k5 _ (off f4))
  have J5:Inv X pins σ1 H2 { s2 with heap:=h5 }:=J1.flown (t':=s2.toks) J2 (by rw [S];exact k45)
  obtain ⟨hen,hHe,hne,oe,vs,he,hc,hdi,hd,_⟩:=id x5
  have lt1:∀ b,b < s1.heap.objs.size->b≠ea:=fun b hb z=>by rw [z] at hb;exact absurd hb (QS.mpr hne)
  have J6:Inv X pins σ1 (upd H2 ea (XO ea C dx)) { s2 with heap:=h5 }:=by
   refine J5.track hHe (Qr J1.sz hne) (fun z=>lt1 _ J1.lt z.symm) (fun y c hy=>?_) (fun p hp=>lt1 _ (Qh (J1.pin p hp).1)) ?_
   ·obtain ⟨v,o,e,_⟩:=J1.cell y c hy
    exact lt1 _ (Qh e)
   ·exact ⟨⟨oe,vs,he,hc,hdi,hd⟩,⟨oe,he⟩,fun h1 h2 ⟨oe,vs,e,r⟩ k=>⟨oe,vs,k _ e,r⟩⟩
  refine XR (X:=X) J6 hN hi (.inl hk) (v:=.ref ea) rfl (fun s6 J8=>?_) (.inr hk)
  refine QP (hh ea _ pins s6 _ _ _ (J8.mark ea _) (hq ea hHe)) (fun f s7 U=>?_) (fun _ _ z=>z)
  have G:∀ {Z:Qb->Qd->Prop} {B:St} {H':Hp} {Q:Unit->Qd->Prop},Inv (X.marked ea Z) pins B H' s7->(∀ s',Inv X pins (B.set i none) H' s'->Q () s')->Qq (Qt X.prog X.w) X.A (do Tl X.env n .none;Rl X.env n hp) Q X.xe s7:=fun J q=>Zla (J.unmark J1.ok.hd) hN hi hk q
  cases f with
  | next=>obtain ⟨B,H',J,q⟩:=U;exact G J fun s' J'=>⟨_,H',J',q⟩
  | brk=>obtain ⟨B,H',J,q⟩:=U;exact G J fun s' J'=>⟨_,H',J',q⟩
  | cont=>obtain ⟨B,H',J,q⟩:=U;exact G J fun s' J'=>⟨_,H',J',q⟩
  | ret u=>obtain ⟨v,B,H',J,r,q⟩:=U;exact G J fun s' J'=>⟨v,_,H',J',r,q⟩
 ·cases f with
  | next=>obtain ⟨B,H',J,q⟩:=U;exact Qx ⟨B,H',J.untryc,q⟩
  | brk=>obtain ⟨B,H',J,q⟩:=U;exact ⟨B,H',J.untryc,q⟩
  | cont=>obtain ⟨B,H',J,q⟩:=U;exact ⟨B,H',J.untryc,q⟩
  | ret u=>obtain ⟨v,B,H',J,r,q⟩:=U;exact ⟨v,B,H',J.untryc,r,q⟩
end
def DefMX (P:Qi)(w:Qu)(K:Qa)(mg:Str->Option Qb)(base:Heap)(k:Nat)(C:Addr)(m:Str)(ps:List Str)(sp:Sp):Prop:=∃ f fd,FnOk P w K mg base (XH P w base) k f fd ps sp/\Binds K fd ps []/\Vy K C m f
section
variable {P:Qi}{w:Qu}{K:Qa}{mg:Str->Option Qb}{base:Heap}{j k:Nat}{C:Addr}{x m:Str}{ps:List Str}{sp:Sp}
theorem DefMX.mono (D:DefMX P w K mg base j C m ps sp)(h:j<=k):DefMX P w K mg base k C m ps sp:=let ⟨f,fd,F,b,q⟩:=D;⟨f,fd,F.mono h,b,q⟩
end
inductive Zew (C:Addr)(m:Str)(sp:Sp)(EE:St->XK)(t:TA)(σ:St)(Q:VK)(x:V)(H1:Hp):Prop
 | mk (a dx fs:_):x=.ref a->H1 a=some (.ins C dx fs)->fs.lookup m=none->(t σ H1 fun vs H2=>sp (x::vs) H2 Q (EE σ))->Zew C m sp EE t σ Q x H1
def ZnL (C:Addr)(m:Str)(sp:Sp)(EE:St->XK)(ta:TE)(t:TA):TE:=fun σ H Q=>ta σ H fun x H1=>Zew C m sp EE t σ Q x H1
section
variable {X:Cx}{EE:St->XK}{k:Nat}{f C:Addr}{fd:Qn}{ps:List Str}{sp:Sp}{x m:Str}{p pos apos:Pos}{e o:Expr}{es:List Expr}{ta:TE}{t:TA}
theorem ZlQ {pins:List (Addr×Obj)}{σ:St}{H:Hp}{s:Qd}{Q:VK}{us:List Qb}{vs:List V}(W:YR X EE)(F:FnOk X.prog X.w X.K X.mg X.base (XH X.prog X.w X.base) k f fd ps sp)(J:Room k X.A)(hb:Binds X.K fd ps [])
 (I:Inv X pins σ H s) (r:Vals vs us) (h:sp vs H Q (EE σ)):Qq (Qt X.prog X.w) X.A (call (.ref f) us) (EP X pins σ Q) X.xe s:=by
 have U:(us++[]).length=ps.length:=by rw [append_nil,<- r.length];exact F.len _ _ _ _ h
 have B:=hb s us I.kIn U
 rw [append_nil] at B
 refine Jg (Ge (F.run X.A X.stack s H ⟨us,[]⟩ us vs Q (EE σ) J I.env0 B r h) fun r s' G=>?_)
 cases r with
 | error e =>
  obtain ⟨ea,C,dx,H',rfl,kb,Z,x,os,S,un,hok,q⟩:=G
  exact W pins σ H H' s s' ea C dx _ I (I.call' os un hok S fun b z=>absurd z (by simp)) (.inr rfl) x q
 | ok fl =>
  cases fl with
  | ret u=>exact I.after G
  | next=>exact QF G
  | brk=>exact QF G
  | cont=>exact QF G
theorem Us {pl:Sem Bool}(W:YR X EE)(D:DefMX X.prog X.w X.K X.mg X.base k C m ps sp)(c:Cls X.K C)(hr:Room k X.A)(he:PE X o ta)(ha:PA X (e::es) t)
 (B:QA (e::es) X.env=(false,eval e X.env)::QA es X.env:=by rfl) (J:(GG pos (QA es X.env)).any (·.1)=false:=by rfl)
 (ht:eval (.Call (.Attribute o m apos) (e::es) [] pos) X.env=(do
  let U <- eval o X.env
  Tr apos.atName
  let (f,first) <- JM [U] (Tb U m pl)
  TW pos f first (GG pos (QA (e::es) X.env)) (JQ pos (GO [] X.env))):=by rfl) :
 PE X (.Call (.Attribute o m apos) (e::es) [] pos) (ZnL C m sp EE ta t):=by
 obtain ⟨f,fd,F,b,Z⟩:=D
 intro pins s σ H Q I h
 refine JZ (pl:=pl) (Zt (he pins s σ H _ I h) fun u s1 G=>?_) ht
 obtain ⟨x,H1,S,rx,a,dx,fs,ex,ea,l,q⟩:=G
 subst ex
 obtain rfl:u=Qm a:=rx
 refine Vc S ea c Z l ?_
 refine Jh (h₀:=X.base) (first:=[.ref a]) S.ok.mod.kin Z.kp (Zt (ha pos pins s1 σ H1 _ S q) fun us s2 G=>?_) B J
 obtain ⟨vs,H2,I2,r,q2⟩:=G
 refine ⟨I2.kIn,?_⟩
 exact ZlQ (us:=.ref a::us) (vs:=.ref a::vs) W F hr b I2 (.cons rfl r) q2
end
theorem Fun.okX {P:Qi}{w:Qu}{K:Qa}{mg:Str->Option Qb}{base:Heap}{x qual:Str}{st:Stmt}{f:Addr}{fd:Qn}{N ps:List Str}{k:Nat}{sp:Sp}(F:Fun K x qual st f fd)(S:Zp N ps (Zk st)) 
 (G:∀ (B:Qb) (A:Qz) (outer:List Env) (s:Qd) (H:Hp) (vs:List V) (Q:VK) (E:XK),Room k (A.deeper (Pe qual (Zk st) s.heap.objs.size f B))->sp vs H Q E ->
  YR (ZN (XH P w base) P w K mg base N qual (Zk st) f B A outer s H E) (fun _=>E) ->
  ∃ t,PSs (ZN (XH P w base) P w K mg base N qual (Zk st) f B A outer s H E) (Xx st) t/\t { nx:=fun _ H'=>Q .non H',rt:=Q } (start N vs) H) (len:∀ vs H Q E,sp vs H Q E->vs.length=ps.length:=by intro _ _ _ _ h;first | (cases h;subst_vars;rfl) | (repeat (first | exact congrArg JI h.1 | (obtain ⟨_,h⟩:=h)))):FnOk P w K mg base (XH P w base) (k+1) f fd ps sp:=by
 obtain ⟨oc,od,kV,Z,pm,an,B,ct,W,rfl,lk,J⟩:=F.ex
 exact Zgh lk J S len fun A outer s H vs Q E U I=>G B A outer s H vs Q E U I ZiU
def XN (ea C:Addr):HO:=.ext fun h=>∃ t:Addr,h.get? ea=some { cls:=.ref C,data:=.fields #[.ref t,.none,.none,.none,.bool false,.none] }
def XW (ea C dx:Addr):HO:=.ext fun h=>∃ t:Addr,h.get? ea=some { cls:=.ref C,dict:=some dx,data:=.fields #[.ref t,.none,.none,.none,.bool false,.none] }
structure XF (K:Qa)(C fI:Addr):Prop where
 xc:ZeF K C=true
 init:Qv K (.ref C) "__init__"=some (some (.ref fI))
 sa:Qv K (.ref C) "__setattr__"=some (some (.builtin "object.__setattr__"))
 nw:Qv K (.ref C) "what"=some none
 fn:Sl K (.ref fI)=true
 kp:GH K (.ref C)=true
inductive ZfD (K:Qa)(D:Yl)(σ:St)(y x:V)(H2:Hp):Prop
 | mk (ea C fI:_):x=.ref ea->H2 ea=some (XN ea C)->XF K C fI->(∀ dx,H2 dx=none->dx≠ea->D.nx σ (upd (upd H2 dx (.xd [("what",y)])) ea (XW ea C dx)))->ZfD K D σ y x H2
def ZoE (K:Qa)(ta tv:TE):TS:=fun D σ H=>tv σ H fun y H1=>ta σ H1 fun x H2=>ZfD K D σ y x H2
section
variable {X:Cx}{o value:Expr}{pos pos':Pos}{ta tv:TE}
theorem ZlI (ha:PE X o ta)(hv:PE X value tv)(hs:Ta value (some (.Attribute o "what" pos')) pos.line X.env=pure false):PS X (.Assign [.Attribute o "what" pos'] value pos) (ZoE X.K ta tv):=by
 intro pins s σ H D I h
 refine JY (Zt (hv pins s σ H _ I h) fun u s1 zz=>?_) hs
 obtain ⟨y,H1,I1,ry,q⟩:=zz
 refine Zt (ha pins s1 σ H1 _ I1 q) fun ov s2 zz=>?_
 obtain ⟨x,H2,U,rx,ea,C,fI,ex,B,xf,q2⟩:=zz
 subst ex
 obtain rfl:ov=Qm ea:=rx
 obtain ⟨⟨t,hx⟩,_,_⟩:=(show ObjOk X.prog X.w H2 s2.heap ea (XN ea C) from U.hok ea _ B)
 obtain ⟨nm,qn,N,bs,bm,sn,sub,ab,col,dd,k0,k1,k2,k3,k5,hC,T⟩:=Zaw U.kIn xf.xc
 obtain ⟨Z,g,d,tk,os⟩:=s2
 have G:H2 Z.objs.size=none:=U.hok.fresh (Qg _)
 have hne:Z.objs.size≠ea:=Jd (Qh hx)
 refine Zmh T hC (QO U.kIn xf.sa) (QO U.kIn xf.nw) hx rfl rfl (fun c z=>by cases z) fun h' tk' W hns hk=>⟨σ,_,?_,q2 _ G hne⟩
 have S:∀ b,H2 b=none->b≠ea:=fun b e z=>by rw [z,B] at e;cases e
 have ndx:∀ b J,Z.get? b=some J->b≠Z.objs.size:=fun b J e=>Qy (Qh e)
 refine U.un (h':=h') (t':=tk') ⟨fun b J e n _ _=>hk b J (S b n) e,fun b J e n _ _=>⟨J.slots,hk b J (S b n) e⟩,fun b J e n _=>by rw [Zg (S b n),Zg (ndx b J e)];exact n,fun b J e _=>?_,fun b xs e=>?_,fun b w xs e=>?_,fun b ps e=>?_⟩ fun b w e=>?_
 ·by_cases z:b=ea
  ·rw [z];exact ⟨_,W⟩
  ·exact ⟨J,hk b J z e⟩
 ·rw [Zg (fun z=>by rw [z,B] at e;cases e),Zg (Zr e G)];exact e
 ·rw [Zg (fun z=>by rw [z,B] at e;cases e),Zg (Zr e G)];exact e
 ·exact ⟨#[],by rw [Zg (fun z=>by rw [z,B] at e;cases e),Zg (Zr e G),e];simp⟩
 ·by_cases z:b=ea
  ·subst z;rw [Zf] at e;cases e
   exact ⟨⟨t,W⟩,⟨_,W⟩,fun h1 h2 ⟨t,e⟩ k=>⟨t,k _ e⟩⟩
  ·rw [Zg z] at e
   by_cases z2:b=Z.objs.size
   ·subst z2;rw [Zf] at e;cases e
    refine ⟨_,hns,fun f=>?_⟩
    show RelO (Gv f [("what",y)]) (if f="what" then some u else none)
    by_cases hf:f="what"
    ·rw [if_pos hf,hf];exact ry
    ·rw [if_neg hf]
     have hb:(f == ("what":Str))=false:=beq_eq_false_iff_ne.mpr hf
     simp only [Gv,hb];exact Gp
   ·rw [Zg z2] at e
    refine (U.hok b w e).stay (fun c u hc q=>?_) (fun c q=>?_) (fun c xs q=>?_)
    ·refine hk c u (fun y=>?_) q
     rcases hc with rfl | hc
     ·exact z y
     ·rw [y,B] at hc;cases hc
    ·rw [Zg (fun y=>by rw [y,B] at q;cases q),Zg (Zr q G)];exact q
    ·rw [Zg (fun y=>by rw [y,B] at q;cases q),Zg (Zr q G)];exact q
end
inductive ZgQ (K:Qa)(vs:List V)(H:Hp)(Q:VK)(w_3:XK):Prop
 | mk (ea C fI:Addr) (v:V):vs=[.ref ea,v]->H ea=some (XN ea C)->XF K C fI->(∀ dx,H dx=none->dx≠ea->Q .non (upd (upd H dx (.xd [("what",v)])) ea (XW ea C dx)))->ZgQ K vs H Q w_3
def UT (P:Qi)(w:Qu)(K:Qa)(mg:Str->Option Qb)(base:Heap)(k:Nat)(C:Addr)(x:Str):Prop :=
 ∃ fI fd,FnOk P w K mg base ZF k fI fd ["self","what"] (ZgQ K)/\Binds K fd ["self","what"] []/\XF K C fI/\mg x=some (.ref C)
inductive Zey (C:Addr)(EE:St->XK)(σ:St)(vs:List V)(H1:Hp):Prop
 | mk (v:_):vs=[v]->(∀ dx,H1 dx=none->EE σ (.ref C) (some dx) (upd H1 dx (.xd [("what",v)])))->Zey C EE σ vs H1
def ZnM (C:Addr)(EE:St->XK)(t:TA):TS:=fun w_0 σ H=>t σ H fun vs H1=>Zey C EE σ vs H1
section
variable {X:Cx}{pins:List (Addr×Obj)}{σ:St}{H:Hp}{s:Qd}
def del (H:Hp)(a:Addr):Hp:=fun b=>if b=a then none else H b
theorem WZ {a b:Addr}(h:b≠a):del H a b=H b:=if_neg h
theorem Inv.untrack {a:Addr}{U:Heap->Prop}(I:Inv X pins σ H s)(e:H a=some (.ext U))(O:X.Old a):Inv X pins σ (del H a) s:=by
 have B:∀ b,H b=none->del H a b=none:=fun b n=>by unfold del;split;rfl;exact n
 refine ⟨I.ok,I.os,I.bare,⟨I.base.keep,I.base.slot,fun b u q n G=>B b (I.base.free b u q n G),I.base.there,fun b xs q=>?_,fun b u xs q=>?_,fun b ps q=>?_⟩,I.loc,I.cell,B _ I.free,fun x c G=>B _ (I.freeC x c G),fun p hp=>?_,fun b u q=>?_,I.len⟩
 ·rw [WZ (O.nt q)];exact I.base.tups b xs q
 ·rw [WZ (O.nf q)];exact I.base.frzs b u xs q
 ·rw [WZ (O.nb q)];exact I.base.tbls b ps q
 ·obtain ⟨e1,J,S⟩:=I.pin p hp
  exact ⟨e1,B _ J,S⟩
 ·by_cases z:b=a
  ·subst z;unfold del at q;rw [if_pos rfl] at q;cases q
  ·rw [WZ z] at q
   exact (I.hok b u q).stay (fun _ _ _ y=>y) (fun c y=>by rw [WZ (fun z=>by rw [z,e] at y;cases y)];exact y) (fun c xs y=>by rw [WZ (fun z=>by rw [z,e] at y;cases y)];exact y)
end
section
variable {X:Cx}{EE:St->XK}{k:Nat}{C:Addr}{x:Str}{np cpos pos:Pos}{e:Expr}{t:TA}
theorem Vl (W:YR X EE)(D:UT X.prog X.w X.K X.mg X.base k C x)(hr:Room (k+1) X.A)(S:X.calm=true)(ha:PA X [e] t)(hg:Gl X x:=by rfl)(hdb:(x == ("__debug__":Str))=false:=by decide)
 (he:QA [e] X.env=(false,eval e X.env)::QA [] X.env:=by rfl) (hpl:(GG cpos (QA [] X.env)).any (·.1)=false:=by rfl):PS X (.Raise (some (.Call (.Name x np) [e] [] cpos)) none pos) (ZnM C EE t):=by
 obtain ⟨fI,fd,F,hb,xf,hm⟩:=D
 intro pins s σ H D I h
 rw [arm_exec_Raise]
 obtain ⟨nm,qn,N,bs,bm,sn,sub,ab,col,dd,k0,k1,k2,k3,k5,hCb,T⟩:=Zaw I.ok.mod.kin xf.xc
 refine Qf (GD (Zmg (C:=C) (nm:=nm) (q:=qn) (N:=N) (bs:=bs) (sn:=sn) (sub:=sub) (ab:=ab) (col:=col) (dd:=dd) (k0:=k0) (k1:=k1) (k2:=k2) (k3:=k3) (k5:=k5) T (I.ok.hd S) (Qf ?_)))
 refine QP (Q:=fun v B=>∃ e oe vs,v=.ref e/\B.heap.get? C=some (GS nm qn C N bs bm true sn sub ab col dd k0 k1 k2 k3 k5 "ValueError.__new__")/\B.heap.get? e=some oe/\oe.cls=.ref C/\oe.data=.fields vs/\vs[1]?=some .none/\X.xe (.ref e) B) ?_ (fun v s1 h1=>Qf (GD (Qx h1))) fun _ _ x=>x
 refine QR (Wt I hg hm ?_ hdb)
 refine Jh (h₀:=X.base) I.ok.mod.kin xf.kp (Zt (ha cpos pins s σ H _ I h) fun us s1 zz=>?_) he hpl
 obtain ⟨vs,H1,G,r,v,ev,q⟩:=zz
 refine ⟨G.kIn,?_⟩
 subst ev
 obtain ⟨u,rfl,ru⟩:=Yq r
 obtain ⟨hh,g,d,tk,os⟩:=s1
 have hC1:=G.bk _ _ hCb
 obtain ⟨oI,hoI,hoc⟩:∃ oI,hh.get? fI=some oI/\oI.cls=.type "function":=by
  obtain ⟨oI,ho,hc⟩:=Gc.mp (show (X.K.lookup fI).map (·.cls)=some (.type "function") from beq_iff_eq.mp xf.fn)
  exact ⟨oI,G.kIn _ _ ho,hc⟩
 refine Zob T hC1 (QO G.kIn xf.init) hoI hoc (fun h' ea J Z=>?_) (by show 1<=Qj;decide)
 obtain ⟨t0,h0,h1,h2⟩:=J.there
 have U:H1 ea=none:=G.hok.fresh Z
 have I2:Inv X pins σ (upd H1 ea (XN ea C)) ⟨h',g,d,tk,os⟩:=G.laid (a:=ea) (o:=XN ea C) (h':=h') (t':=tk) J.keeps Z ⟨⟨t0,h0⟩,⟨_,h0⟩,fun h1 h2 ⟨t,e⟩ k=>⟨t,k _ e⟩⟩
 have hsp:ZgQ X.K [.ref ea,v] (upd H1 ea (XN ea C)) (fun w H'=>w=.non/\∃ dx,H1 dx=none/\dx≠ea/\H'=upd (upd (upd H1 ea (XN ea C)) dx (.xd [("what",v)])) ea (XW ea C dx)) E0 :=
  ⟨ea,C,fI,v,rfl,Zf,xf,fun dx h1 h2=>⟨rfl,dx,by rw [Zg h2] at h1;exact h1,h2,rfl⟩⟩
 have r2:Vals [V.ref ea,v] [Qm ea,u]:=.cons rfl (.cons ru .nil)
 refine Jg (Ge (F.run _ X.stack _ _ ⟨[.ref ea,u],[]⟩ [.ref ea,u] _ _ E0 (hr.make C [u] []) (I2.env0.make C [u] []) (hb _ [.ref ea,u] I2.kIn rfl) r2 hsp) fun r s' hq=>?_)
 cases r with
 | error e=>exact hq.elim
 | ok fl =>
  cases fl with
  | next=>exact QF hq
  | brk=>exact QF hq
  | cont=>exact QF hq
  | ret u' =>
   obtain ⟨w,H3,I3,rw',⟨ew,dx,hdx,hde,eH⟩⟩:=I2.after hq
   subst ew eH
   refine ⟨rw',?_⟩
   have at3:upd (upd (upd H1 ea (XN ea C)) dx (.xd [("what",v)])) ea (XW ea C dx) ea=some (XW ea C dx):=Zf
   obtain ⟨⟨t3,hx3⟩,_,_⟩:=(show ObjOk X.prog X.w _ s'.heap ea (XW ea C dx) from I3.hok ea _ at3)
   have I4:=I3.untrack at3 (G.old U)
   have eq4:del (upd (upd (upd H1 ea (XN ea C)) dx (.xd [("what",v)])) ea (XW ea C dx)) ea=upd H1 dx (.xd [("what",v)]):=by
    funext b
    by_cases z:b=ea
    ·subst z;unfold del;rw [if_pos rfl,Zg (Gg hde)];exact U.symm
    ·rw [WZ z,Zg z]
     by_cases z2:b=dx
     ·subst z2;rw [Zf,Zf]
     ·rw [Zg z2,Zg z2,Zg z]
   rw [eq4] at I4
   refine ⟨ea,_,_,rfl,I3.bk _ _ hCb,hx3,rfl,rfl,rfl,?_⟩
   refine W pins σ H1 _ ⟨hh,g,d,tk,os⟩ s' ea C dx none G I4 (.inl rfl) ⟨?_,by rw [Zg (Gg hde)];exact U,Z,_,_,hx3,rfl,rfl,rfl,rfl⟩ (q dx hdx)
   cases qb:X.base.get? ea with
   | none=>rfl
   | some ob=>have:=G.bk _ _ qb;rw [J.new] at this;cases this
end
end L2
namespace L2
open PySem PySem.Spec PyProof.Rows
open PySem.Builtin PySem.Builtin.ObjectAttr
section
variable {prog:Qi}{w:Qu}{A:Qz}{E:Qb->Qd->Prop}{h:Heap}{g:Array Og}{d:Drawn}{t:Nat}{os:OsState}
variable {nm q:Str}{C N a dx:Addr}{bs bm:List Qb}{sn:List Str}{sub:List Qb}{ab:Bool}{col:Option Bool}{dd:Option Addr}{k0 k1 k2 k3 k5:Option Qb}{name:Str}{v:Qb}{o:Obj}{vs:Array Qb}{mA:Str->Option Qb}
abbrev Zbd (h:Heap)(nm q:Str)(C N:Addr)(bs bm:List Qb)(sn:List Str)(sub:List Qb)(ab:Bool)(col:Option Bool)(dd:Option Addr)(k0 k1 k2 k3 k5:Option Qb):Prop:=h.get? C=some (GS nm q C N bs bm true sn sub ab col dd k0 k1 k2 k3 k5 "ValueError.__new__")
theorem ZgZ {M:RB}{B:Qb}{Q:Unit->Qd->Prop}(T:VT bm)(U:Zbd h nm q C N bs bm sn sub ab col dd k0 k1 k2 k3 k5)
 (Z:h.get? a=some o) (J:o.cls=.ref C) (W:Q () ⟨h,g,d,t,os⟩):Qq M A (Gr "BaseException.__getattribute__" ⟨[.ref a,B],[]⟩) Q E ⟨h,g,d,t,os⟩:=by
 have S:builtinKind "BaseException.__getattribute__"=some .slot:=by decide +kernel
 have G:splitId "BaseException.__getattribute__"=some ("BaseException","__getattribute__"):=by decide +kernel
 have I:(Qm C::bm).contains (.type "BaseException")=true:=by rw [contains_cons,T.has PX.hasBase];rfl
 have ha:=PySem.F.args_bexc_ga (.ref a) B
 simp only [Gr,S,G]
 refine Qf ?_
 ·unfold isInstance
  repeat (first | (with_reducible refine QG Z ?_;rw [J]) | (with_reducible refine Gk U ?_;rw [I]) | wp_step)
  exact W
theorem x_by {tk:Tok}{fill B:Bool}{Q:Qb->Qd->Prop}(T:VT bm)(Z:Zbd h nm q C N bs bm sn sub ab col dd k0 k1 k2 k3 k5)
 (LG:GE (Qt prog w) h (QX (.ref C) "__getattribute__") (some (.builtin "BaseException.__getattribute__"))) (LA:GE (Qt prog w) h (QX (.ref C) "__getattr__") none)
 (W:h.get? a=some o) (S:o.cls=.ref C) (hh:handedOut v=pure v)
 (he:∀ (A:Qz) (R:Rp->Qd->Prop) (E:Qb->Qd->Prop),R (.done (.ret v)) ⟨h,g,d,t,os⟩->Qq (Qt prog w) A (Jq.«object.__getattribute__» ⟨[.ref a,.str name tk],[]⟩) R E ⟨h,g,d,t,os⟩) (hq:Q v ⟨h,g,d,t,os⟩) :
 Qq (Qt prog w) A (getAttrBy (.ref a) (.str name tk) fill B) Q E ⟨h,g,d,t,os⟩:=by
 have U:=PX
 have f3:=U.ga.bind (.ref a)
 have hx0:(B&&onTheHeap (JE "BaseException.__getattribute__"))=false:=by cases B<;>rfl
 have I:(JE "BaseException.__getattribute__" == JE "object.__getattribute__")=false:=by decide +kernel
 have hx1:(onTheHeap (Qm C)&&JE "BaseException.__getattribute__" == JE "object.__getattribute__")=false:=by rw [I];rfl
 have J:∀ {A:Qz} {Q:Option Qb->Qd->Prop} {E:Qb->Qd->Prop},Q (some (.builtin "BaseException.__getattribute__")) ⟨h,g,d,t,os⟩->Qq (Qt prog w) A (QX (.ref C) "__getattribute__") Q E ⟨h,g,d,t,os⟩:=fun q=>LG _ _ _ _ (fun _ _ e=>e) q
 have G:∀ {A:Qz} {Q:Option Qb->Qd->Prop} {E:Qb->Qd->Prop},Q none ⟨h,g,d,t,os⟩->Qq (Qt prog w) A (QX (.ref C) "__getattr__") Q E ⟨h,g,d,t,os⟩:=fun q=>LA _ _ _ _ (fun _ _ e=>e) q
 repeat (any_goals (first | assumption | (with_reducible refine QG W ?_;rw [S]) | with_reducible refine J ?_ | with_reducible refine G ?_ | wp_step))
 refine GQ U.ga.plain PySem.F.entry_bexc_ga (ZgZ T Z W S (he _ _ _ ?_))
 show Qq _ _ (handedOut v) _ _ _
 rw [hh]
 exact Qx hq
theorem Zoc {tk:Tok}{Q:Rp->Qd->Prop}(hC:Zbd h nm q C N bs bm sn sub ab col dd k0 k1 k2 k3 k5)(LN:GE (Qt prog w) h (QX (.ref C) name) none)
 (U:h.get? a=some o) (S:o.cls=.ref C) (I:o.dict=some dx) (Z:o.data=.fields vs) (G:h.Ns1 dx mA) (W:mA name=some v) (hq:Q (.done (.ret v)) ⟨h,g,d,t,os⟩) :
 Qq (Qt prog w) A (Jq.«object.__getattribute__» ⟨[.ref a,.str name tk],[]⟩) Q E ⟨h,g,d,t,os⟩:=by
 have J:∀ {A:Qz} {Q:Option Qb->Qd->Prop} {E:Qb->Qd->Prop},Q none ⟨h,g,d,t,os⟩->Qq (Qt prog w) A (QX (.ref C) name) Q E ⟨h,g,d,t,os⟩:=fun q=>LN _ _ _ _ (fun _ _ e=>e) q
 unfold Jq.«object.__getattribute__»
 repeat (first | (with_reducible refine QG U ?_;rw [S]) | (with_reducible refine J ?_) | wp_step)
 split
 ·rename_i c B
  rw [Z] at B;cases B
 unfold instanceDict
 repeat (first | (with_reducible refine QG U ?_;rw [S]) | with_reducible refine QG hC ?_ | wp_step)
 rw [I]
 repeat (first | (with_reducible refine wpAny_nsGet G.ns ?_;rw [W]) | wp_step)
 exact hq
theorem ZeP {R:SQ->Qd->Prop}(T:VT bm)(S:Zbd h nm q C N bs bm sn sub ab col dd k0 k1 k2 k3 k5)(J:h.get? a=some o)(I:o.cls=.ref C)(U:R (.ok (.ret (.ref C))) ⟨h,g,d,t,os⟩) :
 Jw (Qt prog w) A (.call (.builtin "getset_descriptor.__get__") ⟨[.builtin "object.__class__",.ref a,.ref C],[]⟩) R ⟨h,g,d,t,os⟩:=by
 have B:(⟨h,g,d,t,os⟩:Qd).TypeIs (.builtin "object.__class__") "getset_descriptor":=Jr
 have G:(Qm C::bm).contains (.type (".".intercalate ("object.__class__".cutAt '.').dropLast))=true:=by
  rw [PySem.F.owner_object_class,contains_cons,T.has (b:=true) (by decide +kernel)];rfl
 refine GQ PySem.F.slot_gs_get.plain PySem.F.entry_gs_get (PySem.F.slot_gs_get.check _ _ _ _ _ _ _ _ B (PySem.F.args_gs_get _ _ _) ?_)
 repeat (any_goals (first | assumption | (with_reducible refine QG J ?_;rw [I]) | (with_reducible refine Gk S ?_;rw [G]) | wp_step))
 refine ⟨JH _ (by decide +kernel),PF PySem.F.entry_object_class ?_⟩
 repeat (any_goals (first | assumption | (with_reducible refine QG J ?_;rw [I]) | wp_step))
theorem Zmf {tk:Tok}{Q:Rp->Qd->Prop}(T:VT bm)(J:Zbd h nm q C N bs bm sn sub ab col dd k0 k1 k2 k3 k5)(U:GE (Qt prog w) h (QX (.ref C) "__class__") (some (.builtin "object.__class__")))
 (I:h.get? a=some o) (G:o.cls=.ref C) (hq:Q (.done (.ret (.ref C))) ⟨h,g,d,t,os⟩) :
 Qq (Qt prog w) A (Jq.«object.__getattribute__» ⟨[.ref a,.str "__class__" tk],[]⟩) Q E ⟨h,g,d,t,os⟩:=by
 have B:∀ {A:Qz} {Q:Option Qb->Qd->Prop} {E:Qb->Qd->Prop},Q (some (.builtin "object.__class__")) ⟨h,g,d,t,os⟩->Qq (Qt prog w) A (QX (.ref C) "__class__") Q E ⟨h,g,d,t,os⟩:=fun q=>U _ _ _ _ (fun _ _ e=>e) q
 have S:(⟨h,g,d,t,os⟩:Qd).TypeIs (.builtin "object.__class__") "getset_descriptor":=Jr
 have W:=Jr
 have f6:=PySem.F.slot_gs_get.lookup
 have Z:=PySem.F.slot_gs_set.lookup
 repeat (any_goals (first | assumption | (with_reducible refine QG I ?_;rw [G]) | (with_reducible refine B ?_) | wp_step))
 refine ZeP T J I G ?_
 repeat (any_goals (first | assumption | wp_step))
end
structure XG (K:Qa)(C:Addr):Prop where
 xc:ZeF K C=true
 nw:Qv K (.ref C) "what"=some none
 ga:Qv K (.ref C) "__getattribute__"=some (some (.builtin "BaseException.__getattribute__"))
 gh:Qv K (.ref C) "__getattr__"=some none
 gc:Qv K (.ref C) "__class__"=some (some (.builtin "object.__class__"))
theorem ZdW {K:Qa}{C ea:Addr}(G:XG K C):PySem.W.KitX K (.ref ea) (.ref C) (fun h=>∃ o,h.get? ea=some o/\o.cls=.ref C) where
 ty:=fun M h _ p=>by obtain ⟨o,h1,h2⟩:=p;exact h2 ▸ (Na h1).andThen .now
 it:=fun M h X p=>by
  obtain ⟨nm,S,N,bs,bm,sn,sub,ab,col,dd,k0,k1,k2,k3,k5,B,T⟩:=Zaw X G.xc
  intro A' Q' E' s' k q
  unfold isType loadHead
  exact Qf (wpAny_loadPart (k _ _ B) (Qx q))
 ne:=fun h Z dd U n sl X I=>by
  obtain ⟨nm,S,N,bs,bm,sn,sub,ab,col,dd,k0,k1,k2,k3,k5,B,T⟩:=Zaw X G.xc
  refine Bool.eq_false_iff.mpr fun q=>?_
  have e:C=Z:=Value.ref.inj (beq_iff_eq.mp q)
  subst e
  have z:=congrArg Obj.cls (QE (B.symm.trans I))
  exact absurd (Value.type.inj z) (by decide)
 ca:=fun {prog w A E Q s} X p k=>by
  obtain ⟨nm,S,N,bs,bm,sn,sub,ab,col,dd,k0,k1,k2,k3,k5,B,T⟩:=Zaw X G.xc
  obtain ⟨o,h1,h2⟩:=p
  obtain ⟨h,g,d,t,os⟩:=s
  have J:∀ {tk:Tok} {Q:Qb->Qd->Prop} {E:Qb->Qd->Prop} {A:Qz},Q (.ref C) ⟨h,g,d,t+1,os⟩->Qq (Qt prog w) A (getAttrBy (.ref ea) (.str "__class__" tk) false) Q E ⟨h,g,d,t+1,os⟩:=fun q =>
   x_by T B (QO X G.ga) (QO X G.gh) h1 h2 rfl (fun A R E r=>Zmf T B (QO X G.gc) h1 h2 r) q
  unfold getAttr? getAttrBy?
  repeat (any_goals (first | assumption | with_reducible apply J | wp_step))
end L2
namespace L2
open PySem PySem.Spec PyProof.Rows
inductive ZfQ (K:Qa)(Q:VK)(x:V)(H1:Hp):Prop
 | mk (ea C dx:Addr) (fs:List (Str×V)) (v:V):x=.ref ea->H1 ea=some (XO ea C dx)->H1 dx=some (.xd fs)->XG K C->fs.lookup ("what":Str)=some v->Q v H1->ZfQ K Q x H1
def Zpp (K:Qa)(ta:TE):TE:=fun σ H Q=>ta σ H fun x H1=>ZfQ K Q x H1
def TyX (K:Qa)(H:Hp)(x:V)(t:Qb):Prop:=Wq K H x t\/∃ ea C dx,x=.ref ea/\t=.ref C/\H ea=some (XO ea C dx)/\XG K C
inductive Zis (K:Qa)(xs:List V)(H:Hp)(Q:VK):Prop
 | mk (x c t b:_):xs=[x,c]->TyX K H x t->((∃ D,c=.ref D/\Th K t (.ref D)=some b)\/(∃ T,c=.ty T/\Th K t (.type T)=some b))->Q (.bl b) H->Zis K xs H Q
def rIsi (K:Qa):List V->Hp->VK->Prop:=fun xs H Q=>Zis K xs H Q
inductive ZfA (K:Qa)(xs:List V)(H:Hp)(Q:VK):Prop
 | mk (ea C dx tp:Addr) (Ds:List Addr) (b:Bool):xs=[.ref ea,.ref tp]->H ea=some (XO ea C dx)->XG K C->H tp=some (.tup (Ds.map V.ref))->PySem.W.kitAny K (.ref C) (Ds.map Qm)=some b->Q (.bl b) H->ZfA K xs H Q
def ZoA (K:Qa):List V->Hp->VK->Prop:=fun xs H Q=>ZfA K xs H Q
section
variable {X:Cx}{e:Expr}{pos:Pos}{ta:TE}
theorem ZlE (he:PE X e ta)(hb:Jm e "what" X.env (eval e X.env)=eval e X.env):PE X (.Attribute e "what" pos) (Zpp X.K ta):=by
 intro pins s σ H Q I h
 refine ZeU hb (Zt (he pins s σ H _ I h) fun u s1 zz=>?_)
 obtain ⟨x,H1,B,rx,ea,C,dx,fs,v,ex,hea,U,G,l,q⟩:=zz
 subst ex
 obtain rfl:u=Qm ea:=rx
 obtain ⟨⟨oe,vs,J,S,he3,he4⟩,_,_⟩:=(show ObjOk X.prog X.w H1 s1.heap ea (XO ea C dx) from B.hok ea _ hea)
 obtain ⟨mA,Z,hr⟩:=(show ObjOk X.prog X.w H1 s1.heap dx (.xd fs) from B.hok dx _ U)
 obtain ⟨u,hu,ru⟩:=RelO.some_of (v:=v) (o:=mA "what") (by rw [<- l];exact hr "what")
 obtain ⟨nm,qn,N,bs,bm,sn,sub,ab,col,dd,k0,k1,k2,k3,k5,hC,T⟩:=Zaw B.kIn G.xc
 have hK:=B.kIn
 have I2:=B.tok (s1.toks+1)
 obtain ⟨hh,g,d,tk,os⟩:=s1
 refine Qf (wpAny_mkText ?_)
 exact x_by T hC (QO hK G.ga) (QO hK G.gh) J S (PySem.W.handedOut_of (ZcN ru)) (fun A R E r=>Zoc hC (QO hK G.nw) J S he3 he4 Z hu r) ⟨v,H1,I2,ru,q⟩
theorem Zfh {pins:List (Addr×Obj)}{σ:St}{H:Hp}{s:Qd}{A:Qz}{E:Qb->Qd->Prop}{Q:Qb->Qd->Prop}{c:Qb}{b:Bool}{x:V}{u t:Qb}(I:Inv X pins σ H s)(U:RelV x u)(ty:TyX X.K H x t)(e:Th X.K t c=some b)(h:∀ tk,Q (.bool b) { s with toks:=tk }) :
 Qq (Qt X.prog X.w) A (call (.builtin "isinstance") [u,c]) Q E s:=by
 rcases ty with ty | ⟨ea,C,dx,rfl,rfl,J,G⟩
 ·exact ZhG I U ty e h
 ·cases (show u=Qm ea from U)
  obtain ⟨⟨W,vs,S,B,_⟩,_,_⟩:=(show ObjOk X.prog X.w H s.heap ea (XO ea C dx) from I.hok ea _ J)
  exact QT (ZdW G) I.kIn ⟨W,S,B⟩ e (fun z=>nomatch z) h
theorem Yu:Yt X (.builtin "isinstance") (rIsi X.K):=by
 intro pins s σ H xs us Q I r h
 obtain ⟨x,c,t,b,rfl,ty,S,q⟩:=h
 obtain ⟨u,G,rfl,J,B⟩:=ZdA r
 rcases S with ⟨D,rfl,e⟩ | ⟨T,rfl,e⟩
 ·cases (show G=Qm D from B)
  exact Zfh I J ty e fun tk=>⟨.bl b,H,I.tok tk,rfl,q⟩
 ·cases (show G=RN T from B)
  exact Zfh I J ty e fun tk=>⟨.bl b,H,I.tok tk,rfl,q⟩
theorem Zca:∀{B:List Addr}{us:List Qb},Vals (B.map V.ref) us->us=B.map Qm
 | [],_,h=>by cases h;rfl
 | D::B,_,h=>by
  cases h with
  | cons r t=>rw [Zca t,show _=Qm D from r];rfl
theorem ZcJ:Yt X (.builtin "isinstance") (ZoA X.K):=by
 intro pins s σ H xs us Q I r h
 obtain ⟨ea,C,dx,U,Ds,b,rfl,J,G,B,e,q⟩:=h
 obtain ⟨u,u',rfl,ru,ru'⟩:=ZdA r
 cases (show u=Qm ea from ru)
 cases (show u'=Qm U from ru')
 obtain ⟨⟨oe,vs,S,Z,_⟩,_,_⟩:=(show ObjOk X.prog X.w H s.heap ea (XO ea C dx) from I.hok ea _ J)
 obtain ⟨_,its,rv,p⟩:=(show ObjOk X.prog X.w H s.heap U (.tup (Ds.map V.ref)) from I.hok U _ B)
 obtain ⟨⟨oc,odi,oda,osl⟩,h1,h2,n,h3⟩:=p
 dsimp only at h2 h3
 subst h2 h3
 rw [Zca rv] at h1
 exact PySem.W.kia_tup (ZdW G) I.kIn ⟨oe,S,Z⟩ h1 e (fun z=>nomatch z) fun tk=>⟨.bl b,H,I.tok tk,rfl,q⟩
end
section
variable {X:Cx}
end
def ZfX (X:Cx)(d:Addr):Prop:=∀ o u,X.H₀ d≠some (.frz o u)
section
variable {X:Cx}{pins:List (Addr×Obj)}{σ:St}{H:Hp}{s:Qd}{d:Addr}{o:Obj}{kvs:List (Zo×V)}
theorem Inv.freeze (I:Inv X pins σ H s)(e:H d=some (.dK kvs))(B:s.heap.get? d=some o):Inv X pins σ (upd H d (.frz o (.dK kvs))) s :=
 I.write (x:=d) (e:=d) (o:=.frz o (.dK kvs)) (t':=s.toks) (h':=s.heap) (by rw [e];trivial) (.inl rfl) (fun b u _ q=>q) ⟨o,B⟩ ⟨B,show ObjOk X.prog X.w H s.heap d (.dK kvs) from I.hok d _ e⟩
theorem Inv.nofz (I:Inv X pins σ H s)(e:H d=some (.dK kvs)):ZfX X d:=fun o u z=>by
 have:=I.base.frzs d o u z
 rw [e] at this;cases this
theorem Inv.melt (I:Inv X pins σ H s)(e:H d=some (.frz o (.dK kvs)))(nf:ZfX X d):Inv X pins σ (upd H d (.dK kvs)) s:=by
 have B:∀ {b},H b=none->b≠d:=fun n z=>by rw [z,e] at n;cases n
 refine ⟨I.ok,I.os,I.bare,⟨I.base.keep,I.base.slot,fun b G q n J=>?_,I.base.there,fun b xs q=>?_,fun b G u q=>?_,fun b ps q=>?_⟩,I.loc,I.cell,?_,fun x c q=>?_,fun p hp=>?_,fun b u q=>?_,I.len⟩
 ·have:=I.base.free b G q n J
  rw [Zg (B this)];exact this
 ·have:=I.base.tups b xs q
  rw [Zg (fun z=>by rw [z,e] at this;cases this)];exact this
 ·rw [Zg (fun z=>by rw [z] at q;exact nf _ _ q)];exact I.base.frzs b G u q
 ·obtain ⟨more,this⟩:=I.base.tbls b ps q
  exact ⟨more,by rw [Zg (fun z=>by rw [z,e] at this;cases this)];exact this⟩
 ·rw [Zg (B I.free)];exact I.free
 ·have:=I.freeC x c q
  rw [Zg (B this)];exact this
 ·obtain ⟨p1,p2,p3⟩:=I.pin p hp
  exact ⟨p1,by rw [Zg (B p2)];exact p2,p3⟩
 ·by_cases z:b=d
  ·subst z
   rw [Zf] at q
   cases q
   exact (show ObjOk X.prog X.w H s.heap b (.dK kvs) from (show ObjOk X.prog X.w H s.heap b (.frz o (.dK kvs)) from I.hok b _ e).2)
  ·rw [Zg z] at q
   exact (I.hok b u q).stay (fun _ _ _ q=>q) (fun c r=>by rw [Zg (fun z=>by rw [z,e] at r;cases r)];exact r) fun c xs r=>by rw [Zg (fun z=>by rw [z,e] at r;cases r)];exact r
end
def Itd (o:Obj)(d:Addr)(kvs:List (Zo×V)):It :=
 ⟨fun i H=>H d=some (.frz o (.dK kvs))/\i < kvs.length,fun i H v H'=>H'=H/\∃ p,kvs[i]?=some p/\v=kV p.1,fun i H=>H d=some (.frz o (.dK kvs))/\kvs.length<=i⟩
theorem ZdT {P:Qi}{w:Qu}{H:Hp}{h:Heap}{d:Addr}{o:Obj}{kvs:List (Zo×V)}{es:Array DictEntry}{ep:Nat}(ok:HOk P w H h)(G:o.data=.dict es ep)(e:H d=some (.frz o (.dK kvs))):∃ vs,KV kvs vs/\Heap.DictAt (ZG P w) h d vs ep:=by
 obtain ⟨I,hz,lo,vs,Z,o',U,ep',J,r1,B,S,W,r5⟩:=(show ObjOk P w H h d (.frz o (.dK kvs)) from ok d _ e)
 rw [I] at J
 cases J
 rw [G] at B
 cases B
 exact ⟨vs,Z,o,es,I,r1,G,S,W,r5⟩
theorem ZiP {P:Qi}{w:Qu}{K:Qa}{tg:Expr}{o:Obj}{es:Array DictEntry}{ep:Nat}{kvs:List (Zo×V)}(hd:o.data=.dict es ep)(d G:Addr):ZaJ P w K tg (Itd o d kvs) [G] G (fun i h=>h.IsKeyIter G d i kvs.length ep) where
 mem:=by simp
 obj:=fun i h st b hb=>by
  have e:b=G:=by simpa using hb
  subst e
  obtain ⟨o,e,c,d⟩:=st
  exact ⟨o,e,fun v z=>by rw [d] at z;cases z⟩
 keep:=fun i h h' st k=>st.at fun o e=>k G (by simp) o e
 item:=by
  intro X hP hw hK hc i pins s σ H E I S st hg
  subst hP hw hK
  obtain ⟨e,hi⟩:=hg
  obtain ⟨vs,U,D⟩:=ZdT I.hok hd e
  have B:kvs.length=vs.length:=GT U
  obtain ⟨f0,f1,f2,f3,W,Z⟩:=S G (by simp)
  have hv:=getElem?_eq_getElem (l:=vs) (i:=i) (by omega)
  generalize vs[i]=pv at hv
  obtain ⟨pk,px⟩:=pv
  obtain ⟨vv,hkv,_⟩:=ZhO U hv
  refine wpAny_pyNext_dict_item (B ▸ st) D hv fun key h' hk J sb=>?_
  have I1:Inv X pins σ H { s with heap:=h' }:=I.turned (t':=s.toks) (fun b o hb e=>(sb.2 b hb).trans e) f0 f1 f3 W Z
  have rk:RelV (kV pk) key:=by
   rw [Zby] at hk
   rcases Yk hk with ⟨j,t,e1,e2⟩ | ⟨y,t,e1,e2⟩
   ·rw [e1,e2];exact ⟨t,rfl⟩
   ·rw [e1,e2];exact ⟨t,rfl⟩
  obtain ⟨o9,e9,c9,d9⟩:=id J
  exact ⟨key,rfl,Zdk (s:={ s with heap:=h' }) e9 c9 d9 (by decide) ⟨_,H,I1,rk,⟨rfl,_,hkv,rfl⟩,B ▸ J,fun b hb=>(S b hb).1⟩⟩
 done:=by
  intro X hP hw hK hc i pins s σ H E I S st hg
  subst hP hw hK
  obtain ⟨e,hi⟩:=hg
  obtain ⟨vs,U,D⟩:=ZdT I.hok hd e
  have B:kvs.length=vs.length:=GT U
  obtain ⟨f0,f1,f2,f3,W,Z⟩:=S G (by simp)
  exact wpAny_pyNext_dict_end (I.ok.hd hc) (B ▸ st) D (List.getElem?_eq_none (by omega)) fun h' eb=>⟨rfl,I.turned (t':=s.toks) (fun b o hb e=>eb b o hb e) f0 f1 f3 W Z⟩
 self:=fun _ _ _ _ _ st h=>wpAny_pyIter_keyiter st h
inductive Zfe (X:Cx)(R:It->Hp->Prop)(x:V)(H1:Hp):Prop
 | mk (d kvs:_):x=.ref d->H1 d=some (.dK kvs)->(∀ o,ZfX X d->R (Itd o d kvs) (upd H1 d (.frz o (.dK kvs))))->Zfe X R x H1
def Zom (X:Cx)(td:TE):TI:=fun σ H R=>td σ H fun x H1=>Zfe X R x H1
section
variable {X:Cx}{tg:Expr}
theorem ZlF {l:Expr}{tl:TE}(hl:PE X l tl):PI X tg l (Zom X tl):=by
 intro pins s σ H R I h
 refine Zt (hl pins s σ H _ I h) fun v s1 zz=>?_
 obtain ⟨x,H1,S,G,q1⟩:=zz
 obtain ⟨d,kvs,e,J,q⟩:=q1
 subst e
 cases G
 obtain ⟨hz,lo,vs,kv,o,es,ep,Z,G,W,r3,r4,r5⟩:=Zbn S.hok J
 have B:kvs.length=vs.length:=GT kv
 refine wpAny_pyIter_dict (knd:=ZG X.prog X.w) (kvs:=vs) (ep:=ep) lo ⟨o,es,Z,G,W,r3,r4,r5⟩ ?_
 have U:=S.freeze J Z
 refine ⟨s1.heap.objs.size,[s1.heap.objs.size],_,_,_,rfl,U.kept (t':=s1.toks) fun b o e=>Qe _ e,ZiP (kvs:=kvs) W d _,⟨_,Qo _ rfl,rfl,by rw [B];rfl⟩,fun b hb=>?_,q o (S.nofz J)⟩
 have e:b=s1.heap.objs.size:=by simpa using hb
 subst e
 exact U.fpOk (Qg _) (U.hok.fresh (Qg _))
end
end L2
namespace L2
open PySem PySem.W PySem.Spec PyProof.Rows
section
variable {X:Cx}
end
end L2
namespace L2
open PySem
def dgs (m:Nat):List Nat:=(Nat.toDigits 10 m).map Char.toNat
theorem Zhw {m c:Nat}(h:c∈dgs m):48<=c/\c<=57:=by
 obtain ⟨ch,B,e⟩:=mem_map.mp h
 have r:=PyProof.Rows.digit_range (Nat.isDigit_of_mem_toDigits (by decide) (by decide) B)
 rw [<- e];exact r
theorem ZcO (i:Int):∃ m:Nat,((Qw (JO i)).cps.toList=dgs m/\i=m)\/((Qw (JO i)).cps.toList=45::dgs m/\i=-(m:Int)):=by
 cases i with
 | ofNat m=>exact ⟨m,.inl ⟨PySem.W.KIN.signs_num m,rfl⟩⟩
 | negSucc m =>
  refine ⟨m+1,.inr ⟨?_,by omega⟩⟩
  rw [PV]
  show ("-"++Nat.repr (m+1)).toList.map Char.toNat=_
  rw [String.toList_append,map_append,Nat.toList_repr]
  rfl
theorem ZmF {i:Int}{c:Nat}(h:c∈(Qw (JO i)).cps.toList):c=45\/(48<=c/\c<=57):=by
 obtain ⟨m,⟨e,_⟩ | ⟨e,_⟩⟩:=ZcO i
 ·rw [e] at h;exact .inr (Zhw h)
 ·rw [e] at h
  rcases mem_cons.mp h with h | h
  ·exact .inl h
  ·exact .inr (Zhw h)
theorem Zfa {m k:Nat}(h:m < 10 ^ (k+1)):(dgs m).length<=k+1:=by
 unfold dgs
 rw [length_map]
 exact (Nat.length_toDigits_le_iff (by decide) (by omega)).mpr h
end L2
namespace L2
open PySem PySem.W PySem.Spec PyProof.Rows
section
variable {X:Cx}
end
end L2
namespace L2
open PySem PySem.Spec PyProof.Rows
end L2
namespace L2
open PySem PySem.W PySem.Spec PyProof.Rows
section
variable {X:Cx}
end
end L2
namespace L2
open PySem PySem.Spec PyProof.Rows
section
variable {X:Cx}
end
end L2
namespace L2
open PySem PySem.W PySem.Spec PyProof.Rows
def XZ (ts:List (Pos×Addr)):List Value:=ts.flatMap fun p=>[Gb p.1.line,Gb p.1.col,.ref p.2]
def LamsAt (H:Hp)(Pl:Addr)(qual:Str):Prop:=∃ ts:List (Pos×Addr),H Pl=some (.tbl (XZ ts).toArray)/\∀ p∈ts,H p.2=some (.ext (YK p.2 qual))
theorem VZ:∀ ts,TriplesOk (XZ ts)
 | []=>trivial
 | p::r=>by
  show TriplesOk (Gb p.1.line::Gb p.1.col::.ref p.2::XZ r)
  exact VZ r
theorem VY {pos:Pos}{v:Qb}:∀{ts:List (Pos×Addr)},Rq pos (XZ ts)=some v->∃ p∈ts,v=.ref p.2
 | [],h=>by cases h
 | p :: r,h=>by
  have h:(if (p.1.line:Int) == pos.line&&(p.1.col:Int) == pos.col then some (Qm p.2) else Rq pos (XZ r))=some v:=h
  split at h
  ·cases h;exact ⟨p,mem_cons_self ..,rfl⟩
  ·obtain ⟨q,B,e⟩:=VY h
   exact ⟨q,mem_cons_of_mem _ B,e⟩
theorem ZfS (ts:List (Pos×Addr))(pos:Pos)(c:Addr):XZ (ts++[(pos,c)])=XZ ts++[Gb pos.line,Gb pos.col,.ref c]:=by
 unfold XZ;rw [List.flatMap_append];rfl
section
variable {X:Cx}{pins:List (Addr×Obj)}{σ:List (Option V)}{H:Hp}{s:Qd}
theorem Zje {A:Qz}{E:Qb->Qd->Prop}{Q:Qb->Qd->Prop}{c Pl:Addr}{args:GY}{body:Expr}{sc:Scope}{lpos:Pos}(I:Inv X pins σ H s)(B:X.env.code=.ref c)(C:JD X.K c Pl=true)(hBm:Xn X.base X.mg)(hL:LamsAt H Pl (X.env.qual++"<lambda>"))
 (hdef:Od args X.env=([],[])) (hfree:∀ y∈sc.names,y.2=.free->∃ c,X.env.cells.lookup y.1=some c)
 (h:∀ (q:Addr) (H':Hp) (s':Qd) (pm cdv ct:Qb) (U:List (Str×Addr)),Inv X pins σ H' s'->Grown Pl H H'->LamsAt H' Pl (X.env.qual++"<lambda>")->(∀ y c,U.lookup y=some c->X.env.cells.lookup y=some c)->(∀ y∈sc.names,y.2=.free->U.lookup y.1≠none)->H' q=none->s.heap.objs.size<=q ->
  s'.heap.get? q=some { cls:=.type "function",data:=.func (Oa "<lambda>" (X.env.qual++"<lambda>") args body sc U pm cdv ct) }->(∃ cc,cdv=.ref cc/\H' cc=some (.ext (YK cc (X.env.qual++"<lambda>"))))->Q (.ref q) s') :
 Qq (Qt X.prog X.w) A (eval (.Lambda args body sc lpos) X.env) Q E s:=by
 refine kla_eval hdef ?_
 obtain ⟨U,hcl,cl1,cl2⟩:=WO hfree
 have hg:=I.mod.glob.keeps I.bk
 have CH:=Rc I.kIn C
 obtain ⟨ts,e,ec⟩:=hL
 have hP:s.heap.get? Pl=some (RZ (XZ ts).toArray):=I.hok Pl _ e
 have bmAt:s.heap.BuiltinsAt X.mg Pl/\Ql≠Pl:=by
  obtain ⟨bm,ob,b1,b2,b3,b4,b5,b6⟩:=hBm
  have G:=I.bk _ _ b3
  have hmg:Ql≠Pl:=fun z=>by
   obtain ⟨o,es,ep,y,hd,_⟩:=hg
   rw [z,hP] at y;cases y;cases hd
  refine ⟨⟨bm,ob,b1,b2,fun z=>?_,(fun z=>by rw [z,hP] at G;cases G;cases b4),G,b4,b5,b6⟩,hmg⟩
  obtain ⟨o,es,ep,y,hd,_⟩:=hg
  rw [<- z,G] at y;cases y
  rw [b6] at hd;cases hd
 obtain ⟨hb,hgP⟩:=bmAt
 cases hf:Rq lpos (XZ ts) with
 | none =>
  refine OR (clos:=U) hcl I.ok.glob hg B CH hP (VZ ts) hf hgP hb fun S ctv h' tk hx W hlt J hT=>?_
  have I1:=I.table (t':=tk) (h':=h') (qual:=X.env.qual++"<lambda>") (lpos:=lpos) e (fun b o hb' y=>hx b o hb' y) hT W J
  have Z:H S=none:=I.hok.fresh W
  have hcP:S≠Pl:=fun z=>by rw [z,e] at Z;cases Z
  have gr:Grown Pl H (upd (upd H Pl (.tbl ((XZ ts).toArray++#[Gb lpos.line,Gb lpos.col,.ref S]))) S (.ext (YK S (X.env.qual++"<lambda>")))):=fun b o h1 y=>by rw [Zg (Zr y Z),Zg h1];exact y
  refine h _ _ _ ((X.mg "__name__").getD .none) (.ref S) ctv U (I1.kept (t':=tk) fun b o y=>Qe _ y) gr ⟨ts++[(lpos,S)],?_,fun p hp=>?_⟩ cl1 cl2 (I1.hok.fresh (Qg _)) (Gu (QK W hlt)) (Qo _ rfl) ⟨S,rfl,Zf⟩
  ·rw [Zg hcP.symm,Zf,ZfS];simp
  ·rcases mem_append.mp hp with y | y
   ·have e2:=ec p y
    exact gr _ _ (fun z=>by rw [z,e] at e2;cases e2) e2
   ·rw [mem_singleton.mp y];exact Zf
 | some v =>
  obtain ⟨p,hp,rfl⟩:=VY hf
  have J:s.heap.CodeRec (.ref p.2) (X.env.qual++"<lambda>"):=(I.hok p.2 _ (ec p hp)).1
  refine Ry (clos:=U) (cv:=.ref p.2) hcl I.ok.glob hg B CH hP (VZ ts) hf hb fun ctv h' tk hk hz=>?_
  exact h _ _ _ ((X.mg "__name__").getD .none) (.ref p.2) ctv U ((I.kept (h':=h') (t':=tk) hk).kept (t':=tk) fun b o y=>Qe _ y) (fun b o _ y=>y) ⟨ts,e,ec⟩ cl1 cl2 (I.hok.fresh hz) hz (Qo _ rfl) ⟨p.2,rfl,ec p hp⟩
end
def Vj (b:Addr)(o:Obj):HO:=.ext fun h=>h.get? b=some o
abbrev Pn:=List (Addr×Obj)
def cov (H:Hp)(cs:Pn):Hp:=fun b=>match cs.lookup b with
 | some o=>some (Vj b o)
 | none=>H b
def unc (H:Hp)(cs:Pn):Hp:=fun b=>match cs.lookup b with
 | some _=>none
 | none=>H b
def Has (cs:Pn)(H:Hp):Prop:=∀ b o,cs.lookup b=some o->H b=some (Vj b o)
def Hasn (cs:Pn)(H:Hp):Prop:=∀ b o,cs.lookup b=some o->H b=none
def Xo (cs:Pn)(h:Heap):Prop:=∀ b o,cs.lookup b=some o->h.get? b=some o
section
variable {cs:Pn}{H H' H2:Hp}{h h':Heap}{b:Addr}{o:Obj}{P:Qi}{w:Qu}{fs:List Addr}
theorem Wb (e:cs.lookup b=some o):cov H cs b=some (Vj b o):=by unfold cov;rw [e]
theorem ZV (e:cs.lookup b=none):cov H cs b=H b:=by unfold cov;rw [e]
theorem Yn (e:cs.lookup b=some o):unc H cs b=none:=by unfold unc;rw [e]
theorem ZH (e:cs.lookup b=none):unc H cs b=H b:=by unfold unc;rw [e]
theorem has_cov:Has cs (cov H cs):=fun b o e=>Wb e
theorem ZdU:Hasn cs (unc H cs):=fun b o e=>Yn e
theorem Has.same (a:Has cs H)(s:Same H H'):Has cs H':=fun b o e=>s _ _ (a b o e)
theorem VJ (a:Hasn cs H){u:HO}(e:H b=some u):cs.lookup b=none:=by
 cases q:cs.lookup b with
 | none=>rfl
 | some o=>rw [a b o q] at e;cases e
theorem XC (a:Has cs H){u:HO}(e:H b=some u)(n:∀ B,u≠.ext B):cs.lookup b=none:=by
 cases q:cs.lookup b with
 | none=>rfl
 | some o=>rw [a b o q] at e;cases e;exact absurd rfl (n _)
theorem WR (a:Has cs H)(e:H b=none):cs.lookup b=none:=by
 cases q:cs.lookup b with
 | none=>rfl
 | some o=>rw [a b o q] at e;cases e
theorem YQ (a:Hasn cs H):Same H (cov H cs):=fun b u e=>by rw [ZV (VJ a e)];exact e
theorem Vn (a:Hasn cs H')(s:Same (cov H' cs) H2):Same H' (unc H2 cs):=fun b u e=>by
 have q:=VJ a e
 rw [ZH q];exact s _ _ (by rw [ZV q];exact e)
theorem Zeh (e:h.get? b=some o):ObjOk P w H h b (Vj b o):=⟨e,⟨o,e⟩,fun _ _ a k=>k _ a⟩
theorem Xz (x:HOk P w H h)(a:Has cs H):Xo cs h:=fun b o e=>(x b _ (a b o e)).1
theorem HOk.unc (x:HOk P w H h)(a:Has cs H):HOk P w (unc H cs) h:=fun b u e=>by
 have q:cs.lookup b=none:=by
  cases q:cs.lookup b with
  | none=>rfl
  | some o=>rw [Yn q] at e;cases e
 rw [ZH q] at e
 refine (x b u e).stay (fun _ _ _ z=>z) (fun c z=>?_) fun c xs z=>?_
 ·rw [ZH (XC a z fun _ z=>by cases z)];exact z
 ·rw [ZH (XC a z fun _ z=>by cases z)];exact z
theorem HOk.cov (x:HOk P w H h)(a:Hasn cs H)(k:Xo cs h):HOk P w (cov H cs) h:=fun b u e=>by
 cases q:cs.lookup b with
 | some o=>rw [Wb q] at e;cases e;exact Zeh (k b o q)
 | none =>
  rw [ZV q] at e
  refine (x b u e).stay (fun _ _ _ z=>z) (fun c z=>?_) fun c xs z=>?_
  ·exact YQ a _ _ z
  ·exact YQ a _ _ z
theorem Un.cov (u:Un fs [] (unc H cs) H' h h')(a:Has cs H)(k:Xo cs h):Un fs [] H (cov H' cs) h h':=by
 have I:Hasn cs H':=fun b o e=>u.free b o (k b o e) (Yn e) (by simp)
 refine ⟨fun b B q n hb G=>?_,fun b B q n hb G=>?_,fun b B q n G=>?_,fun b B q G=>u.there b B q G,fun b xs q=>?_,fun b B xs q=>?_,fun b ps q=>?_⟩
 ·exact u.keep b B q (by rw [ZH (WR a n)];exact n) hb G
 ·exact u.slot b B q (by rw [ZH (WR a n)];exact n) hb G
 ·rw [ZV (WR a n)];exact u.free b B q (by rw [ZH (WR a n)];exact n) G
 ·have z:=XC a q fun _ z=>by cases z
  exact YQ I _ _ (u.tups b xs (by rw [ZH z];exact q))
 ·have z:=XC a q fun _ z=>by cases z
  exact YQ I _ _ (u.frzs b B xs (by rw [ZH z];exact q))
 ·have z:=XC a q fun _ z=>by cases z
  obtain ⟨m,e⟩:=u.tbls b ps (by rw [ZH z];exact q)
  exact ⟨m,YQ I _ _ e⟩
theorem Un.uncov (u:Un fs [] (L2.cov H cs) H2 h h')(n:Hasn cs H)(k:Xo cs h)(I:Xo cs h'):Un fs [] H (unc H2 cs) h h':=by
 refine ⟨fun b B q m hb G=>?_,fun b B q m hb G=>?_,fun b B q m G=>?_,fun b B q G=>u.there b B q G,fun b xs q=>?_,fun b B xs q=>?_,fun b ps q=>?_⟩
 ·cases e:cs.lookup b with
  | some o=>have:=k b o e;rw [q] at this;cases this;exact I b _ e
  | none=>exact u.keep b B q (by rw [ZV e];exact m) hb G
 ·cases e:cs.lookup b with
  | some o=>have:=k b o e;rw [q] at this;cases this;exact ⟨_,I b _ e⟩
  | none=>exact u.slot b B q (by rw [ZV e];exact m) hb G
 ·cases e:cs.lookup b with
  | some o=>exact Yn e
  | none=>rw [ZH e];exact u.free b B q (by rw [ZV e];exact m) G
 ·have z:=VJ n q
  rw [ZH z];exact u.tups b xs (by rw [ZV z];exact q)
 ·have z:=VJ n q
  rw [ZH z];exact u.frzs b B xs (by rw [ZV z];exact q)
 ·have z:=VJ n q
  obtain ⟨m,e⟩:=u.tbls b ps (by rw [ZV z];exact q)
  exact ⟨m,by rw [ZH z];exact e⟩
theorem ExcAt.re {base:Heap}{n:Nat}{ea C dx:Addr}{B:Option Qb}(x:ExcAt base n H ea C dx B h)(f:∀ b,n<=b->H b=none->H' b=none):ExcAt base n H' ea C dx B h:=by
 obtain ⟨a,b,c,oe,vs,e1,U,W,J,tb⟩:=x
 refine ⟨a,f _ c b,c,oe,vs,e1,U,W,J,?_⟩
 cases B with
 | none=>exact tb
 | some v=>obtain ⟨T,S,ts,t1,Z,I,t4,G,t6⟩:=tb;exact ⟨T,S,ts,t1,Z,I,f _ G t4,G,t6⟩
end
abbrev ZZ (qual:Str)(sc:Scope)(L q:Addr)(cl:List (Str×Addr))(cd:Qb):Env:=newEnv sc L Ql cl (qual++".<locals>.") (some q) cd none Tc
def YU (P:Qi)(w:Qu)(K:Qa)(mg:Str->Option Qb)(base:Heap)(N:List Str)(env:Env)(A:Qz)(outer:List Env)(s:Qd)(H:Hp)(Z:Qb->Qd->Prop):Cx where
 prog:=P
 w:=w
 K:=K
 mg:=mg
 base:=base
 A:=A.deeper env
 N:=N
 s₀:=s
 H₀:=H
 env:=env
 outer:=outer
 stack:=env::outer
 ex:=[]
 fn:=fun _=>false
 calm:=true
 pn:=[]
 xe:=Z
section
variable {P:Qi}{w:Qu}{K:Qa}{mg:Str->Option Qb}{base:Heap}{N:List Str}
theorem Zdg {env:Env}{A:Qz}{outer:List Env}{s:Qd}{H:Hp}{E:XK}{R:Qb->Qd->Prop}(hL:env.locals=s.heap.objs.size)(hf:env.frame=some env.locals)(hR:∀ e s',XH P w base outer H s E e s'->R e s') :
 YR (YU P w K mg base N env A outer s H fun e s'=>Qq (Qt P w) (A.deeper env) (leaving env e) (fun _ I=>R e I) (fun e' I=>R e' I) s') (fun _=>E):=by
 intro pins σ H1 H2 s1 s2 ea C dx fl I1 B W x q
 have hsz:s.heap.objs.size<=s1.heap.objs.size:=I1.sz
 have G:HOk P w H2 s2.heap:=B.hok
 refine ZdX (base:=base) (n:=s.heap.objs.size) (H:=H2) (outer:=outer) (L:=env.locals) W B.ok.frames B.stack hf B.bk (x.le hsz) (fun b hb=>G.fresh hb) fun h' b1 f1 x1 k1=>hR _ _ ?_
 have un:Un (Yx outer) [] H H2 s.heap s2.heap:=B.base
 have nL:∀ b o,s.heap.get? b=some o->b ∉ Yx outer->b ∉ Yx (env::outer):=fun b o e J m=>by
  rcases mem_filterMap.mp m with ⟨v,hv,S⟩
  rcases mem_cons.mp hv with rfl | hv
  ·rw [hf,hL] at S;cases S;exact absurd (Qh e) (GC _)
  ·exact J (mem_filterMap.mpr ⟨v,hv,S⟩)
 have inL:∀ b,b∈Yx outer->b∈Yx (env::outer):=fun b m=>by
  obtain ⟨v,hv,S⟩:=mem_filterMap.mp m
  exact mem_filterMap.mpr ⟨v,mem_cons_of_mem _ hv,S⟩
 refine ⟨ea,C,dx,H2,rfl,b1,f1,x1,B.os,B.bare,⟨fun b o e J hb U=>k1.2.1 b o (un.keep b o e J hb U) (nL b o e hb) (.inr (Qh e)),fun b o e J hb U=>?_,un.free,fun b o e U=>?_,un.tups,un.frzs,un.tbls⟩,k1.hok G B.stkFree,q⟩
 ·obtain ⟨sl,e1⟩:=un.slot b o e J hb U
  obtain ⟨sl2,Z⟩:=k1.1 b _ e1 (inL b hb)
  exact ⟨sl2,Z⟩
 ·obtain ⟨o',e1⟩:=un.there b o e U
  by_cases m:b∈Yx (env::outer)
  ·obtain ⟨sl,Z⟩:=k1.1 b o' e1 m;exact ⟨_,Z⟩
  ·exact ⟨o',k1.2.1 b o' e1 m (.inr (Qh e))⟩
def Zkv (P:Qi)(w:Qu)(K:Qa)(mg:Str->Option Qb)(base:Heap)(k:Nat)(cs:Pn)(cc:Addr)(qual:Str)(q:Addr)(T:Hp->VK->XK->Prop):Prop :=
 ∀ (A:Qz) (outer:List Env) (s:Qd) (H:Hp) (Q:VK) (E:XK),Room k A->Env0 P w K mg base A outer s H->Has cs H->H cc=some (.ext (YK cc qual)) ->
  T (unc H cs) (fun v H'=>Hasn cs H'->Q v (cov H' cs)) (fun C d H'=>Hasn cs H'->E C d (cov H' cs))->Jw (Qt P w) A (.call (.ref q) ⟨[],[]⟩) (CR (XH P w base) outer P w H s Q E) s
structure Zkr (sc:Scope):Prop where
 kind:sc.kind=.function
 co:sc.isCoroutine=false
 gen:sc.isGenerator=false
 cell:∀ y∈sc.names,y.2≠.cell
 loc:∀ y∈sc.names,y.2≠.local
theorem ZnT {k:Nat}{cs:Pn}{cc q:Addr}{qual:Str}{args:GY}{body:Expr}{sc:Scope}{U:List (Str×Addr)}{pm ct:Qb}{fo:Obj}{σ:St}{te:(St->XK)->TE}(S:Zkr sc)
 (hq:cs.lookup q=some fo) (hfo:fo={ cls:=.type "function",data:=.func (Oa "<lambda>" qual args body sc U pm (.ref cc) ct) })
 (hbind:Ti (Oa "<lambda>" qual args body sc U pm (.ref cc) ct) ⟨[],[]⟩=pure []) (hN:σ.length=N.length)
 (inj:∀ x y c,U.lookup x=some c->U.lookup y=some c->x=y) (cl2:∀ y∈sc.names,y.2=.free->U.lookup y.1≠none)
 (hcl:∀ x c,U.lookup x=some c->∃ o v,cs.lookup c=some o/\o.data=.cell v)
 (hσ:∀ (i:Nat) (x:Str) (v:V) (c:Addr),N[i]?=some x->σ[i]?=some (some v)->U.lookup x=some c->sc.names.lookup x=some .free->∃ o u,cs.lookup c=some o/\o.data=.cell (some u)/\RelV v u)
 (he:∀ (A:Qz) (outer:List Env) (s:Qd) (H:Hp) (Z:Qb->Qd->Prop) (EE:St->XK),Room k (A.deeper (ZZ qual sc s.heap.objs.size q U (.ref cc)))->YR (YU P w K mg base N (ZZ qual sc s.heap.objs.size q U (.ref cc)) A outer s H Z) EE ->
  PE (YU P w K mg base N (ZZ qual sc s.heap.objs.size q U (.ref cc)) A outer s H Z) body (te EE)) :
 Zkv P w K mg base (k+1) cs cc qual q (fun H Q E=>te (fun _=>E) σ H Q):=by
 intro A outer s H Q E hr G has hcc hT
 have lim:s.heap.NoLimit:=G.mod.nolimit.keeps fun b o e=>(G.bs b o e).1
 have B:Xo cs s.heap:=Xz G.hok has
 have hcd:s.heap.CodeRec (.ref cc) qual:=(G.hok cc _ hcc).1
 have I:∀ b,H b=none->unc H cs b=none:=fun b e=>by rw [ZH (WR has e)];exact e
 refine OA (body:=body) hr.depth (B q fo hq) (by rw [hfo]) S.co S.gen rfl hcd ?_
 refine Rb (a:=[]) hbind ?_
 refine Ps S.cell (fun _ h=>nomatch h) (fun h₁ hns₁ hsb₁=>?_) S.kind
 have old:∀ b o,s.heap.get? b=some o->h₁.get? b=some o:=fun b o e=>hsb₁.extBut b o (Qy (Qh e)) (Qe _ e)
 refine ⟨lim.keeps old,OB ?_⟩
 have W:=Zdg (P:=P) (w:=w) (K:=K) (mg:=mg) (base:=base) (N:=N) (env:=ZZ qual sc s.heap.objs.size q U (.ref cc)) (A:=A) (outer:=outer) (s:=s) (H:=unc H cs) (E:=fun C d H'=>Hasn cs H'->E C d (cov H' cs)) (R:=fun e s'=>CR (XH P w base) outer P w H s Q E (.error e) s') rfl rfl (fun e s' h=>by
  obtain ⟨ea,C,dx,H',rfl,b1,f1,x1,os,gb,un,hok,q1⟩:=h
  have hn:Hasn cs H':=fun b o e=>un.free b o (B b o e) (Yn e) (by simp)
  have kk:Xo cs s'.heap:=fun b o e=>un.keep b o (B b o e) (Yn e) (fun z=>by have:=G.frf b z;rw [has b o e] at this;cases this) (by simp)
  refine ⟨ea,C,dx,cov H' cs,rfl,b1,f1,x1.re fun b l e=>?_,os,gb,un.cov has B,hok.cov hn kk,q1 hn⟩
  cases z:cs.lookup b with
  | none=>rw [ZV z];exact e
  | some o=>exact absurd (Qh (B b o z)) (QS.mpr l))
 refine QP (he A outer s (unc H cs) _ _ (hr.deeper _) W [] _ σ (unc H cs) _ ?_ hT) (fun v s' hs=>?_) fun e s' hs=>hs
 ·refine ⟨⟨G.mod,S.kind,rfl,rfl,Qg _,inj,fun x hx=>?_,(fun x c z _=>nomatch z),fun _=>hr.hd,Po G.frames,.inr ⟨rfl,rfl⟩,(fun b z=>nomatch z),fun b o e=>⟨(G.bs b o e).1,I b (G.bs b o e).2⟩,G.bsz,(fun _ _ _ z=>nomatch z),(fun _ z=>nomatch z),G.funs,fun b hb=>I b (G.frf b hb)⟩,
   rfl,G.bare,Un.kept old,⟨_,hns₁,fun i x v h1 h2 h3=>?_⟩,fun x c e=>?_,I _ (G.hok.fresh (Qg _)),fun x c e=>?_,(fun p hp=>nomatch hp),(G.hok.unc has).kept old,hN⟩
  ·have hf:sc.names.lookup x=some .free:=by
    rcases hx with hx | hx
    ·exact absurd rfl (S.cell _ (L2.mem_of_lookup hx))
    ·exact hx
   cases z:U.lookup x with
   | none=>exact absurd z (cl2 _ (L2.mem_of_lookup hf) rfl)
   | some c=>exact ⟨c,z⟩
  ·have hf:sc.names.lookup x=some .free:=by
    rcases h3 with hx | hx | hx
    ·exact absurd rfl (S.loc _ (L2.mem_of_lookup hx))
    ·exact absurd rfl (S.cell _ (L2.mem_of_lookup hx))
    ·exact hx
   cases z:U.lookup x with
   | none=>exact absurd z (cl2 _ (L2.mem_of_lookup hf) rfl)
   | some c =>
    obtain ⟨o,u,h4,h5,h6⟩:=hσ i x v c h1 h2 z hf
    exact ⟨u,h6,.inr ⟨.inr hf,c,z,o,old _ _ (B c o h4),h5⟩⟩
  ·obtain ⟨o,v,h4,h5⟩:=hcl x c e
   exact ⟨v,o,old _ _ (B c o h4),h5⟩
  ·obtain ⟨o,v,h4,h5⟩:=hcl x c e
   exact Yn h4
 ·obtain ⟨v',H',J,rv,q1⟩:=hs
  have un:Un (Yx outer) [] (unc H cs) H' s.heap s'.heap:=J.base
  have hn:Hasn cs H':=fun b o e=>un.free b o (B b o e) (Yn e) (by simp)
  have kk:Xo cs s'.heap:=fun b o e=>un.keep b o (B b o e) (Yn e) (fun z=>by have:=G.frf b z;rw [has b o e] at this;cases this) (by simp)
  exact ⟨v',cov H' cs,J.os,J.bare,un.cov has B,HOk.cov J.hok hn kk,rv,q1 hn⟩
end
structure Thk (P:Qi)(w:Qu)(K:Qa)(mg:Str->Option Qb)(base:Heap)(k:Nat)(cs:Pn)(cc:Addr)(qual:Str)(q:Addr)(T:Hp->VK->XK->Prop):Prop where
 run:Zkv P w K mg base k cs cc qual q T
 fn:∃ fo fd,cs.lookup q=some fo/\fo.data=.func fd
inductive ZiE (P:Qi)(w:Qu)(K:Qa)(mg:Str->Option Qb)(base:Heap)(k:Nat)(EE:St->XK)(i:Nat)(σ:St)(H:Hp)(Q:VK):Prop
 | mk (q cs cc qual T:_):σ[i]?=some (some (.ref q))->Thk P w K mg base k cs cc qual q T->Has cs H->H cc=some (.ext (YK cc qual))->(T (unc H cs) (fun v H'=>Hasn cs H'->Q v (cov H' cs)) (fun C d H'=>Hasn cs H'->EE σ C d (cov H' cs)))->ZiE P w K mg base k EE i σ H Q
def tAsk (P:Qi)(w:Qu)(K:Qa)(mg:Str->Option Qb)(base:Heap)(k:Nat)(EE:St->XK)(i:Nat):TE:=fun σ H Q=>ZiE P w K mg base k EE i σ H Q
section
variable {X:Cx}{EE:St->XK}{k i:Nat}{x:Str}{p pos:Pos}
theorem Znk (W:YR X EE)(hr:Room k X.A)(hN:X.N[i]?=some x)(hv:Vis X.env.scope x)(hd:(x == ("__debug__":Str))=false:=by decide)(S:(x == ("__classdict__":Str))=false:=by decide) :
 PE X (.Call (.Name x p) [] [] pos) (tAsk X.prog X.w X.K X.mg X.base k EE i):=by
 intro pins s σ H Q I h
 obtain ⟨q,cs,cc,qual,T,e,Z,has,J,hT⟩:=h
 refine QR (Zt (Zik (pos:=p) hN hv hd S pins s σ H (fun v H1=>v=.ref q/\H1=H) I ⟨_,e,rfl,rfl⟩) fun u s1 zz=>?_)
 obtain ⟨v,H1,G,r,e1,e2⟩:=zz
 subst e1;subst e2
 obtain rfl:u=Qm q:=r
 obtain ⟨U,fd,z1,z2⟩:=Z.fn
 have B:s1.heap.get? q=some U:=Xz G.hok has q U z1
 refine callWith_of (P:=fun h=>h.get? q=some U) rfl (fun h e=>⟨.frame,.inl rfl,(Looks.ld (part:=none) e).andThen ?_⟩) (evalArgs_nil3 ⟨B,?_⟩)
 ·simp only [z2];exact .now
 refine Jg (Ge (Z.run X.A X.stack s1 H1 Q (EE σ) hr G.env0 has J hT) fun r s' B=>?_)
 cases r with
 | error e =>
  obtain ⟨ea,C,dx,H',rfl,kb,ff,x,os,gb,un,hok,q⟩:=B
  exact W pins σ H1 H' s1 s' ea C dx _ G (G.call' os un hok gb fun b z=>absurd z (by simp)) (.inr rfl) x q
 | ok fl =>
  cases fl with
  | ret u=>exact G.after B
  | next=>exact QF B
  | brk=>exact QF B
  | cont=>exact QF B
end
theorem Zlw {P:Qi}{w:Qu}{K:Qa}{mg:Str->Option Qb}{base:Heap}{X:Cx}{EE:St->XK}{k i:Nat}{x:Str}{p pos:Pos}(h1:X.prog=P)(h2:X.w=w)(I:X.K=K)(G:X.mg=mg)(h5:X.base=base)(W:YR X EE)(U:Room k X.A)(Z:X.N[i]?=some x)(J:Vis X.env.scope x)(S:(x == ("__debug__":Str))=false:=by decide)(B:(x == ("__classdict__":Str))=false:=by decide) :
 PE X (.Call (.Name x p) [] [] pos) (tAsk P w K mg base k EE i):=by
 subst h1 h2 I G h5
 exact Znk W U Z J S B
def Xv (env:Env)(h:Heap):Pn:=env.cells.filterMap fun p=>(env.cells.lookup p.1).bind fun c=>(h.get? c).map fun o=>(c,o)
theorem Wf {env:Env}{h:Heap}{p:Addr×Obj}(m:p∈Xv env h):h.get? p.1=some p.2/\∃ y,env.cells.lookup y=some p.1:=by
 obtain ⟨z,I,e⟩:=mem_filterMap.mp m
 obtain ⟨c,e1,B⟩:=Option.bind_eq_some_iff.mp e
 obtain ⟨o,G,rfl⟩:=Gc.mp B
 exact ⟨G,z.1,e1⟩
theorem ZbE {env:Env}{h:Heap}{x:Str}{c:Addr}{o:Obj}(e:env.cells.lookup x=some c)(B:h.get? c=some o):(c,o)∈Xv env h :=
 mem_filterMap.mpr ⟨(x,c),L2.mem_of_lookup e,by show (env.cells.lookup x).bind _=_;rw [e];show (h.get? c).map _=_;rw [B];rfl⟩
theorem UI {b:Addr}{o:Obj}:∀{cs:Pn},cs.lookup b=some o->(b,o)∈cs
 | [],h=>by cases h
 | (n,z)::r,h=>by
  cases hx:b == n with
  | true =>
   have e:b=n:=by simpa using hx
   subst e
   simp only [lookup_cons,beq_self_eq_true] at h
   cases h
   exact mem_cons_self
  | false =>
   simp only [lookup_cons,hx] at h
   exact mem_cons_of_mem _ (UI h)
theorem Zan {h:Heap}{b:Addr}{o:Obj}:∀{cs:Pn},(∀ p∈cs,h.get? p.1=some p.2)->(b,o)∈cs->cs.lookup b=some o
 | (n,z)::r,hh,m=>by
  cases hx:b == n with
  | true =>
   have e:b=n:=by simpa using hx
   subst e
   have h1:=hh _ mem_cons_self
   have h2:=hh _ m
   have B:some z=some o:=h1.symm.trans h2
   simp only [lookup_cons,beq_self_eq_true];exact B
  | false =>
   simp only [lookup_cons,hx]
   rcases mem_cons.mp m with e | m
   ·cases e;simp at hx
   ·exact Zan (fun p hp=>hh p (mem_cons_of_mem _ hp)) m
structure LamOk (X:Cx)(sc:Scope):Prop where
 lam:Zkr sc
 clos:∀ y∈sc.names,y.2=.free->X.env.kindOf y.1=some .cell
 fn:∀ x,X.fn x=true
def ZkK (P:Qi)(w:Qu)(K:Qa)(mg:Str->Option Qb)(base:Heap)(k:Nat)(sp:Sp)(Pl:Addr)(qual:Str)(te:(St->XK)->TE):TE:=fun σ H Q=>LamsAt H Pl qual/\∀(q:Addr)(H1:Hp)(cs:Pn)(cc:Addr),Grown Pl H H1->LamsAt H1 Pl qual->Hasn cs H1 ->
 Thk P w K mg base k cs cc qual q (fun H' Q' E'=>te (fun _=>E') σ H' Q')->H1 cc=some (.ext (YK cc qual))->sp [.ref q] (cov H1 cs) (fun v H2=>Has cs H2/\Q v (unc H2 cs)) (fun _ _ _=>False)
section
variable {X:Cx}{k j:Nat}{f:Str}{pn:Str}{sp:Sp}{p0 lpos pos:Pos}{args:GY}{body:Expr}{sc:Scope}{te:(St->XK)->TE}{c Pl:Addr}
theorem ZlA (D:Def X.prog X.w X.K X.mg X.base j f [pn] sp)(hr:Room j X.A)(O:LamOk X sc)(hcode:X.env.code=.ref c)(C:JD X.K c Pl=true)(hBm:Xn X.base X.mg)
 (he:∀ (q:Addr) (cl:List (Str×Addr)) (cc:Addr) (A:Qz) (outer:List Env) (s:Qd) (H:Hp) (Z:Qb->Qd->Prop) (EE:St->XK),Room k (A.deeper (ZZ (X.env.qual++"<lambda>") sc s.heap.objs.size q cl (.ref cc)))->YR (YU X.prog X.w X.K X.mg X.base X.N (ZZ (X.env.qual++"<lambda>") sc s.heap.objs.size q cl (.ref cc)) A outer s H Z) EE ->
  PE (YU X.prog X.w X.K X.mg X.base X.N (ZZ (X.env.qual++"<lambda>") sc s.heap.objs.size q cl (.ref cc)) A outer s H Z) body (te EE))
 (hdef:Od args X.env=([],[])) (hbind:∀ cl pm cc ct,Ti (Oa "<lambda>" (X.env.qual++"<lambda>") args body sc cl pm (.ref cc) ct) ⟨[],[]⟩=pure [])
 (hg:Gl X f:=by rfl) (hdb:(f == ("__debug__":Str))=false:=by decide)
 (hst:QA [Expr.Lambda args body sc lpos] X.env=(false,eval (.Lambda args body sc lpos) X.env)::QA [] X.env:=by rfl) :
 PE X (.Call (.Name f p0) [.Lambda args body sc lpos] [] pos) (ZkK X.prog X.w X.K X.mg X.base (k+1) sp Pl (X.env.qual++"<lambda>") te):=by
 obtain ⟨fa,fd,F,hb,kp,hm⟩:=D
 intro pins s σ H Q I h
 obtain ⟨hL,h⟩:=h
 refine QR (Wt I hg hm ?_ hdb)
 refine callWith_K (h₀:=X.base) I.ok.mod.kin kp ?_ hst rfl
 rw [hst]
 show Qq _ _ (spliced ((false,eval (.Lambda args body sc lpos) X.env)::GG pos (QA [] X.env))) _ _ s
 refine Jf (Zje I hcode C hBm hL hdef (fun y hy hf=>I.ok.has y.1 (.inl (O.clos y hy hf))) fun q H1 s1 pm cdv ct cl S gr L1 G cl2 hqn hqs ho hcr=>?_)
 obtain ⟨cc,rfl,hcc⟩:=hcr
 refine JP ⟨S.kIn,?_⟩
 generalize hfo:({ cls:=.type "function",data:=.func (Oa "<lambda>" (X.env.qual++"<lambda>") args body sc cl pm (.ref cc) ct) }:Obj)=fo at ho
 generalize U:((q,fo)::Xv X.env s1.heap:Pn)=cs
 have B:∀ p∈cs,s1.heap.get? p.1=some p.2:=fun p hp=>by
  rw [<- U] at hp
  rcases mem_cons.mp hp with rfl | hp
  ·exact ho
  ·exact (Wf hp).1
 have what:∀ b o,cs.lookup b=some o->b=q\/∃ y,X.env.cells.lookup y=some b:=fun b o e=>by
  have hp:=UI e
  rw [<- U] at hp
  rcases mem_cons.mp hp with z | hp
  ·cases z;exact .inl rfl
  ·exact .inr (Wf hp).2
 have key:∀ b o,cs.lookup b=some o->X.s₀.heap.objs.size<=b/\b≠X.env.locals:=fun b o e=>by
  rcases what b o e with rfl | ⟨y,hy⟩
  ·exact ⟨Qr I.sz hqs,fun z=>by have:=I.lt;rw [<- z] at this;exact absurd this (QS.mpr hqs)⟩
  ·exact ⟨I.ok.cab y b (O.fn y) hy,I.cne y b hy⟩
 have J:Hasn cs H1:=fun b o e=>by
  rcases what b o e with rfl | ⟨y,hy⟩
  ·exact hqn
  ·exact S.freeC y b hy
 have hsh:Xo cs s1.heap:=fun b o e=>B _ (UI e)
 have hlq:cs.lookup q=some fo:=Zan B (by rw [<- U];exact mem_cons_self)
 have hlc:∀ x c o,X.env.cells.lookup x=some c->s1.heap.get? c=some o->cs.lookup c=some o:=fun x c o e1 e2=>Zan B (by rw [<- U];exact mem_cons_of_mem _ (ZbE e1 e2))
 have W:=S.env0
 have no:∀ b,b < X.s₀.heap.objs.size\/b=X.env.locals->cs.lookup b=none:=fun b hb=>by
  cases z:cs.lookup b with
  | none=>rfl
  | some o =>
   obtain ⟨z1,z2⟩:=key b o z
   rcases hb with hb | hb
   ·exact absurd hb (QS.mpr z1)
   ·exact absurd hb z2
 have e1 : Env0 X.prog X.w X.K X.mg X.base X.A X.stack s1 (cov H1 cs):=by
  refine ⟨W.frames,W.mod,fun b o e=>⟨(W.bs b o e).1,?_⟩,W.bsz,W.funs,fun b hb=>?_,W.hok.cov J hsh,W.bare⟩
  ·rw [ZV (no b (.inl (QB (Qh e) I.ok.bsz)))];exact (W.bs b o e).2
  ·rw [ZV (no b ?_)]
   ·exact W.frf b hb
   ·rcases mem_cons.mp (S.stkSub b hb) with z | z
    ·exact .inr z
    ·obtain ⟨_,o,z1,_⟩:=I.ok.funs.mem z
     exact .inl (Qh z1)
 have Z:Thk X.prog X.w X.K X.mg X.base (k+1) cs cc (X.env.qual++"<lambda>") q (fun H' Q' E'=>te (fun _=>E') σ H' Q'):=by
  refine ⟨ZnT (N:=X.N) O.lam hlq hfo.symm (hbind cl pm cc ct) S.len (fun x y c e1 e2=>S.ok.inj x y c (G x c e1) (G y c e2)) cl2 (fun x c e=>?_) (fun i x v c h1 h2 h3 h4=>?_) (he q cl cc),fo,_,hlq,by rw [<- hfo]⟩
  ·obtain ⟨v,o,z1,z2⟩:=S.cell x c (G x c e)
   exact ⟨o,v,hlc x c o (G x c e) z1,z2⟩
  ·obtain ⟨m,hn,hl⟩:=S.loc
   have hk:=O.clos _ (L2.mem_of_lookup h4) rfl
   obtain ⟨u,ru,lu⟩:=hl i x v h1 h2 (.inr (.inl hk))
   rcases lu with ⟨z,_⟩ | ⟨_,c',z,o,z1,z2⟩
   ·rw [hk] at z;cases z
   ·have:=G x c h3
    rw [z] at this;cases this
    exact ⟨o,u,hlc x c o z z1,z2,ru⟩
 have hsp:=h q H1 cs cc gr L1 J Z hcc
 refine Jg (Ge (F.run X.A X.stack s1 (cov H1 cs) ⟨[.ref q],[]⟩ [.ref q] [.ref q] _ _ hr e1 (hb s1 [.ref q] S.kIn rfl) (.cons rfl .nil) hsp) fun r s' hq=>?_)
 cases r with
 | error e=>exact QF hq
 | ok fl =>
  cases fl with
  | ret u =>
   obtain ⟨v,H2,os,bare,un,hok,r,has2,hQ⟩:=hq
   exact ⟨v,unc H2 cs,S.call' os (un.uncov J hsh (Xz hok has2)) (hok.unc has2) bare fun b z=>absurd z (by simp),r,hQ⟩
  | next=>exact QF hq
  | brk=>exact QF hq
  | cont=>exact QF hq
end
theorem Vr:∀{bs:List Bool}{us:List Qb},Vals (bs.map V.bl) us->us=bs.map GF
 | [],_,.nil=>rfl
 | b::bs,_,.cons r h=>by
  have e:=Vr h
  cases (show _=GF b from r)
  rw [e];rfl
def Zae:Qb->Bool
 | .bool b=>b
 | _=>false
inductive ZcV (K:Qa)(x:V)(vs:List V)(H:Hp)(Q:VK):Prop
 | mk (l:Addr) (bs:List Bool):x=.ref l->vs=[.bl true]->SqL K H l (bs.map V.bl)->Q (.int ((bs.filter id).length:Nat)) H->ZcV K x vs H Q
def ZlN (K:Qa):V->List V->Hp->VK->Prop:=fun x vs H Q=>ZcV K x vs H Q
inductive ZcX (K:Qa)(x:V)(vs:List V)(H:Hp)(Q:VK):Prop
 | mk (l:Addr) (bs:List Bool) (j:Nat):x=.ref l->vs=[.bl true]->SqL K H l (bs.map V.bl)->bs[j]?=some true->(∀ m,m < j->bs[m]?=some false)->j<=100000->Q (.int (j:Nat)) H->ZcX K x vs H Q
def ZlP (K:Qa):V->List V->Hp->VK->Prop:=fun x vs H Q=>ZcX K x vs H Q
theorem VB:∀ bs:List Bool,(bs.map GF).countP Zae=(bs.filter id).length
 | []=>rfl
 | true::r=>by rw [map_cons,List.countP_cons_of_pos rfl,VB r];rfl
 | false::r=>by rw [map_cons,List.countP_cons_of_neg (by decide),VB r];rfl
section
variable {X:Cx}
theorem Zhy (A:Qz)(s:Qd){bs:List Bool}{y:Qb}(h:y∈bs.map GF):SeqAt.EqAt A s y (.bool true) (Zae y):=by
 obtain ⟨b,_,rfl⟩:=mem_map.mp h
 have:=SeqAt.EqAt.bool_bool (A:=A) (s:=s) b true
 cases b<;>exact this
theorem ZhX:MtR X "list.count" (ZlN X.K):=by
 intro pins s σ H x vs v us Q I W rv h
 obtain ⟨l,bs,rfl,rfl,hl,q⟩:=h
 cases W
 obtain ⟨u,rfl,ru⟩:=Yq rv
 obtain rfl:u=GF true:=ru
 obtain ⟨Z,r,ht,_⟩:=I.list hl
 obtain ⟨⟨cls,dd,U,sl⟩,n,J,G,B,S⟩:=ht
 have hi:=Vr r
 dsimp only at G B S
 subst G B S
 subst hi
 refine RV Se ⟨_,J,rfl⟩ PySem.F.entry_list_count (PySem.F.args_list_count_2 _ _) (PySem.SeqAt.list_countAt l _ n none sl (.bool true) Zae) ⟨J,fun y hy=>Zhy _ _ (bs:=bs) (by simpa using hy),?_⟩
 rw [show ((bs.map GF).toArray).toList=bs.map GF from rfl,VB]
 exact ⟨.int ((bs.filter id).length:Nat),H,I.tok _,⟨_,rfl⟩,q⟩
theorem ZhY:MtR X "list.index" (ZlP X.K):=by
 intro pins s σ H x vs v us Q I rx rv h
 obtain ⟨l,bs,j,rfl,rfl,hl,h1,h2,h3,q⟩:=h
 cases rx
 obtain ⟨u,rfl,ru⟩:=Yq rv
 obtain rfl:u=GF true:=ru
 obtain ⟨its,r,ht,_⟩:=I.list hl
 obtain ⟨⟨Z,dd,S,sl⟩,n,J,W,B,U⟩:=ht
 have hi:=Vr r
 dsimp only at W B U
 subst W B U
 subst hi
 have hj:j < bs.length:=(Qk.mp h1).1
 refine RV Sf ⟨_,J,rfl⟩ PySem.F.entry_list_index (PySem.F.args_list_index_2 _ _)
  (PySem.SeqAt.list_indexAt l _ n none sl (.bool true) Zae j (by simpa using hj) (by omega) ?_ ?_) ⟨J,fun y hy=>Zhy _ _ (bs:=bs) (by simpa using hy),⟨.int (j:Nat),H,I.tok _,⟨_,rfl⟩,q⟩⟩
 ·have:bs[j]=true:=(Qk.mp h1).2
  simp [this,Zae]
 ·intro m hm G
  obtain ⟨z1,z2⟩:=Qk.mp (h2 m G)
  simp [z2,Zae]
end
def ZhP (names:List (Str×JB))(sc:Scope):Bool :=
 (sc.kind == .function&&(!sc.isCoroutine&&!sc.isGenerator))&&sc.names.all fun y=>(y.2 != .cell&&y.2 != .local)&&(y.2 != .free || names.lookup y.1 == some .cell)
theorem LamOk.of {X:Cx}{sc:Scope}(st:Stmt)(S:X.env.scope=Zk st)(U:X.fn=fun _=>true)(B:ZhP (Zk st).names sc=true):LamOk X sc:=by
 unfold ZhP at B
 simp only [QJ,all_eq_true,PB,bne_iff_ne,beq_iff_eq,GR] at B
 obtain ⟨⟨Z,W,c3⟩,J⟩:=B
 refine ⟨⟨Z,W,c3,fun y G=>(J y G).1.1,fun y G=>(J y G).1.2⟩,fun y G I=>?_,fun x=>by rw [U]⟩
 show X.env.scope.names.lookup y.1=_
 rw [S];exact (J y G).2.resolve_left fun z=>z I
def WK (q:Str):YD:=fun Pl h=>LamsAt h Pl q
theorem LamsAt.same {H H':Hp}{Pl:Addr}{q:Str}(h:LamsAt H Pl q)(s:Same H H'):LamsAt H' Pl q:=by
 obtain ⟨ts,e,f⟩:=h
 exact ⟨ts,s _ _ e,fun p hp=>s _ _ (f p hp)⟩
instance {q:Str}:Up (WK q):=⟨fun h s=>LamsAt.same h s⟩
theorem Sep.grow {Δ:Rs}{H H':Hp}{Pl:Addr}{q:Str}(S:Sep ((Pl,WK q)::Δ) H)(g:Grown Pl H H')(L:LamsAt H' Pl q):Sep ((Pl,WK q)::Δ) H':=by
 refine S.call (L:=[Pl]) (fun b o nb e=>g b o (fun z=>nb (by simp [z])) e) fun h l r=>⟨fun b hb=>?_,some_of H' [Pl],WT,?_,fun b o e m=>.inl (Wz e m)⟩
 ·rw [mem_singleton.mp hb]
  obtain ⟨ts,e,_⟩:=r
  exact ⟨_,e,rfl⟩
 ·obtain ⟨ts,e,f⟩:=L
  exact ⟨ts,(XV (by simp)).trans e,fun p hp=>UO (f p hp) rfl⟩
theorem Grown.more {Pl:Addr}{H H1 H2:Hp}(g:Grown Pl H H1)(s:Same H1 H2):Grown Pl H H2:=fun b o n e=>s _ _ (g b o n e)
inductive Wl (P:Qi)(w:Qu)(K:Qa)(mg:Str->Option Qb)(base:Heap)(k:Nat)(RK:Addr->Str->Prop)(vs:List V)(H:Hp)(Q:VK)(w_3:XK):Prop
 | mk (q cs cc qual T:_):vs=[.ref q]->Thk P w K mg base k cs cc qual q T->Has cs H->H cc=some (.ext (YK cc qual))->(∀ (H1:Hp) (Qc:VK) (Ec:XK),Same H H1->(∀ v H',(Hasn cs H'->∀ a H2,Same (cov H' cs) H2->H2 a=some (.tup [.str "told",v])->Q (.ref a) H2)->Qc v H')->(∀ C dx word what H',RK C word->H' dx=some (.xd [("what",what)])->(Hasn cs H'->∀ a H2,Same (cov H' cs) H2->H2 a=some (.tup [.str "refused",.str word,what])->Q (.ref a) H2)->Ec (.ref C) (some dx) H')->T (unc H1 cs) Qc Ec)->Wl P w K mg base k RK vs H Q w_3
def ZgU (RK:Addr->Str->Prop)(Pl:Addr)(qual:Str)(te:(St->XK)->TE):TE:=fun σ H Q=>LamsAt H Pl qual/\∀(H1:Hp)(Qc:VK)(Ec:XK),Grown Pl H H1->LamsAt H1 Pl qual ->
 (∀ v H',(∀ a H2,Same H' H2->H2 a=some (.tup [.str "told",v])->Q (.ref a) H2)->Qc v H') ->
 (∀ C dx word what H',RK C word->H' dx=some (.xd [("what",what)])->(∀ a H2,Same H' H2->H2 a=some (.tup [.str "refused",.str word,what])->Q (.ref a) H2)->Ec (.ref C) (some dx) H')->te (fun _=>Ec) σ H1 Qc
section
variable {P:Qi}{w:Qu}{K:Qa}{mg:Str->Option Qb}{base:Heap}{k:Nat}{RK:Addr->Str->Prop}{Pl:Addr}{qual:Str}{te:(St->XK)->TE}{σ:St}{H:Hp}{Q:VK}
theorem Zma (h:ZgU RK Pl qual te σ H Q):ZkK P w K mg base k (Wl P w K mg base k RK) Pl qual te σ H Q:=by
 obtain ⟨hL,h⟩:=h
 refine ⟨hL,fun q H1 cs cc gr L1 W Z S=>⟨q,cs,cc,qual,_,rfl,Z,has_cov,YQ W _ _ S,fun U Qc Ec s1 hq he=>?_⟩⟩
 have s2:=Vn W s1
 refine h (unc U cs) Qc Ec (gr.more s2) (L1.same s2) (fun v H' f=>hq v H' fun G a H2 B e=>⟨has_cov.same B,f a _ (Vn G B) ?_⟩) (fun C dx J I H' rk ed f=>he C dx J I H' rk ed fun G a H2 B e=>⟨has_cov.same B,f a _ (Vn G B) ?_⟩)
 ·rw [ZH (XC (has_cov.same B) e fun _ z=>by cases z)];exact e
 ·rw [ZH (XC (has_cov.same B) e fun _ z=>by cases z)];exact e
end
section
variable {X:Cx}{k j:Nat}{RK:Addr->Str->Prop}{f:Str}{pn:Str}{p0 lpos pos:Pos}{args:GY}{body:Expr}{sc:Scope}{te:(St->XK)->TE}{c Pl:Addr}
theorem ZlD (D:Def X.prog X.w X.K X.mg X.base j f [pn] (Wl X.prog X.w X.K X.mg X.base (k+1) RK))(hr:Room j X.A)(O:LamOk X sc)(G:X.env.code=.ref c)(C:JD X.K c Pl=true)(W:Xn X.base X.mg)
 (he:∀ (q:Addr) (S:List (Str×Addr)) (cc:Addr) (A:Qz) (outer:List Env) (s:Qd) (H:Hp) (Z:Qb->Qd->Prop) (EE:St->XK),Room k (A.deeper (ZZ (X.env.qual++"<lambda>") sc s.heap.objs.size q S (.ref cc)))->YR (YU X.prog X.w X.K X.mg X.base X.N (ZZ (X.env.qual++"<lambda>") sc s.heap.objs.size q S (.ref cc)) A outer s H Z) EE ->
  PE (YU X.prog X.w X.K X.mg X.base X.N (ZZ (X.env.qual++"<lambda>") sc s.heap.objs.size q S (.ref cc)) A outer s H Z) body (te EE))
 (J:Od args X.env=([],[]):=by rfl) (B:∀ S pm cc ct,Ti (Oa "<lambda>" (X.env.qual++"<lambda>") args body sc S pm (.ref cc) ct) ⟨[],[]⟩=pure []:=by intros;rfl)
 (hg:Gl X f:=by rfl) (hdb:(f == ("__debug__":Str))=false:=by decide)
 (U:QA [Expr.Lambda args body sc lpos] X.env=(false,eval (.Lambda args body sc lpos) X.env)::QA [] X.env:=by rfl) :
 PE X (.Call (.Name f p0) [.Lambda args body sc lpos] [] pos) (ZgU RK Pl (X.env.qual++"<lambda>") te) :=
 fun pins s σ H Q I h=>ZlA D hr O G C W he J B hg hdb U pins s σ H Q I (Zma h)
end
end L2
namespace L2
open PySem
structure Fnd where
 wd:Nat
 nm:Str
 ol:V
def Fnd.vs (f:Fnd):List V:=[.int (f.wd:Int),.str f.nm,f.ol]
def UU (fs:List Fnd):YD:=fun l h=>∃ as:List Addr,h l=some (.lst (as.map V.ref))/\as.length=fs.length/\∀(i:Nat)(a:Addr)(f:Fnd),as[i]?=some a->fs[i]?=some f->h a=some (.tup f.vs)
abbrev tFl (lf lu:Addr):List (Str×V):=[("finds",.ref lf),("unused",.ref lu)]
def Tks (CT:Addr)(fs:List Fnd)(us:List Bool):YD:=fun t h=>∃ lf lu,Sep [(t,Xs CT (tFl lf lu)),(lf,UU fs),(lu,ZX (us.map V.bl))] h
instance {CT:Addr} {fs:List Fnd} {us:List Bool}:Up (Tks CT fs us):=⟨fun ⟨lf,lu,S⟩ s=>⟨lf,lu,S.mono s⟩⟩
structure Hs where
 dfs:List (Zo×V)
 pls:List Yp
 nds:List Nd
 tabs:List (Zo×V)
 spots:List Nat
 ins:List Nat
 fds:List Fnd
 us:List Bool
abbrev nI (n:Nat):V:=.int (n:Int)
theorem Zhk {xs:List Nat}{k:Nat}(h:xs.getLast?=some k):YG (xs.map nI) (-1)=some (nI k):=by
 obtain ⟨ys,rfl⟩:=List.getLast?_eq_some_iff.mp h
 have G:((ys++[k]).map nI).length=ys.length+1:=by rw [length_map,length_append];rfl
 have e:((ys++[k]).map nI)[ys.length]?=some (nI k):=by rw [map_append,getElem?_append_right (by simp)];simp
 have B:Wm (ys.length+1) (-1)=some ys.length:=by
  unfold Wm
  rw [if_neg (by omega),if_pos (by omega),show (-1+((ys.length+1:Nat):Int)).toNat=ys.length by omega]
 unfold YG
 rw [G,B];exact e
abbrev VC (d r sp i t:Addr):List (Str×V):=[("defaults",.ref d),("ways",.ref r),("spots",.ref sp),("inside",.ref i),("held",.ref t)]
abbrev ZiV (K:Qa)(CH CR CS CT:Addr)(s:Hs)(h d r sp i t:Addr):Rs :=
 [(h,Xs CH (VC d r sp i t)),(d,Uv s.dfs),(r,Vs K CR CS s.pls s.nds s.tabs),(sp,ZX (s.spots.map nI)),(i,ZX (s.ins.map nI)),(t,Tks CT s.fds s.us)]
def WV (K:Qa)(CH CR CS CT:Addr)(s:Hs):YD:=fun h hp=>∃ d r sp i t,Sep (ZiV K CH CR CS CT s h d r sp i t) hp
section
variable {K:Qa}{CH CR CS CT h d r sp i t lf lu:Addr}{s:Hs}{fs:List Fnd}{us:List Bool}{Δ:Rs}{H:Hp}
instance:Up (WV K CH CR CS CT s):=⟨fun ⟨d,r,sp,i,t,S⟩ e=>⟨d,r,sp,i,t,S.mono e⟩⟩
theorem Sep.halO (S:Sep ((h,WV K CH CR CS CT s)::Δ) H):∃ d r sp i t,Sep ((h,Xs CH (VC d r sp i t))::(d,Uv s.dfs)::(r,Vs K CR CS s.pls s.nds s.tabs)::(sp,ZX (s.spots.map nI))::(i,ZX (s.ins.map nI))::(t,Tks CT s.fds s.us)::Δ) H:=by
 obtain ⟨h',l,⟨d,r,sp,i,t,G⟩,S⟩:=S
 exact ⟨d,r,sp,i,t,Sep.nest (a:=h) (Γ:=ZiV K CH CR CS CT s h d r sp i t) l G S⟩
theorem Sep.halC (S:Sep ((h,Xs CH (VC d r sp i t))::(d,Uv s.dfs)::(r,Vs K CR CS s.pls s.nds s.tabs)::(sp,ZX (s.spots.map nI))::(i,ZX (s.ins.map nI))::(t,Tks CT s.fds s.us)::Δ) H):Sep ((h,WV K CH CR CS CT s)::Δ) H :=
 Sep.pack (Γ:=ZiV K CH CR CS CT s h d r sp i t) S fun h' G=>⟨d,r,sp,i,t,G⟩
theorem Sep.tksO (S:Sep ((t,Tks CT fs us)::Δ) H):∃ lf lu,Sep ((t,Xs CT (tFl lf lu))::(lf,UU fs)::(lu,ZX (us.map V.bl))::Δ) H:=by
 obtain ⟨h',l,⟨lf,lu,G⟩,S⟩:=S
 exact ⟨lf,lu,Sep.nest (a:=t) (Γ:=[(t,Xs CT (tFl lf lu)),(lf,UU fs),(lu,ZX (us.map V.bl))]) l G S⟩
theorem Sep.tksC (S:Sep ((t,Xs CT (tFl lf lu))::(lf,UU fs)::(lu,ZX (us.map V.bl))::Δ) H):Sep ((t,Tks CT fs us)::Δ) H :=
 Sep.pack (Γ:=[(t,Xs CT (tFl lf lu)),(lf,UU fs),(lu,ZX (us.map V.bl))]) S fun h' G=>⟨lf,lu,G⟩
theorem Zgj:(VC d r sp i t).lookup ("defaults":Str)=some (V.ref d):=rfl
theorem Zjo:(VC d r sp i t).lookup ("ways":Str)=some (V.ref r):=rfl
theorem Zgk:(VC d r sp i t).lookup ("spots":Str)=some (V.ref sp):=rfl
theorem hf_i:(VC d r sp i t).lookup ("inside":Str)=some (V.ref i):=rfl
theorem hf_h:(VC d r sp i t).lookup ("held":Str)=some (V.ref t):=rfl
theorem Yd {m:Str}(h:[("defaults":Str),"ways","spots","inside","held"].all (fun k=>!(m == k))=true):(VC d r sp i t).lookup m=none:=by
 simp only [RL,OG,RM,QJ,GR] at h
 obtain ⟨h1,h2,B,G,I⟩:=h
 simp [VC,Gv,h1,h2,B,G,I]
end
structure Xu (K:Qa)(CH:Addr):Prop where
 cl:Cls K CH
 nd:NoAttr K CH "defaults"
 nw:NoAttr K CH "ways"
 ns:NoAttr K CH "spots"
 ni:NoAttr K CH "inside"
 nh:NoAttr K CH "held"
structure Zga (K:Qa)(CT:Addr):Prop where
 cl:Cls K CT
 nf:NoAttr K CT "finds"
 nu:NoAttr K CT "unused"
end L2
namespace K35
open PySem L2
section
variable {P:Qi}{w:Qu}{K:Qa}{mg:Str->Option Qb}{base:Heap}{CH CR CS CT:Addr}
inductive Zcz (CT:Addr)(vs:List V)(H:Hp)(Q:VK)(w_3:XK):Prop
 | mk (t dx:Addr) (H0:Hp) (Δ:Rs):vs=[.ref t]->H=upd (upd H0 dx (.own t)) t (.ins CT dx [])->H0 t=none->H0 dx=none->dx≠t->Sep Δ H0->(∀ H',Sep ((t,Tks CT [] [])::Δ) H'->Q .non H')->Zcz CT vs H Q w_3
abbrev nTIn:List Str:=["self"]
abbrev ZkE:List Str:=["self"]
theorem ZoX:Zp nTIn ZkE (Zk c_Tokens___init__):={}
theorem ZjE {f:Addr}{fd:Qn}(F:Fun K "__init__" "Tokens.__init__" c_Tokens___init__ f fd)(T:Yi mg)(TT:Zga K CT):FnOk P w K mg base ZF 1 f fd ZkE (Zcz CT):=by
 refine F.ok ZoX (fun cdv A outer s H vs Q E hr h=>?_)
 obtain ⟨t,dx,W,Δ,rfl,rfl,h1,h2,h3,S0,q⟩:=h
 have S:=((S0.new h2 (.own t)).new (p:=t) (by rw [Zg h3.symm];exact h1) (.ins CT dx [])).drop dx
 generalize upd (upd W dx (.own t)) t (.ins CT dx [])=H at *
 refine' ⟨?t,?h,?r⟩
 case h =>
  conv=>arg 2;whnf
  with_reducible refine' (Zd ?h1 (Zi ?h2))
  case h1=>exact YZ (pv 0) (Yc Za) rfl
  case h2=>exact YZ (pv 0) (Yc Za) rfl
 try dsimp only [ZN,Cx.nox]
 refine US ?_
 intro zD zS zN1
 refine ⟨(by show 0<=Qj;decide),fun lf I=>?_⟩
 generalize B:upd H lf _=H2
 have J:=S.newE I B
 clear B
 refine ⟨_,rfl,t,CT,dx,_,rfl,J.get t,TT.cl,TT.nf,(by show 0 < 1000;decide),?_⟩
 generalize B:upd H2 t _=Z
 have S3:=J.putE B
 clear B
 refine ⟨(by show 0<=Qj;decide),fun lu G=>?_⟩
 generalize B:upd Z lu _=H4
 have U:=S3.newE G B
 clear B
 refine ⟨_,rfl,t,CT,dx,_,rfl,U.get t,TT.cl,TT.nu,(by show 1 < 1000;decide),?_⟩
 generalize B:upd H4 t _=H5
 have S5:=U.putE B
 clear B
 have S6:=S5.say lf (UU []) fun h z=>⟨[],z,rfl,fun i a s e=>by simp at e⟩
 have S7:=S6.say t (Xs CT (tFl lf lu)) fun h z=>⟨dx,z⟩
 exact q _ (Sep.tksC (us:=[]) (((S7.pull lu).pull lf).pull t))
def hs0:Hs:=⟨[],[],[.bare],[(QQ 0,.bl true)],[0],[0],[],[]⟩
inductive Zcx (K:Qa)(CH CR CS CT:Addr)(vs:List V)(H:Hp)(Q:VK)(w_3:XK):Prop
 | mk (p dx:Addr) (H0:Hp) (Δ:Rs):vs=[.ref p]->H=upd (upd H0 dx (.own p)) p (.ins CH dx [])->H0 p=none->H0 dx=none->dx≠p->Sep Δ H0->(∀ H',Sep ((p,WV K CH CR CS CT hs0)::Δ) H'->Q .non H')->Zcx K CH CR CS CT vs H Q w_3
abbrev nHIn:List Str:=["self"]
abbrev ZkC:List Str:=["self"]
theorem ZoI:Zp nHIn ZkC (Zk c_Hall___init__):={}
theorem ZjC {f:Addr}{fd:Qn}(F:Fun K "__init__" "Hall.__init__" c_Hall___init__ f fd)(T:Yi mg)(G:Xu K CH)(DRd:Zcb P w K mg base 11 CR "Roads" ["self"] (Zcy K CR CS))(DTk:Zcb P w K mg base 1 CT "Tokens" ["self"] (Zcz CT)):FnOk P w K mg base ZF 13 f fd ZkC (Zcx K CH CR CS CT):=by
 refine F.ok ZoI (fun cdv A outer s H vs Q E hr h=>?_)
 obtain ⟨p,dx,H0,Δ,rfl,rfl,h1,h2,h3,S0,q⟩:=h
 have S:=((S0.new h2 (.own p)).new (p:=p) (by rw [Zg h3.symm];exact h1) (.ins CH dx [])).drop dx
 generalize upd (upd H0 dx (.own p)) p (.ins CH dx [])=H at *
 have hr2:=hr.mono (show 2<=12 by decide)
 refine' ⟨?t,?h,?r⟩
 case h =>
  conv=>arg 2;whnf
  with_reducible refine' (Zd ?h1 (Zd ?h2 (Zd ?h3 (Zd ?h4 (Zi ?h5)))))
  case h1=>exact YZ (pv 0) ZaW rfl
  case h2=>exact YZ (pv 0) (Zdo DRd hr) rfl
  case h3=>exact YZ (pv 0) (Yc (Zc Zh Za)) rfl
  case h4=>exact YZ (pv 0) (Yc (Zc Zh Za)) rfl
  case h5=>exact YZ (pv 0) (Zdo DTk hr2) rfl
 try dsimp only [ZN,Cx.nox]
 refine zs5 ?_
 intro zD zS zN4 zN3 zN2 zN1
 intro d hd
 generalize B:upd H d _=H1
 have S1:=S.newE hd B
 clear B
 refine ⟨_,rfl,p,CH,dx,_,rfl,S1.get p,G.cl,G.nd,(by show 0 < 1000;decide),?_⟩
 generalize B:upd H1 p _=H2
 have S2:=S1.putE B
 clear B
 intro r dr hr1 Z hne
 refine ⟨r,dr,_,_,rfl,rfl,hr1,Z,hne,S2,fun H3 S3=>⟨rfl,?_⟩⟩
 refine ⟨_,rfl,p,CH,dx,_,rfl,S3.get p,G.cl,G.nw,(by show 1 < 1000;decide),?_⟩
 generalize B:upd H3 p _=H4
 have S4:=S3.putE B
 clear B
 refine ⟨(by show 1<=Qj;decide),fun sp W=>?_⟩
 generalize B:upd H4 sp _=H5
 have S5:=S4.newE W B
 clear B
 refine ⟨_,rfl,p,CH,dx,_,rfl,S5.get p,G.cl,G.ns,(by show 2 < 1000;decide),?_⟩
 generalize B:upd H5 p _=H6
 have S6:=S5.putE B
 clear B
 refine ⟨(by show 1<=Qj;decide),fun i hi=>?_⟩
 generalize B:upd H6 i _=H7
 have S7:=S6.newE hi B
 clear B
 refine ⟨_,rfl,p,CH,dx,_,rfl,S7.get p,G.cl,G.ni,(by show 3 < 1000;decide),?_⟩
 generalize B:upd H7 p _=H8
 have S8:=S7.putE B
 clear B
 intro t dt ht1 U hnt
 refine ⟨t,dt,_,_,rfl,rfl,ht1,U,hnt,S8,fun H9 S9=>⟨rfl,?_⟩⟩
 refine ⟨_,rfl,p,CH,dx,_,rfl,S9.get p,G.cl,G.nh,(by show 4 < 1000;decide),?_⟩
 generalize B:upd H9 p _=H10
 have I:=S9.putE B
 clear B
 have J:=I.say p (Xs CH (VC d r sp i t)) fun h z=>⟨dx,z⟩
 exact q _ (Sep.halC (s:=hs0) (((((J.pull t).pull i).pull sp).pull r).pull d |>.pull p))
abbrev WL (K:Qa)(CH CR CS CT h:Addr)(s:Hs)(H:Hp):Prop:=WV K CH CR CS CT s h H
def wOk (s:Hs)(i:Int):Prop:=0<=i/\i < (s.spots.length:Int)
abbrev ExW (E:XK)(CX:Addr)(v:V)(H:Hp):Prop:=∀ dx H',Same H H'->H' dx=some (.xd [("what",v)])->E (.ref CX) (some dx) H'
inductive VR (K:Qa)(CH CR CS CT CX:Addr)(vs:List V)(H:Hp)(Q:VK)(E:XK):Prop
 | mk (h:Addr) (s:Hs) (i:Int):vs=[.ref h,.int i]->WL K CH CR CS CT h s H->(wOk s i->Q .non H)->(¬ wOk s i->ExW E CX (.int i) H)->VR K CH CR CS CT CX vs H Q E
abbrev nHCk:List Str:=["self","world"]
abbrev Zaj:List Str:=["self","world"]
theorem ZoF:Zp nHCk Zaj (Zk c_Hall_check_world):={}
theorem Zfr {CX f:Addr}{fd:Qn}(F:Fun K "check_world" "Hall.check_world" c_Hall_check_world f fd)(T:Yi mg)(J:Xu K CH)(DE:UT P w K mg base 1 CX "NoWorld"):FnOk P w K mg base (XH P w base) 3 f fd Zaj (VR K CH CR CS CT CX):=by
 refine F.okX ZoF (fun cdv A outer s H vs Q E hr h W=>?_)
 obtain ⟨h,s,i,rfl,⟨d,r,sp,il,t,S⟩,Z,U⟩:=h
 obtain ⟨dx,ob⟩:=S.get h
 refine' ⟨?t,?h,?r⟩
 case h =>
  conv=>arg 2;whnf
  with_reducible refine' (Zi (Yb ?h1 (Zi ?h2) ZM))
  case h1=>exact VN (Zej ZkA Zdm Zh (pv 1) (Zu Ya rfl T.len QU (Zc (ZC (pv 0) rfl) Za)))
  case h2=>exact Vl W DE hr rfl (Zc (pv 1) Za)
 try dsimp only [ZN,Cx.nox]
 refine ⟨_,rfl,_,_,rfl,rfl,_,rfl,?_⟩
 by_cases B:0<=i
 ·rw [decide_eq_true B]
  refine Ys ⟨_,rfl,h,CH,dx,_,_,rfl,ob,J.cl,J.ns,Zgk,sp,_,rfl,.inl (SqL.of (S.get sp)),_,_,rfl,rfl,_,rfl,?_⟩
  rw [length_map]
  by_cases G:i < (s.spots.length:Int)
  ·rw [decide_eq_true G]
   exact ZQ (Z ⟨B,G⟩)
  ·rw [decide_eq_false G]
   exact Ys ⟨_,rfl,_,rfl,fun d I=>U (fun z=>G z.2) d _ (Zm I _) Zf⟩
 ·rw [decide_eq_false B]
  refine ZQ ⟨_,rfl,Ys ?_⟩
  exact ⟨_,rfl,_,rfl,fun d I=>U (fun z=>B z.1) d _ (Zm I _) Zf⟩
inductive Zds (K:Qa)(CH CR CS CT:Addr)(vs:List V)(H:Hp)(Q:VK)(w_3:XK):Prop
 | mk (h:Addr) (s:Hs) (k:Nat):vs=[.ref h,.int (k:Int)]->WL K CH CR CS CT h s H->k < s.spots.length->Q .non H->Zds K CH CR CS CT vs H Q w_3
theorem Zoh {CX:Addr}{vs:List V}{H:Hp}{Q:VK}{E:XK}(h:Zds K CH CR CS CT vs H Q E):VR K CH CR CS CT CX vs H Q (fun _ _ _=>False):=by
 obtain ⟨h,s,k,e,R,B,q⟩:=h
 exact ⟨h,s,k,e,R,fun _=>q,fun z=>absurd ⟨by omega,by omega⟩ z⟩
inductive ZgP (K:Qa)(CH CR CS CT:Addr)(vs:List V)(H:Hp)(Q:VK)(w_3:XK):Prop
 | mk (h:Addr) (s:Hs):vs=[.ref h]->WL K CH CR CS CT h s H->Q (.int (s.spots.length:Int)) H->ZgP K CH CR CS CT vs H Q w_3
abbrev nHWd:List Str:=["self"]
abbrev Zgu:List Str:=["self"]
theorem ZoO:Zp nHWd Zgu (Zk c_Hall_worlds):={}
theorem Zng {f:Addr}{fd:Qn}(F:Fun K "worlds" "Hall.worlds" c_Hall_worlds f fd)(T:Yi mg)(B:Xu K CH):FnOk P w K mg base ZF 1 f fd Zgu (ZgP K CH CR CS CT):=by
 refine F.ok ZoO (fun I A outer s H vs Q E J h=>?_)
 obtain ⟨h,s,rfl,⟨d,r,sp,i,t,S⟩,q⟩:=h
 obtain ⟨dx,G⟩:=S.get h
 refine' ⟨?t,?h,?r⟩
 case h =>
  conv=>arg 2;whnf
  with_reducible refine' (Zi ?h1)
  case h1=>exact Zq (Zu Ya rfl T.len QU (Zc (ZC (pv 0) rfl) Za))
 try dsimp only [ZN,Cx.nox]
 refine ⟨_,rfl,h,CH,dx,_,_,rfl,G,B.cl,B.ns,Zgk,sp,_,rfl,.inl (SqL.of (S.get sp)),?_⟩
 rw [length_map];exact q
inductive ZbU (K:Qa)(CH CR CS CT CX:Addr)(vs:List V)(H:Hp)(Q:VK)(E:XK):Prop
 | mk (h:Addr) (s:Hs) (i:Int):vs=[.ref h,.int i]->WL K CH CR CS CT h s H->((∀ (k p:Nat),i=(k:Int)->s.spots[k]?=some p->Q (.int (p:Int)) H))->(¬ wOk s i->ExW E CX (.int i) H)->ZbU K CH CR CS CT CX vs H Q E
abbrev nHPl:List Str:=["self","world"]
abbrev Vk:List Str:=["self","world"]
theorem ZoL:Zp nHPl Vk (Zk c_Hall_place):={}
theorem Zft {CX f:Addr}{fd:Qn}(F:Fun K "place" "Hall.place" c_Hall_place f fd)(T:Yi mg)(G:Xu K CH)(B:DefMX P w K mg base 3 CH "check_world" Zaj (VR K CH CR CS CT CX)):FnOk P w K mg base (XH P w base) 4 f fd Vk (ZbU K CH CR CS CT CX):=by
 refine F.okX ZoL (fun cdv A outer s H vs Q E Z h W=>?_)
 obtain ⟨h,s,i,rfl,R,U,q2⟩:=h
 obtain ⟨d,r,sp,il,t,S⟩:=id R
 obtain ⟨dx,I⟩:=S.get h
 refine' ⟨?t,?h,?r⟩
 case h =>
  conv=>arg 2;whnf
  with_reducible refine' (Zd ?h1 (Zi ?h2))
  case h1=>exact Yh (Us W B G.cl Z (pv 0) (Zc (pv 1) Za))
  case h2=>exact Zq (ZD ZE (ZC (pv 0) rfl) (pv 1) (fun _ _=>rfl))
 try dsimp only [ZN,Cx.nox]
 refine US ?_
 intro zD zS zN1
 refine ⟨_,rfl,h,dx,_,rfl,I,Yd (by decide +kernel),_,rfl,h,s,i,rfl,R,fun ⟨c0,c1⟩=>?_,q2⟩
 obtain ⟨k,rfl⟩:∃ k:Nat,i=(k:Int):=⟨i.toNat,by omega⟩
 obtain ⟨p,J⟩:∃ p,s.spots[k]?=some p:=⟨_,getElem?_eq_getElem (by omega)⟩
 exact ⟨_,rfl,h,CH,dx,_,_,rfl,I,G.cl,G.ns,Zgk,_,rfl,sp,_,_,_,rfl,rfl,SqL.of (S.get sp),ZI (by rw [getElem?_map,J];rfl),U k p rfl J⟩
inductive Zau (K:Qa)(CH CR CS CT:Addr)(vs:List V)(H:Hp)(Q:VK)(w_3:XK):Prop
 | mk (h:Addr) (s:Hs) (k p:Nat):vs=[.ref h,.int (k:Int)]->WL K CH CR CS CT h s H->s.spots[k]?=some p->Q (.int (p:Int)) H->Zau K CH CR CS CT vs H Q w_3
theorem Zox {CX:Addr}{vs:List V}{H:Hp}{Q:VK}{E:XK}(h:Zau K CH CR CS CT vs H Q E):ZbU K CH CR CS CT CX vs H Q (fun _ _ _=>False):=by
 obtain ⟨h,s,k,p,e,R,B,q⟩:=h
 refine ⟨h,s,k,e,R,fun G I z h1=>?_,fun z=>absurd ⟨by omega,by have:=(Qk.mp B).1;omega⟩ z⟩
 obtain rfl:k=G:=by omega
 rw [B] at h1;cases h1;exact q
inductive ZbT (K:Qa)(CH CR CS CT:Addr)(vs:List V)(H:Hp)(Q:VK)(w_3:XK):Prop
 | mk (h:Addr) (s:Hs) (k:Nat):vs=[.ref h]->WL K CH CR CS CT h s H->s.ins.getLast?=some k->Q (.int (k:Int)) H->ZbT K CH CR CS CT vs H Q w_3
abbrev nHNo:List Str:=["self"]
abbrev ZbH:List Str:=["self"]
theorem ZoK:Zp nHNo ZbH (Zk c_Hall_now):={}
theorem ZmZ {f:Addr}{fd:Qn}(F:Fun K "now" "Hall.now" c_Hall_now f fd)(T:Yi mg)(B:Xu K CH):FnOk P w K mg base ZF 1 f fd ZbH (ZbT K CH CR CS CT):=by
 refine F.ok ZoK (fun I A outer s H vs Q E U h=>?_)
 obtain ⟨h,s,k,rfl,⟨d,r,sp,i,t,S⟩,J,q⟩:=h
 obtain ⟨dx,G⟩:=S.get h
 refine' ⟨?t,?h,?r⟩
 case h =>
  conv=>arg 2;whnf
  with_reducible refine' (Zi ?h1)
  case h1=>exact Zq (ZD ZE (ZC (pv 0) rfl) (ZkB ZiT Zh) (fun _ _=>rfl))
 try dsimp only [ZN,Cx.nox]
 exact ⟨_,rfl,h,CH,dx,_,_,rfl,G,B.cl,B.ni,hf_i,1,rfl,i,_,_,_,rfl,rfl,SqL.of (S.get i),Zhk J,q⟩
end
end K35
namespace L2
open PySem PySem.W
def Zbi (v:Option (Option Qb))(x:String):Bool:=match v with
 | some (some (.builtin b))=>b == x
 | _=>false
def Zdl (v:Option (Option Qb)):Bool:=match v with
 | some none=>true
 | _=>false
def Zac (K:Qa)(CRo C fI:Addr)(cs n1 n2:List Addr)(j:Nat):Bool :=
 ((ZeF K C&&Zdl (Qv K (.ref C) "what"))&&(Zbi (Qv K (.ref C) "__getattribute__") "BaseException.__getattribute__"&&(Zdl (Qv K (.ref C) "__getattr__")&&Zbi (Qv K (.ref C) "__class__") "object.__class__"))) &&
 (((match Qv K (.ref C) "__init__" with | some (some (.ref a))=>a == fI | _=>false)&&Zbi (Qv K (.ref C) "__setattr__") "object.__setattr__")&&keepIn K (.ref C)) &&
 ((exmOne K (.ref C) (.ref CRo) == some true&&kitOne K (.ref C) (.type "ValueError") == some true) &&
  (((Pc cs.length).all fun i=>kitOne K (.ref C) (.ref (cs.getD i 0)) == some (decide (i=j)))&&(kitAny K (.ref C) (n1.map Qm) == some false&&kitAny K (.ref C) (n2.map Qm) == some false)))
structure RefK (K:Qa)(CRo:Addr)(cs n1 n2:List Addr)(C:Addr)(j:Nat):Prop where
 g:XG K C
 cat:exmOne K (.ref C) (.ref CRo)=some true
 ve:kitOne K (.ref C) (.type "ValueError")=some true
 is:∀ i,i < cs.length->kitOne K (.ref C) (.ref (cs.getD i 0))=some (decide (i=j))
 no1:kitAny K (.ref C) (n1.map Qm)=some false
 no2:kitAny K (.ref C) (n2.map Qm)=some false
theorem ZdI {v:Option (Option Qb)}{x:String}(h:Zbi v x=true):v=some (some (.builtin x)):=by
 unfold Zbi at h
 split at h
 ·rw [beq_iff_eq.mp h]
 ·cases h
theorem Zea {v:Option (Option Qb)}(h:Zdl v=true):v=some none:=by
 unfold Zdl at h
 split at h
 ·rfl
 ·cases h
theorem WE {K:Qa}{CRo C B:Addr}{cs G S:List Addr}{j:Nat}(h:Zac K CRo C B cs G S j=true):RefK K CRo cs G S C j/\(isFn K (.ref B)=true->XF K C B):=by
 unfold Zac at h
 simp only [QJ,beq_iff_eq,all_eq_true,List.mem_range] at h
 obtain ⟨⟨⟨⟨I,J⟩,a3,a4,a5⟩,⟨b1,b2⟩,b3⟩,⟨c1,c2⟩,c3,W,c5⟩:=h
 have g:XG K C:=⟨I,Zea J,ZdI a3,Zea a4,ZdI a5⟩
 refine ⟨⟨g,c1,c2,c3,W,c5⟩,fun Z=>?_⟩
 have U:Qv K (.ref C) "__init__"=some (some (.ref B)):=by
  split at b1
  ·rename_i e;rw [e,beq_iff_eq.mp b1]
  ·cases b1
 exact ⟨I,U,ZdI b2,Zea J,Z,b3⟩
end L2
namespace L2
open PySem PySem.Spec PyProof.Rows PyProof.Rows.KTD
section
variable {δ:Type}{Rr:δ->Qb->Prop}{prog:Qi}{w:Qu}{A:Qz}{E:Qb->Qd->Prop}{s:Qd}{a:Addr}{D:List (Str×δ)}{k:Str}{tk:Tok}
end
section
variable {X:Cx}{o e:Expr}{apos cpos:Pos}{te:TE}{d:Addr}{D:List (Str×List V)}
end
end L2
namespace L2
open PySem PySem.Spec PyProof.Rows
section
variable {X:Cx}
end
mutual
theorem DatT.same {K:Qa}{H H':Hp}(s:Same H H'):∀{v d},DatT K H v d->DatT K H' v d
 | _,_,.non=>.non
 | _,_,.int i=>.int i
 | _,_,.str x=>.str x
 | _,_,.tup e q=>.tup (e.tf s.tf) (DatTs.same s q)
theorem DatTs.same {K:Qa}{H H':Hp}(s:Same H H'):∀{vs ds},DatTs K H vs ds->DatTs K H' vs ds
 | _,_,.nil=>.nil
 | _,_,.cons r t=>.cons (DatT.same s r) (DatTs.same s t)
end
section
variable {X:Cx}
end
section
variable {prog:Qi}{w:Qu}{A:Qz}{E:Qb->Qd->Prop}{s:Qd}
end
section
variable {X:Cx}
end
section
variable {prog:Qi}{w:Qu}{A:Qz}{E:Qb->Qd->Prop}{s:Qd}
end
section
variable {prog:Qi}{w:Qu}{A:Qz}{E:Qb->Qd->Prop}{s:Qd}
end
section
variable {X:Cx}
end
section
variable {X:Cx}{pins:List (Addr×Obj)}{σ:St}{H:Hp}{s:Qd}
end
end L2
namespace L2
open PySem
structure FG (K:Qa)(x:Str)(st:Stmt)(f:Addr)(fd:Qn):Prop where
 a:Qp K Ql x=some (some (.ref f))
 F:Fun K x x st f fd
structure FM (K:Qa)(C:Addr)(x q:Str)(st:Stmt)(f:Addr)(fd:Qn):Prop where
 m:Vy K C x f
 F:Fun K x q st f fd
structure FGC (K:Qa)(x:Str)(st:Stmt)(f:Addr)(fd:Qn)(c Pl:Addr):Prop where
 a:Qp K Ql x=some (some (.ref f))
 F:FunC K x x st f fd c Pl
structure CH (K:Qa)(x:Str)(C:Addr):Prop where
 a:Qp K Ql x=some (some (.ref C))
 c:Cls K C
 ms:Sv K C=true
 kp:GH K (.ref C)=true
structure Bs (P:Qi)(w:Qu)(K:Qa)(mg:Str->Option Qb)(base h:Heap):Prop where
 X:K.In h
 G:h.Ns Ql mg
section
variable {P:Qi}{w:Qu}{K:Qa}{mg:Str->Option Qb}{base h:Heap}{x q:Str}{st:Stmt}{f c Pl C:Addr}{fd:Qn}{k:Nat}{ps:List Str}{sp:Sp}{p1 p2 p3 p4 p5:Str}
theorem FG.df (g:FG K x st f fd)(e:Bs P w K mg base h)(o:FnOk P w K mg base ZF k f fd ps sp)(b:Binds K fd ps []):Def P w K mg base k x ps sp:=⟨f,fd,o,b,g.F.kp,Gx e.X e.G g.a⟩
theorem FGC.df (g:FGC K x st f fd c Pl)(e:Bs P w K mg base h)(o:FnOk P w K mg base ZF k f fd ps sp)(b:Binds K fd ps []):Def P w K mg base k x ps sp:=⟨f,fd,o,b,g.F.kp,Gx e.X e.G g.a⟩
theorem FM.df (g:FM K C x q st f fd)(_:Bs P w K mg base h)(o:FnOk P w K mg base ZF k f fd ps sp)(b:Binds K fd ps []):DefM P w K mg base k C x ps sp:=⟨f,fd,o,b,g.m⟩
theorem FM.di {y:Str}(g:FM K C "__init__" q st f fd)(ch:CH K y C)(e:Bs P w K mg base h)(o:FnOk P w K mg base ZF k f fd ps sp)(b:Binds K fd ps []):Zcb P w K mg base k C y ps sp:=⟨f,fd,o,b,⟨ch.ms,g.m.at_,g.m.fn,ch.kp⟩,Gx e.X e.G ch.a⟩
abbrev BA (x q:Str)(st:Stmt)(us:List Qb)(r:List (Str×Qb)):Prop:=∀(kV doc pm:Qb)(an:Option Addr)(cdv ct:Qb),Ti (JR x q (Zab st) (Xx st) (Zk st) .none kV doc pm an cdv ct) ⟨us,[]⟩=pure r
theorem Xk {B:Type}{us:List B}{n:Nat}(h:us.length=n+1):∃ u r,us=u::r/\r.length=n:=by
 cases us with
 | nil=>cases h
 | cons u r=>exact ⟨u,r,rfl,Nat.succ.inj h⟩
theorem Fun.b1 (F:Fun K x q st f fd)(h:∀ u,BA x q st [u] [(p1,u)]):Binds K fd [p1] []:=F.binds fun a b c d e g us B=>by
 obtain ⟨u,us,rfl,C⟩:=Xk B
 cases eq_nil_of_length_eq_zero C;exact h u a b c d e g
theorem Fun.b2 (F:Fun K x q st f fd)(h:∀ u v,BA x q st [u,v] [(p1,u),(p2,v)]):Binds K fd [p1,p2] []:=F.binds fun a b c d e g us B=>by
 obtain ⟨u,us,rfl,C⟩:=Xk B
 obtain ⟨v,us,rfl,D⟩:=Xk C
 cases eq_nil_of_length_eq_zero D;exact h u v a b c d e g
theorem Fun.b3 (F:Fun K x q st f fd)(h:∀ u v y,BA x q st [u,v,y] [(p1,u),(p2,v),(p3,y)]):Binds K fd [p1,p2,p3] []:=F.binds fun a b c d e g us B=>by
 obtain ⟨u,us,rfl,C⟩:=Xk B
 obtain ⟨v,us,rfl,D⟩:=Xk C
 obtain ⟨y,us,rfl,E⟩:=Xk D
 cases eq_nil_of_length_eq_zero E;exact h u v y a b c d e g
theorem Fun.b4 (F:Fun K x q st f fd)(h:∀ u v y z,BA x q st [u,v,y,z] [(p1,u),(p2,v),(p3,y),(p4,z)]):Binds K fd [p1,p2,p3,p4] []:=F.binds fun a b c d e g us B=>by
 obtain ⟨u,us,rfl,C⟩:=Xk B
 obtain ⟨v,us,rfl,D⟩:=Xk C
 obtain ⟨y,us,rfl,E⟩:=Xk D
 obtain ⟨z,us,rfl,W⟩:=Xk E
 cases eq_nil_of_length_eq_zero W;exact h u v y z a b c d e g
theorem Fun.b5 (F:Fun K x q st f fd)(h:∀ u v y z G,BA x q st [u,v,y,z,G] [(p1,u),(p2,v),(p3,y),(p4,z),(p5,G)]):Binds K fd [p1,p2,p3,p4,p5] []:=F.binds fun a b c d e g us B=>by
 obtain ⟨u,us,rfl,C⟩:=Xk B
 obtain ⟨v,us,rfl,D⟩:=Xk C
 obtain ⟨y,us,rfl,E⟩:=Xk D
 obtain ⟨z,us,rfl,W⟩:=Xk E
 obtain ⟨G,us,rfl,Z⟩:=Xk W
 cases eq_nil_of_length_eq_zero Z;exact h u v y z G a b c d e g
theorem ZhQ (F:Fun K x q st f fd)(h:∀ u,BA x q st [u] [(p1,u)])(s:Qd)(v:Qb):PQ s fd ⟨[v],[]⟩ [(p1,v)]:=by
 obtain ⟨oc,Z,kV,G,W,U,B,I,S,rfl,lk,J⟩:=F.ex
 exact .of_eq (h v kV G W U B I)
end
end L2
namespace L2
open PySem PySem.Spec PyProof.Rows
def Zjh:Expr->Option V
 | .Constant (.int i) _ _=>some (.int i)
 | .Constant (.str x) _ _=>some (.str x)
 | .Constant (.bool b) _ _=>some (.bl b)
 | .Constant .none _ _=>some .non
 | _=>none
def Zgg:List Expr->Option (List V)
 | []=>some []
 | e::es=>match Zjh e,Zgg es with
  | some v,some vs=>some (v::vs)
  | _,_=>none
section
variable {X:Cx}
theorem Znm {e:Expr}{v:V}(h:Zjh e=some v):PE X e (tC v)/\∀ es,QA (e::es) X.env=(false,eval e X.env)::QA es X.env:=by
 unfold Zjh at h
 split at h<;>cases h
 ·exact ⟨Zh,fun _=>rfl⟩
 ·exact ⟨ZR,fun _=>rfl⟩
 ·exact ⟨YY,fun _=>rfl⟩
 ·exact ⟨WG,fun _=>rfl⟩
def Zpd (vs:List V):TA:=fun _ H Q=>Q vs H
theorem Zfx:∀{es:List Expr}{vs:List V},Zgg es=some vs->PA X es (Zpd vs)
 | [],_,h=>by cases h;exact Za
 | e :: es,vs,h=>by
  rw [Zgg] at h
  split at h
  ·rename_i v B h1 h2
   cases h
   obtain ⟨p,s⟩:=Znm (X:=X) h1
   exact Yz p (Zfx h2) (s es)
  ·cases h
end
section
variable {X:Cx}
end
section
variable {K:Qa}{x q:Str}{st:Stmt}{f:Addr}{fd:Qn}{p1 p2 p3 p4 p5 p6 p7:Str}
end
section
variable {X:Cx}
end
end L2
namespace K35
open PySem L2
abbrev xNm:List Str:=["Known","NoSetting","Missing","NoWorld","Busy","AtHome","NoToken","Used","Elsewhere","OutOfTurn","NoTable","NoNode","NoPlace","NotBehind","NoWatcher","NoTask","BadRow"]
abbrev xWd:List Str:=["known","setting","missing","world","busy","home","token","used","elsewhere","turn"]
structure TxtE (K:Qa)(mg:Str->Option Qb)(CRo:Addr)(cs:List Addr):Prop where
 road:mg "RoadError"=some (.ref CRo)
 ve:mg "ValueError"=none
 ex:∀ (i:Nat) {x:Str},xNm[i]?=some x->mg x=some (.ref (cs.getD i 0))
theorem Zmc {K:Qa}{mg:Str->Option Qb}{CRo c0 c1 c2 c3 c4 c5 c6 c7 c8 c9 U S W G I J B:Addr}(hr:mg "RoadError"=some (.ref CRo))(hv:mg "ValueError"=none)(h0:mg "Known"=some (.ref c0))(h1:mg "NoSetting"=some (.ref c1))(h2:mg "Missing"=some (.ref c2))(h3:mg "NoWorld"=some (.ref c3))(h4:mg "Busy"=some (.ref c4))(h5:mg "AtHome"=some (.ref c5))(h6:mg "NoToken"=some (.ref c6))(h7:mg "Used"=some (.ref c7))(h8:mg "Elsewhere"=some (.ref c8))(h9:mg "OutOfTurn"=some (.ref c9))(h10:mg "NoTable"=some (.ref U))(Z:mg "NoNode"=some (.ref S))(h12:mg "NoPlace"=some (.ref W))(h13:mg "NotBehind"=some (.ref G))(h14:mg "NoWatcher"=some (.ref I))(h15:mg "NoTask"=some (.ref J))(h16:mg "BadRow"=some (.ref B)):TxtE K mg CRo [c0,c1,c2,c3,c4,c5,c6,c7,c8,c9,U,S,W,G,I,J,B]:=⟨hr,hv,fun i x h=>match i,h with
 | 0,h=>by cases h;exact h0
 | 1,h=>by cases h;exact h1
 | 2,h=>by cases h;exact h2
 | 3,h=>by cases h;exact h3
 | 4,h=>by cases h;exact h4
 | 5,h=>by cases h;exact h5
 | 6,h=>by cases h;exact h6
 | 7,h=>by cases h;exact h7
 | 8,h=>by cases h;exact h8
 | 9,h=>by cases h;exact h9
 | 10,h=>by cases h;exact h10
 | 11,h=>by cases h;exact Z
 | 12,h=>by cases h;exact h12
 | 13,h=>by cases h;exact h13
 | 14,h=>by cases h;exact h14
 | 15,h=>by cases h;exact h15
 | 16,h=>by cases h;exact h16
 | n+17,h=>by simp [xNm] at h⟩
def RK (K:Qa)(CRo:Addr)(cs:List Addr)(C:Addr)(word:Str):Prop:=∃ j,RefK K CRo [cs.getD 0 0,cs.getD 1 0,cs.getD 2 0,cs.getD 3 0,cs.getD 4 0,cs.getD 5 0,cs.getD 6 0,cs.getD 7 0,cs.getD 8 0,cs.getD 9 0] [cs.getD 10 0,cs.getD 11 0,cs.getD 12 0,cs.getD 13 0] [cs.getD 14 0,cs.getD 15 0,cs.getD 16 0] C j/\xWd[j]?=some word
abbrev kBs (j:Nat):List Bool:=[decide (0=j),decide (1=j),decide (2=j),decide (3=j),decide (4=j),decide (5=j),decide (6=j),decide (7=j),decide (8=j),decide (9=j),false,false]
theorem kcnt:∀ j:Fin 10,((kBs j.val).filter id).length=1:=by decide
theorem kat:∀ j:Fin 10,(kBs j.val)[j.val]?=some true:=by decide
theorem kno:∀ j:Fin 10,∀ m:Fin 10,m.val < j.val->(kBs j.val)[m.val]?=some false:=by decide
section
variable {P:Qi}{w:Qu}{K:Qa}{mg:Str->Option Qb}{base:Heap}{CRo:Addr}{cs:List Addr}{kk:Nat}
abbrev nTo:List Str:=["_law_ask","_law_caught","_law_found","error","_law_kinds","_law_words"]
abbrev pnTo:List Str:=["_law_ask"]
theorem scTo:Zp nTo pnTo (Zk s_l_told):={}
theorem Zlt {f:Addr}{fd:Qn}(F:Fun K "_law_told" "_law_told" s_l_told f fd)(T:Yi mg)(TE:TxtE K mg CRo cs):FnOk P w K mg base ZF (kk+1) f fd pnTo (Wl P w K mg base kk (RK K CRo cs)):=by
 refine F.ok scTo (fun cdv A outer s H vs Q E hr h=>?_)
 obtain ⟨q,cs',cc,qual,T',rfl,Z,has,hcc,hT⟩:=h
 refine' ⟨?t,?h,?r⟩
 case h =>
  conv=>arg 2;whnf
  with_reducible refine' (Zd ?h1 (Zd (ZjW (i:=3) ?h2 ?h3 ?h4 ?h5 ?h6 ?h7 ?h8 ?h9 ?h10 (fun pn Z EE W=>(Zi ?h11)) (fun ea Z=>(Zi ?h12))) (Zd (Yb ?h13 (Zi ?h14) ZM) (Zd ?h15 (Zd ?h16 (Zd ?h17 (Zd ?h18 (Zd ?h19 (Zd (Zv (i:=5) ?h20 ?h21 ?h22 (Yc ?h23) ?h24 ?h25) (Zd (Yb ?h26 (Zi ?h27) ZM) (Zi ?h28)))))))))))
  case h1=>exact Wg (YE (Zc WG (Zc WG Za))) (VM rfl (YO (Yg (i:=1) scTo.nd rfl (QD rfl)) (YO (Yg (i:=2) scTo.nd rfl (QD rfl)) UH)))
  case h2=>exact rfl
  case h3=>exact rfl
  case h4=>exact rfl
  case h5=>exact scTo.nd
  case h6=>exact rfl
  case h7=>exact rfl
  case h8=>exact rfl
  case h9=>exact TE.road
  case h10=>exact (by decide)
  case h11=>exact Zv (i:=2) scTo.nd rfl (QD rfl) (Zlw (i:=0) (P:=P) (w:=w) (K:=K) (mg:=mg) (base:=base) rfl rfl rfl rfl rfl W hr rfl (.inl rfl))
  case h12=>exact Zv (i:=1) scTo.nd rfl (QD rfl) (pv 3)
  case h13=>exact XM (UG (pv 1))
  case h14=>exact Zq (YE (Zc ZR (Zc (pv 2) Za)))
  case h15=>exact Zv (i:=4) scTo.nd rfl (QD rfl) (Yc (Zc (Zu Yu rfl T.isinstance (by decide +kernel) (Zc (pv 1) (Zc (ZO (v:=.ref _) rfl (TE.ex 0 rfl) rfl) Za))) (Zc (Zu Yu rfl T.isinstance (by decide +kernel) (Zc (pv 1) (Zc (ZO (v:=.ref _) rfl (TE.ex 1 rfl) rfl) Za))) (Zc (Zu Yu rfl T.isinstance (by decide +kernel) (Zc (pv 1) (Zc (ZO (v:=.ref _) rfl (TE.ex 2 rfl) rfl) Za))) Za))))
  case h16=>exact Zv (i:=4) scTo.nd rfl (QD rfl) (Zw VI (pv 4) (Yc (Zc (Zu Yu rfl T.isinstance (by decide +kernel) (Zc (pv 1) (Zc (ZO (v:=.ref _) rfl (TE.ex 3 rfl) rfl) Za))) (Zc (Zu Yu rfl T.isinstance (by decide +kernel) (Zc (pv 1) (Zc (ZO (v:=.ref _) rfl (TE.ex 4 rfl) rfl) Za))) (Zc (Zu Yu rfl T.isinstance (by decide +kernel) (Zc (pv 1) (Zc (ZO (v:=.ref _) rfl (TE.ex 5 rfl) rfl) Za))) Za)))))
  case h17=>exact Zv (i:=4) scTo.nd rfl (QD rfl) (Zw VI (pv 4) (Yc (Zc (Zu Yu rfl T.isinstance (by decide +kernel) (Zc (pv 1) (Zc (ZO (v:=.ref _) rfl (TE.ex 6 rfl) rfl) Za))) (Zc (Zu Yu rfl T.isinstance (by decide +kernel) (Zc (pv 1) (Zc (ZO (v:=.ref _) rfl (TE.ex 7 rfl) rfl) Za))) (Zc (Zu Yu rfl T.isinstance (by decide +kernel) (Zc (pv 1) (Zc (ZO (v:=.ref _) rfl (TE.ex 8 rfl) rfl) Za))) Za)))))
  case h18=>exact Zv (i:=4) scTo.nd rfl (QD rfl) (Zw VI (pv 4) (Yc (Zc (Zu Yu rfl T.isinstance (by decide +kernel) (Zc (pv 1) (Zc (ZO (v:=.ref _) rfl (TE.ex 9 rfl) rfl) Za))) (Zc (Zu ZcJ rfl T.isinstance (by decide +kernel) (Zc (pv 1) (Zc (YE (Wd (ZO (v:=.ref _) rfl (TE.ex 10 rfl) rfl) (Wd (ZO (v:=.ref _) rfl (TE.ex 11 rfl) rfl) (Wd (ZO (v:=.ref _) rfl (TE.ex 12 rfl) rfl) (Wd (ZO (v:=.ref _) rfl (TE.ex 13 rfl) rfl) Za rfl) rfl) rfl) rfl)) Za))) Za))))
  case h19=>exact Zv (i:=4) scTo.nd rfl (QD rfl) (Zw VI (pv 4) (Yc (Zc (Zu ZcJ rfl T.isinstance (by decide +kernel) (Zc (pv 1) (Zc (YE (Wd (ZO (v:=.ref _) rfl (TE.ex 14 rfl) rfl) (Wd (ZO (v:=.ref _) rfl (TE.ex 15 rfl) rfl) (Wd (ZO (v:=.ref _) rfl (TE.ex 16 rfl) rfl) Za rfl) rfl) rfl)) Za))) Za)))
  case h20=>exact scTo.nd
  case h21=>exact rfl
  case h22=>exact (QD rfl)
  case h23=>(refine' Zfx (vs:=[.str "known",.str "setting",.str "missing",.str "world",.str "busy",.str "home",.str "token",.str "used",.str "elsewhere",.str "turn",.str "odd",.str "odd"]) ?zz;case zz=>decide +kernel)
  case h24=>exact rfl
  case h25=>exact (by first | exact .inl rfl | exact .inr rfl)
  case h26=>exact PW.pt (ZbK (ZK XB (XD QI Se PySem.F.type_list_count ZhX (pv 4) (Zc YY Za)) Zh (ZL _)) (VO (VN (UK (Zu Yu rfl T.isinstance (by decide +kernel) (Zc (pv 1) (Zc (Zlx rfl TE.ve (by decide +kernel) (v:=.ty "ValueError") rfl) Za)))))))
  case h27=>exact Zq (YE (Zc ZR (Zc ZR (Zc WG Za))))
  case h28=>exact Zq (YE (Zc ZR (Zc (ZD ZE (pv 5) (XD QI Sf PySem.F.type_list_index ZhY (pv 4) (Zc YY Za)) (fun _ _=>rfl)) (Zc (ZlE (pv 1) rfl) Za))))
 try dsimp only [ZN,Cx.nox]
 refine zs11 ?_
 intro zD zS zN10 zN9 zN8 zN7 zN6 zN5 zN4 zN3 zN2 zN1
 refine ⟨(by decide),fun t0 ht0=>⟨t0,_,rfl,SqT.of Zf,rfl,_,_,rfl,_,_,rfl,rfl,?_⟩⟩
 generalize B:upd H t0 _=H0
 have s0:Same H H0:=by rw [<- B];exact Zm ht0 _
 clear B
 refine ⟨q,cs',cc,qual,T',rfl,Z,has.same s0,s0 _ _ hcc,hT H0 _ _ s0 (fun v H' f hn=>?_) (fun C dx word what H' rk ed f hn=>?_)⟩
 ·exact ⟨_,rfl,_,rfl,Ys ⟨_,rfl,(by show 2<=Qj;decide),fun a ha=>f hn a _ (Zm ha _) Zf⟩⟩
 have f:=f hn
 have ed:=YQ hn _ _ ed
 generalize cov H' cs'=H1 at f ed
 obtain ⟨j,R,hw⟩:=rk
 refine ⟨C,dx,rfl,rfl,R.cat,fun ea hea=>?_⟩
 generalize B:upd H1 ea _=H2
 have G:H2 ea=some (XO ea C dx):=by rw [<- B];exact Zf
 have s2:Same H1 H2:=by rw [<- B];exact Zm hea _
 clear B
 have ed2:=s2 _ _ ed
 have ty:∀ H',Same H2 H'->TyX K H' (.ref ea) (.ref C):=fun H' s=>.inr ⟨ea,C,dx,rfl,rfl,s _ _ G,R.g⟩
 refine ⟨_,rfl,_,rfl,_,rfl,ZQ ?_⟩
 refine ⟨_,rfl,_,_,_,_,rfl,ty _ (fun _ _ e=>e),.inl ⟨_,rfl,R.is 0 (show 0 < 10 by decide)⟩,_,rfl,_,_,_,_,rfl,ty _ (fun _ _ e=>e),.inl ⟨_,rfl,R.is 1 (show 1 < 10 by decide)⟩,_,rfl,_,_,_,_,rfl,ty _ (fun _ _ e=>e),.inl ⟨_,rfl,R.is 2 (show 2 < 10 by decide)⟩,(by show 3<=Qj;decide),fun l1 hl1=>?_⟩
 generalize B:upd H2 l1 _=H3
 have s3:Same H2 H3:=by rw [<- B];exact Zm hl1 _
 have e3:H3 l1=some (.lst [.bl (decide (0=j)),.bl (decide (1=j)),.bl (decide (2=j))]):=by rw [<- B];exact Zf
 clear B
 refine ⟨_,rfl,_,rfl,_,_,_,_,rfl,ty _ (s3),.inl ⟨_,rfl,R.is 3 (show 3 < 10 by decide)⟩,_,rfl,_,_,_,_,rfl,ty _ (s3),.inl ⟨_,rfl,R.is 4 (show 4 < 10 by decide)⟩,_,rfl,_,_,_,_,rfl,ty _ (s3),.inl ⟨_,rfl,R.is 5 (show 5 < 10 by decide)⟩,(by show 3<=Qj;decide),fun l6 hl6=>⟨l1,l6,_,_,rfl,rfl,Zm hl6 _ _ _ e3,Zf,Wj (show 6<=1000 by decide),fun l7 hl7=>?_⟩⟩
 generalize B:upd (upd H3 l6 _) l7 _=H4
 have s4:Same H2 H4:=by rw [<- B];exact (s3.trans (Zm hl6 _)).trans (Zm hl7 _)
 have e4:H4 l7=some (.lst [.bl (decide (0=j)),.bl (decide (1=j)),.bl (decide (2=j)),.bl (decide (3=j)),.bl (decide (4=j)),.bl (decide (5=j))]):=by rw [<- B];exact Zf
 clear B
 refine ⟨_,rfl,_,rfl,_,_,_,_,rfl,ty _ (s4),.inl ⟨_,rfl,R.is 6 (show 6 < 10 by decide)⟩,_,rfl,_,_,_,_,rfl,ty _ (s4),.inl ⟨_,rfl,R.is 7 (show 7 < 10 by decide)⟩,_,rfl,_,_,_,_,rfl,ty _ (s4),.inl ⟨_,rfl,R.is 8 (show 8 < 10 by decide)⟩,(by show 3<=Qj;decide),fun l8 hl8=>⟨l7,l8,_,_,rfl,rfl,Zm hl8 _ _ _ e4,Zf,Wj (show 9<=1000 by decide),fun l9 hl9=>?_⟩⟩
 generalize B:upd (upd H4 l8 _) l9 _=H5
 have s5:Same H2 H5:=by rw [<- B];exact (s4.trans (Zm hl8 _)).trans (Zm hl9 _)
 have e5:H5 l9=some (.lst [.bl (decide (0=j)),.bl (decide (1=j)),.bl (decide (2=j)),.bl (decide (3=j)),.bl (decide (4=j)),.bl (decide (5=j)),.bl (decide (6=j)),.bl (decide (7=j)),.bl (decide (8=j))]):=by rw [<- B];exact Zf
 clear B
 refine ⟨_,rfl,_,rfl,_,_,_,_,rfl,ty _ s5,.inl ⟨_,rfl,R.is 9 (show 9 < 10 by decide)⟩,_,rfl,(by show 4<=Qj;decide),fun tp htp=>?_⟩
 have s5t:=s5.trans (Zm htp (.tup [.ref (cs.getD 10 0),.ref (cs.getD 11 0),.ref (cs.getD 12 0),.ref (cs.getD 13 0)]))
 refine ⟨ea,C,dx,tp,[cs.getD 10 0,cs.getD 11 0,cs.getD 12 0,cs.getD 13 0],false,rfl,s5t _ _ G,R.g,Zf,R.no1,(by show 2<=Qj;decide),fun l10 J=>⟨l9,l10,_,_,rfl,rfl,Zm J _ _ _ (Zm htp _ _ _ e5),Zf,Wj (show 11<=1000 by decide),fun l11 hl11=>?_⟩⟩
 generalize B:upd (upd (upd H5 tp _) l10 _) l11 _=H6
 have s6:Same H2 H6:=by rw [<- B];exact ((s5.trans (Zm htp _)).trans (Zm J _)).trans (Zm hl11 _)
 have e6:H6 l11=some (.lst [.bl (decide (0=j)),.bl (decide (1=j)),.bl (decide (2=j)),.bl (decide (3=j)),.bl (decide (4=j)),.bl (decide (5=j)),.bl (decide (6=j)),.bl (decide (7=j)),.bl (decide (8=j)),.bl (decide (9=j)),.bl false]):=by rw [<- B];exact Zf
 clear B
 refine ⟨_,rfl,_,rfl,(by show 3<=Qj;decide),fun tq U=>?_⟩
 have s6t:=s6.trans (Zm U (.tup [.ref (cs.getD 14 0),.ref (cs.getD 15 0),.ref (cs.getD 16 0)]))
 refine ⟨ea,C,dx,tq,[cs.getD 14 0,cs.getD 15 0,cs.getD 16 0],false,rfl,s6t _ _ G,R.g,Zf,R.no2,(by show 1<=Qj;decide),fun l12 S=>⟨l11,l12,_,_,rfl,rfl,Zm S _ _ _ (Zm U _ _ _ e6),Zf,Wj (show 12<=1000 by decide),fun I hl13=>?_⟩⟩
 generalize B:upd (upd (upd H6 tq _) l12 _) I _=H7
 have s7:Same H2 H7:=by rw [<- B];exact ((s6.trans (Zm U _)).trans (Zm S _)).trans (Zm hl13 _)
 have e7:H7 I=some (.lst ((kBs j).map V.bl)):=by rw [<- B];exact Zf
 clear B
 refine ⟨(by show 12<=Qj;decide),fun lw hlw=>?_⟩
 generalize B:upd H7 lw _=H8
 have s8:Same H7 H8:=by rw [<- B];exact Zm hlw _
 have ew:H8 lw=some (.lst ((xWd++(["odd","odd"]:List Str)).map V.str)):=by rw [<- B];exact Zf
 clear B
 have e8:=s8 _ _ e7
 have hj:j < 10:=(Qk.mp hw).1
 have k1:=kcnt ⟨j,hj⟩
 have k2:=kat ⟨j,hj⟩
 have k3:∀ m,m < j->(kBs j)[m]?=some false:=fun m hm=>kno ⟨j,hj⟩ ⟨m,by omega⟩ hm
 refine ⟨_,rfl,.inl ⟨rfl,_,SqL.of e8⟩,I,kBs j,rfl,rfl,SqL.of e8,?_⟩
 rw [show ((kBs j).filter id).length=1 from k1]
 refine ⟨rfl,_,rfl,ZQ ?_⟩
 refine ⟨_,rfl,_,_,_,true,rfl,ty _ (s7.trans s8),.inr ⟨_,rfl,R.ve⟩,_,rfl,ZQ ?_⟩
 refine ⟨_,rfl,_,rfl,.inl ⟨rfl,_,SqL.of e8⟩,I,kBs j,j,rfl,rfl,SqL.of e8,k2,k3,by omega,?_⟩
 refine ⟨lw,_,_,_,rfl,rfl,SqL.of ew,ZI (by rw [getElem?_map,getElem?_append_left (show j < xWd.length from hj),hw];rfl),?_⟩
 refine ⟨_,rfl,ea,C,dx,_,_,rfl,s8 _ _ (s7 _ _ G),s8 _ _ (s7 _ _ ed2),R.g,rfl,(by show 3<=Qj;decide),fun a ha=>?_⟩
 exact f a _ (((s2.trans s7).trans s8).trans (Zm ha _)) Zf
end
end K35
namespace L2
open PySem
theorem Xe {H:Hp}{a:Addr}{vs:List V}(e:H a=some (.tup vs))(h:∀ v∈vs,Wa v)(G:vs.length<=1000):DataOf H (.ref a) (.tuple (vs.map WC))/\(OI (vs.map WC)).showable=true/\(OI (vs.map WC)).shown.length<=Qj/\(OI (vs.map WC)).depth<=60:=by
 have s:=ZiO (ds:=vs.map WC) (n:=200) (k:=0) fun d I=>by
  obtain ⟨v,B,rfl⟩:=mem_map.mp I
  exact Zia (h v B) 0
 refine ⟨.tup e (Zde h),s.sh,Qr s.ln ?_,Qr s.dp (by decide)⟩
 rw [length_map]
 have:vs.length * (200+2)<=1000 * 202:=Rj _ G
 rw [QV];omega
theorem ZmR {n:Nat}(h:n<=1000000):Wa (nI n):=.inr (show ((n:Int)).natAbs < 10 ^ 30 by omega)
theorem UF {x:Str}(h:Zdz (.str x)=true):Wa (.str x):=.inr (Uc h)
def ScR (K:Qa)(ns:List Int):YD:=fun a h=>SqL K h a (ns.map V.int)
theorem ZoZ {K:Qa}{H H':Hp}{a:Addr}{xs:List V}(h:SqL K H a xs)(s:Same H H'):SqL K H' a xs:=by
 rcases h with (h | ⟨o,h⟩) | h
 ·exact .inl (.inl (s _ _ h))
 ·exact .inl (.inr ⟨o,s _ _ h⟩)
 ·exact .inr h
instance {K:Qa} {ns:List Int}:Up (ScR K ns):=⟨fun h s=>ZoZ h s⟩
def Yw (qs:List (Str×V)):List (Zo×V):=qs.map fun p=>(Qs p.1,p.2)
theorem ZkX (qs B:List (Str×V)):Yw (qs++B)=Yw qs++Yw B:=map_append
theorem UA (x:Str):∀ qs:List (Str×V),Zz (Yw qs) (Qs x)=(qs.find? fun p=>decide (p.1=x)).map (·.2)
 | []=>rfl
 | p :: r=>by
  unfold Yw Zz
  rw [map_cons,find?_cons,find?_cons]
  by_cases h:p.1=x
  ·rw [decide_eq_true (show (Qs p.1:Zo)=Qs x by rw [h]),decide_eq_true h];rfl
  ·rw [decide_eq_false (show ¬ (Qs p.1:Zo)=Qs x from fun z=>h (Js z)),decide_eq_false h]
   exact UA x r
theorem ZdR {x:Str}{qs:List (Str×V)}(h:x ∉ qs.map (·.1)):Zz (Yw qs) (Qs x)=none:=by
 rw [UA]
 have:(qs.find? fun p=>decide (p.1=x))=none:=List.find?_eq_none.mpr fun p hp z=>h (mem_map.mpr ⟨p,hp,by simpa using z⟩)
 rw [this];rfl
theorem Va {x:Str}{v:V}:∀{qs:List (Str×V)},(qs.map (·.1)).Nodup->(x,v)∈qs->Zz (Yw qs) (Qs x)=some v
 | p :: r,nd,m=>by
  rw [UA,find?_cons]
  rcases mem_cons.mp m with e | m
  ·subst e;simp
  ·have hp:¬ p.1=x:=fun z=>(nodup_cons.mp nd).1 (mem_map.mpr ⟨(x,v),m,z.symm⟩)
   rw [decide_eq_false hp]
   have:=Va (x:=x) (v:=v) (nodup_cons.mp nd).2 m
   rw [UA] at this;exact this
theorem Zfb {x:Str}{v:V}{qs:List (Str×V)}(h:x ∉ qs.map (·.1)):Ye (Yw qs) (Qs x) v=Yw (qs++[(x,v)]):=by
 unfold Ye
 rw [if_neg,ZkX];rfl
 simp only [Yw,List.any_map,OT,Function.comp,decide_eq_true_eq,not_exists,not_and]
 exact fun p hp z=>h (mem_map.mpr ⟨p,hp,Js z⟩)
end L2
namespace K35
open PySem L2
section
variable {P:Qi}{w:Qu}{K:Qa}{mg:Str->Option Qb}{base:Heap}{CH CR CS CT:Addr}{C:Addr}
inductive Zat (K:Qa)(C:Addr)(vs:List V)(H:Hp)(Q:VK)(w_3:XK):Prop
 | mk (NS:List Str) (st:Addr) (nds:List Nd) (tabs:List (Zo×V)) (t:Nat) (x:Str) (F:Str->Option V):Yr NS->vs=[.ref st,iN t,.str x]->WX K C nds tabs st H->(Zz tabs (QQ (t:Int))).isSome=true->Tri NS nds F 5 0 0 t->x∈NS->(∀ H',Same H H'->Q ((F x).getD .non) H')->Zat K C vs H Q w_3
theorem ZmO {f:Addr}{fd:Qn}{k:Nat}{ps:List Str}(h:FnOk P w K mg base ZF k f fd ps (WB K C)):FnOk P w K mg base ZF k f fd ps (Zat K C) :=
 h.conv fun vs H Q E I=>by
  obtain ⟨NS,st,nds,B,t,x,F,N,e,⟨b0,W,J,S⟩,h1,h2,G,q⟩:=I
  obtain ⟨ws,z,n,e1,e2,e3,U,Z⟩:=Vp N h2 G
  exact ⟨st,W,J,nds,B,t,x,6,ws,z,n,e,S,h1,N.len x G,N.lo x G,by decide,e1,e2,e3,U,fun H' s=>by rw [Z];exact q H' s⟩
inductive ZgK (K:Qa)(CR CS:Addr)(vs:List V)(H:Hp)(Q:VK)(w_3:XK):Prop
 | mk (NS:List Str) (r:Addr) (pls:List Yp) (nds:List Nd) (tabs:List (Zo×V)) (k:Nat) (x:Str) (F:Str->Option V):vs=[.ref r,.int (k:Int),.str x]->Yr NS->RdR K CR CS r pls nds tabs H->RInv NS pls nds tabs->k<=pls.length->(envs pls)[k]?=some F->x∈NS->(∀ H',Same H H'->Q ((F x).getD .non) H')->ZgK K CR CS vs H Q w_3
abbrev nRLk:List Str:=["self","place","name"]
abbrev Zgx:List Str:=["self","place","name"]
theorem ZoS:Zp nRLk Zgx (Zk c_Roads_looked):={}
theorem ZmY {f:Addr}{fd:Qn}(F:Fun K "looked" "Roads.looked" c_Roads_looked f fd)(T:Yi mg)(Z:Wp K CR)(TC:Xp K CS)(J:DefM P w K mg base 9 CR "table" Zdq (Zav K CR CS))(B:DefM P w K mg base 9 CS "looked" ["self","table","name"] (Zat K CS)):FnOk P w K mg base ZF 10 f fd Zgx (ZgK K CR CS):=by
 refine F.ok ZoS (fun cdv A outer s H vs Q E hr h=>?_)
 obtain ⟨NS,r,pls,nds,U,k,x,G,rfl,N,R,I,hk,hG,hx,q⟩:=h
 obtain ⟨st,la,ls,lt,lc,S⟩:=id R
 obtain ⟨dx,ob⟩:=S.get r
 have ST:=S.get st
 obtain ⟨b0,ln,dt,SA⟩:=id ST
 obtain ⟨W,obs⟩:=SA.ob
 obtain ⟨g1,g2,g3⟩:=I.tr k G _ hG (Uh hk)
 refine' ⟨?t,?h,?r⟩
 case h =>
  conv=>arg 2;whnf
  with_reducible refine' (Zi ?h1)
  case h1=>exact Zq (ZU B TC.cl hr (ZC (pv 0) rfl) (Zc (ZU J Z.cl hr (pv 0) (Zc (pv 1) Za)) (Zc (pv 2) Za)))
 try dsimp only [ZN,Cx.nox]
 exact ⟨_,rfl,r,CR,dx,_,_,rfl,ob,Z.cl,Z.nk,Zcr,st,W,_,rfl,obs,ZT ln dt (by decide +kernel) (by decide +kernel),_,rfl,r,dx,_,rfl,ob,Wi (by decide +kernel),_,rfl,r,pls,nds,U,k,rfl,R,hk,_,rfl,NS,st,nds,U,tbN pls k,x,G,N,rfl,ST,g1,g2,hx,q⟩
structure HI (NS:List Str)(s:Hs):Prop where
 N:Yr NS
 R:RInv NS s.pls s.nds s.tabs
 sp:∀ p∈s.spots,p<=s.pls.length
inductive ZbZ (K:Qa)(CH CR CS CT:Addr)(vs:List V)(H:Hp)(Q:VK)(w_3:XK):Prop
 | mk (NS:List Str) (h:Addr) (s:Hs) (k p:Nat) (x:Str) (F:Str->Option V):vs=[.ref h,.int (k:Int),.str x]->WL K CH CR CS CT h s H->HI NS s->s.spots[k]?=some p->(envs s.pls)[p]?=some F->x∈NS->(∀ H',Same H H'->Q ((F x).getD .non) H')->ZbZ K CH CR CS CT vs H Q w_3
abbrev nHVi:List Str:=["self","world","name"]
abbrev ZbI:List Str:=["self","world","name"]
theorem ZoN:Zp nHVi ZbI (Zk c_Hall_value_in):={}
theorem Znd {f:Addr}{fd:Qn}(F:Fun K "value_in" "Hall.value_in" c_Hall_value_in f fd)(T:Yi mg)(Z:Xu K CH)(TR:Wp K CR)(J:DefM P w K mg base 10 CH "place" Vk (Zau K CH CR CS CT))(B:DefM P w K mg base 10 CR "looked" Zgx (ZgK K CR CS)):FnOk P w K mg base ZF 11 f fd ZbI (ZbZ K CH CR CS CT):=by
 refine F.ok ZoN (fun cdv A outer s H vs Q E hr h=>?_)
 obtain ⟨NS,h,s,k,p,x,G,rfl,R,I,hk,hG,hx,q⟩:=h
 obtain ⟨d,r,sp,i,t,S⟩:=id R
 obtain ⟨dx,ob⟩:=S.get h
 have RR:=S.get r
 obtain ⟨st,la,ls,lt,lc,SR⟩:=id RR
 obtain ⟨U,W⟩:=SR.get r
 refine' ⟨?t,?h,?r⟩
 case h =>
  conv=>arg 2;whnf
  with_reducible refine' (Zi ?h1)
  case h1=>exact Zq (ZU B TR.cl hr (ZC (pv 0) rfl) (Zc (ZU J Z.cl hr (pv 0) (Zc (pv 1) Za)) (Zc (pv 2) Za)))
 try dsimp only [ZN,Cx.nox]
 exact ⟨_,rfl,h,CH,dx,_,_,rfl,ob,Z.cl,Z.nw,Zjo,r,U,_,rfl,W,Wi (by decide +kernel),_,rfl,h,dx,_,rfl,ob,Yd (by decide +kernel),_,rfl,h,s,k,p,rfl,R,hk,_,rfl,NS,r,s.pls,s.nds,s.tabs,p,x,G,rfl,I.N,RR,I.R,I.sp p (mem_of_getElem? hk),hG,hx,q⟩
def Vu (o:Option V)(d:V):V:=o.getD d
inductive ZgN (K:Qa)(CH CR CS CT:Addr)(vs:List V)(H:Hp)(Q:VK)(w_3:XK):Prop
 | mk (NS:List Str) (h:Addr) (s:Hs) (k p:Nat) (x:Str) (F:Str->Option V) (d:V):vs=[.ref h,.int (k:Int),.str x]->WL K CH CR CS CT h s H->HI NS s->s.spots[k]?=some p->(envs s.pls)[p]?=some F->x∈NS->Zz s.dfs (Qs x)=some d->(∀ H',Same H H'->Q (Vu (F x) d) H')->ZgN K CH CR CS CT vs H Q w_3
abbrev nHVo:List Str:=["self","world","name","value"]
abbrev Zgt:List Str:=["self","world","name"]
theorem scHVo:Zp nHVo Zgt (Zk c_Hall_value_or_default):={}
theorem Zne {f:Addr}{fd:Qn}(F:Fun K "value_or_default" "Hall.value_or_default" c_Hall_value_or_default f fd)(T:Yi mg)(Z:Xu K CH)(B:DefM P w K mg base 11 CH "value_in" ZbI (ZbZ K CH CR CS CT)):FnOk P w K mg base ZF 12 f fd Zgt (ZgN K CH CR CS CT):=by
 refine F.ok scHVo (fun cdv A outer s H vs Q E hr h=>?_)
 obtain ⟨NS,h,s,k,p,x,G,d,rfl,R,I,hk,hG,hx,hd,q⟩:=h
 obtain ⟨dd,r,sp,i,t,S⟩:=id R
 obtain ⟨dx,ob⟩:=S.get h
 have hv:=(I.R.tr p G _ hG (Uh (I.sp p (mem_of_getElem? hk)))).2.2
 refine' ⟨?t,?h,?r⟩
 case h =>
  conv=>arg 2;whnf
  with_reducible refine' (Zd ?h1 (Zi ?h2))
  case h1=>exact Zv (i:=3) scHVo.nd rfl (QD rfl) (ZU B Z.cl hr (pv 0) (Zc (pv 1) (Zc (pv 2) Za)))
  case h2=>exact Zq (YN (XM (UG (pv 3))) (Zah (YS hr) (ZC (pv 0) rfl) (pv 2) (fun _ _=>rfl)) (pv 3))
 try dsimp only [ZN,Cx.nox]
 refine US ?_
 intro zD zS zN1
 refine ⟨_,rfl,h,dx,_,rfl,ob,Yd (by decide +kernel),_,rfl,_,rfl,NS,h,s,k,p,x,G,rfl,R,I,hk,hG,hx,fun H1 s1=>?_⟩
 cases e:G x with
 | none =>
  refine ⟨_,rfl,_,rfl,Ys ?_⟩
  have S1:=S.mono s1
  obtain ⟨U,J⟩:=S1.get h
  have:=q H1 s1
  rw [e] at this
  exact ⟨_,rfl,h,CH,U,_,_,rfl,J,Z.cl,Z.nd,Zgj,_,rfl,dd,_,rfl,(by have z:=DGet.k (k:=Qs x) (S1.get dd);rw [hd] at z;exact z),this⟩
 | some u =>
  have hu:=hv x u e
  have:=q H1 s1
  rw [e] at this
  have W:decide (u=V.non)=false:=decide_eq_false fun z=>by rw [z] at hu;exact hu
  refine ⟨_,rfl,_,rfl,?_⟩
  show if decide (u=V.non)=true then _ else _
  rw [W]
  exact ZQ ⟨_,rfl,this⟩
inductive Zar (K:Qa)(CH CR CS CT CX:Addr)(vs:List V)(H:Hp)(Q:VK)(E:XK):Prop
 | mk (h:Addr) (s:Hs) (x:Str):vs=[.ref h,.str x]->WL K CH CR CS CT h s H->(((Zz s.dfs (Qs x)).isSome=true->Q .non H))->((Zz s.dfs (Qs x)=none->∀ dx H',Same H H'->H' dx=some (.xd [("what",.str x)])->E (.ref CX) (some dx) H'))->Zar K CH CR CS CT CX vs H Q E
abbrev nHCs:List Str:=["self","name"]
abbrev Zak:List Str:=["self","name"]
theorem ZoG:Zp nHCs Zak (Zk c_Hall_check_setting):={}
theorem ZmV {CX:Addr}{f:Addr}{fd:Qn}(F:Fun K "check_setting" "Hall.check_setting" c_Hall_check_setting f fd)(T:Yi mg)(G:Xu K CH)(Z:UT P w K mg base 1 CX "NoSetting"):FnOk P w K mg base (XH P w base) 3 f fd Zak (Zar K CH CR CS CT CX):=by
 refine F.okX ZoG (fun cdv A outer s H vs Q E B h W=>?_)
 obtain ⟨h,s,x,rfl,⟨d,r,sp,i,t,S⟩,I,q2⟩:=h
 obtain ⟨dx,J⟩:=S.get h
 refine' ⟨?t,?h,?r⟩
 case h =>
  conv=>arg 2;whnf
  with_reducible refine' (Zi (Yb ?h1 (Zi ?h2) ZM))
  case h1=>exact XM (ZcT (YS B) (pv 1) (ZC (pv 0) rfl))
  case h2=>exact Vl W Z B rfl (Zc (pv 1) Za)
 try dsimp only [ZN,Cx.nox]
 refine ⟨_,rfl,_,rfl,h,CH,dx,_,_,rfl,J,G.cl,G.nd,Zgj,d,_,rfl,DGet.k (k:=Qs x) (S.get d),_,rfl,?_⟩
 cases e:Zz s.dfs (Qs x) with
 | none=>exact Ys ⟨_,rfl,_,rfl,fun d U=>q2 e d _ (Zm U _) Zf⟩
 | some v=>exact ZQ (I (by rw [e];rfl))
inductive Zdt (K:Qa)(CH CR CS CT CX:Addr)(vs:List V)(H:Hp)(Q:VK)(E:XK):Prop
 | mk (h:Addr) (s:Hs) (qs:List (Str×V)) (x:Str) (v:V) (Δ:Rs):vs=[.ref h,.str x,v]->Sep ((h,WV K CH CR CS CT s)::Δ) H->s.dfs=Yw qs->qs.length<=1000->((x∈qs.map (·.1)->∀ dx H',Same H H'->H' dx=some (.xd [("what",.str x)])->E (.ref CX) (some dx) H'))->((x ∉ qs.map (·.1)->∀ H',Sep ((h,WV K CH CR CS CT { s with dfs:=Yw (qs++[(x,v)]) })::Δ) H'->Q .non H'))->Zdt K CH CR CS CT CX vs H Q E
abbrev nHDe:List Str:=["self","name","default"]
abbrev ZbF:List Str:=["self","name","default"]
theorem ZoH:Zp nHDe ZbF (Zk c_Hall_declare):={}
theorem Zic {CX:Addr}{f:Addr}{fd:Qn}(F:Fun K "declare" "Hall.declare" c_Hall_declare f fd)(T:Yi mg)(I:Xu K CH)(DE:UT P w K mg base 1 CX "Known"):FnOk P w K mg base (XH P w base) 3 f fd ZbF (Zdt K CH CR CS CT CX):=by
 refine F.okX ZoH (fun cdv A outer s H vs Q E J h W=>?_)
 obtain ⟨h,s,qs,x,v,Δ,rfl,S0,B,hl,q1,q2⟩:=h
 obtain ⟨d,r,sp,i,t,S⟩:=S0.halO
 obtain ⟨dx,U⟩:=S.get h
 refine' ⟨?t,?h,?r⟩
 case h =>
  conv=>arg 2;whnf
  with_reducible refine' (Zd (Yb ?h1 (Zi ?h2) ZM) (Zi ?h3))
  case h1=>exact XM (Zni (YS J) (pv 1) (ZC (pv 0) rfl))
  case h2=>exact Vl W DE J rfl (Zc (pv 1) Za)
  case h3=>exact UJ (YS J) (ZC (pv 0) rfl) (pv 1) (pv 2) rfl
 try dsimp only [ZN,Cx.nox]
 refine US ?_
 intro zD zS zN1
 refine ⟨_,rfl,_,rfl,h,CH,dx,_,_,rfl,U,I.cl,I.nd,Zgj,d,_,rfl,DGet.k (k:=Qs x) (S.get d),_,rfl,?_⟩
 by_cases G:x∈qs.map (·.1)
 ·have e:(Zz s.dfs (Qs x)).isSome=true:=by
   rw [B,UA]
   obtain ⟨p,hp,rfl⟩:=mem_map.mp G
   cases z:qs.find? fun q=>decide (q.1=p.1) with
   | none=>exact absurd (decide_eq_true rfl) (List.find?_eq_none.mp z p hp)
   | some v=>rfl
  rw [e]
  exact Ys ⟨_,rfl,_,rfl,fun d hd=>q1 G d _ (Zm hd _) Zf⟩
 ·have e:Zz s.dfs (Qs x)=none:=by rw [B];exact ZdR G
  rw [e]
  refine ZQ ⟨_,rfl,_,rfl,h,CH,dx,_,_,rfl,U,I.cl,I.nd,Zgj,_,rfl,d,_,rfl,.inl ⟨_,Qs x,S.get d,rfl,Xa (show _<=1000 by rw [B];unfold Yw;rw [length_map];exact hl),rfl⟩,?_⟩
  generalize hE:upd H d _=H2
  have Z:=S.putE hE
  clear hE
  rw [B,Zfb G] at Z
  exact q2 G _ (Sep.halC (s:={ s with dfs:=Yw (qs++[(x,v)]) }) (d:=d) (r:=r) (sp:=sp) (i:=i) (t:=t) (Z.pull h))
inductive Zdu (K:Qa)(CH CR CS CT CX CM:Addr)(vs:List V)(H:Hp)(Q:VK)(E:XK):Prop
 | mk (NS:List Str) (h:Addr) (s:Hs) (k p:Nat) (x:Str) (F:Str->Option V):vs=[.ref h,.int (k:Int),.str x]->WL K CH CR CS CT h s H->HI NS s->s.spots[k]?=some p->(envs s.pls)[p]?=some F->x∈NS->((Zz s.dfs (Qs x)=none->∀ dx H',Same H H'->H' dx=some (.xd [("what",.str x)])->E (.ref CX) (some dx) H'))->(∀ d,Zz s.dfs (Qs x)=some d->(Vu (F x) d=.non->∀ dx H',Same H H'->H' dx=some (.xd [("what",.str x)])->E (.ref CM) (some dx) H')/\(Vu (F x) d≠.non->∀ H',Same H H'->Q (Vu (F x) d) H'))->Zdu K CH CR CS CT CX CM vs H Q E
abbrev nHLi:List Str:=["self","world","name","value"]
abbrev Zdp:List Str:=["self","world","name"]
theorem scHLi:Zp nHLi Zdp (Zk c_Hall_look_in):={}
theorem ZmX {CX CM:Addr}{f:Addr}{fd:Qn}(F:Fun K "look_in" "Hall.look_in" c_Hall_look_in f fd)(T:Yi mg)(TH:Xu K CH)(U:DefM P w K mg base 12 CH "check_world" Zaj (Zds K CH CR CS CT))(J:DefMX P w K mg base 12 CH "check_setting" Zak (Zar K CH CR CS CT CX))(B:DefM P w K mg base 12 CH "value_or_default" Zgt (ZgN K CH CR CS CT))(DE:UT P w K mg base 11 CM "Missing"):FnOk P w K mg base (XH P w base) 13 f fd Zdp (Zdu K CH CR CS CT CX CM):=by
 refine F.okX scHLi (fun cdv A outer s H vs Q E hr h W=>?_)
 obtain ⟨NS,h,s,k,p,x,G,rfl,R,I,hk,hG,hx,q1,q2⟩:=h
 obtain ⟨dd,r,sp,i,t,S⟩:=id R
 obtain ⟨dx,ob⟩:=S.get h
 refine' ⟨?t,?h,?r⟩
 case h =>
  conv=>arg 2;whnf
  with_reducible refine' (Zd ?h1 (Zd ?h2 (Zd ?h3 (Zd (Yb ?h4 (Zi ?h5) ZM) (Zi ?h6)))))
  case h1=>exact Yh (ZU U TH.cl hr (pv 0) (Zc (pv 1) Za))
  case h2=>exact Yh (Us W J TH.cl hr (pv 0) (Zc (pv 2) Za))
  case h3=>exact Zv (i:=3) scHLi.nd rfl (QD rfl) (ZU B TH.cl hr (pv 0) (Zc (pv 1) (Zc (pv 2) Za)))
  case h4=>exact XM (UG (pv 3))
  case h5=>exact Vl W DE hr rfl (Zc (pv 2) Za)
  case h6=>exact Zq (pv 3)
 try dsimp only [ZN,Cx.nox]
 refine zs5 ?_
 intro zD zS zN4 zN3 zN2 zN1
 refine ⟨_,rfl,h,dx,_,rfl,ob,Yd (by decide +kernel),_,rfl,h,s,k,rfl,R,(Qk.mp hk).1,?_⟩
 refine ⟨_,rfl,h,dx,_,rfl,ob,Yd (by decide +kernel),_,rfl,h,s,x,rfl,R,fun hs=>?_,q1⟩
 obtain ⟨d,Z⟩:=JC.mp hs
 obtain ⟨g1,g2⟩:=q2 d Z
 refine ⟨_,rfl,h,dx,_,rfl,ob,Yd (by decide +kernel),_,rfl,_,rfl,NS,h,s,k,p,x,G,d,rfl,R,I,hk,hG,hx,Z,fun H1 s1=>?_⟩
 generalize Vu (G x) d=u at g1 g2
 refine ⟨_,rfl,_,rfl,Wc (fun c=>?_) (fun c=>?_)⟩
 ·exact ⟨_,rfl,_,rfl,fun dx Z=>g1 (of_decide_eq_true c) dx _ (s1.trans (Zm Z _)) Zf⟩
 ·exact ⟨_,rfl,g2 (fun z=>c (decide_eq_true z)) H1 s1⟩
inductive ZbR (K:Qa)(CH CR CS CT CX CM:Addr)(vs:List V)(H:Hp)(Q:VK)(E:XK):Prop
 | mk (NS:List Str) (h:Addr) (s:Hs) (k p:Nat) (x:Str) (F:Str->Option V):vs=[.ref h,.str x]->WL K CH CR CS CT h s H->HI NS s->s.ins.getLast?=some k->s.spots[k]?=some p->(envs s.pls)[p]?=some F->x∈NS->((Zz s.dfs (Qs x)=none->∀ dx H',Same H H'->H' dx=some (.xd [("what",.str x)])->E (.ref CX) (some dx) H'))->(∀ d,Zz s.dfs (Qs x)=some d->(Vu (F x) d=.non->∀ dx H',Same H H'->H' dx=some (.xd [("what",.str x)])->E (.ref CM) (some dx) H')/\(Vu (F x) d≠.non->∀ H',Same H H'->Q (Vu (F x) d) H'))->ZbR K CH CR CS CT CX CM vs H Q E
abbrev nHLo:List Str:=["self","name"]
abbrev Zal:List Str:=["self","name"]
theorem ZoJ:Zp nHLo Zal (Zk c_Hall_look):={}
theorem Zie {CX CM:Addr}{f:Addr}{fd:Qn}(F:Fun K "look" "Hall.look" c_Hall_look f fd)(T:Yi mg)(TH:Xu K CH)(J:DefM P w K mg base 13 CH "now" ZbH (ZbT K CH CR CS CT))(B:DefMX P w K mg base 13 CH "look_in" Zdp (Zdu K CH CR CS CT CX CM)):FnOk P w K mg base (XH P w base) 14 f fd Zal (ZbR K CH CR CS CT CX CM):=by
 refine F.okX ZoJ (fun cdv A outer s H vs Q E Z h W=>?_)
 obtain ⟨NS,h,s,k,p,x,G,rfl,R,I,hn,hk,hG,hx,q1,q2⟩:=h
 obtain ⟨dd,r,sp,i,t,S⟩:=id R
 obtain ⟨dx,U⟩:=S.get h
 refine' ⟨?t,?h,?r⟩
 case h =>
  conv=>arg 2;whnf
  with_reducible refine' (Zi ?h1)
  case h1=>exact Zq (Us W B TH.cl Z (pv 0) (Zc (We J TH.cl Z (pv 0)) (Zc (pv 1) Za)))
 try dsimp only [ZN,Cx.nox]
 exact ⟨_,rfl,h,dx,_,rfl,U,Yd (by decide +kernel),_,rfl,h,dx,_,rfl,U,Yd (by decide +kernel),h,s,k,rfl,R,hn,_,rfl,NS,h,s,k,p,x,G,rfl,R,I,hk,hG,hx,q1,q2⟩
end
end K35
namespace L2
open PySem
def TLs (H:Hp)(as:List Addr)(tss:List (List V)):Prop:=as.length=tss.length/\∀(i:Nat)(a:Addr)(ts:List V),as[i]?=some a->tss[i]?=some ts->H a=some (.tup ts)
def TL (tss:List (List V)):YD:=fun l h=>∃ as:List Addr,h l=some (.lst (as.map V.ref))/\TLs h as tss
theorem TLs.up {H H':Hp}{as:List Addr}{B:List (List V)}(h:TLs H as B)(s:Same H H'):TLs H' as B:=⟨h.1,fun i a x e1 G=>s _ _ (h.2 i a x e1 G)⟩
instance {tss:List (List V)}:Up (TL tss):=⟨fun ⟨as,e,h⟩ s=>⟨as,s _ _ e,h.up s⟩⟩
theorem TLs.app {H:Hp}{as:List Addr}{G:List (List V)}{a:Addr}{ts:List V}(h:TLs H as G)(e:H a=some (.tup ts)):TLs H (as++[a]) (G++[ts]):=by
 refine ⟨by rw [length_append,length_append,h.1];rfl,fun i b x B I=>?_⟩
 by_cases hi:i < as.length
 ·rw [getElem?_append_left hi] at B
  rw [getElem?_append_left (by rw [<- h.1];exact hi)] at I
  exact h.2 i b x B I
 ·rw [getElem?_append_right (by omega)] at B
  rw [getElem?_append_right (by rw [<- h.1];omega),<- h.1] at I
  cases z:i - as.length with
  | zero=>rw [z] at B I;cases B;cases I;exact e
  | succ j=>rw [z] at B;cases B
theorem Sep.tlPut {Δ Δ':Rs}{H H2:Hp}{G B:List (List V)}{l:Addr}(S:Sep Δ H){as':List Addr}{o:HO}(e:upd H l o=H2)(Z:o=.lst (as'.map V.ref))[P:Pull l Δ (TL G) Δ'](I:TLs H as' B):Sep ((l,TL B)::Δ') H2:=by
 subst e;subst Z
 refine S.updR l _ (fun h ⟨as,e,_⟩=>⟨_,e,rfl⟩) fun h r l' h' e1 e2 e3=>⟨as',e1,I.1,fun i a ts U q2=>?_⟩
 have J:=I.2 i a ts U q2
 refine e3 _ _ (fun z=>?_) J rfl
 obtain ⟨as,W,_⟩:=r
 have:=l' _ _ W
 rw [<- z,J] at this
 cases this
end L2
namespace L2
open PySem PySem.W PySem.Spec PyProof.Rows
section
variable {P:Qi}{w:Qu}{K:Qa}{mg:Str->Option Qb}{base:Heap}
end
section
variable {X:Cx}{o:Expr}{to:TE}{y z:Str}{apos cpos p1 p2:Pos}
end
end L2
namespace L2
open PySem
def ZfW (pre post:Str)(z:Int)(x:Str):Prop:=∃ c1 c2,x=pre++(⟨#[c1]⟩:Str)++(⟨#[c2]⟩:Str)++post/\YG a26.cps.toList (z / 26)=some c1/\YG a26.cps.toList (z % 26)=some c2
theorem ZkT:∀ i j:_root_.Fin 26,a26.cps.toList[i.val]?=a26.cps.toList[j.val]?->i=j:=by decide +kernel
theorem Zhl {xs:List Nat}{r:Int}{c:Nat}(B:0<=r)(h:YG xs r=some c):xs[r.toNat]?=some c:=by
 unfold YG Wm at h
 rw [if_pos B] at h
 split at h
 ·exact h
 ·cases h
theorem Zhj {r B:Int}{c:Nat}(G:0<=r)(h1:r < 26)(h2:0<=B)(J:B < 26)(e:YG a26.cps.toList r=some c)(I:YG a26.cps.toList B=some c):r=B:=by
 have:=ZkT ⟨r.toNat,by omega⟩ ⟨B.toNat,by omega⟩ ((Zhl G e).trans (Zhl h2 I).symm)
 have:=congrArg Fin.val this
 simp only at this
 omega
theorem ZkU (x y:Str):(x++y).cps.toList=x.cps.toList++y.cps.toList:=by
 show (x.cps++y.cps).toList=_
 simp
theorem ZmQ {G B:Str}{z I:Int}{x:Str}(h0:0<=z)(h1:z < 676)(h2:0<=I)(h3:I < 676)(h:ZfW G B z x)(h':ZfW G B I x):z=I:=by
 obtain ⟨c1,c2,rfl,e1,S⟩:=h
 obtain ⟨d1,Z,e,J,U⟩:=h'
 have e:=congrArg (fun s:Str=>s.cps.toList) e
 simp only [ZkU,OD] at e
 have e:=List.append_cancel_left e
 simp at e
 obtain ⟨rfl,rfl⟩:=e
 have g1:=Zhj (by omega) (by omega) (by omega) (by omega) e1 J
 have W:=Zhj (by omega) (by omega) (by omega) (by omega) S U
 omega
theorem ZlU {G B:Int}{i j:Nat}(I:B=1\/B=27\/B=5\/B=251)(J:i < j)(S:j<=100)(e:(G+B * (0+(i:Int))) % 676=(G+B * (0+(j:Int))) % 676):False:=by
 rcases I with rfl | rfl | rfl | rfl<;>omega
theorem ZhZ {J G:Str}{U B:Int}{xs:List Str}(W:B=1\/B=27\/B=5\/B=251)(Z:xs.length<=100)(h:∀(j:Nat)(x:Str),xs[j]?=some x->ZfW J G ((U+B * (0+(j:Int))) % 676) x):xs.Nodup:=by
 refine Jy.mpr fun i j hi S I e=>?_
 have a:=h i _ (getElem?_eq_getElem hi)
 have b:=h j _ (getElem?_eq_getElem S)
 rw [e] at a
 exact ZlU W I (by omega) (ZmQ (Gz _ (by decide)) (Gs _ (by decide)) (Gz _ (by decide)) (Gs _ (by decide)) a b)
inductive ZaY (vs:List V)(H:Hp)(Q:VK)(w_3:XK):Prop
 | mk (p:Addr) (n:Nat) (many:Int) (Δ:Rs):vs=[.ref p,.int many]->Sep ((p,Bx n)::Δ) H->n<=900000->0<=many->many<=100->(∀ (l:Addr) (H':Hp) (xs:List Str),Sep ((l,ZX (xs.map V.str))::(p,Bx (n+20))::Δ) H'->xs.length=many.toNat->(∀ x∈xs,Uw x)->xs.Nodup->Q (.ref l) H')->ZaY vs H Q w_3
end L2
namespace L2
open PySem PySem.Spec PyProof.Rows
section
variable {X:Cx}
end
end L2
namespace L2
open PySem PySem.W PySem.Spec PyProof.Rows
section
variable {X:Cx}
end
end L2
namespace L2
open PySem PySem.Spec PyProof.Rows
section
variable {prog:Qi}{w:Qu}{A:Qz}{E:Qb->Qd->Prop}{s:Qd}
end
section
variable {X:Cx}
end
section
variable {P:Qi}{w:Qu}{K:Qa}{mg:Str->Option Qb}{base:Heap}{k:Nat}{f:Addr}{fd:Qn}{ps:List Str}{sp sp':Sp}
theorem FnOk.low (F:FnOk P w K mg base (XH P w base) k f fd ps sp)(h:∀ vs H Q E,sp' vs H Q E->sp vs H Q (fun _ _ _=>False)):FnOk P w K mg base ZF k f fd ps sp' :=
 ⟨fun vs H Q E z=>F.len vs H Q _ (h vs H Q E z),fun A outer s H args us vs Q E B e b v q=>Ge (F.run A outer s H args us vs Q _ B e b v (h vs H Q E q)) fun r s' z=>by
  cases r with
  | error e=>obtain ⟨_,_,_,_,_,_,_,_,_,_,_,_,z⟩:=z;exact z.elim
  | ok fl=>cases fl<;>exact z⟩
end
end L2
namespace K35
open PySem L2
theorem ZmC {fs:List Fnd}{l:Addr}{h:Hp}:UU fs l h->TL (fs.map Fnd.vs) l h
 | ⟨as,e,hl,hs⟩=>⟨as,e,by rw [length_map];exact hl,fun i a ts G B=>by
  rw [getElem?_map] at B
  obtain ⟨f,I,rfl⟩:=Gc.mp B
  exact hs i a f G I⟩
theorem ZnU {fs:List Fnd}{l:Addr}{h:Hp}:TL (fs.map Fnd.vs) l h->UU fs l h
 | ⟨as,e,hl,hs⟩=>⟨as,e,by rw [hl,length_map],fun i a f B G=>hs i a f.vs B (by rw [getElem?_map,G];rfl)⟩
theorem Zpq {lf lu:Addr}{m:Str}(h:[("finds":Str),"unused"].all (fun k=>!(m == k))=true):(tFl lf lu).lookup m=none:=by
 simp only [RL,OG,RM,QJ,GR] at h
 obtain ⟨h1,h2⟩:=h
 simp [tFl,Gv,h1,h2]
section
variable {P:Qi}{w:Qu}{K:Qa}{mg:Str->Option Qb}{base:Heap}{CH CR CS CT Pl:Addr}
inductive Zki (CT:Addr)(vs:List V)(H:Hp)(Q:VK)(w_3:XK):Prop
 | mk (t:Addr) (fs:List Fnd) (us:List Bool) (k:Nat) (x:Str) (v:V) (Δ:Rs):vs=[.ref t,.int (k:Int),.str x,v]->Sep ((t,Tks CT fs us)::Δ) H->fs.length<=1000->us.length<=1000->(∀ H',Sep ((t,Tks CT (fs++[⟨k,x,v⟩]) (us++[true]))::Δ) H'->Q (.int (fs.length:Int)) H')->Zki CT vs H Q w_3
abbrev nTMk:List Str:=["self","world","name","old"]
abbrev ZgB:List Str:=["self","world","name","old"]
theorem ZoY:Zp nTMk ZgB (Zk c_Tokens_make):={}
theorem Zln {f:Addr}{fd:Qn}(F:Fun K "make" "Tokens.make" c_Tokens_make f fd)(T:Yi mg)(TT:Zga K CT):FnOk P w K mg base ZF 1 f fd ZgB (Zki CT):=by
 refine F.ok ZoY (fun cdv A outer s H vs Q E hr h=>?_)
 obtain ⟨t,fs,us,k,x,v,Δ,rfl,S0,hf,hu,q⟩:=h
 obtain ⟨lf,lu,S⟩:=S0.tksO
 obtain ⟨dx,ob⟩:=S.get t
 have S1:=S.say lf (TL (fs.map Fnd.vs)) fun h z=>ZmC z
 obtain ⟨as,el,hs⟩:=S1.get lf
 refine' ⟨?t,?h,?r⟩
 case h =>
  conv=>arg 2;whnf
  with_reducible refine' (Zd ?h1 (Zd ?h2 (Zi ?h3)))
  case h1=>exact Yh (XD QI QL QM YH (ZC (pv 0) rfl) (Zc (YE (Zc (pv 1) (Zc (pv 2) (Zc (pv 3) Za)))) Za))
  case h2=>exact Yh (XD QI QL QM YH (ZC (pv 0) rfl) (Zc YY Za))
  case h3=>exact Zq (Zw Xm (Zu Ya rfl T.len QU (Zc (ZC (pv 0) rfl) Za)) Zh)
 try dsimp only [ZN,Cx.nox]
 refine zs3 ?_
 intro zD zS zN2 zN1
 refine ⟨_,rfl,t,CT,dx,_,_,rfl,ob,TT.cl,TT.nf,rfl,.inl ⟨rfl,_,SqL.of el⟩,_,rfl,_,rfl,_,rfl,(by show 3<=Qj;decide),fun p hp=>?_⟩
 generalize B:upd H p _=H2
 have Z:=S1.newE hp B
 have ep:H2 p=some (.tup [.int (k:Int),.str x,v]):=Z.get p
 clear B
 obtain ⟨as2,U,I⟩:=Z.get lf
 refine ⟨lf,_,_,rfl,rfl,U,Xa (show _<=1000 by rw [length_map,I.1,length_map];exact hf),?_⟩
 generalize B:upd H2 lf _=H3
 have J:=Z.tlPut B (as':=as2++[p]) (by rw [map_append];rfl) (I.app ep)
 clear B
 obtain ⟨dx3,ob3⟩:=J.get t
 refine ⟨_,rfl,t,CT,dx3,_,_,rfl,ob3,TT.cl,TT.nu,rfl,.inl ⟨rfl,_,SqL.of (J.get lu)⟩,lu,_,_,rfl,rfl,J.get lu,Xa (show _<=1000 by rw [length_map];exact hu),?_⟩
 generalize B:upd H3 lu _=H4
 have S4:=J.putE B
 clear B
 obtain ⟨dx4,ob4⟩:=S4.get t
 obtain ⟨as4,el4,W⟩:=S4.get lf
 refine ⟨_,rfl,t,CT,dx4,_,_,rfl,ob4,TT.cl,TT.nf,rfl,lf,_,rfl,.inl (SqL.of el4),_,_,rfl,rfl,?_⟩
 have G:=W.1
 rw [length_append,length_map,Jp] at G
 rw [length_map,G]
 show Q (.int (((fs.length+1:Nat):Int) - 1)) H4
 rw [show ((fs.length+1:Nat):Int) - 1=(fs.length:Int) by omega]
 have S5:=S4.say lf (UU (fs++[⟨k,x,v⟩])) fun h z=>ZnU (by rw [map_append];exact z)
 refine q _ (Sep.tksC (lf:=lf) (lu:=lu) ?_)
 rw [map_append]
 exact (((S5.drop p).pull lu).pull lf).pull t
end
section
variable {P:Qi}{w:Qu}{K:Qa}{mg:Str->Option Qb}{base:Heap}{CH CR CS CT Pl:Addr}
end
section
variable {P:Qi}{w:Qu}{K:Qa}{mg:Str->Option Qb}{base:Heap}{CH CR CS CT Pl:Addr}
structure HB (s:Hs):Prop where
 pl:s.pls.length<=9000
 nd:s.nds.length<=80000
 tb:s.tabs.length<=80000
 fd:s.fds.length<=900
 fu:s.fds.length=s.us.length
def hGo (s:Hs)(n p:Nat)(st:Stp)(t' c:Nat)(nds:List Nd)(tabs:List (Zo×V)):Hs:={ s with pls:=s.pls++[⟨p,st,t',c⟩],nds:=nds,tabs:=tabs,spots:=s.spots.set n (s.pls.length+1) }
theorem Zol {NS:List Str}{s:Hs}(I:HI NS s){n p t' c:Nat}{st:Stp}{nds:List Nd}{B:List (Zo×V)}(R:RInv NS (s.pls++[⟨p,st,t',c⟩]) nds B):HI NS (hGo s n p st t' c nds B):=by
 refine ⟨I.N,R,fun x G=>?_⟩
 show x<=(s.pls++[_]).length
 rw [length_append,Jp]
 rcases List.mem_or_eq_of_mem_set G with h | h
 ·have:=I.sp x h;omega
 ·omega
inductive ZbW (K:Qa)(CH CR CS CT Pl CX:Addr)(vs:List V)(H:Hp)(Q:VK)(E:XK):Prop
 | mk (NS:List Str) (h:Addr) (s:Hs) (n p:Nat) (x:Str) (v:V) (G:Str->Option V) (Δ:Rs):vs=[.ref h,.str x,v]->Sep ((h,WV K CH CR CS CT s)::(Pl,Xf)::Δ) H->HI NS s->HB s->s.ins.getLast?=some n->s.spots[n]?=some p->(envs s.pls)[p]?=some G->x∈NS->IsVal v->(Zz s.dfs (Qs x)=none->ExW E CX (.str x) H)->(((Zz s.dfs (Qs x)).isSome=true->∀ (H':Hp) (t' c:Nat) (nds:List Nd) (tabs:List (Zo×V)),Sep ((h,WV K CH CR CS CT { hGo s n p (.set x v) t' c nds tabs with fds:=s.fds++[⟨n,x,(G x).getD .non⟩],us:=s.us++[true] })::(Pl,Xf)::Δ) H'->HI NS (hGo s n p (.set x v) t' c nds tabs)->nds.length<=s.nds.length+6->tabs.length<=s.tabs.length+1->Q (.int (s.fds.length:Int)) H'))->ZbW K CH CR CS CT Pl CX vs H Q E
abbrev nHSt:List Str:=["self","name","value","world","token"]
abbrev Zam:List Str:=["self","name","value"]
theorem scHSt:Zp nHSt Zam (Zk c_Hall_set_to):={}
theorem Zig {CX f:Addr}{fd:Qn}(F:Fun K "set_to" "Hall.set_to" c_Hall_set_to f fd)(T:Yi mg)(TH:Xu K CH)(TR:Wp K CR)(TT:Zga K CT)(J:DefMX P w K mg base 12 CH "check_setting" Zak (Zar K CH CR CS CT CX))(DH_now:DefM P w K mg base 12 CH "now" ZbH (ZbT K CH CR CS CT))(DT_make:DefM P w K mg base 12 CT "make" ZgB (Zki CT))(U:DefM P w K mg base 12 CH "value_in" ZbI (ZbZ K CH CR CS CT))(Z:DefM P w K mg base 12 CH "place" Vk (Zau K CH CR CS CT))(DR_put:DefM P w K mg base 12 CR "put" Zgz (Zet K CR CS Pl)):FnOk P w K mg base (XH P w base) 13 f fd Zam (ZbW K CH CR CS CT Pl CX):=by
 refine F.okX scHSt (fun cdv A outer s H vs Q E hr h W=>?_)
 obtain ⟨NS,h,s,n,p,x,v,G,Δ,rfl,S0,I,B,hn,hp,hG,hx,hv,q0,q'⟩:=h
 have R:=S0.get h
 obtain ⟨d,r,sp,i,t,S⟩:=S0.halO
 obtain ⟨dx,ob⟩:=S.get h
 obtain ⟨lf,lu,ST⟩:=S.get t
 obtain ⟨dxt,obt⟩:=ST.get t
 have hBf:=B.fd
 have hBu:=B.fu
 refine' ⟨?t,?h,?r⟩
 case h =>
  conv=>arg 2;whnf
  with_reducible refine' (Zd ?h1 (Zd ?h2 (Zd ?h3 (Zd ?h4 (Zi ?h5)))))
  case h1=>exact Yh (Us W J TH.cl hr (pv 0) (Zc (pv 1) Za))
  case h2=>exact Zv (i:=3) scHSt.nd rfl (QD rfl) (We DH_now TH.cl hr (pv 0))
  case h3=>exact Zv (i:=4) scHSt.nd rfl (QD rfl) (ZU DT_make TT.cl hr (ZC (pv 0) rfl) (Zc (pv 3) (Zc (pv 1) (Zc (ZU U TH.cl hr (pv 0) (Zc (pv 3) (Zc (pv 1) Za))) Za))))
  case h4=>exact Wg (ZU DR_put TR.cl hr (ZC (pv 0) rfl) (Zc (ZU Z TH.cl hr (pv 0) (Zc (pv 3) Za)) (Zc (pv 1) (Zc (pv 2) Za)))) (VL (ZC (pv 0) rfl) (pv 3) Ug)
  case h5=>exact Zq (pv 4)
 try dsimp only [ZN,Cx.nox]
 refine zs5 ?_
 intro zD zS zN4 zN3 zN2 zN1
 refine ⟨_,rfl,h,dx,_,rfl,ob,Yd (by decide +kernel),_,rfl,h,s,x,rfl,R,fun hd=>?_,q0⟩
 have q:=q' hd
 refine ⟨_,rfl,h,dx,_,rfl,ob,Yd (by decide +kernel),h,s,n,rfl,R,hn,?_⟩
 refine ⟨_,rfl,h,CH,dx,_,_,rfl,ob,TH.cl,TH.nh,hf_h,t,dxt,_,rfl,obt,Zpq (by decide +kernel),_,rfl,_,rfl,_,rfl,h,dx,_,rfl,ob,Yd (by decide +kernel),_,rfl,_,rfl,NS,h,s,n,p,x,G,rfl,R,I,hp,hG,hx,fun H1 s1=>?_⟩
 refine ⟨t,s.fds,s.us,n,x,_,_,rfl,(S.mono s1).pull t,by omega,by omega,fun H2 S2=>?_⟩
 have R2:WL K CH CR CS CT h { s with fds:=s.fds++[⟨n,x,(G x).getD .non⟩],us:=s.us++[true] } H2:=Sep.get (Sep.halC (s:={ s with fds:=s.fds++[⟨n,x,(G x).getD .non⟩],us:=s.us++[true] }) ((((((S2.pull t).pull i).pull sp).pull r).pull d).pull h)) h
 obtain ⟨dx2,ob2⟩:=S2.get h
 obtain ⟨st,la,ls,lt,lc,SR⟩:=S2.get r
 obtain ⟨dxr,obr⟩:=SR.get r
 refine ⟨_,rfl,h,CH,dx2,_,_,rfl,ob2,TH.cl,TH.nw,Zjo,r,dxr,_,rfl,obr,Wi (by decide +kernel),_,rfl,h,dx2,_,rfl,ob2,Yd (by decide +kernel),_,rfl,h,_,n,p,rfl,R2,hp,_,rfl,_,rfl,NS,r,s.pls,s.nds,s.tabs,p,x,v,_,rfl,I.N,(S2.pull Pl).pull r,I.R,⟨hx,hv⟩,I.sp p (mem_of_getElem? hp),by have:=B.pl;omega,by have:=B.nd;omega,by have:=B.tb;omega,fun H3 nds' tabs' t' S3 I3 l1 l2=>?_⟩
 obtain ⟨dx3,ob3⟩:=S3.get h
 have hns:=(Qk.mp hp).1
 refine ⟨_,rfl,h,CH,dx3,_,_,rfl,ob3,TH.cl,TH.ns,Zgk,_,rfl,sp,_,_,n,rfl,rfl,S3.get sp,(by unfold Wm;rw [length_map,if_pos (by omega)];simp [hns]),?_⟩
 generalize hE:upd H3 sp _=H4
 have S4:=S3.putE hE
 clear hE
 refine ⟨_,rfl,q H4 t' _ nds' tabs' ?_ (Zol I I3) l1 l2⟩
 refine Sep.halC (d:=d) (r:=r) (sp:=sp) (i:=i) (t:=t) ?_
 show Sep (_::_::_::(sp,ZX ((s.spots.set n (s.pls.length+1)).map nI))::_) _
 rw [OE]
 exact ((((((S4.pull Pl).pull t).pull i).pull sp).pull r).pull d).pull h
inductive ZgM (K:Qa)(CH CR CS CT:Addr)(vs:List V)(H:Hp)(Q:VK)(w_3:XK):Prop
 | mk (h:Addr) (s:Hs):vs=[.ref h]->WL K CH CR CS CT h s H->(∀ r,RdR K CR CS r s.pls s.nds s.tabs H->Q (.ref r) H)->ZgM K CH CR CS CT vs H Q w_3
abbrev nHRo:List Str:=["self"]
abbrev Zgs:List Str:=["self"]
theorem ZoM:Zp nHRo Zgs (Zk c_Hall_roads):={}
theorem Znb {f:Addr}{fd:Qn}(F:Fun K "roads" "Hall.roads" c_Hall_roads f fd)(T:Yi mg)(B:Xu K CH):FnOk P w K mg base ZF 1 f fd Zgs (ZgM K CH CR CS CT):=by
 refine F.ok ZoM (fun I A outer s H vs Q E J h=>?_)
 obtain ⟨h,s,rfl,⟨d,r,sp,i,t,S⟩,q⟩:=h
 obtain ⟨dx,G⟩:=S.get h
 refine' ⟨?t,?h,?r⟩
 case h =>
  conv=>arg 2;whnf
  with_reducible refine' (Zi ?h1)
  case h1=>exact Zq (ZC (pv 0) rfl)
 try dsimp only [ZN,Cx.nox]
 exact ⟨_,rfl,h,CH,dx,_,_,rfl,G,B.cl,B.nw,Zjo,q r (S.get r)⟩
inductive Zdv (K:Qa)(CH CR CS CT:Addr)(vs:List V)(H:Hp)(Q:VK)(w_3:XK):Prop
 | mk (NS:List Str) (h:Addr) (s:Hs) (n p:Nat) (x:Str) (o:V) (G:Str->Option V):vs=[.ref h,.str x,o]->WL K CH CR CS CT h s H->HI NS s->s.ins.getLast?=some n->s.spots[n]?=some p->(envs s.pls)[p]?=some G->x∈NS->(Zz s.dfs (Qs x)).isSome=true->(∀ H',Same H H'->Q (Vu (G x) o) H')->Zdv K CH CR CS CT vs H Q w_3
abbrev Zoy:List Str:=["self","name","other"]
end
section
variable {P:Qi}{w:Qu}{K:Qa}{mg:Str->Option Qb}{base:Heap}
abbrev nNm:List Str:=["_law_box_here","_law_many","_law_letters","_law_size","_law_stem","_law_first","_law_step","_law_at","_law_found","_law_k","_law_one","_law_other"]
abbrev ZjU:List Str:=["_law_box_here","_law_many"]
theorem scNm:Zp nNm ZjU (Zk s_l_names):={}
theorem ZjF {f:Addr}{fd:Qn}(F:Fun K "_law_names" "_law_names" s_l_names f fd)(T:Yi mg)(DT:DTk P w K mg base 1):FnOk P w K mg base ZF 2 f fd ZjU ZaY:=by
 refine F.ok scNm (fun cdv A outer s H vs Q E hr h=>?_)
 obtain ⟨p,n,many,Δ,rfl,S,hn,h0,h1,q⟩:=h
 have I:=hr
 refine' ⟨?t,?h,?r⟩
 case h =>
  conv=>arg 2;whnf
  with_reducible refine' (Zd ?h1 (Zd ?h2 (Zd ?h3 (Zd ?h4 (Zd (WH ?h5 ?h6 ?h7 ?h8 (Zd ?h9 (Zi ?h10)) ?h11) (Zi ?h12))))))
  case h1=>exact Wg (YE (Zc ZR (Zc (Zw Yy Zh (ZJ DT I (Zc (pv 0) (Zc Zh Za)))) Za))) (VM rfl (YO (Yg (i:=2) scNm.nd rfl (SW rfl)) (YO (Yg (i:=3) scNm.nd rfl (QD rfl)) UH)))
  case h2=>exact Zv (i:=4) scNm.nd rfl (QD rfl) (XD Ss SM SN Zfo ZR (Zc (Zcq (CompOk.of nNm s_l_names rfl rfl (by decide +kernel)) rfl (XU rfl T.range (Zc (Zw Xm (pv 3) Zh) Za))  (fun _ _ _ _ _=>ZD Zbv (pv 2) (ZJ DT I (Zc (pv 0) (Zc Zh Za))) (fun _ _=>rfl))) Za))
  case h3=>exact ZlK (i:=5) (j:=6) (k:=7) rfl scNm.nd rfl rfl rfl (by decide) (by decide) (by decide) rfl rfl rfl (Zc (ZJ DT I (Zc (pv 0) (Zc Zh Za))) (Zc (ZD ZE (Yc (Zc Zh (Zc Zh (Zc Zh (Zc Zh Za))))) (ZJ DT I (Zc (pv 0) (Zc Zh Za))) (fun _ _=>rfl)) (Zc (ZJ DT I (Zc (pv 0) (Zc (Zw Xm (pv 3) Zh) Za))) Za))) rfl
  case h4=>exact Zv (i:=8) scNm.nd rfl (QD rfl) (Yc Za)
  case h5=>exact Gm
  case h6=>exact rfl
  case h7=>exact XU rfl T.range (Zc (pv 1) Za)
  case h8=>exact Yg (i:=9) scNm.nd rfl (QD rfl)
  case h9=>exact Wg (Zu ZeI rfl T.divmod (by decide +kernel) (Zc (Zw XL (Zw Yy (pv 5) (Zw WF (pv 6) (pv 9))) Zh) (Zc Zh Za))) (VM rfl (YO (Yg (i:=10) scNm.nd rfl (QD rfl)) (YO (Yg (i:=11) scNm.nd rfl (QD rfl)) UH)))
  case h10=>exact Yh (XD QI QL QM YH (pv 8) (Zc (Zw Vh (Zw Vh (Zw Vh (Vi ZiA (pv 4) Zao (Zap (pv 7))) (ZD Zbv (pv 2) (pv 10) (fun _ _=>rfl))) (ZD Zbv (pv 2) (pv 11) (fun _ _=>rfl))) (Vi ZiA (pv 4) (Zap (pv 7)) Zao)) Za))
  case h11=>exact fun _=>rfl
  case h12=>exact Zq (pv 8)
 try dsimp only [ZN,Cx.nox]
 refine zs6 ?_
 intro zD zS zN5 zN4 zN3 zN2 zN1
 refine ⟨_,rfl,p,_,7,_,rfl,S,by omega,by decide,by decide,fun r1 H1 a0 a1 S1=>⟨_,_,rfl,rfl,(by show 2<=Qj;decide),fun t ht=>⟨t,_,rfl,SqT.of Zf,rfl,_,_,rfl,_,_,rfl,rfl,?_⟩⟩⟩
 generalize G:upd H1 t _=H2
 have S2:=(S1.newE ht G).tail
 clear G
 refine ⟨rfl,_,rfl,_,_,rfl,rfl,_,rfl,by omega,by omega,fun D hD=>?_⟩
 have e1:(2+r1 - 2).toNat=r1.toNat:=by omega
 rw [e1]
 refine ZeK (Wj (show r1.toNat<=1000 by omega)) S2 hD (fun i ys Δ'=>∃ zs:List Str,ys=zs.map V.str/\(∀ z∈zs,∃ c,z=⟨#[c]⟩/\Zcm c=true)/\Δ'=(p,Bx (n+1+i))::Δ) ⟨[],rfl,(fun _ h=>nomatch h),rfl⟩ ?_ ?_
 ·rintro i ys Δ' H' hi hl ⟨zs,rfl,hz,rfl⟩ S'
  refine ⟨_,rfl,_,rfl,p,_,26,_,rfl,S'.pull p,by omega,by decide,by decide,fun r3 H3 b0 b1 S3=>?_⟩
  obtain ⟨c,hc,hcl⟩:=Zcs (x:=a26) Zcf b0 (by rw [WQ];exact b1)
  refine ⟨a26,r3,c,rfl,rfl,by rw [WQ];decide,hc,_,⟨zs++[⟨#[c]⟩],by rw [map_append];rfl,?_,rfl⟩,S3.pull D⟩
  intro z hz'
  rcases mem_append.mp hz' with h | h
  ·exact hz z h
  ·rw [mem_singleton.mp h];exact ⟨c,rfl,hcl⟩
 rintro ys Δ' H3 ⟨zs,rfl,hz,rfl⟩ hl S3
 rw [length_map] at hl
 obtain ⟨g1,g2,g3⟩:=ZhH hz
 refine ⟨_,D,zs,rfl,rfl,SqL.of (S3.get D),by omega,?_⟩
 have S4:=S3.tail
 generalize Txt.join (Qw "") zs=B at *
 refine ⟨_,rfl,p,_,676,_,rfl,S4,by omega,by decide,by decide,fun r5 H5 b0 b1 S5=>⟨(by show 4<=Qj;decide),fun l hl4=>?_⟩⟩
 generalize G:upd H5 l _=H6
 have S6:=S5.newE hl4 G
 clear G
 refine ⟨_,rfl,p,_,4,_,rfl,S6.pull p,by omega,by decide,by decide,fun r7 H7 c0 c1 S7=>?_⟩
 obtain ⟨sv,hsm,hsv⟩:=Zle (xs:=[.int 1,.int 27,.int 5,.int 251]) c0 c1
 obtain ⟨J,rfl,hst,hst4⟩:∃ z:Int,sv=.int z/\(0<=z/\z<=251)/\(z=1\/z=27\/z=5\/z=251):=by
  simp only [mem_cons,Pg,or_false] at hsm
  rcases hsm with rfl | rfl | rfl | rfl<;>exact ⟨_,rfl,⟨by decide,by decide⟩,by decide⟩
 refine ⟨l,_,_,_,rfl,rfl,SqL.of (S7.get l),hsv,?_⟩
 have S8:=S7.drop l
 refine ⟨_,rfl,_,rfl,_,_,rfl,rfl,p,_,_,_,rfl,S8,by omega,by omega,by omega,fun U H9 d0 d1 S10=>⟨_,_,_,rfl,?_⟩⟩
 refine ⟨(by show 0<=Qj;decide),fun W hfl=>?_⟩
 generalize G:upd H9 W _=H11
 have S11:=S10.newE hfl G
 clear G
 refine ⟨_,rfl,many,rfl,by omega,by omega,?_⟩
 refine Uq (fun i σ H'=>∃ x9 x10 x11 xs,σ=[some (.ref p),some (.int many),some (.str a26),some (.int (2+r1)),some (.str B),some (.int r5),some (.int J),some (.int U),some (.ref W),x9,x10,x11]/\Sep ((W,ZX (xs.map V.str))::(p,Bx (n+20))::Δ) H'/\xs.length=i/\(∀ x∈xs,Uw x)/\∀ (j:Nat) (x:Str),xs[j]?=some x->ZfW (Txt.slice B none (some U)) (Txt.slice B (some U) none) ((r5+J * (0+(j:Int))) % 676) x)
  ⟨_,_,_,[],rfl,(S11.pull p).le (by omega) |>.pull W,rfl,(fun _ h=>nomatch h),fun _ _ h=>nomatch h⟩ ?_ ?_
 ·rintro i σ H' hi ⟨x9,x10,x11,xs,rfl,S',hxl,hxs,hnm⟩
  have hb:0<=J * (0+(i:Int)):=Int.mul_nonneg hst.1 (by omega)
  refine ⟨_,rfl,_,rfl,_,rfl,_,_,rfl,rfl,.inl ⟨by omega,by omega⟩,_,_,rfl,rfl,_,_,rfl,rfl,(by show (0:Int) < 676;decide),?_⟩
  obtain ⟨z,hz⟩:∃ z:Int,(r5+J * (0+(i:Int))) % 676=z:=⟨_,rfl⟩
  have hz0:0<=z:=by rw [<- hz];exact Gz _ (by decide)
  have hz1:z < 676:=by rw [<- hz];exact Gs _ (by decide)
  refine ⟨z,26,congrArg (fun y=>[V.int y,V.int 26]) hz,⟨by decide,by decide⟩,fun t2 ht2=>⟨t2,_,rfl,SqT.of Zf,rfl,_,_,rfl,_,_,rfl,rfl,?_⟩⟩
  generalize G:upd H' t2 _=H12
  have S12:=(S'.newE ht2 G).tail
  clear G
  obtain ⟨c1',hc1,hcl1⟩:=Zcs (x:=a26) Zcf (r:=z / 26) (by omega) (by rw [WQ];omega)
  obtain ⟨Z,hc2,hcl2⟩:=Zcs (x:=a26) Zcf (r:=z % 26) (by omega) (by rw [WQ];omega)
  have hsl:=ZiB (x:=B) d0 (by omega)
  refine ⟨_,rfl,.inl ⟨rfl,_,SqL.of (S12.get W)⟩,_,rfl,_,rfl,U,rfl,B,rfl,Wj (show B.length<=1000 by omega),_,rfl,_,rfl,a26,_,c1',rfl,rfl,by rw [WQ];decide,hc1,_,_,rfl,rfl,Wj (show _<=1000 by rw [Wv];omega),?_⟩
  refine ⟨_,rfl,_,rfl,a26,_,Z,rfl,rfl,by rw [WQ];decide,hc2,_,_,rfl,rfl,Wj (show _<=1000 by rw [XT,Wv,Wv];omega),_,rfl,_,rfl,U,rfl,B,rfl,Wj (show B.length<=1000 by omega),_,_,rfl,rfl,Wj (show _<=1000 by rw [XT,XT,Wv,Wv];omega),?_⟩
  refine ⟨W,_,_,rfl,rfl,S12.get W,Xa (show _<=1000 by rw [length_map];omega),?_⟩
  have S13:=S12.put W (.lst (xs.map V.str++[.str (Txt.slice B none (some U)++(⟨#[c1']⟩:Str)++(⟨#[Z]⟩:Str)++Txt.slice B (some U) none)]))
  refine ⟨_,_,_,xs++[Txt.slice B none (some U)++(⟨#[c1']⟩:Str)++(⟨#[Z]⟩:Str)++Txt.slice B (some U) none],rfl,by rw [map_append];exact S13,by simp [hxl],fun x hx=>?_,fun j x hx=>?_⟩
  ·rcases mem_append.mp hx with h | h
   ·exact hxs x h
   ·rw [mem_singleton.mp h]
    refine ⟨?_,?_,ZaK (ZaK (ZaK (ZbL g3) (Zeb hcl1)) (Zeb hcl2)) (ZbL g3)⟩<;>(rw [XT,XT,XT,Wv,Wv];omega)
  ·by_cases hj:j < xs.length
   ·rw [getElem?_append_left hj] at hx;exact hnm j x hx
   ·have hj2:j=i:=by
     have:=(Qk.mp hx).1
     rw [length_append,Jp] at this;omega
    subst hj2
    rw [getElem?_append_right (by omega),show j - xs.length=0 by omega] at hx
    cases (show some _=some x from hx)
    rw [hz];exact ⟨c1',Z,rfl,hc1,hc2⟩
 ·rintro σ H' ⟨x9,x10,x11,xs,rfl,S',hxl,hxs,hnm⟩
  exact ⟨_,rfl,q W H' xs S' hxl hxs (ZhZ hst4 (by omega) hnm)⟩
end
def mkB:Nat->Int
 | 0=>0
 | i+1=>mkB i+((i:Int)+1) * 26
theorem ZhW {l:List Nat}:∀ i,i<=l.length->l.all Zcm=true->0<=Wu l i/\Wu l i<=mkB i
 | 0,_,_=>⟨Int.le_refl _,Int.le_refl _⟩
 | i+1,hi,ha=>by
  obtain ⟨J,h1⟩:=ZhW i (by omega) ha
  have B:i < l.length:=hi
  have G:=all_eq_true.mp ha _ (Pf B)
  have I:l.getD i 0=l[i]:=by rw [getD_eq_getElem?_getD,getElem?_eq_getElem B];rfl
  unfold Zcm at G
  simp only [QJ,decide_eq_true_eq] at G
  show 0<=Wu l i+((i:Int)+1) * (((l.getD i 0:Nat):Int) - 97+1)/\Wu l i+((i:Int)+1) * (((l.getD i 0:Nat):Int) - 97+1)<=mkB i+((i:Int)+1) * 26
  rw [I]
  have p0:(0:Int)<=((i:Int)+1) * (((l[i]:Nat):Int) - 97+1):=Int.mul_nonneg (by omega) (by omega)
  have p1:((i:Int)+1) * (((l[i]:Nat):Int) - 97+1)<=((i:Int)+1) * 26:=Int.mul_le_mul_of_nonneg_left (by omega) (by omega)
  omega
theorem Zor {NS:List Str}(W:NS.length < 64)(h:∀ x∈NS,Uw x):Yr NS:=by
 have b:∀ x∈NS,0<=Zx x/\Zx x < 1024:=fun x B=>by
  obtain ⟨h1,J,S⟩:=h x B
  obtain ⟨I,U⟩:=ZhW (l:=x.cps.toList) x.length (by rw [<- Ym];exact Qg _) S
  have G:∀ i,i<=8->mkB i < 1024:=by decide
  have:=G x.length J
  exact ⟨I,by show Wu _ _ < _;omega⟩
 exact ⟨by omega,fun x B=>by have:=(h x B).2.1;omega,fun x B=>(b x B).1,fun x B=>(b x B).2⟩
theorem ZoC {NS:List Str}:RInv NS [] [.bare] [(QQ 0,.bl true)]:=by
 refine ⟨fun k q e=>by simp at e,fun k F t e1 B=>?_⟩
 cases k with
 | zero =>
  cases (show some (fun _=>none)=some F from e1)
  cases (show some 0=some t from B)
  exact ⟨rfl,.inl (.inl ⟨rfl,rfl,fun _ _ _=>rfl⟩),fun x u z=>by cases z⟩
 | succ k=>simp [envs] at e1
end K35
namespace L2
open PySem
theorem Zco {H:Hp}{v:V}(h:Wa v):DataOf H v (WC v)/\(WC v).showable=true/\(WC v).shown.length<=Qj/\(WC v).depth<=60:=by
 have s:=Zia h 0
 exact ⟨Zfq h,s.sh,Qr s.ln (by rw [QV];omega),Qr s.dp (by decide)⟩
def ZnK (X:Cx)(t:TS):TS:=fun D σ H=>t { D with nx:=fun σ H2=>∃ d o kvs,H2 d=some (.frz o (.dK kvs))/\ZfX X d/\D.nx σ (upd H2 d (.dK kvs)) } σ H
theorem ZlJ {X:Cx}{st:Stmt}{t:TS}(h:PS X st t):PS X st (ZnK X t):=by
 intro pins s σ H D I z
 refine Zt (h pins s σ H _ I z) fun f s1 q=>?_
 cases f with
 | next =>
  obtain ⟨B,H',G,d,o,kvs,e,nf,q⟩:=q
  exact ⟨B,_,G.melt e nf,q⟩
 | ret v=>exact q
 | brk=>exact q
 | cont=>exact q
theorem Zjj {o:Obj}{d:Addr}{kvs:List (Zo×V)}{g:TG}{tb:TS}{D:Yl}{σ:St}{H:Hp}(B:Nat->St->Hp->Prop)(h0:B 0 σ H)(U:∀ i σ H,i<=kvs.length->B i σ H->H d=some (.frz o (.dK kvs)))
 (hs:∀ i p σ H,kvs[i]?=some p->B i σ H->g (kV p.1) σ H fun G H2=>tb { D with nx:=B (i+1),ct:=B (i+1),bk:=D.nx } G H2) (Z:∀ σ H,B kvs.length σ H->D.nx σ H) :
 ∃ W:Nat->Nat->St->Hp->Prop,(∃ m,W 0 m σ H)/\∀ i m σ H,W i m σ H ->
  ((Itd o d kvs).stop i H/\D.nx σ H)\/((Itd o d kvs).go i H/\∃ N:St->Hp->Prop,(∀ I H',N I H'->∃ S,S < m/\W (i+1) S I H')/\∀ x H',(Itd o d kvs).yld i H x H'->g x σ H' fun G H2=>tb { D with nx:=N,ct:=N,bk:=D.nx } G H2):=by
 refine ⟨fun i m σ H=>m=kvs.length - i/\i<=kvs.length/\B i σ H,⟨kvs.length,by simp,QC _,h0⟩,?_⟩
 rintro i m σ H ⟨rfl,hi,p⟩
 have q:=U i σ H hi p
 by_cases J:i < kvs.length
 ·refine .inr ⟨⟨q,J⟩,B (i+1),fun I H' p'=>⟨kvs.length - (i+1),by omega,rfl,J,p'⟩,fun x H' y=>?_⟩
  obtain ⟨e,pp,hp,ev⟩:=y
  subst e ev
  exact hs i pp σ _ hp p
 ·have e:i=kvs.length:=by omega
  subst e
  exact .inl ⟨⟨q,Qg _⟩,Z σ H p⟩
def Fz (d:Addr)(o:Obj)(kvs:List (Zo×V))(Δ:Rs)(H:Hp):Prop:=∃ H1,H=upd H1 d (.frz o (.dK kvs))/\Sep ((d,Uv kvs)::Δ) H1
section
variable {d:Addr}{o:Obj}{kvs:List (Zo×V)}{Δ Δ':Rs}{H H':Hp}
theorem Fz.mk (S:Sep ((d,Uv kvs)::Δ) H):Fz d o kvs Δ (upd H d (.frz o (.dK kvs))):=⟨H,rfl,S⟩
theorem Fz.sep (F:Fz d o kvs Δ H):Sep Δ H:=by
 obtain ⟨H1,rfl,S⟩:=F
 exact (S.put d (.frz o (.dK kvs))).tail
theorem Fz.at (F:Fz d o kvs Δ H):H d=some (.frz o (.dK kvs)):=by
 obtain ⟨H1,rfl,S⟩:=F
 exact Zf
theorem Fz.melt (F:Fz d o kvs Δ H):Sep ((d,Uv kvs)::Δ) (upd H d (.dK kvs)):=by
 obtain ⟨H1,rfl,S⟩:=F
 have e:upd (upd H1 d (.frz o (.dK kvs))) d (.dK kvs)=H1:=by
  funext b
  by_cases hb:b=d
  ·rw [hb,Zf];exact (S.get d).symm
  ·rw [Zg hb,Zg hb]
 rw [e];exact S
theorem Fz.go (F:Fz d o kvs Δ H)(B:H' d=some (.frz o (.dK kvs)))(f:∀ H1 H2,(∀ b,b≠d->H1 b=H b)->(∀ b,b≠d->H2 b=H' b)->H1 d=some (.dK kvs)->H2 d=some (.dK kvs)->Sep ((d,Uv kvs)::Δ) H1->Sep ((d,Uv kvs)::Δ') H2):Fz d o kvs Δ' H':=by
 obtain ⟨H1,rfl,S⟩:=F
 refine ⟨upd H' d (.dK kvs),?_,f H1 _ (fun b hb=>(Zg hb).symm) (fun b hb=>Zg hb) (S.get d) Zf S⟩
 funext b
 by_cases hb:b=d
 ·rw [hb,Zf,B]
 ·rw [Zg hb,Zg hb]
theorem Fz.mono (F:Fz d o kvs Δ H)(s:Same H H'):Fz d o kvs Δ H' :=
 F.go (s _ _ F.at) fun H1 H2 h1 h2 e1 B S=>S.mono fun b u e=>by
  by_cases hb:b=d
  ·rw [hb,e1] at e;rw [hb,B];exact e
  ·rw [h2 b hb];exact s _ _ (by rw [<- h1 b hb];exact e)
theorem Fz.grow {Pl:Addr}{q:Str}(F:Fz d o kvs ((Pl,WK q)::Δ) H)(g:Grown Pl H H')(L:LamsAt H' Pl q):Fz d o kvs ((Pl,WK q)::Δ) H':=by
 have I:d≠Pl:=fun z=>by
  obtain ⟨ts,e,_⟩:=F.sep.get Pl
  have:=F.at
  rw [z,e] at this
  cases this
 refine F.go (g _ _ I F.at) fun H1 H2 h1 h2 e1 J S=>Sep.swap (Sep.grow (S.swap) (fun b u hb e=>?_) ?_)
 ·by_cases B:b=d
  ·rw [B,e1] at e;rw [B,J];exact e
  ·rw [h2 b B];exact g _ _ hb (by rw [<- h1 b B];exact e)
 ·obtain ⟨ts,e,f⟩:=L
  refine ⟨ts,by rw [h2 Pl I.symm];exact e,fun p hp=>?_⟩
  have G:=f p hp
  rw [h2 p.2 (fun z=>by
   have:=g _ _ I F.at
   rw [z,this] at G
   cases G)]
  exact G
end
theorem ZgV {RK:Addr->Str->Prop}{Pl:Addr}{qual:Str}{te:(St->XK)->TE}{σ:St}{H:Hp}{Q:VK}(W:List V)(L:LamsAt H Pl qual)
 (run:∀ (H1:Hp) (S:VK) (J:XK),Grown Pl H H1->LamsAt H1 Pl qual->(∀ v H',Same H1 H'->W=[.str "told",v]->S v H')->(∀ C dx G B H',Same H1 H'->RK C G->H' dx=some (.xd [("what",B)])->W=[.str "refused",.str G,B]->J (.ref C) (some dx) H')->te (fun _=>J) σ H1 S)
 (I:∀ (H1:Hp) (a:Addr) (H2:Hp),Grown Pl H H1->LamsAt H1 Pl qual->Same H1 H2->H2 a=some (.tup W)->Q (.ref a) H2):ZgU RK Pl qual te σ H Q:=by
 refine ⟨L,fun H1 S J g U hq he=>run H1 S J g U (fun v H' s e=>hq v H' fun a H2 s2 ea=>I H1 a H2 g U (s.trans s2) (by rw [e];exact ea)) fun C dx G B H' s rk Z e=>he C dx G B H' rk Z fun a H2 s2 ea=>I H1 a H2 g U (s.trans s2) (by rw [e];exact ea)⟩
inductive ZfI (wi:TI)(σ:St)(H:Hp)(R:It->Hp->Prop):Prop
 | mk (I:It->Hp->Prop):wi σ H I->(∀ J H',I J H'->R J H')->ZfI wi σ H R
def Zpe (wi:TI):TI:=fun σ H R=>ZfI wi σ H R
theorem Znp {X:Cx}{tg l:Expr}{wi:TI}(h:PI X tg l wi):PI X tg l (Zpe wi):=by
 intro pins s σ H R I z
 obtain ⟨J,z,g⟩:=z
 refine Zt (h pins s σ H J I z) fun v s1 h1=>Zt h1 fun G s2 h2=>?_
 obtain ⟨Z,U,tn,j,H2,e,W,T,B,S,q⟩:=h2
 exact ⟨Z,U,tn,j,H2,e,W,T,B,S,g _ _ q⟩
inductive ZfJ (t:TT)(σ:St)(H:Hp)(Q:Bool->Hp->Prop):Prop
 | mk (I:Bool->Hp->Prop):t σ H I->(∀ b H',I b H'->Q b H')->ZfJ t σ H Q
def Zpf (t:TT):TT:=fun σ H Q=>ZfJ t σ H Q
theorem Znu {X:Cx}{e:Expr}{t:TT}(h:PT X e t):PT X e (Zpf t):=by
 intro pins s σ H Q I z
 obtain ⟨J,z,g⟩:=z
 refine Zt (h pins s σ H J I z) fun b s1 ⟨H',B,q⟩=>⟨H',B,g _ _ q⟩
end L2
namespace L2
open PySem PySem.W PySem.Spec PyProof.Rows
def Apt (fs cs:Pn):Prop:=∀ b o,fs.lookup b=some o->cs.lookup b=none
section
variable {fs cs:Pn}{H H' H2:Hp}{h:Heap}{b:Addr}{o:Obj}
theorem Zim:(fs++cs).lookup b=(fs.lookup b).or (cs.lookup b):=List.lookup_append
theorem Ww (e:fs.lookup b=some o):(fs++cs).lookup b=some o:=by rw [Zim,e];rfl
theorem YA (e:fs.lookup b=none):(fs++cs).lookup b=cs.lookup b:=by rw [Zim,e];rfl
theorem Apt.sym (a:Apt fs cs)(e:cs.lookup b=some o):fs.lookup b=none:=by
 cases z:fs.lookup b with
 | none=>rfl
 | some u=>rw [a b u z] at e;cases e
theorem Has.app (a:Has fs H)(c:Has cs H):Has (fs++cs) H:=fun b o e=>by
 cases z:fs.lookup b with
 | some u=>rw [Ww z] at e;cases e;exact a b _ z
 | none=>rw [YA z] at e;exact c b o e
theorem Has.fst (a:Has (fs++cs) H):Has fs H:=fun b o e=>a b o (Ww e)
theorem Has.snd (a:Has (fs++cs) H)(p:Apt fs cs):Has cs H:=fun b o e=>a b o (by rw [YA (p.sym e)];exact e)
theorem Hasn.app (a:Hasn fs H)(c:Hasn cs H):Hasn (fs++cs) H:=fun b o e=>by
 cases z:fs.lookup b with
 | some u=>exact a b u z
 | none=>rw [YA z] at e;exact c b o e
theorem ZeW (a:Has fs H)(p:Apt fs cs):cov (unc H (fs++cs)) fs=unc H cs:=funext fun b=>by
 cases z:fs.lookup b with
 | some u=>rw [Wb z,ZH (p b u z),a b u z]
 | none =>
  rw [ZV z]
  cases y:cs.lookup b with
  | some u=>rw [Yn y,Yn (show (fs++cs).lookup b=some u by rw [YA z];exact y)]
  | none=>rw [ZH y,ZH (by rw [YA z];exact y)]
theorem Zcj (a:Has fs H)(p:Apt fs cs):cov (unc H fs) (fs++cs)=cov H cs:=funext fun b=>by
 cases z:fs.lookup b with
 | some u=>rw [Wb (Ww z),ZV (p b u z),a b u z]
 | none =>
  cases y:cs.lookup b with
  | some u=>rw [Wb y,Wb (show (fs++cs).lookup b=some u by rw [YA z];exact y)]
  | none=>rw [ZV y,ZV (by rw [YA z];exact y),ZH z]
theorem Zmd (p:Apt fs cs):unc H (fs++cs)=unc (unc H fs) cs:=funext fun b=>by
 cases z:fs.lookup b with
 | some u=>rw [Yn (Ww z),ZH (p b u z),Yn z]
 | none =>
  cases y:cs.lookup b with
  | some u=>rw [Yn y,Yn (show (fs++cs).lookup b=some u by rw [YA z];exact y)]
  | none=>rw [ZH y,ZH z,ZH (by rw [YA z];exact y)]
theorem Hasn.of_app (a:Hasn (fs++cs) (unc H fs))(p:Apt fs cs):Hasn cs H:=fun b o e=>by
 have z:=p.sym e
 have:=a b o (by rw [YA z];exact e)
 rwa [ZH z] at this
theorem Zfd:Has [] H:=fun _ _ e=>nomatch e
end
def Thk1 (P:Qi)(w:Qu)(K:Qa)(mg:Str->Option Qb)(base:Heap)(k:Nat)(fs cs:Pn)(cc:Addr)(qual:Str)(q:Addr)(T:Hp->VK->XK->Prop):Prop :=
 ∀ (A:Qz) (outer:List Env) (s:Qd) (H:Hp) (Q:VK) (E:XK),Room k A->Env0 P w K mg base A outer s H->Has fs H->Has cs H->H cc=some (.ext (YK cc qual)) ->
  T (unc H cs) Q E->Jw (Qt P w) A (.call (.ref q) ⟨[],[]⟩) (CR (XH P w base) outer P w (unc H cs) s Q E) s
def tFs (fs:Pn)(T:Hp->VK->XK->Prop):Hp->VK->XK->Prop:=fun H Q E=>T (cov H fs) (fun v H'=>Has fs H'/\Q v (unc H' fs)) (fun C d H'=>Has fs H'/\E C d (unc H' fs))
section
variable {P:Qi}{w:Qu}{K:Qa}{mg:Str->Option Qb}{base:Heap}
theorem Zmy {cs:Pn}{A:Qz}{outer:List Env}{s s':Qd}{H:Hp}{Q W:VK}{E S:XK}{r:SQ}(U:Env0 P w K mg base A outer s H)(has:Has cs H)(hQ:∀ v H',Hasn cs H'->W v H'->Q v (cov H' cs))(hE:∀ C d H',Hasn cs H'->S C d H'->E C d (cov H' cs))
 (h:CR (XH P w base) outer P w (unc H cs) s W S r s'):CR (XH P w base) outer P w H s Q E r s':=by
 have B:Xo cs s.heap:=Xz U.hok has
 have nf:∀ b o,cs.lookup b=some o->b ∉ Yx outer:=fun b o e z=>by have:=U.frf b z;rw [has b o e] at this;cases this
 cases r with
 | error e =>
  obtain ⟨ea,C,dx,H',rfl,b1,f1,x1,os,gb,un,hok,J⟩:=h
  have G:Hasn cs H':=fun b o e=>un.free b o (B b o e) (Yn e) (by simp)
  have kk:Xo cs s'.heap:=fun b o e=>un.keep b o (B b o e) (Yn e) (nf b o e) (by simp)
  refine ⟨ea,C,dx,cov H' cs,rfl,b1,f1,x1.re fun b l e=>?_,os,gb,un.cov has B,hok.cov G kk,hE _ _ _ G J⟩
  cases z:cs.lookup b with
  | none=>rw [ZV z];exact e
  | some o=>exact absurd (Qh (B b o z)) (QS.mpr l)
 | ok f =>
  cases f with
  | ret u =>
   obtain ⟨Z,H',os,I,un,hok,rv,J⟩:=h
   have G:Hasn cs H':=fun b o e=>un.free b o (B b o e) (Yn e) (by simp)
   have kk:Xo cs s'.heap:=fun b o e=>un.keep b o (B b o e) (Yn e) (nf b o e) (by simp)
   exact ⟨Z,cov H' cs,os,I,un.cov has B,hok.cov G kk,rv,hQ _ _ G J⟩
  | next=>exact QF h
  | brk=>exact QF h
  | cont=>exact QF h
theorem Thk1.thk {k:Nat}{fs cs:Pn}{cc q:Addr}{qual:Str}{T:Hp->VK->XK->Prop}(h:Thk1 P w K mg base k fs cs cc qual q T)(p:Apt fs cs)(W:∃ B fd,fs.lookup q=some B/\B.data=.func fd):Thk P w K mg base k (fs++cs) cc qual q (tFs fs T):=by
 obtain ⟨B,fd,U,z2⟩:=W
 refine ⟨fun A outer s H Q E Z S has I J=>?_,B,fd,Ww U,z2⟩
 unfold tFs at J
 rw [ZeW has.fst p] at J
 refine Ge (h A outer s H _ _ Z S has.fst (has.snd p) I J) fun r s' hq=>Zmy S (has.snd p) (fun v H' G z=>?_) (fun C d H' G z=>?_) hq
 ·have:=z.2 (Hasn.app ZdU fun b o e=>by rw [ZH (p.sym e)];exact G b o e)
  rwa [Zcj z.1 p] at this
 ·have:=z.2 (Hasn.app ZdU fun b o e=>by rw [ZH (p.sym e)];exact G b o e)
  rwa [Zcj z.1 p] at this
structure ZdC (N ps:List Str)(sc:Scope):Prop where
 kind:sc.kind=.function
 co:sc.isCoroutine=false
 gen:sc.isGenerator=false
 cell:∀ y∈sc.names,y.2≠.cell
 loc:∀ x,sc.names.lookup x=some .local->x∈ps
 par:∀ x∈ps,sc.names.lookup x=some .local
 own:∀ x∈N,x ∉ ps
abbrev kfn (qual:Str)(args:GY)(body:Expr)(sc:Scope)(cl:List (Str×Addr))(dV doc pm:Qb)(cc:Addr)(ct:Qb):Obj:={ cls:=.type "function",data:=.func (kdv_fn "<lambda>" qual args (.expr body) sc cl dV doc pm (.ref cc) ct) }
theorem ZlZ {N ps:List Str}{k:Nat}{fs cs:Pn}{cc q:Addr}{qual:Str}{args:GY}{body:Expr}{sc:Scope}{I:List (Str×Addr)}{dV doc pm ct:Qb}{fo:Obj}{σ:St}{ds:List V}{us:List Qb}{te:(St->XK)->TE}(S:ZdC N ps sc)
 (hq:fs.lookup q=some fo) (hfo:fo=kfn qual args body sc I dV doc pm cc ct)
 (hbind:∀ s:Qd,Xo fs s.heap->PQ s (kdv_fn "<lambda>" qual args (.expr body) sc I dV doc pm (.ref cc) ct) ⟨[],[]⟩ (ps.zip us)) (hN:σ.length=N.length) (hds:ds.length=ps.length)
 (hus:∀ (j:Nat) (x:Str) (v:V),ps[j]?=some x->ds[j]?=some v->∃ u,RelV v u/\(ps.zip us).reverse.lookup x=some u)
 (inj:∀ x y c,I.lookup x=some c->I.lookup y=some c->x=y) (cl2:∀ y∈sc.names,y.2=.free->I.lookup y.1≠none)
 (hcl:∀ x c,I.lookup x=some c->∃ o v,cs.lookup c=some o/\o.data=.cell v)
 (hσ:∀ (i:Nat) (x:Str) (v:V) (c:Addr),N[i]?=some x->σ[i]?=some (some v)->I.lookup x=some c->sc.names.lookup x=some .free->∃ o u,cs.lookup c=some o/\o.data=.cell (some u)/\RelV v u)
 (he:∀ (A:Qz) (outer:List Env) (s:Qd) (H:Hp) (Z:Qb->Qd->Prop) (EE:St->XK),Room k (A.deeper (ZZ qual sc s.heap.objs.size q I (.ref cc)))->YR (YU P w K mg base (N++ps) (ZZ qual sc s.heap.objs.size q I (.ref cc)) A outer s H Z) EE ->
  PE (YU P w K mg base (N++ps) (ZZ qual sc s.heap.objs.size q I (.ref cc)) A outer s H Z) body (te EE)) :
 Thk1 P w K mg base (k+1) fs cs cc qual q (fun H Q E=>te (fun _=>E) (σ++ds.map some) H Q):=by
 intro A outer s H Q E hr G hasf has hcc hT
 have lim:s.heap.NoLimit:=G.mod.nolimit.keeps fun b o e=>(G.bs b o e).1
 have hshf:Xo fs s.heap:=Xz G.hok hasf
 have hsh:Xo cs s.heap:=Xz G.hok has
 have hcd:s.heap.CodeRec (.ref cc) qual:=(G.hok cc _ hcc).1
 have B:∀ b,H b=none->unc H cs b=none:=fun b e=>by rw [ZH (WR has e)];exact e
 refine OA (body:=body) hr.depth (hshf q fo hq) (by rw [hfo]) S.co S.gen rfl hcd ?_
 refine hbind s hshf _ _ _ _ ?_
 refine Ps S.cell (fun y hy=>S.par _ (of_mem_zip hy).1) (fun h₁ U hsb₁=>?_) S.kind
 have old:∀ b o,s.heap.get? b=some o->h₁.get? b=some o:=fun b o e=>hsb₁.extBut b o (Qy (Qh e)) (Qe _ e)
 refine ⟨lim.keeps old,OB ?_⟩
 have W:=Zdg (P:=P) (w:=w) (K:=K) (mg:=mg) (base:=base) (N:=N++ps) (env:=ZZ qual sc s.heap.objs.size q I (.ref cc)) (A:=A) (outer:=outer) (s:=s) (H:=unc H cs) (E:=E) (R:=fun e s'=>CR (XH P w base) outer P w (unc H cs) s Q E (.error e) s') rfl rfl (fun e s' h=>h)
 refine QP (he A outer s (unc H cs) _ _ (hr.deeper _) W [] _ (σ++ds.map some) (unc H cs) _ ?_ hT) (fun v s' hs=>?_) fun e s' hs=>hs
 ·refine ⟨⟨G.mod,S.kind,rfl,rfl,Qg _,inj,fun x hx=>?_,(fun x c z _=>nomatch z),fun _=>hr.hd,Po G.frames,.inr ⟨rfl,rfl⟩,(fun b z=>nomatch z),fun b o e=>⟨(G.bs b o e).1,B b (G.bs b o e).2⟩,G.bsz,(fun _ _ _ z=>nomatch z),(fun _ z=>nomatch z),G.funs,fun b hb=>B b (G.frf b hb)⟩,
   rfl,G.bare,Un.kept old,⟨_,U,fun i x v h1 h2 h3=>?_⟩,fun x c e=>?_,B _ (G.hok.fresh (Qg _)),fun x c e=>?_,(fun p hp=>nomatch hp),(G.hok.unc has).kept old,by rw [length_append,length_map,hN,hds];exact (length_append ..).symm⟩
  ·have hf:sc.names.lookup x=some .free:=by
    rcases hx with hx | hx
    ·exact absurd rfl (S.cell _ (L2.mem_of_lookup hx))
    ·exact hx
   cases z:I.lookup x with
   | none=>exact absurd z (cl2 _ (L2.mem_of_lookup hf) rfl)
   | some c=>exact ⟨c,z⟩
  ·have h1:(N++ps)[i]?=some x:=h1
   rcases Nat.lt_or_ge i N.length with hi | hi
   ·rw [getElem?_append_left hi] at h1
    rw [getElem?_append_left (by rw [hN];exact hi)] at h2
    have hf:sc.names.lookup x=some .free:=by
     rcases h3 with hx | hx | hx
     ·exact absurd (S.loc _ hx) (S.own x (mem_of_getElem? h1))
     ·exact absurd rfl (S.cell _ (L2.mem_of_lookup hx))
     ·exact hx
    cases z:I.lookup x with
    | none=>exact absurd z (cl2 _ (L2.mem_of_lookup hf) rfl)
    | some c =>
     obtain ⟨o,u,h4,h5,h6⟩:=hσ i x v c h1 h2 z hf
     exact ⟨u,h6,.inr ⟨.inr hf,c,z,o,old _ _ (hsh c o h4),h5⟩⟩
   ·rw [getElem?_append_right hi] at h1
    rw [getElem?_append_right (by rw [hN];exact hi),hN,getElem?_map] at h2
    obtain ⟨v',hv,e⟩:=Gc.mp h2
    cases e
    obtain ⟨u,r,hu⟩:=hus _ x v h1 hv
    exact ⟨u,r,.inl ⟨S.par x (mem_of_getElem? h1),hu⟩⟩
  ·obtain ⟨o,v,h4,h5⟩:=hcl x c e
   exact ⟨v,o,old _ _ (hsh c o h4),h5⟩
  ·obtain ⟨o,v,h4,h5⟩:=hcl x c e
   exact Yn h4
 ·obtain ⟨v',H',J,rv,q1⟩:=hs
  exact ⟨v',H',J.os,J.bare,J.base,J.hok,rv,q1⟩
end
abbrev Yo (X:Cx):Str:=X.env.qual++"<lambda>"
abbrev kdf (X:Cx)(args:GY)(body:Expr)(sc:Scope)(cl:List (Str×Addr))(dV doc pm:Qb)(cc:Addr)(ct:Qb):FuncData:=kdv_fn "<lambda>" (Yo X) args (.expr body) sc cl dV doc pm (.ref cc) ct
inductive Kept (X:Cx)(k:Nat)(fs:Pn)(cc q:Addr)(ds:List V)(te:(St->XK)->TE):Prop
 | mk (args:GY) (body:Expr) (sc:Scope) (cl:List (Str×Addr)) (dV doc pm ct:Qb) (ps:List Str) (us:List Qb):ZdC X.N ps sc->fs.lookup q=some (kfn (Yo X) args body sc cl dV doc pm cc ct) ->
  (∀ s:Qd,Xo fs s.heap->PQ s (kdf X args body sc cl dV doc pm cc ct) ⟨[],[]⟩ (ps.zip us))->ds.length=ps.length ->
  (∀ (j:Nat) (x:Str) (v:V),ps[j]?=some x->ds[j]?=some v->∃ u,RelV v u/\(ps.zip us).reverse.lookup x=some u) ->
  (∀ y c,cl.lookup y=some c->X.env.cells.lookup y=some c)->(∀ y∈sc.names,y.2=.free->cl.lookup y.1≠none)->(∀ y∈sc.names,y.2=.free->X.env.kindOf y.1=some .cell)->(∀ b o,fs.lookup b=some o->∀ v,o.data≠.cell v) ->
  (∀ (A:Qz) (outer:List Env) (s:Qd) (H:Hp) (Z:Qb->Qd->Prop) (EE:St->XK),Room k (A.deeper (ZZ (Yo X) sc s.heap.objs.size q cl (.ref cc)))->YR (YU X.prog X.w X.K X.mg X.base (X.N++ps) (ZZ (Yo X) sc s.heap.objs.size q cl (.ref cc)) A outer s H Z) EE ->
   PE (YU X.prog X.w X.K X.mg X.base (X.N++ps) (ZZ (Yo X) sc s.heap.objs.size q cl (.ref cc)) A outer s H Z) body (te EE))->Kept X k fs cc q ds te
theorem Kept.fn {X:Cx}{k:Nat}{fs:Pn}{cc q:Addr}{ds:List V}{te:(St->XK)->TE}(h:Kept X k fs cc q ds te):∃ B fd,fs.lookup q=some B/\B.data=.func fd:=by
 obtain ⟨args,body,sc,J,W,G,Z,U,ps,us,S,I,r⟩:=h
 exact ⟨_,_,I,rfl⟩
theorem Kept.nc {X:Cx}{k:Nat}{fs:Pn}{cc q:Addr}{ds:List V}{te:(St->XK)->TE}(h:Kept X k fs cc q ds te):∀ b o,fs.lookup b=some o->∀ v,o.data≠.cell v:=by
 obtain ⟨args,body,sc,U,Z,G,pm,W,ps,us,S,hq,h1,h2,J,I,h5,h6,B,h8⟩:=h
 exact B
theorem Kept.run {X:Cx}{k:Nat}{fs cs:Pn}{cc q:Addr}{ds:List V}{te:(St->XK)->TE}{σ:St}(h:Kept X k fs cc q ds te)(hN:σ.length=X.N.length)(inj:∀ x y c,X.env.cells.lookup x=some c->X.env.cells.lookup y=some c->x=y)
 (G:∀ x c,X.env.cells.lookup x=some c->∃ o v,cs.lookup c=some o/\o.data=.cell v)
 (J:∀ (i:Nat) (x:Str) (v:V) (c:Addr),X.N[i]?=some x->σ[i]?=some (some v)->X.env.cells.lookup x=some c->X.env.kindOf x=some .cell->∃ o u,cs.lookup c=some o/\o.data=.cell (some u)/\RelV v u) :
 Thk1 X.prog X.w X.K X.mg X.base (k+1) fs cs cc (Yo X) q (fun H Q E=>te (fun _=>E) (σ++ds.map some) H Q):=by
 obtain ⟨args,body,sc,cl,dV,doc,pm,ct,ps,us,S,W,h1,h2,U,B,Z,h6,h7,h8⟩:=h
 exact ZlZ S W rfl h1 hN h2 U (fun x y c e1 I=>inj x y c (B x c e1) (B y c I)) Z (fun x c e=>G x c (B x c e)) (fun i x v c e1 I e3 e4=>J i x v c e1 I (B x c e3) (h6 _ (L2.mem_of_lookup e4) rfl)) h8
def tLam (KP:Pn->Addr->Addr->List V->Prop)(Pl:Addr)(qual:Str)(t:TA):TE:=fun σ H Q=>t σ H fun ds H0=>LamsAt H0 Pl qual/\∀(q:Addr)(H2:Hp)(fs:Pn)(cc:Addr),Grown Pl H0 H2->LamsAt H2 Pl qual->H2 cc=some (.ext (YK cc qual))->Has fs H2->KP fs cc q ds->Q (.ref q) H2
section
variable {X:Cx}{pins:List (Addr×Obj)}{σ:St}{H:Hp}{s:Qd}
theorem Zjf {A:Qz}{E:Qb->Qd->Prop}{Q:Qb->Qd->Prop}{c Pl:Addr}{args:GY}{body:Expr}{sc:Scope}{lpos:Pos}{dV:Qb}(I:Inv X pins σ H s)(B:X.env.code=.ref c)(C:JD X.K c Pl=true)(hBm:Xn X.base X.mg)(hL:LamsAt H Pl (Yo X))
 (hfree:∀ y∈sc.names,y.2=.free->∃ c,X.env.cells.lookup y.1=some c)
 (h:∀ (q:Addr) (H':Hp) (s':Qd) (pm G ct:Qb) (cc:Addr) (S:List (Str×Addr)),Inv X pins σ H' s'->Grown Pl H H'->LamsAt H' Pl (Yo X)->(∀ y c,S.lookup y=some c->X.env.cells.lookup y=some c)->(∀ y∈sc.names,y.2=.free->S.lookup y.1≠none)->H' q=none->s.heap.objs.size<=q ->
  s'.heap.get? q=some (kfn (Yo X) args body sc S dV G pm cc ct)->H' cc=some (.ext (YK cc (Yo X)))->Q (.ref q) s') :
 Qq (Qt X.prog X.w) A (makeTail "<lambda>" (Yo X) args (.expr body) sc X.env dV .none none lpos lpos.line) Q E s:=by
 obtain ⟨S,hcl,cl1,cl2⟩:=WO hfree
 have hg:=I.mod.glob.keeps I.bk
 have CH:=Rc I.kIn C
 obtain ⟨ts,e,ec⟩:=hL
 have hP:s.heap.get? Pl=some (RZ (XZ ts).toArray):=I.hok Pl _ e
 have bmAt:s.heap.BuiltinsAt X.mg Pl/\Ql≠Pl:=by
  obtain ⟨bm,ob,b1,b2,b3,b4,b5,b6⟩:=hBm
  have J:=I.bk _ _ b3
  have hmg:Ql≠Pl:=fun z=>by
   obtain ⟨o,es,ep,y,hd,_⟩:=hg
   rw [z,hP] at y;cases y;cases hd
  refine ⟨⟨bm,ob,b1,b2,fun z=>?_,(fun z=>by rw [z,hP] at J;cases J;cases b4),J,b4,b5,b6⟩,hmg⟩
  obtain ⟨o,es,ep,y,hd,_⟩:=hg
  rw [<- z,J] at y;cases y
  rw [b6] at hd;cases hd
 obtain ⟨hb,hgP⟩:=bmAt
 cases hf:Rq lpos (XZ ts) with
 | none =>
  refine kdv_makeTail (clos:=S) hcl I.ok.glob hg B CH hP (VZ ts) hf hgP hb fun c' Z G h' tk hx U hlt hrec hT=>?_
  have I1:=I.table (t':=tk) (h':=h') (qual:=Yo X) (lpos:=lpos) e (fun b o hb' y=>hx b o hb' y) hT U hrec
  have W:H c'=none:=I.hok.fresh U
  have hcP:c'≠Pl:=fun z=>by rw [z,e] at W;cases W
  have gr:Grown Pl H (upd (upd H Pl (.tbl ((XZ ts).toArray++#[Gb lpos.line,Gb lpos.col,.ref c']))) c' (.ext (YK c' (Yo X)))):=fun b o h1 y=>by rw [Zg (Zr y W),Zg h1];exact y
  refine h _ _ _ ((X.mg "__name__").getD .none) G Z c' S (I1.kept (t':=tk) fun b o y=>Qe _ y) gr ⟨ts++[(lpos,c')],?_,fun p hp=>?_⟩ cl1 cl2 (I1.hok.fresh (Qg _)) (Gu (QK U hlt)) (Qo _ rfl) Zf
  ·rw [Zg hcP.symm,Zf,ZfS];simp
  ·rcases mem_append.mp hp with y | y
   ·have e2:=ec p y
    exact gr _ _ (fun z=>by rw [z,e] at e2;cases e2) e2
   ·rw [mem_singleton.mp y];exact Zf
 | some v =>
  obtain ⟨p,hp,rfl⟩:=VY hf
  refine kdv_makeTailHit (clos:=S) (cv:=.ref p.2) hcl I.ok.glob hg B CH hP (VZ ts) hf hb fun Z G h' tk hk hz=>?_
  exact h _ _ _ ((X.mg "__name__").getD .none) G Z p.2 S ((I.kept (h':=h') (t':=tk) hk).kept (t':=tk) fun b o y=>Qe _ y) (fun b o _ y=>y) ⟨ts,e,ec⟩ cl1 cl2 (I.hok.fresh hz) hz (Qo _ rfl) (ec p hp)
structure LamOk1 (X:Cx)(ps:List Str)(sc:Scope):Prop where
 lam:ZdC X.N ps sc
 clos:∀ y∈sc.names,y.2=.free->X.env.kindOf y.1=some .cell
def Zfi (N ps:List Str)(names:List (Str×JB))(sc:Scope):Bool :=
 (sc.kind == .function&&(!sc.isCoroutine&&!sc.isGenerator))&&((sc.names.all fun y=>(y.2 != .cell&&(y.2 != .local || ps.contains y.1))&&(y.2 != .free || names.lookup y.1 == some .cell))&&((ps.all fun x=>sc.names.lookup x == some .local)&&N.all fun x=>!ps.contains x))
theorem LamOk1.of {X:Cx}{ps:List Str}{sc:Scope}(N:List Str)(st:Stmt)(Z:X.N=N)(U:X.env.scope=Zk st)(B:Zfi N ps (Zk st).names sc=true):LamOk1 X ps sc:=by
 unfold Zfi at B
 simp only [QJ,all_eq_true,PB,bne_iff_ne,beq_iff_eq,GR,List.contains_iff_mem] at B
 obtain ⟨⟨c1,c2,c3⟩,I,c5,W⟩:=B
 refine ⟨⟨c1,c2,c3,fun y J=>(I y J).1.1,fun x S=>?_,c5,fun x S m=>?_⟩,fun y J G=>?_⟩
 ·have:=(I _ (L2.mem_of_lookup S)).1.2
  exact this.resolve_left fun z=>z rfl
 ·have:=W x (by rw [<- Z];exact S)
  simp [m] at this
 ·show X.env.scope.names.lookup y.1=_
  rw [U];exact (I y J).2.resolve_left fun z=>z G
theorem Zfj {k:Nat}{Q:VK}{c Pl:Addr}{args:GY}{body:Expr}{sc:Scope}{lpos:Pos}{dV:Qb}{ft:Pn}{ps:List Str}{ds:List V}{us:List Qb}{te:(St->XK)->TE}(I:Inv X pins σ H s)(O:LamOk1 X ps sc)(U:X.env.code=.ref c)(C:JD X.K c Pl=true)(hBm:Xn X.base X.mg)(hL:LamsAt H Pl (Yo X))
 (S:Has ft H) (hnc:∀ b o,ft.lookup b=some o->∀ v,o.data≠.cell v) (hbind:∀ G B pm cc ct (s:Qd),Xo ft s.heap->PQ s (kdf X args body sc G dV B pm cc ct) ⟨[],[]⟩ (ps.zip us)) (hds:ds.length=ps.length)
 (hus:∀ (j:Nat) (x:Str) (v:V),ps[j]?=some x->ds[j]?=some v->∃ u,RelV v u/\(ps.zip us).reverse.lookup x=some u)
 (he:∀ (q:Addr) (G:List (Str×Addr)) (cc:Addr) (A:Qz) (outer:List Env) (s:Qd) (H:Hp) (Z:Qb->Qd->Prop) (EE:St->XK),Room k (A.deeper (ZZ (Yo X) sc s.heap.objs.size q G (.ref cc)))->YR (YU X.prog X.w X.K X.mg X.base (X.N++ps) (ZZ (Yo X) sc s.heap.objs.size q G (.ref cc)) A outer s H Z) EE ->
  PE (YU X.prog X.w X.K X.mg X.base (X.N++ps) (ZZ (Yo X) sc s.heap.objs.size q G (.ref cc)) A outer s H Z) body (te EE))
 (h:∀ (q:Addr) (H2:Hp) (fs:Pn) (cc:Addr),Grown Pl H H2->LamsAt H2 Pl (Yo X)->H2 cc=some (.ext (YK cc (Yo X)))->Has fs H2->Kept X k fs cc q ds te->Q (.ref q) H2) :
 Qq (Qt X.prog X.w) X.A (makeTail "<lambda>" (Yo X) args (.expr body) sc X.env dV .none none lpos lpos.line) (EP X pins σ Q) X.xe s:=by
 refine Zjf I U C hBm hL (fun y hy hf=>I.ok.has y.1 (.inl (O.clos y hy hf))) fun q H1 s1 pm B ct cc G I1 gr L1 cl1 cl2 W J ho hcc=>?_
 generalize hfo:kfn (Yo X) args body sc G dV B pm cc ct=fo at ho
 have I2:Inv X pins σ (upd H1 q (Vj q fo)) s1:=I1.track W (Qr I.sz J) (fun z=>absurd (show q < s.heap.objs.size by rw [z];exact I.lt) (QS.mpr J)) (fun x c e z=>by
  obtain ⟨v,o,y,_⟩:=I.cell x c e
  exact absurd (Qh y) (QS.mpr (by rw [z];exact J))) (fun p hp z=>absurd (Qh (I.pin p hp).1) (QS.mpr (by rw [z];exact J))) (Zeh ho)
 have sm:Same H1 (upd H1 q (Vj q fo)):=fun b u e=>by rw [Zg (Zr e W)];exact e
 have nP:∀ b o,ft.lookup b=some o->b≠Pl:=fun b o e z=>by
  obtain ⟨ts,y,_⟩:=hL
  have:=S b o e
  rw [z,y] at this;cases this
 have hft1:Has ft (upd H1 q (Vj q fo)):=fun b o e=>sm _ _ (gr b _ (nP b o e) (S b o e))
 have hqt:ft.lookup q=none:=by
  cases z:ft.lookup q with
  | none=>rfl
  | some o=>have:=gr q _ (nP q o z) (S q o z);rw [W] at this;cases this
 have lq:((q,fo)::ft:Pn).lookup q=some fo:=by simp
 have ln:∀ b,b≠q->((q,fo)::ft:Pn).lookup b=ft.lookup b:=fun b z=>by rw [lookup_cons,show (b == q)=false by simpa using z]
 refine ⟨.ref q,_,I2,rfl,h q _ ((q,fo)::ft) cc (gr.more sm) (L1.same sm) (sm _ _ hcc) (fun b o e=>?_) ⟨args,body,sc,G,dV,B,pm,ct,ps,us,O.lam,by rw [lq,hfo],fun s hs=>hbind G B pm cc ct s fun b o e=>hs b o ?_,hds,hus,cl1,cl2,O.clos,fun b o e v=>?_,he q G cc⟩⟩
 ·by_cases z:b=q
  ·subst z;rw [lq] at e;cases e;exact Zf
  ·rw [ln b z] at e;exact hft1 b o e
 ·by_cases z:b=q
  ·subst z;rw [hqt] at e;cases e
  ·rw [ln b z];exact e
 ·by_cases z:b=q
  ·subst z;rw [lq] at e;cases e;rw [<- hfo];intro y;cases y
  ·rw [ln b z] at e;exact hnc b o e v
section
variable {k:Nat}{c Pl:Addr}{args:GY}{body:Expr}{sc:Scope}{lpos:Pos}{te:(St->XK)->TE}
theorem Znn (O:LamOk1 X [] sc)(S:X.env.code=.ref c)(C:JD X.K c Pl=true)(hBm:Xn X.base X.mg)
 (he:∀ (q:Addr) (G:List (Str×Addr)) (cc:Addr) (A:Qz) (outer:List Env) (s:Qd) (H:Hp) (Z:Qb->Qd->Prop) (EE:St->XK),Room k (A.deeper (ZZ (Yo X) sc s.heap.objs.size q G (.ref cc)))->YR (YU X.prog X.w X.K X.mg X.base (X.N++[]) (ZZ (Yo X) sc s.heap.objs.size q G (.ref cc)) A outer s H Z) EE ->
  PE (YU X.prog X.w X.K X.mg X.base (X.N++[]) (ZZ (Yo X) sc s.heap.objs.size q G (.ref cc)) A outer s H Z) body (te EE))
 (U:Od args X.env=([],[]):=by rfl) (B:∀ G J pm cc W,Ti (kdf X args body sc G .none J pm cc W) ⟨[],[]⟩=pure []:=by intros;rfl) :
 PE X (.Lambda args body sc lpos) (tLam (fun fs cc q ds=>Kept X k fs cc q ds te) Pl (Yo X) XS):=by
 intro pins s σ H Q I h
 obtain ⟨hL,h⟩:=h
 refine kla_eval U ?_
 rw [Nt]
 simp only [Oe,Tk,Nb,if_true,OQ]
 exact Zfj (ft:=[]) (ps:=[]) (us:=[]) (ds:=[]) I O S C hBm hL Zfd (fun _ _ z=>nomatch z) (fun G J pm cc W s _=>BindsTo.of_eq (B G J pm cc W)) rfl (fun _ _ _ z=>nomatch z) he h
theorem ZlB {x:Str}{e:Expr}{t:TE}(O:LamOk1 X [x] sc)(J:X.env.code=.ref c)(C:JD X.K c Pl=true)(hBm:Xn X.base X.mg)(hd:PE X e t)
 (he:∀ (q:Addr) (G:List (Str×Addr)) (cc:Addr) (A:Qz) (outer:List Env) (s:Qd) (H:Hp) (Z:Qb->Qd->Prop) (EE:St->XK),Room k (A.deeper (ZZ (Yo X) sc s.heap.objs.size q G (.ref cc)))->YR (YU X.prog X.w X.K X.mg X.base (X.N++[x]) (ZZ (Yo X) sc s.heap.objs.size q G (.ref cc)) A outer s H Z) EE ->
  PE (YU X.prog X.w X.K X.mg X.base (X.N++[x]) (ZZ (Yo X) sc s.heap.objs.size q G (.ref cc)) A outer s H Z) body (te EE))
 (hk0:args.kw_defaults=[]:=by rfl) (U:args.defaults=[e]:=by rfl)
 (S:∀ G B pm cc W (T:Addr),∃ kk,Ti (kdf X args body sc G (.ref T) B pm cc W) ⟨[],[]⟩=seqItems? (kdf X args body sc G (.ref T) B pm cc W).defaults >>= kk/\∀ u:Qb,kk (some #[u])=pure [(x,u)]:=by intros;exact ⟨_,rfl,fun _=>rfl⟩) :
 PE X (.Lambda args body sc lpos) (tLam (fun fs cc q ds=>Kept X k fs cc q ds te) Pl (Yo X) (XQ t XS)):=by
 intro pins s σ H Q I h
 refine kdv_lam (by rw [U];rfl) hk0 ?_
 rw [U]
 refine kdv_all1 (Zt (hd pins s σ H _ I h) fun u s1 zz=>?_)
 obtain ⟨v,H1,I1,ru,hL,h1⟩:=zz
 refine kdv_all0 ?_
 rw [Nt]
 simp only [Oe,Tk,Nb,List.isEmpty_cons,if_true,OQ,Gq,if_false]
 refine Qf (wpAny_newTextTuple ?_)
 have hTn:H1 s1.heap.objs.size=none:=I1.hok.fresh (Qg _)
 have I2:=I1.laid (o:=Vj s1.heap.objs.size (Rt [u])) (t':=s1.toks) (h':=s1.heap.push (Rt [u])) (fun b o e=>Qe _ e) (Qg _) (Zeh (Qo _ rfl))
 have sm:Same H1 (upd H1 s1.heap.objs.size (Vj s1.heap.objs.size (Rt [u]))):=fun b o e=>by rw [Zg (Zr e hTn)];exact e
 have lk:∀ b o,([(s1.heap.objs.size,Rt [u])]:Pn).lookup b=some o->b=s1.heap.objs.size/\o=Rt [u]:=fun b o e=>by
  by_cases z:b=s1.heap.objs.size
  ·subst z;simp at e;exact ⟨rfl,e.symm⟩
  ·rw [lookup_cons,show (b == s1.heap.objs.size)=false by simpa using z] at e;cases e
 refine Zfj (ft:=[(s1.heap.objs.size,Rt [u])]) (ps:=[x]) (us:=[u]) (ds:=[v]) I2 O J C hBm (hL.same sm) (fun b o e=>?_) (fun b o e v z=>?_) (fun G B pm cc W s hs=>?_) rfl (fun j y w e1 e2=>?_) he fun q H2 fs cc g L hcc hf kp=>h1 q H2 fs cc ?_ L hcc hf kp
 ·obtain ⟨rfl,rfl⟩:=lk b o e;exact Zf
 ·obtain ⟨rfl,rfl⟩:=lk b o e;cases z
 ·obtain ⟨kk,z1,z2⟩:=S G B pm cc W s1.heap.objs.size
  exact BindsTo.of_defaults (o:=Rt [u]) rfl (hs _ _ (by simp)) rfl z1 (z2 u)
 ·cases j with
  | zero=>cases e1;cases e2;exact ⟨u,ru,by simp⟩
  | succ j=>cases e1
 ·intro b o n e
  exact g b o n (sm _ _ e)
end
end
theorem Zei {Y:Cx}{pins:List (Addr×Obj)}{σ:St}{H:Hp}{s:Qd}(I:Inv Y pins σ H s):Hasn (Xv Y.env s.heap) H/\Xo (Xv Y.env s.heap) s.heap/\(∀ b o,(Xv Y.env s.heap).lookup b=some o->∃ y,Y.env.cells.lookup y=some b)/\(∀ x c o,Y.env.cells.lookup x=some c->s.heap.get? c=some o->(Xv Y.env s.heap).lookup c=some o):=by
 have B:∀ p∈Xv Y.env s.heap,s.heap.get? p.1=some p.2:=fun p hp=>(Wf hp).1
 exact ⟨fun b o e=>by obtain ⟨y,J⟩:=(Wf (UI e)).2;exact I.freeC y b J,fun b o e=>B _ (UI e),fun b o e=>(Wf (UI e)).2,fun x c o e1 G=>Zan B (ZbE e1 G)⟩
def FrOk (Y:Cx):Prop:=∀ y c,Y.env.cells.lookup y=some c->Y.base.get? c=none/\c ∉ Yx Y.stack
theorem ZkY {X:Cx}{pins:List (Addr×Obj)}{σ:St}{H:Hp}{s:Qd}(I:Inv X pins σ H s)(G:∀ x,X.fn x=true):FrOk X:=fun y c e=>by
 have B:=I.ok.cab y c (G y) e
 refine ⟨Jt (Qr I.ok.bsz B),fun z=>?_⟩
 rcases mem_cons.mp (I.stkSub c z) with z | z
 ·exact I.cne y c e z
 ·obtain ⟨_,o,J,_⟩:=I.ok.funs.mem z
  exact absurd (Qh J) (QS.mpr B)
section
variable {Y:Cx}{pins:List (Addr×Obj)}{σ:St}{H1:Hp}{s1:Qd}{k j:Nat}{RK:Addr->Str->Prop}{pn:Str}{fa:Addr}{fd:Qn}{fs cs1:Pn}{cc q:Addr}{qual:Str}{T:Hp->VK->XK->Prop}{Q:VK}
theorem ZiN (F:FnOk Y.prog Y.w Y.K Y.mg Y.base ZF j fa fd [pn] (Wl Y.prog Y.w Y.K Y.mg Y.base k RK))(hb:Binds Y.K fd [pn] [])(hr:Room j Y.A)(I1:Inv Y pins σ H1 s1)(fr:FrOk Y)
 (Z:Thk1 Y.prog Y.w Y.K Y.mg Y.base k fs (Xv Y.env s1.heap++cs1) cc qual q T) (hfn:∃ fo fd,fs.lookup q=some fo/\fo.data=.func fd) (hnc:∀ b o,fs.lookup b=some o->∀ v,o.data≠.cell v) (hc1:∀ b o,cs1.lookup b=some o->∃ v,o.data=.cell v)
 (hf:Has fs H1) (h1:Has cs1 H1) (hcc:H1 cc=some (.ext (YK cc qual)))
 (run:∀ (Hx:Hp) (Qc:VK) (Ec:XK),Same H1 Hx->(∀ v H',Has fs H'->(Hasn cs1 H'->∀ a H2,Same (cov H' cs1) H2->H2 a=some (.tup [.str "told",v])->Q (.ref a) H2)->Qc v H') ->
  (∀ C dx I J H',Has fs H'->RK C I->H' dx=some (.xd [("what",J)])->(Hasn cs1 H'->∀ a H2,Same (cov H' cs1) H2->H2 a=some (.tup [.str "refused",.str I,J])->Q (.ref a) H2)->Ec (.ref C) (some dx) H')->T (unc Hx cs1) Qc Ec) :
 Qq (Qt Y.prog Y.w) Y.A (call (.ref fa) [.ref q] []) (EP Y pins σ Q) Y.xe s1:=by
 obtain ⟨W,hsh,S,hlk⟩:=Zei I1
 generalize hpc:Xv Y.env s1.heap=B at Z W hsh S hlk
 have e0:=I1.env0
 have hpf:∀ b o,fs.lookup b=some o->B.lookup b=none:=fun b o e=>by
  cases z:B.lookup b with
  | none=>rfl
  | some u=>have:=W b u z;rw [hf b o e] at this;cases this
 have a1:Apt fs (B++cs1):=fun b o e=>by
  rw [YA (hpf b o e)]
  cases z:cs1.lookup b with
  | none=>rfl
  | some u =>
   obtain ⟨v,hv⟩:=hc1 b u z
   have y1:=Xz I1.hok hf b o e
   have y2:=Xz I1.hok h1 b u z
   rw [y1] at y2;cases y2
   exact absurd hv (hnc b o e v)
 have a2:Apt B cs1:=fun b o e=>by
  cases z:cs1.lookup b with
  | none=>rfl
  | some u=>have:=W b o e;rw [h1 b u z] at this;cases this
 have e1:Env0 Y.prog Y.w Y.K Y.mg Y.base Y.A Y.stack s1 (cov H1 B):=by
  have no:∀ b,(Y.base.get? b≠none\/b∈Yx Y.stack)->B.lookup b=none:=fun b hb=>by
   cases z:B.lookup b with
   | none=>rfl
   | some o =>
    obtain ⟨y,hy⟩:=S b o z
    obtain ⟨f1,f2⟩:=fr y b hy
    rcases hb with hb | hb
    ·exact absurd f1 hb
    ·exact absurd hb f2
  refine ⟨e0.frames,e0.mod,fun b o e=>⟨(e0.bs b o e).1,?_⟩,e0.bsz,e0.funs,fun b hb=>?_,e0.hok.cov W hsh,e0.bare⟩
  ·rw [ZV (no b (.inl (by rw [e];simp)))];exact (e0.bs b o e).2
  ·rw [ZV (no b (.inr hb))];exact e0.frf b hb
 have hsp:Wl Y.prog Y.w Y.K Y.mg Y.base k RK [.ref q] (cov H1 B) (fun v H2=>Has B H2/\Q v (unc H2 B)) (fun _ _ _=>False):=by
  refine ⟨q,fs++(B++cs1),cc,qual,tFs fs T,rfl,Z.thk a1 hfn,?_,YQ W _ _ hcc,fun Hx Qc Ec sx hq he=>?_⟩
  ·exact Has.app (fun b o e=>YQ W _ _ (hf b o e)) (Has.app has_cov fun b o e=>YQ W _ _ (h1 b o e))
  ·have hfx:Has fs Hx:=fun b o e=>sx _ _ (YQ W _ _ (hf b o e))
   unfold tFs
   rw [ZeW hfx a1,Zmd a2]
   have sy:=Vn W sx
   have fin:∀ (w0:List V) (H':Hp),Has fs H'->(∀ z,w0≠[z])->(Hasn (fs++(B++cs1)) (unc H' fs)->∀ a H2,Same (cov (unc H' fs) (fs++(B++cs1))) H2->H2 a=some (.tup w0)->Has B H2/\(Hasn cs1 H'/\Same (cov H' cs1) (unc H2 B)/\unc H2 B a=some (.tup w0))):=fun w0 H' G _ U a H2 s3 e3=>by
    have hn2:=Hasn.of_app U a1
    rw [Zcj G a1] at s3
    have hpc2:Has B H2:=fun b o e=>s3 _ _ (Wb (Ww e))
    have hnp:Hasn B H':=fun b o e=>hn2 b o (Ww e)
    refine ⟨hpc2,fun b o e=>hn2 b o (by rw [YA (a2.sym e)];exact e),fun b u e=>?_,?_⟩
    ·have zb:B.lookup b=none:=by
      cases z:B.lookup b with
      | none=>rfl
      | some o=>rw [ZV (a2 b o z),hnp b o z] at e;cases e
     rw [ZH zb]
     refine s3 _ _ ?_
     cases z:cs1.lookup b with
     | some o=>rw [Wb (show (B++cs1).lookup b=some o by rw [YA zb];exact z)];rw [Wb z] at e;exact e
     | none=>rw [ZV (by rw [YA zb];exact z)];rw [ZV z] at e;exact e
    ·rw [ZH (XC hpc2 e3 fun _ z=>by cases z)];exact e3
   refine run (unc Hx B) _ _ sy (fun v H' G f=>⟨G,hq v (unc H' fs) fun U a H2 s3 e3=>?_⟩) (fun C dx I J H' G rk ed f=>⟨G,he C dx I J (unc H' fs) rk ?_ fun U a H2 s3 e3=>?_⟩)
   ·obtain ⟨z1,z2,z3,z4⟩:=fin _ H' G (fun z y=>by cases y) U a H2 s3 e3
    exact ⟨z1,f z2 a _ z3 z4⟩
   ·rw [ZH (XC G ed fun _ z=>by cases z)];exact ed
   ·obtain ⟨z1,z2,z3,z4⟩:=fin _ H' G (fun z y=>by cases y) U a H2 s3 e3
    exact ⟨z1,f z2 a _ z3 z4⟩
 refine Jg (Ge (F.run Y.A Y.stack s1 (cov H1 B) ⟨[.ref q],[]⟩ [.ref q] [.ref q] _ _ hr e1 (hb s1 [.ref q] I1.kIn rfl) (.cons rfl .nil) hsp) fun r s' hq=>?_)
 cases r with
 | error e=>exact QF hq
 | ok fl =>
  cases fl with
  | ret u =>
   obtain ⟨v,H2,os,bare,un,hok,r,has2,hQ⟩:=hq
   exact ⟨v,unc H2 B,I1.call' os (un.uncov W hsh (Xz hok has2)) (hok.unc has2) bare fun b z=>absurd z (by simp),r,hQ⟩
  | next=>exact QF hq
  | brk=>exact QF hq
  | cont=>exact QF hq
end
inductive Zba (KP:Pn->Addr->Addr->List V->((St->XK)->TE)->Prop)(RK:Addr->Str->Prop)(qual:Str)(σ:St)(vs:List V)(H:Hp)(Q:VK):Prop
 | mk (q:Addr) (fs:Pn) (cc:Addr) (ds:List V) (te:(St->XK)->TE):vs=[.ref q]->KP fs cc q ds te->Has fs H->H cc=some (.ext (YK cc qual)) ->
  (∀ (H1:Hp) (Qc:VK) (Ec:XK),Same H H1->(∀ v H',Has fs H'->(∀ a H2,Same H' H2->H2 a=some (.tup [.str "told",v])->Q (.ref a) H2)->Qc v H') ->
   (∀ C dx word what H',Has fs H'->RK C word->H' dx=some (.xd [("what",what)])->(∀ a H2,Same H' H2->H2 a=some (.tup [.str "refused",.str word,what])->Q (.ref a) H2)->Ec (.ref C) (some dx) H')->te (fun _=>Ec) (σ++ds.map some) H1 Qc)->Zba KP RK qual σ vs H Q
def ZnN (KP:Pn->Addr->Addr->List V->((St->XK)->TE)->Prop)(RK:Addr->Str->Prop)(qual:Str)(t:TA):TE:=fun σ H Q=>t σ H fun vs H1=>Zba KP RK qual σ vs H1 Q
theorem ZaF {KP:Pn->Addr->Addr->List V->((St->XK)->TE)->Prop}{RK:Addr->Str->Prop}{qual:Str}{σ:St}{H:Hp}{Q:VK}{q cc:Addr}{fs:Pn}{ds:List V}{te:(St->XK)->TE}(Z:List V)(kp:KP fs cc q ds te)(W:Has fs H)(U:H cc=some (.ext (YK cc qual)))
 (run:∀ (H1:Hp) (S:VK) (J:XK),Same H H1->(∀ v H',Same H1 H'->Z=[.str "told",v]->S v H')->(∀ C dx G B H',Same H1 H'->RK C G->H' dx=some (.xd [("what",B)])->Z=[.str "refused",.str G,B]->J (.ref C) (some dx) H')->te (fun _=>J) (σ++ds.map some) H1 S)
 (I:∀ (a:Addr) (H2:Hp),Same H H2->H2 a=some (.tup Z)->Q (.ref a) H2):Zba KP RK qual σ [.ref q] H Q :=
 ⟨q,fs,cc,ds,te,rfl,kp,W,U,fun H1 S J s hq he=>run H1 S J s (fun v H' s' e=>hq v H' (W.same (s.trans s')) fun a H2 s2 ea=>I a H2 (s.trans (s'.trans s2)) (by rw [e];exact ea)) fun C dx G B H' s' rk ed e=>he C dx G B H' (W.same (s.trans s')) rk ed fun a H2 s2 ea=>I a H2 (s.trans (s'.trans s2)) (by rw [e];exact ea)⟩
theorem Has.grow {fs:Pn}{H H':Hp}{Pl:Addr}{q:Str}(B:Has fs H)(L:LamsAt H Pl q)(g:Grown Pl H H'):Has fs H':=fun b o e=>g b _ (fun z=>by
 obtain ⟨ts,y,_⟩:=L
 have:=B b o e
 rw [z,y] at this;cases this) (B b o e)
theorem Zkc {H H':Hp}{Pl cc:Addr}{q:Str}{B:Heap->Prop}(e:H cc=some (.ext B))(L:LamsAt H Pl q)(g:Grown Pl H H'):H' cc=some (.ext B):=g cc _ (fun z=>by
 obtain ⟨ts,y,_⟩:=L
 rw [z,y] at e;cases e) e
section
variable {X:Cx}{k j:Nat}{RK:Addr->Str->Prop}{f:Str}{pn:Str}{p0 pos:Pos}{e:Expr}{t:TA}
theorem ZjR (D:Def X.prog X.w X.K X.mg X.base j f [pn] (Wl X.prog X.w X.K X.mg X.base (k+1) RK))(hr:Room j X.A)(hfn:∀ x,X.fn x=true)(ha:PA X [e] t)
 (hg:Gl X f:=by rfl) (hdb:(f == ("__debug__":Str))=false:=by decide)
 (he:QA [e] X.env=(false,eval e X.env)::QA [] X.env:=by rfl) (hpl:(GG pos (QA [] X.env)).any (·.1)=false:=by rfl) :
 PE X (.Call (.Name f p0) [e] [] pos) (ZnN (fun fs cc q ds te=>Kept X k fs cc q ds te) RK (Yo X) t):=by
 obtain ⟨fa,fd,F,hb,kp,hm⟩:=D
 intro pins s σ H Q I h
 refine QR (Wt I hg hm ?_ hdb)
 refine Jh (h₀:=X.base) I.ok.mod.kin kp (Zt (ha pos pins s σ H _ I h) fun us s1 zz=>?_) he hpl
 obtain ⟨vs,H1,B,r,q⟩:=zz
 refine ⟨B.kIn,?_⟩
 obtain ⟨q,fs,cc,ds,te,rfl,J,hf,hcc,run⟩:=q
 obtain ⟨u,rfl,ru⟩:=Yq r
 obtain rfl:u=Qm q:=ru
 obtain ⟨hn,hsh,hcell,W⟩:=Zei B
 have Z:=J.run (σ:=σ) (cs:=Xv X.env s1.heap++[]) B.len B.ok.inj (fun x c ec=>by
  obtain ⟨v,o,z1,z2⟩:=B.cell x c ec
  exact ⟨o,v,by rw [append_nil];exact W x c o ec z1,z2⟩) (fun i x v c e1 e2 e3 e4=>by
  obtain ⟨m,hn',hl⟩:=B.loc
  obtain ⟨u,ru,lu⟩:=hl i x v e1 e2 (.inr (.inl e4))
  rcases lu with ⟨z,_⟩ | ⟨_,c',z,o,z1,z2⟩
  ·rw [e4] at z;cases z
  ·rw [e3] at z;cases z
   exact ⟨o,u,by rw [append_nil];exact W x c o e3 z1,z2,ru⟩)
 exact ZiN F hb hr B (ZkY B hfn) Z J.fn J.nc (fun _ _ z=>nomatch z) hf Zfd hcc fun Hx Qc Ec sx hq he=>run Hx Qc Ec sx (fun v H' G g=>hq v H' G fun _=>g) (fun C dx S U H' G rk ed g=>he C dx S U H' G rk ed fun _=>g)
end
end L2
namespace K35
open PySem L2
theorem Xc (v:V):(!decide (v=v))=false:=by simp
theorem Zcn {x:Str}(h:Uw x):Wa (.str x):=by
 obtain ⟨J,I,G⟩:=h
 refine .inr ⟨by omega,all_eq_true.mpr fun c B=>?_⟩
 have:=all_eq_true.mp G c B
 unfold Zcm at this;unfold VP
 simp only [QJ,decide_eq_true_eq] at this ⊢
 omega
theorem ZmB {pls:List Yp}{G:Str->Option V}{p t' c:Nat}{st:Stp}(h:(envs pls)[p]?=some G):(envs (pls++[⟨p,st,t',c⟩]))[pls.length+1]?=some (st.ap G):=by
 rw [ZaO,getElem?_append_right (by rw [Ub];exact Qg _),Ub,GB,getD_eq_getElem?_getD,h]
 rfl
structure KI (xs:List Str)(qs:List (Str×V))(ws:List (Zo×V))(s:Hs)(n:Nat)(G:Str->Option V):Prop where
 I:HI xs s
 ins:s.ins=[0]
 sp:s.spots=[n]
 env:(envs s.pls)[n]?=some G
 pl:s.pls.length=n
 fl:s.fds.length=n
 fu:s.us.length=n
 nl:s.nds.length<=1+6 * n
 tl:s.tabs.length<=1+n
 df:s.dfs=Yw qs
 qn:∀ q∈qs,q.1∈xs/\Wa q.2
 nd:(qs.map (·.1)).Nodup
 ql:qs.length<=60
 nm:∀ x∈xs,Uw x
 wv:∀ x,Zz ws (Qs x)=G x
 wl:ws.length<=n
theorem KI.gv {xs:List Str}{qs:List (Str×V)}{B:List (Zo×V)}{s:Hs}{n:Nat}{G:Str->Option V}(W:KI xs qs B s n G):∀ x u,G x=some u->IsVal u:=(W.I.R.tr n G _ W.env (Uh (W.I.sp n (by rw [W.sp];exact mem_cons_self)))).2.2
theorem KI.hb {xs:List Str}{qs:List (Str×V)}{B:List (Zo×V)}{s:Hs}{n:Nat}{G:Str->Option V}(W:KI xs qs B s n G)(I:n<=200):HB s:=⟨by have:=W.pl;omega,by have:=W.nl;omega,by have:=W.tl;omega,by have:=W.fl;omega,by have:=W.fl;have:=W.fu;omega⟩
theorem KI.st {xs:List Str}{qs:List (Str×V)}{S:List (Zo×V)}{s:Hs}{n:Nat}{G:Str->Option V}(W:KI xs qs S s n G){x:Str}{v:V}{t' c:Nat}{nds:List Nd}{B:List (Zo×V)}(J:HI xs (hGo s 0 n (.set x v) t' c nds B))(h1:nds.length<=s.nds.length+6)(h2:B.length<=s.tabs.length+1) :
 KI xs qs (Ye S (Qs x) v) { hGo s 0 n (.set x v) t' c nds B with fds:=s.fds++[⟨0,x,(G x).getD .non⟩],us:=s.us++[true] } (n+1) ((Stp.set x v).ap G) where
 I:=⟨J.N,J.R,J.sp⟩
 ins:=W.ins
 sp:=by show s.spots.set 0 _=_;rw [W.sp,W.pl];rfl
 env:=by have:=ZmB (t':=t') (c:=c) (st:=.set x v) W.env;rw [W.pl] at this;exact this
 pl:=by show (_++[_]).length=_;rw [length_append,W.pl];rfl
 fl:=by show (_++[_]).length=_;rw [length_append,W.fl];rfl
 fu:=by show (_++[_]).length=_;rw [length_append,W.fu];rfl
 nl:=by show nds.length<=_;have:=W.nl;omega
 tl:=by show B.length<=_;have:=W.tl;omega
 df:=W.df
 qn:=W.qn
 nd:=W.nd
 ql:=W.ql
 nm:=W.nm
 wv:=fun y=>by
  rw [WD]
  show _=if y=x then some v else G y
  by_cases h:y=x
  ·subst h;rw [if_pos rfl,if_pos rfl]
  ·rw [if_neg (fun z=>h (Js z)),if_neg h];exact W.wv y
 wl:=Qr ZjY (Nat.succ_le_succ W.wl)
def lkV (v:V)(x:Str):List V:=if v=.non then [.str "refused",.str "missing",.str x] else [.str "told",v]
theorem ZmM {v:V}{x:Str}(B:Wa v)(G:Uw x):(∀ u∈lkV v x,Wa u)/\(lkV v x).length<=1000:=by
 unfold lkV
 split
 ·refine ⟨fun u hu=>?_,by show 3<=1000;decide⟩
  rcases mem_cons.mp hu with rfl | hu
  ·exact UF (by decide +kernel)
  rcases mem_cons.mp hu with rfl | hu
  ·exact UF (by decide +kernel)
  ·rw [mem_singleton.mp hu];exact Zcn G
 ·refine ⟨fun u hu=>?_,by show 2<=1000;decide⟩
  rcases mem_cons.mp hu with rfl | hu
  ·exact UF (by decide +kernel)
  ·rw [mem_singleton.mp hu];exact B
abbrev qR:Str:=(("_law_looks_right":Str)++".<locals>.")++"<lambda>"
section
variable {P:Qi}{w:Qu}{K:Qa}{mg:Str->Option Qb}{base:Heap}{CH CR CS CT CRo CN CM Pq:Addr}{cs:List Addr}
abbrev lrL (K:Qa)(CH CR CS CT Pq h dv:Addr)(s:Hs)(ws:List (Zo×V))(Δ:Rs):Rs:=(Pq,WK qR)::(h,WV K CH CR CS CT s)::(dv,Uv ws)::Δ
inductive Zkh (K:Qa)(CH CR CS CT Pq:Addr)(vs:List V)(H:Hp)(Q:VK)(w_3:XK):Prop
 | mk (h dd dv:Addr) (xs:List Str) (qs:List (Str×V)) (ws:List (Zo×V)) (s:Hs) (n:Nat) (G:Str->Option V) (o:V) (Δ:Rs):vs=[.ref h,.ref dd,.ref dv,o]->Sep ((dd,Uv (Yw qs))::lrL K CH CR CS CT Pq h dv s ws Δ) H->KI xs qs ws s n G->Wa o->(∀ H',Sep ((dd,Uv (Yw qs))::lrL K CH CR CS CT Pq h dv s ws Δ) H'->Q (.bl true) H')->Zkh K CH CR CS CT Pq vs H Q w_3
abbrev nLr:List Str:=["_law_hall","_law_defaults","_law_values","_law_other","_law_name","_law_value_here","_law_told_here"]
abbrev ZjT:List Str:=["_law_hall","_law_defaults","_law_values","_law_other"]
theorem scLr:Zp nLr ZjT (Zk s_l_looks_right):={}
theorem Zot {f c:Addr}{fd:Qn}(F:FunC K "_law_looks_right" "_law_looks_right" s_l_looks_right f fd c Pq)(hBm:Xn base mg)(T:Yi mg)(TH:Xu K CH)(DH_look:DefMX P w K mg base 14 CH "look" Zal (ZbR K CH CR CS CT CN CM))(B:DefM P w K mg base 17 CH "look_or" Zoy (Zdv K CH CR CS CT))(rN:RK K CRo cs CN "setting")(rM:RK K CRo cs CM "missing")(DTo:Def P w K mg base 17 "_law_told" ["_law_ask"] (Wl P w K mg base 15 (RK K CRo cs))):FnOk P w K mg base ZF 18 f fd ZjT (Zkh K CH CR CS CT Pq):=by
 refine F.ok scLr (fun A outer s0 H vs Q E J h=>?_)
 obtain ⟨h,dd,dv,xs,qs,ws,s,n,G,o,Δ,rfl,S,W,ho,q⟩:=h
 have hr1:=J.mono (show 1<=17 by decide)
 refine' ⟨?t,?h,?r⟩
 case h =>
  conv=>arg 2;whnf
  with_reducible refine' (Zd (ZlJ (WH ?h1 ?h2 ?h3 ?h4 (Zd ?h5 (Zaq ?h6 (Zd (Yb ?h7 (Zi ?h8) ZM) (Zi (Yb ?h9 (Zi ?h10) ZM))))) ?h11)) (Zi ?h12))
  case h1=>exact Gm
  case h2=>exact rfl
  case h3=>exact ZlF (pv 1)
  case h4=>exact Yg (i:=4) scLr.nd rfl (SW rfl)
  case h5=>exact Zv (i:=5) scLr.nd rfl (QD rfl) (ZaV (YS J) (pv 2) (pv 4) (Zah (YS J) (pv 1) (pv 4) (fun _ _=>rfl)) ⟨rfl,rfl,rfl,rfl⟩)
  case h6=>exact Zv (i:=6) scLr.nd rfl (QD rfl) (YN (XM (UG (pv 5))) (YE (Zc ZR (Zc ZR (Zc (pv 4) Za)))) (YE (Zc ZR (Zc (pv 5) Za))))
  case h7=>exact ZK XB (Zu (Yv J.gd J.units) rfl T.repr (by decide +kernel) (Zc (ZlD (c:=c) (Pl:=Pq) DTo J (LamOk.of s_l_looks_right rfl rfl (by decide +kernel)) rfl F.hd hBm (fun _ _ _ _ _ _ _ _ _ hrL W=>(Us W DH_look TH.cl hrL (pv 0) (Zc (pv 4) Za)))) Za)) (Zu (Yv J.gd J.units) rfl T.repr (by decide +kernel) (Zc (pv 6) Za)) (ZL _)
  case h8=>exact Zq YY
  case h9=>exact ZK XB (Zu (Yv J.gd J.units) rfl T.repr (by decide +kernel) (Zc (ZU B TH.cl J (pv 0) (Zc (pv 4) (Zc (pv 3) Za))) Za)) (Zu (Yv J.gd J.units) rfl T.repr (by decide +kernel) (Zc (ZaV (YS J) (pv 2) (pv 4) (pv 3) ⟨rfl,rfl,rfl,rfl⟩) Za)) (ZL _)
  case h10=>exact Zq YY
  case h11=>exact fun _=>rfl
  case h12=>exact Zq YY
 try dsimp only [ZN,Cx.nox]
 refine US ?_
 intro zD zS zN1
 refine ⟨_,rfl,dd,_,rfl,S.get dd,fun ob nf=>?_⟩
 have F0:Fz dd ob (Yw qs) (lrL K CH CR CS CT Pq h dv s ws Δ) (upd H dd (.frz ob (.dK (Yw qs)))):=.mk (S.pull dd)
 refine Zjj (fun i σ H'=>∃ y4 y5 y6,σ=[some (.ref h),some (.ref dd),some (.ref dv),some o,y4,y5,y6]/\Fz dd ob (Yw qs) (lrL K CH CR CS CT Pq h dv s ws Δ) H') ⟨_,_,_,rfl,F0⟩ (fun i σ H' _ ⟨_,_,_,_,F'⟩=>F'.at) ?_ ?_
 ·rintro i pp σ H1 hpp ⟨y4,y5,y6,rfl,Z⟩
  obtain ⟨⟨x,d⟩,hq,rfl⟩:∃ z,qs[i]?=some z/\pp=(Qs z.1,z.2):=by
   unfold Yw at hpp
   rw [getElem?_map] at hpp
   obtain ⟨z,e1,e2⟩:=Gc.mp hpp
   exact ⟨z,e1,e2.symm⟩
  obtain ⟨hxm,hdn⟩:=W.qn _ (mem_of_getElem? hq)
  have hd:Zz (Yw qs) (Qs x)=some d:=Va W.nd (mem_of_getElem? hq)
  have hGv:=W.gv
  have hvd:Wa ((G x).getD d):=by
   cases e:G x with
   | none=>exact hdn
   | some u=>exact .inr (hGv x u e)
  obtain ⟨k1,k2⟩:=ZmM hvd (W.nm x hxm)
  have U:=Z.sep.get dv
  have hgv:∀ {H':Hp},H' dv=some (.dK ws)->DGet H' dv (.str x) (G x):=fun e=>by have z:=DGet.k (k:=Qs x) e;rw [W.wv] at z;exact z
  refine ⟨_,rfl,dv,rfl,.inl ⟨_,.inl U⟩,_,rfl,_,rfl,_,rfl,dd,d,rfl,.inl ⟨_,Qs x,.inr ⟨_,Z.at⟩,rfl,hd.symm⟩,_,hgv U,?_⟩
  refine ⟨fun σ' H'=>∃ t2,σ'=[some (.ref h),some (.ref dd),some (.ref dv),some o,some (.str x),some ((G x).getD d),some (.ref t2)]/\H' t2=some (.tup (lkV ((G x).getD d) x))/\Fz dd ob (Yw qs) (lrL K CH CR CS CT Pq h dv s ws Δ) H',?_,?_⟩
  ·unfold lkV
   refine ⟨_,rfl,_,rfl,Wc (fun c=>?_) (fun c=>?_)⟩
   ·rw [if_pos (of_decide_eq_true c)]
    exact ⟨_,rfl,(by show 3<=Qj;decide),fun t2 ht2=>⟨t2,rfl,Zf,Z.mono (Zm ht2 _)⟩⟩
   ·rw [if_neg (fun z=>c (decide_eq_true z))]
    exact ⟨_,rfl,(by show 2<=Qj;decide),fun t2 ht2=>⟨t2,rfl,Zf,Z.mono (Zm ht2 _)⟩⟩
  clear Z U
  rintro σ1 H1 ⟨t2,rfl,e2,Z⟩
  have n2:t2≠Pq:=fun z=>by obtain ⟨ts,z1,_⟩:=Z.sep.get Pq;rw [<- z,e2] at z1;cases z1
  dsimp only [ZP,tIfS,ZgT,tOp,tCB,XQ]
  refine ZgV (lkV ((G x).getD d) x) (Z.sep.get Pq) (fun H2 Qc Ec gr L1 hq he=>?_) (fun H2 t1 H3 gr L1 s3 e3=>?_)
  ·have F2:=Z.grow gr L1
   have S2:=F2.sep
   obtain ⟨dd',r,sp,il,tk,Sh⟩:=S2.get h
   obtain ⟨dx4,ob4⟩:=Sh.get h
   refine ⟨_,rfl,h,dx4,_,rfl,ob4,Yd (by decide +kernel),_,rfl,xs,h,s,0,n,x,G,rfl,S2.get h,W.I,by rw [W.ins];rfl,by rw [W.sp];rfl,W.env,hxm,fun hz=>?_,fun d' hd'=>⟨fun hz dx H3 s3 ed=>?_,fun hz H3 s3=>?_⟩⟩
   ·rw [W.df,hd] at hz;cases hz
   ·rw [W.df,hd] at hd';cases hd'
    exact he CM dx "missing" _ H3 s3 rM ed (if_pos (show (G x).getD d=.non from hz))
   ·rw [W.df,hd] at hd';cases hd'
    exact hq _ H3 s3 (if_neg (show ¬ (G x).getD d=.non from hz))
  have F3:=(Z.grow gr L1).mono s3
  have e3b:=s3 _ _ (gr _ _ n2 e2)
  obtain ⟨u1,u2,u3,u4⟩:=Xe e3 k1 k2
  obtain ⟨v1,v2,v3,v4⟩:=Xe e3b k1 k2
  refine ⟨_,_,rfl,u1,u2,u3,u4,_,rfl,_,_,rfl,v1,v2,v3,v4,rfl,_,rfl,?_⟩
  rw [Xc]
  refine ZQ ?_
  have S3:=F3.sep
  obtain ⟨dd',r,sp,il,tk,Sh⟩:=S3.get h
  obtain ⟨dx4,ob4⟩:=Sh.get h
  have hvo:Wa ((G x).getD o):=by
   cases e:G x with
   | none=>exact ho
   | some u=>exact .inr (hGv x u e)
  refine ⟨_,rfl,h,dx4,_,rfl,ob4,Yd (by decide +kernel),_,rfl,_,rfl,xs,h,s,0,n,x,o,G,rfl,S3.get h,W.I,by rw [W.ins];rfl,by rw [W.sp];rfl,W.env,hxm,by rw [W.df,hd];rfl,fun H4 s4=>?_⟩
  have U:=s4 _ _ (S3.get dv)
  obtain ⟨u1,u2,u3,u4⟩:=Zco (H:=H4) hvo
  refine ⟨_,_,rfl,u1,u2,u3,u4,_,rfl,dv,rfl,.inl ⟨_,.inl U⟩,_,rfl,_,rfl,_,hgv U,_,_,rfl,u1,u2,u3,u4,rfl,_,rfl,?_⟩
  rw [Xc]
  exact ZQ ⟨_,_,_,rfl,F3.mono s4⟩
 ·rintro σ H1 ⟨y4,y5,y6,rfl,Z⟩
  refine ⟨dd,ob,Yw qs,Z.at,nf,?_⟩
  have S1:=Z.melt
  generalize upd H1 dd (.dK (Yw qs))=H2 at S1 ⊢
  exact q H2 S1
end
section
variable {P:Qi}{w:Qu}{K:Qa}{mg:Str->Option Qb}{base:Heap}{kk:Nat}{CH CR CS CT CRo Pl Pp Pq:Addr}{cs:List Addr}{CX:Nat->Addr}
inductive VU (K:Qa)(CH CR CS CT CX:Addr)(vs:List V)(H:Hp)(Q:VK)(E:XK):Prop
 | mk (NS:List Str) (h:Addr) (s:Hs) (n p:Nat) (x:Str) (o:V) (G:Str->Option V):vs=[.ref h,.str x,o]->WL K CH CR CS CT h s H->HI NS s->s.ins.getLast?=some n->s.spots[n]?=some p->(envs s.pls)[p]?=some G->x∈NS->(Zz s.dfs (Qs x)=none->ExW E CX (.str x) H)->(((Zz s.dfs (Qs x)).isSome=true->∀ H',Same H H'->Q (Vu (G x) o) H'))->VU K CH CR CS CT CX vs H Q E
abbrev nHLx:List Str:=["self","name","other","value"]
abbrev ZbG:List Str:=["self","name","other"]
theorem scHLx:Zp nHLx ZbG (Zk c_Hall_look_or):={}
theorem Zfs {CX:Addr}{f:Addr}{fd:Qn}(F:Fun K "look_or" "Hall.look_or" c_Hall_look_or f fd)(T:Yi mg)(TH:Xu K CH)(B:DefMX P w K mg base 12 CH "check_setting" Zak (Zar K CH CR CS CT CX))(U:DefM P w K mg base 12 CH "now" ZbH (ZbT K CH CR CS CT))(J:DefM P w K mg base 12 CH "value_in" ZbI (ZbZ K CH CR CS CT)):FnOk P w K mg base (XH P w base) 13 f fd ZbG (VU K CH CR CS CT CX):=by
 refine F.okX scHLx (fun cdv A outer s H vs Q E hr h W=>?_)
 obtain ⟨NS,h,s,n,p,x,o,G,rfl,R,I,hn,hp,hG,hx,q0,q'⟩:=h
 obtain ⟨d,r,sp,i,t,S⟩:=id R
 obtain ⟨dx,ob⟩:=S.get h
 have hv:=(I.R.tr p G _ hG (Uh (I.sp p (mem_of_getElem? hp)))).2.2
 refine' ⟨?t,?h,?r⟩
 case h =>
  conv=>arg 2;whnf
  with_reducible refine' (Zd ?h1 (Zd ?h2 (Zi ?h3)))
  case h1=>exact Yh (Us W B TH.cl hr (pv 0) (Zc (pv 1) Za))
  case h2=>exact Zv (i:=3) scHLx.nd rfl (QD rfl) (ZU J TH.cl hr (pv 0) (Zc (We U TH.cl hr (pv 0)) (Zc (pv 1) Za)))
  case h3=>exact Zq (YN (XM (UG (pv 3))) (pv 2) (pv 3))
 try dsimp only [ZN,Cx.nox]
 refine zs3 ?_
 intro zD zS zN2 zN1
 refine ⟨_,rfl,h,dx,_,rfl,ob,Yd (by decide +kernel),_,rfl,h,s,x,rfl,R,fun hd=>?_,q0⟩
 have q:=q' hd
 refine ⟨_,rfl,h,dx,_,rfl,ob,Yd (by decide +kernel),_,rfl,h,dx,_,rfl,ob,Yd (by decide +kernel),h,s,n,rfl,R,hn,_,rfl,NS,h,s,n,p,x,G,rfl,R,I,hp,hG,hx,fun H1 s1=>?_⟩
 have Z:=q H1 s1
 cases e:G x with
 | none =>
  rw [e] at Z
  exact ⟨_,rfl,_,rfl,Ys ⟨_,rfl,Z⟩⟩
 | some u =>
  have hu:=hv x u e
  rw [e] at Z
  have hne:decide (u=V.non)=false:=decide_eq_false fun z=>by rw [z] at hu;exact hu
  refine ⟨_,rfl,_,rfl,?_⟩
  show if decide (u=V.non)=true then _ else _
  rw [hne]
  exact ZQ ⟨_,rfl,Z⟩
end
abbrev Zko (P:Qi)(w:Qu)(K:Qa)(mg:Str->Option Qb)(base:Heap):Prop:=Def P w K mg base 1 "_law_take" ["_law_box_here","_law_many"] (VX 4611686018427387904)
section
variable {P:Qi}{w:Qu}{K:Qa}{mg:Str->Option Qb}{base:Heap}
abbrev vSigns:Str:=Zkx (Xx s_l_value)
theorem vs_len:vSigns.length=94:=by decide +kernel
theorem ZnY:vSigns.cps.toList.all VP=true:=by decide +kernel
abbrev nVv:List Str:=["_law_box_here","_law_way","_law_signs"]
theorem scVal:Zp nVv ["_law_box_here"] (Zk s_l_value):={}
theorem ZjK {f:Addr}{fd:Qn}(F:Fun K "_law_value" "_law_value" s_l_value f fd)(T:Txt K mg)(D:Zko P w K mg base):FnOk P w K mg base ZF 2 f fd ["_law_box_here"] ZcC:=by
 refine F.ok scVal (fun cdv A outer s H vs Q E Z h=>?_)
 obtain ⟨p,n,rfl,hB,hn,q⟩:=h
 refine ⟨_,Zd (Zv (i:=1) scVal.nd rfl (QD rfl) (ZJ D Z (Zc (pv 0) (Zc Zh Za))))
   (Zd (Yb (ZK Zdm (pv 1) Zh (ZL _)) (Zi (Zq (Zw Xm (ZJ D Z (Zc (pv 0) (Zc Zh Za))) Zh))) ZM)
   (Zd (Yb (ZK YX (pv 1) Zh (ZL _)) (Zi (Zq (ZD ZE (Yc (Wd (Zw Xm (Zw ZbC Zh Zh) Zh) (Wd (Zw Xm Zh (Zw ZbC Zh Zh)) (Wd (Zw ZbC Zh Zh) (Wd Zh Za rfl) rfl) rfl) rfl)) (ZJ D Z (Zc (pv 0) (Zc Zh Za))) (fun _ _=>rfl)))) ZM)
   (Zd (Yb (ZK YX (pv 1) Zh (ZL _)) (Zi (Zq (ZD ZE (Yc (Wd ZR (Wd ZR (Wd ZR (Wd ZR (Wd ZR (Wd ZR (Wd ZR (Wd ZR Za rfl) rfl) rfl) rfl) rfl) rfl) rfl) rfl)) (ZJ D Z (Zc (pv 0) (Zc Zh Za))) (fun _ _=>rfl)))) ZM)
   (Zd (Zv (i:=2) scVal.nd rfl (SW rfl) ZR)
   (Zi (Zq (XD Ss SM SN Zfo ZR (Zc (Zcq (CompOk.of nVv s_l_value rfl rfl (by decide +kernel)) rfl
     (XU rfl T.range (Zc (ZJ D Z (Zc (pv 0) (Zc (YN (ZK YX (pv 1) Zh (ZL _)) Zh Zh) Za))) Za))
     (fun _ _ _ _ _=>ZD Zbv (pv 2) (ZJ D Z (Zc (pv 0) (Zc (Zu (Zho (K:=K) rfl) rfl T.len QU (Zc (pv 2) Za)) Za))) (fun _ _=>rfl))) Za)))))))),?_⟩
 refine ⟨_,rfl,p,n,6,rfl,hB,by omega,by decide,by decide,fun r1 H1 a0 a1 U k1=>?_⟩
 refine ⟨_,rfl,_,_,rfl,rfl,_,rfl,Wc (fun c=>?_) (fun c=>?_)⟩
 · refine ⟨_,rfl,p,n+1,7,rfl,U,by omega,by decide,by decide,fun B H2 b0 b1 I k2=>⟨_,_,rfl,rfl,?_⟩⟩
   exact q _ _ (by show (B - 3).natAbs < 10 ^ 30;omega) (I.le (by omega)) (k1.trans k2)
 refine ⟨_,rfl,rfl,_,rfl,Wc (fun c2=>?_) (fun c2=>?_)⟩
 · refine ⟨_,_,rfl,rfl,⟨by decide,by decide,by decide⟩,_,_,rfl,rfl,_,_,rfl,rfl,⟨by decide,by decide,by decide⟩,_,_,rfl,rfl,_,_,rfl,rfl,⟨by decide,by decide,by decide⟩,(by show 4<=Qj;decide),fun l S=>?_⟩
   have G:l≠p:=fun e=>by obtain ⟨_,_,_,z,_⟩:=U;rw [e,z] at S;cases S
   refine ⟨_,rfl,p,n+1,4,rfl,U.same (Zm S _),by omega,by decide,by decide,fun B H2 b0 b1 I k2=>?_⟩
   obtain ⟨v,hv,hm⟩:=Zch (xs:=([.int (10 ^ (30:Int).toNat - 1),.int (1 - 10 ^ (30:Int).toNat),.int (10 ^ (29:Int).toNat),.int 0]:List V)) b0 b1
   refine ⟨l,_,_,v,rfl,rfl,SqL.of (k2 l _ G Zf),hv,q _ _ ?_ (I.le (by omega)) (k1.trans ((Zm S _).kp p |>.trans k2))⟩
   have all:(([.int (10 ^ (30:Int).toNat - 1),.int (1 - 10 ^ (30:Int).toNat),.int (10 ^ (29:Int).toNat),.int 0]:List V)).all Zdz=true:=by decide +kernel
   exact Uc (all_eq_true.mp all v hm)
 refine ⟨_,rfl,rfl,_,rfl,Wc (fun c3=>?_) (fun c3=>?_)⟩
 · refine ⟨(by show 8<=Qj;decide),fun l S=>?_⟩
   have G:l≠p:=fun e=>by obtain ⟨_,_,_,z,_⟩:=U;rw [e,z] at S;cases S
   refine ⟨_,rfl,p,n+1,8,rfl,U.same (Zm S _),by omega,by decide,by decide,fun B H2 b0 b1 I k2=>?_⟩
   obtain ⟨v,hv,hm⟩:=Zch (xs:=([.str "",.str "0",.str "-1",.str "a",.str "none",.str "'",.str "\\", .str " "]:List V)) b0 b1
   refine ⟨l,_,_,v,rfl,rfl,SqL.of (k2 l _ G Zf),hv,q _ _ ?_ (I.le (by omega)) (k1.trans ((Zm S _).kp p |>.trans k2))⟩
   have all:(([.str "",.str "0",.str "-1",.str "a",.str "none",.str "'",.str "\\", .str " "]:List V)).all Zdz=true:=by decide +kernel
   exact Uc (all_eq_true.mp all v hm)
 refine ⟨rfl,?_⟩
 have fin:∀ (B:Int) (H2:Hp),0<=B->B < 41->BoxAt H2 p (n+2)->Kp p H1 H2->∃ j:Int,[V.int B]=[.int j]/\-(2 ^ 62)<=j/\j < 2 ^ 62/\∀ D,H2 D=none->CompW (Itr 0 j.toNat)
     (tOp rIxS (Zez 2) (ZgS (VX 4611686018427387904) [] E0 (XQ (Zez 0) (XQ (tCB (fun xs H Q=>∃ x n,xs=[x]/\ZiX K x H n/\Q (.int n) H) (XQ (Zez 2) XS)) XS))))
     [some (.ref p),some (.int r1),some (.str vSigns)] D (fun x H3=>∃ sep a ys,V.str ""=.str sep/\[x]=[.ref a]/\SqL K H3 a (ys.map V.str)/\(ys.map (·.length)).sum+ys.length * sep.length<=16777216/\Q (.str (Txt.join sep ys)) H3) H2:=by
   intro B H2 b0 b1 I k2
   refine ⟨B,rfl,by omega,by omega,fun Dl hD=>?_⟩
   have G:Dl≠p:=fun e=>by obtain ⟨_,_,_,z,_⟩:=I;rw [e,z] at hD;cases hD
   refine Zgf (Qr (show B.toNat<=1000 by omega) (Zgm (Qg _)))
     (fun i ys H'=>∃ zs:List Str,ys=zs.map V.str/\zs.length=i/\(∀ z∈zs,∃ c,z=⟨#[c]⟩/\VP c=true)/\H' Dl=some (.lst ys)/\BoxAt H' p (n+2+i)/\Kp p H1 H'/\i<=B.toNat)
     ⟨[],rfl,rfl,(fun _ h=>nomatch h),Zf,I.same (Zm hD _),k2.trans ((Zm hD _).kp p),QC _⟩ ?_ ?_ ?_
   · rintro i ys H' ⟨zs,rfl,hz,_⟩;rw [length_map];exact hz
   · rintro i ys H' hi ⟨zs,rfl,hz,J,W,B',k',_⟩
     refine ⟨_,rfl,_,rfl,_,rfl,_,94,rfl,⟨by rw [vs_len];decide,vs_len.symm⟩,p,n+2+i,94,rfl,B',by omega,by decide,by decide,fun r3 H3 d0 d1 B3 k3=>?_⟩
     have S:vSigns.cps.toList.length=94:=by rw [<- Ym];exact vs_len
     obtain ⟨c,hc,hm⟩:=Zch (xs:=vSigns.cps.toList) d0 (by rw [S];exact d1)
     refine ⟨vSigns,r3,c,rfl,rfl,(by rw [vs_len];decide),hc,k3 Dl _ G W,zs++[⟨#[c]⟩],by rw [map_append];rfl,by rw [length_append,hz];rfl,?_,Zf,?_,fun b o nb e=>?_,hi⟩
     · intro z hz'
       rcases mem_append.mp hz' with h | h
       · exact J z h
       · rw [mem_singleton.mp h];exact ⟨c,rfl,all_eq_true.mp ZnY c hm⟩
     · obtain ⟨x1,x2,x3,x4,x5⟩:=B3
       exact ⟨x1,x2,x3,by rw [Zg G.symm];exact x4,x5⟩
     · rw [Zg (Zr (k2 b o nb e) hD)];exact k3 b o nb (k' b o nb e)
   · rintro ys H' ⟨zs,rfl,hz,J,W,B',k',_⟩
     have ones:∀ l:List Str,(∀ z∈l,∃ c,z=⟨#[c]⟩/\VP c=true)->(l.map (·.length)).sum=l.length/\(l.flatMap (·.cps.toList)).length=l.length/\(l.flatMap (·.cps.toList)).all VP=true:=by
       intro l
       induction l with
       | nil=>intro _;exact ⟨rfl,rfl,rfl⟩
       | cons z r ih =>
         intro h
         obtain ⟨c,rfl,hc⟩:=h z mem_cons_self
         obtain ⟨g1,g2,g3⟩:=ih fun y hy=>h y (mem_cons_of_mem _ hy)
         refine ⟨?_,?_,?_⟩
         · rw [map_cons,RJ,g1,length_cons];show 1+_=_;omega
         · have e0:((⟨#[c]⟩:Str)::r).flatMap (·.cps.toList)=c::r.flatMap (·.cps.toList):=rfl
           rw [e0,length_cons,length_cons,g2]
         · rw [Tw,SD,g3];simp [hc]
     obtain ⟨g1,g2,g3⟩:=ones zs J
     refine ⟨_,Dl,zs,rfl,rfl,SqL.of W,?_,q _ _ ⟨?_,?_⟩ (B'.le (by omega)) (k1.trans k')⟩
     · rw [g1];show _+_ * 0<=_;omega
     · rw [Ym];show (Txt.join (Qw "") zs).cps.toList.length<=40;rw [WP,g2];omega
     · show (Txt.join (Qw "") zs).cps.toList.all VP=true;rw [WP];exact g3
 refine ⟨_,rfl,_,rfl,rfl,_,rfl,Wc (fun c4=>?_) (fun c4=>?_)⟩
 · exact ⟨p,n+1,4,rfl,U,by omega,by decide,by decide,fun B H2 b0 b1 I k2=>by obtain ⟨j,e1,e2,e3,e4⟩:=fin B H2 b0 (by omega) I k2;exact ⟨j,e1,e2,e3,e4⟩⟩
 · exact ⟨p,n+1,41,rfl,U,by omega,by decide,by decide,fun B H2 b0 b1 I k2=>by obtain ⟨j,e1,e2,e3,e4⟩:=fin B H2 b0 (by omega) I k2;exact ⟨j,e1,e2,e3,e4⟩⟩
end
end K35
namespace L2
open PySem PySem.Spec PyProof.Rows
end L2
namespace L2
open PySem PySem.W PySem.Spec PyProof.Rows
theorem ZhD {i:Int}(h:i.natAbs < 10 ^ 30):IsVal (.str (Qw (JO i))):=by
 have I:(Qw (JO i)).length=(Qw (JO i)).cps.toList.length:=Ym _
 refine ⟨?_,all_eq_true.mpr fun c B=>?_⟩
 ·rw [I]
  obtain ⟨m,⟨e,rfl⟩ | ⟨e,rfl⟩⟩:=ZcO i
  ·have G:(dgs m).length<=30:=Zfa (k:=29) (by omega)
   rw [e];omega
  ·have G:(dgs m).length<=30:=Zfa (k:=29) (by omega)
   rw [e,length_cons];omega
 ·have:=ZmF B
  unfold VP;simp;omega
theorem Zhr {X:Cx}:Yt X (.type "str") (fun xs H Q=>∃ v,xs=[v]/\IsVal v/\∀ z:Str,IsVal (.str z)->Q (.str z) H):=by
 intro pins s σ H xs us Q I r h
 obtain ⟨v,rfl,B,q⟩:=h
 obtain ⟨u,rfl,G⟩:=Yq r
 cases v with
 | int i =>
  obtain ⟨t,rfl⟩:=G
  have B:i.natAbs < 10 ^ 30:=B
  have J:i.natAbs.log2 < 1920:=by
   by_cases z:i.natAbs=0
   ·rw [z];decide
   ·exact (Ra z).mpr (QB B (by decide +kernel))
  exact RS J ⟨.str _,H,I.tok _,⟨_,rfl⟩,q _ (ZhD B)⟩
 | str x =>
  obtain ⟨t,rfl⟩:=G
  exact RW ⟨.str _,H,I,⟨_,rfl⟩,q _ B⟩
 | _=>exact QF B
end L2
namespace K35
open PySem L2
theorem Zeo {R:YD}{H:Hp}{P:Addr}{Δ:Rs}(hp:H P=some (.tbl #[]))(B:∀ h:Hp,h P=some (.tbl #[])->R P h)(S:Sep Δ (WY H (one P (.tbl #[])))):Sep ((P,R)::Δ) H :=
 ⟨one P (.tbl #[]),fun b o e=>by obtain ⟨rfl,rfl⟩:=one_some.mp e;exact hp,B _ (one_some.mpr ⟨rfl,rfl⟩),S⟩
theorem Uz {H:Hp}{P Q:Addr}{o:HO}(e:H Q=some o)(n:Q≠P):WY H (one P (.tbl #[])) Q=some o:=cut_some.mpr ⟨e,fun v z=>absurd (one_some.mp z).1 n⟩
theorem ZgE {K:Qa}{H:Hp}{a U I B:Addr}{ns:List Int}{q2 q3:Str}(hS:SqL K H a (ns.map V.int))(h1:H U=some (.tbl #[]))(h2:H I=some (.tbl #[]))(Z:H B=some (.tbl #[]))(W:[U,I,B].Nodup):Sep [(U,Xf),(I,WK q2),(B,WK q3),(a,ScR K ns)] H:=by
 simp only [nodup_cons,mem_cons,Pg,or_false,not_or] at W
 obtain ⟨⟨G,S⟩,J,-⟩:=W
 refine Zeo h1 (fun h e=>.inl e) (Zeo (Uz h2 (Gg G)) (fun h e=>⟨[],e,fun _ z=>nomatch z⟩) (Zeo (Uz (Uz Z (Gg S)) (Gg J)) (fun h e=>⟨[],e,fun _ z=>nomatch z⟩) ⟨_,fun b o e=>e,?_,trivial⟩))
 rcases hS.obj with z | ⟨o,e,nt,z⟩
 ·exact z _
 ·have n:∀ P,H P=some (.tbl #[])->a≠P:=fun P h y=>by rw [y,h] at e;cases e;exact absurd rfl (nt _)
  exact z _ (Uz (Uz (Uz e (n _ h1)) (n _ h2)) (n _ Z))
theorem ZhT {n:Nat}(h:n<=1000000):((n:Int)).natAbs.log2 < 1920:=by
 rw [Int.natAbs_natCast]
 by_cases z:n=0
 ·subst z;decide
 ·exact (Ra z).mpr (QK h (QB (show 1000000 < 2 ^ 20 by decide) (SZ (by decide) (by decide))))
section
variable {P:Qi}{w:Qu}{K:Qa}{mg:Str->Option Qb}{base:Heap}{CH CR CS CT CRo CN CM Pl Pq Pw:Addr}{cs:List Addr}
abbrev qW:Str:=(("law":Str)++".<locals>.")++"<lambda>"
abbrev hsQ (qs:List (Str×V)):Hs:={ hs0 with dfs:=Yw qs }
inductive ZbP (K:Qa)(CH CR CS CT:Addr)(vs:List V)(H:Hp)(Q:VK)(w_3:XK):Prop
 | mk (h:Addr) (s:Hs) (qs:List (Str×V)) (x:Str) (v:V) (Δ:Rs):vs=[.ref h,.str x,v]->Sep ((h,WV K CH CR CS CT s)::Δ) H->s.dfs=Yw qs->qs.length<=1000->x ∉ qs.map (·.1)->(∀ H',Sep ((h,WV K CH CR CS CT { s with dfs:=Yw (qs++[(x,v)]) })::Δ) H'->Q .non H')->ZbP K CH CR CS CT vs H Q w_3
theorem Zoi {CX:Addr}{vs:List V}{H:Hp}{Q:VK}{E:XK}(h:ZbP K CH CR CS CT vs H Q E):Zdt K CH CR CS CT CX vs H Q (fun _ _ _=>False):=by
 obtain ⟨h,s,qs,x,v,Δ,e,S,h1,h2,B,q⟩:=h
 exact ⟨h,s,qs,x,v,Δ,e,S,h1,h2,fun z=>absurd z B,fun _=>q⟩
inductive ZbX (K:Qa)(CH CR CS CT Pl:Addr)(vs:List V)(H:Hp)(Q:VK)(w_3:XK):Prop
 | mk (NS:List Str) (h:Addr) (s:Hs) (n p:Nat) (x:Str) (v:V) (G:Str->Option V) (Δ:Rs):vs=[.ref h,.str x,v]->Sep ((h,WV K CH CR CS CT s)::(Pl,Xf)::Δ) H->HI NS s->HB s->s.ins.getLast?=some n->s.spots[n]?=some p->(envs s.pls)[p]?=some G->x∈NS->IsVal v->(Zz s.dfs (Qs x)).isSome=true->(∀ (H':Hp) (t' c:Nat) (nds:List Nd) (tabs:List (Zo×V)),Sep ((h,WV K CH CR CS CT { hGo s n p (.set x v) t' c nds tabs with fds:=s.fds++[⟨n,x,(G x).getD .non⟩],us:=s.us++[true] })::(Pl,Xf)::Δ) H'->HI NS (hGo s n p (.set x v) t' c nds tabs)->nds.length<=s.nds.length+6->tabs.length<=s.tabs.length+1->Q (.int (s.fds.length:Int)) H')->ZbX K CH CR CS CT Pl vs H Q w_3
theorem Zpa {CX:Addr}{vs:List V}{H:Hp}{Q:VK}{E:XK}(h:ZbX K CH CR CS CT Pl vs H Q E):ZbW K CH CR CS CT Pl CX vs H Q (fun _ _ _=>False):=by
 obtain ⟨NS,h,s,n,p,x,v,G,Δ,e,S,h1,h2,J,I,Z,W,U,B,q⟩:=h
 exact ⟨NS,h,s,n,p,x,v,G,Δ,e,S,h1,h2,J,I,Z,W,U,fun z=>by (rw [z] at B;cases B),fun _=>q⟩
inductive ZbS (K:Qa)(CH CR CS CT:Addr)(vs:List V)(H:Hp)(Q:VK)(w_3:XK):Prop
 | mk (NS:List Str) (h:Addr) (s:Hs) (k p:Nat) (x:Str) (F:Str->Option V) (d:V):vs=[.ref h,.str x]->WL K CH CR CS CT h s H->HI NS s->s.ins.getLast?=some k->s.spots[k]?=some p->(envs s.pls)[p]?=some F->x∈NS->Zz s.dfs (Qs x)=some d->Vu (F x) d≠.non->(∀ H',Same H H'->Q (Vu (F x) d) H')->ZbS K CH CR CS CT vs H Q w_3
theorem Zop {CX CM:Addr}{vs:List V}{H:Hp}{Q:VK}{E:XK}(h:ZbS K CH CR CS CT vs H Q E):ZbR K CH CR CS CT CX CM vs H Q (fun _ _ _=>False):=by
 obtain ⟨NS,h,s,k,p,x,F,d,e,R,h1,h2,S,I,U,G,J,q⟩:=h
 exact ⟨NS,h,s,k,p,x,F,e,R,h1,h2,S,I,U,fun z=>by (rw [G] at z;cases z),fun d' B=>by (rw [G] at B;cases B;exact ⟨fun z=>absurd z J,fun _=>q⟩)⟩
theorem Zoq {CX:Addr}{vs:List V}{H:Hp}{Q:VK}{E:XK}(h:Zdv K CH CR CS CT vs H Q E):VU K CH CR CS CT CX vs H Q (fun _ _ _=>False):=by
 obtain ⟨NS,h,s,n,p,x,o,G,e,R,h1,h2,J,I,S,B,q⟩:=h
 exact ⟨NS,h,s,n,p,x,o,G,e,R,h1,h2,J,I,S,fun z=>by (rw [z] at B;cases B),fun _=>q⟩
inductive ZbQ (K:Qa)(Pl Pq Pw:Addr)(vs:List V)(H:Hp)(Q:VK)(w_3:XK):Prop
 | mk (a:Addr) (ns:List Int):vs=[.ref a]->SqL K H a (ns.map V.int)->ns.length<=63->Sep [(Pl,Xf),(Pq,WK qR),(Pw,WK qW),(a,ScR K ns)] H->(∀ H',Q (.bl true) H')->ZbQ K Pl Pq Pw vs H Q w_3
abbrev WM (K:Qa)(CH CR CS CT Pl Pq Pw p h dd dv nl a:Addr)(ns:List Int)(xs:List Str)(qs:List (Str×V))(ws:List (Zo×V))(s:Hs)(n:Nat):Rs:=[(p,Bx n),(h,WV K CH CR CS CT s),(Pl,Xf),(Pq,WK qR),(Pw,WK qW),(dd,Uv (Yw qs)),(dv,Uv ws),(nl,ZX (xs.map V.str)),(a,ScR K ns)]
abbrev nLw:List Str:=["_law_script","_law_k","_law_box_here","_law_names_here","_law_many","_law_hall","_law_defaults","_law_values","_law_name","_law_turn","_law_value_here","_law_held","_law_place","_law_strange","_law_ask"]
abbrev pnLw:List Str:=["_law_script"]
theorem scLw:Zp nLw pnLw (Zk s_law):={}
theorem ZmW {f c:Addr}{fd:Qn}(F:FunC K "law" "law" s_law f fd c Pw)(hBm:Xn base mg)(T:Yi mg)(TH:Xu K CH)(TR:Wp K CR)(DT:DTk P w K mg base 1)(DB:Def P w K mg base 18 "_law_box" ["_law_script","_law_k"] (ZbN K))(DN:Def P w K mg base 18 "_law_names" ZjU ZaY)(DV:Def P w K mg base 18 "_law_value" ["_law_box_here"] Vo)(DHl:Zcb P w K mg base 17 CH "Hall" ["self"] (Zcx K CH CR CS CT))
 (DH_declare:DefM P w K mg base 18 CH "declare" ZbF (ZbP K CH CR CS CT)) (DH_set_to:DefM P w K mg base 18 CH "set_to" Zam (ZbX K CH CR CS CT Pl)) (DX_set_to:DefMX P w K mg base 14 CH "set_to" Zam (ZbW K CH CR CS CT Pl CN)) (DX_look_or:DefMX P w K mg base 14 CH "look_or" ZbG (VU K CH CR CS CT CN)) (DH_look:DefM P w K mg base 18 CH "look" Zal (ZbS K CH CR CS CT)) (DH_place:DefM P w K mg base 18 CH "place" Vk (Zau K CH CR CS CT)) (DH_worlds:DefM P w K mg base 18 CH "worlds" Zgu (ZgP K CH CR CS CT)) (DH_roads:DefM P w K mg base 18 CH "roads" Zgs (ZgM K CH CR CS CT)) (DR_step:DefM P w K mg base 18 CR "step" ZgA (ZcA K CR CS)) (DR_ahead:DefM P w K mg base 18 CR "ahead" Zgv (Zct K CR CS)) (DR_places:DefM P w K mg base 18 CR "places" Zgy (ZaZ K CR CS))
 (rN:RK K CRo cs CN "setting") (DTo:Def P w K mg base 18 "_law_told" ["_law_ask"] (Wl P w K mg base 15 (RK K CRo cs))) (DLr:Def P w K mg base 18 "_law_looks_right" ZjT (Zkh K CH CR CS CT Pq)):FnOk P w K mg base ZF 19 f fd pnLw (ZbQ K Pl Pq Pw):=by
 refine F.ok scLw (fun A outer s0 H vs Q E B h=>?_)
 obtain ⟨a,ns,rfl,hS,hl,S,q⟩:=h
 have hr1:=B.mono (show 1<=18 by decide)
 refine' ⟨?t,?h,?r⟩
 case h =>
  conv=>arg 2;whnf
  with_reducible refine' (Zd (WH ?h1 ?h2 ?h3 ?h4 (Zd ?h5 (Zd ?h6 (Zaq ?h7 (Zd ?h8 (Zd (WH ?h9 ?h10 ?h11 ?h12 (Zaq ?h13 (Zi ?h14)) ?h15) (Zd (WH ?h16 ?h17 ?h18 ?h19 (Zd ?h20 (Zd ?h21 (Zaq (Yb ?h22 (Zd ?h23 (Zi ?h24)) ZM) (Zd (Yb ?h25 (Zi ?h26) ZM) (Zd ?h27 (Zd ?h28 (Zd (Yb ?h29 (Zi ?h30) ZM) (Zd (Yb ?h31 (Zi ?h32) ZM) (Zi (Yb ?h33 (Zi ?h34) ZM)))))))))) ?h35) (Zd ?h36 (Zd (WH ?h37 ?h38 ?h39 ?h40 (Zi (Yb ?h41 (Zi ?h42) ZM)) ?h43) (Zd (Yb ?h44 (Zi ?h45) ZM) (Zi (Yb ?h46 (Zi ?h47) ZM))))))))))) ?h48) (Zi ?h49))
  case h1=>exact Gm
  case h2=>exact rfl
  case h3=>exact XU rfl T.range (Zc (Zw Yy Zh (Zu (Zhp rfl) rfl T.min (by decide +kernel) (Zc Zh (Zc (Zu Ya rfl T.len QU (Zc (pv 0) Za)) Za)))) Za)
  case h4=>exact Yg (i:=1) scLw.nd rfl (QD rfl)
  case h5=>exact Zv (i:=2) scLw.nd rfl (QD rfl) (ZJ DB B (Zc (pv 0) (Zc (pv 1) Za)))
  case h6=>exact Zv (i:=3) scLw.nd rfl (QD rfl) (ZJ DN B (Zc (pv 2) (Zc Zh Za)))
  case h7=>exact Zv (i:=4) scLw.nd rfl (QD rfl) (YN (ZK YX (ZJ DT hr1 (Zc (pv 2) (Zc Zh Za))) Zh (ZL _)) Zh (Zw Yy Zh (ZJ DT hr1 (Zc (pv 2) (Zc Zh Za)))))
  case h8=>exact Wg (YE (Zc (Zdo DHl B) (Zc ZaW (Zc ZaW Za)))) (VM rfl (YO (Yg (i:=5) scLw.nd rfl (SW rfl)) (YO (Yg (i:=6) scLw.nd rfl (QD rfl)) (YO (Yg (i:=7) scLw.nd rfl (QD rfl)) UH))))
  case h9=>exact Gm
  case h10=>exact rfl
  case h11=>exact Zai (Vi ZfE (pv 3) Zao (Zap (pv 4)))
  case h12=>exact Yg (i:=8) scLw.nd rfl (QD rfl)
  case h13=>exact UJ (YS B) (pv 6) (pv 8) (YN (ZK YX (ZJ DT hr1 (Zc (pv 2) (Zc Zh Za))) Zh (ZL _)) WG (ZJ DV B (Zc (pv 2) Za))) rfl
  case h14=>exact Yh (ZU DH_declare TH.cl B (pv 5) (Zc (pv 8) (Zc (Zah (YS B) (pv 6) (pv 8) (fun _ _=>rfl)) Za)))
  case h15=>exact fun _=>rfl
  case h16=>exact Gm
  case h17=>exact rfl
  case h18=>exact Znp (XU rfl T.range (Zc (YN (ZK YX (ZJ DT hr1 (Zc (pv 2) (Zc Zh Za))) Zh (ZL _)) Zh (Zw Yy Zh (ZJ DT hr1 (Zc (pv 2) (Zc Zh Za))))) Za))
  case h19=>exact Yg (i:=9) scLw.nd rfl (QD rfl)
  case h20=>exact Zv (i:=8) scLw.nd rfl (QD rfl) (ZD ZE (pv 3) (ZJ DT hr1 (Zc (pv 2) (Zc (pv 4) Za))) (fun _ _=>rfl))
  case h21=>exact Zv (i:=10) scLw.nd rfl (QD rfl) (ZJ DV B (Zc (pv 2) Za))
  case h22=>exact ZK YX (ZJ DT hr1 (Zc (pv 2) (Zc Zh Za))) Zh (ZL _)
  case h23=>exact Zv (i:=11) scLw.nd rfl (QD rfl) (Yc (Zc (Zee (YS B) (pv 7) (pv 8) ⟨rfl,rfl,rfl,rfl⟩) (Zc (Zah (YS B) (pv 6) (pv 8) (fun _ _=>rfl)) (Zc (YI Zhr rfl T.str (by decide +kernel) (Zc (ZaV (YS B) (pv 7) (pv 8) Zh ⟨rfl,rfl,rfl,rfl⟩) Za)) Za))))
  case h24=>exact Zv (i:=10) scLw.nd rfl (QD rfl) (ZD ZE (Zw VI (Vi ZfE (ZjN (CompOk.of nLw s_law rfl rfl (by decide +kernel)) rfl (Zai (pv 11)) (fun _ _ _ _ _=>XM (Zlv (pv 15))) (fun _ _ _ _ _=>pv 15)) (Zap (ZJ DT hr1 (Zc (pv 2) (Zc Zh Za)))) Zao) (Yc (Zc Zh Za))) Zh (fun _ _=>rfl))
  case h25=>exact ZK XB (Zu (Yv B.gd B.units) rfl T.repr (by decide +kernel) (Zc (ZU DH_set_to TH.cl B (pv 5) (Zc (pv 8) (Zc (pv 10) Za))) Za)) (YI Zhq rfl T.str (by decide +kernel) (Zc (pv 9) Za)) (ZL _)
  case h26=>exact Zq YY
  case h27=>exact UJ (YS B) (pv 7) (pv 8) (pv 10) rfl
  case h28=>exact Zv (i:=12) scLw.nd rfl (QD rfl) (ZU DH_place TH.cl B (pv 5) (Zc Zh Za))
  case h29=>exact PW.pt (ZbK (ZK XB (pv 12) (Zw Yy (pv 9) Zh) (ZL _)) (VO (ZK XB (Zu (Yv B.gd B.units) rfl T.repr (by decide +kernel) (Zc (ZU DR_step TR.cl B (We DH_roads TH.cl B (pv 5)) (Zc (pv 12) Za)) Za)) (Zu (Yv B.gd B.units) rfl T.repr (by decide +kernel) (Zc (YE (Zc ZR (Zc (pv 8) (Zc (pv 10) Za)))) Za)) (ZL _))))
  case h30=>exact Zq YY
  case h31=>exact PW.pt (ZbK (ZK XB (ZU DR_ahead TR.cl B (We DH_roads TH.cl B (pv 5)) (Zc (pv 12) Za)) (pv 9) (ZL _)) (VO (ZK XB (Zu (Yv B.gd B.units) rfl T.repr (by decide +kernel) (Zc (ZU DH_look TH.cl B (pv 5) (Zc (pv 8) Za)) Za)) (Zu (Yv B.gd B.units) rfl T.repr (by decide +kernel) (Zc (pv 10) Za)) (ZL _))))
  case h32=>exact Zq YY
  case h33=>exact Znu (PW.pt (Zip (ZK YX (Zw XL (pv 9) Zh) Zh (ZL _)) (Zfz (VN (UK (ZJ DLr B (Zc (pv 5) (Zc (pv 6) (Zc (pv 7) (Zc (ZJ DV B (Zc (pv 2) Za)) Za))))))))))
  case h34=>exact Zq YY
  case h35=>exact fun _=>rfl
  case h36=>exact Zv (i:=13) scLw.nd rfl (SW rfl) (ZD ZE (pv 3) Zh (fun _ _=>rfl))
  case h37=>exact Gm
  case h38=>exact rfl
  case h39=>exact Zai (Yc (Zc (Znn (c:=c) (Pl:=Pw) (LamOk1.of (ps:=[]) nLw s_law rfl rfl (by decide +kernel)) rfl F.hd hBm (fun _ _ _ _ _ _ _ _ _ hrL W=>(Us W DX_set_to TH.cl hrL (pv 5) (Zc (pv 13) (Zc Zh Za))))) (Zc (ZlB (c:=c) (Pl:=Pw) (LamOk1.of (ps:=["_law_one"]) nLw s_law rfl rfl (by decide +kernel)) rfl F.hd hBm Zh (fun _ _ _ _ _ _ _ _ _ hrL W=>(Us W DX_look_or TH.cl hrL (pv 5) (Zc (pv 13) (Zc (pv 15) Za))))) Za)))
  case h40=>exact Yg (i:=14) scLw.nd rfl (QD rfl)
  case h41=>exact ZK XB (Zu (Yv B.gd B.units) rfl T.repr (by decide +kernel) (Zc (ZjR DTo B (fun _=>rfl) (Zc (pv 14) Za)) Za)) (Zu (Yv B.gd B.units) rfl T.repr (by decide +kernel) (Zc (YE (Zc ZR (Zc ZR (Zc (pv 13) Za)))) Za)) (ZL _)
  case h42=>exact Zq YY
  case h43=>exact fun _=>rfl
  case h44=>exact PW.pt (ZbK (ZK XB (ZU DH_place TH.cl B (pv 5) (Zc Zh Za)) (Zw Xm (We DR_places TR.cl B (We DH_roads TH.cl B (pv 5))) Zh) (ZL _)) (VO (ZK XB (We DH_worlds TH.cl B (pv 5)) Zh (ZL _))))
  case h45=>exact Zq YY
  case h46=>exact VN (UK (ZJ DLr B (Zc (pv 5) (Zc (pv 6) (Zc (pv 7) (Zc WG Za))))))
  case h47=>exact Zq YY
  case h48=>exact fun _=>rfl
  case h49=>exact Zq YY
 try dsimp only [ZN,Cx.nox]
 refine US ?_
 intro zD zS zN1
 refine ⟨_,rfl,a,_,rfl,.inl hS,_,_,rfl,_,_,rfl,rfl,?_⟩
 rw [length_map]
 generalize hm:(1:Int)+(if ((ns.length:Nat):Int) < 2 then ((ns.length:Nat):Int) else 2)=m
 have hm9:0<=m/\m<=9:=by rw [<- hm];split<;>omega
 refine ⟨m,(by first | rfl | exact congrArg (fun z=>[V.int z]) hm),by omega,by omega,?_⟩
 refine Uq (fun i σ H'=>∃ x1 x2 x3 x4 x5 x6 x7 x8 x9 x10 x11 x12 x13 x14,σ=[some (.ref a),x1,x2,x3,x4,x5,x6,x7,x8,x9,x10,x11,x12,x13,x14]/\Sep [(Pl,Xf),(Pq,WK qR),(Pw,WK qW),(a,ScR K ns)] H') ⟨_,_,_,_,_,_,_,_,_,_,_,_,_,_,rfl,S⟩ ?_ (fun σ H' _=>q H')
 rintro i0 σ H0 hi0' ⟨x1,x2,x3,x4,x5,x6,x7,x8,x9,x10,x11,x12,x13,x14,rfl,S0⟩
 refine zs10 ?_
 intro zD zS zN9 zN8 zN7 zN6 zN5 zN4 zN3 zN2 zN1
 refine ⟨_,rfl,_,rfl,a,ns,_,_,rfl,S0.get a,S0,by omega,by omega,fun p H1 s1 S1=>?_⟩
 refine ⟨_,rfl,p,_,61,_,rfl,S1,by omega,by omega,by omega,fun Z H3 xs S3 hxl hxn hxd=>?_⟩
 have hxl:xs.length=61:=by omega
 have N:Yr xs:=Zor (by omega) hxn
 clear S1 S0 S
 refine ⟨fun σ' H'=>∃ (m n':Nat),σ'=[some (.ref a),some (.int (0+(i0:Int))),some (.ref p),some (.ref Z),some (.int (m:Int)),x5,x6,x7,x8,x9,x10,x11,x12,x13,x14]/\1<=m/\m<=60/\n'<=200/\Sep [(p,Bx n'),(Z,ZX (xs.map V.str)),(Pl,Xf),(Pq,WK qR),(Pw,WK qW),(a,ScR K ns)] H',?_,?_⟩
 ·refine ⟨_,rfl,p,_,3,_,rfl,S3.pull p,by omega,by decide,by decide,fun r2 H4 b0 b1 S4=>⟨rfl,_,rfl,Wc (fun c=>?_) (fun c=>?_)⟩⟩
  ·exact ⟨60,_,rfl,by decide,by decide,by omega,(S4.pull Z).pull p⟩
  ·refine ⟨_,rfl,p,_,6,_,rfl,S4,by omega,by decide,by decide,fun r3 H5 d0 d1 S5=>⟨_,_,rfl,rfl,(1+r3).toNat,_,?_,by omega,by omega,by omega,(S5.pull Z).pull p⟩⟩
   rw [show (((1+r3).toNat:Nat):Int)=1+r3 by omega];rfl
 rintro σ H4 ⟨m,n0,rfl,hm1,hm6,hn0,S4⟩
 intro h dx hh hdx hne
 refine ⟨h,dx,_,_,rfl,rfl,hh,hdx,hne,S4,fun H5 S5=>⟨rfl,fun dd hdd U hdv=>⟨(by show 3<=Qj;decide),fun t0 ht0=>?_⟩⟩⟩
 generalize hE:upd (upd (upd H5 dd _) U _) t0 _=H6
 have S6':=((S5.new hdd _).new hdv _).newE ht0 hE
 clear hE
 refine ⟨t0,_,rfl,SqT.of (S6'.get t0),rfl,_,_,rfl,_,_,rfl,_,_,rfl,rfl,?_⟩
 have S6:Sep (WM K CH CR CS CT Pl Pq Pw p h dd U Z a ns xs [] [] (hsQ []) n0) H6:=((((((((S6'.drop t0).pull Z).pull U).pull dd).pull Pw).pull Pq).pull Pl).pull h).pull p
 clear S6' S5 S4
 have hxq1:∀ {j:Nat} {x:Str},xs[j]?=some x->j < m->(xs.take m)[j]?=some x:=fun h1 h2=>by rw [List.getElem?_take,if_pos h2];exact h1
 refine ⟨_,rfl,?_⟩
 delta ZfM
 refine ⟨_,rfl,_,rfl,Z,_,rfl,SqL.of (S6.get Z),fun l2 hl2=>?_⟩
 rw [Zji,<- List.map_take]
 generalize hE:upd H6 l2 _=H7
 have S7:=S6.newE hl2 hE
 clear hE S6
 have hlt:(xs.take m).length=m:=by rw [length_take];omega
 have htx:∀ x∈xs.take m,x∈xs:=fun x hx=>List.take_subset _ _ hx
 have htd:(xs.take m).Nodup:=hxd.sublist (Tt _ _)
 refine ⟨l2,rfl,⟨_,SqL.of (S7.get l2)⟩,?_⟩
 refine ZdS (K:=K) (xs:=(xs.take m).map V.str) (fun i σ H'=>∃ y8 qs n,σ=[some (.ref a),some (.int (0+(i0:Int))),some (.ref p),some (.ref Z),some (.int (m:Int)),some (.ref h),some (.ref dd),some (.ref U),y8,x9,x10,x11,x12,x13,x14]/\i<=m/\qs.map (·.1)=(xs.take m).take i/\(∀ q∈qs,Wa q.2)/\n<=200+60 * i/\Sep ((l2,ZX ((xs.take m).map V.str))::WM K CH CR CS CT Pl Pq Pw p h dd U Z a ns xs qs [] (hsQ qs) n) H') ⟨_,[],n0,rfl,QC _,rfl,(fun _ z=>nomatch z),by omega,S7⟩ ?_ ?_ ?_
 ·rintro i σ H' _ ⟨_,_,_,rfl,_,_,_,_,S'⟩;exact SqL.of (S'.get l2)
 ·clear S7
  rintro i v0 σ H6 hv0 ⟨y8,qs,n,rfl,hil,hqn,hqv,hn,S6⟩
  rw [getElem?_map] at hv0
  obtain ⟨x,hx,rfl⟩:=Gc.mp hv0
  have hi:=(Qk.mp hx).1
  have hql:qs.length=i:=by have:=congrArg JI hqn;rw [length_map,length_take] at this;omega
  have hxk:x ∉ (xs.take m).take i:=fun z=>by
   obtain ⟨j,hj,e⟩:=Tp.mp z
   obtain ⟨h1,h2⟩:=Qk.mp hx
   exact (Jy.mp htd) j i (by omega) h1 (by omega) (e.trans h2.symm)
  have hxq:x ∉ qs.map (·.1):=by rw [hqn];exact hxk
  refine ⟨fun σ' H'=>∃ v n',σ'=[some (.ref a),some (.int (0+(i0:Int))),some (.ref p),some (.ref Z),some (.int (m:Int)),some (.ref h),some (.ref dd),some (.ref U),some (.str x),x9,x10,x11,x12,x13,x14]/\Wa v/\n'<=n+60/\Sep ((l2,ZX ((xs.take m).map V.str))::WM K CH CR CS CT Pl Pq Pw p h dd U Z a ns xs (qs++[(x,v)]) [] (hsQ qs) n') H',?_,?_⟩
  ·have fin:∀ {H7:Hp} {n':Nat} {v:V},Sep ((l2,ZX ((xs.take m).map V.str))::WM K CH CR CS CT Pl Pq Pw p h dd U Z a ns xs qs [] (hsQ qs) n') H7->H7 dd=some (.dK (Yw qs))/\(Yw qs).length < Qj/\Sep ((l2,ZX ((xs.take m).map V.str))::WM K CH CR CS CT Pl Pq Pw p h dd U Z a ns xs (qs++[(x,v)]) [] (hsQ qs) n') (upd H7 dd (.dK (Ye (Yw qs) (Qs x) v))):=fun {H7 n' v} S7=>by
    refine ⟨S7.get dd,Xa (show _<=1000 by unfold Yw;rw [length_map];omega),?_⟩
    have S8:=S7.put dd (.dK (Ye (Yw qs) (Qs x) v))
    rw [Zfb hxq] at S8 ⊢
    exact (((((S8.pull Pw).pull Pq).pull Pl).pull h).pull p).pull l2
   refine ⟨_,rfl,p,_,2,_,rfl,S6.pull p,by omega,by decide,by decide,fun r2 H7 b0 b1 S7=>⟨rfl,_,rfl,Wc (fun c=>?_) (fun c=>?_)⟩⟩
   ·obtain ⟨f1,f2,f3⟩:=fin (v:=.non) ((S7.pull p).pull l2)
    exact ⟨_,rfl,_,rfl,dd,_,rfl,.inl ⟨_,Qs x,f1,rfl,f2,rfl⟩,.non,_,rfl,.inl rfl,by omega,f3⟩
   ·refine ⟨_,rfl,p,_,_,rfl,S7,by omega,fun v H8 hv S8=>?_⟩
    obtain ⟨f1,f2,f3⟩:=fin (v:=v) ((S8.pull p).pull l2)
    exact ⟨_,rfl,_,rfl,dd,_,rfl,.inl ⟨_,Qs x,f1,rfl,f2,rfl⟩,v,_,rfl,.inr hv,by omega,f3⟩
  clear S6
  rintro σ H6 ⟨v,n',rfl,hv,hn',S6⟩
  obtain ⟨d0,r0,sp0,i0',t0',Sh⟩:=S6.get h
  obtain ⟨dx0,ob0⟩:=Sh.get h
  have hnd:((qs++[(x,v)]).map (·.1)).Nodup:=by
   rw [map_append,hqn,Tx]
   exact ⟨htd.sublist (Tt _ _),by simp,fun z hz u hu=>by rw [mem_singleton.mp hu];intro e;have e:z=x:=e;rw [e] at hz;exact hxk hz⟩
  have hg:DGet H6 dd (.str x) (some v):=by have z:=DGet.k (k:=Qs x) (S6.get dd);rw [Va (x:=x) (v:=v) hnd (by simp)] at z;exact z
  refine ⟨_,rfl,h,dx0,_,rfl,ob0,Yd (by decide +kernel),_,rfl,_,rfl,_,rfl,dd,_,rfl,hg,h,hsQ qs,qs,x,v,_,rfl,S6.pull h,rfl,by omega,hxq,fun H7 S7=>?_⟩
  refine ⟨_,qs++[(x,v)],n',rfl,by omega,?_,fun z hz=>?_,by omega,?_⟩
  ·rw [map_append,hqn,JU,hx];rfl
  ·rcases mem_append.mp hz with hz | hz
   ·exact hqv z hz
   ·rw [mem_singleton.mp hz];exact hv
  ·exact (((((S7.pull Pw).pull Pq).pull Pl).pull h).pull p).pull l2
 rintro σ H6 ⟨y8,qs,n,rfl,_,hqn,hqv,hn,S6⟩
 rw [length_map,hlt] at hqn hn
 rw [GA (Je hlt)] at hqn
 have S6:=S6.drop l2
 clear S7
 have hqd:(qs.map (·.1)).Nodup:=by rw [hqn];exact htd
 have W0:KI xs qs [] (hsQ qs) 0 (fun _=>none):=⟨⟨N,ZoC,fun p hp=>by rw [mem_singleton.mp hp];exact QC _⟩,rfl,rfl,rfl,rfl,rfl,rfl,Qg _,Qg _,rfl,fun q hq=>⟨htx _ (by rw [<- hqn];exact PM hq),hqv q hq⟩,hqd,by have:=congrArg JI hqn;rw [length_map] at this;omega,hxn,fun _=>rfl,Qg _⟩
 refine ⟨fun J H'=>∃ (m n':Nat),J=Itr 0 m/\m<=150/\n'<=4000/\Sep (WM K CH CR CS CT Pl Pq Pw p h dd U Z a ns xs qs [] (hsQ qs) n') H',?_,?_⟩
 ·refine ⟨_,rfl,p,_,3,_,rfl,S6,by omega,by decide,by decide,fun r2 H7 b0 b1 S7=>⟨rfl,_,rfl,Wc (fun c=>?_) (fun c=>?_)⟩⟩
  ·exact ⟨150,rfl,by decide,by decide,150,_,rfl,by decide,by omega,S7⟩
  ·exact ⟨_,rfl,p,_,30,_,rfl,S7,by omega,by decide,by decide,fun r3 H8 d0 d1 S8=>⟨_,_,rfl,rfl,1+r3,rfl,by omega,by omega,(1+r3).toNat,_,rfl,by omega,by omega,S8⟩⟩
 clear S6
 rintro J H6 ⟨m2,n1,rfl,hm2,hn1,S6⟩
 refine Uq (fun i σ H'=>∃ y8 y9 y10 y11 y12 ws s G n,σ=[some (.ref a),some (.int (0+(i0:Int))),some (.ref p),some (.ref Z),some (.int (m:Int)),some (.ref h),some (.ref dd),some (.ref U),y8,y9,y10,y11,y12,x13,x14]/\KI xs qs ws s i G/\n<=4000+200 * i/\Sep (WM K CH CR CS CT Pl Pq Pw p h dd U Z a ns xs qs ws s n) H') ⟨_,_,_,_,_,[],hsQ qs,_,n1,rfl,W0,by omega,S6⟩ ?_ ?_
 ·clear S6 W0
  rintro i σ H7 hi ⟨y8,y9,y10,y11,y12,ws,s,G,n,rfl,W,hn,S7⟩
  refine zs9 ?_
  intro zD zS zN8 zN7 zN6 zN5 zN4 zN3 zN2 zN1
  have edv:∀ {H':Hp} {n':Nat} {s':Hs},Sep (WM K CH CR CS CT Pl Pq Pw p h dd U Z a ns xs qs ws s' n') H'->H' U=some (.dK ws):=fun S=>S.get U
  have hgv:∀ {H':Hp} (y:Str),H' U=some (.dK ws)->DGet H' U (.str y) (G y):=fun y e=>by have z:=DGet.k (k:=Qs y) e;rw [W.wv] at z;exact z
  refine ⟨_,rfl,_,rfl,_,rfl,p,_,_,_,rfl,S7,by omega,by omega,by omega,fun r2 H8 c0 c1 S8=>?_⟩
  obtain ⟨kk,rfl⟩:∃ z:Nat,r2=(z:Int):=⟨r2.toNat,by omega⟩
  have hkk:kk < m:=by omega
  obtain ⟨x,hx⟩:∃ x,xs[kk]?=some x:=⟨_,getElem?_eq_getElem (by omega)⟩
  refine ⟨Z,_,_,_,rfl,rfl,SqL.of (S8.get Z),ZI (show (xs.map V.str)[kk]?=some (.str x) by rw [getElem?_map,hx];rfl),?_⟩
  have hxm:=mem_of_getElem? hx
  obtain ⟨d,hq⟩:∃ d,(x,d)∈qs:=by
   obtain ⟨⟨x',d⟩,hq,e⟩:=mem_map.mp (show x∈qs.map (·.1) by rw [hqn];exact mem_of_getElem? (hxq1 hx hkk))
   cases e;exact ⟨d,hq⟩
  have hd:Zz (Yw qs) (Qs x)=some d:=Va hqd hq
  have hdn:Wa d:=hqv _ hq
  have hGv:=W.gv
  have h0v:IsVal (.int 0):=Uc (by decide)
  refine ⟨_,rfl,p,_,_,rfl,S8,by omega,fun v0 H9 hv0 S9=>?_⟩
  clear S7 S8
  refine ⟨fun σ' H'=>∃ v y11 n',σ'=[some (.ref a),some (.int (0+(i0:Int))),some (.ref p),some (.ref Z),some (.int (m:Int)),some (.ref h),some (.ref dd),some (.ref U),some (.str x),some (.int (0+(i:Int))),some v,y11,y12,x13,x14]/\IsVal v/\n'<=n+70/\Sep (WM K CH CR CS CT Pl Pq Pw p h dd U Z a ns xs qs ws s n') H',?_,?_⟩
  ·refine ⟨_,rfl,p,_,3,_,rfl,S9,by omega,by decide,by decide,fun r3 H10 d0 d1 S10=>⟨rfl,_,rfl,Wc (fun c=>?_) (fun c=>⟨v0,_,_,rfl,hv0,by omega,S10⟩)⟩⟩
   clear S9
   have hgd:DGet H10 dd (.str x) (some d):=by have z:=DGet.k (k:=Qs x) (S10.get dd);rw [hd] at z;exact z
   have hst:IsVal ((G x).getD (.int 0)):=by
    cases e:G x with
    | none=>exact h0v
    | some u=>exact hGv x u e
   refine ⟨_,rfl,U,rfl,.inl ⟨_,.inl (edv S10)⟩,_,rfl,_,hgv x (edv S10),_,rfl,_,rfl,dd,d,rfl,hgd,_,rfl,U,rfl,.inl ⟨_,.inl (edv S10)⟩,_,rfl,_,hgv x (edv S10),_,rfl,hst,fun z hz=>⟨(by show 3<=Qj;decide),fun hl hhl=>?_⟩⟩
   have hne:∀ v∈[(G x).getD V.non,d,V.str z],v≠.non->IsVal v:=fun v hv nn=>by
    rcases mem_cons.mp hv with rfl | hv
    ·cases e:G x with
     | none=>rw [e] at nn;exact absurd rfl nn
     | some u=>exact hGv x u e
    rcases mem_cons.mp hv with rfl | hv
    ·exact hdn.resolve_left nn
    ·rw [mem_singleton.mp hv];exact hz
   generalize hE:upd H10 hl _=H11
   have S11:=S10.newE hhl hE
   clear hE
   refine ⟨_,rfl,hl,rfl,⟨_,SqL.of (S11.get hl)⟩,fun D hD=>?_⟩
   refine ZeJ (xs:=[(G x).getD V.non,d,V.str z]) (by show 3<=Qj;decide) S11 hD (fun i ys Δ'=>Δ'=(hl,ZX [(G x).getD V.non,d,V.str z])::WM K CH CR CS CT Pl Pq Pw p h dd U Z a ns xs qs ws s (n+1+50+1)/\∀ v∈ys,IsVal v) ⟨rfl,fun _ z=>nomatch z⟩ ?_ ?_ ?_
   ·rintro i ys Δ H ⟨rfl,_⟩ S;exact SqL.of (S.get hl)
   ·rintro i v ys Δ H hv hl' ⟨rfl,hys⟩ S
    refine ⟨_,rfl,_,rfl,Wc (fun c=>?_) (fun c=>⟨_,⟨rfl,hys⟩,S⟩)⟩
    refine ⟨_,rfl,_,⟨rfl,fun u hu=>?_⟩,S⟩
    rcases mem_append.mp hu with hu | hu
    ·exact hys u hu
    ·rw [mem_singleton.mp hu]
     exact hne v (mem_of_getElem? hv) (fun z=>by rw [z] at c;exact absurd c (by decide))
   ·rintro ys Δ H12 ⟨rfl,hys⟩ hyl S12
    refine ⟨_,rfl,p,_,2,_,rfl,S12.pull p,by omega,by decide,by decide,fun r4 H13 e0 e1 S13=>⟨r4,rfl,?_⟩⟩
    refine ⟨D,ys,rfl,SqL.of (S13.get D),fun D2 hD2=>?_⟩
    generalize hE:upd H13 D2 _=H14
    have S14:=S13.newE hD2 hE
    clear hE
    refine ⟨(by show 1<=Qj;decide),fun l0 hl0=>?_⟩
    generalize hE:upd H14 l0 _=H15
    have S15:=S14.newE hl0 hE
    clear hE
    have hcl:=Zaz ys (some r4) none
    refine ⟨D2,l0,_,_,rfl,rfl,S15.get D2,S15.get l0,Wj (show _<=1000 by show _+1<=1000;have:ys.length<=3:=hyl;omega),fun D3 hD3=>?_⟩
    generalize hE:upd H15 D3 _=H16
    have S16:=S15.newE hD3 hE
    clear hE
    obtain ⟨v,e,hv⟩:∃ v,(UZ ys (some r4) none++[V.int 0])[0]?=some v/\IsVal v:=by
     cases e:UZ ys (some r4) none with
     | nil=>exact ⟨_,rfl,h0v⟩
     | cons u us=>exact ⟨u,rfl,hys u (Rh (Ri (show u∈UZ ys (some r4) none by rw [e];exact mem_cons_self ..)))⟩
    refine ⟨D3,_,_,v,rfl,rfl,SqL.of (S16.get D3),ZI (j:=0) e,?_⟩
    exact ⟨v,_,_,rfl,hv,by omega,((((S16.drop D3).drop l0).drop D2).drop D).drop hl⟩
  clear S9 hv0
  rintro σ H10 ⟨v,y11',n2,rfl,hv,hn2,S10⟩
  obtain ⟨d0,r0,sp0,i0',t0',Sh⟩:=S10.get h
  obtain ⟨dx0,ob0⟩:=Sh.get h
  refine ⟨_,rfl,h,dx0,_,rfl,ob0,Yd (by decide +kernel),_,rfl,_,rfl,xs,h,s,0,i,x,v,G,_,rfl,(S10.pull Pl).pull h,W.I,W.hb (by omega),by rw [W.ins];rfl,by rw [W.sp];rfl,W.env,hxm,hv,(by rw [W.df,hd];rfl),fun H11 t' c' nds tabs S11 I11 l1 l2=>?_⟩
  have W':=W.st I11 l1 l2
  have hfl:=W.fl
  have nk:=ZmR (n:=s.fds.length) (by omega)
  have e0:(0+(i:Int))=(s.fds.length:Int):=by omega
  obtain ⟨u1,u2,u3,u4⟩:=Zco (H:=H11) nk
  refine ⟨_,_,rfl,u1,u2,u3,u4,_,rfl,.inl ⟨_,rfl,by rw [e0];exact ZhT (by omega),rfl,_,rfl,?_⟩⟩
  rw [show (!decide (V.str (WC (nI s.fds.length)).shown=V.str (Qw (JO (0+(i:Int))))))=false by rw [e0];exact Xc _]
  refine ZQ ?_
  obtain ⟨s',hs'⟩:∃ s':Hs,s'={ hGo s 0 i (.set x v) t' c' nds tabs with fds:=s.fds++[⟨0,x,(G x).getD .non⟩],us:=s.us++[true] }:=⟨_,rfl⟩
  have hp7:s'.pls=s.pls++[⟨i,.set x v,t',c'⟩]:=by rw [hs'];rfl
  have W7:KI xs qs (Ye ws (Qs x) v) s' (i+1) ((Stp.set x v).ap G):=by rw [hs'];exact W'
  have S12:Sep (WM K CH CR CS CT Pl Pq Pw p h dd U Z a ns xs qs ws s' n2) H11:=by rw [hs'];exact (S11.pull h).pull p
  clear W' S11 I11 hs'
  have S13':=S12.put U (.dK (Ye ws (Qs x) v))
  refine ⟨_,rfl,_,rfl,_,rfl,U,_,rfl,.inl ⟨_,Qs x,S12.get U,rfl,Xa (show _<=1000 by have:=W.wl;omega),rfl⟩,?_⟩
  generalize upd H11 U _=H12 at S13' ⊢
  have S13:Sep (WM K CH CR CS CT Pl Pq Pw p h dd U Z a ns xs qs (Ye ws (Qs x) v) s' n2) H12:=(((((S13'.pull dd).pull Pw).pull Pq).pull Pl).pull h).pull p
  clear S13' S12
  obtain ⟨d0,r0,sp0,i0',t0',Sh⟩:=S13.get h
  obtain ⟨dx,ob⟩:=Sh.get h
  refine ⟨_,rfl,h,dx,_,rfl,ob,Yd (by decide +kernel),h,s',0,i+1,rfl,S13.get h,by rw [W7.sp];rfl,?_⟩
  refine ⟨_,rfl,_,rfl,_,_,rfl,rfl,rfl,_,rfl,?_⟩
  rw [show (!decide (V.int ((i+1:Nat):Int)=V.int (0+(i:Int)+1)))=false by rw [show (0+(i:Int)+1)=((i+1:Nat):Int) by omega];exact Xc _]
  refine ZQ ?_
  have hk9:i+1<=s'.pls.length:=by rw [W7.pl];exact Qg _
  have hsn:∀ u∈[V.str "set",V.str x,v],Wa u:=fun u hu=>by
   rcases mem_cons.mp hu with rfl | hu
   ·exact UF (by decide +kernel)
   rcases mem_cons.mp hu with rfl | hu
   ·exact Zcn (W.nm x hxm)
   ·rw [mem_singleton.mp hu];exact .inr hv
  refine ⟨_,rfl,h,dx,_,rfl,ob,Yd (by decide +kernel),h,s',rfl,S13.get h,fun r1 R1=>?_⟩
  obtain ⟨st,la,ls,lt,lc,SR⟩:=id R1
  obtain ⟨dxr,obr⟩:=SR.get r1
  refine ⟨r1,dxr,_,rfl,obr,Wi (by decide +kernel),_,rfl,r1,s'.pls,s'.nds,s'.tabs,i+1,rfl,R1,hk9,fun v1 hv1=>?_⟩
  obtain ⟨a1,st1,rfl,hst,ea⟩:=hv1
  have hst:(s'.pls.map (·.st))[i]?=some st1:=hst
  rw [hp7,map_append,getElem?_append_right (by rw [length_map,W.pl];exact Qg _),length_map,W.pl,GB] at hst
  cases hst
  have ea:H12 a1=some (.tup [V.str "set",V.str x,v]):=ea
  obtain ⟨u1,u2,u3,u4⟩:=Xe ea hsn (by show 3<=1000;decide)
  refine ⟨_,_,rfl,u1,u2,u3,u4,_,rfl,_,rfl,(by show 3<=Qj;decide),fun t2 ht2=>?_⟩
  obtain ⟨v1,v2,v3,v4⟩:=Xe (H:=upd H12 t2 (.tup [V.str "set",V.str x,v])) Zf hsn (by show 3<=1000;decide)
  have w2:=Zm ht2 (.tup [V.str "set",V.str x,v])
  have S14:=S13.mono w2
  have ob:=w2 _ _ ob
  refine ⟨_,_,rfl,v1,v2,v3,v4,rfl,_,rfl,?_⟩
  rw [Xc]
  refine ZQ ?_
  clear u1 u2 u3 u4 v1 v2 v3 v4 S13 S10 w2 ea R1 SR obr
  generalize upd H12 t2 (.tup [V.str "set",V.str x,v])=H13 at S14 ob ⊢
  refine ⟨_,rfl,h,dx,_,rfl,ob,Yd (by decide +kernel),h,s',rfl,S14.get h,fun r2 R2=>?_⟩
  obtain ⟨st,la,ls,lt,lc,SR2⟩:=id R2
  obtain ⟨dxr2,obr2⟩:=SR2.get r2
  have ha:ahV s'.pls (i+1)=.int (i:Int):=by
   show V.int (((s'.pls.getD i _).ah:Nat):Int)=_
   rw [hp7,getD_eq_getElem?_getD,getElem?_append_right (by rw [W.pl];exact Qg _),W.pl,GB];rfl
  refine ⟨r2,dxr2,_,rfl,obr2,Wi (by decide +kernel),_,rfl,r2,s'.pls,s'.nds,s'.tabs,i+1,rfl,R2,hk9,_,rfl,rfl,_,rfl,?_⟩
  rw [ha,show (!decide (V.int (i:Int)=V.int (0+(i:Int))))=false by rw [show (0+(i:Int))=(i:Int) by omega];exact Xc _]
  refine ZQ ?_
  have hgx:(Stp.set x v).ap G x=some v:=if_pos rfl
  refine ⟨_,rfl,h,dx,_,rfl,ob,Yd (by decide +kernel),_,rfl,xs,h,s',0,i+1,x,_,d,rfl,S14.get h,W7.I,by rw [W7.ins];rfl,by rw [W7.sp];rfl,W7.env,hxm,by rw [W7.df];exact hd,(fun hz=>?_),fun H14 s14=>?_⟩
  ·rw [hgx] at hz
   have hz:v=.non:=hz
   rw [hz] at hv;exact hv.elim
  rw [hgx]
  obtain ⟨u1,u2,u3,u4⟩:=Zco (H:=H14) (v:=v) (.inr hv)
  refine ⟨_,_,rfl,u1,u2,u3,u4,_,rfl,_,_,rfl,u1,u2,u3,u4,rfl,_,rfl,?_⟩
  rw [Xc]
  refine ZQ ?_
  have S15:=S14.mono s14
  clear S14 s14
  refine ⟨fun b H'=>b=false/\∃ n3,n3<=n+150/\Sep (WM K CH CR CS CT Pl Pq Pw p h dd U Z a ns xs qs (Ye ws (Qs x) v) s' n3) H',?_,?_⟩
  ·refine ⟨_,rfl,_,_,rfl,rfl,(by show (0:Int) < 29;decide),rfl,_,rfl,Wc (fun c=>?_) (fun c=>⟨rfl,n2,by omega,S15⟩)⟩
   refine ⟨_,rfl,_,rfl,_,rfl,_,rfl,p,_,_,rfl,S15,by omega,fun v5 H16 hv5 S16=>⟨h,dd,U,xs,qs,_,s',i+1,_,v5,_,rfl,(((S16.pull U).pull h).pull Pq).pull dd,W7,.inr hv5,fun H17 S17=>⟨true,rfl,rfl,n2+50,by omega,?_⟩⟩⟩
   exact (((((S17.pull dd).pull Pw).pull Pq).pull Pl).pull h).pull p
  rintro b H16 ⟨rfl,n3,hn3,S16⟩
  exact ZQ ⟨_,_,_,_,_,_,s',_,n3,rfl,W7,by omega,S16⟩
 clear S6 W0
 rintro σ H7 ⟨y8,y9,y10,y11,y12,ws,s,G,n,rfl,W,hn,S7⟩
 obtain ⟨z,hz⟩:∃ z,xs[60]?=some z:=⟨_,getElem?_eq_getElem (by omega)⟩
 have hzm:=mem_of_getElem? hz
 have hzd:Zz s.dfs (Qs z)=none:=by
  rw [W.df]
  refine ZdR ?_
  rw [hqn]
  intro hm
  obtain ⟨j,hj,e⟩:=Tp.mp hm
  obtain ⟨h1,h2⟩:=Qk.mp hz
  exact (Jy.mp hxd) j 60 (by omega) h1 (by omega) (e.trans h2.symm)
 refine ⟨_,rfl,Z,_,_,_,rfl,rfl,SqL.of (S7.get Z),ZI (j:=60) (show (xs.map V.str)[60]?=some (.str z) by rw [getElem?_map,hz];rfl),?_⟩
 refine ⟨S7.get Pw,fun q1 H8 fs1 cc1 g1 L1 e1 f1 k1=>?_⟩
 refine ⟨L1,fun q2 H9 fs2 cc2 g2 L2' e2 f2 k2=>?_⟩
 have S9:=((S7.pull Pw).grow g1 L1).grow g2 L2'
 have f1:=f1.grow L1 g2
 have e1:=Zkc e1 L1 g2
 refine ⟨(by show 2<=Qj;decide),fun la hla=>?_⟩
 generalize hE:upd H9 la _=H10
 have w1:Same H9 H10:=by rw [<- hE];exact Zm hla _
 have S10':=S9.newE hla hE
 have f1:=f1.same w1
 have f2:=f2.same w1
 have e1:=w1 _ _ e1
 have e2:=w1 _ _ e2
 clear hE w1 S9 L1 L2' g1 g2
 have S10:Sep ((la,ZX [V.ref q1,V.ref q2])::WM K CH CR CS CT Pl Pq Pw p h dd U Z a ns xs qs ws s n) H10:=((((S10'.pull Pw).pull Pq).pull Pl).pull h).pull p |>.pull la
 clear S10' S7
 have hVS:∀ u∈[V.str "refused",V.str "setting",V.str z],Wa u:=fun u hu=>by
  rcases mem_cons.mp hu with rfl | hu
  ·exact UF (by decide +kernel)
  rcases mem_cons.mp hu with rfl | hu
  ·exact UF (by decide +kernel)
  ·rw [mem_singleton.mp hu];exact Zcn (hxn z hzm)
 refine ⟨la,rfl,⟨_,SqL.of (S10.get la)⟩,?_⟩
 refine ZdS (K:=K) (xs:=[V.ref q1,V.ref q2]) (fun i σ H'=>∃ y14,σ=[some (.ref a),some (.int (0+(i0:Int))),some (.ref p),some (.ref Z),some (.int (m:Int)),some (.ref h),some (.ref dd),some (.ref U),y8,y9,y10,y11,y12,some (.str z),y14]/\Has fs1 H'/\Has fs2 H'/\H' cc1=some (.ext (YK cc1 qW))/\H' cc2=some (.ext (YK cc2 qW))/\Sep ((la,ZX [V.ref q1,V.ref q2])::WM K CH CR CS CT Pl Pq Pw p h dd U Z a ns xs qs ws s n) H') ⟨_,rfl,f1,f2,e1,e2,S10⟩ ?_ ?_ ?_
 ·rintro i σ H' _ ⟨_,rfl,_,_,_,_,S'⟩;exact SqL.of (S'.get la)
 ·clear f1 f2 e1 e2 S10
  rintro i v0 σ H11 hv0 ⟨y14,rfl,f1,f2,e1,e2,S11⟩
  have fin:∀ (y:V) {H2:Hp},Same H11 H2->∃ y14,[some (.ref a),some (.int (0+(i0:Int))),some (.ref p),some (.ref Z),some (.int (m:Int)),some (.ref h),some (.ref dd),some (.ref U),y8,y9,y10,y11,y12,some (.str z),some y]=[some (.ref a),some (.int (0+(i0:Int))),some (.ref p),some (.ref Z),some (.int (m:Int)),some (.ref h),some (.ref dd),some (.ref U),y8,y9,y10,y11,y12,some (.str z),y14]/\Has fs1 H2/\Has fs2 H2/\H2 cc1=some (.ext (YK cc1 qW))/\H2 cc2=some (.ext (YK cc2 qW))/\Sep ((la,ZX [V.ref q1,V.ref q2])::WM K CH CR CS CT Pl Pq Pw p h dd U Z a ns xs qs ws s n) H2 :=
   fun y {H2} s2=>⟨_,rfl,f1.same s2,f2.same s2,s2 _ _ e1,s2 _ _ e2,S11.mono s2⟩
  have h1v:IsVal (.int 1):=Uc (by decide)
  have hor:(i=0/\v0=.ref q1)\/(i=1/\v0=.ref q2):=by
   match i,hv0 with
   | 0,e=>cases e;exact .inl ⟨rfl,rfl⟩
   | 1,e=>cases e;exact .inr ⟨rfl,rfl⟩
   | _+2,e=>cases e
  rcases hor with ⟨rfl,rfl⟩ | ⟨rfl,rfl⟩
  ·refine ⟨_,rfl,ZaF [V.str "refused",V.str "setting",V.str z] k1 f1 e1 (fun H1 Qc Ec s1 hq he=>?_) (fun t H2 s2 et=>?_)⟩
   ·have Sx:=S11.mono s1
    obtain ⟨d0,r0,sp0,i0',t0',Sh⟩:=Sx.get h
    obtain ⟨dx,ob⟩:=Sh.get h
    exact ⟨_,rfl,h,dx,_,rfl,ob,Yd (by decide +kernel),_,rfl,xs,h,s,0,m2,z,.int 1,G,_,rfl,(Sx.pull Pl).pull h,W.I,W.hb (by omega),by rw [W.ins];rfl,by rw [W.sp];rfl,W.env,hzm,h1v,(fun _ dx' H2 s3 ed=>he CN dx' "setting" _ H2 s3 rN ed rfl),(fun hd=>by rw [hzd] at hd;cases hd)⟩
   delta XS
   obtain ⟨u1,u2,u3,u4⟩:=Xe et hVS (by show 3<=1000;decide)
   refine ⟨_,_,rfl,u1,u2,u3,u4,_,rfl,(by show 3<=Qj;decide),fun t3 ht3=>?_⟩
   obtain ⟨v1,v2,v3,v4⟩:=Xe (H:=upd H2 t3 (.tup [V.str "refused",V.str "setting",V.str z])) Zf hVS (by show 3<=1000;decide)
   refine ⟨_,_,rfl,v1,v2,v3,v4,rfl,_,rfl,?_⟩
   rw [Xc]
   exact ZQ (fin _ (s2.trans (Zm ht3 _)))
  ·refine ⟨_,rfl,ZaF [V.str "refused",V.str "setting",V.str z] k2 f2 e2 (fun H1 Qc Ec s1 hq he=>?_) (fun t H2 s2 et=>?_)⟩
   ·have Sx:=S11.mono s1
    obtain ⟨d0,r0,sp0,i0',t0',Sh⟩:=Sx.get h
    obtain ⟨dx,ob⟩:=Sh.get h
    exact ⟨_,rfl,h,dx,_,rfl,ob,Yd (by decide +kernel),_,rfl,_,rfl,xs,h,s,0,m2,z,.int 1,G,rfl,Sx.get h,W.I,by rw [W.ins];rfl,by rw [W.sp];rfl,W.env,hzm,(fun _ dx' H2 s3 ed=>he CN dx' "setting" _ H2 s3 rN ed rfl),(fun hd=>by rw [hzd] at hd;cases hd)⟩
   delta XS
   obtain ⟨u1,u2,u3,u4⟩:=Xe et hVS (by show 3<=1000;decide)
   refine ⟨_,_,rfl,u1,u2,u3,u4,_,rfl,(by show 3<=Qj;decide),fun t3 ht3=>?_⟩
   obtain ⟨v1,v2,v3,v4⟩:=Xe (H:=upd H2 t3 (.tup [V.str "refused",V.str "setting",V.str z])) Zf hVS (by show 3<=1000;decide)
   refine ⟨_,_,rfl,v1,v2,v3,v4,rfl,_,rfl,?_⟩
   rw [Xc]
   exact ZQ (fin _ (s2.trans (Zm ht3 _)))
 rintro σ H11 ⟨y14,rfl,_,_,_,_,S11⟩
 have S12:=S11.drop la
 clear S11 S10 f1 f2 e1 e2 k1 k2
 obtain ⟨d0,r0,sp0,i0',t0',Sh⟩:=S12.get h
 obtain ⟨dx,ob⟩:=Sh.get h
 refine ⟨_,rfl,h,dx,_,rfl,ob,Yd (by decide +kernel),h,s,0,m2,rfl,S12.get h,by rw [W.sp];rfl,?_⟩
 refine ⟨_,rfl,h,dx,_,rfl,ob,Yd (by decide +kernel),h,s,rfl,S12.get h,fun r R=>?_⟩
 obtain ⟨st,la1,ls,lt,lc,SR⟩:=id R
 obtain ⟨dxr,obr⟩:=SR.get r
 refine ⟨r,dxr,_,rfl,obr,Wi (by decide +kernel),r,s.pls,s.nds,s.tabs,rfl,R,_,_,rfl,rfl,rfl,_,rfl,?_⟩
 rw [show (!decide (V.int (m2:Int)=V.int (((s.pls.length+1:Nat):Int) - 1)))=false by rw [W.pl,show (((m2+1:Nat):Int) - 1)=(m2:Int) by omega];exact Xc _]
 refine ZQ ?_
 refine ⟨_,rfl,h,dx,_,rfl,ob,Yd (by decide +kernel),h,s,rfl,S12.get h,rfl,_,rfl,?_⟩
 rw [W.sp,show (!decide (V.int (([m2].length:Nat):Int)=V.int 1))=false from Xc _]
 refine ZQ ?_
 refine ⟨_,rfl,_,rfl,_,rfl,h,dd,U,xs,qs,ws,s,m2,G,.non,_,rfl,(((S12.pull U).pull h).pull Pq).pull dd,W,.inl rfl,fun H12 S13=>⟨true,rfl,ZQ ⟨_,_,_,_,_,_,_,_,_,_,_,_,_,_,rfl,?_⟩⟩⟩
 exact (((((((S13.drop dd).drop h).drop U).drop p).drop Z).pull Pw).pull Pq).pull Pl
end
section
variable {P:Qi}{w:Qu}{K:Qa}{mg:Str->Option Qb}{base:Heap}
theorem scXi:Zp ["self","what"] ["self","what"] (Zk c_RoadError___init__):={}
theorem Vg {f:Addr}{fd:Qn}(F:Fun K "__init__" "RoadError.__init__" c_RoadError___init__ f fd):FnOk P w K mg base ZF 1 f fd ["self","what"] (ZgQ K):=by
 refine F.ok scXi (fun I A outer s H vs Q E S h=>?_)
 obtain ⟨ea,C,J,v,rfl,B,G,q⟩:=h
 refine' ⟨?t,?h,?r⟩
 case h =>
  conv=>arg 2;whnf
  with_reducible refine' (Zi ?h1)
  case h1=>exact ZlI (pv 0) (pv 1) rfl
 exact ⟨_,rfl,_,rfl,ea,C,J,rfl,B,G,fun dx h1 h2=>q dx h1 h2⟩
end
end K35
namespace K35
open PySem L2
open PySem.W in
theorem all_mk {l:Sy}{w:Qu}{K:Qa}{h:Heap}{mg:Str->Option Qb}{fa:Addr}
 {f_z0 f_z1 f_z2 f_z3 f_z4 f_z5 f_z6 f_z7 f_z8 f_z9 f_z10 f_z11 f_z12 f_z13 f_z14 f_z15 f_z16 f_z17 f_z18 f_z19 f_z20 f_z21 f_z22 f_z23 f_z24 f_z25 f_z26 f_z27 f_z28 f_z29 f_z30 f_z31 f_z32 f_z33 f_z34 f_z35 f_z36 f_z37 f_z38 f_z39 f_z40 f_z41 f_z42 f_z43 f_z44 f_z45 f_z46 f_z47 f_z48 f_z49 f_z50 f_z51 f_z52 f_z53 f_z54 C_Store C_Roads C_Tokens C_Hall C_RoadError C_Known C_NoSetting C_Missing C_NoWorld C_Busy C_AtHome C_NoToken C_Used C_Elsewhere C_OutOfTurn C_NoTable C_NoNode C_NoPlace C_NotBehind C_NoWatcher C_NoTask C_BadRow ca_z53 ca_z4 ca_z54 P_z53 P_z4 P_z54:Addr} {d_z0 d_z1 d_z2 d_z3 d_z4 d_z5 d_z6 d_z7 d_z8 d_z9 d_z10 d_z11 d_z12 d_z13 d_z14 d_z15 d_z16 d_z17 d_z18 d_z19 d_z20 d_z21 d_z22 d_z23 d_z24 d_z25 d_z26 d_z27 d_z28 d_z29 d_z30 d_z31 d_z32 d_z33 d_z34 d_z35 d_z36 d_z37 d_z38 d_z39 d_z40 d_z41 d_z42 d_z43 d_z44 d_z45 d_z46 d_z47 d_z48 d_z49 d_z50 d_z51 d_z52 d_z53 d_z54:Qn} (X:K.In h) (G:h.Ns Ql mg) (hfa:mg "law"=some (.ref fa))
 (ch_Store:CH K "Store" C_Store)
 (na_Store_nodes:Qv K (.ref C_Store) "nodes"=some none)
 (na_Store_tables:Qv K (.ref C_Store) "tables"=some none)
 (ch_Roads:CH K "Roads" C_Roads)
 (na_Roads_kept:Qv K (.ref C_Roads) "kept"=some none)
 (na_Roads_aheads:Qv K (.ref C_Roads) "aheads"=some none)
 (na_Roads_steps:Qv K (.ref C_Roads) "steps"=some none)
 (na_Roads_tables:Qv K (.ref C_Roads) "tables"=some none)
 (na_Roads_costs:Qv K (.ref C_Roads) "costs"=some none)
 (ch_Tokens:CH K "Tokens" C_Tokens)
 (na_Tokens_finds:Qv K (.ref C_Tokens) "finds"=some none)
 (na_Tokens_unused:Qv K (.ref C_Tokens) "unused"=some none)
 (ch_Hall:CH K "Hall" C_Hall)
 (na_Hall_defaults:Qv K (.ref C_Hall) "defaults"=some none)
 (na_Hall_ways:Qv K (.ref C_Hall) "ways"=some none)
 (na_Hall_spots:Qv K (.ref C_Hall) "spots"=some none)
 (na_Hall_inside:Qv K (.ref C_Hall) "inside"=some none)
 (na_Hall_held:Qv K (.ref C_Hall) "held"=some none)
 (gx_RoadError:Qp K Ql "RoadError"=some (some (.ref C_RoadError)))
 (gx_Known:Qp K Ql "Known"=some (some (.ref C_Known)))
 (gx_NoSetting:Qp K Ql "NoSetting"=some (some (.ref C_NoSetting)))
 (gx_Missing:Qp K Ql "Missing"=some (some (.ref C_Missing)))
 (gx_NoWorld:Qp K Ql "NoWorld"=some (some (.ref C_NoWorld)))
 (gx_Busy:Qp K Ql "Busy"=some (some (.ref C_Busy)))
 (gx_AtHome:Qp K Ql "AtHome"=some (some (.ref C_AtHome)))
 (gx_NoToken:Qp K Ql "NoToken"=some (some (.ref C_NoToken)))
 (gx_Used:Qp K Ql "Used"=some (some (.ref C_Used)))
 (gx_Elsewhere:Qp K Ql "Elsewhere"=some (some (.ref C_Elsewhere)))
 (gx_OutOfTurn:Qp K Ql "OutOfTurn"=some (some (.ref C_OutOfTurn)))
 (gx_NoTable:Qp K Ql "NoTable"=some (some (.ref C_NoTable)))
 (gx_NoNode:Qp K Ql "NoNode"=some (some (.ref C_NoNode)))
 (gx_NoPlace:Qp K Ql "NoPlace"=some (some (.ref C_NoPlace)))
 (gx_NotBehind:Qp K Ql "NotBehind"=some (some (.ref C_NotBehind)))
 (gx_NoWatcher:Qp K Ql "NoWatcher"=some (some (.ref C_NoWatcher)))
 (gx_NoTask:Qp K Ql "NoTask"=some (some (.ref C_NoTask)))
 (gx_BadRow:Qp K Ql "BadRow"=some (some (.ref C_BadRow)))
 (h_z0:FM K C_RoadError "__init__" "RoadError.__init__" c_RoadError___init__ f_z0 d_z0)
 (h_z1:FG K "alike" s_alike f_z1 d_z1)
 (h_z2:FG K "mark" s_mark f_z2 d_z2)
 (h_z3:FG K "digit" s_digit f_z3 d_z3)
 (h_z4:FGC K "leaf_of" s_leaf_of f_z4 d_z4 ca_z4 P_z4)
 (h_z5:FG K "fork_of" s_fork_of f_z5 d_z5)
 (h_z6:FG K "parts_in" s_parts_in f_z6 d_z6)
 (h_z7:FG K "pairs_in" s_pairs_in f_z7 d_z7)
 (h_z8:FG K "has_mark" s_has_mark f_z8 d_z8)
 (h_z9:FM K C_Store "__init__" "Store.__init__" c_Store___init__ f_z9 d_z9)
 (h_z10:FM K C_Store "empty" "Store.empty" c_Store_empty f_z10 d_z10)
 (h_z11:FM K C_Store "check_table" "Store.check_table" c_Store_check_table f_z11 d_z11)
 (h_z12:FM K C_Store "keep" "Store.keep" c_Store_keep f_z12 d_z12)
 (h_z13:FM K C_Store "as_table" "Store.as_table" c_Store_as_table f_z13 d_z13)
 (h_z14:FM K C_Store "way" "Store.way" c_Store_way f_z14 d_z14)
 (h_z15:FM K C_Store "looked" "Store.looked" c_Store_looked f_z15 d_z15)
 (h_z16:FM K C_Store "fork_parts" "Store.fork_parts" c_Store_fork_parts f_z16 d_z16)
 (h_z17:FM K C_Store "put_in" "Store.put_in" c_Store_put_in f_z17 d_z17)
 (h_z18:FM K C_Store "put" "Store.put" c_Store_put f_z18 d_z18)
 (h_z19:FM K C_Store "taken_from" "Store.taken_from" c_Store_taken_from f_z19 d_z19)
 (h_z20:FM K C_Store "without" "Store.without" c_Store_without f_z20 d_z20)
 (h_z21:FM K C_Store "made" "Store.made" c_Store_made f_z21 d_z21)
 (h_z22:FM K C_Roads "check_place" "Roads.check_place" c_Roads_check_place f_z22 d_z22)
 (h_z23:FM K C_Roads "places" "Roads.places" c_Roads_places f_z23 d_z23)
 (h_z24:FM K C_Roads "table" "Roads.table" c_Roads_table f_z24 d_z24)
 (h_z25:FM K C_Roads "looked" "Roads.looked" c_Roads_looked f_z25 d_z25)
 (h_z26:FM K C_Roads "go_on" "Roads.go_on" c_Roads_go_on f_z26 d_z26)
 (h_z27:FM K C_Roads "put" "Roads.put" c_Roads_put f_z27 d_z27)
 (h_z28:FM K C_Roads "ahead" "Roads.ahead" c_Roads_ahead f_z28 d_z28)
 (h_z29:FM K C_Roads "step" "Roads.step" c_Roads_step f_z29 d_z29)
 (h_z30:FM K C_Roads "__init__" "Roads.__init__" c_Roads___init__ f_z30 d_z30)
 (h_z31:FM K C_Tokens "__init__" "Tokens.__init__" c_Tokens___init__ f_z31 d_z31)
 (h_z32:FM K C_Tokens "make" "Tokens.make" c_Tokens_make f_z32 d_z32)
 (h_z33:FM K C_Hall "check_world" "Hall.check_world" c_Hall_check_world f_z33 d_z33)
 (h_z34:FM K C_Hall "worlds" "Hall.worlds" c_Hall_worlds f_z34 d_z34)
 (h_z35:FM K C_Hall "place" "Hall.place" c_Hall_place f_z35 d_z35)
 (h_z36:FM K C_Hall "now" "Hall.now" c_Hall_now f_z36 d_z36)
 (h_z37:FM K C_Hall "check_setting" "Hall.check_setting" c_Hall_check_setting f_z37 d_z37)
 (h_z38:FM K C_Hall "declare" "Hall.declare" c_Hall_declare f_z38 d_z38)
 (h_z39:FM K C_Hall "value_in" "Hall.value_in" c_Hall_value_in f_z39 d_z39)
 (h_z40:FM K C_Hall "value_or_default" "Hall.value_or_default" c_Hall_value_or_default f_z40 d_z40)
 (h_z41:FM K C_Hall "look_in" "Hall.look_in" c_Hall_look_in f_z41 d_z41)
 (h_z42:FM K C_Hall "look" "Hall.look" c_Hall_look f_z42 d_z42)
 (h_z43:FM K C_Hall "set_to" "Hall.set_to" c_Hall_set_to f_z43 d_z43)
 (h_z44:FM K C_Hall "roads" "Hall.roads" c_Hall_roads f_z44 d_z44)
 (h_z45:FM K C_Hall "look_or" "Hall.look_or" c_Hall_look_or f_z45 d_z45)
 (h_z46:FM K C_Hall "__init__" "Hall.__init__" c_Hall___init__ f_z46 d_z46)
 (h_z47:FG K "_law_cell_at" s_l_cell_at f_z47 d_z47)
 (h_z48:FG K "_law_box" s_l_box f_z48 d_z48)
 (h_z49:FG K "_law_take" s_l_take f_z49 d_z49)
 (h_z50:FG K "_law_names" s_l_names f_z50 d_z50)
 (h_z51:FG K "_law_value" s_l_value f_z51 d_z51)
 (h_z52:FG K "_law_told" s_l_told f_z52 d_z52)
 (h_z53:FGC K "_law_looks_right" s_l_looks_right f_z53 d_z53 ca_z53 P_z53)
 (h_z54:FGC K "law" s_law f_z54 d_z54 ca_z54 P_z54)
 (z_len:Qp K Ql "len"=some none)
 (z_abs:Qp K Ql "abs"=some none)
 (z_int:Qp K Ql "int"=some none)
 (z_range:Qp K Ql "range"=some none)
 (z_min:Qp K Ql "min"=some none)
 (z_max:Qp K Ql "max"=some none)
 (z_repr:Qp K Ql "repr"=some none)
 (z_enumerate:Qp K Ql "enumerate"=some none)
 (z_ord:Qp K Ql "ord"=some none)
 (z_list:Qp K Ql "list"=some none)
 (z_tuple:Qp K Ql "tuple"=some none)
 (z_dict:Qp K Ql "dict"=some none)
 (z_sorted:Qp K Ql "sorted"=some none)
 (z_sum:Qp K Ql "sum"=some none)
 (z_all:Qp K Ql "all"=some none)
 (z_any:Qp K Ql "any"=some none)
 (z_divmod:Qp K Ql "divmod"=some none)
 (z_str:Qp K Ql "str"=some none)
 (z_isinstance:Qp K Ql "isinstance"=some none)
 (z_set:Qp K Ql "set"=some none)
 (z_zip:Qp K Ql "zip"=some none)
 (z_reversed:Qp K Ql "reversed"=some none)
 (z_bool:Qp K Ql "bool"=some none)
 {tb:Tok}
 (gBASE:Qp K Ql "BASE"=some (some (.int 4 tb)))
 {tz:Tok}
 (gZERO:Qp K Ql "BARE_NUMBER"=some (some (.int 0 tz)))
 {ab:Addr}
 (gBARE:Qp K Ql "BARE"=some (some (.ref ab)))
 (tBARE:Zdy K ab [.str "bare"]=true)
 {af:Addr}
 (gFIG:Qp K Ql "FIGURES"=some (some (.ref af)))
 (tFIG:Zdy K af [.int 0,.int 1,.int 2,.int 3]=true)
 (zVE:Qp K Ql "ValueError"=some none)
 (x_Known:Zac K C_RoadError C_Known f_z0 [C_Known,C_NoSetting,C_Missing,C_NoWorld,C_Busy,C_AtHome,C_NoToken,C_Used,C_Elsewhere,C_OutOfTurn] [C_NoTable,C_NoNode,C_NoPlace,C_NotBehind] [C_NoWatcher,C_NoTask,C_BadRow] 0=true)
 (x_NoSetting:Zac K C_RoadError C_NoSetting f_z0 [C_Known,C_NoSetting,C_Missing,C_NoWorld,C_Busy,C_AtHome,C_NoToken,C_Used,C_Elsewhere,C_OutOfTurn] [C_NoTable,C_NoNode,C_NoPlace,C_NotBehind] [C_NoWatcher,C_NoTask,C_BadRow] 1=true)
 (x_Missing:Zac K C_RoadError C_Missing f_z0 [C_Known,C_NoSetting,C_Missing,C_NoWorld,C_Busy,C_AtHome,C_NoToken,C_Used,C_Elsewhere,C_OutOfTurn] [C_NoTable,C_NoNode,C_NoPlace,C_NotBehind] [C_NoWatcher,C_NoTask,C_BadRow] 2=true)
 (x_NoWorld:Zac K C_RoadError C_NoWorld f_z0 [C_Known,C_NoSetting,C_Missing,C_NoWorld,C_Busy,C_AtHome,C_NoToken,C_Used,C_Elsewhere,C_OutOfTurn] [C_NoTable,C_NoNode,C_NoPlace,C_NotBehind] [C_NoWatcher,C_NoTask,C_BadRow] 3=true) :
 ∃ fd:Qn,(∀ (s:Qd) (v:Qb),PQ s fd ⟨[v],[]⟩ [("_law_script",v)])/\∀ base:Heap,K.In base->base.Ns Ql mg->Xn base mg->FnOk l.prog w K mg base ZF 19 fa fd ["_law_script"] (ZbQ K P_z4 P_z53 P_z54):=by
 have e:=hfa.symm.trans (Gx X G h_z54.a)
 cases e
 have n_len:=QN X G z_len
 have n_abs:=QN X G z_abs
 have n_int:=QN X G z_int
 have n_range:=QN X G z_range
 have n_min:=QN X G z_min
 have n_max:=QN X G z_max
 have n_repr:=QN X G z_repr
 have n_enumerate:=QN X G z_enumerate
 have n_ord:=QN X G z_ord
 have n_list:=QN X G z_list
 have n_tuple:=QN X G z_tuple
 have n_dict:=QN X G z_dict
 have n_sorted:=QN X G z_sorted
 have n_sum:=QN X G z_sum
 have n_all:=QN X G z_all
 have n_any:=QN X G z_any
 have n_divmod:=QN X G z_divmod
 have n_str:=QN X G z_str
 have n_isinstance:=QN X G z_isinstance
 have n_set:=QN X G z_set
 have n_zip:=QN X G z_zip
 have n_reversed:=QN X G z_reversed
 have n_bool:=QN X G z_bool
 have g_gBASE:=Gx X G gBASE
 have g_gZERO:=Gx X G gZERO
 have g_gBARE:=Gx X G gBARE
 have g_gFIG:=Gx X G gFIG
 have g_RoadError:=Gx X G gx_RoadError
 have g_Known:=Gx X G gx_Known
 have g_NoSetting:=Gx X G gx_NoSetting
 have g_Missing:=Gx X G gx_Missing
 have g_NoWorld:=Gx X G gx_NoWorld
 have g_Busy:=Gx X G gx_Busy
 have g_AtHome:=Gx X G gx_AtHome
 have g_NoToken:=Gx X G gx_NoToken
 have g_Used:=Gx X G gx_Used
 have g_Elsewhere:=Gx X G gx_Elsewhere
 have g_OutOfTurn:=Gx X G gx_OutOfTurn
 have g_NoTable:=Gx X G gx_NoTable
 have g_NoNode:=Gx X G gx_NoNode
 have g_NoPlace:=Gx X G gx_NoPlace
 have g_NotBehind:=Gx X G gx_NotBehind
 have g_NoWatcher:=Gx X G gx_NoWatcher
 have g_NoTask:=Gx X G gx_NoTask
 have g_BadRow:=Gx X G gx_BadRow
 have cl_Store:=ch_Store.c
 have cl_Roads:=ch_Roads.c
 have cl_Tokens:=ch_Tokens.c
 have cl_Hall:=ch_Hall.c
 have TB:Yi mg:=⟨n_len,n_abs,n_int,n_range,n_min,n_max,n_repr,n_enumerate,n_ord,n_list,n_tuple,n_dict,n_sorted,n_sum,n_all,n_any,n_divmod,n_str,n_isinstance,n_set,n_zip,n_reversed,n_bool⟩
 have T:Txt K mg:=⟨TB,⟨_,g_gBASE⟩,⟨_,g_gZERO⟩,⟨_,g_gBARE,ZeB tBARE⟩,⟨_,g_gFIG,ZeB tFIG⟩⟩
 have TC:Xp K C_Store:=⟨cl_Store,na_Store_nodes,na_Store_tables⟩
 have TR:Wp K C_Roads:=⟨cl_Roads,na_Roads_kept,na_Roads_aheads,na_Roads_steps,na_Roads_tables,na_Roads_costs⟩
 have TT:Zga K C_Tokens:=⟨cl_Tokens,na_Tokens_finds,na_Tokens_unused⟩
 have TH:Xu K C_Hall:=⟨cl_Hall,na_Hall_defaults,na_Hall_ways,na_Hall_spots,na_Hall_inside,na_Hall_held⟩
 have n_VE:=QN X G zVE
 have TE:=Zmc (K:=K) g_RoadError n_VE g_Known g_NoSetting g_Missing g_NoWorld g_Busy g_AtHome g_NoToken g_Used g_Elsewhere g_OutOfTurn g_NoTable g_NoNode g_NoPlace g_NotBehind g_NoWatcher g_NoTask g_BadRow
 have r_Known:RK K C_RoadError [C_Known,C_NoSetting,C_Missing,C_NoWorld,C_Busy,C_AtHome,C_NoToken,C_Used,C_Elsewhere,C_OutOfTurn,C_NoTable,C_NoNode,C_NoPlace,C_NotBehind,C_NoWatcher,C_NoTask,C_BadRow] C_Known "known":=⟨0,(WE x_Known).1,rfl⟩
 have r_NoSetting:RK K C_RoadError [C_Known,C_NoSetting,C_Missing,C_NoWorld,C_Busy,C_AtHome,C_NoToken,C_Used,C_Elsewhere,C_OutOfTurn,C_NoTable,C_NoNode,C_NoPlace,C_NotBehind,C_NoWatcher,C_NoTask,C_BadRow] C_NoSetting "setting":=⟨1,(WE x_NoSetting).1,rfl⟩
 have r_Missing:RK K C_RoadError [C_Known,C_NoSetting,C_Missing,C_NoWorld,C_Busy,C_AtHome,C_NoToken,C_Used,C_Elsewhere,C_OutOfTurn,C_NoTable,C_NoNode,C_NoPlace,C_NotBehind,C_NoWatcher,C_NoTask,C_BadRow] C_Missing "missing":=⟨2,(WE x_Missing).1,rfl⟩
 have r_NoWorld:RK K C_RoadError [C_Known,C_NoSetting,C_Missing,C_NoWorld,C_Busy,C_AtHome,C_NoToken,C_Used,C_Elsewhere,C_OutOfTurn,C_NoTable,C_NoNode,C_NoPlace,C_NotBehind,C_NoWatcher,C_NoTask,C_BadRow] C_NoWorld "world":=⟨3,(WE x_NoWorld).1,rfl⟩
 refine ⟨d_z54,fun s v=>ZhQ h_z54.F.fn (fun _ _ _ _ _ _ _=>rfl) s v,fun base _ _ hBm=>?_⟩
 have e:Bs l.prog w K mg base h:=⟨X,G⟩
 have b_z0:Binds K d_z0 ["self","what"] []:=h_z0.F.b2 fun _ _ _ _ _ _ _ _=>rfl
 have D_Known:UT l.prog w K mg base 1 C_Known "Known":=⟨_,_,(Vg h_z0.F).mono (by decide),b_z0,(WE x_Known).2 h_z0.m.fn,g_Known⟩
 have D_NoSetting:UT l.prog w K mg base 1 C_NoSetting "NoSetting":=⟨_,_,(Vg h_z0.F).mono (by decide),b_z0,(WE x_NoSetting).2 h_z0.m.fn,g_NoSetting⟩
 have D_Missing:UT l.prog w K mg base 11 C_Missing "Missing":=⟨_,_,(Vg h_z0.F).mono (by decide),b_z0,(WE x_Missing).2 h_z0.m.fn,g_Missing⟩
 have D_NoWorld:UT l.prog w K mg base 1 C_NoWorld "NoWorld":=⟨_,_,(Vg h_z0.F).mono (by decide),b_z0,(WE x_NoWorld).2 h_z0.m.fn,g_NoWorld⟩
 have D_z1:=h_z1.df e (Zjy h_z1.F) (h_z1.F.b2 fun _ _ _ _ _ _ _ _=>rfl)
 have D_z2:=h_z2.df e (Zlo h_z2.F T) (h_z2.F.b1 fun _ _ _ _ _ _ _=>rfl)
 have D_z3:=h_z3.df e (ZjA h_z3.F T) (h_z3.F.b2 fun _ _ _ _ _ _ _ _=>rfl)
 have D_z4:=h_z4.df e (Zll h_z4.F T hBm D_z2) (h_z4.F.fn.b1 fun _ _ _ _ _ _ _=>rfl)
 have D_z5:=h_z5.df e (Zid h_z5.F T) (h_z5.F.b1 fun _ _ _ _ _ _ _=>rfl)
 have D_z6:=h_z6.df e (ZjH h_z6.F) (h_z6.F.b1 fun _ _ _ _ _ _ _=>rfl)
 have D_z7:=h_z7.df e (ZjG h_z7.F) (h_z7.F.b1 fun _ _ _ _ _ _ _=>rfl)
 have D_z8:=h_z8.df e (Zli h_z8.F) (h_z8.F.b2 fun _ _ _ _ _ _ _ _=>rfl)
 have D_z9:=h_z9.di ch_Store e (FnOk.conv (sp':=Zas K C_Store) (Zlj h_z9.F T TC) (fun _ _ _ _ h=>ZmE h)) (h_z9.F.b1 fun _ _ _ _ _ _ _=>rfl)
 have D_z10:=h_z10.df e (ZjB (C:=C_Store) h_z10.F T) (h_z10.F.b1 fun _ _ _ _ _ _ _=>rfl)
 have D_z11:=h_z11.df e (Zjz h_z11.F TC) (h_z11.F.b2 fun _ _ _ _ _ _ _ _=>rfl)
 have D_z12:=h_z12.df e (Zlk h_z12.F T TC) (h_z12.F.b2 fun _ _ _ _ _ _ _ _=>rfl)
 have D_z13:=h_z13.df e (ZmT h_z13.F TC) (h_z13.F.b2 fun _ _ _ _ _ _ _ _=>rfl)
 have D_z14:=h_z14.df e (Znf h_z14.F T TC D_z11 D_z6 D_z2 D_z3) (h_z14.F.b3 fun _ _ _ _ _ _ _ _ _=>rfl)
 have b_z15:Binds K d_z15 ["self","table","name"] []:=h_z15.F.b3 fun _ _ _ _ _ _ _ _ _=>rfl
 have D_z15:DefM l.prog w K mg base 3 C_Store "looked" ["self","table","name"] (WB K C_Store):=⟨_,_,ZcS h_z15.F T TC D_z14 D_z7,b_z15,h_z15.m⟩
 have D_Store_lookS:DefM l.prog w K mg base 3 C_Store "looked" ["self","table","name"] (Zat K C_Store):=⟨_,_,ZmO (ZcS h_z15.F T TC D_z14 D_z7),b_z15,h_z15.m⟩
 have D_z16:=h_z16.df e (Zos h_z16.F T TC D_z6 D_z7 D_z2 D_z3) (h_z16.F.b3 fun _ _ _ _ _ _ _ _ _=>rfl)
 have b_z17:Binds K d_z17 ["self","number","level","name","value"] []:=h_z17.F.b5 fun _ _ _ _ _ _ _ _ _ _ _=>rfl
 have D_z17:∀ NS,Yr NS->DefM l.prog w K mg base 8 C_Store "put_in" nPi (VW K C_Store P_z4 NS 6):=fun NS N=>⟨_,_,Zfu N h_z17.F T TC D_z8 D_z7 D_z2 D_z3 D_z4 D_z5 D_z12 D_z16 b_z17 h_z17.m 6,b_z17,h_z17.m⟩
 have b_z18:Binds K d_z18 ["self","table","name","value"] []:=h_z18.F.b4 fun _ _ _ _ _ _ _ _ _ _=>rfl
 have D_z18:DefM l.prog w K mg base 9 C_Store "put" ["self","table","name","value"] (ZbV K C_Store P_z4):=⟨_,_,Zoz fun NS N=>Zna N h_z18.F TC D_z1 D_z15 D_z13 (D_z17 NS N),b_z18,h_z18.m⟩
 have b_z19:Binds K d_z19 ["self","number","level","name"] []:=h_z19.F.b4 fun _ _ _ _ _ _ _ _ _ _=>rfl
 have D_z19:∀ NS,Yr NS->DefM l.prog w K mg base 8 C_Store "taken_from" nTk (ZbY K C_Store P_z4 NS 6):=fun NS N=>⟨_,_,Zfv N h_z19.F T TC D_z8 D_z6 D_z7 D_z2 D_z3 D_z4 D_z5 D_z12 b_z19 h_z19.m 6,b_z19,h_z19.m⟩
 have b_z20:Binds K d_z20 ["self","table","name"] []:=h_z20.F.b3 fun _ _ _ _ _ _ _ _ _=>rfl
 have D_z20:DefM l.prog w K mg base 9 C_Store "without" ["self","table","name"] (Zdw K C_Store P_z4):=⟨_,_,wo_S fun NS N=>Zou N h_z20.F TC D_z15 D_z13 (D_z19 NS N),b_z20,h_z20.m⟩
 have D_z21:=h_z21.df e (Zlm h_z21.F T TC) (h_z21.F.b1 fun _ _ _ _ _ _ _=>rfl)
 have D_z22:=h_z22.df e (Zlr (CS:=C_Store) h_z22.F TB TR) (h_z22.F.b2 fun _ _ _ _ _ _ _ _=>rfl)
 have D_z23:=h_z23.df e (Zif (CS:=C_Store) h_z23.F TB TR) (h_z23.F.b1 fun _ _ _ _ _ _ _=>rfl)
 have D_z24:=h_z24.df e (ZjJ h_z24.F TB TR D_z22) (h_z24.F.b2 fun _ _ _ _ _ _ _ _=>rfl)
 have D_z25:=h_z25.df e (ZmY h_z25.F TB TR TC (D_z24.mono (by decide)) (D_Store_lookS.mono (by decide))) (h_z25.F.b3 fun _ _ _ _ _ _ _ _ _=>rfl)
 have D_z26:=h_z26.df e (Zlh h_z26.F TB TR TC (D_z24.mono (by decide)) (D_z21.mono (by decide)) D_z18 D_z20) (h_z26.F.b3 fun _ _ _ _ _ _ _ _ _=>rfl)
 have D_z27:=h_z27.df e (Zlp h_z27.F TB TR D_z26) (h_z27.F.b4 fun _ _ _ _ _ _ _ _ _ _=>rfl)
 have D_z28:=h_z28.df e (Zjx h_z28.F TB TR D_z22) (h_z28.F.b2 fun _ _ _ _ _ _ _ _=>rfl)
 have D_z29:=h_z29.df e (ZjI h_z29.F TB TR D_z22) (h_z29.F.b2 fun _ _ _ _ _ _ _ _=>rfl)
 have D_z30:=h_z30.di ch_Roads e ((ZjD h_z30.F TB TR TC D_z9 (D_z10.mono (by decide))).mono (show 3<=11 by decide)) (h_z30.F.b1 fun _ _ _ _ _ _ _=>rfl)
 have D_z31:=h_z31.di ch_Tokens e (ZjE h_z31.F TB TT) (h_z31.F.b1 fun _ _ _ _ _ _ _=>rfl)
 have D_z32:=h_z32.df e (Zln h_z32.F TB TT) (h_z32.F.b4 fun _ _ _ _ _ _ _ _ _ _=>rfl)
 have b_z33:Binds K d_z33 ["self","world"] []:=h_z33.F.b2 fun _ _ _ _ _ _ _ _=>rfl
 have X_Hall_check_world:DefMX l.prog w K mg base 3 C_Hall "check_world" Zaj (VR K C_Hall C_Roads C_Store C_Tokens C_NoWorld):=⟨_,_,Zfr h_z33.F TB TH D_NoWorld,b_z33,h_z33.m⟩
 have D_z33:DefM l.prog w K mg base 3 C_Hall "check_world" Zaj (Zds K C_Hall C_Roads C_Store C_Tokens):=⟨_,_,FnOk.low (Zfr h_z33.F TB TH D_NoWorld) fun _ _ _ _ z=>Zoh z,b_z33,h_z33.m⟩
 have D_z34:=h_z34.df e (Zng (CH:=C_Hall) (CR:=C_Roads) (CS:=C_Store) (CT:=C_Tokens) h_z34.F TB TH) (h_z34.F.b1 fun _ _ _ _ _ _ _=>rfl)
 have b_z35:Binds K d_z35 ["self","world"] []:=h_z35.F.b2 fun _ _ _ _ _ _ _ _=>rfl
 have X_Hall_place:DefMX l.prog w K mg base 4 C_Hall "place" Vk (ZbU K C_Hall C_Roads C_Store C_Tokens C_NoWorld):=⟨_,_,Zft h_z35.F TB TH X_Hall_check_world,b_z35,h_z35.m⟩
 have D_z35:DefM l.prog w K mg base 4 C_Hall "place" Vk (Zau K C_Hall C_Roads C_Store C_Tokens):=⟨_,_,FnOk.low (Zft h_z35.F TB TH X_Hall_check_world) fun _ _ _ _ z=>Zox z,b_z35,h_z35.m⟩
 have D_z36:=h_z36.df e (ZmZ (CH:=C_Hall) (CR:=C_Roads) (CS:=C_Store) (CT:=C_Tokens) h_z36.F TB TH) (h_z36.F.b1 fun _ _ _ _ _ _ _=>rfl)
 have b_z37:Binds K d_z37 ["self","name"] []:=h_z37.F.b2 fun _ _ _ _ _ _ _ _=>rfl
 have X_Hall_check_setting:DefMX l.prog w K mg base 3 C_Hall "check_setting" Zak (Zar K C_Hall C_Roads C_Store C_Tokens C_NoSetting):=⟨_,_,ZmV h_z37.F TB TH D_NoSetting,b_z37,h_z37.m⟩
 have b_z38:Binds K d_z38 ["self","name","default"] []:=h_z38.F.b3 fun _ _ _ _ _ _ _ _ _=>rfl
 have X_Hall_declare:DefMX l.prog w K mg base 3 C_Hall "declare" ZbF (Zdt K C_Hall C_Roads C_Store C_Tokens C_Known):=⟨_,_,Zic h_z38.F TB TH D_Known,b_z38,h_z38.m⟩
 have D_z38:DefM l.prog w K mg base 3 C_Hall "declare" ZbF (ZbP K C_Hall C_Roads C_Store C_Tokens):=⟨_,_,FnOk.low (Zic h_z38.F TB TH D_Known) fun _ _ _ _ z=>Zoi z,b_z38,h_z38.m⟩
 have D_z39:=h_z39.df e (Znd h_z39.F TB TH TR (D_z35.mono (by decide)) D_z25) (h_z39.F.b3 fun _ _ _ _ _ _ _ _ _=>rfl)
 have D_z40:=h_z40.df e (Zne h_z40.F TB TH D_z39) (h_z40.F.b3 fun _ _ _ _ _ _ _ _ _=>rfl)
 have b_z41:Binds K d_z41 ["self","world","name"] []:=h_z41.F.b3 fun _ _ _ _ _ _ _ _ _=>rfl
 have X_Hall_look_in:DefMX l.prog w K mg base 13 C_Hall "look_in" Zdp (Zdu K C_Hall C_Roads C_Store C_Tokens C_NoSetting C_Missing):=⟨_,_,ZmX h_z41.F TB TH (D_z33.mono (by decide)) (X_Hall_check_setting.mono (by decide)) D_z40 D_Missing,b_z41,h_z41.m⟩
 have b_z42:Binds K d_z42 ["self","name"] []:=h_z42.F.b2 fun _ _ _ _ _ _ _ _=>rfl
 have X_Hall_look:DefMX l.prog w K mg base 14 C_Hall "look" Zal (ZbR K C_Hall C_Roads C_Store C_Tokens C_NoSetting C_Missing):=⟨_,_,Zie h_z42.F TB TH (D_z36.mono (by decide)) X_Hall_look_in,b_z42,h_z42.m⟩
 have D_z42:DefM l.prog w K mg base 14 C_Hall "look" Zal (ZbS K C_Hall C_Roads C_Store C_Tokens):=⟨_,_,FnOk.low (Zie h_z42.F TB TH (D_z36.mono (by decide)) X_Hall_look_in) fun _ _ _ _ z=>Zop z,b_z42,h_z42.m⟩
 have b_z43:Binds K d_z43 ["self","name","value"] []:=h_z43.F.b3 fun _ _ _ _ _ _ _ _ _=>rfl
 have X_Hall_set_to:DefMX l.prog w K mg base 13 C_Hall "set_to" Zam (ZbW K C_Hall C_Roads C_Store C_Tokens P_z4 C_NoSetting):=⟨_,_,Zig h_z43.F TB TH TR TT (X_Hall_check_setting.mono (by decide)) (D_z36.mono (by decide)) (D_z32.mono (by decide)) (D_z39.mono (by decide)) (D_z35.mono (by decide)) (D_z27.mono (by decide)),b_z43,h_z43.m⟩
 have D_z43:DefM l.prog w K mg base 13 C_Hall "set_to" Zam (ZbX K C_Hall C_Roads C_Store C_Tokens P_z4):=⟨_,_,FnOk.low (Zig h_z43.F TB TH TR TT (X_Hall_check_setting.mono (by decide)) (D_z36.mono (by decide)) (D_z32.mono (by decide)) (D_z39.mono (by decide)) (D_z35.mono (by decide)) (D_z27.mono (by decide))) fun _ _ _ _ z=>Zpa z,b_z43,h_z43.m⟩
 have D_z44:=h_z44.df e (Znb (CH:=C_Hall) (CR:=C_Roads) (CS:=C_Store) (CT:=C_Tokens) h_z44.F TB TH) (h_z44.F.b1 fun _ _ _ _ _ _ _=>rfl)
 have b_z45:Binds K d_z45 ["self","name","other"] []:=h_z45.F.b3 fun _ _ _ _ _ _ _ _ _=>rfl
 have X_Hall_look_or:DefMX l.prog w K mg base 13 C_Hall "look_or" ZbG (VU K C_Hall C_Roads C_Store C_Tokens C_NoSetting):=⟨_,_,Zfs h_z45.F TB TH (X_Hall_check_setting.mono (by decide)) (D_z36.mono (by decide)) (D_z39.mono (by decide)),b_z45,h_z45.m⟩
 have D_z45:DefM l.prog w K mg base 13 C_Hall "look_or" ZbG (Zdv K C_Hall C_Roads C_Store C_Tokens):=⟨_,_,FnOk.low (Zfs h_z45.F TB TH (X_Hall_check_setting.mono (by decide)) (D_z36.mono (by decide)) (D_z39.mono (by decide))) fun _ _ _ _ z=>Zoq z,b_z45,h_z45.m⟩
 have D_z46:=h_z46.di ch_Hall e ((ZjC h_z46.F TB TH D_z30 D_z31).mono (show 13<=17 by decide)) (h_z46.F.b1 fun _ _ _ _ _ _ _=>rfl)
 have D_z47:=h_z47.df e (Zlg h_z47.F TB) (h_z47.F.b2 fun _ _ _ _ _ _ _ _=>rfl)
 have D_z48:=h_z48.df e (FnOk.conv (sp':=ZbN K) (ZmU h_z48.F TB D_z47) (fun _ _ _ _ h=>Zog h)) (h_z48.F.b2 fun _ _ _ _ _ _ _ _=>rfl)
 have b_z49:Binds K d_z49 ["_law_box_here","_law_many"] []:=h_z49.F.b2 fun _ _ _ _ _ _ _ _=>rfl
 have DT0:Zko l.prog w K mg base:=⟨_,_,Zls h_z49.F,b_z49,h_z49.F.kp,(Gx X G h_z49.a)⟩
 have D_z49:DTk l.prog w K mg base 1:=DT0.conv fun _ _ _ _ h=>ZnR h
 have D_z50:=h_z50.df e (ZjF h_z50.F TB D_z49) (h_z50.F.b2 fun _ _ _ _ _ _ _ _=>rfl)
 have D_z51:=h_z51.df e (FnOk.conv (sp':=Vo) (ZjK h_z51.F T DT0) (fun _ _ _ _ h=>Zme h)) (h_z51.F.b1 fun _ _ _ _ _ _ _=>rfl)
 have D_z52:=h_z52.df e (Zlt (kk:=15) h_z52.F TB TE) (h_z52.F.b1 fun _ _ _ _ _ _ _=>rfl)
 have D_z53:=h_z53.df e (Zot h_z53.F hBm TB TH (X_Hall_look.mono (by decide)) (D_z45.mono (by decide)) r_NoSetting r_Missing (D_z52.mono (by decide))) (h_z53.F.fn.b4 fun _ _ _ _ _ _ _ _ _ _=>rfl)
 exact ZmW h_z54.F hBm TB TH TR D_z49 (D_z48.mono (by decide)) (D_z50.mono (by decide)) (D_z51.mono (by decide)) D_z46 (D_z38.mono (by decide)) (D_z43.mono (by decide)) (X_Hall_set_to.mono (by decide)) (X_Hall_look_or.mono (by decide)) (D_z42.mono (by decide)) (D_z35.mono (by decide)) (D_z34.mono (by decide)) (D_z44.mono (by decide)) (D_z29.mono (by decide)) (D_z28.mono (by decide)) (D_z23.mono (by decide)) r_NoSetting (D_z52.mono (by decide)) (D_z53.mono (by decide))
theorem walk {l:Sy}{q:Qi}{loose:List Str}{XP:(Str->Option Qb)->Heap->Prop}{YP:Qu->Heap->Prop}{d:DefRec}{K:Params->Qa}{ts:List Addr}{P_z53 P_z4 P_z54:Addr}(hn:l.most=some 63)(hdf:d.params.defaults=[])
 (hY:∀ (w:Qu) (h:Heap),YP w h->(K w.params).In h/\∀ b∈ts,h.get? b=some (PySem.W.tabObj #[]))
 (hK:∀ (w:Qu) (b:Addr),b∈ts->(K w.params).lookup b=none/\∃ c,PySem.W.codeHdIn (K w.params) c b=true)
 (hP_law_looks_right:P_z53∈ts) (hP_leaf_of:P_z4∈ts) (hP_law:P_z54∈ts) (hne:[P_z4,P_z53,P_z54].Nodup) (F:∀ (w:Qu) (mg:Str->Option Qb) (fa:Addr) (h:Heap),(K w.params).In h->h.Ns Ql mg->mg d.name=some (.ref fa) ->
  ∃ fd:Qn,(∀ (s:Qd) (u:Qb),PQ s fd ⟨[u],[]⟩ [("_law_script",u)])/\∀ base:Heap,(K w.params).In base->base.Ns Ql mg->Xn base mg->FnOk l.prog w (K w.params) mg base ZF 19 fa fd ["_law_script"] (ZbQ (K w.params) P_z4 P_z53 P_z54)) :
 PySem.W.WalkO q loose XP YP l.row.toRowW d [] (fun f vs=>PySem.call f vs) :=
 L2.walk_ofT (n:=63) (k:=19) (x:="_law_script") (CX:=fun _=>ZF) (sp:=fun w=>ZbQ (K w.params) P_z4 P_z53 P_z54) (ts:=ts) hn (by decide) hdf ⟨rfl,by decide,by decide,rfl⟩ hY hK F (fun w H a ns hl hO hS hT=>⟨a,ns,rfl,hS,hl,ZgE hS (hT _ hP_leaf_of) (hT _ hP_law_looks_right) (hT _ hP_law) hne,fun _=>rfl⟩) fun _ _ _ _ _ z=>z
end K35
set_option genInjectivity false in
set_option genSizeOfSpec false in
structure PySem.W.Fast:Prop where (tw7958616529942776721 tw13627776812759941662 tw2015906809121372285 tw10114471766269083374 tw16595075342832523588 tw10093299545923883203 tw9121003209981386366 tw5282296088128523301 tw10064973654106480541 tw14052991848245521661 tw16840537629417250875 tw14644684640089720191 tw9881956413934227859 tw3971875054969227418 tw8779949824535074264 tw8340727657854120154 tw6710271116135623067 tw146191793590227694 tw14691011697665469399 tw9033029992438685196 tw1850965295664750303 tw15134522893743800386 tw17806021926680230464 tw5380126611278734958 tw9649269061471612310 tw345147480729268240 tw1362193580402423689 tw1759181292680992282 tw11143975540596063875 tw11604307633912196800 tw15127976732573034141 tw644225980150615756 tw9406356014438595964 tw1796137620076706647 tw14776593376477040651 tw18204779654107405620 tw17945806100289565390 tw5249415600434120682 tw4238808544799667076 tw17164572267248531687 tw13864519480088303911 tw5873694789735458405 tw9222207182594475765 tw2765737644237791947 tw14214029219243961423 tw11288628425450297193 tw7872322741033731659 tw8026962428492835770 tw7450020043783282607 tw17194054853609638033 tw6917966302080278926 tw1159419375407457232 tw10488008536711791567 tw1083335411630062778 tw247906914759014752 tw15197431487965313546 tw1421357819892230741 tw16163784908609433118 tw14316759810291698236 tw9954525431691566234 tw17084076162816948821 tw4241639282187256695 tw18084460572617662019 tw7627113831634387392 tw356102274045703180 tw10306856378405845190 tw7746582904414783343 tw18249504015603762951 tw12186371870736491623 tw10353114404100380879 tw12209584016007586543 tw14371756597270927468 tw2779763934186444906 tw11457441389447609379 tw1687867088603940020 tw5452088030064058715 tw17409611847238905186 tw1135539483025619845 tw18172998271184627370 tw713373923333859560 tw12781439710340014381 tw731973192696084357 tw8459792989910066819 tw16194055716270449281 tw6851103699328920448 tw7353738286001208561 tw1745306351036503409 tw4389874576388271763 tw2762462787917964263 tw18291532164320876272 tw9803917424472218721 tw15750920141217377250 tw6317939912649555571 tw5580493830958116445 tw15740332549887118166 tw12919642662792767551 tw7478236450502674560 tw12756819523225026951 tw7626492038719192299 tw13940511254643215360 tw16282772290063520323 tw17109954018747161340 tw7899708709987292727 tw16192120194426875618 tw721822497212046898 tw6240561178882997640 tw13717640937981064566 tw3520780380226866853 tw13232456011211258768 tw11242686441151513428 tw15277195194119607225 tw9163623770890591865 tw867662676236363114 tw9624333712550352387 tw12007462858402668899 tw2790980601563780382 tw14459113881734464683 tw11477378869687566237 tw2078342667674147393 tw2593296397549975293 tw1110821349542845621 tw14481182384267385116 tw16681917253512757386 tw11944439929484420927 tw2688775578857474362 tw15189193286865644618 tw11010695724497722141 tw12515418702030505034 tw13069157181484642615 tw12592695507612079230 tw11785464016296584716 tw3749969837972154549 tw17549877523022510702 tw4450962797884702973 tw435759257095541143 tw14649383276996085157 tw10487806831888718993 tw8920975281820599922 tw5922884969316896832 tw11244905906872462101 tw7165612228129391788 tw11289278146566813645 tw3728355122544224401 tw7737022195127680406 tw7622430086432365709 tw13304657876108305354 tw12576821087255965475 tw12264346032026192577 tw12760971186653452225 tw110398635053139838 tw13668403507376866814 tw3024535237436561781 tw10205036680530730340 tw5121794989830287186 tw6345927219870216605 tw14405591643945339694 tw3805237420533349634 tw9990534519123127555 tw18068910340496499808 tw4417999803320666517 tw14322308681845490538 tw5355497215991889600 tw3930183195147570665 tw3103725989988386594 tw17665198679676722772 tw4736271169574271342 tw3054445679542587305 tw14763139199937323584 tw8954025800149236976 tw452845851126640788 tw14939800653263888570 tw948682302846469865 tw6354776132964362819 tw11295312068709797832 tw4418976061392935324 tw3292365863907938171 tw18158909196614976130 tw5210416141066170074 tw3601273626018673827 tw1756686746560658037 tw4458855818762624890 tw9628527148956178861 tw18129475504878561583 tw7005594351361436532 tw146378404114439992 tw6798273297730002317 tw2282700361597746539 tw13162463092032747658 tw11107175138750853497 tw9477177850988677372 tw17548865683667993495 tw5953253271842482649 tw10201954329235399164 tw6441817581862027703 tw6194102534836367642 tw5764636639601182282 tw4675658897830648889 tw11120171360703069573 tw9908060658924162948 tw2866380321871810031 tw16644056201251466909 tw10474965765603902847 tw8640588852882335930 tw13101762891255346508 tw14231381711986256480 tw18208900966954158107 tw16789768785020089409 tw3227582726004755530 tw2754959860970599008 tw9732759251909240018 tw8052105848674097292 tw5407771029069997280 tw2187113756902075854 tw12242628123800185 tw4096268123879435374 tw12563075925069422908 tw15053471002081297335 tw9382071355302349484 tw898293715354281366 tw5140724421927072643 tw2396493733236600082 tw5937785332294516518 tw2006378728657016196 tw14898573206114834009 tw14393060643186798981 tw12594647229938402979 tw16548351048417827838 tw2697599370225161884 tw16829753957626640437 tw9109399507750135683 tw15925264644932142280 tw15662769594780263541 tw9995037928334659762 tw6262828335960497632 tw3322111165252881905 tw14193691393504760776 tw7152725870453120026 tw15137429827207813963 tw6567429995243611712 tw6274039770773432645 tw13797072760406903793 tw449315096600220039 tw2104382903328460972 tw1344121786718925051 tw9741125639221528603 tw8315519031213881458 tw10791973162599692961 tw9942595012400360419 tw7838563809262015754 tw7521034513736333690 tw7332104836730915305 tw6841726667575321044 tw6450082205564784213 tw4212400084647330763 tw3344560717405409671 tw3244587741345887234 tw2493652162805118926 tw2302761997944235202 tw1918207747345297276 tw17228206336535358116 tw1719925611712265106 tw1677592268149232931 tw13214133222402765369 tw12806164253082745236 tw12638510936234749438 tw12415241937861088734 tw11685775366513740092 tw12951999070785030341 tw6673072653579809168 tw1346421060219570286 tw9801853578349141920 tw17814173571452906760 tw17540184895612733964 tw12744685622516596371 tw18384905564198255188 tw12914587235817439612 tw9089788162774605699 tw6374448026834817578 tw1773425149449655033 tw16882304846653808377 tw1440694067617652317 tw10277559910984395817 tw402254343418393919 tw5379943097333151532 tw5126625308249424292 tw4824076151845905056 tw16043414582683837602 tw14801736721771063962 tw14685315984848622443 tw14366599781449209666 tw12518946044279768384 tw16130782716000445901 tw15668986649526943875 tw10126103739071997791 tw7619897680961097786 tw4950490324409839187 tw4727849808946310601 tw15169017813040695281 tw15505424780517253246 tw14094250846299099312 tw1526444320378748174 tw10616560151135758995 tw3541529446133910967 tw5106085949965612882 tw3513035440954639797 tw18104130981053144551 tw229493109377437007 tw8014776190477698893 tw6180104187698774395 tw18376648319896191234 tw12503667522808327247 tw10684276939208363008 tw7836462301846069286 tw2592434986864901532 tw250705457783785250 tw14814719375538593404 tw14581399859334914257 tw7195752665837179002 tw6119628563384344048 tw16951249637143611954 tw13644545711549430927 tw12248538643949688370 tw11753108311941716448 tw14238642980772322199 tw8810724889977976874 tw8001335248189379363 tw5317943402366327075 tw4727908949587822223 tw3586366167675696462 tw205048653323936072 tw17657361227918869846 tw17611853998547745674 tw16928723216401271179 tw15447256573336113586 tw14967316067282669365 tw14346354753752066054 tw12523516685473233610 tw12139932763633288619 tw11184577285451546358 tw11091812632560332474 tw10019902171367917453 tw9860341835589771413 tw9718224293346857291 tw4911665298803941266 tw3511636336451663848 tw18408059695604013764 tw16964596757476969173 tw13270783180833707293 tw11367521768466947567 tw3753961761099801009 tw12368790929444941336 tw2145543371839594085 tw16782768872064358623 tw14190001310373388048 tw9825114553175241300 tw4824825641441892659 tw4496190634621183650 tw1643855446202937297 tw13472486198621475214 tw12348836518211242861 tw13695417853684420251 tw1086449578628630417 tw15211087140510296454 tw5640748519320181135 tw15667075129303846093 tw15387326457277707530 tw15246377361907551514 tw8279940955168677895 tw8001834261854850724 tw7463601834278515241 tw6851427086127765966 tw6207984739124311683 tw5473361372499774196 tw3550457536229215852 tw3483973908393953954 tw7300484712718585831 tw6565465431077239073 tw3114214648289435385 tw13773168891496037706 tw11850876054688416911 tw9546775095169415720 tw9361473515473865597 tw9231966615823141854 tw8810967626022308890 tw8454468632209172800 tw8375841841596557799 tw7704026177098122504 tw6887727354955886830 tw6496665213298020292 tw5986734036127745491 tw5580003853874185677 tw556968929444207333 tw5287688835202188807 tw484868966336283516 tw483645021261107384 tw4663714819045193470 tw4547821171107335329 tw4150073898870078253 tw4142065926923029737 tw4048143838332858747 tw3886213092585413757 tw3464142805552228961 tw3106471175618868818 tw2962096333411630799 tw2543044009902659227 tw231383837071936428 tw2203288107521839098 tw2107831599400473093 tw2091542065226911621 tw18293302057713301564 tw17491897296007820252 tw17365035127739139776 tw17320587312881411703 tw16956349565802143754 tw16783282085773746948 tw15846532871221629095 tw15677515094864066525 tw15086021205458230094 tw1492970002327534497 tw14231802742055962598 tw13941978568398228652 tw13770571537976778230 tw13284338530339739764 tw13256481986678817555 tw13089146196137259098 tw12869056572007934824 tw12305457947736944673 tw11611249953215391684 tw11477494279620841259 tw11436831142847819041 tw11195112263882384043 tw10878792618528083058 tw10644092670667110917 tw10485653111433222137 tw10467894538733428738 tw10382699378074179653 tw10306721120836810406 tw5113508517749144920 tw3061133585602383313 tw6964575487390790902 tw14851214258703755860 tw13354769485142198872 tw11849952010770550558 tw9732346598300239881 tw4085752916604475109 tw3027174647163042735 tw1280446035659447830 tw9983000725346348097 tw876998759788400793 tw8300626102425278286 tw715215054233270994 tw3267882509484633443 tw3017966825303863836 tw17476828592565567578 tw1425560914111943178 tw3031683758777073721 tw14070011089987584120 tw9807239806783972208 tw9416937116750527262 tw8257540866483728445 tw7045633973452468003 tw440435357484245424 tw16272424541888501535 tw14484141168705741272 tw9658399774192594699 tw4057891390131252517 tw3120885529095625838 tw18399999312359773184 tw1808076040569873366 tw5730201224835383028 tw16293815166020807263 tw9828378266093176056 tw9756746095280337126 tw8486164763886929474 tw8235413376632321779 tw8214060313202689794 tw8139495266813926019 tw7476010738672408775 tw5906380129414466449 tw4823566249856681306 tw4794796821433828985 tw3975673868446961225 tw3928321822148072341 tw2346168832265250854 tw2111647309357927237 tw2001734703644055016 tw2001599627847905391 tw18091690139380986782 tw17767346725292035489 tw15517773383434209076 tw15272127553634625831 tw13975222762649274327 tw12672067583775165742 tw1238381109173116650 tw11997740583090795473 tw11648985404884564285 tw16347018152593025707 tw1325843197716804425 tw1606171494859490337 tw1642743631865075674 tw12601838138634784531 tw14956246726919800188 tw4984311225952266212 tw16407612908559937611 tw9203773453845963375 tw629917512311382115 tw11877467371553171912 tw1066918032136001596 tw8086686007580694243 tw6924833061202121260 tw6910946569837041879 tw6699088533379953722 tw5850751187361231675 tw5677970983446320355 tw5616931541024450219 tw5550878354774622725 tw5054651440984919544 tw4940561074766590740 tw493321183660214583 tw4480509153535451483 tw3501725844088886970 tw2967366348854934458 tw17858858467499964664 tw17362059164004236531 tw17265977269926957819 tw16373163292653519350 tw15935107577343170022 tw15797154589538365825 tw15651354115960575143 tw137949458313539113 tw12974165017166408690 tw11322717455374250501 tw10902334115104700069 tw10245618836601215116 tw5089471249674820432 tw2795685111103895046 tw930380070272194429 tw9020988273825143506 tw8937067062895966180 tw7854694549095006051 tw4021608747167194492 tw3844952956028732379 tw3279903551882039971 tw3006744738907302986 tw17018502742558131278 tw16202665489090728721 tw1039713621394594041 tw10386619385970361657 tw8859136996445370060 tw16473504256515205621 tw12481007191127581133 tw11609418041077198278 tw2639323572521962058 tw18330164489374985820 tw7647082831081914584 tw5290685254708584344 tw7869641937638323978 tw15279928905681896778 tw8496762874944923905 tw7412858434733153867 tw7404348388537452616 tw5974554209268134720 tw4064462609958613881 tw15765547907726123382 tw14683070433009036939 tw9293540599424859806 tw8692818878613714585 tw83236714639035727 tw6195385465934393331 tw6143904238740907324 tw3309086920373328666 tw2497282339554695339 tw18408305368945979930 tw18230976284596931495 tw16422634341906411758 tw16033107751979131615 tw15109168726110723080 tw14972487769069184561 tw1377230815261230872 tw12446629431307219299 tw11353153153216291298 tw11288378335466088332 tw11197559523906786288 tw106560373720235469 tw97960148558316398 tw2954013770403874212 tw5231596451430607782 tw14912524222186688144 tw8856298083159564806 tw7928263505882584274 tw687738882783961581 tw4138623574490208686 tw3874121759851377668 tw3746818883919082753 tw3011388717387849871 tw2932934321085769479 tw2702529040749596617 tw2329985153014605681 tw2314157392140968646 tw15480215436229983801 tw14257444480157906608 tw13324751457048376878 tw13300081569382162735 tw12797470708270668352 tw12333205714811370686 tw11421002525323549227 tw10514305696164133627 tw8501796843517463965 tw7960462550194821926 tw7376249481309069872 tw7059438885621966882 tw704410908174170469 tw5261171208514253000 tw4580308091837231989 tw2289922273334152504 tw17413563929867527806 tw1564089256403032913 tw14064478361536010735 tw12739697978916041552 tw11194323582941554619 tw353551089016924787 tw865204250110761885 tw980631705143609112 tw14409423655948154189 tw9647456785171633874 tw639620494193367103 tw15779043443118389848 tw13877667443094441941 tw8252847797596420038 tw8852057063445233154 tw8417233024885836238 tw7597846638479354991 tw7314114427264544147 tw705563595666295779 tw6900863637383349359 tw6354558685997824542 tw569260482045578719 tw5108030167819165285 tw4908003517228292353 tw3359425716371131049 tw3176873783307804805 tw2502581676950171475 tw17574505337084605475 tw11731578019460272206 tw11633784474069739563 tw1394605639132645391 tw9227898572446187009 tw9201714579779879833 tw7193494469052820561 tw6778497510929903796 tw6508313634917076168 tw6407310348958575277 tw477375054092282951 tw3776042682910582171 tw326910726217718733 tw2856303827175089021 tw2266107582144547666 tw190210737192177824 tw18142320373286659257 tw18132199616457366952 tw17620683271713434230 tw17096663876422311662 tw16804904929008241034 tw16218481500815266589 tw16132705404489020615 tw148913521682267400 tw14584837960417017554 tw14475603396532896602 tw14236476293970747779 tw141796431648380794 tw14155189617661128450 tw13819712896108328417 tw13722604608827961273 tw1309207842233471140 tw13045214000359520447 tw12870706782253153479 tw127081472929618270 tw11722563033944920972 tw10950246512504577138 tw10793820973697118099 tw1046887915539489057 tw9390935866368905434 tw938852063890639992 tw9071993472244977139 tw8695776335918111768 tw8666011704957758326 tw8046931921122617221 tw7784251444205434486 tw7109145634379877386 tw7108943188478663357 tw6825762146323449771 tw6704115801862564589 tw6514841219729916508 tw6008452862930148852 tw5181710387370591810 tw4873681059399500946 tw4800405619904307229 tw4383645081683921035 tw3993990325327246227 tw3876145005322060085 tw3562788646015677753 tw2889587023316654254 tw2404656190804621920 tw2327777648249243178 tw2038812349721768067 tw18070479930452705499 tw17753373936398420878 tw16998884226262419893 tw16865786117681650177 tw15895884658384408428 tw15339928881139045414 tw14930813085229266318 tw14823469553153924835 tw14263987468169939599 tw13513924477450617137 tw13385545550591078710 tw11597343699358679197 tw10399425264912410207 tw9982389218285000380 tw9950230322619336123 tw9933086975762015925 tw9788180341846303276 tw9739156372210913116 tw9705184110621070339 tw9694361935326998025 tw9669531632864710189 tw9667681535428203324 tw9649668668274502147 tw9636417638958355058 tw9636234024181039592 tw9582939772552834162 tw9541814903230275424 tw9533152586030170582 tw9420872910084856368 tw9408815696421417370 tw9355274309904750317 tw9340509712553746152 tw9315085458629773795 tw9212554295207438939 tw9210728485565710100 tw9156915153493874085 tw9129869764161106483 tw9102675100943339883 tw9049965376810786476 tw9037083778441398083 tw8994022536843105125 tw881217511612301935 tw8746206853628411891 tw8745665569132916613 tw872975098777421725 tw8692255089713427461 tw8671704632909296933 tw8594531241443320720 tw8410323037165953109 tw8399262455201341806 tw8375874050305479746 tw8337875675962212404 tw8297275563844425449 tw8265824369245533019 tw8263449922277546925 tw8223385782090539783 tw8133378059868097434 tw8040752056161283279 tw8000265469953934500 tw7899805786258669473 tw788879173412821071 tw7880147512197996998 tw7870311468320564995 tw7823922176976493654 tw7817178909622900253 tw7687647536730105370 tw7665779468133621514 tw7650971101468204564 tw7487717692160367780 tw748204546554929117 tw7416363956398376386 tw7410882177720880516 tw74050265438648717 tw7349826986732009902 tw7238389138962533492 tw7146643222293246264 tw7126726821861395053 tw7087094851782007780 tw7024739212754784865 tw698958754968682051 tw6855831506016600874 tw6834952819507398158 tw6761939623366355406 tw6689029127502115154 tw6624315588190868207 tw6588746824286329790 tw6557431406409535239 tw6528525290530459479 tw6501966737908458701 tw6454004569663618443 tw6377406709284186587 tw6317962891985336958 tw616657008749752210 tw6140845108734979786 tw6128398557475287008 tw6078903087286393587 tw6041385141301067280 tw6009358491274763438 tw5947598303280959690 tw5943981516527901582 tw5911856772674621837 tw5880456557859968051 tw5878930316925593726 tw583646223022210638 tw5797673161991195398 tw5707384115283876904 tw5692804979449752555 tw5674949343228619342 tw565251491267851925 tw5556540854071245712 tw554268556462233031 tw5531290535758413299 tw5523219703667289614 tw5412660278452801398 tw5411914314675238245 tw5371506874907936110 tw526299899504611415 tw5220512740532372240 tw5219160063215258084 tw5199097929478786621 tw5166649656768609561 tw51388512113987695 tw4966383563582242569 tw4907446464911053996 tw4889589152861121391 tw4832706618388051932 tw4701429103500591007 tw4690663388907077555 tw4682354832489457280 tw4676616784941957042 tw4576777675770603090 tw445783191698229763 tw4451006763191789765 tw4445394654485228062 tw4423594208086653836 tw4411382733767661649 tw4411173663683795942 tw4404421199571008139 tw4330696805855484942 tw4277601216130150715 tw4226875589598270369 tw4157207806502512476 tw4143527992850627000 tw4115541443594632704 tw4074677256349213201 tw4072921246208900993 tw4071805316108881826 tw4002615483325128966 tw4001212509050279167 tw3839156730410864429 tw3724029321153571781 tw3720178925692965708 tw3720171353253922567 tw3689233269800615704 tw3469736702263788056 tw3446944669052239333 tw338821620779576404 tw3381139373533801824 tw3335747988243407706 tw3332060120043737408 tw3251330395661095300 tw3199213780947389848 tw3114532825097945586 tw3065871530856679365 tw3039450810392508066 tw300770850899213769 tw295345260299169703 tw2878040396150531330 tw2873962663093012285 tw2841737475818264856 tw2821256488677392570 tw2765114509113854642 tw2720245464324542033 tw268416062187404102 tw268369795789654190 tw2659402441161132573 tw2630968010641461361 tw2556734205118022128 tw2509643377347207422 tw2485150623784991054 tw2437823065095276826 tw2377743657682751238 tw2351997476008829783 tw2314050115728183334 tw2238952087460974804 tw2167225935821149633 tw212656542730174729 tw1981875976536355676 tw1971088420228469427 tw1925847872435840862 tw190232676508543801 tw1880105208506611008 tw1879572035715877277 tw1834871313438477315 tw18343871071086553748 tw18323232035156205712 tw18274369965902911382 tw18171491795829953344 tw18108098531272481110 tw18044723645304831604 tw18038392177640040178 tw17997090381421305660 tw17899418061648334530 tw17819614497860842753 tw17781466561743294633 tw17768972693295875738 tw17760635312245405952 tw17737128045299337896 tw17732708939067790761 tw17667572779740327857 tw1766590070183389719 tw17631383977311622215 tw1756764437957512874 tw1751691734277150288 tw17485862669473863485 tw17413409026207233501 tw17409519617042763557 tw1740293505921163397 tw17395804730378052261 tw17273694837644761220 tw17132725547897558452 tw17054754038066060231 tw17053255094401243359 tw16979051205278584717 tw16876173557268596422 tw16857217416651273166 tw16832321694525088857 tw16718318844594115112 tw16575272700066079941 tw16559490422810397991 tw16556189255677894509 tw16483214106652168300 tw16467339479550096714 tw16457482051739411188 tw16377246478435443133 tw16360878578503849127 tw16307322960488204717 tw1629766532528734281 tw16288734327204771095 tw1626298448429988386 tw16123075220833586058 tw16110679636209307344 tw16092791665862185536 tw16078199731591882425 tw16002780128160712021 tw15949565748088325037 tw15949415611700406420 tw1592588100148777923 tw15919024106270932057 tw1584594803924305054 tw15694650261926866149 tw15692027311428518715 tw15556926091930818418 tw15523738287615081490 tw15466507332753688431 tw15461522461550425908 tw15436540409997818316 tw15398222551805323035 tw15389169791294613324 tw15323001756967467038 tw15275757665246481169 tw15262478622611578218 tw15258923979579685806 tw15208839052668266589 tw15192327898241661906 tw15181168299488879509 tw15039198039227186919 tw15002926684358913259 tw14994412989427037994 tw14973753542909414510 tw14972351976425983752 tw14971159093162780871 tw14949643641414260492 tw14925292945298184094 tw14918151089386318706 tw14892474756072177843 tw14879719400119688950 tw14872422654192894640 tw148723909919309187 tw14867523565408962003 tw14766329993316095868 tw14761031349144726107 tw14750065360680933286 tw14727966581770205361 tw14651607044405293315 tw1462667502322174643 tw14602962082127871069 tw14593368599640614613 tw14567311055276648541 tw14441275331278302664 tw14422678633980913268 tw14402546216718551660 tw14384907384830552544 tw14293430035106523094 tw14264090039265493282 tw14144520640033293506 tw14073305256555808261 tw1401012879115913579 tw14004629797435107818 tw13920902218125328820 tw13896137184554052997 tw13794059459291936816 tw13777814607097170165 tw13774542261255872305 tw13774046550142969589 tw13694372254695643554 tw13683011182498988432 tw13674914842077962327 tw1363653695535738503 tw1360647684115374071 tw13594144807109074237 tw13593172696742237949 tw13588599616009435416 tw13575092132739511838 tw13486685658697378350 tw13480660905334046154 tw13462261108222055088 tw1345954689306510522 tw13433250454276441553 tw13358969109787307966 tw13358024786556196897 tw13355749069923167727 tw13313379889006003573 tw13310689670357115843 tw13271494774670941360 tw1325109773434071176 tw13199958196103585381 tw13199905085895786481 tw13192348515437117931 tw13183060824896309010 tw13169893163469631344 tw13022525899973531066 tw13010107516730772592 tw13005468095075244 tw12986658995573577251 tw12903421666463352795 tw1289495605457016868 tw12843149496096897861 tw12774744822730647889 tw12714967624178920739 tw1264777008934574914 tw12609128629977792025 tw12592696126986943214 tw12532848954298006964 tw12466081839219635096 tw12392206371670433129 tw12304027485297681487 tw12249569440397444935 tw121224176524793800 tw12122016130920047629 tw12083216830904296671 tw12053915750944890587 tw11969769995449820258 tw1187670695084256197 tw11871588030912647639 tw11861761532906476384 tw11851293486834758325 tw11839469523330896044 tw11798386967667732502 tw11787597652634628868 tw11760482212028531528 tw1168441492968864839 tw11624054545843229987 tw11601461991452868294 tw11580278882935890780 tw11546017461936477833 tw11541352431232370612 tw11520173702473293015 tw1151747376483660271 tw11431491356559766371 tw11395842742561078974 tw11381088767379383228 tw11331984302302989118 tw11324572475831622902 tw11285678237979801064 tw11284313254207497262 tw11261151890973592249 tw11251422414164471420 tw11149785575340169956 tw11145706953006795926 tw11083840324939766284 tw11052308365671945482 tw11023130089541358228 tw10982826213698460882 tw1097402529808400067 tw10899630870151669438 tw10850554971153571169 tw10847570207708879365 tw10845870124919045746 tw10810349851863210329 tw10680662245755619431 tw10666812340905138280 tw10555190273041884628 tw10551028554721471891 tw10518584349386341115 tw10395035419560257501 tw10335173729593219158 tw10334918388102434229 tw10306945184968659267 tw10279983472859817653 tw10273864696784564633 tw10271845392352767432 tw10137072219919110387 tw10135799926260248523 tw10085937014924405940 tw10055717786656142103:True)
open PySem PySem.W PyProof.Rows
set_option maxRecDepth 100000 in
set_option maxHeartbeats 0 in
theorem PySem.Challenge.cw_roadsettings_k35_values_set_holds : PySem.Challenge.rw_roadsettings_k35_values_set.Holds := by
  w_on; o_law; k_head; (case hw => w_witness2)
  k_fill
  refine' K35.walk (l := PySem.Challenge.rw_roadsettings_k35_values_set) (P_z53 := 900) (P_z4 := 270) (P_z54 := 907) rfl rfl (fun w h Y => ⟨PySem.W.km_in_of Y, PySem.W.km_tabs_of Y⟩) ?hK ?hP0 ?hP1 ?hP2 (by decide) ?F
  case hP0 => decide
  case hP1 => decide
  case hP2 => decide
  case hK =>
    intro w b hb
    simp only [List.mem_cons, List.not_mem_nil, or_false] at hb
    rcases hb with rfl | rfl | rfl | rfl
    · exact ⟨by kernel_rfl, 904, by kernel_rfl⟩
    · exact ⟨by kernel_rfl, 274, by kernel_rfl⟩
    · exact ⟨by kernel_rfl, 377, by kernel_rfl⟩
    · exact ⟨by kernel_rfl, 909, by kernel_rfl⟩
  case F =>
    intro w mg fa h KX G hmg
    refine' K35.all_mk KX G hmg ?_ ?_ ?_ ?_ ?_ ?_ ?_ ?_ ?_ ?_ ?_ ?_ ?_ ?_ ?_ ?_ ?_ ?_ ?_ ?_ ?_ ?_ ?_ ?_ ?_ ?_ ?_ ?_ ?_ ?_ ?_ ?_ ?_ ?_ ?_ ?_ ?_ ?_ ?_ ?_ ?_ ?_ ?_ ?_ ?_ ?_ ?_ ?_ ?_ ?_ ?_ ?_ ?_ ?_ ?_ ?_ ?_ ?_ ?_ ?_ ?_ ?_ ?_ ?_ ?_ ?_ ?_ ?_ ?_ ?_ ?_ ?_ ?_ ?_ ?_ ?_ ?_ ?_ ?_ ?_ ?_ ?_ ?_ ?_ ?_ ?_ ?_ ?_ ?_ ?_ ?_ ?_ ?_ ?_ ?_ ?_ ?_ ?_ ?_ ?_ ?_ ?_ ?_ ?_ ?_ ?_ ?_ ?_ ?_ ?_ ?_ ?_ ?_ ?_ ?_ ?_ ?_ ?_ ?_ ?_ ?_ ?_ ?_ ?_ ?_
    all_goals try (first | refine ⟨⟨by k_is, by k_is, by k_is⟩, ⟨_, _, _, _, _, _, _, _, _, rfl, by k_is, by k_is⟩, by k_is⟩ | refine ⟨by k_is, ⟨_, _, _, _, _, _, _, _, _, rfl, by k_is, by k_is⟩, by k_is⟩ | refine ⟨by k_is, ⟨by k_is, by k_is, by k_is, by k_is⟩, by k_is, by k_is⟩ | refine ⟨⟨by k_is, by k_is, by k_is⟩, ⟨_, _, _, _, _, _, _, _, rfl, by k_is, by k_is⟩, by k_is, by kernel_rfl⟩ | refine ⟨by k_is, ⟨_, _, _, _, _, _, _, _, rfl, by k_is, by k_is⟩, by k_is, by kernel_rfl⟩ | (show _ = _; first | k_is | kernel_rfl))
