import PyProof.Rows.All
import Wide.All
import OpenK.AllK
import Wide.FinOn
import Lean
import PyProof.EqAt
import PyProof.EqKinds
import PyProof.TupleCall
import PyProof.AutoListH
import PyProof.ExcBaseAll.ValueError
import PyProof.ExcAttrAll.ValueError
import PyProof.Logic
import PyProof.StrReplace2
import KE.KDflt
import PySem.Challenge.RW_roadsettings_k33_worlds_copied
open PySem.W renaming Frag→Qa, nsIn→Qp, findIn→Qv, mg_none_of→QO, looks_findIn→QP, kia_one→QS, emptyDict→Gj, mg_of→Gx, instObj→Gz, Looks→GI, keepIn→GK, callWith_K→Jb, fnOf→JG, methodCall_KW→JR, plainGet→JU, plainGet_of→Pw, lookIn→PU, kitOne→PV, codeHdIn→PZ, methodObj→Te, hasDictIn→Tg, isFn→Sa, cellsFrom_some→Sd, takerIn→Sm, makesIn→Sn, OpenLaw→Sr, codeIn→SL, kdv_tup→Rg, callWith_K0→Rk, plainOver→RS, kitx_list→RU, kitx_dict→RV, handedIn→Ov, tabObj→OB, codeHd_of_K→OT
open PySem renaming Value→Qb, Shared→Qe, wpAny_bind→Qf, sizeLine→Qj, Program→Qk, mainGlobals→Ql, FuncData→Qn, wpAny→Qr, model→Qs, World→Qt, wpAny_pure→Qy, Around→QA, starEach→QE, wpAny_loadPart_at→QI, boot_len→QK, sizeLine_eq→QR, wpAny_mono→QW, wpAny_Call_Name_kw→QX, typeLookup→QZ, rawInt→Gd, wpAny_holding→Gh, wpAny_truthy_bool→Gi, codeAny_mono→Gk, wpAny_isSubtype_exc→Gp, checkBuiltinCall→Gs, NameKind→GE, wpAny_standAt→GH, compareOp→GJ, wpAny_passesOwn→GM, foldedSetIterable→GN, strIterType→GO, codeAny_call_builtin→GP, excClassObj→GQ, sysModules→GR, mem_of_lookup→GT, backTo→GU, wpAny_getItem_str_slice→GV, keywordEach→GX, codeAny→Ja, behindInMarks→Jc, Builtin→Jg, wpAny_call→Jm, Arguments→Jo, attributeBase→Jt, wpAny_comprehension_free→Ju, tupleKind_room_in1→Jz, sliceBounds→JC, bootBuiltins→JD, holding→JE, binaryOp→JF, wpAny_newObj_type→JJ, plainObj_wpAny_Assign_Attribute→JQ, wpAny_loadName_local→Pd, backToKw→Pe, wpAny_newFunctionEnv→Pf, wpAny_execs_nil→Ph, letOwnedTupleGo→Pi, post_val_or_str→Pp, codeAny_builtin→Pr, BindsTo→PD, swapsWith→PL, getMethod→PM, builtinsNs→PN, assignEach→PQ, wpAny_newFunctionEnv_cells→PX, bindName→Ta, standAt→Tf, wpAny_field→Tk, Paired→Tl, PyData→Tp, tupleKind→Tr, wpAny_execs_cons→Ts, callWith→Tu, compEnvC→TD, Result→Sb, closureFor→Sf, codeAny_compStart_list→Sg, wpAny_isTrue_Compare1→Sv, assign→SH, recursionLimit→SJ, lookup_relabel_local→SQ, wpAny_bindName→SX, wpAny_setField→SZ, unbindBehindTheSuite→Ra, callerA→Rc, relabel→Re, Fin→Rf, wpAny_loadName_cell→Rh, wpAny_Tuple_spliced→Rj, wpAt_of_wpAny→Rm, Model→Ro, assignInOrder→Rp, wpAny_Name→RA, wpAny_Constant_int→RB, wpAny_pyIter_tuple→RC, call_meets→RF, getattributeRaised→RI, Within→RM, GenState→RN, wpAny_assign_Name→RO, wpAny_pyIter_list→RQ, cLine→RW, bindArgs→RZ, Keyword→Oa, wpAny_evalAll_nil→Ob, seqIndex_neg→Oc, slot_list_getitem→Od, valueAt→Of, call_meetsIn→Og, wpAny_pyIter_strU→Oi, wpAny_pyIter_enum→Oj, wpAny_typeOf→Oo, wpAny_lookBehind→Ow, pastItsLine_dict→Ox, codeAmong→OC, take_succ_filter→OH, wpAny_madeBy_exc→OI, bindL→OP, seqIndex_of→OQ, wpAny_of_eq→OS, call_tuple_list→OX, codeAny_of_tree→Na, wpAt_bind→Nf, makeFunction_eq→Ng
open PySem.Heap renaming get?_push_of_some→Qd, lt_size→Qg, get?_push_size→Qo, get?_update_other→Gm, get?_update_self→Jd, get?_none_of_le→Jj, size_push→Jl, size_after_update→JP, get?_update_ne→Py, size_update→TK, SameBut→TX, get?_push_ne→Om, get?_push_at→Ot
open Nat renaming le_refl→Qh, le_trans→Qq, ne_of_lt→Qu, lt_of_lt_of_le→QD, zero_le→QH, lt_of_le_of_lt→QN, not_lt→QV, lt_irrefl→Gg, le_of_lt→GF, le_succ→GY, ne_of_gt→GZ, le_of_eq→Jn, sub_self→Jq, lt_succ_of_lt→JN, mul_le_mul_right→Pg, lt_succ_self→Tt, pow_le_pow_right→SU, lt_or_ge→Oh, min_self→Ol, pow_zero→Oq, mod_eq_of_lt→OE, le_add_right→OF, log2_lt→OR, mod_one→OV, min_le_left→Nc
open List renaming getElem?_eq_some_iff→Qi, replicate→QY, getElem?_zip_eq_some→Gq, lookup→Gw, length_eq_zero_iff→GW, length_singleton→Je, take_add_one→Jf, getElem_mem→Jp, filterMap_cons→Jr, range→Jx, pairwise_map→JL, take_of_length_le→JM, getElem?_set→JO, mem_iff_getElem?→JT, any_eq_true→JW, all_cons→JZ, mem_append_left→Pb, getElem?_set_ne→Pc, length_nil→Pk, append_nil→Pm, forIn_cons→Po, map_congr_left→Px, filterMap_nil→PY, length→Th, flatMap_cons→Tj, eq_of_mem_replicate→To, length_drop→Tv, take_length→TJ, getElem?_cons_succ→TQ, getElem?_set_self→TY, map_set→Sj, length_zip→Ss, all_append→Su, length_filter_le→Sy, mem_range→SG, nodup_nil→SY, mem_map_of_mem→Rl, set_comm→Ru, sum_cons→Rv, getElem?_drop→RG, zip_nil_right→RL, map_nil→Oe, nodup_append→On, append_assoc→Op, all_nil→Os, cons_append→OA, filter_cons→OG, isEmpty_nil→OM, foldl_cons→OZ
open PySem.Value renaming ref→Qm, none→QT, bool→Gy, builtin→Jv, str→PJ, int→Rb, type→Rz, float→ON
open PySem.Str renaming ofString→Qw
open PySem.F renaming plainAttrs_list→Qx, slot_list_append→QB, type_list_append→QC, excBase_ValueError→GL, typeOf_object_class→Ji, store_ValueError→Jw, slot_dict_get→JS, attrBase_ValueError→PH, slot_tuple_getattribute→Td, args_dict_get_2→Tw, plainAttrs_dict→Tx, slot_dict_items→TN, slot_list_count→TV, slot_list_index→TW, entry_dict_get→Se, plainAttrs_str→Sl, slot_str_join→SD, type_str_join→SE
open Bool renaming false_ne_true→Qz, and_eq_true→QM, false_eq_true→Gf, not_eq_true'→Jh, eq_iff_iff→Pj, or_true→Sk, or_eq_true→So, and_true→Rw
open Sum renaming inr→QF, inl→QQ
open Option.some renaming inj→QG
open Or renaming inl→QJ, inr→SO
open False renaming elim→QL
open PySem.Obj renaming mapSeq→QU, mapFields→Ge, data_mapFields→Tb, isFreed_of_fields→Sz
open Array renaming getElem?_eq_some_iff→Ga, length_toList→GS, getElem?_toList→Sw, toArray_toList→SV
open PySem.Builtin.Str renaming reprChar→Gb, strSliceIndices→PF
open PySem.NameKind renaming free→Gc
open PyProof.Rows renaming seqObj→Gn, assignInOrder_cons→Jy, subscriptTail_builtinR→JH, envOfC→JV, StrsAre→Pa, AllBare→Pz, callWith_type1→PB, listUpdate_at→Tq, get?_update_seq→Sq, arrOf→Rt, slot_tuple_getitem→RE, size_push'→RH, assignInOrder_nil→RP, callWith_builtin1→Oy, IsTup→OO, IntsAre→Nh, signs_ofString→Ni
open Option renaming map_eq_some_iff→Go, map_some→GA, isSome_map→Ti, isSome_iff_exists→Tn, bind_eq_some_iff→TU, getD_none→Oz
open True renaming intro→Gr
open Int renaming emod_lt_of_pos→Gu, emod_nonneg→GC, fdiv_eq_ediv_of_nonneg→Jk, fmod_eq_emod_of_nonneg→PR, le_refl→OW
open Ne renaming symm→Gv
open ForInStep renaming yield→GB
open PySem.PassesOwn renaming never→GD
open PySem.PyData renaming shown→GG, hasDictAll→JK, shownAll→Ps, depthAll→Pu, hasDict→SS, showableAll→RJ, tuple→Ou, list→OU
open PySem.Heap.SameBut renaming update→Js
open PySem.Code renaming quiet_builtin→JA, isFrame→RX
open Sum.inr renaming inj→JB
open PySem.Calls renaming callWith_builtin→JI, Name_function_global→PP, evalArgs_plain→SN, call_len_list→Ri, spliced_cons→RD, spliced_nil→RY
open PySem.Builtin.ObjectAttr renaming storeInDict→JX, newKeyGuard→OJ
open PySem.Paired renaming length→JY
open PySem.Challenge renaming pw_roadsettings_k33_worlds_copied→Tc
open LawfulMonad renaming pure_bind→Tz
open PySem.Builtin.Dict renaming updateFrom→TM
open PyProof renaming noPylong_small→TZ
open PySem.Around renaming under→Sc, frames_deeper→SK, under_plainId→SW
open ToString renaming toString→SI
open PySem.SeqAt.EqAt renaming bool_bool→SM, int_str→Rx, str_int→Ry
open PySem.EntryCells renaming newEntry→Rn
open PySem.Shared renaming TypeIs→Rq
open PySem.Heap.Ns1 renaming of_empty→RT
open List.Perm renaming nil_eq→OD
open PySem.W.Looks renaming ld→OL
open PySem.Heap.DictOf renaming new→OY
open Array.Perm renaming refl→Nb
set_option Elab.async false
set_option linter.all false
set_option maxRecDepth 100000
set_option maxHeartbeats 4000000
open List (all_eq_true any_cons contains_cons eq_nil_of_length_eq_zero find?_cons getD_eq_getElem?_getD getElem?_append_left getElem?_append_right getElem?_eq_getElem getElem?_map length_append length_cons length_map length_replicate length_set length_take lookup_cons map_append map_cons map_map mem_append mem_append_right mem_cons mem_cons_of_mem mem_cons_self mem_filter mem_filterMap mem_map mem_of_getElem? mem_singleton nodup_cons not_mem_nil of_mem_zip size_toArray)
local macro_rules | `(tactic| omega) => `(tactic| lia)
namespace L2
open PySem PySem.Spec PyProof.Rows
abbrev Zo:=Sum Int Str
def UX:Zo->Qb->Bool
 | .inl k,v=>Value.isInt k v
 | .inr x,v=>Value.isStrOf x v
def keyH (w:Qt):Zo->Int
 | .inl k=>hashInt k
 | .inr x=>hashStr w x
theorem Yl:∀{k:Zo}{v:Qb},UX k v=true->(∃ i t,k=QQ i/\v=Rb i t)\/(∃ x t,k=QF x/\v=PJ x t)
 | .inl i,v,h=>by
  obtain ⟨t,e⟩:=Value.isInt_shape (k:=i) (v:=v) h
  exact .inl ⟨i,t,rfl,e⟩
 | .inr x,v,h=>by
  obtain ⟨t,e⟩:=Value.isStrOf_shape (x:=x) (v:=v) h
  exact .inr ⟨x,t,rfl,e⟩
theorem Zhn (i:Int)(t:Tok):UX (.inl i) (.int i t)=true:=by simp [UX,Value.isInt]
theorem Zho (x:Str)(t:Tok):UX (.inr x) (.str x t)=true:=by simp [UX,Value.isStrOf]
theorem Zmg (a b:Int):decide ((QQ a:Zo)=QQ b)=(a == b):=by
 by_cases e:a=b
 ·subst e;simp
 ·have h:¬ (QQ a:Zo)=QQ b:=fun q=>e (Sum.inl.inj q)
  rw [decide_eq_false h]
  exact (beq_eq_false_iff_ne.mpr e).symm
theorem Zmj (a b:Str):decide ((QF a:Zo)=QF b)=decide (a=b):=by
 by_cases e:a=b
 ·subst e;simp
 ·have h:¬ (QF a:Zo)=QF b:=fun q=>e (JB q)
  rw [decide_eq_false h,decide_eq_false e]
theorem Zmh (a:Int)(b:Str):decide ((QQ a:Zo)=QF b)=false:=decide_eq_false (fun q=>nomatch q)
theorem Zmi (a:Str)(b:Int):decide ((QF a:Zo)=QQ b)=false:=decide_eq_false (fun q=>nomatch q)
def ZM (prog:Qk)(w:Qt):PySem.KeyKind prog w Zo where
 is:=UX
 hash:=keyH w
 inj := fun v a b ha hb=>by
  rcases Yl ha with ⟨i,t,rfl,rfl⟩ | ⟨x,t,rfl,rfl⟩
  ·rcases Yl hb with ⟨j,u,rfl,e⟩ | ⟨y,u,rfl,e⟩
   ·injection e with e1 _;rw [e1]
   ·exact nomatch e
  ·rcases Yl hb with ⟨j,u,rfl,e⟩ | ⟨y,u,rfl,e⟩
   ·exact nomatch e
   ·injection e with e1 _;rw [e1]
 byValue:=fun k v h=>by
  rcases Yl h with ⟨i,t,rfl,rfl⟩ | ⟨x,t,rfl,rfl⟩<;>rfl
 pyHash:=fun hv h=>by
  rcases Yl hv with ⟨i,t,rfl,rfl⟩ | ⟨x,t,rfl,rfl⟩
  ·exact wpAny_pyHash_int h
  ·exact wpAny_pyHash_str h
 eqBool:=fun hu hv h=>by
  rcases Yl hu with ⟨i,t,rfl,rfl⟩ | ⟨x,t,rfl,rfl⟩
  ·rcases Yl hv with ⟨j,u,rfl,rfl⟩ | ⟨y,u,rfl,rfl⟩
   ·rw [Zmg] at h;exact wpAny_eqBool_int h
   ·rw [Zmh] at h;exact Rx i t y u _ _ _ _ h
  ·rcases Yl hv with ⟨j,u,rfl,rfl⟩ | ⟨y,u,rfl,rfl⟩
   ·rw [Zmi] at h;exact Ry x t j u _ _ _ _ h
   ·rw [Zmj] at h;exact wpAny_eqBool_str h
 «strs»:=fun k x t v h=>by
  rcases Yl h with ⟨i,u,rfl,e⟩ | ⟨y,u,rfl,e⟩
  ·exact nomatch e
  ·injection e with e1 _
   subst e1
   cases v<;>rfl
theorem Zgc (prog:Qk)(w:Qt)(k:Zo)(v:Qb):(ZM prog w).is k v=UX k v:=rfl
theorem ZeD (prog:Qk)(w:Qt)(i:Int)(t:Tok):(ZM prog w).is (.inl i) (.int i t)=true:=Zhn i t
theorem Zas (prog:Qk)(w:Qt)(x:Str)(t:Tok):(ZM prog w).is (.inr x) (.str x t)=true:=Zho x t
inductive V where
 | non | bl (b:Bool) | int (i:Int) | str (x:Str) | byt (b:Array UInt8) | flt (b:UInt64) | ref (a:Addr) | ty (n:String)
 deriving DecidableEq
def RelV:V->Qb->Prop
 | .non,u=>u=QT
 | .bl b,u=>u=Gy b
 | .int i,u=>∃ t,u=Rb i t
 | .str x,u=>∃ t,u=PJ x t
 | .byt b,u=>∃ t,u=Value.bytes b t
 | .flt b,u=>∃ t,u=ON b t
 | .ref a,u=>u=Qm a
 | .ty n,u=>u=Rz n
abbrev Vals:List V->List Qb->Prop:=Tl RelV
theorem Vals.length (r:Vals xs us):xs.length=us.length:=JY r
theorem Vals.get:∀{xs:List V}{us:List Qb}{i:Nat}{x:V},Vals xs us->xs[i]?=some x->∃ u,us[i]?=some u/\RelV x u
 | _,_,_,_,.nil,e=>by simp at e
 | _,_,0,_,.cons r _,e=>by simp at e;subst e;exact ⟨_,rfl,r⟩
 | _,_,i+1,x,.cons _ t,e=>by
  obtain ⟨u,h1,h2⟩:=Vals.get (i:=i) (x:=x) t (by simpa using e)
  exact ⟨u,by simpa using h1,h2⟩
theorem Vals.set (r:RelV x u):∀{xs:List V}{us:List Qb}(i:Nat),Vals xs us->Vals (xs.set i x) (us.set i u)
 | _,_,_,.nil=>.nil
 | _,_,0,.cons _ t=>.cons r t
 | _,_,i+1,.cons q t=>.cons q (Vals.set r i t)
theorem Vals.append:∀{xs ys:List V}{us B:List Qb},Vals xs us->Vals ys B->Vals (xs++ys) (us++B)
 | _,_,_,_,.nil,s=>s
 | _,_,_,_,.cons r t,s=>.cons r (Vals.append t s)
theorem Vals.take:∀{xs:List V}{us:List Qb}(n:Nat),Vals xs us->Vals (xs.take n) (us.take n)
 | _,_,0,_=>.nil
 | _,_,_+1,.nil=>.nil
 | _,_,n+1,.cons r t=>.cons r (Vals.take n t)
theorem Vals.drop:∀{xs:List V}{us:List Qb}(n:Nat),Vals xs us->Vals (xs.drop n) (us.drop n)
 | _,_,0,r=>r
 | _,_,_+1,.nil=>.nil
 | _,_,n+1,.cons _ t=>Vals.drop n t
def RelO:Option V->Option Qb->Prop
 | some v,some u=>RelV v u
 | none,none=>True
 | _,_=>False
def KV {κ:Type}:List (κ×V)->List (κ×Qb)->Prop:=Tl fun (p:κ×V) (q:κ×Qb)=>p.1=q.1/\RelV p.2 q.2
def kV:Zo->V
 | .inl i=>.int i
 | .inr x=>.str x
inductive HO where
 | lst (xs:List V)
 | tup (xs:List V)
 | dK (kvs:List (Zo×V)) | dT (kvs:List (List Zo×V))
 | set (S:Int->Bool) (n:Nat)
 | ins (C dx:Addr) (fs:List (Str×V))
 | own (x:Addr)
 | xd (fs:List (Str×V))
 | met (f x:Addr)
 | rng (lo hi:Int)
 | frz (o:Obj) (u:HO)
 | tbl (ps:Array Qb)
 | ext (φ:Heap->Prop)
abbrev Hp:=Addr->Option HO
def upd (H:Hp)(a:Addr)(o:HO):Hp:=fun b=>if b=a then some o else H b
theorem Ze :upd H a o a=some o:=by unfold upd;rw [if_pos rfl]
theorem Zh (h:b≠a):upd H a o b=H b:=by unfold upd;rw [if_neg h]
theorem Zbj {H:Hp}{a b:Addr}{o u:HO}(h:H a=some o)(h':H b=some u)(d:o≠u):a≠b:=by
 intro e;subst e;rw [h] at h';exact d (QG h')
theorem Zq {H:Hp}{a b:Addr}{o:HO}(h:H a=some o)(h':H b=none):a≠b:=by
 intro e;subst e;rw [h] at h';cases h'
section
variable (P:Qk)(w:Qt)
def ObjOk (H:Hp)(h:Heap)(a:Addr):HO->Prop
 | .lst xs=>xs.length<=Qj/\∃ (its:List Qb) (n:Nat),Vals xs its/\h.get? a=some { cls:=.type "list",data:=.seq its.toArray n }
 | .tup xs=>xs.length<=Qj/\∃ its:List Qb,Vals xs its/\OO h a its.toArray
 | .dK kvs=>kvs.length<=Qj/\(a == GR)=false/\∃ vs,KV kvs vs/\h.DictOf (ZM P w) a vs
 | .dT kvs=>kvs.length<=Qj/\(a == GR)=false/\∃ xs:List (List Zo×Addr×Qb),
     Tl (fun (p:List Zo×V) (q:List Zo×Addr×Qb)=>p.1=q.1/\H q.2.1=some (.tup (p.1.map kV))/\RelV p.2 q.2.2) kvs xs /\
     ∃ o es ep,h.get? a=some o/\o.ExactDict/\o.data=.dict es ep/\es.toList=xs.map (entryOfKey (Tr (ZM P w)))/\(xs.map (·.1)).Nodup
 | .set S n=>h.SetOf (intKind P w) a S n
 | .ins C dx fs=>H dx=some (.own a)/\fs.length<=1000/\dx≠a/\h.get? a=some (Gz C dx) /\
     ∃ mA,h.Ns1 dx mA/\(∀ f,RelO (fs.lookup f) (mA f))/\RM mA (fs.map (·.1))
 | .own _=>∃ o,h.get? a=some o
 | .xd fs=>∃ mA,h.Ns1 a mA/\∀ f,RelO (fs.lookup f) (mA f)
 | .rng lo hi=>∃ t u v,h.get? a=some { cls:=.type "range",data:=.fields #[.int lo t,.int hi u,.int 1 v] }
 | .frz o u=>h.get? a=some o/\ObjOk H h a u
 | .tbl ps=>h.get? a=some { cls:=.none,data:=.fields ps }
 | .met f x=>h.get? a=some (Te (.ref f) (.ref x))
 | .ext φ=>φ h/\(∃ o,h.get? a=some o)/\∀ h1 h2:Heap,φ h1->(∀ o,h1.get? a=some o->h2.get? a=some o)->φ h2
def HOk (H:Hp)(h:Heap):Prop:=∀ a o,H a=some o->ObjOk P w H h a o
end
section
variable {P:Qk}{w:Qt}{H H':Hp}{h h':Heap}{a:Addr}{o:HO}
theorem ObjOk.lt (x:ObjOk P w H h a o):a < h.objs.size:=by
 cases o with
 | lst xs=>obtain ⟨_,_,_,_,e⟩:=x;exact Qg e
 | tup xs=>obtain ⟨_,_,_,p⟩:=x;exact p.lt
 | dK kvs=>obtain ⟨_,_,_,_,o,_,_,e,_⟩:=x;exact Qg e
 | dT kvs=>obtain ⟨_,_,_,_,o,_,_,e,_⟩:=x;exact Qg e
 | set S n=>obtain ⟨o,_,_,_,e,_⟩:=x;exact Qg e
 | ins C dx fs=>obtain ⟨_,_,_,e,_⟩:=x;exact Qg e
 | own y=>obtain ⟨_,e⟩:=x;exact Qg e
 | xd fs=>obtain ⟨_,⟨_,_,_,e,_⟩,_⟩:=x;exact Qg e
 | rng lo hi=>obtain ⟨_,_,_,e⟩:=x;exact Qg e
 | frz ob u=>obtain ⟨e,_⟩:=x;exact Qg e
 | tbl ps=>exact Qg (show h.get? a=some _ from x)
 | met f y=>exact Qg (show h.get? a=some _ from x)
 | ext φ=>obtain ⟨_,⟨_,e⟩,_⟩:=x;exact Qg e
theorem Tl.mapP {S J:Type}{F G:S->J->Prop}:∀{I:List S}{B:List J},Tl F I B->(∀ a b,F a b->G a b)->Tl G I B
 | _,_,.nil,_=>.nil
 | _,_,.cons r t,f=>.cons (f _ _ r) (Tl.mapP t f)
theorem ObjOk.stay (x:ObjOk P w H h a o)(k:∀ b u,(b=a\/H b=some (.own a))->h.get? b=some u->h'.get? b=some u)
 (U:∀ b,H b=some (.own a)->H' b=some (.own a)) (W:∀ b xs,H b=some (.tup xs)->H' b=some (.tup xs)):ObjOk P w H' h' a o:=by
 induction o with
 | lst xs=>obtain ⟨z,G,n,r,e⟩:=x;exact ⟨z,G,n,r,k _ _ (.inl rfl) e⟩
 | tup xs=>obtain ⟨z,G,r,B,e,c⟩:=x;exact ⟨z,G,r,B,k _ _ (.inl rfl) e,c⟩
 | dK kvs=>obtain ⟨z,y,vs,r,B,es,ep,e,c⟩:=x;exact ⟨z,y,vs,r,B,es,ep,k _ _ (.inl rfl) e,c⟩
 | dT kvs =>
  obtain ⟨z,y,xs,r,B,es,ep,e,c⟩:=x
  exact ⟨z,y,xs,Tl.mapP r fun p q z=>⟨z.1,W _ _ z.2.1,z.2.2⟩,B,es,ep,k _ _ (.inl rfl) e,c⟩
 | set S n=>obtain ⟨B,es,ep,t,e,c⟩:=x;exact ⟨B,es,ep,t,k _ _ (.inl rfl) e,c⟩
 | ins C dx fs =>
  obtain ⟨d,z,ne,e,mA,⟨I,es,ep,J,c⟩,r⟩:=x
  exact ⟨U _ d,z,ne,k _ _ (.inl rfl) e,mA,⟨I,es,ep,k _ _ (.inr d) J,c⟩,r⟩
 | own y=>obtain ⟨B,e⟩:=x;exact ⟨B,k _ _ (.inl rfl) e⟩
 | xd fs=>obtain ⟨mA,⟨I,es,ep,e,c⟩,r⟩:=x;exact ⟨mA,⟨I,es,ep,k _ _ (.inl rfl) e,c⟩,r⟩
 | rng lo hi=>obtain ⟨t,u,v,e⟩:=x;exact ⟨t,u,v,k _ _ (.inl rfl) e⟩
 | frz B u ih=>obtain ⟨e,q⟩:=x;exact ⟨k _ _ (.inl rfl) e,ih q⟩
 | tbl ps =>
  have e:h.get? a=some { cls:=.none,data:=.fields ps }:=x
  show h'.get? a=some { cls:=.none,data:=.fields ps }
  exact k a _ (.inl rfl) e
 | met f y =>
  have e:h.get? a=some (Te (.ref f) (.ref y)):=x
  show h'.get? a=some (Te (.ref f) (.ref y))
  exact k a _ (.inl rfl) e
 | ext φ=>obtain ⟨p,⟨o,e⟩,st⟩:=x;exact ⟨st _ _ p fun o q=>k _ _ (.inl rfl) q,⟨o,k _ _ (.inl rfl) e⟩,st⟩
theorem HOk.lt (x:HOk P w H h)(e:H a=some o):a < h.objs.size:=(x a o e).lt
theorem HOk.fresh (x:HOk P w H h)(e:h.objs.size<=a):H a=none:=by
 cases q:H a with
 | none=>rfl
 | some u=>exact absurd (QD (x.lt q) e) (Gg _)
theorem HOk.kept (x:HOk P w H h)(k:∀ b u,h.get? b=some u->h'.get? b=some u):HOk P w H h':=fun a o e =>
 (x a o e).stay (fun b u _ q=>k b u q) (fun _ q=>q) fun _ _ q=>q
theorem HOk.laid (x:HOk P w H h)(k:∀ b u,h.get? b=some u->h'.get? b=some u)(hp:h.objs.size<=a)(new:ObjOk P w (upd H a o) h' a o):HOk P w (upd H a o) h':=fun b u e=>by
 have B:=x.fresh hp
 by_cases hb:b=a
 ·subst hb;rw [Ze] at e;cases e;exact new
 ·rw [Zh hb] at e
  exact (x b u e).stay (fun c v _ q=>k c v q) (fun c q=>by rw [Zh (Zq q B)];exact q) fun c xs q=>by rw [Zh (Zq q B)];exact q
end
def Rd (H:Hp)(a:Addr)(u:HO):Prop:=H a=some u\/∃ o,H a=some (.frz o u)
theorem Rd.ok (r:Rd H a u)(x:HOk P w H h):ObjOk P w H h a u:=by
 rcases r with r | ⟨o,r⟩
 ·exact x a u r
 ·obtain ⟨_,q⟩:=x a _ r
  exact q
def Mut:Option HO->Prop
 | some (.lst _)=>True
 | some (.dK _)=>True
 | some (.dT _)=>True
 | some (.set _ _)=>True
 | some (.ins _ _ _)=>True
 | some (.ext _)=>True
 | _=>False
section
variable {P:Qk}{w:Qt}{H:Hp}{h h':Heap}{x e:Addr}{o':HO}
theorem HOk.write (ok:HOk P w H h)(J:Mut (H x))(W:e=x\/H e=some (.own x))(k:∀ b u,b≠e->h.get? b=some u->h'.get? b=some u)(S:∃ u,h'.get? e=some u)
 (new:ObjOk P w (upd H x o') h' x o'):HOk P w (upd H x o') h':=fun b u q=>by
 have G:∀ c y,H c=some (.own y)->c≠x:=fun c y r z=>by subst z;rw [r] at J;exact J
 have I:∀ c xs,H c=some (.tup xs)->c≠x:=fun c xs r z=>by subst z;rw [r] at J;exact J
 by_cases hb:b=x
 ·subst hb;rw [Ze] at q;cases q;exact new
 ·rw [Zh hb] at q
  by_cases B:b=e
  ·have U:H b=some (.own x):=by
    rcases W with z | z
    ·exact absurd (B.trans z) hb
    ·rw [B];exact z
   rw [q] at U;cases U
   obtain ⟨v,Z⟩:=S
   exact ⟨v,by rw [B];exact Z⟩
  ·refine (ok b u q).stay (fun c v hc r=>k c v ?_ r) (fun c r=>by rw [Zh (G c b r)];exact r) fun c xs r=>by rw [Zh (I c xs r)];exact r
   rcases hc with rfl | hc
   ·exact B
   ·rintro rfl
    rcases W with z | z
    ·exact G c b hc z
    ·rw [hc] at z;cases z;exact hb rfl
end
structure Un (fs ex:List Addr)(H H':Hp)(h h':Heap):Prop where
 keep:∀ b o,h.get? b=some o->H b=none->b ∉ fs->b ∉ ex->h'.get? b=some o
 slot:∀ b o,h.get? b=some o->H b=none->b∈fs->b ∉ ex->∃ sl,h'.get? b=some { o with slots:=sl }
 free:∀ b o,h.get? b=some o->H b=none->b ∉ ex->H' b=none
 there:∀ b o,h.get? b=some o->b ∉ ex->∃ o',h'.get? b=some o'
 tups:∀ b xs,H b=some (.tup xs)->H' b=some (.tup xs)
 frzs:∀ b o u,H b=some (.frz o u)->H' b=some (.frz o u)
 tbls:∀ b ps,H b=some (.tbl ps)->∃ more,H' b=some (.tbl (ps++more))
section
variable {fs fs' ex ex':List Addr}{H H1 H2:Hp}{h h1 h2 h':Heap}{a x e:Addr}{o:HO}
theorem Un.any (u:Un fs ex H H1 h h1)(q:h.get? b=some B)(n:H b=none)(G:b ∉ ex):∃ I,h1.get? b=some { B with slots:=I }:=by
 by_cases hb:b∈fs
 ·exact u.slot b B q n hb G
 ·exact ⟨B.slots,u.keep b B q n hb G⟩
theorem Un.kept (k:∀ b u,h.get? b=some u->h'.get? b=some u):Un fs ex H H h h' :=
 ⟨fun b B q _ _ _=>k b B q,fun b B q _ _ _=>⟨B.slots,k b B q⟩,fun _ _ _ n _=>n,fun b B q _=>⟨B,k b B q⟩,fun _ _ q=>q,fun _ _ _ q=>q,fun _ ps q=>⟨#[],by rw [q];simp⟩⟩
theorem Un.refl:Un fs ex H H h h:=Un.kept fun _ _ q=>q
theorem Un.laid (k:∀ b u,h.get? b=some u->h'.get? b=some u)(hp:h.objs.size<=a)(B:H a=none):Un fs ex H (upd H a o) h h' where
 keep:=fun b u q _ _ _=>k b u q
 slot:=fun b u q _ _ _=>⟨u.slots,k b u q⟩
 free:=fun b u q n _=>by rw [Zh (Qu (QD (Qg q) hp))];exact n
 there:=fun b u q _=>⟨u,k b u q⟩
 tups:=fun b xs q=>by rw [Zh (Zq q B)];exact q
 frzs:=fun b u xs q=>by rw [Zh (Zq q B)];exact q
 tbls:=fun b ps q=>⟨#[],by rw [Zh (Zq q B),q];simp⟩
theorem Un.write (G:Mut (H x))(U:e=x\/H e=some (.own x))(k:∀ b u,b≠e->h.get? b=some u->h'.get? b=some u)(J:∃ u,h'.get? e=some u):Un fs ex H (upd H x o) h h':=by
 have S:∀ b,H b=none->b≠x:=fun b n z=>by subst z;rw [n] at G;exact G
 have hb:∀ b,H b=none->b≠e:=fun b n z=>by
  subst z
  rcases U with r | r
  ·exact S b n r
  ·rw [n] at r;cases r
 have I:∀ b u,H b=some u->¬ Mut (some u)->b≠x:=fun b u q nm z=>by subst z;rw [q] at G;exact nm G
 refine ⟨fun b u q n _ _=>k b u (hb b n) q,fun b u q n _ _=>⟨u.slots,k b u (hb b n) q⟩,fun b u q n _=>by rw [Zh (S b n)];exact n,fun b u q _=>?_,
  fun b xs q=>by rw [Zh (I b _ q fun z=>z)];exact q,fun b u xs q=>by rw [Zh (I b _ q fun z=>z)];exact q,fun b ps q=>⟨#[],by rw [Zh (I b _ q fun z=>z),q];simp⟩⟩
 by_cases B:b=e
 ·subst B;exact J
 ·exact ⟨u,k b u B q⟩
end
def trk (h:Heap)(H:Hp):List Addr:=(Jx h.objs.size).filter fun a=>(H a).isSome
def Uq (h:Heap)(H:Hp):Heap:=PySem.W.hideAll h (trk h H)
theorem Zhg (h:Heap)(H:Hp):(Uq h H).objs.size=h.objs.size:=PySem.W.hideAll_size _ _
theorem ZiR (e:h.get? b=some o)(n:H b=none):(Uq h H).get? b=some o :=
 PySem.W.hideAll_get _ e fun B=>by
  have q:(H b).isSome=true:=(mem_filter.mp B).2
  rw [n] at q;simp at q
theorem ZkI (e:(Uq h H).get? b=some o):h.get? b=some o/\H b=none:=by
 have B:h.get? b=some o:=PySem.W.of_hideAll (trk h H) e
 refine ⟨B,?_⟩
 cases q:H b with
 | none=>rfl
 | some x =>
  have G:b∈trk h H:=mem_filter.mpr ⟨SG.mpr (Qg B),by simp [q]⟩
  have z:(Uq h H).get? b=none:=PySem.W.hideAll_none (trk h H) G
  rw [z] at e;cases e
structure Mod (K:Qa)(mg:Str->Option Qb)(base:Heap):Prop where
 kin:K.In base
 glob:base.Ns Ql mg
 blt:∃ mb,base.Ns PN mb/\∀ x:Str,x≠"__name__"->mb x=JD x
 nolimit:base.NoLimit
structure Cx where
 prog:Qk
 w:Qt
 K:Qa
 mg:Str->Option Qb
 base:Heap
 A:QA
 N:List Str
 s₀:Qe
 H₀:Hp
 env:Env
 outer:List Env
 stack:List Env
 ex:List Addr
 fn:Str->Bool
 calm:Bool
 pn:List (Addr×Obj)
 xe:Qb->Qe->Prop
def Yv (l:List Env):List Addr:=l.filterMap (·.frame)
abbrev Cx.fs (X:Cx):List Addr:=Yv X.outer
def Vis (sc:Scope)(x:Str):Prop:=sc.names.lookup x=some .local\/sc.names.lookup x=some .cell\/sc.names.lookup x=some .free
def Loc (sc:Scope)(x:Str):Prop:=sc.names.lookup x=some .local\/sc.names.lookup x=some .cell
def Look (env:Env)(h:Heap)(m:Str->Option Qb)(x:Str)(u:Qb):Prop :=
 (env.kindOf x=some .local/\m x=some u)\/((env.kindOf x=some .cell\/env.kindOf x=some .free)/\∃ c,env.cells.lookup x=some c/\h.IsCell c (some u))
structure Cx.Ok (X:Cx):Prop where
 mod:Mod X.K X.mg X.base
 kind:X.env.scope.kind=.function
 glob:X.env.globals=Ql
 blt:X.env.builtins=PN
 above:X.s₀.heap.objs.size<=X.env.locals
 inj:∀ x y c,X.env.cells.lookup x=some c->X.env.cells.lookup y=some c->x=y
 has:∀ x,(X.env.kindOf x=some .cell\/X.env.kindOf x=some .free)->∃ c,X.env.cells.lookup x=some c
 cab:∀ x c,X.fn x=true->X.env.cells.lookup x=some c->X.s₀.heap.objs.size<=c
 hd:X.calm=true->X.A.handled=none
 frames:X.A.frames=some X.stack
 stk:X.stack=X.outer\/(X.stack=X.env::X.outer/\X.env.frame=some X.env.locals)
 exf:∀ b∈X.ex,b≠X.env.locals/\∀ x c,X.env.cells.lookup x=some c->c≠b
 bs:∀ b o,X.base.get? b=some o->X.s₀.heap.get? b=some o/\X.H₀ b=none
 bsz:X.base.objs.size<=X.s₀.heap.objs.size
 noex:∀ b o,X.base.get? b=some o->b ∉ X.ex
 exfs:∀ b∈X.ex,b ∉ X.fs
 funs:X.s₀.heap.FunFrames X.base X.outer
 frf:∀ b∈X.fs,X.H₀ b=none
structure Inv (X:Cx)(pins:List (Addr×Obj))(σ:List (Option V))(H:Hp)(s:Qe):Prop where
 ok:X.Ok
 os:s.os=X.s₀.os
 bare:Pz s.gens
 base:Un X.fs X.ex X.H₀ H X.s₀.heap s.heap
 loc:∃ m,s.heap.Ns X.env.locals m/\∀ (i:Nat) (x:Str) (v:V),X.N[i]?=some x->σ[i]?=some (some v)->Vis X.env.scope x->∃ u,RelV v u/\Look X.env s.heap m x u
 cell:∀ x c,X.env.cells.lookup x=some c->∃ v,s.heap.IsCell c v
 free:H X.env.locals=none
 freeC:∀ x c,X.env.cells.lookup x=some c->H c=none
 pin:∀ p∈X.pn++pins,s.heap.get? p.1=some p.2/\H p.1=none/\p.1≠X.env.locals/\p.1 ∉ X.fs/\∀ v,p.2.data≠.cell v
 hok:HOk X.prog X.w H s.heap
 len:σ.length=X.N.length
section
variable {X:Cx}{pins:List (Addr×Obj)}{σ:List (Option V)}{H H':Hp}{s:Qe}{h':Heap}
theorem Cx.Ok.nofr (ok:X.Ok)(e:X.base.get? b=some o):b ∉ X.fs:=fun hb=>by
 have:=(ok.funs.mem hb).1
 rw [e] at this;cases this
theorem Inv.bs (I:Inv X pins σ H s):∀ b o,X.base.get? b=some o->s.heap.get? b=some o/\H b=none:=fun b o e =>
 ⟨I.base.keep b o (I.ok.bs b o e).1 (I.ok.bs b o e).2 (I.ok.nofr e) (I.ok.noex b o e),I.base.free b o (I.ok.bs b o e).1 (I.ok.bs b o e).2 (I.ok.noex b o e)⟩
theorem Inv.bk (I:Inv X pins σ H s):∀ b o,X.base.get? b=some o->s.heap.get? b=some o:=fun b o e=>(I.bs b o e).1
theorem Inv.mod (I:Inv X pins σ H s):Mod X.K X.mg X.base:=I.ok.mod
theorem Inv.kIn (I:Inv X pins σ H s):X.K.In s.heap:=I.ok.mod.kin.keeps I.bk
theorem Inv.nolimit (I:Inv X pins σ H s):s.heap.NoLimit:=I.ok.mod.nolimit.keeps I.bk
theorem Inv.lt (I:Inv X pins σ H s):X.env.locals < s.heap.objs.size:=let ⟨_,hn,_⟩:=I.loc;hn.lt
theorem Inv.sz (I:Inv X pins σ H s):X.s₀.heap.objs.size<=s.heap.objs.size:=Qq I.ok.above (GF I.lt)
theorem Inv.nofs (I:Inv X pins σ H s)(h:s.heap.objs.size<=a):a ∉ X.fs:=fun hb=>by
 obtain ⟨_,o,B,_⟩:=I.ok.funs.mem hb
 exact absurd (QD (Qg B) (Qq I.sz h)) (Gg _)
theorem Inv.cne (I:Inv X pins σ H s):∀ x c,X.env.cells.lookup x=some c->c≠X.env.locals:=fun x c e z=>by
 obtain ⟨v,o,S,J⟩:=I.cell x c e
 obtain ⟨m,⟨o',es,ep,G,B,_⟩,_⟩:=I.loc
 rw [z,G] at S;cases S;rw [B] at J;cases J
theorem Inv.funs (I:Inv X pins σ H s):s.heap.FunFrames X.base X.outer:=by
 have all:∀ (l:List Env),(∀ b∈Yv l,b∈X.fs)->X.s₀.heap.FunFrames X.base l->s.heap.FunFrames X.base l:=by
  intro l
  induction l with
  | nil=>intro _ _;trivial
  | cons env r ih =>
   intro J Z
   obtain ⟨W,⟨L,o,G,hn,ho,U⟩,S⟩:=Z
   have B:L∈X.fs:=J L (by unfold Yv;rw [Jr,G];exact mem_cons_self)
   obtain ⟨sl,e⟩:=I.base.slot L o ho (I.ok.frf L B) B fun z=>I.ok.exfs L z B
   exact ⟨W,⟨L,_,G,hn,e,U⟩,ih (fun b hb=>J b (by unfold Yv;rw [Jr,G];exact mem_cons_of_mem _ hb)) S⟩
 exact all X.outer (fun _ hb=>hb) I.ok.funs
theorem Inv.stack (I:Inv X pins σ H s):s.heap.FunFrames X.base X.stack:=by
 rcases I.ok.stk with e | ⟨e,G⟩
 ·rw [e];exact I.funs
 ·rw [e]
  obtain ⟨m,B,_⟩:=I.loc
  refine .cons (by rw [I.ok.kind];decide) G B ?_ I.funs
  exact Jj (Qq I.ok.bsz I.ok.above)
theorem Inv.stkSub (I:Inv X pins σ H s):∀ b∈Yv X.stack,b∈X.env.locals::X.fs:=fun b hb=>by
 rcases I.ok.stk with e | ⟨e,B⟩
 ·rw [e] at hb;exact mem_cons_of_mem _ hb
 ·rw [e] at hb
  unfold Yv at hb
  rw [Jr,B] at hb
  exact hb
theorem Inv.stkFree (I:Inv X pins σ H s):∀ b∈Yv X.stack,H b=none:=fun b hb=>by
 rcases mem_cons.mp (I.stkSub b hb) with e | hb
 ·rw [e];exact I.free
 ·obtain ⟨_,o,B,_⟩:=I.ok.funs.mem hb
  exact I.base.free b o B (I.ok.frf b hb) fun z=>I.ok.exfs b z hb
theorem Inv.step {g':Array RN}{t':Nat}{d':Drawn}{ch:List Addr}(I:Inv X pins σ H s)
 (U:∀ b∈ch,(b∈X.ex\/X.s₀.heap.objs.size<=b)/\b≠X.env.locals/\(∀ x c,X.env.cells.lookup x=some c->c≠b)/\∀ p∈X.pn++pins,p.1≠b)
 (keep:∀ b o,b≠X.env.locals->b ∉ X.fs->b ∉ ch->s.heap.get? b=some o->H b=none->h'.get? b=some o)
 (Z:∀ b o,b≠X.env.locals->b∈X.fs->b ∉ ch->s.heap.get? b=some o->H b=none->∃ sl,h'.get? b=some { o with slots:=sl }) (G:∀ b o,b ∉ ch->s.heap.get? b=some o->H b=none->H' b=none)
 (there:∀ b o,b ∉ ch->s.heap.get? b=some o->∃ o',h'.get? b=some o')
 (tups:∀ b xs,H b=some (.tup xs)->H' b=some (.tup xs)) (frzs:∀ b o u,H b=some (.frz o u)->H' b=some (.frz o u)) (tbls:∀ b ps,H b=some (.tbl ps)->∃ more,H' b=some (.tbl (ps++more)))
 (ns:∀ m,s.heap.Ns X.env.locals m->h'.Ns X.env.locals m) (hok:HOk X.prog X.w H' h') (hg:Pz g') :
 Inv X pins σ H' { s with heap:=h',gens:=g',drawn:=d',toks:=t' }:=by
 have neL:∀ b o,X.s₀.heap.get? b=some o->b≠X.env.locals:=fun b o e=>Qu (QD (Qg e) I.ok.above)
 have W:∀ b o,X.s₀.heap.get? b=some o->b ∉ X.ex->b ∉ ch:=fun b o e B hb=>by
  rcases (U b hb).1 with z | z
  ·exact B z
  ·exact absurd (QD (Qg e) z) (Gg _)
 have S:∀ x c,X.env.cells.lookup x=some c->∀ v,s.heap.IsCell c v->h'.IsCell c v:=fun x c e v ⟨o,ho,hd⟩=>by
  have J:c ∉ ch:=fun z=>(U c z).2.2.1 x c e rfl
  by_cases hc:c∈X.fs
  ·obtain ⟨sl,q⟩:=Z c o (I.cne x c e) hc J ho (I.freeC x c e)
   exact ⟨_,q,hd⟩
  ·exact ⟨o,keep c o (I.cne x c e) hc J ho (I.freeC x c e),hd⟩
 refine ⟨I.ok,I.os,hg,⟨fun b o e n hb B=>?_,fun b o e n hb B=>?_,fun b o e n B=>?_,fun b o e B=>?_,fun b xs e=>tups b xs (I.base.tups b xs e),fun b o xs e=>frzs b o xs (I.base.frzs b o xs e),fun b ps e=>?_⟩,?_,fun x c e=>?_,?_,fun x c e=>?_,fun p hp=>?_,hok,I.len⟩
 ·exact keep b o (neL b o e) hb (W b o e B) (I.base.keep b o e n hb B) (I.base.free b o e n B)
 ·obtain ⟨sl,e1⟩:=I.base.slot b o e n hb B
  obtain ⟨sl',e2⟩:=Z b _ (neL b o e) hb (W b o e B) e1 (I.base.free b o e n B)
  exact ⟨sl',e2⟩
 ·obtain ⟨o',e1⟩:=I.base.there b o e B
  exact G b o' (W b o e B) e1 (I.base.free b o e n B)
 ·obtain ⟨o',e1⟩:=I.base.there b o e B
  exact there b o' (W b o e B) e1
 ·obtain ⟨m1,e1⟩:=I.base.tbls b ps e
  obtain ⟨m2,e2⟩:=tbls b _ e1
  exact ⟨m1++m2,by rw [e2,Array.append_assoc]⟩
 ·obtain ⟨m,hn,hl⟩:=I.loc
  refine ⟨m,ns m hn,fun i x v e1 e2 e3=>?_⟩
  obtain ⟨u,r,l⟩:=hl i x v e1 e2 e3
  refine ⟨u,r,?_⟩
  rcases l with l | ⟨k,c,e,z⟩
  ·exact .inl l
  ·exact .inr ⟨k,c,e,S x c e _ z⟩
 ·obtain ⟨v,z⟩:=I.cell x c e
  exact ⟨v,S x c e v z⟩
 ·obtain ⟨m,⟨o,_,_,ho,_⟩,_⟩:=I.loc
  exact G _ o (fun z=>(U _ z).2.1 rfl) ho I.free
 ·obtain ⟨v,o,ho,hd⟩:=I.cell x c e
  exact G c o (fun z=>(U c z).2.2.1 x c e rfl) ho (I.freeC x c e)
 ·obtain ⟨e,n,ne,nf,d⟩:=I.pin p hp
  have J:p.1 ∉ ch:=fun z=>(U p.1 z).2.2.2 p hp rfl
  exact ⟨keep p.1 p.2 ne nf J e n,G p.1 p.2 J e n,ne,nf,d⟩
theorem Inv.un {t':Nat}(I:Inv X pins σ H s)(u:Un X.fs [] H H' s.heap h')(hok:HOk X.prog X.w H' h'):Inv X pins σ H' { s with heap:=h',toks:=t' }:=by
 obtain ⟨m,⟨o,es,ep,S,r⟩,_⟩:=id I.loc
 obtain ⟨sl,U⟩:=u.any S I.free (by simp)
 exact I.step (g':=s.gens) (d':=s.drawn) (ch:=[]) (fun _ z=>nomatch z) (fun b o _ hb _ e n=>u.keep b o e n hb (by simp)) (fun b o _ hb _ e n=>u.slot b o e n hb (by simp)) (fun b o _ e n=>u.free b o e n (by simp)) (fun b o _ e=>u.there b o e (by simp)) u.tups u.frzs u.tbls (fun m' W=>by
  obtain ⟨o',J,G,B,Z⟩:=W
  rw [S] at B;cases B
  exact ⟨_,J,G,U,Z⟩) hok I.bare
theorem Inv.call {g':Array RN}{t':Nat}(I:Inv X pins σ H s)(u:Un (Yv X.stack) ch H H' s.heap h')(hok:HOk X.prog X.w H' h')(hg:Pz g')(G:∀ b∈ch,(b∈X.ex\/X.s₀.heap.objs.size<=b)/\b≠X.env.locals/\(∀ x c,X.env.cells.lookup x=some c->c≠b)/\∀ p∈X.pn++pins,p.1≠b):
 Inv X pins σ H' { s with heap:=h',gens:=g',drawn:=d',toks:=t' }:=by
 obtain ⟨m,⟨o,es,ep,Z,r⟩,_⟩:=id I.loc
 obtain ⟨sl,U⟩:=u.any Z I.free fun z=>(G _ z).2.1 rfl
 exact I.step (ch:=ch) G (fun b o U hb B e n=>u.keep b o e n (fun z=>(mem_cons.mp (I.stkSub b z)).elim U hb) B) (fun b o _ _ B e n=>u.any e n B) (fun b o B e n=>u.free b o e n B) (fun b o B e=>u.there b o e B) u.tups u.frzs u.tbls (fun m' hm=>by
  obtain ⟨o',W,S,J,r'⟩:=hm
  rw [Z] at J;cases J
  exact ⟨_,W,S,U,r'⟩) hok hg
theorem Inv.turned {t':Nat}(I:Inv X pins σ H s)(k:∀ b o,b≠B->s.heap.get? b=some o->h'.get? b=some o)(hn:H B=none)(S:B≠X.env.locals)(h1:B∈X.ex\/X.s₀.heap.objs.size<=B)(h2:∀ x c,X.env.cells.lookup x=some c->c≠B)(U:∀ p∈X.pn++pins,p.1≠B):Inv X pins σ H { s with heap:=h',toks:=t' }:=by
 have J:∀ b u,H b=some u->b≠B:=fun b u e z=>by rw [z,hn] at e;cases e
 refine I.step (g':=s.gens) (d':=s.drawn) (ch:=[B]) (fun b hb=>?_) (fun b o _ _ G e _=>k b o (fun z=>G (by simp [z])) e) (fun b o _ _ G e _=>⟨o.slots,k b o (fun z=>G (by simp [z])) e⟩) (fun _ _ _ _ n=>n)
  (fun b o G e=>⟨o,k b o (fun z=>G (by simp [z])) e⟩) (fun _ _ e=>e) (fun _ _ _ e=>e) (fun b ps e=>⟨#[],by rw [e];simp⟩) (fun m W=>?_) (fun b u e=>?_) I.bare
 ·have e:b=B:=by simpa using hb
  subst e
  exact ⟨h1,S,h2,U⟩
 ·obtain ⟨o,es,ep,Z,r⟩:=W
  exact ⟨o,es,ep,k _ o (Gv S) Z,r⟩
 ·refine (I.hok b u e).stay (fun c v G q=>k c v ?_ q) (fun _ q=>q) fun _ _ q=>q
  rcases G with z | z
  ·rw [z];exact J b u e
  ·exact J c _ z
theorem Inv.tok (I:Inv X pins σ H s)(t:Nat):Inv X pins σ H { s with toks:=t }:=I.un (h':=s.heap) (t':=t) Un.refl I.hok
theorem Inv.kept {t':Nat}(I:Inv X pins σ H s)(k:∀ b u,s.heap.get? b=some u->h'.get? b=some u):Inv X pins σ H { s with heap:=h',toks:=t' }:=I.un (Un.kept k) (I.hok.kept k)
theorem Inv.laid {a:Addr}{o:HO}{t':Nat}(I:Inv X pins σ H s)(k:∀ b u,s.heap.get? b=some u->h'.get? b=some u)(hp:s.heap.objs.size<=a)(new:ObjOk X.prog X.w (upd H a o) h' a o) :
 Inv X pins σ (upd H a o) { s with heap:=h',toks:=t' }:=I.un (Un.laid k hp (I.hok.fresh hp)) (I.hok.laid k hp new)
theorem Inv.write {x e:Addr}{t':Nat}(I:Inv X pins σ H s)(G:Mut (H x))(J:e=x\/H e=some (.own x))(k:∀ b u,b≠e->s.heap.get? b=some u->h'.get? b=some u)(B:∃ u,h'.get? e=some u)(new:ObjOk X.prog X.w (upd H x o) h' x o):Inv X pins σ (upd H x o) { s with heap:=h',toks:=t' }:=I.un (Un.write G J k B) (I.hok.write G J k B new)
theorem Inv.pins_of (I:Inv X pins σ H s)(h:∀ p∈B,s.heap.get? p.1=some p.2/\H p.1=none/\p.1≠X.env.locals/\p.1 ∉ X.fs/\∀ v,p.2.data≠.cell v):Inv X B σ H s :=
 ⟨I.ok,I.os,I.bare,I.base,I.loc,I.cell,I.free,I.freeC,fun p hp=>(mem_append.mp hp).elim (fun z=>I.pin p (Pb _ z)) (h p),I.hok,I.len⟩
theorem ZaI {N:List Str}(B:N.Nodup){i j:Nat}{x:Str}(a:N[i]?=some x)(b:N[j]?=some x):i=j:=by
 obtain ⟨h1,e1⟩:=Qi.mp a
 obtain ⟨h2,G⟩:=Qi.mp b
 exact (List.getElem_inj B).mp (e1.trans G.symm)
theorem ZcH {i:Nat}(I:Inv X pins σ H s)(hN:X.N.Nodup)(hi:X.N[i]?=some x)(J:Loc X.env.scope x)(r:RelV v u)(h:∀ s',Inv X pins (σ.set i (some v)) H s'->(∃ a,TX a s.heap s'.heap/\(a=X.env.locals\/X.env.cells.lookup x=some a))->Q () s')(hf:X.fn x=true\/X.env.scope.names.lookup x=some .local:=by first | exact .inl rfl | exact .inr rfl | assumption):Qr M A (storeName X.env x u) Q E s:=by
 obtain ⟨m,hn,hl⟩:=id I.loc
 have hcls:(X.env.scope.kind == .class || (X.env.scope.kind == .module&&X.env.locals != X.env.globals))=false:=by rw [I.ok.kind];rfl
 have W:i < σ.length:=by rw [I.len];exact (Qi.mp hi).1
 have cne:=I.cne
 have G:∀ {a:Addr} {h':Heap},(∃ o,s.heap.get? a=some o/\H a=none)->TX a s.heap h'->HOk X.prog X.w H h':=fun {a h'} ha B b ob e=>by
  obtain ⟨_,_,S⟩:=ha
  refine (I.hok b ob e).stay (fun c w' hc q=>(B.2 c ?_).trans q) (fun _ q=>q) fun _ _ q=>q
  rintro rfl
  rcases hc with rfl | hc
  ·rw [S] at e;cases e
  ·rw [S] at hc;cases hc
 rcases J with hk | hk
 ·refine wpAny_storeName_local hk hn (fun h' hn' B=>?_) hcls
  obtain ⟨oL,_,_,hoL,_⟩:=id hn
  refine h _ ⟨I.ok,I.os,I.bare,⟨fun b o e n hb J=>?_,fun b o e n hb J=>?_,I.base.free,fun b o e J=>?_,I.base.tups,I.base.frzs,I.base.tbls⟩,⟨_,hn',fun j y v' e1 U e3=>?_⟩,fun y c e=>?_,I.free,I.freeC,fun p hp=>?_,G ⟨oL,hoL,I.free⟩ B,by simpa using I.len⟩ ⟨_,B,.inl rfl⟩
  ·exact (B.2 b (Qu (QD (Qg e) I.ok.above))).trans (I.base.keep b o e n hb J)
  ·obtain ⟨sl,e1⟩:=I.base.slot b o e n hb J
   exact ⟨sl,(B.2 b (Qu (QD (Qg e) I.ok.above))).trans e1⟩
  ·obtain ⟨o',e1⟩:=I.base.there b o e J
   exact ⟨o',(B.2 b (Qu (QD (Qg e) I.ok.above))).trans e1⟩
  ·by_cases hj:j=i
   ·subst hj
    rw [hi] at e1;cases e1
    rw [TY W] at U
    cases U
    exact ⟨u,r,.inl ⟨hk,by simp⟩⟩
   ·rw [Pc (Gv hj)] at U
    obtain ⟨u',r',q⟩:=hl j y v' e1 U e3
    refine ⟨u',r',?_⟩
    rcases q with ⟨k,e⟩ | ⟨k,c,e,z⟩
    ·refine .inl ⟨k,?_⟩
     have:y≠x:=fun e=>hj (ZaI hN e1 (e ▸ hi))
     simp [this,e]
    ·exact .inr ⟨k,c,e,z.sameBut B (cne y c e)⟩
  ·obtain ⟨w',z⟩:=I.cell y c e
   exact ⟨w',z.sameBut B (cne y c e)⟩
  ·obtain ⟨e,n,ne,nf,d⟩:=I.pin p hp
   exact ⟨(B.2 p.1 ne).trans e,n,ne,nf,d⟩
 ·have Z:X.fn x=true:=by
   rcases hf with z | z
   ·exact z
   ·rw [z] at hk;cases hk
  obtain ⟨c,hc⟩:=I.ok.has x (.inl hk)
  obtain ⟨w',z⟩:=I.cell x c hc
  refine wpAny_storeName_cell I.ok.kind hk hc z (fun h' hc' B=>?_)
  obtain ⟨oc,hoc,hocd⟩:=id z
  refine h { s with heap:=h' } ⟨I.ok,I.os,I.bare,⟨fun b o e n hb J=>?_,fun b o e n hb J=>?_,I.base.free,fun b o e J=>?_,I.base.tups,I.base.frzs,I.base.tbls⟩,⟨m,hn.sameBut B (Gv (cne x c hc)),fun j y v' e1 U e3=>?_⟩,fun y c' e=>?_,I.free,I.freeC,fun p hp=>?_,G ⟨oc,hoc,I.freeC x c hc⟩ B,by simpa using I.len⟩ ⟨c,B,.inr hc⟩
  ·exact (B.2 b (Qu (QD (Qg e) (I.ok.cab x c Z hc)))).trans (I.base.keep b o e n hb J)
  ·obtain ⟨sl,e1⟩:=I.base.slot b o e n hb J
   exact ⟨sl,(B.2 b (Qu (QD (Qg e) (I.ok.cab x c Z hc)))).trans e1⟩
  ·obtain ⟨o',e1⟩:=I.base.there b o e J
   exact ⟨o',(B.2 b (Qu (QD (Qg e) (I.ok.cab x c Z hc)))).trans e1⟩
  ·by_cases hj:j=i
   ·subst hj
    rw [hi] at e1;cases e1
    rw [TY W] at U
    cases U
    exact ⟨u,r,.inr ⟨.inl hk,c,hc,hc'⟩⟩
   ·rw [Pc (Gv hj)] at U
    obtain ⟨u',r',q⟩:=hl j y v' e1 U e3
    refine ⟨u',r',?_⟩
    rcases q with q | ⟨k,c',e,z'⟩
    ·exact .inl q
    ·refine .inr ⟨k,c',e,z'.sameBut B ?_⟩
     rintro rfl
     exact hj (ZaI hN e1 (I.ok.inj _ _ _ e hc ▸ hi))
  ·by_cases hcc:c'=c
   ·subst hcc;exact ⟨_,hc'⟩
   ·obtain ⟨w2,z2⟩:=I.cell y c' e
    exact ⟨w2,z2.sameBut B hcc⟩
  ·obtain ⟨e,n,ne,nf,d⟩:=I.pin p hp
   refine ⟨(B.2 p.1 ?_).trans e,n,ne,nf,d⟩
   intro q
   rw [q,hoc] at e
   have q':oc=p.2:=QG e
   exact d w' (by rw [<- q'];exact hocd)
theorem XQ {i:Nat}(I:Inv X pins σ H s)(J:X.N.Nodup)(hi:X.N[i]?=some x)(B:Loc X.env.scope x)(r:RelV v u)(h:∀ s',Inv X pins (σ.set i (some v)) H s'->Q () s')(S:X.fn x=true\/X.env.scope.names.lookup x=some .local:=by first | exact .inl rfl | exact .inr rfl | assumption):Qr M A (storeName X.env x u) Q E s :=
 ZcH I J hi B r (fun s' G _=>h s' G) S
theorem Inv.call' {ch:List Addr}(I:Inv X pins σ H s)(J:s'.os=s.os)(u:Un (Yv X.stack) ch H H' s.heap s'.heap)(hok:HOk X.prog X.w H' s'.heap)(G:Pz s'.gens)(B:∀ b∈ch,(b∈X.ex\/X.s₀.heap.objs.size<=b)/\b≠X.env.locals/\(∀ x c,X.env.cells.lookup x=some c->c≠b)/\∀ p∈X.pn++pins,p.1≠b):Inv X pins σ H' s':=by
 obtain ⟨h',g',d',t',o'⟩:=s'
 have e:o'=s.os:=J
 subst e
 exact I.call (g':=g') (t':=t') (d':=d') u hok G B
end
abbrev XK:=Qb->Option Addr->Hp->Prop
abbrev St:=List (Option V)
abbrev VK:=V->Hp->Prop
abbrev TE:=St->Hp->VK->Prop
abbrev TT:=St->Hp->(Bool->Hp->Prop)->Prop
abbrev TA:=St->Hp->(List V->Hp->Prop)->Prop
structure Yj where
 nx:St->Hp->Prop
 rt:VK
 bk:St->Hp->Prop:=fun _ _=>False
 ct:St->Hp->Prop:=fun _ _=>False
abbrev TS:=Yj->St->Hp->Prop
def EP (X:Cx)(pins:List (Addr×Obj))(σ:St)(Q:VK)(u:Qb)(s':Qe):Prop:=∃ v H',Inv X pins σ H' s'/\RelV v u/\Q v H'
def TP (X:Cx)(pins:List (Addr×Obj))(σ:St)(Q:Bool->Hp->Prop)(b:Bool)(s':Qe):Prop:=∃ H',Inv X pins σ H' s'/\Q b H'
def AP (X:Cx)(pins:List (Addr×Obj))(σ:St)(Q:List V->Hp->Prop)(us:List Qb)(s':Qe):Prop:=∃ vs H',Inv X pins σ H' s'/\Vals vs us/\Q vs H'
def SP (X:Cx)(pins:List (Addr×Obj))(D:Yj)(f:Flow)(s':Qe):Prop :=
 match f with
 | .next=>∃ σ' H',Inv X pins σ' H' s'/\D.nx σ' H'
 | .brk=>∃ σ' H',Inv X pins σ' H' s'/\D.bk σ' H'
 | .cont=>∃ σ' H',Inv X pins σ' H' s'/\D.ct σ' H'
 | .ret u=>∃ v σ' H',Inv X pins σ' H' s'/\RelV v u/\D.rt v H'
def PE (X:Cx)(e:Expr)(t:TE):Prop :=
 ∀ (pins:List (Addr×Obj)) (s:Qe) (σ:St) (H:Hp) (Q:VK),Inv X pins σ H s->t σ H Q->Qr (Qs X.prog X.w) X.A (eval e X.env) (EP X pins σ Q) X.xe s
def PT (X:Cx)(e:Expr)(t:TT):Prop :=
 ∀ (pins:List (Addr×Obj)) (s:Qe) (σ:St) (H:Hp) (Q:Bool->Hp->Prop),Inv X pins σ H s->t σ H Q->Qr (Qs X.prog X.w) X.A (isTrue e X.env (eval e X.env)) (TP X pins σ Q) X.xe s
def PW (X:Cx)(e:Expr)(t:TT):Prop :=
 ∀ (whole:Sem Qb) (pins:List (Addr×Obj)) (s:Qe) (σ:St) (H:Hp) (Q:Bool->Hp->Prop),Inv X pins σ H s->t σ H Q->Qr (Qs X.prog X.w) X.A (isTrue e X.env whole) (TP X pins σ Q) X.xe s
theorem PW.pt (h:PW X e t):PT X e t:=h _
def PA (X:Cx)(es:List Expr)(t:TA):Prop :=
 ∀ (pos:Pos) (pins:List (Addr×Obj)) (s:Qe) (σ:St) (H:Hp) (Q:List V->Hp->Prop),Inv X pins σ H s->t σ H Q->Qr (Qs X.prog X.w) X.A (spliced (GU pos (QE es X.env))) (AP X pins σ Q) X.xe s
def PS (X:Cx)(st:Stmt)(t:TS):Prop :=
 ∀ (pins:List (Addr×Obj)) (s:Qe) (σ:St) (H:Hp) (D:Yj),Inv X pins σ H s->t D σ H->Qr (Qs X.prog X.w) X.A (exec st X.env) (SP X pins D) X.xe s
def PSs (X:Cx)(st:List Stmt)(t:TS):Prop :=
 ∀ (pins:List (Addr×Obj)) (s:Qe) (σ:St) (H:Hp) (D:Yj),Inv X pins σ H s->t D σ H->Qr (Qs X.prog X.w) X.A (execs st X.env) (SP X pins D) X.xe s
theorem Zs {G:Type}{t:Sem G}{Q B:G->Qe->Prop}{M:Ro}{A:QA}{E:Qb->Qe->Prop}{s:Qe}(h:Qr M A t Q E s)(I:∀ a s,Q a s->B a s):Qr M A t B E s:=QW h I fun _ _ x=>x
section
variable {X:Cx}
inductive Zim (i:Nat)(σ:St)(H:Hp)(Q:VK):Prop
 | mk (v:_):σ[i]?=some (some v)->Q v H->Zim i σ H Q
def Zeq (i:Nat):TE:=fun σ H Q=>Zim i σ H Q
def tC (v:V):TE:=fun _ H Q=>Q v H
theorem ZhM {i:Nat}{pos:Pos}(hN:X.N[i]?=some x)(W:Vis X.env.scope x)(J:(x == ("__debug__":Str))=false:=by decide)(S:(x == ("__classdict__":Str))=false:=by decide):PE X (.Name x pos) (Zeq i):=by
 intro pins s σ H Q I h
 obtain ⟨v,e,h⟩:=h
 obtain ⟨m,hn,hl⟩:=I.loc
 obtain ⟨u,r,l⟩:=hl i x v hN e W
 have G:EP X pins σ Q u s:=⟨v,H,I,r,h⟩
 rcases l with ⟨hk,Z⟩ | ⟨hk,c,U,B⟩
 ·exact RA (Pd I.ok.kind hk hn Z G) J
 ·rcases hk with hk | hk
  ·exact RA (Rh I.ok.kind hk U B G) J
  ·exact RA (wpAny_loadName_free I.ok.kind hk U B G S) J
theorem Zg {i j pos}:PE X (.Constant (.int i) j pos) (tC (.int i)):=fun _ _ _ H _ I h=>RB ⟨.int i,H,I.tok _,⟨_,rfl⟩,h⟩
theorem XM {b j pos}:PE X (.Constant (.bool b) j pos) (tC (.bl b)):=fun _ _ _ H _ I h=>Constant_bool ⟨.bl b,H,I,rfl,h⟩
theorem Ud {j pos}:PE X (.Constant .none j pos) (tC .non):=fun _ _ _ H _ I h=>Constant_none ⟨.non,H,I,rfl,h⟩
theorem ZW {x j pos}:PE X (.Constant (.str x) j pos) (tC (.str x)):=fun _ _ _ H _ I h=>Calls.Constant_str ⟨.str x,H,I.tok _,⟨_,rfl⟩,h⟩
def Gl (X:Cx)(x:Str):Prop:=X.env.kindOf x=some .globalImplicit
theorem WQ (I:Inv X pins σ H s)(G:Gl X x)(B:X.mg x=some u)(h:Q u s)(J:(x == ("__debug__":Str))=false:=by decide):Qr (Qs X.prog X.w) X.A (eval (.Name x pos) X.env) Q E s :=
 PP I.ok.kind G (Calls.loadGlobal_global (by rw [I.ok.glob];exact I.mod.glob.keeps I.bk) B h) J
theorem Ux (I:Inv X pins σ H s)(G:Gl X x)(S:X.mg x=none)(B:JD x=some u)(h:Q u s)(U:x≠"__name__":=by decide)(J:(x == ("__debug__":Str))=false:=by decide):Qr (Qs X.prog X.w) X.A (eval (.Name x pos) X.env) Q E s:=by
 obtain ⟨W,h1,h2⟩:=I.mod.blt
 exact PP I.ok.kind G (Calls.loadGlobal_builtin (by rw [I.ok.glob];exact I.mod.glob.keeps I.bk) S (by rw [I.ok.blt];exact h1.keeps I.bk) ((h2 x U).trans B) h) J
theorem ZN {v:V}(G:Gl X x)(B:X.mg x=some u)(r:RelV v u)(J:(x == ("__debug__":Str))=false:=by decide):PE X (.Name x pos) (tC v) :=
 fun _ _ _ H _ I h=>WQ I G B ⟨v,H,I,r,h⟩ J
theorem ZkZ (G:Gl X x)(S:X.mg x=none)(B:JD x=some u)(r:RelV v u)(U:x≠"__name__":=by decide)(J:(x == ("__debug__":Str))=false:=by decide):PE X (.Name x pos) (tC v) :=
 fun _ _ _ H _ I h=>Ux I G S B ⟨v,H,I,r,h⟩ U J
variable {a b:Expr}{ta tb:TE}{pos:Pos}
def PC (X:Cx)(op:CmpOp)(a b:Expr)(t:TE):Prop :=
 ∀ (pins:List (Addr×Obj)) (s:Qe) (σ:St) (H:Hp) (Q:VK),Inv X pins σ H s->t σ H Q ->
  Qr (Qs X.prog X.w) X.A (eval a X.env) (fun v s₁=>Qr (Qs X.prog X.w) X.A (eval b X.env) (fun u s₂=>Qr (Qs X.prog X.w) X.A (GJ op v u) (EP X pins σ Q) X.xe s₂) X.xe s₁) X.xe s
theorem ZiY (b:Expr)(h:B≠.In)(h2:B≠.NotIn):Jc B b=false:=by
 have e1:(B == CmpOp.In)=false:=by cases B<;>first | rfl | exact absurd rfl h
 have G:(B == CmpOp.NotIn)=false:=by cases B<;>first | rfl | exact absurd rfl h2
 cases b<;>simp [Jc,e1,G]
def tIsN (ta:TE):TE:=fun σ H Q=>ta σ H fun x H1=>Q (.bl (decide (x=.non))) H1
theorem RelV.none_iff (r:RelV x v):(v == QT)=decide (x=.non):=by
 cases x with
 | non=>cases r;rfl
 | bl _=>cases r;rfl
 | int _=>obtain ⟨t,rfl⟩:=r;rfl
 | str _=>obtain ⟨t,rfl⟩:=r;rfl
 | byt _=>obtain ⟨t,rfl⟩:=r;rfl
 | flt _=>obtain ⟨t,rfl⟩:=r;rfl
 | ref _=>cases r;rfl
 | ty _=>cases r;rfl
theorem ZhJ {j pos'}(U:PE X a ta):PC X .Is a (.Constant .none j pos') (tIsN ta):=by
 intro pins s σ H Q I h
 refine Zs (U pins s σ H _ I h) fun v s1 B=>?_
 obtain ⟨x,H1,J,S,G⟩:=B
 exact Constant_none (is_none_gen ⟨.bl _,H1,J,by rw [S.none_iff];rfl,G⟩)
inductive tB_R (Q:Bool->Hp->Prop)(x:V)(H1:Hp):Prop
 | mk (c:_):x=.bl c->Q c H1->tB_R Q x H1
def tB (t:TE):TT:=fun σ H Q=>t σ H fun x H1=>tB_R Q x H1
theorem VG (h:PC X B a b t)(h1:Jc B b=false:=by first | exact ZiY _ (by decide) (by decide) | rfl):PT X (.Compare a [B] [b] pos) (tB t):=by
 intro pins s σ H Q I S
 refine Sv (Zs (h pins s σ H _ I S) fun v s1 h1=>Zs h1 fun u s2 h2=>Zs h2 fun c Z G=>?_) h1
 obtain ⟨x,H1,U,W,J⟩:=G
 obtain ⟨d,rfl,q⟩:=J
 cases W
 exact Gi ⟨H1,U,q⟩
theorem VH (h:PE X e t)(U:∀ B,isTrue e X.env B=(do let v <- B;Tf e.pos;JE [v] (truthy v)):=by intro _;rfl):PT X e (tB t):=by
 intro pins s σ H Q I S
 refine isTrue_plain (Zs (h pins s σ H _ I S) fun v s1 G=>?_) (U _)
 obtain ⟨x,H1,W,Z,J⟩:=G
 obtain ⟨d,rfl,q⟩:=J
 cases Z
 exact Gi ⟨H1,W,q⟩
variable {tA tB':TT}{rest:List Expr}
def tAnd (t u:TT):TT:=fun σ H Q=>t σ H fun c H1=>if c=true then u σ H1 Q else Q false H1
def tOr (t u:TT):TT:=fun σ H Q=>t σ H fun c H1=>if c=true then Q true H1 else u σ H1 Q
def tNot (t:TT):TT:=fun σ H Q=>t σ H fun c H1=>Q (!c) H1
theorem Zlk (B:PT X a tA):PW X (.BoolOp .And [a] pos) tA:=by
 intro G pins s σ H Q I h
 refine isTrue_and (Zs (B pins s σ H Q I h) fun c s1 e=>?_)
 cases c with
 | true=>exact isTrue_and_nil e
 | false=>exact e
theorem Zed (B:PT X a tA):PW X (.BoolOp .Or [a] pos) tA:=by
 intro G pins s σ H Q I h
 refine isTrue_or (Zs (B pins s σ H Q I h) fun c s1 e=>?_)
 cases c with
 | false=>exact isTrue_or_nil e
 | true=>exact e
theorem ZmP (U:PT X a tA)(hb:PW X (.BoolOp .And (b::rest) pos) tB'):PW X (.BoolOp .And (a::b::rest) pos) (tAnd tA tB'):=by
 intro S pins s σ H Q I h
 refine isTrue_and (Zs (U pins s σ H _ I h) fun c s1 J=>?_)
 obtain ⟨H1,G,B⟩:=J
 cases c with
 | true=>exact hb S pins s1 σ H1 Q G B
 | false=>exact ⟨H1,G,B⟩
theorem Zgn (U:PT X a tA)(hb:PW X (.BoolOp .Or (b::rest) pos) tB'):PW X (.BoolOp .Or (a::b::rest) pos) (tOr tA tB'):=by
 intro S pins s σ H Q I h
 refine isTrue_or (Zs (U pins s σ H _ I h) fun c s1 J=>?_)
 obtain ⟨H1,G,B⟩:=J
 cases c with
 | true=>exact ⟨H1,G,B⟩
 | false=>exact hb S pins s1 σ H1 Q G B
theorem Zbr (B:PT X a tA):PT X (.UnaryOp .Not a pos) (tNot tA):=by
 intro pins s σ H Q I h
 exact isTrue_not (B pins s σ H (fun c H1=>Q (!c) H1) I h)
inductive Zfu (tb:TE)(σ:St)(Q:VK)(x:V)(H1:Hp):Prop
 | mk (c:_):x=.bl c->(if c=true then tb σ H1 Q else Q (.bl false) H1)->Zfu tb σ Q x H1
def Zou (ta tb:TE):TE:=fun σ H Q=>ta σ H fun x H1=>Zfu tb σ Q x H1
theorem ZhL {op}(h:PE X a t):PE X (.BoolOp op [a] pos) t:=fun pins s σ H Q I B=>BoolOp_one (h pins s σ H Q I B)
theorem ZhK (U:PE X a ta)(hb:PE X (.BoolOp .And (b::rest) pos) tb):PE X (.BoolOp .And (a::b::rest) pos) (Zou ta tb):=by
 intro pins s σ H Q I h
 refine BoolOp_and (Zs (U pins s σ H _ I h) fun v s1 J=>?_)
 obtain ⟨x,H1,G,S,B⟩:=J
 obtain ⟨c,rfl,B⟩:=B
 cases S
 refine Gi ?_
 cases c with
 | true=>exact hb pins s1 σ H1 Q G B
 | false=>exact ⟨.bl false,H1,G,rfl,B⟩
def tIf (t:TT)(ta tb:TE):TE:=fun σ H Q=>t σ H fun c H1=>if c=true then ta σ H1 Q else tb σ H1 Q
theorem Wu (S:PT X c tA)(U:PE X a ta)(hb:PE X b tb):PE X (.IfExp c a b pos) (tIf tA ta tb):=by
 intro pins s σ H Q I h
 refine wpAny_IfExp (Zs (S pins s σ H _ I h) fun d s1 J=>?_)
 obtain ⟨H1,G,B⟩:=J
 cases d with
 | true=>exact U pins s1 σ H1 Q G B
 | false=>exact hb pins s1 σ H1 Q G B
end
def SqL (K:Qa)(H:Hp)(a:Addr)(xs:List V):Prop :=
 Rd H a (.lst xs) \/
  ∃ (o:Obj) (its:Array Qb) (n:Nat),K.lookup a=some o/\o.cls=.type "list"/\o.dict=none/\o.data=.seq its n/\its.size<=Qj/\Vals xs its.toList
def SqT (K:Qa)(H:Hp)(a:Addr)(xs:List V):Prop :=
 Rd H a (.tup xs) \/
  ∃ (o:Obj) (its:Array Qb) (n:Nat),K.lookup a=some o/\o.cls=.type "tuple"/\o.data=.seq its n/\its.size<=Qj/\Vals xs its.toList
def ZfP:Qb->Option V
 | .none=>some .non
 | .bool b=>some (.bl b)
 | .int i _=>some (.int i)
 | .str x _=>some (.str x)
 | .bytes b _=>some (.byt b)
 | .float b _=>some (.flt b)
 | .ref a=>some (.ref a)
 | .type n=>some (.ty n)
 | _=>none
theorem RelV.abs (r:RelV x u):ZfP u=some x:=by
 cases x with
 | non=>cases r;rfl
 | bl _=>cases r;rfl
 | int _=>obtain ⟨t,rfl⟩:=r;rfl
 | str _=>obtain ⟨t,rfl⟩:=r;rfl
 | byt _=>obtain ⟨t,rfl⟩:=r;rfl
 | flt _=>obtain ⟨t,rfl⟩:=r;rfl
 | ref _=>cases r;rfl
 | ty _=>cases r;rfl
theorem RelV.inj (r:RelV x u)(q:RelV y u):x=y:=QG (r.abs.symm.trans q.abs)
theorem Vals.inj:∀{xs ys:List V}{us:List Qb},Vals xs us->Vals ys us->xs=ys
 | _,_,_,.nil,.nil=>rfl
 | _,_,_,.cons r t,.cons r' t'=>by rw [r.inj r',Vals.inj t t']
section
variable {X:Cx}{pins:List (Addr×Obj)}{σ:St}{H:Hp}{s:Qe}{a:Addr}{xs ys:List V}
theorem SqL.of {K:Qa}(h:H a=some (.lst xs)):SqL K H a xs:=.inl (.inl h)
theorem SqT.of {K:Qa}(h:H a=some (.tup xs)):SqT K H a xs:=.inl (.inl h)
theorem Inv.list (I:Inv X pins σ H s)(h:SqL X.K H a xs):∃ B:List Qb,Vals xs B/\PlainL s.heap a B.toArray/\xs.length<=sizeLine:=by
 rcases h with h | ⟨o,B,n,S,J,G,U,W,r⟩
 ·obtain ⟨z,B,n,r,e⟩:=h.ok I.hok
  exact ⟨B,r,⟨_,n,e,rfl,rfl,rfl⟩,z⟩
 ·refine ⟨B.toList,r,⟨o,n,I.kIn a o S,J,G,by simpa using U⟩,?_⟩
  have e:=r.length
  simp only [GS] at e
  omega
theorem Inv.tuple (I:Inv X pins σ H s)(h:SqT X.K H a xs):∃ B:List Qb,Vals xs B/\OO s.heap a B.toArray/\xs.length<=sizeLine:=by
 rcases h with h | ⟨o,B,n,J,G,S,U,r⟩
 ·obtain ⟨z,B,r,p⟩:=h.ok I.hok
  exact ⟨B,r,p,z⟩
 ·refine ⟨B.toList,r,⟨o,I.kIn a o J,G,n,by simpa using S⟩,?_⟩
  have e:=r.length
  simp only [GS] at e
  omega
theorem Inv.list_inj (I:Inv X pins σ H s)(h:SqL X.K H a xs)(h':SqL X.K H a ys):xs=ys:=by
 obtain ⟨B,r,⟨o,n,e,_,_,d⟩,_⟩:=I.list h
 obtain ⟨its',J,⟨o',S,G,_,_,d'⟩,_⟩:=I.list h'
 rw [e] at G;cases G
 rw [d] at d'
 injection d' with d1 _
 have:B=its':=by simpa using congrArg Array.toList d1
 subst this
 exact r.inj J
theorem Inv.tuple_inj (I:Inv X pins σ H s)(h:SqT X.K H a xs)(h':SqT X.K H a ys):xs=ys:=by
 obtain ⟨B,r,⟨o,e,_,n,d⟩,_⟩:=I.tuple h
 obtain ⟨its',J,⟨o',G,_,S,d'⟩,_⟩:=I.tuple h'
 rw [e] at G;cases G
 rw [d] at d'
 injection d' with d1 _
 have:B=its':=by simpa using congrArg Array.toList d1
 subst this
 exact r.inj J
end
abbrev Cx.wish (X:Cx)(E:Qb->Qe->Prop):Cx:={ X with xe:=E }
abbrev Cx.nox (X:Cx):Cx:=X.wish fun _ _=>False
theorem Cx.Ok.wish {X:Cx}(ok:X.Ok)(E:Qb->Qe->Prop):(X.wish E).Ok :=
 ⟨ok.mod,ok.kind,ok.glob,ok.blt,ok.above,ok.inj,ok.has,ok.cab,ok.hd,ok.frames,ok.stk,ok.exf,ok.bs,ok.bsz,ok.noex,ok.exfs,ok.funs,ok.frf⟩
theorem Cx.Ok.unwish {X:Cx}{E:Qb->Qe->Prop}(ok:(X.wish E).Ok):X.Ok :=
 ⟨ok.mod,ok.kind,ok.glob,ok.blt,ok.above,ok.inj,ok.has,ok.cab,ok.hd,ok.frames,ok.stk,ok.exf,ok.bs,ok.bsz,ok.noex,ok.exfs,ok.funs,ok.frf⟩
section
variable {X:Cx}{pins:List (Addr×Obj)}{σ:St}{H:Hp}{s:Qe}{E:Qb->Qe->Prop}
theorem Inv.wish (I:Inv X pins σ H s)(E:Qb->Qe->Prop):Inv (X.wish E) pins σ H s:=⟨I.ok.wish E,I.os,I.bare,I.base,I.loc,I.cell,I.free,I.freeC,I.pin,I.hok,I.len⟩
theorem Inv.unwish (I:Inv (X.wish E) pins σ H s):Inv X pins σ H s:=⟨I.ok.unwish,I.os,I.bare,I.base,I.loc,I.cell,I.free,I.freeC,I.pin,I.hok,I.len⟩
theorem SP.unwish (h:SP (X.wish E) pins D f s'):SP X pins D f s':=by
 cases f with
 | next=>obtain ⟨B,H',I,q⟩:=h;exact ⟨B,H',I.unwish,q⟩
 | brk=>obtain ⟨B,H',I,q⟩:=h;exact ⟨B,H',I.unwish,q⟩
 | cont=>obtain ⟨B,H',I,q⟩:=h;exact ⟨B,H',I.unwish,q⟩
 | ret u=>obtain ⟨v,B,H',I,r,q⟩:=h;exact ⟨v,B,H',I.unwish,r,q⟩
theorem PSs.nox {st:List Stmt}{t:TS}(h:PSs X.nox st t):PSs X st t:=fun pins s σ H D I B =>
 QW (h pins s σ H D (I.wish _) B) (fun _ _ q=>q.unwish) fun _ _ z=>QL z
end
section
variable {X:Cx}{st:Stmt}{rest:List Stmt}{t u:TS}{e:Expr}{te:TE}{pos:Pos}
def ZoA:TS:=fun D σ H=>D.nx σ H
def Yd (t u:TS):TS:=fun D σ H=>t { D with nx:=u D } σ H
theorem ZR:PSs X [] ZoA:=fun _ _ σ H _ I h=>Ph ⟨σ,H,I,h⟩
theorem Zd (h1:PS X st t)(h2:PSs X rest u):PSs X (st::rest) (Yd t u):=by
 intro pins s σ H D I h
 refine Ts (Zs (h1 pins s σ H { D with nx:=u D } I h) fun f s1 q=>?_)
 cases f with
 | next =>
  obtain ⟨B,H',G,q⟩:=q
  exact h2 pins s1 B H' D G q
 | ret v=>exact q
 | brk=>exact q
 | cont=>exact q
theorem Zi (h1:PS X st t):PSs X [st] t:=by
 intro pins s σ H D I h
 refine Ts (Zs (h1 pins s σ H D I h) fun f s1 q=>?_)
 cases f with
 | next=>exact Ph q
 | ret v=>exact q
 | brk=>exact q
 | cont=>exact q
theorem Inv.quiet (I:Inv X pins σ H s):interactive X.env=false:=by simp [interactive,I.ok.kind]
def Zoz (te:TE):TS:=fun D σ H=>te σ H fun _ H1=>D.nx σ H1
theorem ZT (J:PE X e te)(S:PL e none pos.line X.env=pure false:=by rfl):PS X (.Expr e pos) (Zoz te):=by
 intro pins s σ H D I h
 exact wpAny_Expr_any (Zs (J pins s σ H _ I h) fun v s1 ⟨x,H1,G,U,B⟩=>⟨σ,H1,G,B⟩) I.quiet S
def tRet (te:TE):TS:=fun D σ H=>te σ H D.rt
theorem Zu (J:PE X e te):PS X (.Return (some e) pos) (tRet te):=by
 intro pins s σ H D I h
 exact wpAny_Return_some (Zs (J pins s σ H _ I h) fun v s1 ⟨x,H1,G,S,B⟩=>⟨x,σ,H1,G,S,B⟩)
def tIfS (c:TT)(t u:TS):TS:=fun D σ H=>c σ H fun b H1=>if b=true then t D σ H1 else u D σ H1
theorem Ye (S:PT X c tc)(U:PSs X a t)(hb:PSs X b u):PS X (.If c a b pos) (tIfS tc t u):=by
 intro pins s σ H D I h
 refine wpAny_If (Zs (S pins s σ H _ I h) fun d s1 J=>?_)
 obtain ⟨H1,G,B⟩:=J
 cases d with
 | true=>exact U pins s1 σ H1 D G B
 | false=>exact hb pins s1 σ H1 D G B
end
abbrev TG:=V->St->Hp->(St->Hp->Prop)->Prop
abbrev TGs:=List V->St->Hp->(St->Hp->Prop)->Prop
def PG (X:Cx)(target:Expr)(t:TG):Prop :=
 ∀ (pins:List (Addr×Obj)) (s:Qe) (σ:St) (H:Hp) (v:V) (u:Qb) (Q:St->Hp->Prop),Inv X pins σ H s->RelV v u->t v σ H Q ->
  Qr (Qs X.prog X.w) X.A (SH target X.env u) (fun _ s'=>∃ σ' H',Inv X pins σ' H' s'/\Q σ' H') X.xe s
def PGs (X:Cx)(ts:List Expr)(t:TGs):Prop :=
 ∀ (pins:List (Addr×Obj)) (s:Qe) (σ:St) (H:Hp) (vs:List V) (us:List Qb) (Q:St->Hp->Prop),Inv X pins σ H s->Vals vs us->t vs σ H Q ->
  Qr (Qs X.prog X.w) X.A (Rp ((PQ ts X.env).map (·.2)) us) (fun _ s'=>∃ σ' H',Inv X pins σ' H' s'/\Q σ' H') X.xe s
abbrev ZiA:=V->V->V->Hp->(Hp->Prop)->Prop
def PSet (X:Cx)(t:ZiA):Prop :=
 ∀ (pins:List (Addr×Obj)) (s:Qe) (σ:St) (H:Hp) (o i v:V) (ov iv u:Qb) (Q:Hp->Prop),Inv X pins σ H s->RelV o ov->RelV i iv->RelV v u->t o i v H Q ->
  Qr (Qs X.prog X.w) X.A (setItem ov iv u) (fun _ s'=>∃ H',Inv X pins σ H' s'/\Q H') X.xe s
abbrev TIp:=V->V->Hp->VK->Prop
def PIp (X:Cx)(op:Operator)(t:TIp):Prop :=
 ∀ (pins:List (Addr×Obj)) (s:Qe) (σ:St) (H:Hp) (x y:V) (v u:Qb) (Q:VK),Inv X pins σ H s->RelV x v->RelV y u->t x y H Q ->
  Qr (Qs X.prog X.w) X.A (inplaceOp op v u) (EP X pins σ Q) X.xe s
section
variable {X:Cx}{pos:Pos}
def UT (i:Nat):TG:=fun v σ H Q=>Q (σ.set i (some v)) H
theorem Yf {i:Nat}(J:X.N.Nodup)(hi:X.N[i]?=some x)(B:Loc X.env.scope x)(S:X.fn x=true\/X.env.scope.names.lookup x=some .local:=by first | exact .inl rfl | exact .inr rfl | assumption):PG X (.Name x pos) (UT i):=by
 intro pins s σ H v u Q I r h
 exact RO (XQ I J hi B r (fun s' G=>⟨_,H,G,h⟩) S)
def gNil:TGs:=fun vs σ H Q=>vs=[]/\Q σ H
inductive ZeS (t:TG)(u:TGs)(vs:List V)(σ:St)(H:Hp)(Q:St->Hp->Prop):Prop
 | mk (v r:_):vs=v::r->(t v σ H fun σ' H'=>u r σ' H' Q)->ZeS t u vs σ H Q
def ZnH (t:TG)(u:TGs):TGs:=fun vs σ H Q=>ZeS t u vs σ H Q
theorem UC:PGs X [] gNil:=by
 intro pins s σ H vs us Q I r h
 obtain ⟨e,h⟩:=h
 subst e
 cases r
 exact RP ⟨σ,H,I,h⟩
theorem YN (h1:PG X e t)(h2:PGs X es u)(U:(PQ (e::es) X.env).map (·.2)=SH e X.env::(PQ es X.env).map (·.2):=by rfl):PGs X (e::es) (ZnH t u):=by
 intro pins s σ H vs us Q I r h
 obtain ⟨v,W,e1,h⟩:=h
 subst e1
 cases r with
 | cons r rr =>
  rw [U]
  refine Jy (Zs (h1 pins s σ H _ _ _ I r h) fun _ s1 G=>?_)
  obtain ⟨B,H1,S,J⟩:=G
  exact h2 pins s1 B H1 _ _ Q S rr J
inductive Zhf (K:Qa)(n:Nat)(t:TGs)(v:V)(σ:St)(H:Hp)(Q:St->Hp->Prop):Prop
 | mk (a xs:_):v=.ref a->SqT K H a xs->xs.length=n->t xs σ H Q->Zhf K n t v σ H Q
def gTup (K:Qa)(n:Nat)(t:TGs):TG:=fun v σ H Q=>Zhf K n t v σ H Q
theorem VF {k:Nat}{n:Nat}(W:X.calm=true)(h:PGs X es t)(hn:(PQ es X.env).length=n:=by rfl)(G:(PQ es X.env).findIdx? (·.1)=none:=by rfl):PG X (.Tuple es k pos) (gTup X.K n t):=by
 intro pins s σ H v u Q I r B
 obtain ⟨a,xs,e1,Z,hl,B⟩:=B
 subst e1
 cases r
 obtain ⟨U,J,ht,hz⟩:=I.tuple Z
 refine assign_Tuple_tuple (I.ok.hd W) ht (by simp [hn,<- hl,J.length]) G fun h' S=>?_
 have I1:Inv X pins σ H { s with heap:=h' }:=I.kept (t':=s.toks) fun b o e=>S b o (Qu (Qg e)) e
 exact h pins _ σ H xs _ Q I1 (by simpa using J) B
def gSub (to ti:TE)(t:ZiA):TG:=fun v σ H Q=>to σ H fun o H1=>ti σ H1 fun i H2=>t o i v H2 fun H3=>Q σ H3
theorem UB (ho:PE X o to)(hi:PE X i S)(hs:PSet X t)(ha:∀ v,SH (.Subscript o i pos) X.env v=(do
  let B <- JE [v] (eval o X.env)
  let J <- JE [v,B] (eval i X.env)
  Tf pos
  JE [v,B,J] (setItem B J v)
  release [v,B,J] []):=by intro _;rfl):PG X (.Subscript o i pos) (gSub to S t):=by
 intro pins s σ H v u Q I r h
 rw [ha]
 refine Qf (Gh (Zs (ho pins s σ H _ I h) fun B s1 G=>?_))
 obtain ⟨x,H1,I1,r1,q1⟩:=G
 refine Qf (Gh (Zs (hi pins s1 σ H1 _ I1 q1) fun J s2 G=>?_))
 obtain ⟨y,H2,I2,Z,q2⟩:=G
 refine Qf (GH (Qf (Gh (Zs (hs pins s2 σ H2 x y v B J u _ I2 r1 Z r q2) fun _ s3 G=>?_))))
 obtain ⟨H3,W,U⟩:=G
 exact wpAny_release ⟨σ,H3,W,U⟩
def ZgD (te:TE)(g:TG):TS:=fun D σ H=>te σ H fun x H1=>g x σ H1 D.nx
theorem XJ (Z:PE X e te)(G:PG X tg g)(hs:swapsWithSole [tg] e pos.line X.env=pure false:=by rfl)(S:swappedStores [tg] e X.env=pure none:=by rfl)(h1:(PQ [tg] X.env).map (·.2)=[SH tg X.env]:=by rfl):PS X (.Assign [tg] e pos) (ZgD te g):=by
 intro pins s σ H D I h
 refine wpAny_Assign_stores (Zs (Z pins s σ H _ I h) fun v s1 B=>?_) hs S
 obtain ⟨x,H1,U,W,J⟩:=B
 rw [h1]
 exact Zs (G pins s1 σ H1 x v _ U W J) fun _ s2 q=>q
theorem Zx {i:Nat}(G:X.N.Nodup)(hi:X.N[i]?=some x)(B:Loc X.env.scope x)(U:PE X e te)(hs:PL e (some (.Name x pos')) pos.line X.env=pure false:=by rfl)(hf:X.fn x=true\/X.env.scope.names.lookup x=some .local:=by first | exact .inl rfl | exact .inr rfl | assumption):
 PS X (.Assign [.Name x pos'] e pos) (ZgD te (UT i)):=by
 intro pins s σ H D I h
 refine wpAny_Assign_Name (Zs (U pins s σ H _ I h) fun v s1 J=>?_) hs
 obtain ⟨y,H1,W,Z,S⟩:=J
 exact XQ W G hi B Z (fun s2 I2=>⟨_,H1,I2,S⟩) hf
inductive Zig (i:Nat)(te:TE)(ti:TIp)(D:Yj)(σ:St)(H:Hp):Prop
 | mk (x:_):σ[i]?=some (some x)->(te σ H fun y H1=>ti x y H1 fun z H2=>D.nx (σ.set i (some z)) H2)->Zig i te ti D σ H
def tAug (i:Nat)(te:TE)(ti:TIp):TS:=fun D σ H=>Zig i te ti D σ H
theorem ZmO {i:Nat}(hN:X.N.Nodup)(hi:X.N[i]?=some x)(S:Loc X.env.scope x)(he:PE X e te)(ho:PIp X Z ti)(hf:X.fn x=true\/X.env.scope.names.lookup x=some .local:=by first | exact .inl rfl | exact .inr rfl | assumption):
 PS X (.AugAssign (.Name x pos') Z e pos) (tAug i te ti):=by
 intro pins s σ H D I h
 obtain ⟨v,e1,h⟩:=h
 obtain ⟨m,hn,hl⟩:=I.loc
 have W:Vis X.env.scope x:=by rcases S with k | k;exact .inl k;exact .inr (.inl k)
 obtain ⟨u,r,l⟩:=hl i x v hi e1 W
 refine wpAny_AugAssign_Name ?_
 have go:Qr (Qs X.prog X.w) X.A (eval e X.env) (fun w J=>Qr (Qs X.prog X.w) X.A (inplaceOp Z u w) (fun r G=>Qr (Qs X.prog X.w) X.A (storeName X.env x r) (fun _=>SP X pins D .next) X.xe G) X.xe J) X.xe s:=by
  refine Zs (he pins s σ H _ I h) fun w s1 U=>?_
  obtain ⟨y,H1,I1,r1,q1⟩:=U
  refine Zs (ho pins s1 σ H1 v y u w _ I1 r r1 q1) fun z s2 U=>?_
  obtain ⟨zv,H2,I2,r2,q2⟩:=U
  exact XQ I2 hN hi S r2 (fun s3 I3=>⟨_,H2,I3,q2⟩) hf
 rcases l with ⟨hk,hm⟩ | ⟨hk,c,hc,B⟩
 ·exact Pd I.ok.kind hk hn hm go
 ·rcases hk with hk | hk
  ·exact Rh I.ok.kind hk hc B go
  ·rcases S with k | k
   ·have:X.env.scope.names.lookup x=some .free:=hk
    rw [k] at this;cases this
   ·have:X.env.scope.names.lookup x=some .free:=hk
    rw [k] at this;cases this
def ipI (f:Int->Int->Int):TIp:=fun x y H Q=>∃ i j,x=.int i/\y=.int j/\Q (.int (f i j)) H
theorem Zme:PIp X .Add (ipI fun i j=>i+j):=by
 intro pins s σ H x y v u Q I G J h
 obtain ⟨i,j,e1,B,q⟩:=h
 subst e1;subst B
 obtain ⟨t,rfl⟩:=G
 obtain ⟨t',rfl⟩:=J
 exact iadd_int ⟨.int _,H,I.tok _,⟨_,rfl⟩,q⟩
end
section
variable {X:Cx}{pos:Pos}
def Znl (c:TT)(tb:TS):TS:=fun D σ H=>∃ W:Nat->St->Hp->Prop,(∃ m,W m σ H)/\∀ m σ H,W m σ H ->
 c σ H fun b H1=>if b=true then ∃ N:St->Hp->Prop,(∀ σ' H',N σ' H'->∃ m',m' < m/\W m' σ' H')/\tb { D with nx:=N,ct:=N,bk:=D.nx } σ H1 else D.nx σ H1
theorem ZjA (hp:PassesOwn (Qs X.prog X.w) X.A X.env X.xe)(hc:PT X c tc)(hb:PSs X body tb):PS X (.While c body [] pos) (Znl tc tb):=by
 intro pins s σ H D I h
 obtain ⟨W,⟨m0,w0⟩,S⟩:=h
 refine wpAny_While (codeAny_whileLoop (fun n s'=>∃ U H',Inv X pins U H' s'/\W n U H') ?_ m0 ⟨σ,H,I,w0⟩)
 rintro n s1 ⟨G,H1,I1,w1⟩
 refine GM hp (Zs (hc pins s1 G H1 _ I1 (S n G H1 w1)) fun b s2 zz=>?_)
 obtain ⟨H2,I2,q2⟩:=zz
 cases b with
 | true =>
  obtain ⟨N,hN,q2⟩:=q2
  rw [if_pos rfl]
  refine GM hp (Zs (hb pins s2 G H2 _ I2 q2) fun f s3 Z=>?_)
  cases f with
  | next =>
   obtain ⟨B,J,I3,n3⟩:=Z
   obtain ⟨m',hm,w3⟩:=hN B J n3
   exact ⟨m',hm,B,J,I3,w3⟩
  | cont =>
   obtain ⟨B,J,I3,n3⟩:=Z
   obtain ⟨m',hm,w3⟩:=hN B J n3
   exact ⟨m',hm,B,J,I3,w3⟩
  | brk=>exact Z
  | ret v=>exact Z
 | false =>
  rw [if_neg Qz]
  exact Ph ⟨G,H2,I2,q2⟩
end
structure It where
 go:Nat->Hp->Prop
 yld:Nat->Hp->V->Hp->Prop
 stop:Nat->Hp->Prop
def Xk (X:Cx)(pins:List (Addr×Obj))(H:Hp)(b:Addr):Prop :=
 H b=none/\b≠X.env.locals/\b ∉ X.fs/\(b∈X.ex\/X.s₀.heap.objs.size<=b)/\(∀ x c,X.env.cells.lookup x=some c->c≠b)/\∀ p∈X.pn++pins,p.1≠b
theorem Inv.fpOk (I:Inv X pins σ H s)(hb:s.heap.objs.size<=b)(B:H' b=none):Xk X pins H' b:=by
 refine ⟨B,GZ (QD I.lt hb),I.nofs hb,.inr (Qq I.sz hb),fun x c e z=>?_,fun p hp z=>?_⟩
 ·obtain ⟨v,q⟩:=I.cell x c e
  exact absurd (QD q.lt (by rw [z];exact hb)) (Gg _)
 ·exact absurd (QD (Qg (I.pin p hp).1) (by rw [z];exact hb)) (Gg _)
structure Zax (P:Qk)(w:Qt)(K:Qa)(tg:Expr)(J:It)(fp:List Addr)(it:Addr)(tn:Nat->Heap->Prop):Prop where
 mem:it∈fp
 obj:∀ i h,tn i h->∀ b∈fp,∃ o,h.get? b=some o/\∀ v,o.data≠.cell v
 keep:∀ i h h',tn i h->(∀ b∈fp,∀ o,h.get? b=some o->h'.get? b=some o)->tn i h'
 item:∀ (X:Cx),X.prog=P->X.w=w->X.K=K->X.calm=true->∀ (i:Nat) (pins:List (Addr×Obj)) (s:Qe) (σ:St) (H:Hp) (E:Qb->Qe->Prop),Inv X pins σ H s->(∀ b∈fp,Xk X pins H b)->tn i s.heap->J.go i H ->
  Qr (Qs P w) X.A (pyNext (.ref it)) (fun r s1=>∃ u,r=some u /\
   Qr (Qs P w) X.A (Pi tg (.ref it) u) (fun _ s2=>∃ x H',Inv X pins σ H' s2/\RelV x u/\J.yld i H x H'/\tn (i+1) s2.heap/\∀ b∈fp,H' b=none) E s1) E s
 done:∀ (X:Cx),X.prog=P->X.w=w->X.K=K->X.calm=true->∀ (i:Nat) (pins:List (Addr×Obj)) (s:Qe) (σ:St) (H:Hp) (E:Qb->Qe->Prop),Inv X pins σ H s->(∀ b∈fp,Xk X pins H b)->tn i s.heap->J.stop i H ->
  Qr (Qs P w) X.A (pyNext (.ref it)) (fun r s1=>r=none/\Inv X pins σ H s1) E s
 self:∀ (A:QA) (i:Nat) (s:Qe) (Q:Qb->Qe->Prop) (E:Qb->Qe->Prop),tn i s.heap->Q (.ref it) s->Qr (Qs P w) A (pyIter (.ref it)) Q E s
abbrev TI:=St->Hp->(It->Hp->Prop)->Prop
def PIE (X:Cx)(pins:List (Addr×Obj))(σ:St)(tg:Expr)(R:It->Hp->Prop)(itv:Qb)(s2:Qe):Prop :=
 ∃ (it:Addr) (fp:List Addr) (tn:Nat->Heap->Prop) (J:It) (H':Hp),itv=.ref it/\Inv X pins σ H' s2/\Zax X.prog X.w X.K tg J fp it tn/\tn 0 s2.heap/\(∀ b∈fp,Xk X pins H' b)/\R J H'
def PI (X:Cx)(tg iter:Expr)(wi:TI):Prop :=
 ∀ (pins:List (Addr×Obj)) (s:Qe) (σ:St) (H:Hp) (R:It->Hp->Prop),Inv X pins σ H s->wi σ H R ->
  Qr (Qs X.prog X.w) X.A (eval iter X.env) (fun v s1=>Qr (Qs X.prog X.w) X.A (pyIter v) (PIE X pins σ tg R) X.xe s1) X.xe s
theorem ZfW {s:Qe}(S:s.heap.get? G=some o)(J:o.cls=.type n)(I:o.data=.fields vs)(U:["enumerate","zip","dict_itemiterator","dict_reverseitemiterator","odict_iterator","itertools.zip_longest","itertools.pairwise"].contains n=false)(B:Q () s):Qr M A (Pi tg (.ref G) u) Q E s:=by
 unfold Pi
 cases tg <;> first
   | exact Qy B
   | (cases u<;>first
       | exact Qy B
       | (refine Qf (wpAny_load S ?_)
          rw [J,I]
          show Qr M A (if (["enumerate","zip","dict_itemiterator","dict_reverseitemiterator","odict_iterator","itertools.zip_longest","itertools.pairwise"].contains n&&vs[0]? == some (Gd _))=true then _ else _) Q E s
          rw [if_neg (by intro h;rw [U,Bool.false_and] at h;cases h)]
          exact Qy B))
def Itl (K:Qa)(a:Addr):It :=
 ⟨fun i H=>∃ xs x,SqL K H a xs/\xs[i]?=some x,fun i H x H'=>H'=H/\∀ xs,SqL K H a xs->xs[i]?=some x,fun i H=>∃ xs,SqL K H a xs/\xs.length<=i⟩
def Itt (K:Qa)(a:Addr):It :=
 ⟨fun i H=>∃ xs x,SqT K H a xs/\xs[i]?=some x,fun i H x H'=>H'=H/\∀ xs,SqT K H a xs->xs[i]?=some x,fun i H=>∃ xs,SqT K H a xs/\xs.length<=i⟩
def Itr (lo:Int)(n:Nat):It:=⟨fun i _=>i < n,fun i H x H'=>H'=H/\x=.int (lo+i),fun i _=>n<=i⟩
theorem Zir {P:Qk}{w:Qt}{K:Qa}{tg:Expr}(a B:Addr):Zax P w K tg (Itl K a) [B] B (fun i h=>h.IsListIter B a i) where
 mem:=by simp
 obj:=fun i h st b hb=>by
  have e:b=B:=by simpa using hb
  subst e
  obtain ⟨o,e,c,d⟩:=st
  exact ⟨o,e,fun v z=>by rw [d] at z;cases z⟩
 keep:=fun i h h' st k=>st.at fun o e=>k B (by simp) o e
 item:=by
  intro X Z W hK hc i pins s σ H E I S st hg
  subst Z W hK
  obtain ⟨xs,x,J,hx⟩:=hg
  obtain ⟨its,rv,p,hz⟩:=I.list J
  obtain ⟨u,hu,ru⟩:=rv.get hx
  obtain ⟨f0,f1,f2,f3,f4,U⟩:=S B (by simp)
  refine wpAny_pyNext_list_item st p.isList (x:=u) (by simpa using hu) fun h' G sb=>?_
  have I1:Inv X pins σ H { s with heap:=h' }:=I.turned (t':=s.toks) (fun b o hb e=>(sb.2 b hb).trans e) f0 f1 f3 f4 U
  obtain ⟨o,e,c,d⟩:=id G
  exact ⟨u,rfl,ZfW (s:={ s with heap:=h' }) e c d (by decide) ⟨x,H,I1,ru,⟨rfl,fun ys hy=>by rw [I.list_inj hy J];exact hx⟩,G,fun b hb=>(S b hb).1⟩⟩
 done:=by
  intro X Z W hK hc i pins s σ H E I S st hg
  subst Z W hK
  obtain ⟨xs,J,hx⟩:=hg
  obtain ⟨its,rv,p,hz⟩:=I.list J
  obtain ⟨f0,f1,f2,f3,f4,U⟩:=S B (by simp)
  have hl:=rv.length
  exact wpAny_pyNext_list_end (I.ok.hd hc) st p.isList (by simp;omega) fun h' eb=>⟨rfl,I.turned (t':=s.toks) (fun b o hb e=>eb b o hb e) f0 f1 f3 f4 U⟩
 self:=fun _ _ _ _ _ st h=>wpAny_pyIter_listiter st h
theorem ZgG {P:Qk}{w:Qt}{K:Qa}{tg:Expr}(a B:Addr):Zax P w K tg (Itt K a) [B] B (fun i h=>h.IsTupleIter B a i) where
 mem:=by simp
 obj:=fun i h st b hb=>by
  have e:b=B:=by simpa using hb
  subst e
  obtain ⟨o,e,c,d⟩:=st
  exact ⟨o,e,fun v z=>by rw [d] at z;cases z⟩
 keep:=fun i h h' st k=>st.at fun o e=>k B (by simp) o e
 item:=by
  intro X hP Z hK hc i pins s σ H E I U st hg
  subst hP Z hK
  obtain ⟨xs,x,S,hx⟩:=hg
  obtain ⟨G,rv,p,hz⟩:=I.tuple S
  obtain ⟨u,hu,ru⟩:=rv.get hx
  obtain ⟨f0,f1,f2,f3,f4,W⟩:=U B (by simp)
  refine wpAny_pyNext_tuple_item st (show s.heap.IsTuple a G.toArray from p) (x:=u) (by simpa using hu) fun h' J sb=>?_
  have I1:Inv X pins σ H { s with heap:=h' }:=I.turned (t':=s.toks) (fun b o hb e=>(sb.2 b hb).trans e) f0 f1 f3 f4 W
  obtain ⟨o,e,c,d⟩:=id J
  exact ⟨u,rfl,ZfW (s:={ s with heap:=h' }) e c d (by decide) ⟨x,H,I1,ru,⟨rfl,fun ys hy=>by rw [I.tuple_inj hy S];exact hx⟩,J,fun b hb=>(U b hb).1⟩⟩
 done:=by
  intro X hP Z hK hc i pins s σ H E I U st hg
  subst hP Z hK
  obtain ⟨xs,S,hx⟩:=hg
  obtain ⟨G,rv,p,hz⟩:=I.tuple S
  obtain ⟨f0,f1,f2,f3,f4,W⟩:=U B (by simp)
  have hl:=rv.length
  exact wpAny_pyNext_tuple_end (I.ok.hd hc) st (show s.heap.IsTuple a G.toArray from p) (by simp;omega) fun h' eb=>⟨rfl,I.turned (t':=s.toks) (fun b o hb e=>eb b o hb e) f0 f1 f3 f4 W⟩
 self:=fun _ _ _ _ _ st h=>wpAny_pyIter_tupleiter st h
theorem ZgF {P:Qk}{w:Qt}{K:Qa}{tg:Expr}(B:Addr)(lo:Int)(n:Nat):Zax P w K tg (Itr lo n) [B] B (fun i h=>IsRangeIter h B (lo+(i:Nat) * 1) ((n:Int) - (i:Nat)) 1) where
 mem:=by simp
 obj := fun i h st b hb=>by
  have e:b=B:=by simpa using hb
  subst e
  exact ⟨_,st,fun v z=>by
   have z':Data.fields _=Data.cell v:=z
   cases z'⟩
 keep:=fun i h h' st k=>k B (by simp) _ st
 item:=by
  intro X Z U hK hc i pins s σ H E I J st hg
  subst Z U hK
  obtain ⟨f0,f1,f2,f3,f4,S⟩:=J B (by simp)
  have W:=Walks.range (prog:=X.prog) (w:=X.w) (I.ok.hd hc) B lo 1 n
  refine W.item i s _ _ hg st fun v h' tk hv G kk=>?_
  obtain ⟨t,rfl⟩:=hv
  have I1:Inv X pins σ H { s with heap:=h',toks:=tk }:=I.turned (fun b o hb e=>kk b o (by simpa using hb) e) f0 f1 f3 f4 S
  refine ⟨_,rfl,ZfW (s:={ s with heap:=h',toks:=tk }) (n:="range_iterator") G rfl rfl (by decide) ⟨.int (lo+i),H,I1,⟨t,?_⟩,⟨rfl,rfl⟩,G,fun b hb=>(J b hb).1⟩⟩
  rw [Int.mul_one]
 done:=by
  intro X Z U hK hc i pins s σ H E I J st hg
  subst Z U hK
  obtain ⟨f0,f1,f2,f3,f4,S⟩:=J B (by simp)
  exact wpAny_pyNext_range_end (I.ok.hd hc) st (by have:n<=i:=hg;omega) fun h' eb=>⟨rfl,I.turned (t':=s.toks) (fun b o hb e=>eb b o hb e) f0 f1 f3 f4 S⟩
 self:=fun _ _ _ _ _ st h=>wpAny_pyIter_rangeiter st h
section
variable {X:Cx}{tg:Expr}
inductive ZeT (K:Qa)(R:It->Hp->Prop)(x:V)(H1:Hp):Prop
 | mk (a:_):x=.ref a->(∃ xs,SqL K H1 a xs)->R (Itl K a) H1->ZeT K R x H1
def ZnJ (K:Qa)(tl:TE):TI:=fun σ H R=>tl σ H fun x H1=>ZeT K R x H1
inductive Zhi (K:Qa)(R:It->Hp->Prop)(x:V)(H1:Hp):Prop
 | mk (a:_):x=.ref a->(∃ xs,SqT K H1 a xs)->R (Itt K a) H1->Zhi K R x H1
def iTup (K:Qa)(tl:TE):TI:=fun σ H R=>tl σ H fun x H1=>Zhi K R x H1
theorem ZbR (Z:PE X l tl):PI X tg l (ZnJ X.K tl):=by
 intro pins s σ H R I h
 refine Zs (Z pins s σ H _ I h) fun v s1 G=>?_
 obtain ⟨x,H1,B,W,S⟩:=G
 obtain ⟨a,e,⟨xs,U⟩,q⟩:=S
 subst e
 cases W
 obtain ⟨J,rv,p,hz⟩:=B.list U
 refine RQ p.isList ?_
 refine ⟨s1.heap.objs.size,[s1.heap.objs.size],_,_,H1,rfl,B.kept (t':=s1.toks) fun b o e=>Qd _ e,Zir a _,⟨_,Qo _ rfl,rfl,rfl⟩,fun b hb=>?_,q⟩
 have e:b=s1.heap.objs.size:=by simpa using hb
 subst e
 exact B.fpOk (Qh _) (B.hok.fresh (Qh _))
theorem ZhN (Z:PE X l tl):PI X tg l (iTup X.K tl):=by
 intro pins s σ H R I h
 refine Zs (Z pins s σ H _ I h) fun v s1 J=>?_
 obtain ⟨x,H1,B,W,S⟩:=J
 obtain ⟨a,e,⟨xs,U⟩,q⟩:=S
 subst e
 cases W
 obtain ⟨G,rv,p,hz⟩:=B.tuple U
 refine RC (show s1.heap.IsTuple a G.toArray from p) ?_
 refine ⟨s1.heap.objs.size,[s1.heap.objs.size],_,_,H1,rfl,B.kept (t':=s1.toks) fun b o e=>Qd _ e,ZgG a _,⟨_,Qo _ rfl,rfl,rfl⟩,fun b hb=>?_,q⟩
 have e:b=s1.heap.objs.size:=by simpa using hb
 subst e
 exact B.fpOk (Qh _) (B.hok.fresh (Qh _))
theorem ZjD {pins:List (Addr×Obj)}{σ:St}{H:Hp}{s:Qe}{R:It->Hp->Prop}{E:Qb->Qe->Prop}{lo hi:Int}{t u v:Tok}{tk:Nat}(I:Inv X pins σ H s)(h1:-(2 ^ 62)<=lo)(h2:lo < 2 ^ 62)(G:-(2 ^ 62)<=hi)(S:hi < 2 ^ 62)
 (q:R (Itr lo (hi - lo).toNat) H):Qr (Qs X.prog X.w) X.A (pyIter (.ref s.heap.objs.size)) (PIE X pins σ tg R) E { s with heap:=s.heap.push { cls:=.type "range",data:=.fields #[.int lo t,.int hi u,.int 1 v] },toks:=tk }:=by
 refine wpAny_pyIter_range (IsRange.new ..) (small_one h1 h2 G S) ?_
 have B:Inv X pins σ H { s with heap:=s.heap.push { cls:=.type "range",data:=.fields #[.int lo t,.int hi u,.int 1 v] },toks:=tk }:=I.kept fun b o e=>Qd _ e
 refine ⟨(s.heap.push { cls:=.type "range",data:=.fields #[.int lo t,.int hi u,.int 1 v] }).objs.size,[(s.heap.push { cls:=.type "range",data:=.fields #[.int lo t,.int hi u,.int 1 v] }).objs.size],_,_,H,rfl,
  B.kept (t':=tk) fun b o e=>Qd _ e,ZgF _ lo (hi - lo).toNat,?_,fun b hb=>?_,q⟩
 ·have e1:lo+((0:Nat):Int) * 1=lo:=by simp
  have J:(((hi - lo).toNat:Nat):Int) - ((0:Nat):Int)=Builtin.Range.rangeSize lo hi 1:=by rw [rangeSize_one];split<;>omega
  show IsRangeIter _ _ (lo+((0:Nat):Int) * 1) ((((hi - lo).toNat:Nat):Int) - ((0:Nat):Int)) 1
  rw [e1,J]
  exact Qo _ rfl
 ·have e:b=(s.heap.push { cls:=.type "range",data:=.fields #[.int lo t,.int hi u,.int 1 v] }).objs.size:=by simpa using hb
  subst e
  exact B.fpOk (Qh _) (B.hok.fresh (Qh _))
inductive ZeU (R:It->Hp->Prop)(vs:List V)(H1:Hp):Prop
 | mk (j:Int):vs=[.int j]->-(2 ^ 62)<=j->j < 2 ^ 62->R (Itr 0 j.toNat) H1->ZeU R vs H1
def ZnK (ta:TA):TI:=fun σ H R=>ta σ H fun vs H1=>ZeU R vs H1
theorem Xb (J:Gl X "range")(U:X.mg "range"=none)(ha:PA X [a] ta)(hs:QE [a] X.env=[(false,eval a X.env)]:=by rfl):PI X tg (.Call (.Name "range" p) [a] [] pos) (ZnK ta):=by
 intro pins s σ H R I h
 refine Call_ (Ux I J U boot_range (PB (Zs (ha pos pins s σ H _ I h) fun us s1 G=>?_) hs rfl))
 obtain ⟨vs,H1,W,Z,B⟩:=G
 obtain ⟨j,e,B,S,q⟩:=B
 subst e
 cases Z with
 | cons r rr =>
  cases rr
  obtain ⟨t,rfl⟩:=r
  exact call_range_1 (ZjD W (by omega) (by omega) B S (by simpa using q))
def tFor (wi:TI)(g:TG)(tb:TS):TS:=fun D σ H=>wi σ H fun J H1=>∃ W:Nat->Nat->St->Hp->Prop,(∃ m,W 0 m σ H1)/\∀ i m σ H,W i m σ H ->
 (J.stop i H/\D.nx σ H)\/(J.go i H/\∃ N:St->Hp->Prop,(∀ σ' H',N σ' H'->∃ m',m' < m/\W (i+1) m' σ' H')/\∀ x H',J.yld i H x H'->g x σ H' fun σ2 H2=>tb { D with nx:=N,ct:=N,bk:=D.nx } σ2 H2)
def Zbo (fp:List Addr)(h:Heap):List (Addr×Obj):=fp.filterMap fun b=>(h.get? b).map fun o=>(b,o)
theorem Yt (hb:b∈fp)(e:h.get? b=some o):(b,o)∈Zbo fp h:=mem_filterMap.mpr ⟨b,hb,by rw [e];rfl⟩
theorem ZhB (hp:p∈Zbo fp h):p.1∈fp/\h.get? p.1=some p.2:=by
 obtain ⟨b,hb,e⟩:=mem_filterMap.mp hp
 cases q:h.get? b with
 | none=>rw [q] at e;cases e
 | some o =>
  rw [q] at e
  have B:(b,o)=p:=QG e
  subst B
  exact ⟨hb,q⟩
theorem Inv.pinned (I:Inv X pins σ H s)(W:∀ b∈fp,Xk X pins H b)(U:∀ b∈fp,∃ o,s.heap.get? b=some o/\∀ v,o.data≠.cell v):Inv X (pins++Zbo fp s.heap) σ H s :=
 I.pins_of fun p hp=>(mem_append.mp hp).elim (fun z=>I.pin p (mem_append_right _ z)) fun z=>by
  obtain ⟨hb,e⟩:=ZhB z
  obtain ⟨J,G,S,_⟩:=W p.1 hb
  obtain ⟨o,B,d⟩:=U p.1 hb
  rw [e] at B;cases B
  exact ⟨e,J,G,S,d⟩
theorem Inv.unpinned {pins pl:List (Addr×Obj)}(I:Inv X (pins++pl) σ H s):Inv X pins σ H s:=I.pins_of fun p hp=>I.pin p (mem_append_right _ (Pb _ hp))
theorem Ue (hp:PassesOwn (Qs X.prog X.w) X.A X.env X.xe)(hc:X.calm=true)(hi:PI X tg iter wi)(hg:PG X tg g)(hb:PSs X body tb)(hs:∀ x,GN iter X.env x=pure x:=by intro _;rfl):PS X (.For tg iter body [] pos) (tFor wi g tb):=by
 intro pins s σ H D I h
 refine wpAny_For (Zs (hi pins s σ H _ I h) fun v s1 h1=>Zs h1 fun itv s2 h2=>?_) hs
 obtain ⟨it,fp,tn,J,H2,e,I2,T,st2,f2,W,⟨m0,w0⟩,turn⟩:=h2
 subst e
 have U:∀ {H':Hp},(∀ b∈fp,H' b=none)->∀ b∈fp,Xk X pins H' b:=fun hn b hb=>⟨hn b hb,(f2 b hb).2⟩
 refine codeAny_forLoop_any (fun n s'=>∃ i Z H',Inv X pins Z H' s'/\tn i s'.heap/\(∀ b∈fp,H' b=none)/\W i n Z H') ?_ m0 ⟨0,σ,H2,I2,st2,fun b hb=>(f2 b hb).1,w0⟩
 rintro n s3 ⟨i,σ3,H3,I3,st3,fr3,w3⟩
 rcases turn i n σ3 H3 w3 with ⟨stop,qn⟩ | ⟨go,N,hN,step⟩
 ·refine GM hp (Zs (T.done X rfl rfl rfl hc i pins s3 σ3 H3 X.xe I3 (U fr3) st3 stop) fun r s4 ⟨hr,I4⟩=>?_)
  subst hr
  exact Ph ⟨σ3,H3,I4,qn⟩
 ·refine GM hp (Zs (T.item X rfl rfl rfl hc i pins s3 σ3 H3 X.xe I3 (U fr3) st3 go) fun r s4 zz=>?_)
  obtain ⟨u,hr,h4⟩:=zz
  subst hr
  refine GM hp (Zs h4 fun _ s5 zz=>?_)
  obtain ⟨x,H5,I5,r5,y5,st5,fr5⟩:=zz
  have I5':=I5.pinned (U fr5) (T.obj _ _ st5)
  refine GM hp (Zs (hg _ s5 σ3 H5 x u _ I5' r5 (step x H5 y5)) fun _ s6 zz=>?_)
  obtain ⟨σ6,H6,I6,q6⟩:=zz
  refine GM hp (Zs (hb _ s6 σ6 H6 _ I6 q6) fun f s7 q7=>?_)
  have again:∀ {B:St} {G:Hp},Inv X (pins++Zbo fp s5.heap) B G s7->N B G->∃ m,m < n/\∃ i Z H',Inv X pins Z H' s7/\tn i s7.heap/\(∀ b∈fp,H' b=none)/\W i m Z H':=fun {B G} S n7=>by
   obtain ⟨m',hm,w7⟩:=hN B G n7
   refine ⟨m',hm,i+1,B,G,S.unpinned,T.keep _ _ _ st5 fun b hb o e=>(S.pin (b,o) (mem_append_right _ (mem_append_right _ (Yt hb e)))).1,fun b hb=>?_,w7⟩
   obtain ⟨o,e,d⟩:=T.obj _ _ st5 b hb
   exact (S.pin (b,o) (mem_append_right _ (mem_append_right _ (Yt hb e)))).2.1
  cases f with
  | next=>obtain ⟨B,G,S,n7⟩:=q7;exact again S n7
  | cont=>obtain ⟨B,G,S,n7⟩:=q7;exact again S n7
  | brk=>obtain ⟨B,G,S,q7⟩:=q7;exact ⟨B,G,S.unpinned,q7⟩
  | ret v=>obtain ⟨x7,B,G,S,r7,q7⟩:=q7;exact ⟨x7,B,G,S.unpinned,r7,q7⟩
end
theorem ZiL {K:Qa}{a:Addr}{xs:List V}{g:TG}{tb:TS}{D:Yj}{σ:St}{H:Hp}(B:Nat->St->Hp->Prop)(U:B 0 σ H)(hl:∀ i σ H,i<=xs.length->B i σ H->SqL K H a xs)
 (hs:∀ i x σ H,xs[i]?=some x->B i σ H->g x σ H fun I H2=>tb { D with nx:=B (i+1),ct:=B (i+1),bk:=D.nx } I H2) (Z:∀ σ H,B xs.length σ H->D.nx σ H) :
 ∃ W:Nat->Nat->St->Hp->Prop,(∃ m,W 0 m σ H)/\∀ i m σ H,W i m σ H ->
  ((Itl K a).stop i H/\D.nx σ H)\/((Itl K a).go i H/\∃ N:St->Hp->Prop,(∀ G H',N G H'->∃ S,S < m/\W (i+1) S G H')/\∀ x H',(Itl K a).yld i H x H'->g x σ H' fun I H2=>tb { D with nx:=N,ct:=N,bk:=D.nx } I H2):=by
 refine ⟨fun i m σ H=>m=xs.length - i/\i<=xs.length/\B i σ H,⟨xs.length,by simp,QH _,U⟩,?_⟩
 rintro i m σ H ⟨rfl,hi,p⟩
 have q:=hl i σ H hi p
 by_cases J:i < xs.length
 ·refine .inr ⟨⟨xs,xs[i],q,by simp [J]⟩,B (i+1),fun G H' p'=>⟨xs.length - (i+1),by omega,rfl,J,p'⟩,fun x H' y=>?_⟩
  obtain ⟨e,y⟩:=y
  subst e
  exact hs i x σ _ (y xs q) p
 ·have e:i=xs.length:=by omega
  subst e
  exact .inl ⟨⟨xs,q,Qh _⟩,Z σ H p⟩
theorem WD {lo:Int}{n:Nat}{g:TG}{tb:TS}{D:Yj}{σ:St}{H:Hp}(J:Nat->St->Hp->Prop)(U:J 0 σ H)
 (hs:∀ i σ H,i < n->J i σ H->g (.int (lo+i)) σ H fun G H2=>tb { D with nx:=J (i+1),ct:=J (i+1),bk:=D.nx } G H2) (Z:∀ σ H,J n σ H->D.nx σ H) :
 ∃ W:Nat->Nat->St->Hp->Prop,(∃ m,W 0 m σ H)/\∀ i m σ H,W i m σ H ->
  ((Itr lo n).stop i H/\D.nx σ H)\/((Itr lo n).go i H/\∃ N:St->Hp->Prop,(∀ B H',N B H'->∃ S,S < m/\W (i+1) S B H')/\∀ x H',(Itr lo n).yld i H x H'->g x σ H' fun G H2=>tb { D with nx:=N,ct:=N,bk:=D.nx } G H2):=by
 refine ⟨fun i m σ H=>m=n - i/\i<=n/\J i σ H,⟨n,by simp,QH _,U⟩,?_⟩
 rintro i m σ H ⟨rfl,hi,p⟩
 by_cases I:i < n
 ·refine .inr ⟨I,J (i+1),fun B H' p'=>⟨n - (i+1),by omega,rfl,I,p'⟩,fun x H' y=>?_⟩
  obtain ⟨e,y⟩:=y
  subst e y
  exact hs i σ _ I p
 ·have e:i=n:=by omega
  subst e
  exact .inl ⟨Qh _,Z σ H p⟩
abbrev R2:=V->V->Hp->VK->Prop
def Xp (X:Cx)(f:Qb->Qb->Sem Qb)(r:R2):Prop :=
 ∀ (pins:List (Addr×Obj)) (s:Qe) (σ:St) (H:Hp) (x y:V) (v u:Qb) (Q:VK),Inv X pins σ H s->RelV x v->RelV y u->r x y H Q ->
  Qr (Qs X.prog X.w) X.A (f v u) (EP X pins σ Q) X.xe s
def UnR (X:Cx)(f:Qb->Sem Qb)(r:V->Hp->VK->Prop):Prop :=
 ∀ (pins:List (Addr×Obj)) (s:Qe) (σ:St) (H:Hp) (x:V) (v:Qb) (Q:VK),Inv X pins σ H s->RelV x v->r x H Q ->
  Qr (Qs X.prog X.w) X.A (f v) (EP X pins σ Q) X.xe s
def Ys (X:Cx)(f:Qb)(r:List V->Hp->VK->Prop):Prop :=
 ∀ (pins:List (Addr×Obj)) (s:Qe) (σ:St) (H:Hp) (xs:List V) (us:List Qb) (Q:VK),Inv X pins σ H s->Vals xs us->r xs H Q ->
  Qr (Qs X.prog X.w) X.A (call f us) (EP X pins σ Q) X.xe s
def TruR (X:Cx)(r:V->Hp->(Bool->Hp->Prop)->Prop):Prop :=
 ∀ (pins:List (Addr×Obj)) (s:Qe) (σ:St) (H:Hp) (x:V) (v:Qb) (Q:Bool->Hp->Prop),Inv X pins σ H s->RelV x v->r x H Q ->
  Qr (Qs X.prog X.w) X.A (truthy v) (TP X pins σ Q) X.xe s
def tOp (r:R2)(ta tb:TE):TE:=fun σ H Q=>ta σ H fun x H1=>tb σ H1 fun y H2=>r x y H2 Q
def tUn (r:V->Hp->VK->Prop)(ta:TE):TE:=fun σ H Q=>ta σ H fun x H1=>r x H1 Q
inductive rI_R (C:Int->Int->Prop)(g:Int->Int->V)(x y:V)(H:Hp)(Q:VK):Prop
 | mk (i j:_):x=.int i->y=.int j->C i j->Q (g i j) H->rI_R C g x y H Q
def rI (C:Int->Int->Prop)(g:Int->Int->V):R2:=fun x y H Q=>rI_R C g x y H Q
inductive Zkf (g:Int->Int->V)(x y:V)(H:Hp)(Q:VK):Prop
 | mk (i j:_):x=.int i->y=.int j->Q (g i j) H->Zkf g x y H Q
def rI0 (g:Int->Int->V):R2:=fun x y H Q=>Zkf g x y H Q
inductive rU_R (g:Int->V)(x:V)(H:Hp)(Q:VK):Prop
 | mk (i:_):x=.int i->Q (g i) H->rU_R g x H Q
def rU (g:Int->V):V->Hp->VK->Prop:=fun x H Q=>rU_R g x H Q
section
variable {X:Cx}{a b c:Expr}{ta tb tc:TE}{pos:Pos}
theorem ZiD (ha:PE X a ta)(hb:PE X b tb){pins:List (Addr×Obj)}{s:Qe}{σ:St}{H:Hp}{R:V->V->Hp->Prop}(I:Inv X pins σ H s)
 (h:ta σ H fun x H1=>tb σ H1 fun y H2=>R x y H2) {Q:Qb->Qe->Prop} {f:Qb->Qb->Sem Qb}
 (hf:∀ v u s2 x y H2,Inv X pins σ H2 s2->RelV x v->RelV y u->R x y H2->Qr (Qs X.prog X.w) X.A (f v u) Q X.xe s2) :
 Qr (Qs X.prog X.w) X.A (eval a X.env) (fun v G=>Qr (Qs X.prog X.w) X.A (eval b X.env) (fun u B=>Qr (Qs X.prog X.w) X.A (f v u) Q X.xe B) X.xe G) X.xe s:=by
 refine Zs (ha pins s σ H _ I h) fun v s1 J=>?_
 obtain ⟨x,H1,Z,r1,W⟩:=J
 refine Zs (hb pins s1 σ H1 _ Z W) fun u s2 J=>?_
 obtain ⟨y,H2,I2,S,U⟩:=J
 exact hf v u s2 x y H2 I2 r1 S U
theorem Zv (U:Xp X (JF B) r)(W:PE X a ta)(hb:PE X b tb):PE X (.BinOp a B b pos) (tOp r ta tb):=by
 intro pins s σ H Q I h
 exact wpAny_BinOp (ZiD W hb I h fun v u s2 x y H2 S J G q=>U pins s2 σ H2 x y v u Q S J G q)
theorem Zkb (U:UnR X (unaryOp B) r)(W:PE X a ta):PE X (.UnaryOp B a pos) (tUn r ta):=by
 intro pins s σ H Q I h
 exact UnaryOp_ (Zs (W pins s σ H _ I h) fun v s1 ⟨x,H1,J,S,G⟩=>U pins s1 σ H1 x v Q J S G)
theorem opI {f:Qb->Qb->Sem Qb}{C:Int->Int->Prop}{g:Int->Int->Int}
 (rule:∀ (i j:Int) (t u:Tok) (s:Qe) (Q:Qb->Qe->Prop) (E:Qb->Qe->Prop),C i j->Q (.int (g i j) s.toks) { s with toks:=s.toks+1 }->Qr (Qs X.prog X.w) X.A (f (.int i t) (.int j u)) Q E s) :
 Xp X f (rI C fun i j=>.int (g i j)):=by
 intro pins s σ H x y v u Q I G B h
 obtain ⟨i,j,rfl,rfl,J,q⟩:=h
 obtain ⟨t,rfl⟩:=G
 obtain ⟨t',rfl⟩:=B
 exact rule i j t t' s _ _ J ⟨.int (g i j),H,I.tok _,⟨_,rfl⟩,q⟩
theorem opI0 {f:Qb->Qb->Sem Qb}{g:Int->Int->Int}
 (rule:∀ (i j:Int) (t u:Tok) (s:Qe) (Q:Qb->Qe->Prop) (E:Qb->Qe->Prop),Q (.int (g i j) s.toks) { s with toks:=s.toks+1 }->Qr (Qs X.prog X.w) X.A (f (.int i t) (.int j u)) Q E s) :
 Xp X f (rI0 fun i j=>.int (g i j)):=by
 intro pins s σ H x y v u Q I G B h
 obtain ⟨i,j,rfl,rfl,q⟩:=h
 obtain ⟨t,rfl⟩:=G
 obtain ⟨t',rfl⟩:=B
 exact rule i j t t' s _ _ ⟨.int (g i j),H,I.tok _,⟨_,rfl⟩,q⟩
theorem Zge {f:Qb->Qb->Sem Qb}{g:Int->Int->Bool}
 (rule:∀ (i j:Int) (t u:Tok) (s:Qe) (Q:Qb->Qe->Prop) (E:Qb->Qe->Prop),Q (.bool (g i j)) s->Qr (Qs X.prog X.w) X.A (f (.int i t) (.int j u)) Q E s) :
 Xp X f (rI0 fun i j=>.bl (g i j)):=by
 intro pins s σ H x y v u Q I G B h
 obtain ⟨i,j,rfl,rfl,q⟩:=h
 obtain ⟨t,rfl⟩:=G
 obtain ⟨t',rfl⟩:=B
 exact rule i j t t' s _ _ ⟨.bl (g i j),H,I,rfl,q⟩
def CDiv (i j:Int):Prop:=0 < j/\j < 1073741824
def CPow (i j:Int):Prop:=0<=j/\j<=1000000/\i.natAbs < 2 ^ 64
def CMul (i j:Int):Prop:=(-(2 ^ 64) < i/\i < 2 ^ 64)\/(-(2 ^ 64) < j/\j < 2 ^ 64)
theorem CMul.ok {i j:Int}(h:CMul i j):IntMulOk i j:=by
 rcases h with ⟨h1,h2⟩ | ⟨h1,h2⟩
 ·exact .of_left (intBits_le_64 h1 h2)
 ·exact .of_right (intBits_le_64 h1 h2)
theorem Yx:Xp X (JF .Add) (rI0 fun i j=>.int (i+j)):=opI0 fun _ _ _ _ _ _ _ q=>add_int q
theorem YS:Xp X (JF .Sub) (rI0 fun i j=>.int (i - j)):=opI0 fun _ _ _ _ _ _ _ q=>sub_int q
theorem WE:Xp X (JF .Mult) (rI CMul fun i j=>.int (i * j)):=opI fun _ _ _ _ _ _ _ B q=>mul_int q B.ok
theorem Zfk:Xp X (JF .FloorDiv) (rI CDiv fun i j=>.int (i / j)):=opI fun i j _ _ _ _ _ B q=>by
 have h1:(0:Int) < j:=B.1
 have h2:j < 1073741824:=B.2
 exact floordiv_int (by omega) (by rw [Jk i (by omega)];exact q) (.inl (TZ (by omega)))
theorem Wb:Xp X (JF .Mod) (rI (fun _ j=>0 < j) fun i j=>.int (i % j)):=opI fun i j _ _ _ _ _ B q=>by
 have h1:(0:Int) < j:=B
 exact mod_int' (by omega) (by rw [PR i (by omega)];exact q)
theorem VE:Xp X (JF .Pow) (rI CPow fun i j=>.int (i ^ j.toNat)):=opI fun _ _ _ _ _ _ _ B q=>pow_int_small B.1 B.2.1 B.2.2 q
theorem unI {f:Qb->Sem Qb}{g:Int->Int}
 (rule:∀ (i:Int) (t:Tok) (s:Qe) (Q:Qb->Qe->Prop) (E:Qb->Qe->Prop),Q (.int (g i) s.toks) { s with toks:=s.toks+1 }->Qr (Qs X.prog X.w) X.A (f (.int i t)) Q E s) :
 UnR X f (rU fun i=>.int (g i)):=by
 intro pins s σ H x v Q I B h
 obtain ⟨i,rfl,q⟩:=h
 obtain ⟨t,rfl⟩:=B
 exact rule i t s _ _ ⟨.int (g i),H,I.tok _,⟨_,rfl⟩,q⟩
theorem Zit:UnR X (unaryOp .USub) (rU fun i=>.int (-i)):=unI fun _ _ _ _ _ q=>neg_int q
end
def scal:V->V->Bool
 | .non,.non=>true | .non,.int _=>true | .int _,.non=>true | .non,.bl _=>true | .bl _,.non=>true | .non,.str _=>true | .str _,.non=>true
 | .int _,.int _=>true | .bl _,.bl _=>true | .str _,.str _=>true | .byt _,.byt _=>true
 | .int _,.str _=>true | .str _,.int _=>true | .bl _,.str _=>true | .str _,.bl _=>true
 | _,_=>false
def rEq:R2:=fun x y H Q=>scal x y=true/\Q (.bl (decide (x=y))) H
def rNe:R2:=fun x y H Q=>scal x y=true/\Q (.bl (!decide (x=y))) H
theorem ZeQ {i j:Int}:decide (V.int i=V.int j)=(i == j):=by
 rw [Pj]
 simp
theorem Zha :decide (V.bl i=V.bl j)=(i == j):=by
 rw [Pj]
 simp
theorem ZeR :decide (V.str i=V.str j)=(i == j):=by
 rw [Pj]
 simp
theorem ZeP :decide (V.byt i=V.byt j)=(i.toList == j.toList):=by
 rw [Pj]
 cases i
 cases j
 simp
section
variable {X:Cx}{a b c:Expr}{ta tb tc:TE}{pos:Pos}
theorem ZP (I:Inv X pins σ H s)(q:Q (.bl k) H)(e:k=B):EP X pins σ Q (.bool B) s:=by
 subst e
 exact ⟨.bl k,H,I,rfl,q⟩
theorem YW:Xp X (GJ .Eq) rEq:=by
 intro pins s σ H x y v u Q I J B h
 obtain ⟨G,q⟩:=h
 cases x with
 | non =>
  cases J
  cases y with
  | non=>cases B;exact PySem.EqNone.eq_none_none (ZP I q (by simp))
  | bl j=>cases B;exact PySem.EqNone.eq_none_bool (ZP I q (by simp))
  | int j=>obtain ⟨t',rfl⟩:=B;exact PySem.EqNone.eq_none_int (ZP I q (by simp))
  | str j=>obtain ⟨t',rfl⟩:=B;exact PySem.EqNone.eq_none_str (ZP I q (by simp))
  | _=>exact absurd (show false=true from G) Qz
 | bl i =>
  cases J
  cases y with
  | non=>cases B;exact PySem.EqNone.eq_bool_none (ZP I q (by simp))
  | bl j=>cases B;exact eq_bool (ZP I q Zha)
  | str j=>obtain ⟨t',rfl⟩:=B;exact PySem.EqMixed.eq_bool_str (ZP I q (by simp))
  | _=>exact absurd (show false=true from G) Qz
 | int i =>
  obtain ⟨t,rfl⟩:=J
  cases y with
  | non=>cases B;exact PySem.EqNone.eq_int_none (ZP I q (by simp))
  | int j=>obtain ⟨t',rfl⟩:=B;exact eq_int (ZP I q ZeQ)
  | str j=>obtain ⟨t',rfl⟩:=B;exact PySem.EqMixed.eq_int_str (ZP I q (by simp))
  | _=>exact absurd (show false=true from G) Qz
 | str i =>
  obtain ⟨t,rfl⟩:=J
  cases y with
  | non=>cases B;exact PySem.EqNone.eq_str_none (ZP I q (by simp))
  | bl j=>cases B;exact PySem.EqMixed.eq_str_bool (ZP I q (by simp))
  | int j=>obtain ⟨t',rfl⟩:=B;exact PySem.EqMixed.eq_str_int (ZP I q (by simp))
  | str j=>obtain ⟨t',rfl⟩:=B;exact eq_str (ZP I q ZeR)
  | _=>exact absurd (show false=true from G) Qz
 | byt i =>
  obtain ⟨t,rfl⟩:=J
  cases y with
  | byt j=>obtain ⟨t',rfl⟩:=B;exact PySem.W.eq_bytes (ZP I q ZeP)
  | _=>exact absurd (show false=true from G) Qz
 | _=>cases y<;>exact absurd (show false=true from G) Qz
theorem Uk:Xp X (GJ .NotEq) rNe:=by
 intro pins s σ H x y v u Q I J B h
 obtain ⟨G,q⟩:=h
 cases x with
 | non =>
  cases J
  cases y with
  | non=>cases B;exact PySem.EqNone.ne_none_none (ZP I q (by simp))
  | bl j=>cases B;exact PySem.EqNone.ne_none_bool (ZP I q (by simp))
  | int j=>obtain ⟨t',rfl⟩:=B;exact PySem.EqNone.ne_none_int (ZP I q (by simp))
  | str j=>obtain ⟨t',rfl⟩:=B;exact PySem.EqNone.ne_none_str (ZP I q (by simp))
  | _=>exact absurd (show false=true from G) Qz
 | bl i =>
  cases J
  cases y with
  | non=>cases B;exact PySem.EqNone.ne_bool_none (ZP I q (by simp))
  | bl j=>cases B;exact ne_bool (ZP I q (congrArg not Zha))
  | str j=>obtain ⟨t',rfl⟩:=B;exact PySem.EqMixed.ne_bool_str (ZP I q (by simp))
  | _=>exact absurd (show false=true from G) Qz
 | int i =>
  obtain ⟨t,rfl⟩:=J
  cases y with
  | non=>cases B;exact PySem.EqNone.ne_int_none (ZP I q (by simp))
  | int j=>obtain ⟨t',rfl⟩:=B;exact ne_int (ZP I q (congrArg not ZeQ))
  | str j=>obtain ⟨t',rfl⟩:=B;exact PySem.EqMixed.ne_int_str (ZP I q (by simp))
  | _=>exact absurd (show false=true from G) Qz
 | str i =>
  obtain ⟨t,rfl⟩:=J
  cases y with
  | non=>cases B;exact PySem.EqNone.ne_str_none (ZP I q (by simp))
  | bl j=>cases B;exact PySem.EqMixed.ne_str_bool (ZP I q (by simp))
  | int j=>obtain ⟨t',rfl⟩:=B;exact PySem.EqMixed.ne_str_int (ZP I q (by simp))
  | str j=>obtain ⟨t',rfl⟩:=B;exact ne_str (ZP I q (congrArg not ZeR))
  | _=>exact absurd (show false=true from G) Qz
 | byt i =>
  obtain ⟨t,rfl⟩:=J
  cases y with
  | byt j=>obtain ⟨t',rfl⟩:=B;exact PySem.W.ne_bytes (ZP I q (congrArg not ZeP))
  | _=>exact absurd (show false=true from G) Qz
 | _=>cases y<;>exact absurd (show false=true from G) Qz
theorem ZcV:Xp X (GJ .Lt) (rI0 fun i j=>.bl (decide (i < j))):=Zge fun _ _ _ _ _ _ _ q=>lt_int q
theorem Zka:Xp X (GJ .LtE) (rI0 fun i j=>.bl (decide (i<=j))):=Zge fun _ _ _ _ _ _ _ q=>le_int q
theorem ZnQ:Xp X (GJ .Gt) (rI0 fun i j=>.bl (decide (j < i))):=Zge fun _ _ _ _ _ _ _ q=>gt_int q
theorem ZnP:Xp X (GJ .GtE) (rI0 fun i j=>.bl (decide (j<=i))):=Zge fun _ _ _ _ _ _ _ q=>ge_int q
theorem ZU (b:Expr)(h:B≠.In:=by decide)(h2:B≠.NotIn:=by decide):Jc B b=false:=by
 have e1:(B == CmpOp.In)=false:=by cases B<;>first | rfl | exact absurd rfl h
 have G:(B == CmpOp.NotIn)=false:=by cases B<;>first | rfl | exact absurd rfl h2
 cases b<;>simp [Jc,e1,G]
theorem WR (W:Xp X (GJ B) r)(Z:PE X a ta)(hb:PE X b tb)(S:Jc B b=false):PE X (.Compare a [B] [b] pos) (tOp r ta tb):=by
 intro pins s σ H Q I h
 exact wpAny_Compare1 (ZiD Z hb I h fun v u s2 x y H2 U J G q=>W pins s2 σ H2 x y v u Q U J G q) S
def Zkl (t:TE):TT:=fun σ H Q=>t σ H fun x H'=>∃ k,x=.bl k/\Q k H'
theorem ZX (ho:Xp X (GJ B) r)(ha:PE X a ta)(hb:PE X b tb)(hm:Jc B b=false):PT X (.Compare a [B] [b] pos) (Zkl (tOp r ta tb)):=by
 intro pins s σ H Q I h
 refine Sv (Zs (ha pins s σ H _ I h) fun v s1 ⟨x,H1,I1,r1,q1⟩=>Zs (hb pins s1 σ H1 _ I1 q1) fun u s2 ⟨y,H2,I2,U,Z⟩ =>
  Zs (ho pins s2 σ H2 x y v u _ I2 r1 U Z) fun c s3 ⟨z,W,S,J,k,e,G⟩=>?_) hm
 subst e
 cases J
 exact Gi ⟨W,S,G⟩
def Znb (r r':R2)(ta tb tc:TE):TE:=fun σ H Q=>ta σ H fun x H1=>tb σ H1 fun y H2=>r x y H2 fun z H3=>∃ k,z=.bl k /\
 (if k=true then tc σ H3 fun w' H4=>r' y w' H4 Q else Q (.bl false) H3)
theorem Zea (ho:Xp X (GJ S) r)(J:Xp X (GJ B) Z)(ha:PE X a ta)(hb:PE X b tb)(hc:PE X c tc)(hm:lastMarks [S,B] [b,c]=false:=by with_unfolding_all rfl):PT X (.Compare a [S,B] [b,c] pos) (Zkl (Znb r Z ta tb tc)):=by
 intro pins s σ H Q I h
 refine isTrue_chain (Zs (ha pins s σ H _ I h) fun v s1 ⟨x,H1,I1,r1,q1⟩=>test_link (Zs (hb pins s1 σ H1 _ I1 q1) fun u s2 ⟨y,H2,I2,r2,q2⟩ =>
  Zs (ho pins s2 σ H2 x y v u _ I2 r1 r2 q2) fun d s3 ⟨z,W,U,r3,k,e,q3⟩=>?_)) hm
 subst e
 cases r3
 refine Gi ?_
 cases k with
 | false =>
  obtain ⟨k',e',q'⟩:=q3
  cases e'
  exact ite_ff ⟨W,U,q'⟩
 | true =>
  refine ite_tt (test_last (Zs (hc pins s3 σ W _ U q3) fun w' s4 G=>?_))
  obtain ⟨z',H4,I4,r4,q4⟩:=G
  refine Zs (J pins s4 σ H4 y z' u w' _ I4 r2 r4 q4) fun d' s5 G=>?_
  obtain ⟨z2,H5,I5,r5,k2,e2,q5⟩:=G
  subst e2
  cases r5
  exact Gi ⟨H5,I5,q5⟩
def TruV (K:Qa)(x:V)(H:Hp)(k:Bool):Prop :=
 match x with
 | .non=>k=false
 | .bl b=>k=b
 | .int i=>k=(i != 0)
 | .str y=>y.length<=Qj/\k=((y.length:Int) != 0)
 | .byt y=>y.size<=Qj/\k=((y.size:Int) != 0)
 | .ref p=>(∃ xs,SqL K H p xs/\k=!xs.isEmpty)\/(∃ xs,SqT K H p xs/\k=!xs.isEmpty)\/∃ kvs,H p=some (.dK kvs)/\k=!kvs.isEmpty
 | _=>False
theorem ZfX {κ:Type}{kvs:List (κ×V)}{vs:List (κ×Qb)}(r:KV kvs vs):(!vs.isEmpty)=!kvs.isEmpty:=by
 cases r<;>rfl
theorem Zbf (r:Vals xs B):(!B.toArray.isEmpty)=!xs.isEmpty:=by
 cases r<;>simp
theorem Ub:(Qj:Nat) < 2 ^ 63:=by rw [QR];decide
theorem Znr:TruR X (fun x H Q=>∃ k,TruV X.K x H k/\Q k H):=by
 intro pins s σ H x v Q I J h
 obtain ⟨k,e,q⟩:=h
 have hl:=Ub
 have hs:Qj=16777216:=QR
 cases x with
 | non =>
  cases J
  have B:k=false:=e
  subst B
  exact truthy_none ⟨H,I,q⟩
 | bl b =>
  cases J
  have B:k=b:=e
  subst B
  exact Gi ⟨H,I,q⟩
 | int i =>
  obtain ⟨t,rfl⟩:=J
  have B:k=(i != 0):=e
  subst B
  exact PySem.P.truthy_int ⟨H,I,q⟩
 | str y =>
  obtain ⟨t,rfl⟩:=J
  obtain ⟨hy,B⟩:y.length<=Qj/\k=((y.length:Int) != 0):=e
  subst B
  exact PySem.P.truthy_str (by omega) ⟨H,I.tok _,q⟩
 | byt y =>
  obtain ⟨t,rfl⟩:=J
  obtain ⟨hy,B⟩:y.size<=Qj/\k=((y.size:Int) != 0):=e
  subst B
  exact PySem.W.truthy_bytes (by omega) ⟨H,I.tok _,q⟩
 | ref p =>
  cases J
  have B:(∃ xs,SqL X.K H p xs/\k=!xs.isEmpty)\/(∃ xs,SqT X.K H p xs/\k=!xs.isEmpty)\/∃ kvs,H p=some (.dK kvs)/\k=!kvs.isEmpty:=e
  rcases B with ⟨xs,S,B⟩ | ⟨xs,S,B⟩ | ⟨kvs,S,B⟩
  ·subst B
   obtain ⟨U,r,pl,Z⟩:=I.list S
   have G:=r.length
   exact wpAny_truthy_list pl.isList (by simp only [size_toArray];omega) ⟨H,I.tok _,by rw [Zbf r];exact q⟩
  ·subst B
   obtain ⟨U,r,pl,Z⟩:=I.tuple S
   have G:=r.length
   exact truthy_tuple pl (by simp only [size_toArray];omega) ⟨H,I.tok _,by rw [Zbf r];exact q⟩
  ·subst B
   obtain ⟨Z,hS,vs,r,m⟩:kvs.length<=Qj/\(p == GR)=false/\∃ vs,KV kvs vs/\s.heap.DictOf (ZM X.prog X.w) p vs:=I.hok p _ S
   have G:kvs.length=vs.length:=JY r
   exact wpAny_truthy_dict hS m (by omega) ⟨H,I.tok _,by rw [ZfX r];exact q⟩
 | _=>exact (show False from e).elim
theorem Vg (W:PE X a ta)(U:∀ B,isTrue a X.env B=(do let v <- B;Tf a.pos;JE [v] (truthy v))) :
 PT X a (fun σ H Q=>ta σ H fun x H'=>∃ k,TruV X.K x H' k/\Q k H'):=by
 intro pins s σ H Q I h
 exact isTrue_plain (Zs (W pins s σ H _ I h) fun v s1 ⟨x,H1,J,S,G⟩=>Znr pins s1 σ H1 x v Q J S G) (U _)
theorem Va:Xp X (JF .Add) (fun x y H Q=>∃ i j,x=.str i/\y=.str j/\i.length+j.length<=Qj/\Q (.str (i++j)) H):=by
 intro pins s σ H x y v u Q I J B h
 obtain ⟨i,j,rfl,rfl,G,q⟩:=h
 obtain ⟨t,rfl⟩:=J
 obtain ⟨t',rfl⟩:=B
 exact add_str (fun t' tk=>⟨.str (i++j),H,I.tok _,⟨_,rfl⟩,q⟩) G
theorem Yo (r:Vals [x] us):∃ u,us=[u]/\RelV x u:=by
 cases r with
 | cons r1 r2=>cases r2;exact ⟨_,rfl,r1⟩
theorem Zdq (r:Vals [x,y] us):∃ u B,us=[u,B]/\RelV x u/\RelV y B:=by
 cases r with
 | cons r1 r2 =>
  cases r2 with
  | cons r3 r4=>cases r4;exact ⟨_,_,rfl,r1,r3⟩
theorem Zdy:Ys X (.builtin "abs") (fun xs H Q=>∃ i,xs=[.int i]/\Q (.int (if i < 0 then -i else i)) H):=by
 intro pins s σ H xs us Q I r h
 obtain ⟨i,rfl,q⟩:=h
 obtain ⟨u,rfl,t,rfl⟩:=Yo r
 exact call_abs_int fun u tk=>⟨.int (if i < 0 then -i else i),H,I.tok _,⟨_,rfl⟩,q⟩
theorem ZgW (G:X.calm=true):Ys X (.builtin "min") (fun xs H Q=>∃ i j,xs=[.int i,.int j]/\Q (.int (if j < i then j else i)) H):=by
 intro pins s σ H xs us Q I r h
 obtain ⟨i,j,rfl,q⟩:=h
 obtain ⟨u,J,rfl,⟨t,rfl⟩,⟨t',rfl⟩⟩:=Zdq r
 refine min_two_ints (I.ok.hd G) fun h' tk k=>⟨_,H,I.kept k,?_,q⟩
 by_cases B:j < i
 ·rw [if_pos B,if_pos B];exact ⟨_,rfl⟩
 ·rw [if_neg B,if_neg B];exact ⟨_,rfl⟩
theorem ZgU:Ys X (.type "int") (fun xs H Q=>(∃ i,xs=[.int i]/\Q (.int i) H)\/∃ k,xs=[.bl k]/\Q (.int (if k then 1 else 0)) H):=by
 intro pins s σ H xs us Q I r h
 rcases h with ⟨i,rfl,q⟩ | ⟨k,rfl,q⟩
 ·obtain ⟨u,rfl,t,rfl⟩:=Yo r
  exact call_int_int ⟨.int i,H,I,⟨_,rfl⟩,q⟩
 ·obtain ⟨u,rfl,B⟩:=Yo r
  cases B
  exact call_int_bool ⟨.int (if k then 1 else 0),H,I.tok _,⟨_,rfl⟩,q⟩
theorem ZdA:Ys X (.type "str") (fun xs H Q=>∃ i,xs=[.int i]/\i.natAbs.log2 < 1920/\Q (.str (SI i)) H):=by
 intro pins s σ H xs us Q I r h
 obtain ⟨i,rfl,B,q⟩:=h
 obtain ⟨u,rfl,t,rfl⟩:=Yo r
 exact PySem.P.str_of_int B ⟨.str _,H,I.tok _,⟨_,rfl⟩,q⟩
theorem Zdz:Ys X (.builtin "ord") (fun xs H Q=>∃ x,xs=[.str x]/\x.length=1/\Q (.int (x.cps.getD 0 0:Nat)) H):=by
 intro pins s σ H xs us Q I r h
 obtain ⟨x,rfl,B,q⟩:=h
 obtain ⟨u,rfl,t,rfl⟩:=Yo r
 exact ord_of_one B ⟨.int _,H,I.tok _,⟨_,rfl⟩,q⟩
def Ziy (K:Qa)(x:V)(H:Hp)(n:Nat):Prop :=
 match x with
 | .str y=>y.length<=Qj/\n=y.length
 | .byt y=>y.size<=Qj/\n=y.size
 | .ref p=>(∃ xs,SqL K H p xs/\n=xs.length)\/∃ xs,SqT K H p xs/\n=xs.length
 | _=>False
theorem ZiF:Ys X (.builtin "len") (fun xs H Q=>∃ x n,xs=[x]/\Ziy X.K x H n/\Q (.int n) H):=by
 intro pins s σ H xs us Q I r h
 obtain ⟨x,n,rfl,e,q⟩:=h
 obtain ⟨u,rfl,U⟩:=Yo r
 have hl:=Ub
 have hs:Qj=16777216:=QR
 cases x with
 | str y =>
  obtain ⟨t,rfl⟩:=U
  obtain ⟨hy,G⟩:y.length<=Qj/\n=y.length:=e
  subst G
  exact len_str (by omega) ⟨.int _,H,I.tok _,⟨_,rfl⟩,q⟩
 | byt y =>
  obtain ⟨t,rfl⟩:=U
  obtain ⟨hy,G⟩:y.size<=Qj/\n=y.size:=e
  subst G
  exact PySem.W.len_bytes (by omega) ⟨.int _,H,I.tok _,⟨_,rfl⟩,q⟩
 | ref p =>
  cases U
  have G:(∃ xs,SqL X.K H p xs/\n=xs.length)\/∃ xs,SqT X.K H p xs/\n=xs.length:=e
  rcases G with ⟨xs,J,G⟩ | ⟨xs,J,G⟩
  ·subst G
   obtain ⟨S,Z,pl,hz⟩:=I.list J
   have B:=Z.length
   exact Ri pl.isList (by simp only [size_toArray];omega) ⟨.int xs.length,H,I.tok _,⟨_,by simp only [size_toArray];rw [B]⟩,q⟩
  ·subst G
   obtain ⟨S,Z,pl,hz⟩:=I.tuple J
   have B:=Z.length
   exact len_tuple pl (by simp only [size_toArray];omega) ⟨.int xs.length,H,I.tok _,⟨_,by simp only [size_toArray];rw [B]⟩,q⟩
 | _=>exact (show False from e).elim
theorem Zez:Ys X (.builtin "divmod") (fun xs H Q=>∃ i j,xs=[.int i,.int j]/\CDiv i j/\∀ p,H p=none->Q (.ref p) (upd H p (.tup [.int (i / j),.int (i % j)]))):=by
 intro pins s σ H xs us Q I r h
 obtain ⟨i,j,rfl,⟨h1,h2⟩,q⟩:=h
 obtain ⟨u,G,rfl,⟨t,rfl⟩,⟨t',rfl⟩⟩:=Zdq r
 refine divmod_int (by omega) ?_ (.inl (TZ (by omega)))
 rw [Jk i (by omega),PR i (by omega)]
 have B:H s.heap.objs.size=none:=I.hok.fresh (Qh _)
 refine ⟨.ref s.heap.objs.size,_,?_,rfl,q _ B⟩
 refine I.laid (fun b o e=>Qd _ e) (Qh _) ⟨by simp only [length_cons,Pk];rw [QR];decide,[.int (i / j) s.toks,.int (i % j) (s.toks+1)],.cons ⟨_,rfl⟩ (.cons ⟨_,rfl⟩ .nil),?_⟩
 exact ⟨_,Qo s.heap rfl,rfl,0,rfl⟩
end
structure ObjM (h:Heap)(x dx C:Addr)(mA:Str->Option Qb):Prop where
 obj:h.get? x=some (Gz C dx)
 ns:h.Ns1 dx mA
 ne:dx≠x
theorem Zhv {h:Heap}{dx:Addr}{mA:Str->Option Qb}(n:h.Ns1 dx mA):∃ G,h.get? dx=some G/\∀ name,PU name G=some (mA name):=by
 obtain ⟨o,es,ep,W,J,U,_,S⟩:=n
 refine ⟨o,W,fun name=>?_⟩
 have e:=S name
 unfold nsFind findBy at e
 rw [<- Array.find?_toList] at e
 unfold PU
 rw [J]
 dsimp only
 split
 ·rename_i y q
  rw [q] at e
  exact congrArg some e
 ·rename_i q
  rw [q] at e
  have a:es.toList.any (·.refKey)=false:=by
   rw [List.any_eq_false]
   intro y Z
   obtain ⟨z,t,B⟩:=U y (Array.mem_toList_iff.mp Z)
   simp [DictEntry.refKey,B]
  have I:¬ es.toList.any (·.refKey)=true:=by rw [a];exact Qz
  rw [if_neg I]
  exact congrArg some e
theorem ObjM.look (I:ObjM h x dx C mA):∃ B,PySem.W.InstAt h x (Gz C dx) C (some B)/\∀ name,PU name B=some (mA name) :=
 let ⟨B,ho,hl⟩:=Zhv I.ns
 ⟨B,⟨I.obj,rfl,rfl,ho⟩,hl⟩
section
variable {prog:Qk}{w:Qt}{A:QA}{E:Qb->Qe->Prop}{s:Qe}{K:Qa}{x dx C f:Addr}{mA:Str->Option Qb}{name:Str}{v:Qb}
theorem ZkB (X:K.In s.heap)(I:ObjM s.heap x dx C mA)(U:JU K C name=true)(Z:Tg K C=true)(ha:Qv K (.ref C) name=some none)(S:mA name=some v)(G:Ov v=true)(h:Q v { s with toks:=s.toks+1 }):
 Qr (Qs prog w) A (getAttr (.ref x) name B) Q E s:=by
 obtain ⟨od,J,hl⟩:=I.look
 exact PySem.W.get_value X J (Pw U).1 (PySem.W.findObj_own Z ha rfl (by rw [hl,S])) G h
theorem ZiO (X:K.In s.heap)(I:ObjM s.heap x dx C mA)(B:JU K C name=true)(S:Qv K (.ref C) name=some (some (.ref f)))(ht:Sa K (.ref f)=true)(G:mA name=none)(h:Q (.ref f,[.ref x]) s):
 Qr (Qs prog w) A (PM (.ref x) name pl) Q E s:=by
 obtain ⟨Z,J,U⟩:=I.look
 exact PySem.W.method_fn X J (Pw B).1 (Pw B).2 S (beq_iff_eq.mp ht) (by show (PU name Z).map (·.isSome)=some false;rw [U,G];rfl) h
theorem Zlq (X:K.In s.heap)(I:ObjM s.heap x dx C mA)(hs:Qv K (.ref C) "__setattr__"=some (some (.builtin "object.__setattr__")))(hp:RS K C=true)(ht:Sm K C name=some none)(hh:Tg K C=true)(hw:RM mA ns)(hsz:ns.length<=Qj)(h:∀ h',ObjM h' x dx C (fun y=>if y=name then some v else mA y)->TX dx s.heap h'->Q () { s with heap:=h',toks:=s.toks+2 }):
 Qr (Qs prog w) A (setAttr (.ref x) name v) Q E s:=by
 obtain ⟨od,J,hl⟩:=I.look
 refine PySem.W.set_plain X J hs (PySem.W.osa_open (s:={ s with toks:=s.toks+1 }) (r:=none) X J hp ht fun b=>?_)
 obtain ⟨cd,hc,Z⟩:=PySem.W.any_some hh
 have hx:s.heap.get? x=some ⟨.ref C,some dx,.plain,#[]⟩:=I.obj
 refine Qf (Qy (Qf (Qf (wpAny_loadPart hx (Qf (PySem.W.Looks.here (s:={ s with toks:=s.toks+1 }) (PySem.W.looks_clsIn X hc) ?_))))))
 rw [Z]
 refine Qy (a:=some dx) (Qf (Qy (Qf ?_)))
 refine wpAny_nsSet1 (s:={ s with toks:=s.toks+1 }) I.ns fun h' B G=>?_
 obtain ⟨oD,esD,epD,S,hdD,U⟩:=B.count (PySem.Within.cons name v hw)
 refine Qf (Ow S (by rw [hdD];exact Ox (Qq U (by rw [length_cons];omega))) ?_)
 exact Qy (h _ ⟨(G.2 _ (Gv I.ne)).trans I.obj,B,I.ne⟩ G)
theorem ZiW (X:K.In s.heap)(I:Sn K C=true)(hi:Qv K (.ref C) "__init__"=some (some (.ref f)))(J:PySem.W.typeIn K (.ref f)=some (.type "function"))(h:Ja (Qs prog w) (A.under (.builtin "type.__call__" ⟨.ref C::vs,G⟩)) (.call (.ref f) ⟨.ref (s.heap.objs.size+1)::vs,G⟩) (PySem.W.InitBack (s.heap.objs.size+1) R)
  {s with heap:=(s.heap.push Gj).push (Gz C s.heap.objs.size) }):
 Ja (Qs prog w) A (.call (.ref C) ⟨vs,G⟩) R s:=by
 obtain ⟨S,g,d,t,os⟩:=s
 exact PySem.W.make_core (PySem.W.makes_of X I) (QP X hi) (fun B=>PySem.W.bind_fn X B J) (.inl rfl) h
end
def Xn (f:Str)(v:V):List (Str×V)->List (Str×V)
 | []=>[(f,v)]
 | (g,x)::r=>if g=f then (g,v)::r else (g,x)::Xn f v r
theorem YU (f g:Str)(v:V):∀ fs:List (Str×V),(Xn f v fs).lookup g=if g=f then some v else fs.lookup g
 | []=>by
  show Gw g [(f,v)]=_
  by_cases h:g=f
  ·have hb:(g == f)=true:=beq_iff_eq.mpr h
   simp only [Gw,hb,if_pos h]
  ·have hb:(g == f)=false:=beq_eq_false_iff_ne.mpr h
   simp only [Gw,hb,if_neg h]
 | (k, x)::r=>by
  have G:=YU f g v r
  rw [show Xn f v ((k,x)::r)=(if k=f then (k,v)::r else (k,x)::Xn f v r) from rfl]
  by_cases B:k=f
  ·rw [if_pos B]
   by_cases h:g=k
   ·have hb:(g == k)=true:=beq_iff_eq.mpr h
    simp only [Gw,hb,if_pos (h.trans B)]
   ·have hb:(g == k)=false:=beq_eq_false_iff_ne.mpr h
    simp only [Gw,hb,if_neg (fun e:g=f=>h (e.trans B.symm))]
  ·rw [if_neg B]
   by_cases h:g=k
   ·have hb:(g == k)=true:=beq_iff_eq.mpr h
    simp only [Gw,hb,if_neg (fun e:g=f=>B (h.symm.trans e))]
   ·have hb:(g == k)=false:=beq_eq_false_iff_ne.mpr h
    simp only [Gw,hb]
    exact G
theorem Vz (f:Str)(v:V):∀ fs:List (Str×V),f∈(Xn f v fs).map (·.1)/\∀ g,g∈fs.map (·.1)->g∈(Xn f v fs).map (·.1)
 | []=>⟨by simp [Xn],fun g h=>by simp at h⟩
 | (k, x)::r=>by
  obtain ⟨I,G⟩:=Vz f v r
  rw [show Xn f v ((k,x)::r)=(if k=f then (k,v)::r else (k,x)::Xn f v r) from rfl]
  by_cases B:k=f
  ·rw [if_pos B]
   subst B
   exact ⟨by simp,fun g h=>by simpa using h⟩
  ·rw [if_neg B]
   refine ⟨?_,fun g h=>?_⟩
   ·rw [map_cons]
    exact mem_cons_of_mem _ I
   ·rw [map_cons] at h ⊢
    rcases mem_cons.mp h with e | e
    ·exact mem_cons.mpr (.inl e)
    ·exact mem_cons_of_mem _ (G g e)
theorem Zaq (f:Str)(v:V):∀ fs:List (Str×V),(Xn f v fs).length<=fs.length+1
 | []=>by simp [Xn]
 | (k,x)::r=>by
  have G:=Zaq f v r
  rw [show Xn f v ((k,x)::r)=(if k=f then (k,v)::r else (k,x)::Xn f v r) from rfl]
  by_cases B:k=f
  ·rw [if_pos B,length_cons,length_cons];omega
  ·rw [if_neg B,length_cons,length_cons];omega
theorem RelO.some_of {v:V}(r:RelO (some v) o):∃ u,o=some u/\RelV v u:=by
 cases o with
 | none=>exact (show False from r).elim
 | some u=>exact ⟨u,rfl,r⟩
theorem RelO.none_of (r:RelO none o):o=none:=by
 cases o with
 | none=>rfl
 | some u=>exact (show False from r).elim
theorem Zcv (r:RelV v u):Ov u=true:=by
 cases v with
 | non=>cases (show u=QT from r);rfl
 | bl b=>cases (show u=Gy b from r);rfl
 | int i=>obtain ⟨t,e⟩:=(show ∃ t,u=Rb i t from r);cases e;rfl
 | str x=>obtain ⟨t,e⟩:=(show ∃ t,u=PJ x t from r);cases e;rfl
 | byt b=>obtain ⟨t,e⟩:=(show ∃ t,u=Value.bytes b t from r);cases e;rfl
 | flt b=>obtain ⟨t,e⟩:=(show ∃ t,u=ON b t from r);cases e;rfl
 | ref a=>cases (show u=Qm a from r);rfl
 | ty n=>cases (show u=Rz n from r);rfl
section
variable {P:Qk}{w:Qt}{H H':Hp}{h h':Heap}{a C dx:Addr}{fs fs':List (Str×V)}
theorem VW (hok:HOk P w H h)(e:H a=some (.ins C dx fs)):∃ mA,ObjM h a dx C mA/\(∀ f,RelO (fs.lookup f) (mA f))/\RM mA (fs.map (·.1))/\fs.length<=1000/\H dx=some (.own a):=by
 obtain ⟨d,z,ne,B,mA,n,r,q⟩:=(show ObjOk P w H h a (.ins C dx fs) from hok a _ e)
 exact ⟨mA,⟨B,n,ne⟩,r,q,z,d⟩
end
structure Cls (K:Qa)(C:Addr):Prop where
 pg:JU K C Str.empty=true
 hd:Tg K C=true
 po:RS K C=true
 sa:Qv K (.ref C) "__setattr__"=some (some (.builtin "object.__setattr__"))
theorem Cls.get {K:Qa}{C:Addr}(c:Cls K C)(f:Str):JU K C f=true:=c.pg
def NoAttr (K:Qa)(C:Addr)(f:Str):Prop:=Qv K (.ref C) f=some none
theorem NoAttr.taker {K:Qa}{C:Addr}{f:Str}(n:NoAttr K C f):Sm K C f=some none:=by
 unfold Sm
 rw [show Qv K (.ref C) f=some none from n]
 rfl
structure Vr (K:Qa)(C:Addr)(m:Str)(f:Addr):Prop where
 at_:Qv K (.ref C) m=some (some (.ref f))
 fn:Sa K (.ref f)=true
 kp:GK K (.ref f)=true
section
variable {X:Cx}{pins:List (Addr×Obj)}{σ:St}{H:Hp}{s:Qe}{a C dx:Addr}{fs:List (Str×V)}{f:Str}{v:V}{A:QA}{E:Qb->Qe->Prop}
theorem ZfV (I:Inv X pins σ H s)(e:H a=some (.ins C dx fs))(c:Cls X.K C)(n:NoAttr X.K C f)(l:fs.lookup f=some v)(h:∀ u s',Inv X pins σ H s'->RelV v u->Q u s'):Qr (Qs X.prog X.w) A (getAttr (.ref a) f b) Q E s:=by
 obtain ⟨mA,O,r,_,_,_⟩:=VW I.hok e
 obtain ⟨u,G,B⟩:=RelO.some_of (v:=v) (o:=mA f) (by rw [<- l];exact r f)
 exact ZkB I.kIn O (c.get f) c.hd n G (Zcv B) (h u _ (I.tok _) B)
theorem UU (I:Inv X pins σ H s)(e:H a=some (.ins C dx fs))(c:Cls X.K C)(k:Vr X.K C m g)(l:fs.lookup m=none)(h:Q (.ref g,[.ref a]) s):Qr (Qs X.prog X.w) A (PM (.ref a) m pl) Q E s:=by
 obtain ⟨mA,O,r,_,_,_⟩:=VW I.hok e
 have B:mA m=none:=RelO.none_of (by rw [<- l];exact r m)
 exact ZiO I.kIn O (c.get m) k.at_ k.fn B h
theorem Zgq (I:Inv X pins σ H s)(e:H a=some (.ins C dx fs))(c:Cls X.K C)(n:NoAttr X.K C f)(hl:fs.length < 1000)(U:RelV y u)(h:∀ s',Inv X pins σ (upd H a (.ins C dx (Xn f y fs))) s'->Q () s'):Qr (Qs X.prog X.w) A (setAttr (.ref a) f u) Q E s:=by
 obtain ⟨mA,O,r,wi,_,G⟩:=VW I.hok e
 have W:(fs.map (·.1)).length<=sizeLine:=by rw [length_map,QR];omega
 refine Zlq I.kIn O c.sa c.po n.taker c.hd wi W fun h' B Z=>h _ ?_
 have S:∃ o,h'.get? dx=some o:=let ⟨o,_,_,e',_⟩:=B.ns;⟨o,e'⟩
 refine I.write (x:=a) (e:=dx) (by rw [e];exact Gr) (.inr G) (fun b q hb z=>(Z.2 b hb).trans z) S ?_
 refine ⟨by rw [Zh O.ne];exact G,?_,O.ne,B.obj,_,B.ns,fun g=>?_,fun g J=>?_⟩
 ·have:=Zaq f y fs;omega
 ·show RelO ((Xn f y fs).lookup g) (if g=f then some u else mA g)
  rw [YU]
  by_cases q:g=f
  ·rw [if_pos q,if_pos q];exact U
  ·rw [if_neg q,if_neg q];exact r g
 ·by_cases q:g=f
  ·rw [q];exact (Vz f y fs).1
  ·refine (Vz f y fs).2 g (wi g fun z=>J ?_)
   show (if g=f then some u else mA g)=none
   rw [if_neg q];exact z
theorem Inv.made (I:Inv X pins σ H s):Inv X pins σ (upd (upd H s.heap.objs.size (.own (s.heap.objs.size+1))) (s.heap.objs.size+1) (.ins C s.heap.objs.size []))
 {s with heap:=(s.heap.push Gj).push (Gz C s.heap.objs.size) }:=by
 have e1:(s.heap.push Gj).get? s.heap.objs.size=some PySem.W.emptyDict:=Qo s.heap rfl
 have B:((s.heap.push Gj).push (Gz C s.heap.objs.size)).get? (s.heap.objs.size+1)=some (Gz C s.heap.objs.size):=by
  have:=Qo (s.heap.push Gj) (o:=Gz C s.heap.objs.size) rfl
  rwa [Jl] at this
 have G:(s.heap.push Gj).Ns s.heap.objs.size (fun _=>none):=⟨Gj,#[],_,e1,rfl,(fun e S=>absurd S (by simp)),fun _=>rfl⟩
 have J:=I.laid (a:=s.heap.objs.size) (o:=.own (s.heap.objs.size+1)) (h':=s.heap.push Gj) (t':=s.toks) (fun b u q=>Qd _ q) (Qh _) ⟨_,e1⟩
 refine J.laid (a:=s.heap.objs.size+1) (o:=.ins C s.heap.objs.size []) (t':=s.toks) (fun b u q=>Qd _ q) (Jn (Jl _ _)) ?_
 have ne:s.heap.objs.size≠s.heap.objs.size+1:=Qu (Tt _)
 refine ⟨by rw [Zh ne,Ze],QH _,ne,B,fun _=>none,(RT G).at fun o q=>Qd _ q,fun _=>Gr,fun y U=>absurd rfl U⟩
theorem ZeM (hb:Jt e f env (eval e env)=eval e env)(h:Qr (Qs prog w) A (eval e env) (fun o B=>Qr (Qs prog w) A (getAttr o f true) Q E B) E s):Qr (Qs prog w) A (eval (.Attribute e f pos) env) Q E s :=
 Attribute_any_ h (by rw [arm_eval_Attribute,hb])
end
inductive Zik (K:Qa)(f:Str)(Q:VK)(x:V)(H1:Hp):Prop
 | mk (a C dx fs v:_):x=.ref a->H1 a=some (.ins C dx fs)->Cls K C->NoAttr K C f->fs.lookup f=some v->Q v H1->Zik K f Q x H1
def tFld (K:Qa)(ta:TE)(f:Str):TE:=fun σ H Q=>ta σ H fun x H1=>Zik K f Q x H1
inductive ZhY (K:Qa)(f:Str)(D:Yj)(σ:St)(y x:V)(H2:Hp):Prop
 | mk (a C dx fs:_):x=.ref a->H2 a=some (.ins C dx fs)->Cls K C->NoAttr K C f->fs.length < 1000->D.nx σ (upd H2 a (.ins C dx (Xn f y fs)))->ZhY K f D σ y x H2
def sFld (K:Qa)(ta tv:TE)(f:Str):TS:=fun D σ H=>tv σ H fun y H1=>ta σ H1 fun x H2=>ZhY K f D σ y x H2
section
variable {X:Cx}{o e value:Expr}{f:Str}{pos pos' tpos:Pos}{ta tv:TE}
theorem ZB (U:PE X e ta)(hb:Jt e f X.env (eval e X.env)=eval e X.env):PE X (.Attribute e f pos) (tFld X.K ta f):=by
 intro pins s σ H Q I h
 refine ZeM hb (Zs (U pins s σ H _ I h) fun u s1 B=>?_)
 obtain ⟨x,H1,S,J,a,C,dx,fs,v,ex,ea,c,n,l,q⟩:=B
 subst ex
 obtain rfl:u=Qm a:=J
 exact ZfV S ea c n l fun Z s2 W G=>⟨v,H1,W,G,q⟩
theorem YT (ha:PE X o ta)(G:PE X value tv)(hs:PL value (some (.Attribute o f pos')) pos.line X.env=pure false):PS X (.Assign [.Attribute o f pos'] value pos) (sFld X.K ta tv f):=by
 intro pins s σ H D I h
 refine JQ (Zs (G pins s σ H _ I h) fun u s1 B=>?_) hs
 obtain ⟨y,H1,I1,S,q⟩:=B
 refine Zs (ha pins s1 σ H1 _ I1 q) fun Z s2 B=>?_
 obtain ⟨x,H2,I2,W,a,C,dx,fs,ex,ea,c,n,l,U⟩:=B
 subst ex
 obtain rfl:Z=Qm a:=W
 exact Zgq I2 ea c n l S fun s3 J=>⟨σ,_,J,U⟩
end
section
variable {X:Cx}{pins:List (Addr×Obj)}{σ:St}{H:Hp}{s:Qe}{A:QA}{E:Qb->Qe->Prop}{Q:Qb->Qe->Prop}{c:Qb}{b:Bool}
inductive Wl (K:Qa)(H:Hp):V->Qb->Prop where
 | non:Wl K H .non (.type "NoneType")
 | bl (x:Bool):Wl K H (.bl x) (.type "bool")
 | int (i:Int):Wl K H (.int i) (.type "int")
 | str (x:Str):Wl K H (.str x) (.type "str")
 | flt (x:UInt64):Wl K H (.flt x) (.type "float")
 | lst {a:Addr} {xs:List V} (e:H a=some (.lst xs)):Wl K H (.ref a) (.type "list")
 | frz {a:Addr} {o:Obj} {xs:List V} (e:H a=some (.frz o (.lst xs))):Wl K H (.ref a) (.type "list")
 | tup {a:Addr} {xs:List V} (e:H a=some (.tup xs)):Wl K H (.ref a) (.type "tuple")
 | dK {a:Addr} {kvs:List (Zo×V)} (e:H a=some (.dK kvs)):Wl K H (.ref a) (.type "dict")
 | dT {a:Addr} {kvs:List (List Zo×V)} (e:H a=some (.dT kvs)):Wl K H (.ref a) (.type "dict")
 | ins {a C dx:Addr} {fs:List (Str×V)} (e:H a=some (.ins C dx fs)) (cl:Cls K C) (ha:Qv K (.ref C) "__class__"=some (some (.builtin "object.__class__")))
     (hn:PySem.W.specialIn K (.builtin "object.__class__") "__get__"=some (some (.builtin "getset_descriptor.__get__"))) (htk:PySem.W.takesIn K (.builtin "object.__class__")=some true)
     (hm:PySem.W.mroIn K C (.type "object")=some true):Wl K H (.ref a) (.ref C)
theorem Zhk (I:Inv X pins σ H s)(B:RelV x u)(ty:Wl X.K H x t)(e:PV X.K t c=some b)(h:∀ tk,Q (.bool b) { s with toks:=tk }):
 Qr (Qs X.prog X.w) A (call (.builtin "isinstance") [u,c]) Q E s:=by
 cases ty with
 | non=>cases (show u=QT from B);exact QS PySem.W.kitx_none I.kIn Gr e (fun z=>nomatch z) h
 | bl y=>cases (show u=Gy y from B);exact QS PySem.W.kitx_bool I.kIn Gr e (fun z=>nomatch z) h
 | int i=>obtain ⟨t,q⟩:=(show ∃ t,u=Rb i t from B);cases q;exact QS PySem.W.kitx_int I.kIn Gr e (fun z=>nomatch z) h
 | str y=>obtain ⟨t,q⟩:=(show ∃ t,u=PJ y t from B);cases q;exact QS PySem.W.kitx_str I.kIn Gr e (fun z=>nomatch z) h
 | flt y=>obtain ⟨t,q⟩:=(show ∃ t,u=ON y t from B);cases q;exact QS PySem.W.kitx_float I.kIn Gr e (fun z=>nomatch z) h
 | @lst a xs ea =>
  cases (show u=Qm a from B)
  obtain ⟨_,_,n,_,h1⟩:=(show ObjOk X.prog X.w H s.heap a (.lst xs) from I.hok a _ ea)
  exact QS RU I.kIn ⟨_,h1,rfl⟩ e (fun z=>nomatch z) h
 | @frz a ob xs ea =>
  cases (show u=Qm a from B)
  obtain ⟨_,_,_,n,_,h1⟩:=(show ObjOk X.prog X.w H s.heap a (.frz ob (.lst xs)) from I.hok a _ ea)
  exact QS RU I.kIn ⟨_,h1,rfl⟩ e (fun z=>nomatch z) h
 | @tup a xs ea =>
  cases (show u=Qm a from B)
  obtain ⟨_,_,_,p⟩:=(show ObjOk X.prog X.w H s.heap a (.tup xs) from I.hok a _ ea)
  obtain ⟨o,h1,h2,_⟩:=p
  exact QS PySem.W.kitx_tuple I.kIn ⟨o,h1,h2⟩ e (fun z=>nomatch z) h
 | @dK a kvs ea =>
  cases (show u=Qm a from B)
  obtain ⟨_,_,vs,_,p⟩:=(show ObjOk X.prog X.w H s.heap a (.dK kvs) from I.hok a _ ea)
  obtain ⟨o,es,ep,h1,h2,_⟩:=p
  exact QS RV I.kIn ⟨o,h1,h2.1⟩ e (fun z=>nomatch z) h
 | @dT a kvs ea =>
  cases (show u=Qm a from B)
  obtain ⟨_,_,xs,_,o,es,ep,h1,h2,_⟩:=(show ObjOk X.prog X.w H s.heap a (.dT kvs) from I.hok a _ ea)
  exact QS RV I.kIn ⟨o,h1,h2.1⟩ e (fun z=>nomatch z) h
 | @ins a C dx fs ea cl ha hn htk hm =>
  cases (show u=Qm a from B)
  obtain ⟨mA,O,_⟩:=VW I.hok ea
  obtain ⟨G,J,_⟩:=O.look
  exact QS (PySem.W.kitx_own (cl.get _) cl.hd ha hn htk hm) I.kIn J e (fun z=>nomatch z) h
end
structure Room (k:Nat)(A:QA):Prop where
 hd:A.handled=none
 dp:A.depth+3 * k+5 < SJ
 un:A.units+16 * k+200 < RW
 gd:A.guards=some []
theorem Room.mono {j k:Nat}(r:Room k A)(h:j<=k):Room j A:=⟨r.hd,by have:=r.dp;omega,by have:=r.un;omega,r.gd⟩
theorem Room.deeper {k:Nat}(r:Room (k+1) A)(env:Env):Room k (A.deeper env) :=
 ⟨r.hd,by have:=r.dp;show A.depth+1+3 * k+5 < _;omega,by have:=r.un;show A.units+3+16 * k+200 < _;omega,r.gd⟩
theorem ZfZ {A:QA}{C:Addr}{us:List Qb}{B:List (Str×Qb)}:(A.under (.builtin "type.__call__" ⟨.ref C::us,B⟩)).depth=A.depth+1:=by
 first | rfl | simp [Sc,Code.weight,Code.isCreation,Code.isGuard,Code.isCaller,Code.frames,RX,guardIds]
theorem Zga {A:QA}{C:Addr}{us:List Qb}{B:List (Str×Qb)}:(A.under (.builtin "type.__call__" ⟨.ref C::us,B⟩)).units=A.units+1:=by
 first | rfl | simp [Sc,Code.cUnits,Code.frames,RX]
theorem Room.make {k:Nat}(r:Room (k+1) A)(C:Addr)(us:List Qb)(B:List (Str×Qb)):Room k (A.under (.builtin "type.__call__" ⟨.ref C::us,B⟩)) :=
 ⟨r.hd,by have:=r.dp;rw [ZfZ];omega,by have:=r.un;rw [Zga];omega,by first | exact r.gd | simpa [Sc,Code.isGuard,guardIds] using r.gd⟩
theorem Room.depth {k:Nat}(r:Room k A):A.depth < recursionLimit:=by have:=r.dp;omega
theorem Room.units {k:Nat}(r:Room k A):A.units+64 < cLine:=by have:=r.un;omega
def Xo:TA:=fun _ H Q=>Q [] H
def Wh (ta:TE)(tr:TA):TA:=fun σ H Q=>ta σ H fun x H1=>tr σ H1 fun xs H2=>Q (x::xs) H2
section
variable {X:Cx}{e:Expr}{es:List Expr}{te:TE}{t:TA}{pos:Pos}
theorem Za:PA X [] Xo:=fun _ _ _ _ H Q I h=>RY ⟨[],H,I,.nil,h⟩
theorem YA (ha:PE X e te)(G:PA X es t)(hs:QE (e::es) X.env=(false,eval e X.env)::QE es X.env:=by rfl):PA X (e::es) (Wh te t):=by
 intro pos pins s σ H Q I h
 rw [hs]
 show Qr _ _ (spliced ((false,eval e X.env)::GU pos (QE es X.env))) _ _ s
 refine RD (Zs (ha pins s σ H _ I h) fun u s1 B=>?_)
 obtain ⟨x,H1,Z,r1,U⟩:=B
 exact Zs (G pos pins s1 σ H1 _ Z U) fun us s2 ⟨xs,H2,W,J,S⟩=>⟨x::xs,H2,W,.cons r1 J,S⟩
def tTup (t:TA):TE:=fun σ H Q=>t σ H fun xs H1=>xs.length<=Qj/\∀ p,H1 p=none->Q (.ref p) (upd H1 p (.tup xs))
def tLst (t:TA):TE:=fun σ H Q=>t σ H fun xs H1=>xs.length<=Qj/\∀ p,H1 p=none->Q (.ref p) (upd H1 p (.lst xs))
theorem YZ {x1}(h:PA X es t):PE X (.Tuple es x1 pos) (tTup t):=by
 intro pins s σ H Q I J
 refine Rj (Zs (h pos pins s σ H _ I J) fun us s1 G=>?_)
 obtain ⟨xs,H1,B,r,z,q⟩:=G
 refine ⟨by rw [<- r.length];exact z,?_⟩
 have S:H1 s1.heap.objs.size=none:=B.hok.fresh (Qh _)
 refine ⟨.ref s1.heap.objs.size,upd H1 s1.heap.objs.size (.tup xs),B.laid (t':=s1.toks) (fun b u e=>Qd _ e) (Qh _) ?_,rfl,q _ S⟩
 exact ⟨z,us,r,⟨_,Qo _ rfl,rfl,_,rfl⟩⟩
theorem Yb (h:PA X es t):PE X (.List es pos) (tLst t):=by
 intro pins s σ H Q I J
 refine wpAny_List_spliced (Zs (h pos pins s σ H _ I J) fun us s1 G=>?_)
 obtain ⟨xs,H1,B,r,z,q⟩:=G
 refine ⟨by rw [<- r.length];exact z,?_⟩
 have S:H1 s1.heap.objs.size=none:=B.hok.fresh (Qh _)
 refine ⟨.ref s1.heap.objs.size,upd H1 s1.heap.objs.size (.lst xs),B.laid (t':=s1.toks) (fun b u e=>Qd _ e) (Qh _) ?_,rfl,q _ S⟩
 exact ⟨z,us,0,r,Qo _ rfl⟩
end
abbrev Sp:=List V->Hp->VK->XK->Prop
abbrev Ui:=List Env->Hp->Qe->XK->Qb->Qe->Prop
structure Env0 (P:Qk)(w:Qt)(K:Qa)(mg:Str->Option Qb)(base:Heap)(A:QA)(outer:List Env)(s:Qe)(H:Hp):Prop where
 frames:A.frames=some outer
 mod:Mod K mg base
 bs:∀ b o,base.get? b=some o->s.heap.get? b=some o/\H b=none
 bsz:base.objs.size<=s.heap.objs.size
 funs:s.heap.FunFrames base outer
 frf:∀ b∈Yv outer,H b=none
 hok:HOk P w H s.heap
 bare:Pz s.gens
def CE (outer:List Env)(P:Qk)(w:Qt)(H:Hp)(s:Qe)(Q:VK)(u:Qb)(s':Qe):Prop :=
 ∃ v H',s'.os=s.os/\Pz s'.gens/\Un (Yv outer) [] H H' s.heap s'.heap/\HOk P w H' s'.heap/\RelV v u/\Q v H'
def CR (CX:Ui)(outer:List Env)(P:Qk)(w:Qt)(H:Hp)(s:Qe)(Q:VK)(E:XK)(r:Sb)(s':Qe):Prop :=
 match r with
 | .ok (.ret u)=>CE outer P w H s Q u s'
 | .ok _=>False
 | .error e=>CX outer H s E e s'
structure FnOk (P:Qk)(w:Qt)(K:Qa)(mg:Str->Option Qb)(base:Heap)(CX:Ui)(k:Nat)(f:Addr)(fd:Qn)(ps:List Str)(sp:Sp):Prop where
 len:∀ vs H Q E,sp vs H Q E->vs.length=ps.length
 run:∀ (A:QA) (outer:List Env) (s:Qe) (H:Hp) (args:Args) (us:List Qb) (vs:List V) (Q:VK) (E:XK),Room k A->Env0 P w K mg base A outer s H->PD s fd args (ps.zip us)->Vals vs us->sp vs H Q E ->
  Ja (Qs P w) A (.call (.ref f) args) (CR CX outer P w H s Q E) s
theorem FnOk.mono {P:Qk}{w:Qt}{K:Qa}{mg:Str->Option Qb}{base:Heap}{CX:Ui}{j k:Nat}{f:Addr}{fd:Qn}{ps:List Str}{sp:Sp}(F:FnOk P w K mg base CX j f fd ps sp)(h:j<=k) :
 FnOk P w K mg base CX k f fd ps sp:=⟨F.len,fun A outer s H args us vs Q E B=>F.run A outer s H args us vs Q E (B.mono h)⟩
theorem Env0.make {P:Qk}{w:Qt}{K:Qa}{mg:Str->Option Qb}{base:Heap}{A:QA}{outer:List Env}{s:Qe}{H:Hp}(e:Env0 P w K mg base A outer s H)(C:Addr)(us:List Qb)(B:List (Str×Qb)) :
 Env0 P w K mg base (A.under (.builtin "type.__call__" ⟨.ref C::us,B⟩)) outer s H:=⟨by first | exact e.frames | (simpa [Sc,Code.envs,RX,pushEnvs] using e.frames),e.mod,e.bs,e.bsz,e.funs,e.frf,e.hok,e.bare⟩
section
variable {X:Cx}{pins:List (Addr×Obj)}{σ:St}{H:Hp}{s s':Qe}
theorem Inv.env0 (I:Inv X pins σ H s):Env0 X.prog X.w X.K X.mg X.base X.A X.stack s H :=
 ⟨I.ok.frames,I.ok.mod,I.bs,Qq I.ok.bsz I.sz,I.stack,I.stkFree,I.hok,I.bare⟩
theorem Inv.after (I:Inv X pins σ H s)(h:CE X.stack X.prog X.w H s Q u s'):EP X pins σ Q u s':=by
 obtain ⟨v,H',os,B,un,hok,r,q⟩:=h
 obtain ⟨J,g,d,t,G⟩:=s'
 obtain rfl:G=s.os:=os
 exact ⟨v,H',I.call (h':=J) (g':=g) (d':=d) (t':=t) (ch:=[]) un hok B (fun b z=>absurd z (by simp)),r,q⟩
end
def ZgE (sp:Sp)(dvs:List V)(E:XK)(t:TA):TE:=fun σ H Q=>t σ H fun vs H1=>sp (vs++dvs) H1 Q E
inductive Zfw (C:Addr)(m:Str)(sp:Sp)(dvs:List V)(E:XK)(t:TA)(σ:St)(Q:VK)(x:V)(H1:Hp):Prop
 | mk (a dx fs:_):x=.ref a->H1 a=some (.ins C dx fs)->fs.lookup m=none->(t σ H1 fun vs H2=>sp (x::(vs++dvs)) H2 Q E)->Zfw C m sp dvs E t σ Q x H1
def Zdn (C:Addr)(m:Str)(sp:Sp)(dvs:List V)(E:XK)(ta:TE)(t:TA):TE:=fun σ H Q=>ta σ H fun x H1=>Zfw C m sp dvs E t σ Q x H1
def Zkk (C:Addr)(sp:Sp)(dvs:List V)(E:XK)(t:TA):TE:=fun σ H Q=>t σ H fun vs H1=>∀ x dx,H1 x=none->H1 dx=none->dx≠x ->
 sp (.ref x::(vs++dvs)) (upd (upd H1 dx (.own x)) x (.ins C dx [])) (fun v H2=>v=.non/\Q (.ref x) H2) E
def Binds (K:Qa)(fd:Qn)(ps:List Str)(ds:List Qb):Prop :=
 ∀ (s:Qe) (us:List Qb),K.In s.heap->(us++ds).length=ps.length->PD s fd ⟨us,[]⟩ (ps.zip (us++ds))
theorem Binds.all {K:Qa}{fd:Qn}{ps:List Str}(h:∀ us:List Qb,us.length=ps.length->RZ fd ⟨us,[]⟩=pure (ps.zip us)):Binds K fd ps []:=fun s us _ B=>by
 rw [Pm] at B ⊢
 exact .of_eq (h us B)
def WV (CX:Ui)(X:Cx)(E:XK):Prop:=∀(pins:List (Addr×Obj))(σ:St)(H:Hp)(s:Qe)(e:Qb)(s':Qe),Inv X pins σ H s->CX X.stack H s E e s'->X.xe e s'
section
variable {X:Cx}{CX:Ui}{k:Nat}{f C:Addr}{fd:Qn}{ps:List Str}{sp:Sp}{dvs:List V}{ds:List Qb}{E:XK}{x m:Str}{p pos apos:Pos}{e o:Expr}{es:List Expr}{ta:TE}{t:TA}
theorem Zeg {us:List Qb}(F:FnOk X.prog X.w X.K X.mg X.base CX k f fd ps sp)(S:Room k X.A)(hb:Binds X.K fd ps ds)(U:Vals dvs ds)(J:WV CX X E)(I:Inv X pins σ H s)(r:Vals vs us)(h:sp (vs++dvs) H Q E):Qr (Qs X.prog X.w) X.A (call (.ref f) us) (EP X pins σ Q) X.xe s:=by
 have G:Vals (vs++dvs) (us++ds):=r.append U
 have W:(us++ds).length=ps.length:=by rw [<- G.length];exact F.len _ _ _ _ h
 refine Jm (Gk (F.run X.A X.stack s H ⟨us,[]⟩ (us++ds) (vs++dvs) Q E S I.env0 (hb s us I.kIn W) G h) fun r s' B=>?_)
 cases r with
 | error e=>exact J pins σ H s e s' I B
 | ok fl =>
  cases fl with
  | ret u=>exact I.after B
  | next=>exact QL B
  | brk=>exact QL B
  | cont=>exact QL B
theorem Zla (F:FnOk X.prog X.w X.K X.mg X.base CX k f fd ps sp)(W:Room k X.A)(hg:Gl X x)(hm:X.mg x=some (.ref f))(hk:GK X.K (.ref f)=true)(hb:Binds X.K fd ps ds)(Z:Vals dvs ds)(S:WV CX X E)
 (ha:PA X (e::es) t) (G:(x == ("__debug__":Str))=false:=by decide) (he:QE (e::es) X.env=(false,eval e X.env)::QE es X.env:=by rfl) (B:(GU pos (QE es X.env)).any (·.1)=false:=by rfl) :
 PE X (.Call (.Name x p) (e::es) [] pos) (ZgE sp dvs E t):=by
 intro pins s σ H Q I h
 refine QX (WQ I hg hm ?_ G)
 refine Jb (h₀:=X.base) I.ok.mod.kin hk (Zs (ha pos pins s σ H _ I h) fun us s1 U=>?_) he B
 obtain ⟨vs,H1,J,r,q⟩:=U
 refine ⟨J.kIn,?_⟩
 exact Zeg F W hb Z S J r q
theorem Zld (he:PE X o ta)(c:Cls X.K C)(S:Vr X.K C m f)(F:FnOk X.prog X.w X.K X.mg X.base CX k f fd ps sp)(hr:Room k X.A)(hb:Binds X.K fd ps ds)(hd:Vals dvs ds)(hx:WV CX X E)(ha:PA X (e::es) t)(J:QE (e::es) X.env=(false,eval e X.env)::QE es X.env:=by rfl)(G:(GU pos (QE es X.env)).any (·.1)=false:=by rfl)(ht:eval (.Call (.Attribute o m apos) (e::es) [] pos) X.env=(do
  let U <- eval o X.env
  Tf apos.atName
  let (f,first) <- JE [U] (PM U m pl)
  Tu pos f first (GU pos (QE (e::es) X.env)) (Pe pos (GX [] X.env))):=by rfl):
 PE X (.Call (.Attribute o m apos) (e::es) [] pos) (Zdn C m sp dvs E ta t):=by
 intro pins s σ H Q I h
 refine JR (pl:=pl) (Zs (he pins s σ H _ I h) fun u s1 B=>?_) ht
 obtain ⟨x,H1,W,rx,a,dx,fs,ex,ea,l,q⟩:=B
 subst ex
 obtain rfl:u=Qm a:=rx
 refine UU W ea c S l ?_
 refine Jb (first:=[.ref a]) (h₀:=X.base) I.ok.mod.kin S.kp (Zs (ha pos pins s1 σ H1 _ W q) fun us s2 B=>?_) J G
 obtain ⟨vs,H2,Z,r,q2⟩:=B
 refine ⟨Z.kIn,?_⟩
 exact Zeg (us:=.ref a::us) (vs:=.ref a::vs) F hr hb hd hx Z (.cons rfl r) q2
theorem Zjs (he:PE X o ta)(c:Cls X.K C)(J:Vr X.K C m f)(F:FnOk X.prog X.w X.K X.mg X.base CX k f fd ps sp)(W:Room k X.A)(hb:Binds X.K fd ps ds)(Z:Vals dvs ds)(S:WV CX X E)(ht:eval (.Call (.Attribute o m apos) [] [] pos) X.env=(do
  let G <- eval o X.env
  Tf apos.atName
  let (f,first) <- JE [G] (PM G m pl)
  Tu pos f first (GU pos (QE [] X.env)) (Pe pos (GX [] X.env))):=by rfl):
 PE X (.Call (.Attribute o m apos) [] [] pos) (Zdn C m sp dvs E ta Xo):=by
 intro pins s σ H Q I h
 refine JR (pl:=pl) (Zs (he pins s σ H _ I h) fun u s1 U=>?_) ht
 obtain ⟨x,H1,B,rx,a,dx,fs,ex,ea,l,q⟩:=U
 subst ex
 obtain rfl:u=Qm a:=rx
 refine UU B ea c J l ?_
 exact Rk (first:=[.ref a]) B.kIn J.kp (Zeg (us:=[.ref a]) (vs:=[.ref a]) F W hb Z S B (.cons rfl .nil) q)
structure Mk (K:Qa)(C f:Addr):Prop where
 makes:Sn K C=true
 init:Qv K (.ref C) "__init__"=some (some (.ref f))
 fn:Sa K (.ref f)=true
 kp:GK K (.ref C)=true
theorem ZjH {us:List Qb}(M:Mk X.K C f)(F:FnOk X.prog X.w X.K X.mg X.base CX k f fd ps sp)(hr:Room (k+1) X.A)(hb:Binds X.K fd ps ds)(hd:Vals dvs ds)(U:WV CX X E)(I:Inv X pins σ H s)(r:Vals vs us)(h:∀ x dx,H x=none->H dx=none->dx≠x->sp (.ref x::(vs++dvs)) (upd (upd H dx (.own x)) x (.ins C dx [])) (fun v H2=>v=.non/\Q (.ref x) H2) E):
 Qr (Qs X.prog X.w) X.A (call (.ref C) us) (EP X pins σ Q) X.xe s:=by
 have S:=h (s.heap.objs.size+1) s.heap.objs.size (I.hok.fresh (GY _)) (I.hok.fresh (Qh _)) (Qu (Tt _))
 have G:=Inv.made (C:=C) I
 have J:Vals (V.ref (s.heap.objs.size+1)::(vs++dvs)) (Qm (s.heap.objs.size+1)::(us++ds)):=.cons rfl (r.append hd)
 have hl:(Qm (s.heap.objs.size+1)::us++ds).length=ps.length:=by
  have e:=J.length
  rw [F.len _ _ _ _ S] at e
  exact e.symm
 refine Jm (ZiW (f:=f) I.kIn M.makes M.init (beq_iff_eq.mp M.fn) (Gk (F.run _ X.stack _ _ ⟨Qm (s.heap.objs.size+1)::us,[]⟩ (Qm (s.heap.objs.size+1)::(us++ds)) _ _ E (hr.make C us [])
  (G.env0.make C us []) (hb _ (Qm (s.heap.objs.size+1)::us) G.kIn hl) J S) fun r s' B=>?_))
 cases r with
 | error e=>exact U pins σ _ _ e s' G B
 | ok fl =>
  cases fl with
  | ret u =>
   obtain ⟨v,H',I3,rv,W,Z⟩:=G.after B
   subst W
   exact ⟨rv,⟨V.ref (s.heap.objs.size+1),H',I3,rfl,Z⟩⟩
  | next=>exact QL B
  | brk=>exact QL B
  | cont=>exact QL B
theorem Zjr (M:Mk X.K C f)(F:FnOk X.prog X.w X.K X.mg X.base CX k f fd ps sp)(S:Room (k+1) X.A)(J:Gl X x)(W:X.mg x=some (.ref C))(hb:Binds X.K fd ps ds)(U:Vals dvs ds)(G:WV CX X E)
 (B:(x == ("__debug__":Str))=false:=by decide):PE X (.Call (.Name x p) [] [] pos) (Zkk C sp dvs E Xo):=by
 intro pins s σ H Q I h
 refine QX (WQ I J W ?_ B)
 exact Rk I.kIn M.kp (ZjH (us:=[]) M F S hb U G I .nil h)
end
def PK (X:Cx)(kws:List Oa)(t:TA):Prop :=
 ∀ (pos:Pos) (pins:List (Addr×Obj)) (s:Qe) (σ:St) (H:Hp) (Q:List V->Hp->Prop),Inv X pins σ H s->t σ H Q->Qr (Qs X.prog X.w) X.A (evalAll ((Pe pos (GX kws X.env)).map (·.2))) (AP X pins σ Q) X.xe s
section
variable {X:Cx}{CX:Ui}{k:Nat}{f C:Addr}{fd:Qn}{ps ks:List Str}{sp:Sp}{E:XK}{x m:Str}{p pos apos kpos:Pos}{e o:Expr}{es:List Expr}{kws:List Oa}{te ta:TE}{t tk:TA}{nm:Option Str}
theorem ZmL:PK X [] Xo:=fun _ _ _ _ H Q I h=>Ob ⟨[],H,I,.nil,h⟩
theorem Zlf (ha:PE X e te)(G:PK X kws t):PK X (⟨nm,e,kpos⟩::kws) (Wh te t):=by
 intro pos pins s σ H Q I h
 show Qr _ _ (evalAll ((do let v <- eval e X.env;Tf pos;pure v)::(Pe pos (GX kws X.env)).map (·.2))) _ _ s
 refine wpAny_evalAll_cons (Qf (Zs (ha pins s σ H _ I h) fun u s1 B=>?_))
 obtain ⟨x,H1,W,Z,U⟩:=B
 refine Qf (GH (Qy ?_))
 exact Zs (G pos pins s1 σ H1 _ W U) fun us s2 ⟨xs,H2,I2,J,S⟩=>⟨x::xs,H2,I2,.cons Z J,S⟩
variable {g:List Qb->List Qb->List Qb}{gV:List V->List V->List V}
end
structure Zp (N P:List Str)(sc:Scope):Prop where
 kind:sc.kind=.function:=by rfl
 co:sc.isCoroutine=false:=by rfl
 gen:sc.isGenerator=false:=by rfl
 nd:N.Nodup:=by decide +kernel
 pre:N.take P.length=P:=by rfl
 par:∀ x∈P,sc.names.lookup x=some .local\/sc.names.lookup x=some .cell:=by decide +kernel
 nofree:∀ y∈sc.names,y.2≠.free:=by decide +kernel
theorem Zcp {kindOf:Str->Option GE}{x:Str}:∀{binds:List (Str×Qb)}{m:Str->Option Qb},(∀ v,(x,v) ∉ binds)->OP kindOf binds m x=m x
 | [],_,_=>rfl
 | (n,v)::r,m,h=>by
  unfold OP
  rw [Zcp fun w B=>h w (mem_cons_of_mem _ B)]
  split
  ·have:x≠n:=by rintro rfl;exact h v mem_cons_self
   simp [this]
  ·rfl
theorem Zcn {kindOf:Str->Option GE}{x:Str}:∀{binds:List (Str×Qb)}{m:Str->Option Qb},(∀ v,(x,v) ∉ binds)->bindC kindOf binds m x=m x
 | [],_,_=>rfl
 | (n,v)::r,m,h=>by
  unfold bindC
  rw [Zcn fun w B=>h w (mem_cons_of_mem _ B)]
  split
  ·rfl
  ·have:x≠n:=by rintro rfl;exact h v mem_cons_self
   simp [this]
theorem Zco {kindOf:Str->Option GE}{x:Str}{v:Qb}:∀{P:List Str}{vs:List Qb}{i:Nat}{m:Str->Option Qb},P.Nodup->P[i]?=some x->vs[i]?=some v->kindOf x=some .local ->
 OP kindOf (P.zip vs) m x=some v
 | [],_,_,_,_,h,_,_=>by simp at h
 | _::_,[],_,_,_,_,h,_=>by simp at h
 | p::P,w::vs,0,m,nd,h1,h2,hk=>by
  simp at h1 h2;subst h1;subst h2
  show OP kindOf ((p,w)::P.zip vs) m p=_
  unfold OP
  rw [Zcp fun v B=>(nodup_cons.mp nd).1 (of_mem_zip B).1,if_pos hk]
  simp
 | p::P,w::vs,i+1,m,nd,h1,h2,hk=>by
  show OP kindOf ((p,w)::P.zip vs) m x=_
  unfold OP
  exact Zco (i:=i) (nodup_cons.mp nd).2 (by simpa using h1) (by simpa using h2) hk
theorem Zcm {kindOf:Str->Option GE}{x:Str}{v:Qb}:∀{P:List Str}{vs:List Qb}{i:Nat}{m:Str->Option Qb},P.Nodup->P[i]?=some x->vs[i]?=some v->kindOf x≠some .local ->
 bindC kindOf (P.zip vs) m x=some v
 | [],_,_,_,_,h,_,_=>by simp at h
 | _::_,[],_,_,_,_,h,_=>by simp at h
 | p::P,w::vs,0,m,nd,h1,h2,hk=>by
  simp at h1 h2;subst h1;subst h2
  show bindC kindOf ((p,w)::P.zip vs) m p=_
  unfold bindC
  rw [Zcn fun v B=>(nodup_cons.mp nd).1 (of_mem_zip B).1,if_neg hk]
  simp
 | p::P,w::vs,i+1,m,nd,h1,h2,hk=>by
  show bindC kindOf ((p,w)::P.zip vs) m x=_
  unfold bindC
  exact Zcm (i:=i) (nodup_cons.mp nd).2 (by simpa using h1) (by simpa using h2) hk
def start (N:List Str)(vs:List V):St:=vs.map some++QY (N.length - vs.length) none
def ZQ (CX:Ui)(P:Qk)(w:Qt)(K:Qa)(mg:Str->Option Qb)(base:Heap)(N:List Str)(qual:Str)(scope:Scope)(f:Addr)(cd:Qb)(A:QA)(outer:List Env)(s:Qe)(H:Hp)(E:XK):Cx where
 prog:=P
 w:=w
 K:=K
 mg:=mg
 base:=base
 A:=A.deeper (JV qual scope s.heap.objs.size f cd)
 N:=N
 s₀:=s
 H₀:=H
 env:=JV qual scope s.heap.objs.size f cd
 outer:=outer
 stack:=JV qual scope s.heap.objs.size f cd::outer
 ex:=[]
 calm:=true
 fn:=fun _=>true
 pn:=[]
 xe:=fun e s'=>Qr (Qs P w) (A.deeper (JV qual scope s.heap.objs.size f cd)) (leaving (JV qual scope s.heap.objs.size f cd) e) (fun _ s''=>CX outer H s E e s'') (fun e' s''=>CX outer H s E e' s'') s'
theorem ZdC {sc:Scope}{n:Nat}{x:Str}(h:sc.names.lookup x=some .cell):∃ c,(cellsFrom n sc.names []).lookup x=some c:=by
 have q:=Sd sc.names n [] (.inl h)
 exact Tn.mp q
theorem Zhj {CX:Ui}{P:Qk}{w:Qt}{K:Qa}{mg:Str->Option Qb}{base:Heap}{N ps:List Str}{qual:Str}{scope:Scope}{f:Addr}{J:Qb}{A:QA}{outer:List Env}{s s1:Qe}{H:Hp}{E:XK}{us:List Qb}{vs:List V}
 (S:Zp N ps scope) (Z:A.handled=none) (B:Env0 P w K mg base A outer s H) (hl:vs.length=ps.length) (r:Vals vs us)
 (x:InCallC s s.heap.objs.size (OP (JV qual scope s.heap.objs.size f J).kindOf (ps.zip us) fun _=>none) (cellsFrom (s.heap.objs.size+1) scope.names []) (bindC (JV qual scope s.heap.objs.size f J).kindOf (ps.zip us) fun _=>none) s1) :
 Inv (ZQ CX P w K mg base N qual scope f J A outer s H E) [] (start N vs) H s1:=by
 have hpl:ps.length<=N.length:=by have:=congrArg Th S.pre;rw [length_take] at this;omega
 obtain ⟨h1,tk,rfl,W⟩:=x.done
 have G:∀ b:Addr,b ∉ (ZQ CX P w K mg base N qual scope f J A outer s H E).ex:=fun b z=>absurd (show b∈([]:List Addr) from z) (by simp)
 refine ⟨⟨B.mod,S.kind,rfl,rfl,Qh _,fun y z c h1 h2=>?_,fun y hy=>?_,fun y c _ h=>?_,fun _=>Z,SK B.frames,.inr ⟨rfl,rfl⟩,fun b z=>absurd z (G b),B.bs,B.bsz,fun b _ _=>G b,fun b z=>absurd z (G b),B.funs,B.frf⟩,
  rfl,B.bare,Un.kept W,⟨_,x.toInCall.ns,fun i y v h1 h2 h3=>?_⟩,fun y c h=>⟨_,x.cell y c h⟩,B.hok.fresh (Qh _),fun y c h=>?_,fun p hp=>absurd (show p∈([]:List (Addr×Obj)) from hp) (by simp),B.hok.kept W,?_⟩
 ·exact name_of_addr x.apart (GT h1) (GT h2)
 ·have hy:scope.names.lookup y=some .cell\/scope.names.lookup y=some .free:=hy
  rcases hy with hy | hy
  ·exact ZdC hy
  ·exact absurd rfl (S.nofree _ (GT hy))
 ·exact GF (x.above y c (GT h))
 ·have hi:i < vs.length:=by
   unfold start at h2
   by_cases hi:i < vs.length
   ·exact hi
   ·rw [getElem?_append_right (by simpa using hi)] at h2
    rw [List.getElem?_replicate] at h2
    split at h2<;>cases h2
  have ha:vs[i]?=some v:=by
   unfold start at h2
   rw [getElem?_append_left (by simpa using hi),getElem?_map] at h2
   cases e:vs[i]? with
   | none=>rw [e] at h2;cases h2
   | some a=>rw [e] at h2;cases h2;rfl
  obtain ⟨u,U,rv⟩:=r.get ha
  have hp:ps[i]?=some y:=by
   rw [<- S.pre,List.getElem?_take_of_lt (by omega)];exact h1
  have I:ps.Nodup:=by rw [<- S.pre];exact S.nd.sublist (List.take_sublist _ _)
  refine ⟨u,rv,?_⟩
  rcases S.par y (mem_of_getElem? hp) with k | k
  ·exact .inl ⟨k,Zco I hp U k⟩
  ·obtain ⟨c,e⟩:=ZdC (n:=s.heap.objs.size+1) k
   refine .inr ⟨.inl k,c,e,?_⟩
   have q:=x.cell y c e
   rw [Zcm I hp U (by show scope.names.lookup y≠_;rw [k];decide)] at q
   exact q
 ·exact B.hok.fresh (GF (x.above y c (GT h)))
 ·unfold start
  show _=N.length
  rw [length_append,length_map,length_replicate]
  omega
theorem ZfU {CX:Ui}{P:Qk}{w:Qt}{K:Qa}{mg:Str->Option Qb}{base:Heap}{k:Nat}{f:Addr}{name qual:Str}{G:Jo}{body:List Stmt}{scope:Scope}{dV kV doc pm B ct oc:Qb}{an od:Option Addr}
 {osl:Array (Option Qb)} {N ps:List Str} {sp:Sp} (lk:K.lookup f=some ⟨oc,od,.func (JG name qual G body scope dV kV doc pm an B ct),osl⟩) (hcd:SL K B qual=true) (S:Zp N ps scope)
 (len:∀ vs H Q E,sp vs H Q E->vs.length=ps.length)
 (Z:∀ (A:QA) (outer:List Env) (s:Qe) (H:Hp) (vs:List V) (Q:VK) (E:XK),Room k (A.deeper (JV qual scope s.heap.objs.size f B))->sp vs H Q E ->
  ∃ t,PSs (ZQ CX P w K mg base N qual scope f B A outer s H E) body t/\t { nx:=fun _ H'=>Q .non H',rt:=Q } (start N vs) H) :
 FnOk P w K mg base CX (k+1) f (JG name qual G body scope dV kV doc pm an B ct) ps sp:=by
 refine ⟨len,fun A outer s H args us vs Q E hr e0 hb r hsp=>?_⟩
 have hl:=len _ _ _ _ hsp
 have KX:K.In s.heap:=e0.mod.kin.keeps fun b o e=>(e0.bs b o e).1
 have lim:s.heap.NoLimit:=e0.mod.nolimit.keeps fun b o e=>(e0.bs b o e).1
 have hkind:∀ y∈ps.zip us,scope.names.lookup y.1=some .local\/(scope.names.lookup y.1=some .cell/\((cellsFrom (s.heap.objs.size+1) scope.names []).lookup y.1).isSome=true):=fun ⟨n,v⟩ hy=>by
  rcases S.par n (of_mem_zip hy).1 with q | q
  ·exact .inl q
  ·exact .inr ⟨q,Sd _ _ _ (.inl q)⟩
 refine codeAny_call_function hr.depth (KX _ _ lk) rfl S.co S.gen rfl (PySem.W.codeRec_of KX hcd) (hb _ _ _ _ ?_)
 refine PX S.kind hkind fun env he s1 x=>?_
 subst he
 refine ⟨lim.keeps x.toInCall.keep,codeAny_func ?_⟩
 obtain ⟨t,ht,hq⟩:=Z A outer s H vs Q E (hr.deeper _) hsp
 have I:Inv (ZQ CX P w K mg base N qual scope f B A outer s H E) [] (start N vs) H s1:=Zhj S hr.hd e0 hl r x
 refine QW (ht [] s1 (start N vs) H _ I hq) (fun fl s' hs=>?_) fun e s' hs=>hs
 have fin:∀ {U:St} {H':Hp} {v:V} {u:Qb},Inv (ZQ CX P w K mg base N qual scope f B A outer s H E) [] U H' s'->RelV v u->Q v H'->CE outer P w H s Q u s' :=
  fun {U H' v u} J rv q=>⟨v,H',J.os,J.bare,J.base,J.hok,rv,q⟩
 cases fl with
 | ret u =>
  obtain ⟨v,U,H',J,rv,q⟩:=hs
  exact fin J rv q
 | next =>
  obtain ⟨U,H',J,q⟩:=hs
  exact fin (v:=V.non) (u:=QT) J rfl q
 | brk =>
  obtain ⟨_,_,_,q⟩:=hs
  exact QL q
 | cont =>
  obtain ⟨_,_,_,q⟩:=hs
  exact QL q
section
variable {X:Cx}{x:Str}{p pos:Pos}{e:Expr}{es:List Expr}{t:TA}{id T:String}{r:List V->Hp->VK->Prop}
def tCB (r:List V->Hp->VK->Prop)(t:TA):TE:=fun σ H Q=>t σ H fun vs H1=>r vs H1 Q
theorem Zr (hc:Ys X (.builtin id) r)(S:Gl X x)(Z:X.mg x=none)(J:JD x=some (.builtin id))(ha:PA X (e::es) t)(U:x≠"__name__":=by decide)(B:(x == ("__debug__":Str))=false:=by decide)
 (he:QE (e::es) X.env=(false,eval e X.env)::QE es X.env:=by rfl) (G:(GU pos (QE es X.env)).any (·.1)=false:=by rfl):PE X (.Call (.Name x p) (e::es) [] pos) (tCB r t):=by
 intro pins s σ H Q I h
 refine QX (Ux I S Z J ?_ U B)
 exact Oy (Zs (ha pos pins s σ H _ I h) fun us s1 ⟨vs,H1,I1,r1,W⟩=>hc pins s1 σ H1 vs us Q I1 r1 W) he G
theorem Yy (hc:Ys X (.type T) r)(S:Gl X x)(Z:X.mg x=none)(J:JD x=some (.type T))(ha:PA X (e::es) t)(U:x≠"__name__":=by decide)(B:(x == ("__debug__":Str))=false:=by decide)
 (he:QE (e::es) X.env=(false,eval e X.env)::QE es X.env:=by rfl) (G:(GU pos (QE es X.env)).any (·.1)=false:=by rfl):PE X (.Call (.Name x p) (e::es) [] pos) (tCB r t):=by
 intro pins s σ H Q I h
 refine QX (Ux I S Z J ?_ U B)
 exact PB (Zs (ha pos pins s σ H _ I h) fun us s1 ⟨vs,H1,I1,r1,W⟩=>hc pins s1 σ H1 vs us Q I1 r1 W) he G
end
end L2
namespace HT
open PySem PyProof.Rows
section
open PySem.SeqAt
open PySem.AutoSeq1 (wpAny_loadPart')
open PySem.MeetsSeq PySem.MeetsSeq2 PySem.MeetsSeq3
end
section
variable {prog:Qk}{w:Qt}{A:QA}{E:Qb->Qe->Prop}{s:Qe}
def sIx (n d:Nat):Option Int->Nat
 | none=>d
 | some v=>if v < 0 then (v+(n:Int)).toNat else min v.toNat n
theorem sIx_le (n d:Nat)(G:d<=n)(o:Option Int):sIx n d o<=n:=by
 cases o with
 | none=>exact G
 | some v =>
  show (if v < 0 then (v+(n:Int)).toNat else min v.toNat n)<=n
  by_cases B:v < 0
  ·rw [if_pos B];omega
  ·rw [if_neg B];exact Nat.min_le_right _ _
end
end HT
namespace L2
open PySem PySem.Spec PyProof.Rows
abbrev TO:=St->Hp->(Option Int->Hp->Prop)->Prop
def PO (X:Cx)(e:Option Expr)(t:TO):Prop :=
 ∀ (pins:List (Addr×Obj)) (s:Qe) (σ:St) (H:Hp) (Q:Option Int->Hp->Prop),Inv X pins σ H s->t σ H Q ->
  Qr (Qs X.prog X.w) X.A (evalPart e X.env) (fun u s'=>∃ o H',Inv X pins σ H' s'/\IsPart u o/\Q o H') X.xe s
def Zfx:TO:=fun _ H Q=>Q none H
inductive Zfz (Q:Option Int->Hp->Prop)(x:V)(H1:Hp):Prop
 | mk (i:_):x=.int i->Q (some i) H1->Zfz Q x H1
def ZoD (t:TE):TO:=fun σ H Q=>t σ H fun x H1=>Zfz Q x H1
section
variable {X:Cx}{e:Expr}{te:TE}{lo hi:Option Expr}{tl th:TO}{pos p2:Pos}
theorem ZbT:PO X none Zfx:=by
 intro pins s σ H Q I h
 rw [evalPart_none]
 exact Qy ⟨none,H,I,.none,h⟩
theorem ZbU (h:PE X e te):PO X (some e) (ZoD te):=by
 intro pins s σ H Q I J
 rw [evalPart_some]
 refine Zs (h pins s σ H _ I J) fun u s1 B=>?_
 obtain ⟨x,H1,S,U,G⟩:=B
 obtain ⟨i,rfl,q⟩:=G
 obtain ⟨t,rfl⟩:=U
 exact ⟨some i,H1,S,.int i t,q⟩
def SlR (X:Cx)(r:V->Option Int->Option Int->Hp->VK->Prop):Prop :=
 ∀ (pins:List (Addr×Obj)) (s:Qe) (σ:St) (H:Hp) (x:V) (v vl vu:Qb) (lo hi:Option Int) (sl:Addr) (Q:VK),Inv X pins σ H s->RelV x v->s.heap.IsSliceOf sl vl vu .none->IsPart vl lo->IsPart vu hi->r x lo hi H Q ->
  ∃ T id,QZ (.type T) "__getitem__"=pure (some (.builtin id))/\s.TypeIs v T/\Qr (Qs X.prog X.w) X.A (getItem v (.ref sl)) (EP X pins σ Q) X.xe s
def tSl (r:V->Option Int->Option Int->Hp->VK->Prop)(te:TE)(tl th:TO):TE:=fun σ H Q=>te σ H fun x H1=>tl σ H1 fun l H2=>th σ H2 fun u H3=>r x l u H3 Q
theorem ZaJ (hr:SlR X r)(he:PE X e te)(hl:PO X lo tl)(W:PO X hi th):PE X (.Subscript e (.Slice lo hi none p2) pos) (tSl r te tl th):=by
 intro pins s σ H Q I h
 refine Subscript_ (Zs (he pins s σ H _ I h) fun v s1 G=>?_)
 obtain ⟨x,H1,I1,r1,q1⟩:=G
 refine wpAny_Slice (Zs (hl pins s1 σ H1 _ I1 q1) fun S s2 G=>?_)
 obtain ⟨l,H2,I2,pl,q2⟩:=G
 refine Zs (W pins s2 σ H2 _ I2 q2) fun J B G=>?_
 obtain ⟨u,U,Z,pu,q3⟩:=G
 rw [evalPart_none]
 refine Qy ?_
 have I4:Inv X pins σ U { B with heap:=B.heap.push { cls:=.type "slice",data:=.fields #[S,J,.none] } }:=Z.kept (t':=B.toks) fun b ob q=>Qd _ q
 obtain ⟨T,id,hT,ht,hg⟩:=hr pins { B with heap:=B.heap.push { cls:=.type "slice",data:=.fields #[S,J,.none] } } σ U x v S J l u B.heap.objs.size Q I4 r1 (Heap.IsSliceOf.new ..) pl pu q3
 show Qr (Qs X.prog X.w) X.A (subscriptTail e (.Slice lo hi none p2) v (.ref B.heap.objs.size)) (EP X pins σ Q) X.xe { B with heap:=B.heap.push { cls:=.type "slice",data:=.fields #[S,J,.none] } }
 exact tail_any (ops:=[.ref B.heap.objs.size,v]) ht hT hg (by with_unfolding_all rfl)
def ZdE (xs:List V)(lo hi:Option Int):List V:=(xs.drop (HT.sIx xs.length 0 lo)).take (HT.sIx xs.length xs.length hi - HT.sIx xs.length 0 lo)
theorem ZeC (xs:List V)(lo hi:Option Int):(ZdE xs lo hi).length<=xs.length:=by
 unfold ZdE
 rw [length_take,Tv]
 omega
end
def XS (n:Nat)(i:Int):Option Nat:=if 0<=i then (if i < n then some i.toNat else none) else if -(n:Int)<=i then some (i+n).toNat else none
def YH {α:Type}(xs:List α)(i:Int):Option α:=(XS xs.length i).bind fun j=>xs[j]?
theorem ZbO {n:Nat}{i:Int}{j:Nat}(h:XS n i=some j):seqIndex? i n=some j/\j < n/\-(n:Int)<=i/\i < n:=by
 unfold XS at h
 by_cases B:0<=i
 ·rw [if_pos B] at h
  by_cases h1:i < n
  ·rw [if_pos h1] at h
   have e:i.toNat=j:=QG h
   exact ⟨by rw [OQ B h1,e],by omega,by omega,h1⟩
  ·rw [if_neg h1] at h;cases h
 ·rw [if_neg B] at h
  by_cases h1:-(n:Int)<=i
  ·rw [if_pos h1] at h
   have e:(i+n).toNat=j:=QG h
   exact ⟨by rw [Oc (by omega) h1,e],by omega,h1,by omega⟩
  ·rw [if_neg h1] at h;cases h
theorem ZbI {B:Type}{xs:List B}{i:Int}{v:B}(h:YH xs i=some v):∃ j,seqIndex? i xs.length=some j/\xs[j]?=some v/\j < xs.length/\-(xs.length:Int)<=i/\i < xs.length:=by
 unfold YH at h
 cases e:XS xs.length i with
 | none=>rw [e] at h;cases h
 | some j =>
  rw [e] at h
  obtain ⟨h1,h2,G,I⟩:=ZbO e
  exact ⟨j,h1,h,h2,G,I⟩
theorem ZK {B:Type}{xs:List B}{j:Nat}{v:B}(h:xs[j]?=some v):YH xs (j:Int)=some v:=by
 have G:j < xs.length:=(Qi.mp h).1
 have e:XS xs.length (j:Int)=some j:=by
  unfold XS
  rw [if_pos (by omega),if_pos (by omega)];simp
 unfold YH;rw [e];exact h
theorem ZiC {B:Type}(xs:List B)(v:B):YH (xs++[v]) (-1)=some v:=by
 have G:(xs++[v]).length=xs.length+1:=by simp
 have e:XS (xs++[v]).length (-1)=some xs.length:=by
  unfold XS
  rw [G,if_neg (by decide),if_pos (by omega)]
  congr 1
  omega
 unfold YH
 rw [e]
 show (xs++[v])[xs.length]?=some v
 simp
def Zkp (b:Expr):Prop:=∀ o i,subscripted b false o i=operate [o,i] (getItem o i)
def IxR (X:Cx)(r:R2):Prop :=
 ∀ (value slice:Expr) (pins:List (Addr×Obj)) (s:Qe) (σ:St) (H:Hp) (x y:V) (v u:Qb) (Q:VK),Inv X pins σ H s->RelV x v->RelV y u->r x y H Q ->
  subscripted slice false v u=operate [v,u] (getItem v u)->Qr (Qs X.prog X.w) X.A (subscriptTail value slice v u) (EP X pins σ Q) X.xe s
def MtR (X:Cx)(id:String)(r:V->List V->Hp->VK->Prop):Prop :=
 ∀ (pins:List (Addr×Obj)) (s:Qe) (σ:St) (H:Hp) (x:V) (xs:List V) (v:Qb) (us:List Qb) (Q:VK),Inv X pins σ H s->RelV x v->Vals xs us->r x xs H Q ->
  Qr (Qs X.prog X.w) X.A (call (.builtin id) (v::us)) (EP X pins σ Q) X.xe s
section
variable {X:Cx}{a b:Expr}{ta tb:TE}{pos:Pos}
theorem ZA (B:IxR X r)(W:PE X a ta)(hb:PE X b tb)(S:Zkp b):PE X (.Subscript a b pos) (tOp r ta tb):=by
 intro pins s σ H Q I h
 exact Subscript_ (ZiD W hb I h fun v u s2 x y H2 U J G q=>B a b pins s2 σ H2 x y v u Q U J G q (S _ _))
inductive ZhT (K:Qa)(x y:V)(H:Hp)(Q:VK):Prop
 | mk (p xs i v:_):x=.ref p->y=.int i->SqL K H p xs->YH xs i=some v->Q v H->ZhT K x y H Q
def rIxL (K:Qa):R2:=fun x y H Q=>ZhT K x y H Q
inductive ZhV (K:Qa)(x y:V)(H:Hp)(Q:VK):Prop
 | mk (p xs i v:_):x=.ref p->y=.int i->SqT K H p xs->YH xs i=some v->Q v H->ZhV K x y H Q
def rIxT (K:Qa):R2:=fun x y H Q=>ZhV K x y H Q
inductive ZhU (x y:V)(H:Hp)(Q:VK):Prop
 | mk (z i c:_):x=.str z->y=.int i->z.length<=Qj->YH z.cps.toList i=some c->Q (.str ⟨#[c]⟩) H->ZhU x y H Q
def rIxS :R2:=fun x y H Q=>ZhU x y H Q
theorem ZG:IxR X (rIxL X.K):=by
 intro value G pins s σ H x y v u Q I rx ry h Z
 obtain ⟨p,xs,i,z,rfl,rfl,hq,he,q⟩:=h
 cases rx
 obtain ⟨t,rfl⟩:=ry
 obtain ⟨S,r,pl,hz⟩:=I.list hq
 obtain ⟨j,h1,h2,h3,h4,h5⟩:=ZbI he
 obtain ⟨w,ew,J⟩:=r.get h2
 have hl:=r.length
 have hn:=Ub
 have B:EP X pins σ Q w s:=⟨z,H,I,J,q⟩
 by_cases W:0<=i
 ·have U:i.toNat=j:=by
   rw [OQ W h5] at h1
   exact QG h1
  exact item_listR pl.isList W (by omega) (by rw [U];simpa using ew) B Z
 ·have U:(i+(S.toArray.size:Int)).toNat=j:=by
   rw [Oc (by omega) h4] at h1
   rw [size_toArray,<- hl]
   exact QG h1
  exact JH (x:=w) pl.isList.typeIs Od.lookup
   (wpAny_getItem_list_neg (Q:=fun r s'=>r=w/\EP X pins σ Q r s') pl.isList (by omega) (by rw [size_toArray]<;>omega) (by omega) (by rw [U];simpa using ew) ⟨rfl,B⟩) Z
theorem YL:IxR X (rIxT X.K):=by
 intro value B pins s σ H x y v u Q I Z S h hs
 obtain ⟨p,xs,i,z,rfl,rfl,hq,he,q⟩:=h
 cases Z
 obtain ⟨t,rfl⟩:=S
 obtain ⟨U,r,pl,hz⟩:=I.tuple hq
 obtain ⟨j,h1,h2,h3,h4,h5⟩:=ZbI he
 obtain ⟨w,W,G⟩:=r.get h2
 have hl:=r.length
 have hn:=Ub
 have J:EP X pins σ Q w s:=⟨z,H,I,G,q⟩
 exact JH (x:=w) pl.typeIs RE.lookup
  (getItem_tuple (j:=j) (Q:=fun r s'=>r=w/\EP X pins σ Q r s') pl (by omega) (by omega) (by rw [size_toArray,<- hl];exact h1) (by simpa using W) ⟨rfl,J⟩) hs
theorem Zbg:IxR X rIxS:=by
 intro value B pins s σ H x y v u Q I S G h hs
 obtain ⟨z,i,c,rfl,rfl,hz,W,q⟩:=h
 obtain ⟨t,rfl⟩:=S
 obtain ⟨t',rfl⟩:=G
 obtain ⟨j,h1,h2,h3,U,h5⟩:=ZbI W
 have Z:z.cps.toList.length=z.length:=by simp [Str.length]
 rw [Z] at h1 U h5
 have hn:=Ub
 exact tail_any (typeIs_str s z t) slot_str_getitem.lookup (getItem_str (c:=c) (by
  have e1:decide (i < -(2 ^ 63:Int))=false:=decide_eq_false (by omega)
  have J:decide (i ≥ 2 ^ 63)=false:=decide_eq_false (by omega)
  rw [e1,J,Bool.or_false]) (by rw [h1];simpa using h2) ⟨.str ⟨#[c]⟩,H,I.tok _,⟨_,rfl⟩,q⟩) hs
theorem Zgb (B:List Qb)(n j:Nat)(u:Qb):QU (·.setIfInBounds j u) { cls:=.type "list",data:=.seq B.toArray n }={ cls:=.type "list",data:=.seq (B.set j u).toArray n }:=by
 simp [QU]
theorem Inv.lst (I:Inv X pins σ H s)(h:H p=some (.lst xs)):
 ∃ (B:List Qb) (n:Nat),Vals xs B/\s.heap.get? p=some { cls:=.type "list",data:=.seq B.toArray n }/\xs.length<=sizeLine:=by
 obtain ⟨z,B,n,r,e⟩:=I.hok p _ h
 exact ⟨B,n,r,e,z⟩
theorem Inv.lstUpd {pins:List (Addr×Obj)}{σ:St}{H:Hp}{s:Qe}{p:Addr}{xs ys:List V}{B its':List Qb}{n G:Nat}{f:Obj->Obj}(I:Inv X pins σ H s)(h:H p=some (.lst xs))
 (U:s.heap.get? p=some { cls:=.type "list",data:=.seq B.toArray n }) (J:f { cls:=.type "list",data:=.seq B.toArray n }={ cls:=.type "list",data:=.seq its'.toArray G }) (r:Vals ys its') (S:ys.length<=Qj) (t:Nat) :
 Inv X pins σ (upd H p (.lst ys)) { s with heap:=s.heap.update p f,toks:=t }:=by
 have e:(s.heap.update p f).get? p=some { cls:=.type "list",data:=.seq its'.toArray G }:=by
  rw [Jd f U (by rw [J]<;>rfl),J]
 refine I.write (x:=p) (e:=p) (by rw [h];trivial) (.inl rfl) (fun b u hb q=>(Gm _ _ (Gv hb)).trans q) ⟨_,e⟩ ?_
 exact ⟨S,its',G,r,e⟩
inductive Zfp (o i v:V)(H:Hp)(Q:(Hp->Prop)):Prop
 | mk (p xs k j:_):o=.ref p->i=.int k->H p=some (.lst xs)->XS xs.length k=some j->Q (upd H p (.lst (xs.set j v)))->Zfp o i v H Q
def ZnV :V->V->V->Hp->(Hp->Prop)->Prop:=fun o i v H Q=>Zfp o i v H Q
theorem Wx:PSet X ZnV:=by
 intro pins s σ H o i v ov iv u Q I ro ri rv h
 obtain ⟨p,xs,k,j,rfl,rfl,hp,hj,q⟩:=h
 cases ro
 obtain ⟨t,rfl⟩:=ri
 obtain ⟨B,n,r,S,hz⟩:=I.lst hp
 obtain ⟨h1,h2,Z,h4⟩:=ZbO hj
 have J:=r.length
 have hn:=Ub
 have I':Inv X pins σ (upd H p (.lst (xs.set j v))) { s with heap:=s.heap.update p (QU (·.setIfInBounds j u)) } :=
  I.lstUpd hp S (Zgb B n j u) (r.set rv j) (by rw [length_set];exact hz) s.toks
 by_cases U:0<=k
 ·have G:k.toNat=j:=by
   rw [OQ U h4] at h1
   exact QG h1
  exact PySem.W.ki_setAt S U (by omega) (by rw [size_toArray,<- J];exact h4) (by rw [G];exact ⟨_,I',q⟩)
 ·have G:(k+(B.toArray.size:Int)).toNat=j:=by
   rw [Oc (by omega) Z] at h1
   rw [size_toArray,<- J]
   exact QG h1
  exact PySem.W.ki_setBack S (by omega) (by rw [size_toArray,<- J];exact Z) (by omega) (by rw [G];exact ⟨_,I',q⟩)
theorem Zeh (lo hi:Option Int)(n:Nat):(JC lo hi none n).1=((HT.sIx n 0 lo:Nat):Int)/\(JC lo hi none n).2.1=((HT.sIx n n hi:Nat):Int)/\(JC lo hi none n).2.2=1:=by
 refine ⟨?_,?_,rfl⟩
 ·cases lo with
  | none=>simp [JC,HT.sIx]
  | some i =>
   simp only [JC,HT.sIx,Oz,show (1:Int) > 0 by decide,if_true]
   by_cases h:i < 0
   ·simp only [h,if_true]<;>omega
   ·simp only [h,if_false]<;>omega
 ·cases hi with
  | none=>simp [JC,HT.sIx]
  | some i =>
   simp only [JC,HT.sIx,Oz,show (1:Int) > 0 by decide,if_true]
   by_cases h:i < 0
   ·simp only [h,if_true]<;>omega
   ·simp only [h,if_false]<;>omega
theorem ZcS (B:List Qb)(lo hi:Option Int):slicePick B.toArray lo hi none=((B.drop (HT.sIx B.length 0 lo)).take (HT.sIx B.length B.length hi - HT.sIx B.length 0 lo)).toArray:=by
 obtain ⟨h1,h2,G⟩:=Zeh lo hi B.toArray.size
 unfold slicePick
 rw [h1,h2,G]
 simp only [sliceRange_one,pick_run,size_toArray]<;>rfl
inductive ZhW (K:Qa)(x:V)(lo hi:Option Int)(H:Hp)(Q:VK):Prop
 | mk (a xs:_):x=.ref a->SqL K H a xs->(∀ p,H p=none->Q (.ref p) (upd H p (.lst (ZdE xs lo hi))))->ZhW K x lo hi H Q
def rSlL (K:Qa):V->Option Int->Option Int->Hp->VK->Prop:=fun x lo hi H Q=>ZhW K x lo hi H Q
theorem Zlr:SlR X (rSlL X.K):=by
 intro pins s σ H x v vl vu lo hi sl Q I W hs pl Z h
 obtain ⟨a,xs,rfl,J,q⟩:=h
 cases W
 obtain ⟨S,r,G,U⟩:=I.list J
 have B:=r.length
 refine ⟨"list",_,Od.lookup,G.isList.typeIs,?_⟩
 refine wpAny_getItem_list_slice G.isList hs pl Z .none (by simp) ?_ (by rw [size_toArray]<;>omega)
 rw [ZcS,<- B]
 refine ⟨.ref s.heap.objs.size,_,I.laid (t':=s.toks) (o:=.lst (ZdE xs lo hi)) (fun b ob q=>Qd _ q) (Qh _) ?_,rfl,q _ (I.hok.fresh (Qh _))⟩
 exact ⟨Qq (ZeC xs lo hi) U,_,0,(r.drop (HT.sIx xs.length 0 lo)).take (HT.sIx xs.length xs.length hi - HT.sIx xs.length 0 lo),Qo _ rfl⟩
def WM:V->Bool
 | .non=>true
 | .bl _=>true
 | .int _=>true
 | .str _=>true
 | _=>false
def eqV:V->V->Bool
 | .non,.non=>true
 | .bl a,.bl b=>a == b
 | .bl a,.int b=>(if a then 1 else 0) == b
 | .int a,.bl b=>a == (if b then 1 else 0)
 | .int a,.int b=>a == b
 | .str a,.str b=>a == b
 | _,_=>false
theorem ZlY (G:RelV y u)(B:RelV x v)(J:WM y=true)(I:WM x=true):SeqAt.EqAt A s u v (eqV y x):=by
 cases y with
 | non =>
  cases G
  cases x with
  | non=>cases B;exact SeqAt.EqAt.same _
  | bl b=>cases B;exact SeqAt.EqAt.none_bool b
  | int b=>obtain ⟨t,rfl⟩:=B;exact SeqAt.EqAt.none_int b t
  | str b=>obtain ⟨t,rfl⟩:=B;exact SeqAt.EqAt.none_str b t
  | _=>exact absurd (show false=true from I) Qz
 | bl a =>
  cases G
  cases x with
  | non=>cases B;exact SeqAt.EqAt.bool_none a
  | bl b=>cases B;exact SM a b
  | int b=>obtain ⟨t,rfl⟩:=B;exact SeqAt.EqAt.bool_int a b t
  | str b=>obtain ⟨t,rfl⟩:=B;exact SeqAt.EqAt.bool_str a b t
  | _=>exact absurd (show false=true from I) Qz
 | int a =>
  obtain ⟨t',rfl⟩:=G
  cases x with
  | non=>cases B;exact SeqAt.EqAt.int_none a t'
  | bl b=>cases B;exact SeqAt.EqAt.int_bool a t' b
  | int b=>obtain ⟨t,rfl⟩:=B;exact SeqAt.EqAt.int_int a t' b t
  | str b=>obtain ⟨t,rfl⟩:=B;exact Rx a t' b t
  | _=>exact absurd (show false=true from I) Qz
 | str a =>
  obtain ⟨t',rfl⟩:=G
  cases x with
  | non=>cases B;exact SeqAt.EqAt.str_none a t'
  | bl b=>cases B;exact SeqAt.EqAt.str_bool a t' b
  | int b=>obtain ⟨t,rfl⟩:=B;exact Ry a t' b t
  | str b=>obtain ⟨t,rfl⟩:=B;exact SeqAt.EqAt.str_str a t' b t
  | _=>exact absurd (show false=true from I) Qz
 | _=>exact absurd (show false=true from J) Qz
def eqU (x:V)(u:Qb):Bool:=match u with
 | .none=>eqV .non x
 | .bool b=>eqV (.bl b) x
 | .int i _=>eqV (.int i) x
 | .str z _=>eqV (.str z) x
 | _=>false
theorem Zhc (r:RelV y u)(f:WM y=true):eqU x u=eqV y x:=by
 cases y with
 | non=>cases r;rfl
 | bl b=>cases r;rfl
 | int i=>obtain ⟨t,rfl⟩:=r;rfl
 | str z=>obtain ⟨t,rfl⟩:=r;rfl
 | _=>exact absurd (show false=true from f) Qz
theorem ZbH :∀{xs:List V}{us:List Qb},Vals xs us->xs.all WM=true->us.any (eqU x)=xs.any fun y=>eqV y x
 | _,_,.nil,_=>rfl
 | y::xs,u::us,.cons r t,f=>by
  rw [JZ,QM] at f
  rw [any_cons,any_cons,Zhc r f.1,ZbH t f.2]
theorem ZaH (B:RelV x v)(G:WM x=true):∀{xs:List V}{us:List Qb},Vals xs us->xs.all WM=true->∀ u∈us,SeqAt.EqAt A s u v (eqU x u)
 | _,_,.nil,_=>fun u hu=>by cases hu
 | y::xs,u::us,.cons r t,f=>fun I hu=>by
  rw [JZ,QM] at f
  rcases mem_cons.mp hu with rfl | hu
  ·rw [Zhc r f.1];exact ZlY r B f.1 G
  ·exact ZaH B G t f.2 I hu
def inV (x:V)(xs:List V):Bool:=xs.any fun y=>eqV y x
inductive Zkg (K:Qa)(neg:Bool)(x y:V)(H:Hp)(Q:VK):Prop
 | mk (p xs:_):y=.ref p->(SqL K H p xs\/SqT K H p xs)->WM x=true->xs.all WM=true->(Q (.bl (if neg then !inV x xs else inV x xs)) H)->Zkg K neg x y H Q
def rIn (K:Qa)(neg:Bool):R2:=fun x y H Q=>Zkg K neg x y H Q
theorem ZhG:Xp X (GJ .In) (rIn X.K false):=by
 intro pins s σ H x y v u Q I J U h
 obtain ⟨p,xs,rfl,hq,S,fs,q⟩:=h
 cases U
 rcases hq with hq | hq
 ·obtain ⟨B,r,pl,W⟩:=I.list hq
  refine SeqAt.in_listAt (eqU x) pl.isList (fun w G=>ZaH J S r fs w (by simpa using G)) ⟨.bl _,H,I,rfl,?_⟩
  rw [show B.toArray.any (eqU x)=B.any (eqU x) by simp,ZbH r fs]
  exact q
 ·obtain ⟨B,r,pl,W⟩:=I.tuple hq
  refine SeqAt.in_tupleAt (eqU x) pl (fun w G=>ZaH J S r fs w (by simpa using G)) ⟨.bl _,H,I,rfl,?_⟩
  rw [show B.toArray.any (eqU x)=B.any (eqU x) by simp,ZbH r fs]
  exact q
theorem ZF:Ys X (.builtin "len") (fun xs H Q=>∃ p ys,xs=[.ref p]/\(SqL X.K H p ys\/SqT X.K H p ys)/\Q (.int ys.length) H):=by
 intro pins s σ H xs us Q I r h
 obtain ⟨p,ys,rfl,hq,q⟩:=h
 obtain ⟨u,rfl,U⟩:=Yo r
 cases U
 have W:=Ub
 rcases hq with hq | hq
 ·obtain ⟨G,J,pl,S⟩:=I.list hq
  have B:=J.length
  exact Ri pl.isList (by simp only [size_toArray]<;>omega) ⟨.int ys.length,H,I.tok _,⟨s.toks+1,by rw [size_toArray,B]⟩,q⟩
 ·obtain ⟨G,J,pl,S⟩:=I.tuple hq
  have B:=J.length
  exact len_tuple pl (by simp only [size_toArray]<;>omega) ⟨.int ys.length,H,I.tok _,⟨s.toks+1,by rw [size_toArray,B]⟩,q⟩
theorem Vu:Ys X (.type "list") (fun xs H Q=>∃ p ys,xs=[.ref p]/\(SqL X.K H p ys\/SqT X.K H p ys)/\∀ l,H l=none->Q (.ref l) (upd H l (.lst ys))):=by
 intro pins s σ H xs us Q I r h
 obtain ⟨p,ys,rfl,hq,q⟩:=h
 obtain ⟨u,rfl,rx⟩:=Yo r
 cases rx
 have W:∀ (B:List Qb),Vals ys B->ys.length<=Qj->∀ (h':Heap) (J:Nat),(∀ b o',s.heap.get? b=some o'->h'.get? b=some o') ->
     h'.get? s.heap.objs.size=some { cls:=.type "list",dict:=none,data:=.seq B.toArray J,slots:=#[] }->EP X pins σ Q (.ref s.heap.objs.size) { s with heap:=h' }:=fun B G S h' J kp e =>
   ⟨.ref s.heap.objs.size,_,I.laid (t':=s.toks) kp (Qh _) (show ObjOk X.prog X.w _ h' _ (.lst ys) from ⟨S,B,J,G,e⟩),rfl,q _ (I.hok.fresh (Qh _))⟩
 rcases hq with hq | hq
 · obtain ⟨B,G,pl,S⟩:=I.list hq
   have U:=G.length
   obtain ⟨o,ho,hc,n,Z⟩:=pl.isList
   exact call_list_seq p (.inl rfl) ho hc Z (fun h' J kp e=>W B G S h' J kp e) (by simp only [size_toArray]<;>omega)
 · obtain ⟨B,G,pl,S⟩:=I.tuple hq
   have U:=G.length
   obtain ⟨o,ho,hc,n,Z⟩:=pl
   exact call_list_seq p (.inr rfl) ho hc Z (fun h' J kp e=>W B G S h' J kp e) (by simp only [size_toArray]<;>omega)
theorem ZcR:Ys X (.type "tuple") (fun xs H Q=>∃ p ys,xs=[.ref p]/\((SqL X.K H p ys/\∀ l,H l=none->Q (.ref l) (upd H l (.tup ys)))\/(SqT X.K H p ys/\Q (.ref p) H))):=by
 intro pins s σ H xs us Q I r h
 obtain ⟨p,ys,rfl,h⟩:=h
 obtain ⟨u,rfl,Z⟩:=Yo r
 cases Z
 rcases h with ⟨G,q⟩ | ⟨G,q⟩
 ·obtain ⟨B,J,pl,S⟩:=I.list G
  have U:=J.length
  refine OX pl.isList (fun h' kp=>?_) (by simp only [size_toArray]<;>omega)
  have W:Inv X pins σ H { s with heap:=h' }:=I.kept (t':=s.toks) kp
  have I2:Inv X pins σ (upd H h'.objs.size (.tup ys)) { s with heap:=h'.push { cls:=.type "tuple",data:=.seq B.toArray } } :=
   W.laid (t':=s.toks) (fun b o e=>Qd _ e) (Qh _) (show ObjOk X.prog X.w _ _ _ (.tup ys) from ⟨S,B,J,IsTup.new _ _⟩)
  exact ⟨.ref h'.objs.size,_,I2,rfl,q _ (W.hok.fresh (Qh _))⟩
 ·obtain ⟨B,J,pl,S⟩:=I.tuple G
  exact call_tuple_same pl ⟨.ref p,H,I,rfl,q⟩
def tyV (K:Qa)(T:String)(x:V)(H:Hp):Prop:=match x with
 | .str _=>T="str"
 | .int _=>T="int"
 | .ref p=>(T="list"/\∃ xs,SqL K H p xs)\/(T="tuple"/\∃ o,K.lookup p=some o/\o.cls=.type "tuple"/\o.dict=none) \/
     (T="dict"/\((∃ kvs,H p=some (.dK kvs))\/∃ kvs,H p=some (.dT kvs)))\/(T="set"/\∃ S n,H p=some (.set S n))
 | _=>False
theorem Zis (I:Inv X pins σ H s)(r:RelV x v)(ty:tyV X.K T x H):
 s.TypeIs v T/\∀ a,v=.ref a->∃ U,s.heap.get? a=some U/\U.dict=none:=by
 cases x with
 | str z =>
  obtain ⟨t,rfl⟩:=r
  cases (show T="str" from ty)
  exact ⟨typeIs_str s z t,fun _ e=>nomatch e⟩
 | int i =>
  obtain ⟨t,rfl⟩:=r
  cases (show T="int" from ty)
  exact ⟨typeIs_int s i t,fun _ e=>nomatch e⟩
 | ref p =>
  cases r
  rcases ty with ⟨rfl,xs,hq⟩ | ⟨rfl,o,B,Z,G⟩ | ⟨rfl,B⟩ | ⟨rfl,S,n,B⟩
  ·obtain ⟨W,_,pl,_⟩:=I.list hq
   refine ⟨pl.isList.typeIs,fun a e=>?_⟩
   cases e
   obtain ⟨o,n,e,c,G,_⟩:=pl
   exact ⟨o,e,G⟩
  ·refine ⟨⟨o,I.kIn p o B,Z⟩,fun a e=>?_⟩
   cases e
   exact ⟨o,I.kIn _ o B,G⟩
  ·have z:∃ o,s.heap.get? p=some o/\o.ExactDict:=by
    rcases B with ⟨kvs,B⟩ | ⟨kvs,B⟩
    ·obtain ⟨_,_,_,_,o,_,_,e,ex,_⟩:=I.hok p _ B
     exact ⟨o,e,ex⟩
    ·obtain ⟨_,_,_,_,o,_,_,e,ex,_⟩:=I.hok p _ B
     exact ⟨o,e,ex⟩
   obtain ⟨o,e,ex⟩:=z
   refine ⟨⟨o,e,ex.1⟩,fun a J=>?_⟩
   cases J
   exact ⟨o,e,ex.2.1⟩
  ·obtain ⟨o,_,_,_,e,ex,_⟩:=I.hok p _ B
   refine ⟨⟨o,e,ex.1⟩,fun a J=>?_⟩
   cases J
   exact ⟨o,e,ex.2.1⟩
 | _=>exact QL ty
def tBM0 (K:Qa)(T:String)(r:V->List V->Hp->VK->Prop)(to:TE):TE:=fun σ H Q=>to σ H fun x H1=>tyV K T x H1/\r x [] H1 Q
def tBM (K:Qa)(T:String)(r:V->List V->Hp->VK->Prop)(to:TE)(t:TA):TE:=fun σ H Q=>to σ H fun x H1=>tyV K T x H1/\t σ H1 fun xs H2=>r x xs H2 Q
variable {o e:Expr}{es:List Expr}{to:TE}{t:TA}{name:Str}{apos cpos:Pos}{T id:String}{r:V->List V->Hp->VK->Prop}
theorem ZmI (pa:PlainAttrs T)(J:Slot T name id)(S:typeOf (.builtin id)=pure (.type "method_descriptor"))(hm:MtR X id r)(ho:PE X o to)
 (B:Jt o name X.env (eval o X.env)=eval o X.env:=by rfl) (G:(apos.endLine == cpos.line)=true:=by rfl):PE X (.Call (.Attribute o name apos) [] [] cpos) (tBM0 X.K T r to):=by
 intro pins s σ H Q I h
 refine wpAny_Call_method0_late B G (Zs (ho pins s σ H _ I h) fun v s1 Z=>?_)
 obtain ⟨x,H1,U,W,ty,q1⟩:=Z
 obtain ⟨h1,h2⟩:=Zis U W ty
 exact ⟨T,id,pa,J,S,h1,h2,JI rfl (PySem.evalArgs_none (hm pins s1 σ H1 x [] v [] Q U W .nil q1))⟩
theorem YG (pa:PlainAttrs T)(U:Slot T name id)(W:typeOf (.builtin id)=pure (.type "method_descriptor"))(hm:MtR X id r)(ho:PE X o to)(ha:PA X (e::es) t)
 (G:Jt o name X.env (eval o X.env)=eval o X.env:=by rfl)
 (S:((GU cpos (QE (e::es) X.env)).all (fun x=>!x.1)&&(Pe cpos (GX [] X.env)).all (fun x=>x.1.isSome)
  && decide ((e::es).length+([]:List Oa).length+(if ([]:List Oa).isEmpty then 0 else 1) < 30))=true:=by rfl)
 (J:(apos.endLine == cpos.line)=true:=by rfl) (hs:QE (e::es) X.env=(false,eval e X.env)::QE es X.env:=by rfl) (B:(GU cpos (QE es X.env)).any (·.1)=false:=by rfl) :
 PE X (.Call (.Attribute o name apos) (e::es) [] cpos) (tBM X.K T r to t):=by
 intro pins s σ H Q I h
 refine wpAny_Call_method_late G S J rfl (Zs (ho pins s σ H _ I h) fun v s1 zz=>?_)
 obtain ⟨x,H1,I1,Z,ty,q1⟩:=zz
 obtain ⟨h1,h2⟩:=Zis I1 Z ty
 refine ⟨T,id,pa,U,W,h1,h2,?_⟩
 have hA:=ha cpos pins s1 σ H1 _ I1 q1
 rw [hs] at hA ⊢
 refine JI (by show (false || (GU cpos (QE es X.env)).any (·.1))=false;rw [B]<;>rfl) (SN ?_)
 exact Zs hA fun us s2 ⟨vs,H2,I2,r2,q2⟩=>hm pins s2 σ H2 x vs v us Q I2 Z r2 q2
end
def MtM (X:Cx)(id:String)(r:V->List V->Hp->VK->Prop):Prop :=
 ∀ (pins:List (Addr×Obj)) (s:Qe) (σ:St) (H:Hp) (x:V) (xs:List V) (v:Qb) (us:List Qb) (Q:VK),Inv X pins σ H s->RelV x v->Vals xs us->r x xs H Q ->
  Qr (Qs X.prog X.w) X.A (call (.builtin id) (v::us)) (EP X pins σ Q) X.xe s
theorem Vals.one:∀{x:V}{us:List Qb},Vals [x] us->∃ u,us=[u]/\RelV x u
 | _,_,.cons r .nil=>⟨_,rfl,r⟩
section
variable {X:Cx}{pins:List (Addr×Obj)}{σ:St}{H:Hp}{s:Qe}{l b:Addr}{xs ys zs:List V}
theorem Inv.lset {B its':List Qb}{n:Nat}{f:Array Qb->Array Qb}{t':Nat}(I:Inv X pins σ H s)(U:H l=some (.lst xs))
 (e:s.heap.get? l=some { cls:=.type "list",data:=.seq B.toArray n }) (W:f B.toArray=its'.toArray) (G:Vals ys its') (S:ys.length<=Qj) :
 Inv X pins σ (upd H l (.lst ys)) { s with heap:=s.heap.update l (QU f),toks:=t' }:=by
 have q:=PySem.IsL.update e f
 rw [W] at q
 refine I.write (x:=l) (e:=l) (by rw [U];exact trivial) (.inl rfl) (fun Z u hb J=>(Gm s.heap (QU f) (Gv hb)).trans J) ⟨_,q⟩ ?_
 exact ⟨S,its',_,G,q⟩
theorem Inv.lnew {t':Nat}(I:Inv X pins σ H s)(G:Vals ys B)(J:ys.length<=Qj):
 Inv X pins σ (upd H s.heap.objs.size (.lst ys)) { s with heap:=s.heap.push { cls:=.type "list",data:=.seq B.toArray },toks:=t' } :=
 I.laid (fun _ _ q=>Qd _ q) (Qh _) ⟨J,B,0,G,Qo _ rfl⟩
theorem Inv.fresh (I:Inv X pins σ H s):H s.heap.objs.size=none:=I.hok.fresh (Qh _)
theorem Inv.lstM (I:Inv X pins σ H s)(G:H l=some (.lst xs)):xs.length<=Qj/\∃ (B:List Qb) (n:Nat),Vals xs B/\xs.length=B.length/\s.heap.get? l=some { cls:=.type "list",data:=.seq B.toArray n }:=by
 obtain ⟨z,B,n,r,e⟩:=I.hok l _ G
 exact ⟨z,B,n,r,r.length,e⟩
end
section
variable {X:Cx}
inductive ZcC (x:V)(vs:List V)(H:Hp)(Q:VK):Prop
 | mk (l xs y:_):x=.ref l->vs=[y]->H l=some (.lst xs)->xs.length < Qj->Q .non (upd H l (.lst (xs++[y])))->ZcC x vs H Q
def Zll :V->List V->Hp->VK->Prop:=fun x vs H Q=>ZcC x vs H Q
theorem ZZ:MtM X "list.append" Zll:=by
 intro pins s σ H x vs v us Q I S U h
 obtain ⟨l,xs,y,rfl,rfl,G,W,q⟩:=h
 cases S
 obtain ⟨u,rfl,J⟩:=U.one
 obtain ⟨z,B,n,r,Z,e⟩:=I.lstM G
 refine RF F.slot_list_append ⟨_,e,rfl⟩ F.entry_list_append (F.args_list_append_2 _ _) (PySem.list_append l B.toArray n u (by rw [size_toArray];omega)) ⟨e,?_⟩
 refine ⟨.non,_,I.lset (its':=B++[u]) G e (by simp) (r.append (.cons J .nil)) ?_,rfl,q⟩
 rw [length_append,Je]
 omega
inductive ZhR (x y:V)(H:Hp)(Q:VK):Prop
 | mk (l b xs zs:_):x=.ref l->y=.ref b->H l=some (.lst xs)->H b=some (.lst zs)->xs.length+zs.length<=Qj->(∀ p,H p=none->Q (.ref p) (upd H p (.lst (xs++zs))))->ZhR x y H Q
def rCat :R2:=fun x y H Q=>ZhR x y H Q
theorem Zbm:Xp X (JF .Add) rCat:=by
 intro pins s σ H x y v u Q I U J h
 obtain ⟨l,b,xs,zs,rfl,rfl,hH,W,hz,q⟩:=h
 cases U
 cases J
 obtain ⟨z,G,n,r,hl,e⟩:=I.lstM hH
 obtain ⟨z2,B,n2,Z,hl2,S⟩:=I.lstM W
 refine PySem.P.add_list e S ?_ (by rw [size_toArray,size_toArray];omega)
 have ea:G.toArray++B.toArray=(G++B).toArray:=by simp
 rw [ea]
 exact ⟨.ref _,_,I.lnew (t':=s.toks) (r.append Z) (by rw [length_append];omega),rfl,q _ I.fresh⟩
end
section
variable {prog:Qk}{w:Qt}{A:QA}{E:Qb->Qe->Prop}{s:Qe}
end
section
variable {X:Cx}
end
end L2
namespace Att
open PySem PySem.W PySem.Calls PyProof.Rows
theorem Zbe :∀(B:List Int)(vs:List Qb),WellAll P h vs (B.map WData.int)->Nh vs B:=by
 intro B
 induction B with
 | nil =>
  intro vs w
  rw [Oe] at w
  cases w
  exact .nil
 | cons n B ih =>
  intro vs w
  rw [map_cons] at w
  cases w with
  | cons a b =>
   cases a
   exact .cons _ _ (ih _ b)
theorem ZhZ {l:OpenLaw}{n:Nat}(hn:l.most=some n){P:Params}{h:Heap}{args:List WData}{G:List Qb}
 (I:l.row.toRowW.claim.pre args=true) (Z:WellAll P h G args) :
 ∃ a vs B,G=[Qm a]/\args=[WData.list (B.map WData.int)]/\h.get? a=some { cls:=.type "list",data:=.seq vs.toArray }/\Nh vs B/\B.length<=n:=by
 have W:WShape.hasAll [] args [.list .int]=true:=(pre_splitW I).1
 have hc:l.pre.holds [] { args:=args }=true:=(pre_splitW I).2
 obtain ⟨d,r,rfl,h1,h2⟩:=hasAllW_cons W
 obtain rfl:=hasAllW_nil h2
 obtain ⟨xs,rfl,h3⟩:=hasW_list h1
 obtain ⟨B,rfl⟩:=items_int h3
 have J:B.length<=n:=by
  unfold OpenLaw.pre at hc
  have S:(WTm.not (.lt (.lit (.int (n:Int))) (.len (.arg 0)))).holds [] { args:=[.list (B.map .int)] }=true:=by
   have S:=(holds_andW hc).1
   rw [hn] at S
   exact S
  have U:=condW_of S (w_not (w_lt w_lit (w_len_list (w_arg rfl))))
  rw [length_map] at U
  refine Nat.le_of_not_lt fun q=>?_
  have q':(n:Int) < ((B.length:Nat):Int):=by omega
  first
   | (rw [decide_eq_true q'] at U;exact absurd U (by decide))
   | (simp at U;omega)
 cases Z with
 | cons w1 w2 =>
  cases w2
  cases w1 with
  | list ho hall=>exact ⟨_,_,B,rfl,rfl,ho,Zbe B _ hall,J⟩
theorem ZhP (l:OpenLaw)(args:List WData):l.row.toRowW.claim.post args (.bool true) args=true :=
 postW_of (r:=l.row.toRowW) (X:=(true == true))
  (show WShape.has [] (.bool true) .bool=true by first | rfl | decide | simp [WShape.has,WShape.arms,WShape.armsAll])
  (show (WTm.eq .res (.lit (.bool true))).value [] { args:=args,res:=some (.bool true),after:=args }=some (.bool (true == true)) from w_eq_bool (w_res rfl) w_lit) rfl
theorem attach_call {l:OpenLaw}{n:Nat}{q:Qk}{I:List Str}{XP:(Str->Option Qb)->Heap->Prop}{YP:Qt->Heap->Prop}{d:DefRec}
 (hn:l.most=some n) (hdf:d.params.defaults=[])
 (call:∀ (w:Qt) (s₀ B:Qe) (mg mb:Str->Option Qb) (fa:Addr) (o:Obj) (pm cd J:Qb) (a:Addr) (vs:List Qb) (ns:List Int),
  Ground q I [] XP w s₀ mg mb B.heap->YP w B.heap ->
  B.heap.get? fa=some o->o.data=.func (docDef d.name d.params d.body d.scope pm cd J)->B.heap.CodeRec cd d.name->mg d.name=some (.ref fa) ->
  B.heap.get? a=some { cls:=.type "list",data:=.seq vs.toArray }->Nh vs ns->ns.length<=n->B.gens=#[] ->
  Ja (Qs l.prog w) Rc (.call (.ref fa) ⟨[.ref a],[]⟩) (fun r s'=>r=.ok (.ret (.bool true))/\OldK B.heap s'.heap/\s'.os=B.os/\Pz s'.gens) B) :
 WalkO q I XP YP l.row.toRowW d [] (fun f vs=>PySem.call f vs):=by
 intro w s₀ B mg mb G Y fa o pm cd J dV kV ho hd hcd hD hmg hg args vals as U hlay hrd hwl hlo
 obtain rfl:dV=.none:=Dflts.none hD hdf
 obtain rfl:kV=.none:=Dflts.noKw hD
 obtain ⟨a,vs,ns,rfl,rfl,Z,S,W⟩:=ZhZ hn U hwl
 refine enter_call (Gk (call w s₀ B mg mb fa o pm cd J a vs ns G Y ho (fd_plain hd) hcd hmg Z S W hg) fun r s' hq=>?_)
 obtain ⟨rfl,h2,h3,h4⟩:=hq
 exact ⟨.inl ⟨.bool true,.bool true,[],rfl,fun _=>rfl,.bool true,ZhP l _,fun _=>⟨List.Pairwise.nil,fun _ hm=>(nomatch hm)⟩⟩,h2,h3,h4⟩
section
variable {prog:Qk}{w:Qt}{A:QA}{E:Qb->Qe->Prop}{s:Qe}{K:Frag}
end
end Att
namespace L2
open PySem PySem.Spec PyProof.Rows
theorem ZcN:∀{vs:List Qb}{B:List Int},Nh vs B->Vals (B.map V.int) vs
 | _,_,.nil=>.nil
 | _,_,.cons n t h=>.cons ⟨t,rfl⟩ (ZcN h)
def ZD (s:Stmt)(j:Nat):Stmt:=match s with
 | .ClassDef _ _ _ body _ _ _ _ _ _ _=>body.getD j (.Pass ⟨0,0,0,0⟩)
 | _=>.Pass ⟨0,0,0,0⟩
def VR (s:Stmt):Arguments:=match s with
 | .FunctionDef _ a _ _ _ _ _ _ _ _=>a
 | _=>{ posonlyargs:=[],args:=[],vararg:=none,kwonlyargs:=[],kw_defaults:=[],kwarg:=none,defaults:=[] }
def Xx (s:Stmt):List Stmt:=match s with
 | .FunctionDef _ _ b _ _ _ _ _ _ _=>b
 | _=>[]
def Zj (s:Stmt):Scope:=match s with
 | .FunctionDef _ _ _ _ _ _ sc _ _ _=>sc
 | _=>{ kind:=.function,names:=[],isGenerator:=false,isCoroutine:=false }
abbrev ZI:Ui:=fun _ _ _ _ _ _=>False
abbrev E0:XK:=fun _ _ _=>False
theorem ZcW :WV ZI X E0:=fun _ _ _ _ _ _ _ h=>h.elim
structure Fun (K:Qa)(x qual:Str)(st:Stmt)(f:Addr)(fd:Qn):Prop where
 ex:∃ (oc:Qb) (od:Option Addr) (kV doc pm:Qb) (an:Option Addr) (cdv ct:Qb) (osl:Array (Option Qb)),
  fd=JG x qual (VR st) (Xx st) (Zj st) .none kV doc pm an cdv ct/\K.lookup f=some ⟨oc,od,.func fd,osl⟩/\SL K cdv qual=true
 kp:GK K (.ref f)=true
section
variable {P:Qk}{w:Qt}{K:Qa}{mg:Str->Option Qb}{base:Heap}
theorem Fun.ok {x qual:Str}{st:Stmt}{f:Addr}{fd:Qn}{N ps:List Str}{k:Nat}{sp:Sp}(F:Fun K x qual st f fd)(S:Zp N ps (Zj st)) 
 (G:∀ (B:Qb) (A:QA) (outer:List Env) (s:Qe) (H:Hp) (vs:List V) (Q:VK) (E:XK),Room k (A.deeper (JV qual (Zj st) s.heap.objs.size f B))->sp vs H Q E ->
  ∃ t,PSs (ZQ ZI P w K mg base N qual (Zj st) f B A outer s H E).nox (Xx st) t/\t { nx:=fun _ H'=>Q .non H',rt:=Q } (start N vs) H) (len:∀ vs H Q E,sp vs H Q E->vs.length=ps.length:=by intro _ _ _ _ h;first | (cases h;subst_vars;rfl) | (repeat (first | exact congrArg Th h.1 | (obtain ⟨_,h⟩:=h)))):FnOk P w K mg base ZI (k+1) f fd ps sp:=by
 obtain ⟨oc,od,kV,U,pm,an,B,ct,Z,rfl,lk,J⟩:=F.ex
 refine ZfU lk J S len fun A outer s H vs Q E W I=>?_
 obtain ⟨t,h,q⟩:=G B A outer s H vs Q E W I
 exact ⟨t,h.nox,q⟩
theorem Fun.binds {x qual:Str}{st:Stmt}{f:Addr}{fd:Qn}{ps:List Str}(F:Fun K x qual st f fd)
 (h:∀ (kV B S:Qb) (I:Option Addr) (G J:Qb) (us:List Qb),us.length=ps.length->RZ (JG x qual (VR st) (Xx st) (Zj st) .none kV B S I G J) ⟨us,[]⟩=pure (ps.zip us)):Binds K fd ps []:=by
 obtain ⟨oc,Z,kV,B,S,I,G,J,W,rfl,lk,U⟩:=F.ex
 exact .all (h kV B S I G J)
end
theorem UV {k:Nat}(B:Room k A):A.units+1 < cLine:=QN (Nat.add_le_add_left (by decide:1<=64) _) B.units
theorem Zid {n:Nat}(h:n<=1000):n < sizeLine:=QN h (by decide)
section
variable {X:Cx}
theorem pv (i:Nat)(I:X.N[i]?=some x:=by rfl)(G:Vis X.env.scope x:=by first | exact QJ rfl | exact SO (QJ rfl) | exact SO (SO rfl))(J:(x == ("__debug__":Str))=false:=by decide)(B:(x == ("__classdict__":Str))=false:=by decide):PE X (.Name x pos) (Zeq i):=ZhM I G J B
end
theorem Ya {A B:Prop}(h:B):if false=true then A else B:=by
 rw [if_neg Qz]
 exact h
theorem Yw {A B:Prop}(h:A):if true=true then A else B:=by
 rw [if_pos rfl]
 exact h
theorem UW {c A B:Prop}[Decidable c](h1:c->A)(h2:¬ c->B):if c then A else B:=by
 by_cases h:c
 ·rw [if_pos h]
  exact h1 h
 ·rw [if_neg h]
  exact h2 h
def Same (H H':Hp):Prop:=∀ b o,H b=some o->H' b=some o
theorem Same.refl (H:Hp):Same H H:=fun _ _ h=>h
theorem Same.trans (a:Same H H1)(b:Same H1 H2):Same H H2:=fun c o h=>b c o (a c o h)
section
variable {κ:Type}[DecidableEq κ]
def ZH (kvs:List (κ×V))(k:κ):Option V:=(kvs.find? fun kv=>decide (kv.1=k)).map (·.2)
def Yz (kvs:List (κ×V))(k:κ)(v:V):List (κ×V) :=
 if (kvs.any fun kv=>decide (kv.1=k))=true then kvs.map (fun kv=>if kv.1=k then (kv.1,v) else kv) else kvs++[(k,v)]
theorem YC {p:κ×V}{r:List (κ×V)}{k:κ}(e:p.1=k):ZH (p::r) k=some p.2:=by simp [ZH,find?_cons,e]
theorem YB {p:κ×V}{r:List (κ×V)}{k:κ}(e:¬ p.1=k):ZH (p::r) k=ZH r k:=by simp [ZH,find?_cons,e]
theorem Vk (k:κ):∀ kvs:List (κ×V),(kvs.any fun B=>decide (B.1=k))=(ZH kvs k).isSome
 | []=>rfl
 | p::r=>by
  rw [any_cons]
  by_cases e:p.1=k
  ·simp only [YC e,decide_eq_true e,Bool.true_or,Option.isSome_some]
  ·rw [YB e,decide_eq_false e,Bool.false_or];exact Vk k r
theorem Zew (k j:κ)(y:V):∀ kvs:List (κ×V),ZH (kvs.map fun B=>if B.1=k then (B.1,y) else B) j=(ZH kvs j).map fun x=>if j=k then y else x
 | []=>rfl
 | p :: r=>by
  have G:=Zew k j y r
  rw [map_cons]
  by_cases h:p.1=k
  ·rw [if_pos h]
   by_cases e:p.1=j
   ·rw [YC (p:=(p.1,y)) e,YC e,GA,if_pos (e.symm.trans h)]
   ·rw [YB (p:=(p.1,y)) e,YB e,G]
  ·rw [if_neg h]
   by_cases e:p.1=j
   ·rw [YC (p:=p) e,YC e,GA,if_neg (fun z=>h (e.trans z))]
   ·rw [YB (p:=p) e,YB e,G]
theorem ZcM (k j:κ)(y:V):∀ kvs:List (κ×V),ZH kvs k=none->ZH (kvs++[(k,y)]) j=if j=k then some y else ZH kvs j
 | [],_=>by
  by_cases e:k=j
  ·rw [if_pos e.symm];exact YC (p:=(k,y)) e
  ·rw [if_neg (fun z=>e z.symm)];exact YB (p:=(k,y)) e
 | p::r,hn=>by
  rw [OA]
  have B:¬ p.1=k:=fun z=>by rw [YC z] at hn;cases hn
  rw [YB B] at hn
  have G:=ZcM k j y r hn
  by_cases e:p.1=j
  ·rw [YC e,YC e,if_neg (fun z=>B (e.trans z))]
  ·rw [YB e,YB e,G]
theorem Ug (kvs:List (κ×V))(k j:κ)(y:V):ZH (Yz kvs k y) j=if j=k then some y else ZH kvs j:=by
 unfold Yz
 by_cases a:(kvs.any fun G=>decide (G.1=k))=true
 ·rw [if_pos a,Zew]
  rw [Vk] at a
  by_cases e:j=k
  ·obtain ⟨x,B⟩:=Tn.mp a
   rw [if_pos e,e,B,GA,if_pos rfl]
  ·rw [if_neg e]
   cases ZH kvs j with
   | none=>rfl
   | some x=>rw [GA,if_neg e]
 ·rw [if_neg a]
  refine ZcM k j y kvs ?_
  rw [Vk] at a
  cases q:ZH kvs k with
  | none=>rfl
  | some x=>rw [q] at a;exact (a rfl).elim
theorem XI (kvs:List (κ×V))(k:κ)(v:V):(Yz kvs k v).length<=kvs.length+1:=by
 unfold Yz
 split
 ·rw [length_map];omega
 ·rw [length_append,length_cons,Pk];omega
theorem RelO.isSome_eq (r:RelO o u):o.isSome=u.isSome:=by
 cases o with
 | none=>cases u with
  | none=>rfl
  | some _=>exact (show False from r).elim
 | some _=>cases u with
  | none=>exact (show False from r).elim
  | some _=>rfl
theorem RelO.getD (r:RelO o u)(B:RelV d d'):RelV (o.getD d) (u.getD d'):=by
 cases o with
 | none=>cases u with
  | none=>exact B
  | some _=>exact (show False from r).elim
 | some _=>cases u with
  | none=>exact (show False from r).elim
  | some _=>exact r
theorem KV.val (r:KV kvs vs)(k:κ):RelO (ZH kvs k) (Of vs k):=by
 unfold KV at r
 induction r with
 | nil=>exact Gr
 | @cons p q ps qs h t ih =>
  obtain ⟨h1,h2⟩:=h
  by_cases e:p.1=k
  ·have B:q.1=k:=h1.symm.trans e
   have b:Of (q::qs) k=some q.2:=by simp [Of,find?_cons,B]
   rw [YC e,b];exact h2
  ·have B:¬ q.1=k:=fun z=>e (h1.trans z)
   have b:Of (q::qs) k=Of qs k:=by simp [Of,find?_cons,B]
   rw [YB e,b];exact ih
theorem KV.any (r:KV kvs vs)(k:κ):(kvs.any fun B=>decide (B.1=k))=vs.any fun B=>decide (B.1=k):=by
 unfold KV at r
 induction r with
 | nil=>rfl
 | cons h t ih=>rw [any_cons,any_cons,ih,h.1]
theorem KV.repl (r:KV kvs vs)(k:κ)(G:RelV y u):
 KV (kvs.map fun B=>if B.1=k then (B.1,y) else B) (vs.map fun B=>if B.1=k then (B.1,u) else B):=by
 unfold KV at r ⊢
 induction r with
 | nil=>exact .nil
 | @cons p q ps qs h t ih =>
  rw [map_cons,map_cons]
  refine .cons ?_ ih
  obtain ⟨h1,h2⟩:=h
  by_cases e:p.1=k
  ·rw [if_pos e,if_pos (h1.symm.trans e)];exact ⟨h1,G⟩
  ·rw [if_neg e,if_neg (fun z=>e (h1.trans z))];exact ⟨h1,h2⟩
theorem KV.put (r:KV kvs vs)(k:κ)(B:RelV y u):KV (Yz kvs k y) (stored vs k u):=by
 unfold Yz stored
 rw [r.any k]
 by_cases e:(vs.any fun G=>decide (G.1=k))=true
 ·rw [if_pos e,if_pos e];exact r.repl k B
 ·rw [if_neg e,if_neg e];exact Paired.snoc r ⟨rfl,B⟩
theorem KV.length (r:KV kvs vs):kvs.length=vs.length:=JY r
end
theorem VY (r:RelV (kV k) u):(ZM P w).is k u=true:=by
 cases k with
 | inl i=>obtain ⟨t,e⟩:=(show ∃ t,u=Rb i t from r);subst e;exact ZeD P w i t
 | inr x=>obtain ⟨t,e⟩:=(show ∃ t,u=PJ x t from r);subst e;exact Zas P w x t
theorem Zcw :∀{ks:List Zo}{us:List Qb},Vals (ks.map kV) us->ItemsAre (ZM P w) ks us
 | [],_,r=>by rw [Oe] at r;cases r;exact .nil
 | k::ks,_,r=>by
  rw [map_cons] at r
  cases r with
  | cons h t=>exact .cons (VY h) (Zcw t)
abbrev KT (H:Hp):List (List Zo×V)->List (List Zo×Addr×Qb)->Prop:=Tl fun p q=>p.1=q.1/\H q.2.1=some (.tup (p.1.map kV))/\RelV p.2 q.2.2
theorem KT.val (r:KT H kvs xs)(k:List Zo):RelO (ZH kvs k) ((atKey xs k).map (·.2)):=by
 induction r with
 | nil=>exact Gr
 | @cons p q ps qs h t ih =>
  obtain ⟨h1,_,h2⟩:=h
  by_cases e:p.1=k
  ·have B:q.1=k:=h1.symm.trans e
   have b:atKey (q::qs) k=some q.2:=by simp [atKey,find?_cons,B]
   rw [YC e,b];exact h2
  ·have B:¬ q.1=k:=fun z=>e (h1.trans z)
   have b:atKey (q::qs) k=atKey qs k:=by simp [atKey,find?_cons,B]
   rw [YB e,b];exact ih
theorem KT.repl (r:KT H kvs xs)(k:List Zo)(I:RelV y u):
 KT H (kvs.map fun B=>if B.1=k then (B.1,y) else B) (xs.map (putAt k u)):=by
 induction r with
 | nil=>exact .nil
 | @cons p q ps qs h t ih =>
  rw [map_cons,map_cons]
  refine .cons ?_ ih
  obtain ⟨h1,h2,G⟩:=h
  unfold putAt
  by_cases e:p.1=k
  ·rw [if_pos e,if_pos (h1.symm.trans e)];exact ⟨h1,h2,I⟩
  ·rw [if_neg e,if_neg (fun z=>e (h1.trans z))];exact ⟨h1,h2,G⟩
theorem KT.put (r:KT H kvs xs)(k:List Zo)(hb:H b=some (.tup (k.map kV)))(B:RelV y u):
 KT H (Yz kvs k y) (storedH xs k b u):=by
 have e:(kvs.any fun G=>decide (G.1=k))=(atKey xs k).isSome:=by
  rw [Vk,(r.val k).isSome_eq,Ti]
 unfold Yz storedH
 rw [e]
 by_cases q:(atKey xs k).isSome=true
 ·rw [if_pos q,if_pos q];exact r.repl k B
 ·rw [if_neg q,if_neg q];exact Paired.snoc r ⟨rfl,hb,B⟩
theorem KT.keeps (r:KT H kvs xs)(B:∀ b ys,H b=some (.tup ys)->H' b=some (.tup ys)):KT H' kvs xs :=
 Tl.mapP r fun _ _ z=>⟨z.1,B _ _ z.2.1,z.2.2⟩
section
variable {P:Qk}{w:Qt}{H:Hp}{h:Heap}{a:Addr}
theorem Zkh (ok:HOk P w H h)(e:Rd H a u):ObjOk P w H h a u:=e.ok ok
theorem ZaX (ok:HOk P w H h)(e:Rd H a (.dK kvs)):kvs.length<=Qj/\(a == GR)=false/\∃ vs,KV kvs vs/\h.DictOf (ZM P w) a vs :=
 show ObjOk P w H h a (.dK kvs) from Zkh ok e
theorem ZcT (ok:HOk P w H h)(e:H a=some (.dK kvs)):kvs.length<=Qj/\(a == GR)=false/\∃ vs,KV kvs vs/\h.DictOf (ZM P w) a vs:=ZaX ok (.inl e)
theorem Vy (ok:HOk P w H h)(e:H a=some (.tup (ks.map kV))):(Tr (ZM P w)).is h ks a:=by
 obtain ⟨_,B,r,o,h1,h2,n,G⟩:=(show ObjOk P w H h a (.tup (ks.map kV)) from ok a _ e)
 exact ⟨o,B.toArray,n,h1,h2,G,by simpa using Zcw r⟩
theorem ZaZ (ok:HOk P w H h)(e:Rd H a (.dT kvs)):kvs.length<=Qj/\(a == GR)=false /\
 ∃ xs,KT H kvs xs/\h.DictOfH (Tr (ZM P w)) a xs:=by
 obtain ⟨z,y,xs,r,o,es,ep,h1,h2,B,G,I⟩:=(show ObjOk P w H h a (.dT kvs) from Zkh ok e)
 refine ⟨z,y,xs,r,o,es,ep,h1,h2,B,G,fun x hx=>?_,I⟩
 have all:∀ {l:List (List Zo×V)} {m:List (List Zo×Addr×Qb)},KT H l m->∀ x∈m,(Tr (ZM P w)).is h x.1 x.2.1:=by
  intro l m q
  induction q with
  | nil=>intro x hx;exact nomatch hx
  | @cons p q ps qs hq t ih =>
   intro x hx
   rcases mem_cons.mp hx with e | hx
   ·subst e
    exact Vy ok (by rw [<- hq.1];exact hq.2.1)
   ·exact ih x hx
 exact all r x hx
theorem ZnG (ok:HOk P w H h)(e:H a=some (.dT kvs)):kvs.length<=Qj/\(a == GR)=false /\
 ∃ xs,KT H kvs xs/\h.DictOfH (Tr (ZM P w)) a xs:=ZaZ ok (.inl e)
end
def DGet (H:Hp)(a:Addr)(y:V)(r:Option V):Prop :=
 (∃ kvs k,Rd H a (.dK kvs)/\y=kV k/\r=ZH kvs k)\/∃ kvs k b,Rd H a (.dT kvs)/\y=.ref b/\H b=some (.tup (k.map kV))/\r=ZH kvs k
def DPut (H:Hp)(a:Addr)(y v:V)(H':Hp):Prop :=
 (∃ kvs k,H a=some (.dK kvs)/\y=kV k/\kvs.length < Qj/\H'=upd H a (.dK (Yz kvs k v))) \/
 ∃ kvs k b,H a=some (.dT kvs)/\y=.ref b/\H b=some (.tup (k.map kV))/\kvs.length < Qj/\H'=upd H a (.dT (Yz kvs k v))
theorem DGet.k {H:Hp}{a:Addr}{kvs:List (Zo×V)}{k:Zo}(e:H a=some (.dK kvs)):DGet H a (kV k) (ZH kvs k):=.inl ⟨kvs,k,.inl e,rfl,rfl⟩
theorem DPut.k {H:Hp}{a:Addr}{kvs:List (Zo×V)}{k:Zo}{v:V}(e:H a=some (.dK kvs))(B:kvs.length < Qj):DPut H a (kV k) v (upd H a (.dK (Yz kvs k v))):=.inl ⟨kvs,k,e,rfl,B,rfl⟩
section
variable {X:Cx}{pins:List (Addr×Obj)}{σ:St}{H:Hp}{s:Qe}{a:Addr}{y v:V}{u r:Qb}{o:Option V}{A:QA}{E:Qb->Qe->Prop}
theorem Inv.big (I:Inv X pins σ H s):GR < s.heap.objs.size:=by
 have h:Ql < s.heap.objs.size:=(I.mod.glob.keeps I.bk).lt
 exact Nat.lt_trans (by decide) h
theorem d_in (U:A.units+1 < RW)(I:Inv X pins σ H s)(g:DGet H a y o)(S:RelV y u)(h:∀ s',Inv X pins σ H s'->Q (.bool o.isSome) s'):
 Qr (Qs X.prog X.w) A (GJ .In u (.ref a)) Q E s:=by
 rcases g with ⟨kvs,k,e,J,l⟩ | ⟨kvs,k,b,e,J,W,l⟩
 ·subst J
  obtain ⟨z,G,vs,B,dd⟩:=ZaX I.hok e
  refine wpAny_in_of (VY S) G dd.mapOf ?_
  rw [<- (B.val k).isSome_eq,<- l]
  exact h _ (I.tok _)
 ·subst J
  cases (show u=Qm b from S)
  obtain ⟨z,G,xs,B,dd⟩:=ZaZ I.hok e
  refine wpAny_in_heap (Jz U) (Vy I.hok W) G dd ?_
  have q:=(B.val k).isSome_eq
  rw [Ti] at q
  rw [<- q,<- l]
  exact h _ (I.tok _)
theorem Zkw (U:A.units+1 < RW)(I:Inv X pins σ H s)(g:DGet H a y o)(S:RelV y u)(h:∀ s',Inv X pins σ H s'->Q (.bool (!o.isSome)) s'):
 Qr (Qs X.prog X.w) A (GJ .NotIn u (.ref a)) Q E s:=by
 rcases g with ⟨kvs,k,e,J,l⟩ | ⟨kvs,k,b,e,J,W,l⟩
 ·subst J
  obtain ⟨z,G,vs,B,dd⟩:=ZaX I.hok e
  refine wpAny_notIn_of (VY S) G dd.mapOf ?_
  rw [<- (B.val k).isSome_eq,<- l]
  exact h _ (I.tok _)
 ·subst J
  cases (show u=Qm b from S)
  obtain ⟨z,G,xs,B,dd⟩:=ZaZ I.hok e
  refine wpAny_notIn_heap (Jz U) (Vy I.hok W) G dd ?_
  have q:=(B.val k).isSome_eq
  rw [Ti] at q
  rw [<- q,<- l]
  exact h _ (I.tok _)
theorem ZbM {t':Nat}(I:Inv X pins σ H s)(G:Mut (H a))(J:TX a s.heap h')(S:∃ q,h'.get? a=some q)(new:ObjOk X.prog X.w (upd H a B) h' a B):
 Inv X pins σ (upd H a B) { s with heap:=h',toks:=t' } :=
 I.write (x:=a) (e:=a) G (.inl rfl) (fun b q hb z=>(J.2 b hb).trans z) S new
theorem Zhb (z:kvs.length<=Qj)(G:(a == GR)=false)(B:KV kvs vs)(dd:h'.DictOf (ZM P w) a vs):
 ObjOk P w H' h' a (.dK kvs):=⟨z,G,vs,B,dd⟩
theorem ZgZ (hu:A.units+1 < RW)(I:Inv X pins σ H s)(g:DPut H a y v H')(ry:RelV y u)(rv:RelV v r)(h:∀ s',Inv X pins σ H' s'->Q () s'):
 Qr (Qs X.prog X.w) A (setItem (.ref a) u r) Q E s:=by
 rcases g with ⟨kvs,k,e,ey,l,eH⟩ | ⟨kvs,k,b,e,ey,eb,l,eH⟩
 ·subst ey eH
  obtain ⟨z,S,vs,B,dd⟩:=ZcT I.hok e
  have W:vs.length<=sizeLine:=by rw [<- B.length];exact z
  have U:(Yz kvs k v).length<=sizeLine:=by have:=XI kvs k v;omega
  refine wpAny_setItem_pairs (hsz:=W) (VY ry) dd fun h' G Z=>h _ ?_
  have he:∃ q,h'.get? a=some q:=let ⟨q,_,_,J,_⟩:=G;⟨q,J⟩
  exact ZbM I (by rw [e];exact Gr) Z he (Zhb U S (B.put k rv) G)
 ·subst ey eH
  cases (show u=Qm b from ry)
  obtain ⟨z,S,xs,B,dd⟩:=ZnG I.hok e
  have W:xs.length<=sizeLine:=by rw [<- JY B];exact z
  have U:(Yz kvs k v).length<=sizeLine:=by have:=XI kvs k v;omega
  refine wpAny_setItem_heap (hsz:=W) (Jz hu) (Vy I.hok eb) dd fun h' G Z=>h _ ?_
  obtain ⟨q,es,ep,J,h2,h3,h4,_,h5⟩:=G
  refine ZbM I (by rw [e];exact Gr) Z ⟨q,J⟩ ⟨U,S,_,(B.put k eb rv).keeps fun c ys ec=>?_,q,es,ep,J,h2,h3,h4,h5⟩
  rw [Zh (Zbj ec e (fun z=>nomatch z))]
  exact ec
end
section
variable {X:Cx}{pins:List (Addr×Obj)}{σ:St}{H:Hp}{s:Qe}{a:Addr}{kvs:List (Zo×V)}{k:Zo}{u:Qb}{A:QA}{E:Qb->Qe->Prop}
end
inductive Zij (Q:VK)(y x:V)(H2:Hp):Prop
 | mk (a o:_):x=.ref a->DGet H2 a y o->Q (.bl o.isSome) H2->Zij Q y x H2
def tDIn (ty td:TE):TE:=fun σ H Q=>ty σ H fun y H1=>td σ H1 fun x H2=>Zij Q y x H2
inductive ZcI (Q:VK)(y x:V)(H2:Hp):Prop
 | mk (a o:_):x=.ref a->DGet H2 a y o->Q (.bl (!o.isSome)) H2->ZcI Q y x H2
def Zlw (ty td:TE):TE:=fun σ H Q=>ty σ H fun y H1=>td σ H1 fun x H2=>ZcI Q y x H2
inductive Zfq (D:Yj)(σ:St)(v x y:V)(H3:Hp):Prop
 | mk (a H4:_):x=.ref a->DPut H3 a y v H4->D.nx σ H4->Zfq D σ v x y H3
def ZnX (td ty tv:TE):TS:=fun D σ H=>tv σ H fun v H1=>td σ H1 fun x H2=>ty σ H2 fun y H3=>Zfq D σ v x y H3
section
variable {X:Cx}{o i e value:Expr}{pos pos' tpos:Pos}{td ty tv:TE}
theorem ZmG (G:X.A.units+1 < RW)(hi:PE X i ty)(ho:PE X o td):PC X .In i o (tDIn ty td):=by
 intro pins s σ H Q I h
 refine Zs (hi pins s σ H _ I h) fun iv s1 B=>?_
 obtain ⟨y,H1,I1,S,Z⟩:=B
 refine Zs (ho pins s1 σ H1 _ I1 Z) fun u s2 B=>?_
 obtain ⟨x,H2,I2,W,a,ov,ex,g,U⟩:=B
 subst ex
 obtain rfl:u=Qm a:=W
 exact d_in G I2 g S fun s3 J=>⟨.bl ov.isSome,H2,J,rfl,U⟩
theorem ZcB (G:X.A.units+1 < RW)(hi:PE X i ty)(ho:PE X o td):PC X .NotIn i o (Zlw ty td):=by
 intro pins s σ H Q I h
 refine Zs (hi pins s σ H _ I h) fun iv s1 B=>?_
 obtain ⟨y,H1,I1,S,Z⟩:=B
 refine Zs (ho pins s1 σ H1 _ I1 Z) fun u s2 B=>?_
 obtain ⟨x,H2,I2,W,a,ov,ex,g,U⟩:=B
 subst ex
 obtain rfl:u=Qm a:=W
 exact Zkw G I2 g S fun s3 J=>⟨.bl (!ov.isSome),H2,J,rfl,U⟩
theorem ZbV (J:X.A.units+1 < RW)(ho:PE X o td)(hi:PE X i ty)(G:PE X value tv)(Z:PL value (some (.Subscript o i pos')) pos.line X.env=pure false) :
 PS X (.Assign [.Subscript o i pos'] value pos) (ZnX td ty tv):=by
 intro pins s σ H D I h
 refine wpAny_Assign_Subscript (Zs (G pins s σ H _ I h) fun r s1 B=>?_) Z
 obtain ⟨v,H1,I1,rv,q1⟩:=B
 refine Zs (ho pins s1 σ H1 _ I1 q1) fun u s2 B=>?_
 obtain ⟨x,H2,I2,rx,W⟩:=B
 refine Zs (hi pins s2 σ H2 _ I2 W) fun iv s3 B=>?_
 obtain ⟨y,H3,S,ry,a,H4,ex,g,U⟩:=B
 subst ex
 obtain rfl:u=Qm a:=rx
 exact ZgZ J S g ry rv fun s4 I4=>⟨σ,H4,I4,U⟩
end
theorem ZdH (h:Heap)(hb:GR < h.objs.size):ObjOk P w H (h.push { cls:=.type "dict",data:=.dict #[] }) h.objs.size (.dK []) :=
 ⟨QH _,beq_eq_false_iff_ne.mpr (Gv (Qu hb)),[],.nil,OY h⟩
def Znf:TE:=fun _ H Q=>∀ p,H p=none->Q (.ref p) (upd H p (.dK []))
section
variable {X:Cx}{pos:Pos}
theorem Zjq:PE X (.Dict [] [] pos) Znf:=fun pins s σ H Q I h =>
 wpAny_Dict_empty ⟨.ref s.heap.objs.size,_,I.laid (a:=s.heap.objs.size) (o:=.dK []) (t':=s.toks) (fun _ _ q=>Qd _ q) (Qh _) (ZdH s.heap I.big),rfl,h _ (I.hok.fresh (Qh _))⟩
end
def Zeo:List (TE×TE)->St->Hp->(List (V×V)->Hp->Prop)->Prop
 | [],_,H,Q=>Q [] H
 | (tk,tv)::r,σ,H,Q=>tk σ H fun x H1=>tv σ H1 fun y H2=>Zeo r σ H2 fun ps H3=>Q ((x,y)::ps) H3
abbrev VV:List (V×V)->List (Qb×Qb)->Prop:=Tl fun p q=>RelV p.1 q.1/\RelV p.2 q.2
def PPs (X:Cx)(pos:Pos)(keys:List (Option Expr))(values:List Expr)(trs:List (TE×TE)):Prop :=
 ∀ (pins:List (Addr×Obj)) (s:Qe) (σ:St) (H:Hp) (Q:List (V×V)->Hp->Prop),Inv X pins σ H s->Zeo trs σ H Q ->
  Qr (Qs X.prog X.w) X.A (evalPairs (pairTrees keys values X.env pos)) (fun vs s'=>∃ ps H',Inv X pins σ H' s'/\VV ps vs/\Q ps H') X.xe s
theorem Zlg :PPs X pos [] [] []:=fun pins s σ H Q I h=>pairTrees_nil_walk ⟨[],H,I,.nil,h⟩
theorem Zjy (hk:PE X k tk)(J:PE X v tv)(W:PPs X pos ks vs B):
 PPs X pos (some k::ks) (v::vs) ((tk,tv)::B):=fun pins s σ H Q I h =>
 pairTrees_cons_walk (Zs (hk pins s σ H _ I h) fun u s1 ⟨x,H1,I1,rx,q1⟩=>Zs (J pins s1 σ H1 _ I1 q1) fun w2 s2 ⟨y,H2,I2,Z,q2⟩ =>
  Zs (W pins s2 σ H2 _ I2 q2) fun ws s3 ⟨ps,H3,U,G,S⟩=>⟨(x,y)::ps,H3,U,.cons ⟨rx,Z⟩ G,S⟩)
def VC (kvs more:List (Zo×V)):List (Zo×V):=more.foldl (fun acc kv=>Yz acc kv.1 kv.2) kvs
theorem KV.merge:∀{more:List (Zo×V)}{B:List (Zo×Qb)}{kvs:List (Zo×V)}{vs:List (Zo×Qb)},KV more B->KV kvs vs->KV (VC kvs more) (merged vs B):=by
 intro more B kvs vs r
 unfold KV at r
 induction r generalizing kvs vs with
 | nil=>intro q;exact q
 | @cons p q ps qs h t ih =>
  intro G
  have e:KV (Yz kvs p.1 p.2) (stored vs q.1 q.2):=by
   have:=G.put p.1 h.2
   rw [<- h.1];exact this
  exact ih e
theorem Vn:∀(more kvs:List (Zo×V)),(VC kvs more).length<=kvs.length+more.length
 | [],kvs=>by show kvs.length<=kvs.length+0;omega
 | p::r,kvs=>by
  have h1:=Vn r (Yz kvs p.1 p.2)
  have h2:=XI kvs p.1 p.2
  show (VC (Yz kvs p.1 p.2) r).length<=_
  rw [length_cons];omega
theorem ZaV {P:Qk}:∀{kvs:List (Zo×V)}{G:List (Qb×Qb)},VV (kvs.map fun I=>(kV I.1,I.2)) G->∃ B,Carries (ZM P w) G B/\KV kvs B
 | [],_,r=>by rw [Oe] at r;cases r;exact ⟨[],Gr,.nil⟩
 | p :: kvs,_,r=>by
  rw [map_cons] at r
  cases r with
  | @cons a b as bs h t =>
   obtain ⟨B,c,q⟩:=ZaV (P:=P) (w:=w) t
   obtain ⟨b1,b2⟩:=b
   exact ⟨(p.1,b2)::B,⟨VY h.1,rfl,c⟩,.cons ⟨rfl,h.2⟩ q⟩
def Zoy (trs:List (TE×TE)):TE:=fun σ H Q=>∀ p,H p=none->Zeo trs σ (upd H p (.dK [])) fun ps H2=>H2 p=some (.dK [])/\∃ kvs:List (Zo×V),ps=kvs.map (fun kv=>(kV kv.1,kv.2))/\kvs.length<=15/\Q (.ref p) (upd H2 p (.dK (VC [] kvs)))
theorem Zlb (h:PPs X pos keys B G)(J:keys.all (·.isSome)=true)(hl:keys.length=B.length)(h0:keys≠[])(U:keys.length<=15):PE X (.Dict keys B pos) (Zoy G):=by
 intro pins s σ H Q I q
 have hn:=I.hok.fresh (Qh s.heap.objs.size)
 have I1:=I.laid (a:=s.heap.objs.size) (o:=.dK []) (h':=s.heap.push { cls:=.type "dict",data:=.dict #[] }) (t':=s.toks) (fun _ _ q=>Qd _ q) (Qh _) (ZdH s.heap I.big)
 refine wpAny_Dict_walk (knd:=ZM X.prog X.w) J hl h0 U (Zs (h pins _ σ _ _ I1 (q _ hn)) fun ws s2 zz=>?_)
 obtain ⟨ps,H2,Z,W,e,kvs,ep,lk,q2⟩:=zz
 subst ep
 obtain ⟨rs,c,rk⟩:=ZaV (P:=X.prog) (w:=X.w) W
 obtain ⟨z,hd,vs0,r0,dd⟩:=ZcT Z.hok e
 cases r0
 refine ⟨rs,c,dd,fun h' S hs=>⟨.ref s.heap.objs.size,_,?_,rfl,q2⟩⟩
 have hz:(VC [] kvs).length<=sizeLine:=by
  have h1:=Vn kvs []
  rw [Pk] at h1
  rw [QR];omega
 have he:∃ q,h'.get? s.heap.objs.size=some q:=let ⟨q,_,_,hq,_⟩:=S;⟨q,hq⟩
 exact ZbM Z (by rw [e];exact Gr) hs he (Zhb hz hd (rk.merge .nil) S)
structure M1 (X:Cx)(o:Expr)(m:Str)(apos:Pos)(e:Expr)(cpos:Pos):Prop where
 base:Jt o m X.env (eval o X.env)=eval o X.env
 few:((GU cpos (QE [e] X.env)).all (fun x=>!x.1)&&(Pe cpos (GX [] X.env)).all (fun x=>x.1.isSome)
  && decide (([e]:List Expr).length+([]:List Oa).length+(if ([]:List Oa).isEmpty then 0 else 1) < 30))=true
 line:(apos.endLine == cpos.line)=true
 trees:GU cpos (QE [e] X.env)=[(false,eval e X.env)]
def IsD (H:Hp)(a:Addr):Prop:=(∃ kvs,Rd H a (.dK kvs))\/∃ kvs,Rd H a (.dT kvs)
theorem Zmf (I:Inv X pins σ H s)(d:IsD H a):
 s.TypeIs (.ref a) "dict"/\(∀ b,Qm a=.ref b->∃ B,s.heap.get? b=some B/\B.dict=none)/\(a == GR)=false:=by
 rcases d with ⟨kvs,e⟩ | ⟨kvs,e⟩
 ·obtain ⟨_,G,vs,_,dd⟩:=ZaX I.hok e
  refine ⟨dd.typeIs,fun b q=>?_,G⟩
  cases q
  obtain ⟨B,_,_,h1,h2,_⟩:=dd
  exact ⟨B,h1,h2.2.1⟩
 ·obtain ⟨_,G,xs,_,dd⟩:=ZaZ I.hok e
  refine ⟨dd.typeIs,fun b q=>?_,G⟩
  cases q
  obtain ⟨B,_,_,h1,h2,_⟩:=dd
  exact ⟨B,h1,h2.2.1⟩
section
variable {X:Cx}{pins:List (Addr×Obj)}{σ:St}{H:Hp}{s:Qe}{a:Addr}{y d:V}{u r:Qb}{o:Option V}{A:QA}{E:Qb->Qe->Prop}
theorem ZlX (W:A.units+1 < RW)(I:Inv X pins σ H s)(g:DGet H a y o)(S:RelV y u)(h:∀ U s',Inv X pins σ H s'->RelV (o.getD .non) U->Q U s'):
 Qr (Qs X.prog X.w) A (call (.builtin "dict.get") [.ref a,u]) Q E s:=by
 rcases g with ⟨kvs,k,e,J,l⟩ | ⟨kvs,k,b,e,J,Z,l⟩
 ·subst J
  obtain ⟨z,G,vs,B,dd⟩:=ZaX I.hok e
  refine Og JS dd.typeIs Se (Tw _ _) (meets_dict_get (ZM X.prog X.w) a (VY S) G) ⟨_,dd.mapOf,h _ _ (I.tok _) ?_⟩
  rw [l]
  exact (B.val k).getD rfl
 ·subst J
  cases (show u=Qm b from S)
  obtain ⟨z,G,xs,B,dd⟩:=ZaZ I.hok e
  refine Og JS dd.typeIs Se (Tw _ _) (meetsH_dict_get (Tr (ZM X.prog X.w)) a b G) ⟨Jz W,k,xs,Vy I.hok Z,dd,h _ _ (I.tok _) ?_⟩
  rw [l]
  exact (B.val k).getD rfl
end
inductive Zem (ty:TE)(σ:St)(Q:VK)(x:V)(H1:Hp):Prop
 | mk (a:_):x=.ref a->IsD H1 a->(ty σ H1 fun y H2=>∃ o,DGet H2 a y o/\Q (o.getD .non) H2)->Zem ty σ Q x H1
def Zne (td ty:TE):TE:=fun σ H Q=>td σ H fun x H1=>Zem ty σ Q x H1
section
variable {X:Cx}{o e f:Expr}{apos cpos:Pos}{td ty tx:TE}
theorem Zjp (S:X.A.units+1 < RW)(ho:PE X o td)(W:PE X e ty)(m:M1 X o "get" apos e cpos):PE X (.Call (.Attribute o "get" apos) [e] [] cpos) (Zne td ty):=by
 intro pins s σ H Q I h
 refine wpAny_Call_method m.base m.few m.line Tx JS PySem.F.type_dict_get (Zs (ho pins s σ H _ I h) fun u s1 G=>?_)
 obtain ⟨x,H1,J,rx,a,ex,d,q1⟩:=G
 subst ex
 obtain rfl:u=Qm a:=rx
 obtain ⟨t1,t2,_⟩:=Zmf J d
 refine ⟨t1,t2,?_⟩
 rw [m.trees]
 refine JI rfl (SN (RD (Zs (W pins s1 σ H1 _ J q1) fun iv s2 G=>?_)))
 obtain ⟨y,H2,I2,ry,ov,g,Z⟩:=G
 refine RY ?_
 exact ZlX S I2 g ry fun w' s3 U B=>⟨_,H2,U,B,Z⟩
end
section
variable {X:Cx}{pins:List (Addr×Obj)}{σ:St}{H:Hp}{s:Qe}{a:Addr}{kvs:List (Zo×V)}{A:QA}{E:Qb->Qe->Prop}
end
section
variable {X:Cx}{pins:List (Addr×Obj)}{σ:St}{H:Hp}{s:Qe}{a:Addr}{y:V}{u:Qb}{A:QA}{E:Qb->Qe->Prop}
end
section
variable {κ:Type}[DecidableEq κ]
end
theorem Uc {env:Env}(y:Str):∀ B:List (Str×GE),
 (B.map fun (n,k)=>if (k == Gc&&env.scope.kind == .function&&env.kindOf n == some .cell) then (n,NameKind.cell) else (n,k)).lookup y =
  (B.lookup y).map fun k=>if (k == Gc&&env.scope.kind == .function&&env.kindOf y == some .cell) then NameKind.cell else k
 | []=>rfl
 | (n, k)::r=>by
  have I:=Uc (env:=env) y r
  rw [map_cons]
  cases hx:y == n with
  | true =>
   have e:y=n:=by simpa using hx
   subst e
   by_cases G:(k == Gc&&env.scope.kind == .function&&env.kindOf y == some .cell)=true
   ·simp only [G,if_true,lookup_cons,beq_self_eq_true,GA]
   ·simp only [G,lookup_cons,beq_self_eq_true,GA]
    simp [G]
  | false =>
   by_cases G:(k == Gc&&env.scope.kind == .function&&env.kindOf n == some .cell)=true
   ·simp only [G,if_true,lookup_cons,hx];exact I
   ·simp only [G,lookup_cons,hx,Gf,if_false];exact I
theorem ZO (G:∀ z∈scope.names,z.2≠.cell)(h:(Re scope env).names.lookup y=some k):
 scope.names.lookup y=some k\/(scope.names.lookup y=some .free/\k=.cell):=by
 unfold Re at h
 rw [Uc] at h
 cases e:scope.names.lookup y with
 | none=>rw [e] at h;cases h
 | some k0 =>
  rw [e] at h
  simp only [GA,Option.some.injEq] at h
  by_cases B:(k0 == Gc&&env.scope.kind == .function&&env.kindOf y == some .cell)=true
  ·rw [if_pos B] at h
   right
   simp only [QM,beq_iff_eq] at B
   exact ⟨by rw [B.1.1],h.symm⟩
  ·rw [if_neg B] at h
   left;rw [h]
theorem mem_of_lookup {B:Type}{y:Str}{k:B}:∀{l:List (Str×B)},l.lookup y=some k->(y,k)∈l
 | [],h=>by cases h
 | (n,z)::r,h=>by
  cases hx:y == n with
  | true =>
   have e:y=n:=by simpa using hx
   subst e
   simp only [lookup_cons,beq_self_eq_true] at h
   cases h
   exact mem_cons_self
  | false =>
   simp only [lookup_cons,hx] at h
   exact mem_cons_of_mem _ (mem_of_lookup h)
theorem UR {env:Env}:∀(B:List (Str×GE))(G:List (Str×Addr)),(∀ y∈B,y.2=.free->∃ c,env.cells.lookup y.1=some c) ->
 ∃ cl:List (Str×Addr),(forIn B G fun (x:Str×GE) (r:List (Str×Addr))=>(if x.2 == Gc then (do let a <- cellOf env x.1;pure (GB ((x.1,a)::r))) else pure (GB r):Sem (ForInStep (List (Str×Addr)))))=pure cl /\
  (∀ y c,cl.lookup y=some c->G.lookup y=some c\/env.cells.lookup y=some c)/\(∀ y,G.lookup y≠none->cl.lookup y≠none)/\∀ y∈B,y.2=.free->cl.lookup y.1≠none
 | [],G,_=>⟨G,rfl,fun _ _ h=>.inl h,fun _ h=>h,fun _ h=>(nomatch h)⟩
 | (n, k)::r,G,h=>by
  by_cases Z:k=.free
  ·subst Z
   obtain ⟨c,hc⟩:=h (n,.free) mem_cons_self rfl
   obtain ⟨cl,e,W,S,g3⟩:=UR r ((n,c)::G) fun y hy=>h y (mem_cons_of_mem _ hy)
   refine ⟨cl,?_,?_,?_,?_⟩
   ·rw [Po]
    have I:cellOf env n=pure c:=by unfold cellOf;rw [hc]
    simp only [beq_self_eq_true,if_true,I,Tz]
    exact e
   ·intro y d q
    rcases W y d q with q | q
    ·cases hx:y == n with
     | true =>
      have J:y=n:=by simpa using hx
      subst J
      simp only [lookup_cons,beq_self_eq_true] at q
      cases q
      exact .inr hc
     | false=>simp only [lookup_cons,hx] at q;exact .inl q
    ·exact .inr q
   ·intro y q
    apply S
    cases hx:y == n with
    | true=>simp [lookup_cons,hx]
    | false=>simpa [lookup_cons,hx] using q
   ·intro y hy U
    rcases mem_cons.mp hy with J | hy
    ·subst J
     apply S
     simp [lookup_cons]
    ·exact g3 y hy U
  ·obtain ⟨cl,e,W,S,g3⟩:=UR r G fun y hy=>h y (mem_cons_of_mem _ hy)
   refine ⟨cl,?_,W,S,?_⟩
   ·rw [Po]
    have hb:(k == Gc)=false:=by simpa using Z
    simp only [hb,Gf,if_false,Tz]
    exact e
   ·intro y hy U
    rcases mem_cons.mp hy with J | hy
    ·subst J;exact absurd U Z
    ·exact g3 y hy U
theorem UQ {scope:Scope}(h:∀ y∈scope.names,y.2=.free->∃ c,env.cells.lookup y.1=some c):
 ∃ cl,Sf scope env=pure cl/\(∀ y c,cl.lookup y=some c->env.cells.lookup y=some c)/\∀ y∈scope.names,y.2=.free->cl.lookup y.1≠none:=by
 obtain ⟨cl,e,G,_,B⟩:=UR (env:=env) scope.names [] h
 refine ⟨cl,?_,fun y c q=>(G y c q).elim (fun z=>by cases z) fun z=>z,B⟩
 simp only [Sf]
 rw [<- bind_pure (pure cl:Sem _),<- e]
def Wp (N xs:List Str):List Str:=N.map fun y=>if y∈xs then (if xs.head?=some y then "" else "0") else y
theorem Wq (N xs:List Str):(Wp N xs).length=N.length:=length_map ..
theorem ZdL {N xs:List Str}{y:Str}{i:Nat}(h:(Wp N xs)[i]?=some y):(N[i]?=some y/\y ∉ xs)\/y=""\/y="0":=by
 unfold Wp at h
 rw [getElem?_map] at h
 cases e:N[i]? with
 | none=>rw [e] at h;cases h
 | some z =>
  rw [e] at h
  have h:(if z∈xs then (if xs.head?=some z then ("":Str) else "0") else z)=y:=QG h
  by_cases q:z∈xs
  ·rw [if_pos q] at h
   by_cases g:xs.head?=some z
   ·rw [if_pos g] at h;exact .inr (.inl h.symm)
   ·rw [if_neg g] at h;exact .inr (.inr h.symm)
  ·rw [if_neg q] at h;subst h;exact .inl ⟨rfl,q⟩
def ZL (X:Cx)(scope:Scope)(xs:List Str)(cl:List (Str×Addr))(C:Addr)(s₀:Qe)(H₀:Hp)(fp:List Addr):Cx :=
 {prog:=X.prog,w:=X.w,K:=X.K,mg:=X.mg,base:=X.base,A:=X.A,N:=Wp X.N xs++xs,s₀:=s₀,H₀:=H₀,env:=TD scope cl C X.env,outer:=X.stack,stack:=X.stack,
  ex:=fp,fn:=fun _=>false,calm:=X.calm,pn:=[],xe:=fun _ _=>False }
abbrev YK (X:Cx)(scope:Scope)(x:Str):=ZL X scope [x]
structure CompOkN (X:Cx)(scope:Scope)(xs:List Str):Prop where
 nd:(Wp X.N xs++xs).Nodup
 clos:∀ y∈scope.names,y.2=.free->X.env.kindOf y.1=some .cell\/X.env.kindOf y.1=some .free
 cell:∀ y∈scope.names,y.2≠.cell
 kind:scope.kind=.function
 names:∀ y∈scope.names,y.2=.local->scope.names.lookup y.1=some .local
 loc:∀ x∈xs,scope.names.lookup x=some .local
 own:∀ y∈X.N,y ∉ xs->scope.names.lookup y≠some .local
 noh:scope.names.lookup ("":Str)=none/\scope.names.lookup ("0":Str)=none
abbrev CompOk (X:Cx)(scope:Scope)(x:Str):=CompOkN X scope [x]
def ZaB (N:List Str)(names:List (Str×GE))(scope:Scope)(xs:List Str):Bool :=
 decide ((Wp N xs++xs).Nodup)&&scope.names.all (fun y=>(y.2 != .free || names.lookup y.1 == some .cell || names.lookup y.1 == some .free)&&(y.2 != .cell&&(y.2 != .local || scope.names.lookup y.1 == some .local))) &&
 ((scope.kind == .function&&xs.all fun x=>scope.names.lookup x == some .local)&&N.all fun y=>decide (y∈xs) || scope.names.lookup y != some .local)&&(scope.names.lookup ("":Str) == none&&scope.names.lookup ("0":Str) == none)
theorem CompOkN.of (N:List Str)(st:Stmt)(J:X.N=N)(hn:X.env.scope=Zj st)(B:ZaB N (Zj st).names scope xs=true):CompOkN X scope xs:=by
 unfold ZaB at B
 simp only [QM,decide_eq_true_eq,all_eq_true,So,bne_iff_ne,beq_iff_eq] at B
 obtain ⟨⟨⟨Z,I⟩,⟨c3,c4⟩,U⟩,W⟩:=B
 refine ⟨by rw [J];exact Z,fun y G hf=>?_,fun y G=>(I y G).2.1,c3,fun y G hl=>?_,c4,fun y G S=>(U y (by rw [<- J];exact G)).resolve_left S,W⟩
 ·show X.env.scope.names.lookup y.1=_\/X.env.scope.names.lookup y.1=_
  rw [hn]
  rcases (I y G).1 with (z | z) | z
  ·exact absurd hf z
  ·exact .inl z
  ·exact .inr z
 ·rcases (I y G).2.2 with z | z
  ·exact absurd hl z
  ·exact z
theorem CompOk.of (N:List Str)(st:Stmt)(G:X.N=N)(I:X.env.scope=Zj st)(B:ZaB N (Zj st).names scope [x]=true):CompOk X scope x:=CompOkN.of N st G I B
def tYes:TT:=fun _ H k=>k true H
def PCs (X:Cx)(cs:List Expr)(tc:TT):Prop:=(cs=[]/\tc=tYes)\/∃ c,cs=[c]/\PT X c tc
def VQ (J:It)(g:TG)(tc:TT)(te:TE)(n:Nat)(OK:St->St->Prop)(σ:St)(D:Addr)(Q:VK)(H1:Hp):Prop :=
 ∃ W : Nat->Nat->List V->Hp->Prop,(∃ m,W 0 m [] (upd H1 D (.lst [])))/\∀ i m ys H2,W i m ys H2 ->
  (J.stop i H2/\Q (.ref D) H2)\/(J.go i H2/\∃ (N:VK) (M:Hp->Prop),(∀ y H4,N y H4->H4 D=some (.lst ys)/\ys.length < Qj/\∃ m',m' < m/\W (i+1) m' (ys++[y]) (upd H4 D (.lst (ys++[y]))))/\(∀ H4,M H4->∃ m',m' < m/\W (i+1) m' ys H4) /\
   ∀ ws v H3,ws.length=n->J.yld i H2 v H3->g v (σ++ws) H3 fun σ' H'=>OK σ σ'/\tc σ' H' fun b H4=>if b=true then te σ' H4 N else M H4)
def tCW (wi:TI)(CW:It->St->Addr->VK->Hp->Prop):TE:=fun σ H Q=>wi σ H fun J H1=>∀ D,H1 D=none->CW J σ D Q H1
def CompW (J:It)(te:TE)(σ:St)(D:Addr)(Q:VK)(H1:Hp):Prop :=
 ∃ W:Nat->Nat->List V->Hp->Prop,(∃ m,W 0 m [] (upd H1 D (.lst [])))/\∀ i m ys H2,W i m ys H2 ->
  (J.stop i H2/\Q (.ref D) H2)\/(J.go i H2/\∃ N:VK,(∀ y H4,N y H4->H4 D=some (.lst ys)/\ys.length < Qj/\∃ m',m' < m/\W (i+1) m' (ys++[y]) (upd H4 D (.lst (ys++[y]))))/\∀ v H3,J.yld i H2 v H3->te (σ++[some v]) H3 N)
def Zov (wi:TI)(te:TE):TE:=fun σ H Q=>wi σ H fun J H1=>∀ D,H1 D=none->CompW J te σ D Q H1
section
variable {X:Cx}{elt iter tg:Expr}{cs:List Expr}{xs:List Str}{pos:Pos}{scope:Scope}{wi:TI}{te:TE}{tc:TT}{g:TG}{OK:St->St->Prop}{CW:It->St->Addr->VK->Hp->Prop}
theorem XZ (I:Nat->Qe->Prop)(turn : ∀ n s,I n s->Qr (Qs prog w) A (pyNext it) (fun r G=>match r with
     | none=>R (.ok .next) G
     | some v=>Qr (Qs prog w) A (Pi B it v) (fun _ s1'=>Qr (Qs prog w) A (SH B env v) (fun _ U=>Qr (Qs prog w) A (forIn cs true fun c r=>if r=true then do let ok <- isTrue c env (eval c env);pure (GB ok) else pure (GB r)) (fun ok s2'=>if ok=true then Qr (Qs prog w) A (eval elt env) (fun x Z =>
         Qr (Qs prog w) A (call (.builtin "list.append") [acc,x]) (fun _ W=>∃ m,m < n/\I m W) (fun _ _=>False) Z)
         (fun _ _=>False) s2' else ∃ m,m < n/\I m s2') (fun _ _=>False) U) (fun _ _=>False) s1') (fun _ _=>False) G) (fun _ _=>False) s)(n:Nat)(h:I n s):
   Ja (Qs prog w) A (.compLoop (.ListComp elt [⟨B,iter,cs,0⟩] scope pos) 0 it acc env) R s:=by
 refine codeAny_loop rfl I (fun n s hI=>?_) n h
 show Qr _ _ ((compTurn (.ListComp elt [⟨B,iter,cs,0⟩] scope pos) 0 it acc env).onRaise (fun x=>do noteFrame x env;theTreesLotGoes x)) _ _ s
 refine wpAny_noted ?_
 rw [compTurn_list]
 refine Qf (GH (Qf (QW (turn n s hI) (fun r G J=>?_) fun _ _ h'=>h'.elim)))
 cases r with
 | none=>exact Qy J
 | some v =>
   refine Qf (QW J (fun _ s1' h1'=>?_) fun _ _ h'=>h'.elim)
   refine Qf (QW h1' (fun _ U h₂=>Qf (QW h₂ (fun ok Z S=>?_) fun _ _ h'=>h'.elim)) fun _ _ h'=>h'.elim)
   cases ok with
   | false=>exact Qy ⟨rfl,S⟩
   | true =>
     exact Qf (Qf (QW S (fun x W h₄=>Qf (QW h₄ (fun _ s₅ h₅=>Qy (Qy ⟨rfl,h₅⟩)) fun _ _ h'=>h'.elim)) fun _ _ h'=>h'.elim))
theorem PCs.go (h:PCs X cs tc)(pins:List (Addr×Obj))(s:Qe)(σ:St)(H:Hp)(Q:Bool->Hp->Prop)(I:Inv X pins σ H s)(q:tc σ H Q):
 Qr (Qs X.prog X.w) X.A (forIn cs true fun c r=>if r=true then do let ok <- isTrue c X.env (eval c X.env);pure (GB ok) else pure (GB r)) (fun b s'=>∃ H',Inv X pins σ H' s'/\Q b H') X.xe s:=by
 rcases h with ⟨rfl,rfl⟩ | ⟨c,rfl,h⟩
 ·exact wpAny_tests_nil ⟨H,I,q⟩
 ·exact wpAny_tests_one (h pins s σ H Q I q)
theorem Zam {pins:List (Addr×Obj)}{σ:St}{H2:Hp}{G:Qe}{J:It}{fp:List Addr}{it:Addr}{tn:Nat->Heap->Prop}{cl:List (Str×Addr)}{E:Qb->Qe->Prop}{Q:VK}{RR:Qb->Addr->Sb->Qe->Prop}
 (O:CompOkN X scope xs) (hc:X.calm=true) (U:∀ y c,cl.lookup y=some c->X.env.cells.lookup y=some c) (cl2:∀ y∈scope.names,y.2=.free->cl.lookup y.1≠none)
 (hOK:∀ σ σ',OK σ σ'->∃ ws:St,ws.length=xs.length/\σ'=σ++ws) (hg:∀ cl C s₀ H₀ fp,PG (ZL X scope xs cl C s₀ H₀ fp) tg g) (hcn:∀ cl C s₀ H₀ fp,PCs (ZL X scope xs cl C s₀ H₀ fp) cs tc) (he:∀ cl C s₀ H₀ fp,PE (ZL X scope xs cl C s₀ H₀ fp) elt te)
 (I2:Inv X pins σ H2 G) (T:Zax X.prog X.w X.K tg J fp it tn) (st:tn 0 G.heap) (f2:∀ b∈fp,Xk X pins H2 b)
 (h:∀ D,H2 D=none->VQ J g tc te xs.length OK σ D Q H2)
 (hRR:∀ D C H' s',Inv X pins σ H' s'->Xk X pins H' C->(∃ m,s'.heap.Ns C m)->Q (.ref D) H'->RR (.ref D) C (.ok .next) s') :
 Qr (Qs X.prog X.w) X.A (newList []) (fun acc B=>Qr (Qs X.prog X.w) X.A (newFunctionEnv scope X.env.globals cl [] X.env.qual none .none (some X.env)) (fun cenv S =>
  Ja (Qs X.prog X.w) X.A (.compStart (.ListComp elt [⟨tg,iter,cs,0⟩] scope pos) 0 (.ref it) acc { cenv with scope:=Re scope X.env }) (RR acc cenv.locals) S) E B) E G:=by
 have hD:H2 G.heap.objs.size=none:=I2.hok.fresh (Qh _)
 refine JJ ?_
 have I:Inv X pins σ (upd H2 G.heap.objs.size (.lst [])) { G with heap:=G.heap.push { cls:=.type "list",data:=.seq ([]:List Qb).toArray } } :=
  I2.laid (t':=G.toks) (fun b u e=>Qd _ e) (Qh _) ⟨QH _,[],_,.nil,Qo _ rfl⟩
 have f3:∀ b∈fp,Xk X pins (upd H2 G.heap.objs.size (.lst [])) b:=fun b hb=>by
  obtain ⟨g0,g1⟩:=f2 b hb
  obtain ⟨o,e,_⟩:=T.obj 0 _ st b hb
  exact ⟨by rw [Zh (Qu (Qg e))];exact g0,g1⟩
 have st3:tn 0 (G.heap.push { cls:=.type "list",data:=.seq ([]:List Qb).toArray }):=T.keep _ _ _ st fun b hb o e=>Qd _ e
 obtain ⟨W,⟨m0,w0⟩,turn⟩:=h _ hD
 generalize hDe:G.heap.objs.size=D at I f3 w0 turn ⊢
 generalize hH3:upd H2 D (.lst [])=Z at I f3 w0 turn ⊢
 generalize hs3:({ G with heap:=G.heap.push { cls:=.type "list",data:=.seq ([]:List Qb).toArray } }:Qe)=B at I
 have st3':tn 0 B.heap:=by rw [<- hs3];exact st3
 have hobj:∀ b∈fp,b < B.heap.objs.size:=fun b hb=>by
  obtain ⟨o,e,_⟩:=T.obj 0 _ st3' b hb
  exact Qg e
 refine Pf O.cell (by intro y hy;simp at hy) (fun h₁ hns₁ hsb₁=>?_) O.kind
 have old:∀ b o,B.heap.get? b=some o->h₁.get? b=some o:=fun b o e=>hsb₁.extBut b o (Qu (Qg e)) (Qd _ e)
 generalize hs4:({ B with heap:=h₁,toks:=B.toks+([]:List (Str×Qb)).length }:Qe)=S
 have h4:S.heap=h₁:=by rw [<- hs4]
 have hX:∀ C,Xk X pins C B.heap.objs.size->True:=fun _ _=>trivial
 have ok':(ZL X scope xs cl B.heap.objs.size B Z fp).Ok:=by
  refine ⟨I.ok.mod,O.kind,I.ok.glob,I.ok.blt,Qh _,?_,?_,?_,I.ok.hd,I.ok.frames,.inl rfl,?_,I.bs,Qq I.ok.bsz I.sz,?_,?_,I.stack,I.stkFree⟩
  ·exact fun y z c e1 e2=>I.ok.inj y z c (U y c e1) (U z c e2)
  ·intro y hk
   have hf:scope.names.lookup y=some .free:=by
    rcases hk with hk | hk
    ·rcases ZO O.cell hk with q | q
     ·exact absurd rfl (O.cell _ (mem_of_lookup q))
     ·exact q.1
    ·rcases ZO O.cell hk with q | q
     ·exact q
     ·cases q.2
   have:=cl2 _ (mem_of_lookup hf) rfl
   cases e:cl.lookup y with
   | none=>exact absurd e this
   | some c=>exact ⟨c,e⟩
  ·intro y c hf;cases hf
  ·intro b hb
   obtain ⟨g0,g1,g2,g3,g4,g5⟩:=f3 b hb
   exact ⟨Qu (hobj b hb),fun y c e=>g4 y c (U y c e)⟩
  ·intro b o e hb
   obtain ⟨g0,g1,g2,g3,g4,g5⟩:=f3 b hb
   rcases g3 with g3 | g3
   ·exact I.ok.noex b o e g3
   ·exact absurd (Qg e) (QV.mpr (Qq I.ok.bsz g3))
  ·intro b hb hs
   obtain ⟨g0,g1,g2,g3,g4,g5⟩:=f3 b hb
   rcases mem_cons.mp (I.stkSub b hs) with e | e
   ·exact g1 e
   ·exact g2 e
 have I4 : Inv (ZL X scope xs cl B.heap.objs.size B Z fp) [] (σ++QY xs.length none) Z S:=by
  obtain ⟨m,hm,hl⟩:=I.loc
  refine ⟨ok',by rw [<- hs4];rfl,by rw [<- hs4];exact I.bare,by rw [h4];exact Un.kept old,⟨_,by rw [h4];exact hns₁,?_⟩,?_,I.hok.fresh (Qh _),fun y c e=>I.freeC y c (U y c e),?_,by rw [h4];exact I.hok.kept old,?_⟩
  ·intro i y v e1 e2 e3
   have hlt:i < σ.length:=by
    rcases Oh i σ.length with z | z
    ·exact z
    ·rw [getElem?_append_right z] at e2
     have:=To (mem_of_getElem? e2)
     cases this
   rw [getElem?_append_left hlt] at e2
   have hsm:∃ k,scope.names.lookup y=some k:=by
    rcases e3 with hk | hk | hk
    ·rcases ZO O.cell hk with q | q
     ·exact ⟨_,q⟩
     ·exact ⟨_,q.1⟩
    ·rcases ZO O.cell hk with q | q
     ·exact ⟨_,q⟩
     ·exact ⟨_,q.1⟩
    ·rcases ZO O.cell hk with q | q
     ·exact ⟨_,q⟩
     ·exact ⟨_,q.1⟩
   obtain ⟨e1',hyx⟩:X.N[i]?=some y/\y ∉ xs:=by
    have e1:(Wp X.N xs++xs)[i]?=some y:=e1
    rw [getElem?_append_left (by rw [Wq,<- I.len];exact hlt)] at e1
    rcases ZdL e1 with z | z
    ·exact z
    ·obtain ⟨k,hk⟩:=hsm
     rcases z with z | z
     ·rw [z,O.noh.1] at hk;cases hk
     ·rw [z,O.noh.2] at hk;cases hk
   have hy:y∈X.N:=mem_of_getElem? e1'
   have hf:scope.names.lookup y=some .free:=by
    rcases e3 with hk | hk | hk
    ·rcases ZO O.cell hk with q | q
     ·exact absurd q (O.own y hy hyx)
     ·exact q.1
    ·rcases ZO O.cell hk with q | q
     ·exact absurd rfl (O.cell _ (mem_of_lookup q))
     ·exact q.1
    ·rcases ZO O.cell hk with q | q
     ·exact q
     ·exact q.1
   have hk:=O.clos _ (mem_of_lookup hf) rfl
   have hv:Vis X.env.scope y:=by rcases hk with z | z;exact .inr (.inl z);exact .inr (.inr z)
   obtain ⟨u,ru,lu⟩:=hl i y v e1' e2 hv
   refine ⟨u,ru,?_⟩
   have hkc:(TD scope cl B.heap.objs.size X.env).kindOf y=some .cell\/(TD scope cl B.heap.objs.size X.env).kindOf y=some .free:=by
    rcases e3 with q | q | q
    ·rcases ZO O.cell q with z | z
     ·exact absurd z (O.own y hy hyx)
     ·cases z.2
    ·exact .inl q
    ·exact .inr q
   rcases lu with ⟨q,_⟩ | ⟨_,c,hcl,hcc⟩
   ·rcases hk with z | z<;>(rw [q] at z;cases z)
   ·refine .inr ⟨hkc,?_⟩
    cases e:cl.lookup y with
    | none=>exact absurd e (cl2 _ (mem_of_lookup hf) rfl)
    | some c' =>
     have:=U y c' e
     rw [hcl] at this
     cases this
     refine ⟨c,e,?_⟩
     rw [h4]
     obtain ⟨oc,ho,hd⟩:=hcc
     exact ⟨oc,old _ _ ho,hd⟩
  ·intro y c e
   obtain ⟨v,oc,ho,hd⟩:=I.cell y c (U y c e)
   exact ⟨v,oc,by rw [h4];exact old _ _ ho,hd⟩
  ·intro p hp;cases hp
  ·show (σ++QY xs.length none).length=(Wp X.N xs++xs).length
   rw [length_append,length_append,Wq,I.len,length_replicate]
 have st4:tn 0 S.heap:=by rw [h4];exact T.keep _ _ _ st3' fun b hb o e=>old b o e
 have fpok:∀ {H':Hp},(∀ b∈fp,H' b=none)->∀ b∈fp,Xk (ZL X scope xs cl B.heap.objs.size B Z fp) [] H' b:=fun hn b hb=>by
  obtain ⟨g0,g1,g2,g3,g4,g5⟩:=f3 b hb
  refine ⟨hn b hb,Qu (hobj b hb),ok'.exfs b hb,.inl hb,fun y c e=>g4 y c (U y c e),?_⟩
  intro p hp;cases hp
 have loop:Ja (Qs X.prog X.w) X.A (.compLoop (.ListComp elt [⟨tg,iter,cs,0⟩] scope pos) 0 (.ref it) (.ref D) (TD scope cl B.heap.objs.size X.env)) (RR (.ref D) B.heap.objs.size) S:=by
  refine XZ (fun n s'=>∃ i ys ws H',ws.length=xs.length/\Inv (ZL X scope xs cl B.heap.objs.size B Z fp) [] (σ++ws) H' s'/\tn i s'.heap/\(∀ b∈fp,H' b=none)/\W i n ys H') ?_ m0 ⟨0,[],_,Z,length_replicate,I4,st4,fun b hb=>(f3 b hb).1,w0⟩
  rintro n s5 ⟨i,ys,ws,H5,hws,I5,st5,fr5,w5⟩
  rcases turn i n ys H5 w5 with ⟨stop,q⟩ | ⟨go,N,M,hN,hM,step⟩
  ·refine Zs (T.done (ZL X scope xs cl B.heap.objs.size B Z fp) rfl rfl rfl hc i [] s5 _ H5 _ I5 (fpok fr5) st5 stop) fun r s6 ⟨hr,I6⟩=>?_
   subst hr
   obtain ⟨m6,hn6,_⟩:=I6.loc
   have IX:Inv X pins σ H5 s6:=I.call' (ch:=fp) I6.os I6.base I6.hok I6.bare fun b hb=>by
    obtain ⟨g0,g1,g2,g3,g4,g5⟩:=f3 b hb
    exact ⟨g3,g1,g4,g5⟩
   exact hRR D _ H5 s6 IX (I.fpOk (Qh _) I6.free) ⟨m6,hn6⟩ q
  ·refine Zs (T.item (ZL X scope xs cl B.heap.objs.size B Z fp) rfl rfl rfl hc i [] s5 _ H5 _ I5 (fpok fr5) st5 go) fun r s6 zz=>?_
   obtain ⟨u,hr,h6⟩:=zz
   subst hr
   refine Zs h6 fun _ s7 zz=>?_
   obtain ⟨v,H7,I7,r7,y7,st7,fr7⟩:=zz
   have I7':=I7.pinned (fpok fr7) (T.obj _ _ st7)
   refine Zs (hg cl B.heap.objs.size B Z fp _ s7 _ H7 v u _ I7' r7 (step ws v H7 hws y7)) fun _ s8 zz=>?_
   obtain ⟨σ8,H8,I8,o8,q8⟩:=zz
   obtain ⟨ws',hws',e8⟩:=hOK σ σ8 o8
   subst e8
   refine Zs (PCs.go (hcn cl B.heap.objs.size B Z fp) _ s8 _ H8 _ I8 q8) fun bb s8b zz=>?_
   obtain ⟨H8b,I8b,q8b⟩:=zz
   cases bb with
   | false =>
    obtain ⟨m',hm',w9⟩:=hM H8b q8b
    refine ⟨m',hm',i+1,ys,ws',_,hws',I8b.unpinned (pins:=[]),T.keep _ _ _ st7 fun b hb o e=>(I8b.pin (b,o) (mem_append_right _ (mem_append_right _ (Yt hb e)))).1,fun b hb=>?_,w9⟩
    obtain ⟨o,e,d⟩:=T.obj _ _ st7 b hb
    exact (I8b.pin (b,o) (mem_append_right _ (mem_append_right _ (Yt hb e)))).2.1
   | true =>
    refine Zs (he cl B.heap.objs.size B Z fp _ s8b _ H8b _ I8b q8b) fun uy s9 zz=>?_
    obtain ⟨y,H9,I9,r9,n9⟩:=zz
    obtain ⟨hl9,hz9,m',hm',w9⟩:=hN y H9 n9
    refine Zs (ZZ (X:=ZL X scope xs cl B.heap.objs.size B Z fp) _ s9 _ H9 (.ref D) [y] (.ref D) [uy] (fun v H'=>H'=upd H9 D (.lst (ys++[y]))) I9 rfl (.cons r9 .nil) ⟨D,ys,y,rfl,rfl,hl9,hz9,rfl⟩) fun _ s10 zz=>?_
    obtain ⟨_,H10,I10,_,e10⟩:=zz
    subst e10
    refine ⟨m',hm',i+1,ys++[y],ws',_,hws',I10.unpinned (pins:=[]),T.keep _ _ _ st7 fun b hb o e=>(I10.pin (b,o) (mem_append_right _ (mem_append_right _ (Yt hb e)))).1,fun b hb=>?_,w9⟩
    obtain ⟨o,e,d⟩:=T.obj _ _ st7 b hb
    exact (I10.pin (b,o) (mem_append_right _ (mem_append_right _ (Yt hb e)))).2.1
 exact Sg loop (T.self _ 0 _ _ _ st4 loop)
theorem Zjo (O:CompOkN X scope xs)(hc:X.calm=true)(hi:PI X tg iter wi)(conv:∀ J σ D Q H,σ.length=X.N.length->CW J σ D Q H->VQ J g tc te xs.length OK σ D Q H)(hOK:∀ σ B,OK σ B->∃ ws:St,ws.length=xs.length/\B=σ++ws)(hg:∀ cl C s₀ H₀ fp,PG (ZL X scope xs cl C s₀ H₀ fp) tg g)(hcn:∀ cl C s₀ H₀ fp,PCs (ZL X scope xs cl C s₀ H₀ fp) cs tc)(he:∀ cl C s₀ H₀ fp,PE (ZL X scope xs cl C s₀ H₀ fp) elt te)
 (hs:∀ v,GN iter X.env v=pure v:=by intro _;rfl):PE X (.ListComp elt [⟨tg,iter,cs,0⟩] scope pos) (tCW wi CW):=by
 intro pins s σ H Q I h
 obtain ⟨cl,Z,S,W⟩:=UQ (scope:=scope) (env:=X.env) fun y hy hf=>I.ok.has _ (O.clos y hy hf)
 rw [eval_ListComp]
 refine Ju (use:=none) rfl hs Z O.kind O.names (Zs (hi pins s σ H _ I h) fun v s1 h1=>Zs h1 fun itv s2 h2=>?_)
 obtain ⟨it,fp,tn,J,H2,e,I2,T,G,f2,q⟩:=h2
 subst e
 refine Zam (RR:=fun U C=>compPost (Qs X.prog X.w) X.A X.xe none (EP X pins σ Q) U C) O hc S W hOK hg hcn he I2 T G f2 (fun z hz=>conv _ _ z _ _ I2.len (q z hz)) ?_
 intro D C H' s' I' ⟨g0,g1,g2,g3,g4,g5⟩ ⟨m,hm⟩ hq
 exact ⟨m,hm,fun h' hs'=>⟨.ref D,H',I'.turned (t':=s'.toks) (fun b o hb e=>(hs'.2 b hb).trans e) g0 g1 g3 g4 g5,rfl,hq⟩⟩
theorem ZeE {i:Nat}(O:CompOkN X scope xs)(hc:X.calm=true)(hN:X.N.Nodup)(hiN:X.N[i]?=some y)(hy:Loc X.env.scope y)(hi:PI X tg iter wi)(conv:∀ J σ D Q H,σ.length=X.N.length->CW J σ D Q H->VQ J g tc te xs.length OK σ D Q H)(hOK:∀ σ S,OK σ S->∃ ws:St,ws.length=xs.length/\S=σ++ws)(hg:∀ cl C s₀ H₀ fp,PG (ZL X scope xs cl C s₀ H₀ fp) tg g)(hcn:∀ cl C s₀ H₀ fp,PCs (ZL X scope xs cl C s₀ H₀ fp) cs tc)(he:∀ cl C s₀ H₀ fp,PE (ZL X scope xs cl C s₀ H₀ fp) elt te)(hsw:PL (.ListComp elt [⟨tg,iter,cs,0⟩] scope pos) (some (.Name y G)) B.line X.env=pure true)(hf:X.fn y=true\/X.env.scope.names.lookup y=some .local:=by first | exact .inl rfl | exact .inr rfl | assumption)(hs:∀ v,GN iter X.env v=pure v:=by intro _;rfl):PS X (.Assign [.Name y G] (.ListComp elt [⟨tg,iter,cs,0⟩] scope pos) B) (ZgD (tCW wi CW) (UT i)):=by
 intro pins s σ H D I h
 obtain ⟨cl,hcl,cl1,cl2⟩:=UQ (scope:=scope) (env:=X.env) fun y hy hf=>I.ok.has _ (O.clos y hy hf)
 rw [exec_Assign_Name_used _ _ _ _ hsw]
 refine Qf (GH (Qf ?_))
 show Qr _ X.A (do let _ <- comprehension (.ListComp elt [⟨tg,iter,cs,0⟩] scope pos) scope X.env _ (newList []) false (eval iter X.env) (some (SH (.Name y G) X.env))) _ _ s
 refine Qf (QW (Ju (use:=some (SH (.Name y G) X.env)) (Q:=fun _ s'=>SP X pins D .next s') rfl hs hcl O.kind O.names
  (Zs (hi pins s σ H _ I h) fun v s1 h1=>Zs h1 fun itv s2 h2=>?_)) (fun _ s' hq=>Qy (Qy hq)) fun _ _ e=>e)
 obtain ⟨it,fp,tn,J,H2,e,I2,T,Z,f2,q⟩:=h2
 subst e
 refine Zam (RR:=fun acc C=>compPost (Qs X.prog X.w) X.A X.xe (some (SH (.Name y G) X.env)) (fun _ s'=>SP X pins D .next s') acc C) O hc cl1 cl2 hOK hg hcn he I2 T Z f2 (fun z hz=>conv _ _ z _ _ I2.len (q z hz)) ?_
 intro Dl C H' s' I' ⟨g0,g1,g2,g3,g4,g5⟩ ⟨m,hm⟩ hq
 show Qr _ X.A (SH (.Name y G) X.env (.ref Dl)) _ _ _
 refine RO (ZcH I' hN hiN hy (v:=.ref Dl) rfl (fun W I'' zz=>?_) hf)
 obtain ⟨a,sb,ha⟩:=zz
 have U:C≠a:=by
  rcases ha with z | z
  ·rw [z];exact g1
  ·exact fun z'=>g4 y a z z'.symm
 exact ⟨m,hm.sameBut sb U,fun h' hs'=>⟨_,H',I''.turned (t':=W.toks) (fun b o hb e=>(hs'.2 b hb).trans e) g0 g1 g3 g4 g5,hq⟩⟩
end
theorem ok1:∀ σ B:St,(∃ w,B=σ++[w])->∃ G:St,G.length=[x].length/\B=σ++G:=fun _ _ ⟨w,e⟩=>⟨[w],rfl,e⟩
theorem set1 {n:Nat}(h:σ.length=n):(σ++[w]).set n v=σ++[v]:=by subst h;simp
theorem CompW.n {J:It}{te:TE}{σ:St}{D:Addr}{Q:VK}{H:Hp}{n:Nat}(hn:σ.length=n)(h:CompW J te σ D Q H):VQ J (UT n) tYes te 1 (fun σ B=>∃ w,B=σ++[w]) σ D Q H:=by
 obtain ⟨W,S,t⟩:=h
 refine ⟨W,S,fun i m ys H2 w2=>(t i m ys H2 w2).imp (fun z=>z) fun U=>?_⟩
 obtain ⟨go,N,hN,I⟩:=U
 refine ⟨go,N,fun _=>False,hN,fun _ z=>z.elim,fun Z v G hl y=>?_⟩
 match Z,hl with
 | [w],_ =>
  show (∃ w',(σ++[w]).set n (some v)=σ++[w'])/\te ((σ++[w]).set n (some v)) G N
  rw [set1 hn]
  exact ⟨⟨_,rfl⟩,I v G y⟩
section
variable {X:Cx}{elt iter:Expr}{x:Str}{px pos:Pos}{scope:Scope}{wi:TI}{te:TE}
theorem ZdW (O:CompOk X scope x):∀ cl C s₀ H₀ fp,PG (ZL X scope [x] cl C s₀ H₀ fp) (.Name x px) (UT X.N.length):=fun cl C s₀ H₀ fp =>
 Yf (X:=ZL X scope [x] cl C s₀ H₀ fp) O.nd (show (Wp X.N [x]++[x])[X.N.length]?=some x by rw [<- Wq X.N [x]];simp) (.inl (SQ (O.loc x (mem_cons_self ..)))) (.inr (SQ (O.loc x (mem_cons_self ..))))
theorem Zaa (O:CompOk X scope x)(B:X.calm=true)(hi:PI X (.Name x px) iter wi)(G:∀ cl C s₀ H₀ fp,PE (YK X scope x cl C s₀ H₀ fp) elt te)
 (I:∀ v,GN iter X.env v=pure v:=by intro _;rfl):PE X (.ListComp elt [⟨.Name x px,iter,[],0⟩] scope pos) (Zov wi te) :=
 Zjo (CW:=fun J σ D Q H=>CompW J te σ D Q H) O B hi (fun _ _ _ _ _ S h=>h.n S) ok1 (ZdW O) (fun _ _ _ _ _=>.inl ⟨rfl,rfl⟩) G I
end
theorem ZfS {lo:Int}{n:Nat}{te:TE}{σ:St}{D:Addr}{Q:VK}{H:Hp}(hn:n<=Qj)(G:Nat->List V->Hp->Prop)(S:G 0 [] (upd H D (.lst [])))
 (Z:∀ i ys H,G i ys H->ys.length=i)
 (hs:∀ i ys H,i < n->G i ys H->te (σ++[some (.int (lo+i))]) H fun y I=>I D=some (.lst ys)/\G (i+1) (ys++[y]) (upd I D (.lst (ys++[y])))) (U:∀ ys H,G n ys H->Q (.ref D) H):CompW (Itr lo n) te σ D Q H:=by
 refine ⟨fun i m ys H=>m=n - i/\i<=n/\G i ys H,⟨n,by simp,QH _,S⟩,?_⟩
 rintro i m ys H2 ⟨rfl,hi,p⟩
 by_cases B:i < n
 ·have J:=Z i ys _ p
  refine .inr ⟨B,_,fun y I (q:I D=some (.lst ys)/\G (i+1) (ys++[y]) (upd I D (.lst (ys++[y]))))=>⟨q.1,by omega,n - (i+1),by omega,rfl,B,q.2⟩,fun v H3 y=>?_⟩
  obtain ⟨e,W⟩:=y
  subst e W
  exact hs i ys _ B p
 ·have e:i=n:=by omega
  subst e
  exact .inl ⟨Qh _,U ys H2 p⟩
theorem ZgY {K:Qa}{a:Addr}{xs:List V}{te:TE}{σ:St}{D:Addr}{Q:VK}{H:Hp}(hn:xs.length<=Qj)(B:Nat->List V->Hp->Prop)(S:B 0 [] (upd H D (.lst [])))
 (W:∀ i ys H,B i ys H->ys.length=i/\SqL K H a xs)
 (Z:∀ i x ys H,xs[i]?=some x->B i ys H->te (σ++[some x]) H fun y I=>I D=some (.lst ys)/\B (i+1) (ys++[y]) (upd I D (.lst (ys++[y])))) (U:∀ ys H,B xs.length ys H->Q (.ref D) H):CompW (Itl K a) te σ D Q H:=by
 refine ⟨fun i m ys H=>m=xs.length - i/\i<=xs.length/\B i ys H,⟨xs.length,by simp,QH _,S⟩,?_⟩
 rintro i m ys H2 ⟨rfl,hi,p⟩
 obtain ⟨J,q⟩:=W i ys _ p
 by_cases G:i < xs.length
 ·refine .inr ⟨⟨xs,xs[i],q,by simp [G]⟩,_,fun y I (q:I D=some (.lst ys)/\B (i+1) (ys++[y]) (upd I D (.lst (ys++[y]))))=>⟨q.1,by omega,xs.length - (i+1),by omega,rfl,G,q.2⟩,fun v H3 y=>?_⟩
  obtain ⟨e,y⟩:=y
  subst e
  exact Z i v ys _ (y xs q) p
 ·have e:i=xs.length:=by omega
  subst e
  exact .inl ⟨⟨xs,q,Qh _⟩,U ys H2 p⟩
theorem ZiH {K:Qa}{a:Addr}{xs:List V}{te:TE}{σ:St}{D:Addr}{Q:VK}{H:Hp}(hn:xs.length<=Qj)(B:Nat->List V->Hp->Prop)(S:B 0 [] (upd H D (.lst [])))
 (W:∀ i ys H,B i ys H->ys.length=i/\SqT K H a xs)
 (Z:∀ i x ys H,xs[i]?=some x->B i ys H->te (σ++[some x]) H fun y I=>I D=some (.lst ys)/\B (i+1) (ys++[y]) (upd I D (.lst (ys++[y])))) (U:∀ ys H,B xs.length ys H->Q (.ref D) H):CompW (Itt K a) te σ D Q H:=by
 refine ⟨fun i m ys H=>m=xs.length - i/\i<=xs.length/\B i ys H,⟨xs.length,by simp,QH _,S⟩,?_⟩
 rintro i m ys H2 ⟨rfl,hi,p⟩
 obtain ⟨J,q⟩:=W i ys _ p
 by_cases G:i < xs.length
 ·refine .inr ⟨⟨xs,xs[i],q,by simp [G]⟩,_,fun y I (q:I D=some (.lst ys)/\B (i+1) (ys++[y]) (upd I D (.lst (ys++[y]))))=>⟨q.1,by omega,xs.length - (i+1),by omega,rfl,G,q.2⟩,fun v H3 y=>?_⟩
  obtain ⟨e,y⟩:=y
  subst e
  exact Z i v ys _ (y xs q) p
 ·have e:i=xs.length:=by omega
  subst e
  exact .inl ⟨⟨xs,q,Qh _⟩,U ys H2 p⟩
section
variable {X:Cx}{tg:Expr}
end
section
variable {X:Cx}
theorem ZiE (hc:X.calm=true):Ys X (.builtin "all") (fun xs H Q=>∃ (a:Addr) (bs:List Bool),xs=[.ref a]/\SqL X.K H a (bs.map V.bl)/\Q (.bl (bs.all id)) H):=by
 intro pins s σ H xs us Q I r h
 obtain ⟨a,bs,rfl,hq,q⟩:=h
 obtain ⟨u,rfl,ru⟩:=Yo r
 cases ru
 obtain ⟨G,rv,p,hz⟩:=I.list hq
 have B:=rv.length
 rw [length_map] at B
 have hal:a < s.heap.objs.size:=by obtain ⟨_,e,_⟩:=p.isList;exact Qg e
 refine call_all_walk (RQ p.isList ⟨s.heap.objs.size,_,_,_,_,_,fun i=>bs.getD i false,rfl,Walks.list (A:=X.A.in1) (I.ok.hd hc) s.heap.objs.size a (Qu hal) G.toArray,⟨⟨_,Qo _ rfl,rfl,rfl⟩,p.isList.push _⟩,?_,?_⟩)
 ·intro i v s' Q' E' hv Z
  have U:G[i]?=some v:=by simpa using hv
  have hi:i < bs.length:=by
   have:=(Qi.mp U).1
   omega
  obtain ⟨u,hu,ru⟩:=rv.get (i:=i) (x:=V.bl bs[i]) (by simp [hi])
  rw [U] at hu
  cases hu
  have e:v=Gy bs[i]:=ru
  subst e
  have J:Q' (bs.getD i false) s':=Z
  rw [getD_eq_getElem?_getD,getElem?_eq_getElem hi] at J
  exact Gi J
 ·intro h' tk hk
  have e:(Jx G.toArray.size).all (fun i=>bs.getD i false)=bs.all id:=by
   rw [size_toArray,<- B]
   apply Bool.eq_iff_iff.mpr
   rw [all_eq_true,all_eq_true]
   constructor
   ·intro z b hb
    obtain ⟨i,hi,rfl⟩:=List.mem_iff_getElem.mp hb
    have:=z i (SG.mpr hi)
    rwa [getD_eq_getElem?_getD,getElem?_eq_getElem hi] at this
   ·intro z i hi
    have S:=List.mem_range.mp hi
    rw [getD_eq_getElem?_getD,getElem?_eq_getElem S]
    exact z _ (Jp S)
  rw [e]
  refine ⟨.bl (bs.all id),H,I.kept (t':=tk) fun b o W=>hk b o ?_ (Qd _ W),rfl,q⟩
  intro hm
  have:b=s.heap.objs.size:=by simpa using hm
  rw [this] at W
  exact absurd (Qg W) (Gg _)
theorem Zft:∀{ys:List Str}{us:List Qb},Vals (ys.map V.str) us->Pa us ys
 | [],_,.nil=>.nil
 | y::ys,_,.cons r t=>by obtain ⟨k,rfl⟩:=r;exact .cons _ _ (Zft t)
theorem Zfb:MtR X "str.join" (fun x xs H Q=>∃ B a ys,x=.str B/\xs=[.ref a]/\SqL X.K H a (ys.map V.str)/\(ys.map (·.length)).sum+ys.length * B.length<=16777216/\Q (.str (Txt.join B ys)) H):=by
 intro pins s σ H x xs v us Q I U W h
 obtain ⟨B,a,ys,rfl,rfl,Z,S,q⟩:=h
 obtain ⟨t,rfl⟩:=U
 obtain ⟨u,rfl,G⟩:=Yo W
 cases G
 obtain ⟨J,r,p,_⟩:=I.list Z
 exact join_list p.isList (by simpa using Zft r) S fun t' k=>⟨.str _,H,I.tok k,⟨_,rfl⟩,q⟩
theorem Zib:SlR X (fun x lo hi H Q=>∃ z,x=.str z/\z.length<=Qj/\Q (.str (Txt.slice z lo hi)) H):=by
 intro pins s σ H x v vl vu lo hi sl Q I rx hs pl pu h
 obtain ⟨z,rfl,J,q⟩:=h
 obtain ⟨t,rfl⟩:=rx
 refine ⟨"str",_,F.slot_str_getitem.lookup,typeIs_str _ _ _,?_⟩
 have B:∀ (t':Tok) (k:Nat),EP X pins σ Q (.str (Txt.slice z lo hi) t') { s with toks:=k }:=fun t' k=>⟨.str _,H,I.tok k,⟨_,rfl⟩,q⟩
 obtain ⟨o,U,S,G⟩:=hs
 cases pl<;>cases pu
 ·exact GV (l:=none) (u:=none) (st:=none) ⟨_,U,S,G⟩ rfl (Pp ⟨Qq (Txt.slice_le z _ _) J,B⟩)
 ·rename_i j Z
  exact GV (l:=none) (u:=some (j,Z)) (st:=none) ⟨_,U,S,G⟩ rfl (Pp ⟨Qq (Txt.slice_le z _ _) J,B⟩)
 ·rename_i i W
  exact GV (l:=some (i,W)) (u:=none) (st:=none) ⟨_,U,S,G⟩ rfl (Pp ⟨Qq (Txt.slice_le z _ _) J,B⟩)
 ·rename_i i W j Z
  exact GV (l:=some (i,W)) (u:=some (j,Z)) (st:=none) ⟨_,U,S,G⟩ rfl (Pp ⟨Qq (Txt.slice_le z _ _) J,B⟩)
theorem Vv:Ys X (.type "str") (fun xs H Q=>(∃ i,xs=[.int i]/\i.natAbs.log2 < 1920/\Q (.str (SI i)) H)\/∃ z,xs=[.str z]/\Q (.str z) H):=by
 intro pins s σ H xs us Q I r h
 rcases h with h | ⟨z,rfl,q⟩
 ·exact ZdA pins s σ H xs us Q I r h
 ·obtain ⟨u,rfl,t,rfl⟩:=Yo r
  exact PySem.P.str_of_str ⟨.str _,H,I,⟨_,rfl⟩,q⟩
end
mutual
inductive DataOf (H:Hp):V->Tp->Prop
 | non:DataOf H .non .none
 | bl (b):DataOf H (.bl b) (.bool b)
 | int (i):DataOf H (.int i) (.int i)
 | str (x):DataOf H (.str x) (.str x)
 | lst {a xs ds}:H a=some (.lst xs)->DatasOf H xs ds->DataOf H (.ref a) (.list ds)
 | tup {a xs ds}:H a=some (.tup xs)->DatasOf H xs ds->DataOf H (.ref a) (.tuple ds)
inductive DatasOf (H:Hp):List V->List Tp->Prop
 | nil:DatasOf H [] []
 | cons {v d vs ds}:DataOf H v d->DatasOf H vs ds->DatasOf H (v::vs) (d::ds)
end
section
variable {P:Qk}{w:Qt}{H:Hp}{h:Heap}
mutual
theorem DataOf.reads (hok:HOk P w H h):∀{v d}(u:Qb),DataOf H v d->RelV v u->d.hasDict=false/\∃ as,Reads h u d as
 | _,_,u,.non,r=>by cases (show u=.none from r);exact ⟨rfl,_,.none⟩
 | _,_,u,.bl b,r=>by cases (show u=.bool b from r);exact ⟨rfl,_,.bool b⟩
 | _,_,u,.int i,r=>by obtain ⟨t,e⟩:=(show ∃ t,u=.int i t from r);subst e;exact ⟨rfl,_,.int i t⟩
 | _,_,u,.str x,r=>by obtain ⟨t,e⟩:=(show ∃ t,u=.str x t from r);subst e;exact ⟨rfl,_,.str x t⟩
 | _,_,u,.lst (a:=a) (xs:=xs) e q,r=>by
  cases (show u=.ref a from r)
  obtain ⟨_,B,n,J,g⟩:=(show ObjOk P w H h a (.lst xs) from hok a _ e)
  obtain ⟨G,as,I⟩:=DatasOf.reads hok B q J
  exact ⟨by simpa [SS] using G,_,.list g rfl rfl (by simpa using I)⟩
 | _,_,u,.tup (a:=a) (xs:=xs) e q,r=>by
  cases (show u=.ref a from r)
  obtain ⟨_,B,J,o,g,c,n,d⟩:=(show ObjOk P w H h a (.tup xs) from hok a _ e)
  obtain ⟨G,as,I⟩:=DatasOf.reads hok B q J
  exact ⟨by simpa [SS] using G,_,.tuple g c d (by simpa using I)⟩
theorem DatasOf.reads (hok:HOk P w H h):∀{vs ds}(us:List Qb),DatasOf H vs ds->Vals vs us->JK ds=false/\∃ as,ReadsAll h us ds as
 | _,_,_,.nil,.nil=>⟨rfl,_,.nil⟩
 | _,_,_,.cons r t,.cons rv tv=>by
  obtain ⟨G,as,I⟩:=DataOf.reads hok _ r rv
  obtain ⟨B,bs,J⟩:=DatasOf.reads hok _ t tv
  exact ⟨by simp [JK,G,B],_,.cons I J⟩
end
end
section
variable {X:Cx}
theorem Xv (W:X.A.guards=some [])(hu:X.A.units+64 < RW):Ys X (.builtin "repr") (fun xs H Q=>∃ x d,xs=[x]/\DataOf H x d/\d.showable=true/\d.shown.length<=Qj/\d.depth<=60/\Q (.str d.shown) H):=by
 intro pins s σ H xs us Q I r h
 obtain ⟨x,d,rfl,dd,U,J,hd,q⟩:=h
 obtain ⟨u,rfl,ru⟩:=Yo r
 have B:∀ (t':Tok) (k:Nat),EP X pins σ Q (.str d.shown t') { s with toks:=k }:=fun t' k=>⟨.str _,H,I.tok k,⟨_,rfl⟩,q⟩
 obtain ⟨G,as,Z⟩:=DataOf.reads I.hok u dd ru
 cases Z with
 | none=>exact PySem.P.repr_of_none (B _ _)
 | bool b=>exact PySem.P.repr_of_bool (B _ _)
 | int i t=>exact PySem.P.repr_of_int (by simpa [PyData.showable] using U) (B _ _)
 | str x t=>exact PySem.P.repr_of_str (B _ _) J
 | list h1 h2 h3 h4=>exact repr_of_reads' (Reads.list h1 h2 h3 h4) U (fun z=>by rw [G] at z;cases z) W (by omega) (fun _ _ e=>e) (fun h' t' k S=>⟨.str _,H,I.kept (t':=k) S,⟨_,rfl⟩,q⟩) J
 | tuple h1 h2 h3 h4=>exact repr_of_reads' (Reads.tuple h1 h2 h3 h4) U (fun z=>by rw [G] at z;cases z) W (by omega) (fun _ _ e=>e) (fun h' t' k S=>⟨.str _,H,I.kept (t':=k) S,⟨_,rfl⟩,q⟩) J
 | dict h1 h2 h3 h4 h5=>cases G
end
def Def (P:Qk)(w:Qt)(K:Qa)(mg:Str->Option Qb)(base:Heap)(k:Nat)(x:Str)(ps:List Str)(sp:Sp):Prop :=
 ∃ f fd,FnOk P w K mg base ZI k f fd ps sp/\Binds K fd ps []/\GK K (.ref f)=true/\mg x=some (.ref f)
theorem Def.mono {P:Qk}{w:Qt}{K:Qa}{mg:Str->Option Qb}{base:Heap}{j k:Nat}{x:Str}{ps:List Str}{sp:Sp}(D:Def P w K mg base j x ps sp)(h:j<=k):Def P w K mg base k x ps sp :=
 let ⟨f,fd,F,b,kp,m⟩:=D;⟨f,fd,F.mono h,b,kp,m⟩
section
variable {X:Cx}{k:Nat}{x:Str}{ps:List Str}{sp:Sp}{p pos:Pos}{e:Expr}{es:List Expr}{t:TA}
theorem ZJ (D:Def X.prog X.w X.K X.mg X.base k x ps sp)(J:Room k X.A)(U:PA X (e::es) t)(I:Gl X x:=by rfl)(B:(x == ("__debug__":Str))=false:=by decide)
 (S:QE (e::es) X.env=(false,eval e X.env)::QE es X.env:=by rfl) (G:(GU pos (QE es X.env)).any (·.1)=false:=by rfl) :
 PE X (.Call (.Name x p) (e::es) [] pos) (ZgE sp [] E0 t):=by
 obtain ⟨f,fd,F,b,kp,m⟩:=D
 exact Zla F J I m kp b .nil ZcW U B S G
end
def Kp (p:Addr)(H H':Hp):Prop:=∀ q o,q≠p->H q=some o->H' q=some o
theorem Kp.trans (a:Kp p H H1)(b:Kp p H1 H2):Kp p H H2:=fun q o n h=>b q o n (a q o n h)
theorem Kp.upd (p:Addr)(H:Hp)(o:HO):Kp p H (upd H p o):=fun q u n h=>by rw [Zh n];exact h
theorem Same.kp (a:Same H H')(p:Addr):Kp p H H':=fun q o _ h=>a q o h
theorem Zm (h:H p=none)(o:HO):Same H (upd H p o):=fun b u q=>by rw [Zh (Zq q h)];exact q
def BoxAt (H:Hp)(p:Addr)(n:Nat):Prop:=∃ a b c:Int,H p=some (.lst [.int a,.int b,.int c])/\0<=a/\0<=c/\c<=n
theorem BoxAt.same {n:Nat}(h:BoxAt H p n)(s:Same H H'):BoxAt H' p n:=let ⟨a,b,c,e,r⟩:=h;⟨a,b,c,s _ _ e,r⟩
theorem BoxAt.le {n m:Nat}(h:BoxAt H p n)(l:n<=m):BoxAt H p m:=let ⟨a,b,c,e,h1,h2,h3⟩:=h;⟨a,b,c,e,h1,h2,by omega⟩
inductive VM (M:Int)(vs:List V)(H:Hp)(Q:VK)(w_3:XK):Prop
 | mk (p:Addr) (n:Nat) (m:Int):vs=[.ref p,.int m]->BoxAt H p n->n<=1000000->0 < m->m < M->(∀ (r:Int) (H':Hp),0<=r->r < m->BoxAt H' p (n+1)->Kp p H H'->Q (.int r) H')->VM M vs H Q w_3
inductive Zei (K:Qa)(vs:List V)(H:Hp)(Q:VK)(w_3:XK):Prop
 | mk (a:Addr) (ns:List Int) (k:Int):vs=[.ref a,.int k]->SqL K H a (ns.map V.int)->0<=k->(∀ (r:Int),Q (.int r) H)->Zei K vs H Q w_3
inductive Zgt (K:Qa)(vs:List V)(H:Hp)(Q:VK)(w_3:XK):Prop
 | mk (a:Addr) (ns:List Int) (k:Int):vs=[.ref a,.int k]->SqL K H a (ns.map V.int)->0<=k->k<=1000->(∀ (p:Addr) (H':Hp),H p=none->BoxAt H' p 0->Same H H'->Q (.ref p) H')->Zgt K vs H Q w_3
theorem ZfY {n:Nat}(h:n<=1000):n<=sizeLine:=GF (Zid h)
theorem Zbc:∀ (rest:List Str) (B:Array Nat),(rest.foldl (fun B p=>B++(Qw "").cps++p.cps) B).toList=B.toList++rest.flatMap (·.cps.toList)
 | [],B=>by simp
 | p::r,B=>by
  have e:(Qw "").cps=#[]:=by decide +kernel
  rw [OZ,Zbc r,Tj,e]
  simp
theorem WN:∀ ys:List Str,(Txt.join (Qw "") ys).cps.toList=ys.flatMap (·.cps.toList)
 | []=>rfl
 | y::r=>by
  show (List.foldl (fun B p=>B++(Qw "").cps++p.cps) y.cps r).toList=_
  rw [Zbc];rfl
theorem Yq (x:Str):x.length=x.cps.toList.length:=by simp [Str.length]
theorem ZhX (s e:Int)(i j:Nat)(G:s=i)(I:e=j):sliceRange s e 1=(Jx (j - i)).map (i+·):=by
 subst G I
 unfold sliceRange
 simp only [show (1:Int) > 0 by decide,if_true]
 have B:(if (i:Int) < (j:Int) then ((j:Int) - i+1 - 1) / 1 else 0).toNat=j - i:=by
  split
  ·rw [Int.ediv_one];omega
  ·omega
 rw [B]
 apply Px
 intro k J
 omega
theorem Ur (z:Str)(lo hi:Option Int):(Txt.slice z lo hi).cps.toList=(z.cps.toList.drop (HT.sIx z.length 0 lo)).take (HT.sIx z.length z.length hi - HT.sIx z.length 0 lo):=by
 have key:PF lo hi 1 z.length=(Jx (HT.sIx z.length z.length hi - HT.sIx z.length 0 lo)).map (HT.sIx z.length 0 lo+·):=by
  unfold PF
  refine ZhX _ _ _ _ ?_ ?_
  ·cases lo with
   | none=>rfl
   | some i=>simp only [HT.sIx,show (1:Int) > 0 by decide,if_true];split<;>omega
  ·cases hi with
   | none=>rfl
   | some i=>simp only [HT.sIx,show (1:Int) > 0 by decide,if_true];split<;>omega
 have G:HT.sIx z.length z.length hi<=z.length:=HT.sIx_le _ _ (Qh _) hi
 unfold Txt.slice
 rw [key]
 split
 ·rename_i h
  simp only [beq_self_eq_true,Bool.true_and,length_map,List.length_range,beq_iff_eq] at h
  have h0:HT.sIx z.length 0 lo=0\/z.length=0:=by omega
  rcases h0 with h0 | h0
  ·rw [h0] at h ⊢
   rw [List.drop_zero,h,Yq,TJ]
  ·have e:z.cps.toList=[]:=eq_nil_of_length_eq_zero (by rw [<- Yq];exact h0)
   rw [e];simp
 ·show (List.filterMap (fun k=>z.cps[k]?) ((Jx _).map _)).toArray.toList=_
  rw [List.filterMap_map]
  generalize HT.sIx z.length 0 lo=i at *
  generalize HT.sIx z.length z.length hi - i=n at *
  have B:∀ (n i:Nat),List.filterMap ((fun k=>z.cps[k]?) ∘ (i+·)) (Jx n)=(z.cps.toList.drop i).take n:=by
   intro n
   induction n with
   | zero=>intro i;simp
   | succ n ih =>
    intro i
    rw [List.range_succ,List.filterMap_append,ih,Jf,RG]
    congr 1
    simp only [Jr,PY,Function.comp,Sw]
    cases z.cps[i+n]?<;>rfl
  rw [B]
theorem Zcl (x y:Str):(x++y).cps.toList=x.cps.toList++y.cps.toList:=by
 show (x.cps++y.cps).toList=_
 simp
theorem YX (x y:Str):(x++y).length=x.length+y.length:=by rw [Yq,Zcl,length_append,<- Yq,<- Yq]
def ZdP (c:Nat):Bool:=decide (97<=c)&&decide (c<=122)
def sgn (c:Nat):Bool:=decide (32<=c)&&decide (c<=126)
theorem ZgV {X:Cx}{K:Qa}(B:X.K=K):Ys X (.builtin "len") (fun xs H Q=>∃ x n,xs=[x]/\Ziy K x H n/\Q (.int n) H):=by subst B;exact ZiF
@[reducible] def notStar:Expr->Bool
 | .Starred ..=>false
 | _=>true
theorem Zki {e:Expr}{es:List Expr}{env:Env}(h:notStar e=true):QE (e::es) env=(false,eval e env)::QE es env:=by
 cases e<;>first | rfl | cases h
section
variable {X:Cx}{k:Nat}{x:Str}{ps:List Str}{sp:Sp}{p pos:Pos}{e:Expr}{es:List Expr}{te:TE}{t:TA}
theorem Wc (B:PE X e te)(G:PA X es t)(h:notStar e=true):PA X (e::es) (Wh te t):=YA B G (Zki h)
theorem Zc (B:PE X e te)(G:PA X es t)(h:notStar e=true:=by rfl):PA X (e::es) (Wh te t):=YA B G (Zki h)
end
section
variable {X:Cx}
theorem Zjl:Xp X (JF .FloorDiv) (rI (fun _ j=>0 < j/\j < 2 ^ 62) fun i j=>.int (i / j)):=opI fun i j _ _ _ _ _ B q=>by
 have h1:(0:Int) < j:=B.1
 have h2:j < 2 ^ 62:=B.2
 refine floordiv_int (by omega) (by rw [Jk i (by omega)];exact q) (.inl (PyProof.noPylong_of_log2 ?_))
 have G:j.natAbs≠0:=by omega
 have I:j.natAbs < 2 ^ 9000:=QD (show j.natAbs < 2 ^ 62 by omega) (SU (by decide) (by decide))
 exact (OR G).mpr I
end
section
variable {X:Cx}
end
section
variable {X:Cx}{tg:Expr}
end
theorem ZaY {prog:Qk}{w:Qt}{A:QA}{G:Addr}{fp:List Addr}{n:Nat}{P:Nat->Qb->Prop}{St:Nat->Heap->Prop}(D:Draws prog w A G fp n P St) :
 Draws prog w A G fp (n+1) (fun i v=>∃ j,i=j+1/\P j v) (fun i h=>∃ j,i=j+1/\St j h) where
 live:=fun i h ⟨j,_,st⟩=>D.live j h st
 frame:=fun i h h' ⟨j,e,st⟩ k=>⟨j,e,D.frame j h h' st k⟩
 item:=fun i s Q E hi ⟨j,e,st⟩ S=>by
  subst e
  exact D.item j s Q E (by omega) st fun x h' tk p B J=>S x h' tk ⟨j,rfl,p⟩ ⟨j+1,rfl,B⟩ J
 done:=fun s Q E ⟨j,e,st⟩ I=>by
  have:n=j:=by omega
  subst this
  exact D.done s Q E st I
section
variable {prog:Qk}{w:Qt}{A:QA}{E:Qb->Qe->Prop}{s:Qe}
theorem ZaG (x:Str)(t G:Tok) :
 Meets (Jg.«enumerate.__new__» ⟨[.type "enumerate",.str x t],[("start",.int 1 G)]⟩) (fun _ R s =>
  R (.ok (.ret (.ref (s.heap.push { cls:=.type (GO x),data:=.fields #[.str x t,.int 0 0] }).objs.size)))
   {s with heap:=(s.heap.push { cls:=.type (GO x),data:=.fields #[.str x t,.int 0 0] }).push { cls:=.type "enumerate",data:=.fields #[.none,.bool false,.ref s.heap.objs.size,Gd 1,.none,.none] } }) :=
 .of_wp fun prog w A R s h=>by
  obtain ⟨hp,g,d,tk,os⟩:=s
  have B:=sub_enumerate
  wp_walk
  refine wpAny_stack_any fun st=>Qy ?_
  split
  ·rename_i c _ _ _ _ _
   cases (c == Rz "enumerate")<;>(wp_walk using Oi;exact ⟨_,rfl,h⟩)
  ·wp_walk using Oi
   exact ⟨_,rfl,h⟩
end
section
variable {prog:Qk}{w:Qt}{A:QA}{E:Qb->Qe->Prop}{s:Qe}
theorem ZbQ (hl:QZ (.type T) "__init__"=pure (some (.builtin "object.__init__")))(W:Bind.madeBy (.type T)=pure (some B))(I:(some B != some "object.__new__")=true):
 Meets (Jg.«object.__init__» ⟨[G,a],S⟩) (fun _ R s=>s.TypeIs G T/\R (.ok (.ret .none)) s):=by
 refine Meets.of_wp fun prog w A R s U=>?_
 obtain ⟨Z,J⟩:=U
 repeat (any_goals first | assumption | wp_step)
 exact ⟨_,rfl,J⟩
theorem ZdB {T I B:String}{Bn Bi:Jg}{args:List Qb}{kw:List (Str×Qb)}{S:PySem.Spec}{Q Q₁:Qb->Qe->Prop}(ft:TypeCalled T I B)
 (hct:checkTypeCall T ⟨args,kw⟩=pure ()) (hcn:Gs I ⟨.type T::args,kw⟩=pure ())
 (U:entryFor table I=some Bn) (W:entryFor table B=some Bi) (g:Meets (Bn ⟨.type T::args,kw⟩) S) (h:S A.in1 (wants Q₁ E) s)
 (hnext:∀ obj G,Q₁ obj G->G.TypeIs obj T/\argsOk B ⟨obj::args,kw⟩/\∃ Si,Meets (Bi ⟨obj::args,kw⟩) Si/\Si A.in1 (wants (fun r Z=>r=.none/\Q obj Z) E) G) :
 Qr (Qs prog w) A (call (.type T) args kw) Q E s:=by
 obtain ⟨c,tl,hmro⟩:=ft.mro
 have q1:=ft.made
 have q2:=ft.sub
 refine Jm (Na (show Qr _ _ (callAny (.type T) _) _ _ _ from Qy ⟨JA _ (by decide +kernel),Pr F.entry_type_call ?_⟩))
 rw [Around.under_plain (weight_type_call_type T args kw) (units_type_call_type T args kw)]
 have q3:=ft.notType
 have q4:=ft.canCreate
 repeat (any_goals first | assumption | wp_step)
 refine Gk (GP ft.plain U (OS hcn (g prog w A.in1 _ s h))) fun r G hr=>?_
 rcases r with e | fl
 ·exact hr
 ·cases fl with
  | ret obj =>
   obtain ⟨hT,hok,Si,gi,hsi⟩:=hnext _ _ hr
   have q5:=ft.init.lookup
   have q6:=ft.init.bind obj
   repeat (any_goals first | assumption | wp_step)
   refine Gk (GP ft.init.plain W (ft.init.check _ _ _ _ _ _ _ _ hT hok (gi prog w A.in1 _ G hsi))) fun r₂ Z J=>?_
   rcases r₂ with e | fl₂
   ·exact J
   ·cases fl₂ with
    | ret r =>
     obtain ⟨rfl,hq⟩:=J
     repeat (any_goals first | assumption | wp_step)
    | _=>exact J.elim
  | _=>exact hr.elim
theorem Vp (a b:Qb):checkTypeCall "enumerate" ⟨[a],[("start",b)]⟩=pure ():=by kernel_rfl
theorem VD (a b:Qb):Gs "enumerate.__new__" ⟨[.type "enumerate",a],[("start",b)]⟩=pure ():=by kernel_rfl
theorem Zbd (o a b:Qb):argsOk "object.__init__" ⟨[o,a],[("start",b)]⟩:=by
 unfold argsOk
 rw [signature?_of (id:="object.__init__") (n:=['_','_','t','i','n','i','_','_']) (o:=['t','c','e','j','b','o']) (by kernel_rfl) F.owner_object]
 kernel_rfl
theorem ZaT (h:∀ h',IsEnum h' (s.heap.objs.size+1) s.heap.objs.size 1 .none->h'.IsStrIter s.heap.objs.size (GO x) x t 0->h'.objs.size=s.heap.objs.size+2 ->
  (∀ b o,s.heap.get? b=some o->h'.get? b=some o)->Q (.ref (s.heap.objs.size+1)) { s with heap:=h' }):
 Qr (Qs prog w) A (call (.type "enumerate") [.str x t] [("start",.int 1 Z)]) Q E s:=by
 have ft:=F.called_enumerate
 refine ZdB (Q₁:=fun obj B=>B.TypeIs obj "enumerate"/\Q obj B) ft (Vp _ _) (VD _ _) F.entry_enumerate_new F.entry_object_init (ZaG x t Z) ?_
  (fun obj B S=>⟨S.1,Zbd obj _ _,_,ZbQ ft.init.lookup ft.made (by decide),S.1,rfl,S.2⟩)
 generalize U:({ cls:=.type (GO x),data:=.fields #[.str x t,.int 0 0] }:Obj)=O
 have J:(s.heap.push O).objs.size=s.heap.objs.size+1:=Jl ..
 generalize I:({ cls:=.type "enumerate",data:=.fields #[.none,.bool false,.ref s.heap.objs.size,Gd 1,.none,.none] }:Obj)=G
 have W:((s.heap.push O).push G).get? (s.heap.objs.size+1)=some G:=by
  have e:=Qo (s.heap.push O) (o:=G) (by rw [<- I];rfl)
  rw [J] at e;exact e
 have hi:((s.heap.push O).push G).get? s.heap.objs.size=some O:=Qd _ (Qo _ (by rw [<- U];rfl))
 have key:Rq { s with heap:=(s.heap.push O).push G } (.ref (s.heap.objs.size+1)) "enumerate"/\Q (.ref (s.heap.objs.size+1)) { s with heap:=(s.heap.push O).push G }:=by
  refine ⟨⟨G,W,by rw [<- I]⟩,h _ (by rw [<- I] at W ⊢;exact W) ⟨O,hi,by rw [<- U],by rw [<- U];rfl⟩ (by rw [Jl,J]) fun b o y=>Qd _ (Qd _ y)⟩
 rw [<- J] at key
 exact key
end
theorem Inv.turned2 {X:Cx}{pins:List (Addr×Obj)}{σ:St}{H:Hp}{s:Qe}{h':Heap}{t':Nat}{fp:List Addr}(I:Inv X pins σ H s)(k:∀ b o,b ∉ fp->s.heap.get? b=some o->h'.get? b=some o)(J:∀ b∈fp,Xk X pins H b) :
 Inv X pins σ H { s with heap:=h',toks:=t' }:=by
 have G:∀ b u,H b=some u->b ∉ fp:=fun b u e z=>by rw [(J b z).1] at e;cases e
 refine I.step (g':=s.gens) (d':=s.drawn) (ch:=fp) (fun b hb=>?_) (fun b o _ _ B e _=>k b o B e) (fun b o _ _ B e _=>⟨o.slots,k b o B e⟩) (fun _ _ _ _ n=>n)
  (fun b o B e=>⟨o,k b o B e⟩) (fun _ _ e=>e) (fun _ _ _ e=>e) (fun b ps e=>⟨#[],by rw [e];simp⟩) (fun m Z=>?_) (fun b u e=>?_) I.bare
 ·obtain ⟨f0,U,f2,W,f4,S⟩:=J b hb
  exact ⟨W,U,f4,S⟩
 ·obtain ⟨o,es,ep,ho,r⟩:=Z
  exact ⟨o,es,ep,k _ o (fun z=>(J _ z).2.1 rfl) ho,r⟩
 ·refine (I.hok b u e).stay (fun c v B q=>k c v ?_ q) (fun _ q=>q) fun _ _ q=>q
  rcases B with z | z
  ·rw [z];exact G b u e
  ·exact G c _ z
theorem Zcs {prog:Qk}(G:A.handled=none)(B:Addr)(x:Str)(t:Tok):
 Draws prog w A B [B] x.cps.size (fun i v=>∃ c u,x.cps[i]?=some c/\v=.str ⟨#[c]⟩ u) (fun i h=>h.IsStrIter B (GO x) x t i):=by
 cases ha:x.cps.all (· < 128)
 ·have e:GO x="str_iterator":=by simp [GO,ha]
  rw [e];exact Draws.strWide G B x t
 ·have e:GO x="str_ascii_iterator":=by simp [GO,ha]
  rw [e];exact Draws.strAscii G B x t
def Ite (x:Str):It:=⟨fun i _=>i < x.cps.size,fun i H v H'=>∃ t c,H t=none/\x.cps[i]?=some c/\v=.ref t/\H'=upd H t (.tup [.int ((i:Int)+1),.str ⟨#[c]⟩]),fun i _=>x.cps.size<=i⟩
theorem Ziq {P:Qk}{w:Qt}{K:Qa}{elts:List Expr}{x1:Nat}{tp:Pos}(x:Str)(t:Tok)(e B:Addr)(J:e≠B) :
 Zax P w K (.Tuple elts x1 tp) (Ite x) [e,B] e (fun i h=>(∃ old,IsEnum h e B ((i:Int)+1) old)/\h.IsStrIter B (GO x) x t i/\i<=x.cps.size) where
 mem:=by simp
 obj:=fun i h st b hb=>by
  obtain ⟨⟨old,G⟩,⟨o,W,c,d⟩,_⟩:=st
  rcases mem_cons.mp hb with q | hb
  ·rw [q];exact ⟨_,G,fun v z=>by cases z⟩
  ·rw [mem_singleton.mp hb];exact ⟨o,W,fun v z=>by rw [d] at z;cases z⟩
 keep:=fun i h h' st k=>by
  obtain ⟨⟨old,G⟩,⟨o,W,r⟩,hi⟩:=st
  exact ⟨⟨old,k e (by simp) _ G⟩,⟨o,k B (by simp) o W,r⟩,hi⟩
 item:=by
  intro X hP hw hK hc i pins s σ H E I hf st hg
  subst hP hw hK
  obtain ⟨⟨old,G⟩,hs,hi⟩:=st
  have hlt:i < x.cps.size:=hg
  have D:=ZaY (Zcs (prog:=X.prog) (w:=X.w) (A:=X.A.in1) (I.ok.hd hc) B x t)
  refine wpAny_pyNext_enum_itemD (i:=i+1) D (show IsEnum s.heap e B ((i+1:Nat):Int) old from G) ⟨i,rfl,hs⟩ (by omega) J (by simpa using J) fun v h' tk hP hOut U hT hsz hk=>?_
  obtain ⟨j,ej,c,u,hcc,rfl⟩:=hP
  have Z:i=j:=by omega
  subst Z
  obtain ⟨j,ej,U⟩:=U
  have Z:i+1=j:=by omega
  subst Z
  have hel:e < s.heap.objs.size:=Qg G
  have hil:B < s.heap.objs.size:=by obtain ⟨o,W,_⟩:=hs;exact Qg W
  refine ⟨_,rfl,wpAny_letOwnedTupleGo_enum hOut fun h2 he2 hs2=>?_⟩
  generalize hO:({ cls:=.type "tuple",data:=.seq #[.int ((i+1:Nat):Int) tk,.str ⟨#[c]⟩ u] }:Obj)=O at hT
  have I1:Inv X pins σ (upd H s.heap.objs.size (.tup [.int ((i:Int)+1),.str ⟨#[c]⟩])) { s with heap:=s.heap.push O,toks:=tk+1 }:=by
   refine I.laid (t':=tk+1) (fun b o y=>Qd _ y) (Qh _) (show ObjOk X.prog X.w _ _ _ (.tup _) from ⟨by show 2<=Qj;decide,[.int ((i+1:Nat):Int) tk,.str ⟨#[c]⟩ u],.cons ⟨tk,rfl⟩ (.cons ⟨u,rfl⟩ .nil),?_⟩)
   rw [<- hO];exact IsTup.new _ _
  have S:=I.hok.fresh (Qh s.heap.objs.size)
  have hf2:∀ b∈[e,B],Xk X pins (upd H s.heap.objs.size (.tup [.int ((i:Int)+1),.str ⟨#[c]⟩])) b:=fun b hb=>by
   obtain ⟨f0,f1⟩:=hf b hb
   have hb':b≠s.heap.objs.size:=by
    rcases mem_cons.mp hb with q | hb
    ·rw [q];exact Qu hel
    ·rw [mem_singleton.mp hb];exact Qu hil
   exact ⟨by rw [Zh hb'];exact f0,f1⟩
  have I2:Inv X pins σ (upd H s.heap.objs.size (.tup [.int ((i:Int)+1),.str ⟨#[c]⟩])) { s with heap:=h2,toks:=tk+1 }:=by
   refine I1.turned2 (t':=tk+1) (h':=h2) (fun b o hb y=>?_) hf2
   have hbe:b≠e:=fun q=>hb (by simp [q])
   have hbi:b≠B:=fun q=>hb (by simp [q])
   rw [hs2.2 b hbe]
   rcases Heap.get?_push_cases y with ⟨q1,q2⟩ | y
   ·rw [q1,q2];exact hT
   ·exact hk b o hbe hbi y
  refine ⟨.ref s.heap.objs.size,_,I2,rfl,⟨s.heap.objs.size,c,S,hcc,rfl,rfl⟩,⟨⟨_,he2⟩,?_,hlt⟩,fun b hb=>(hf2 b hb).1⟩
  obtain ⟨o,W,r⟩:=U
  exact ⟨o,by rw [hs2.2 B J.symm];exact W,r⟩
 done:=by
  intro X hP hw hK hc i pins s σ H E I hf st hg
  subst hP hw hK
  obtain ⟨⟨old,G⟩,hs,hi⟩:=st
  have hle:x.cps.size<=i:=hg
  have D:=ZaY (Zcs (prog:=X.prog) (w:=X.w) (A:=X.A.in1) (I.ok.hd hc) B x t)
  have ei:i=x.cps.size:=by omega
  rw [ei] at hs
  obtain ⟨f0,f1,f2,f3,f4,f5⟩:=hf B (by simp)
  exact wpAny_pyNext_enum_endD D G ⟨_,rfl,hs⟩ fun h' eb=>⟨rfl,I.turned (t':=s.toks) (fun b o hb y=>eb b o hb y) f0 f1 f3 f4 f5⟩
 self:=fun _ _ _ _ _ st h=>by
  obtain ⟨⟨old,G⟩,_⟩:=st
  exact Oj G h
theorem Zaz (h1:args.any (·.1)=false)(h2:kws.any (·.1.isNone)=false)(h:Qr M A (evalArgs (.type T) true args kws) (fun a B=>Qr M A (call (.type T) a.pos a.kw) Q E B) E s):Qr M A (Tu pos (.type T) [] args kws) Q E s:=by
 unfold Tu
 refine Qf (Gh (Zs h fun a B q=>Qf (GH ?_)))
 simp only [h1,h2,Bool.or_false]
 refine Qf (Qy (Qf (Zs q fun r G I=>?_)))
 exact Qf (Gh (wpAny_point (Qy I)))
def Zmc (tl:TE):TI:=fun σ H R=>tl σ H fun v H1=>∃ x,[v]=[V.str x]/\R (Ite x) H1
section
variable {X:Cx}
theorem Zjv {x1 j:Nat}(hg:Gl X "enumerate")(hm:X.mg "enumerate"=none)(hl:PE X l tl)(S:QE [l] X.env=[(false,eval l X.env)]:=by rfl):PI X (.Tuple B x1 tp) (.Call (.Name "enumerate" p) [l] [⟨some "start",.Constant (.int 1) j kp,kpos⟩] pos) (Zmc tl):=by
 intro pins s σ H R I h
 have ha:PA X [l] (Wh tl Xo):=YA hl Za S
 have hk:PK X [⟨some "start",.Constant (.int 1) j kp,kpos⟩] (Wh (tC (.int 1)) Xo):=Zlf Zg ZmL
 refine QX (Ux I hg hm boot_enumerate (Zaz (by rw [S];rfl) rfl (evalArgs_kw2 rfl ?_ S)))
 refine Zs (ha pos pins s σ H (fun vs H1=>∃ x,vs=[V.str x]/\R (Ite x) H1) I h) fun us s1 U=>?_
 obtain ⟨vs,H1,I1,r1,x,e,q⟩:=U
 subst e
 obtain ⟨u,rfl,t,rfl⟩:=Yo r1
 refine Zs (hk pos pins s1 σ H1 (fun vs H2=>vs=[V.int 1]/\H2=H1) I1 ⟨rfl,rfl⟩) fun ws s2 U=>?_
 obtain ⟨zs,H2,G,r2,e1,e2⟩:=U
 subst e1 e2
 obtain ⟨u',rfl,t',rfl⟩:=Yo r2
 refine ZaT fun h' Z W hsz J=>Oj Z ?_
 refine ⟨s2.heap.objs.size+1,[s2.heap.objs.size+1,s2.heap.objs.size],_,_,H2,rfl,G.kept (t':=s2.toks) J,Ziq x t _ _ (Nat.succ_ne_self _),⟨⟨_,Z⟩,W,QH _⟩,fun b hb=>?_,q⟩
 rcases mem_cons.mp hb with z | hb
 ·rw [z];exact G.fpOk (GY _) (G.hok.fresh (GY _))
 ·rw [mem_singleton.mp hb];exact G.fpOk (Qh _) (G.hok.fresh (Qh _))
end
theorem ZiK {x:Str}{g:TG}{tb:TS}{D:Yj}{σ:St}{H:Hp}(I:Nat->St->Hp->Prop)(U:I 0 σ H)
 (hs:∀ i c t σ H,x.cps[i]?=some c->H t=none->I i σ H->g (.ref t) σ (upd H t (.tup [.int ((i:Int)+1),.str ⟨#[c]⟩])) fun G H2=>tb { D with nx:=I (i+1),ct:=I (i+1),bk:=D.nx } G H2) (Z:∀ σ H,I x.cps.size σ H->D.nx σ H) :
 ∃ W:Nat->Nat->St->Hp->Prop,(∃ m,W 0 m σ H)/\∀ i m σ H,W i m σ H ->
  ((Ite x).stop i H/\D.nx σ H)\/((Ite x).go i H/\∃ N:St->Hp->Prop,(∀ B H',N B H'->∃ S,S < m/\W (i+1) S B H')/\∀ y H',(Ite x).yld i H y H'->g y σ H' fun G H2=>tb { D with nx:=N,ct:=N,bk:=D.nx } G H2):=by
 refine ⟨fun i m σ H=>m=x.cps.size - i/\i<=x.cps.size/\I i σ H,⟨x.cps.size,by simp,QH _,U⟩,?_⟩
 rintro i m σ H ⟨rfl,hi,p⟩
 by_cases J:i < x.cps.size
 ·refine .inr ⟨J,I (i+1),fun B H' p'=>⟨x.cps.size - (i+1),by omega,rfl,J,p'⟩,fun y H' z=>?_⟩
  obtain ⟨t,c,e1,e2,e3,e4⟩:=z
  subst e3 e4
  exact hs i c t σ _ e2 e1 p
 ·have e:i=x.cps.size:=by omega
  subst e
  exact .inl ⟨Qh _,Z σ H p⟩
end L2
namespace L2
open PySem PySem.W PySem.Spec PyProof.Rows
def Zaw (ks:List Str)(vs out:List Qb):Prop:=∃ ps:List (Str×Qb),ps.Perm (ks.zip vs)/\out=ps.map (·.2)/\ps.Pairwise fun p q=>¬ (q.1.cps.toList < p.1.cps.toList)
theorem Zey:∀{keys:List Qb}{ks:List Str}(_:Pa keys ks)(vs:List Qb),(keys.zip vs).map (fun p=>(strOf p.1,p.2))=ks.zip vs
 | _,_,.nil,vs=>rfl
 | _,_,.cons x t h,[]=>rfl
 | _,_,.cons x t h,v::vs=>by
  rw [List.zip_cons_cons,map_cons,Zey h vs];rfl
theorem Zjm {keys:Array Qb}{vs:List Qb}{ks:List Str}(W:Pa keys.toList ks){xs:Array Keyed}(hp:xs.Perm (keys.zip vs.toArray))(hs:SortedToK strKind xs xs.size):Zaw ks vs (xs.map (·.2)).toList:=by
 have Z:xs.toList.Perm (keys.toList.zip vs):=by
  have:=Array.perm_iff_toList_perm.mp hp
  rwa [ksk_zip] at this
 refine ⟨xs.toList.map fun p=>(strOf p.1,p.2),?_,?_,?_⟩
 ·have:=Z.map fun p=>(strOf p.1,p.2)
  rwa [Zey W] at this
 ·rw [Array.toList_map,map_map];rfl
 ·rw [JL,List.pairwise_iff_getElem]
  intro i j hi hj S
  have J:i < xs.size:=by simpa using hi
  have I:j < xs.size:=by simpa using hj
  have B:∀ m (U:m < xs.size),KK strKind xs m=(strOf xs[m].1).cps.toList:=fun m U=>by
   have G:xs[m]∈keys.toList.zip vs:=Z.mem_iff.mp (by simp)
   have h1:=(of_mem_zip (show (xs[m].1,xs[m].2)∈_ from G)).1
   obtain ⟨x,t,e⟩:=W.all _ h1
   rw [KK_str U (x:=x) (t:=t) (q:=xs[m].2) (by rw [<- e])]
   rw [e];rfl
  have h:=hs i j (GF S) I
  rw [B i J,B j I] at h
  simpa [KeyOrd.kle] using h
theorem Zhq {keys:Array Qb}{vs:List Qb}{ks:List Str}(B:Pa keys.toList ks):KeysOf strKind (keys.zip vs.toArray):=by
 intro p hp
 rw [ksk_zip] at hp
 obtain ⟨x,t,e⟩:=B.all _ (of_mem_zip (show (p.1,p.2)∈_ from hp)).1
 exact ⟨x.cps.toList,by rw [e]⟩
theorem Zhr (B:Pa keys.toList ks)(h2:2<=keys.size):keyKind' keys=pure oneType':=by
 obtain ⟨l⟩:=keys
 match l,B,h2 with
 | [],_,h2=>simp at h2
 | [_],_,h2=>simp at h2
 | v₁::v₂::r,B,_=>exact keyKind_strs B
theorem ZcG :∀{vs:List Qb}{B:List Str},Pa vs B->Pa (vs++[.str x t]) (B++[x])
 | _,_,.nil=>.cons x t .nil
 | _,_,.cons y u h=>.cons y u (ZcG h)
section
variable {prog:Qk}{w:Qt}{A:QA}{E:Qb->Qe->Prop}{s:Qe}{a kS:Addr}{vs:List Qb}{ks:List Str}{keys:Array Qb}{e e1:Nat}{P:Rf->Qe->Prop}
theorem Zbu {st:SortSt}(nk:s.heap.get? kS=some (Gn "list" keys e))(na:s.heap.get? a=some (Gn "list" #[] e1))(U:kS≠a)(hk:Pa keys.toList ks)(hlen:ks.length=vs.length)(h64:vs.length < 64)
 (hp:(Rt st).Perm (keys.zip vs.toArray)) (hs:SortedToK strKind (Rt st) (Rt st).size) (hfl:failedOf st=none)
 (h:∀ h' tk I c,(∀ b o,b≠a->b≠kS->s.heap.get? b=some o->h'.get? b=some o)->h'.get? a=some (Gn "list" I c)->Zaw ks vs I.toList->P (.done (.ret .none)) { s with heap:=h',toks:=tk }) :
 Qr (Qs prog w) A (ksk_tail a false e1 (.ref kS) st) P E s:=by
 have hsz:keys.size=vs.length:=by have:=hk.length;rw [GS] at this;omega
 have G:(Rt st).size=vs.length:=by rw [hp.size_eq,Array.size_zip,hsz,size_toArray,Ol]
 have s1:=Js s.heap kS (QU fun _=>(#[]:Array Qb))
 have B:(s.heap.update kS (QU fun _=>(#[]:Array Qb))).get? a=some (Gn "list" #[] e1):=(s1.2 a U.symm).trans na
 have s2:=Js (s.heap.update kS (QU fun _=>(#[]:Array Qb))) a (QU fun _=>(Rt st).map (·.2))
 obtain ⟨S,Z⟩:∃ S,((s.heap.update kS (QU fun _=>(#[]:Array Qb))).update a (QU fun _=>(Rt st).map (·.2))).get? a=some (Gn "list" ((Rt st).map (·.2)) S):=⟨_,Sq B fun _=>(Rt st).map (·.2)⟩
 unfold ksk_tail
 try dsimp only
 refine Qf (Tq nk rfl ?_ (by rw [hsz,QR];omega) (QH _))
 refine Qf (wpAny_letGo (Qf (seqEpoch_at B rfl ?_)))
 refine Qf (Tq B rfl ?_ (QH _) (Qq (Jn (show ((Rt st).map (·.2)).size=vs.length by rw [Array.size_map];exact G)) (by rw [QR];omega)))
 rw [hfl]
 simp only [bne_self_eq_false,Gf,if_false]
 exact Qy (h _ _ _ S (fun b o J W y=>(s2.2 b J).trans ((s1.2 b W).trans y)) Z (Zjm hk hp hs))
theorem Zie (nk:s.heap.get? kS=some (Gn "list" keys e))(na:s.heap.get? a=some (Gn "list" #[] e1))(U:kS≠a)(S:Pa keys.toList ks)(G:ks.length=vs.length)(J:vs.length < 64)
 (h:∀ h' tk W c,(∀ b o,b≠a->b≠kS->s.heap.get? b=some o->h'.get? b=some o)->h'.get? a=some (Gn "list" W c)->Zaw ks vs W.toList->P (.done (.ret .none)) { s with heap:=h',toks:=tk }) :
 Qr (Qs prog w) A (ksk_end a false vs.toArray e1 (.ref kS) keys) P E s:=by
 have hsz:keys.size=vs.length:=by have:=S.length;rw [GS] at this;omega
 have I:(keys.zip vs.toArray).size=vs.length:=by rw [Array.size_zip,hsz,size_toArray,Ol]
 unfold ksk_end
 simp only [Gf,if_false]
 by_cases h2:vs.toArray.size < 2
 ·rw [if_pos h2,if_pos h2]
  refine Qf (Qy ?_)
  rw [StateT.run_pure]
  refine Qf (Qy ?_)
  try dsimp only
  refine Zbu (st:=SortSt.mk' general' (keys.zip vs.toArray) #[] 7 none) nk na U S G J (Nb _) ?_ rfl h
  intro i j hij hj
  have Z:j < (keys.zip vs.toArray).size:=hj
  rw [I] at Z
  rw [size_toArray] at h2
  have:i=j:=by omega
  subst this
  exact KeyOrd.kle_refl _
 ·rw [if_neg h2,if_neg h2]
  rw [size_toArray] at h2
  rw [Zhr S (by rw [hsz];omega)]
  refine Qf (Qy (Qf (QW (wpS_sortRunsK (κ:=strKind) strKind_oneLt (a₀:=keys.zip vs.toArray) (st:=SortSt.mk' oneType' (keys.zip vs.toArray) #[] 7 none)
   (Q:=fun _ B=>(Rt B).Perm (keys.zip vs.toArray)/\failedOf B=none/\SortedToK strKind (Rt B) (keys.zip vs.toArray).size)
   (Zhq S) ⟨Nb _,rfl,rfl,rfl⟩ (by rw [I];omega) (by rw [I];exact J) fun B a1 a2 a3=>⟨a1,a2,a3⟩) ?_ fun _ _ y=>y)))
  rintro ⟨⟨⟩,B⟩ s' ⟨rfl,hp,hf,hs⟩
  try dsimp only
  exact Zbu nk na U S G J hp (by rw [hp.size_eq];exact hs) hf h
def ZbE (prog:Qk)(w:Qt)(A:QA)(s:Qe)(a:Addr)(f:Qb)(vs:List Qb)(ks:List Str):Prop :=
 ∀ (i:Nat) (v:Qb) (k:Str),vs[i]?=some v->ks[i]?=some k->∀ (h:Heap) (tk:Nat),(∀ b o,b≠a->s.heap.get? b=some o->h.get? b=some o)->s.heap.objs.size<=h.objs.size->∀ Q':Qb->Qe->Prop,
  (∀ h' tk' t,(∀ b o,h.get? b=some o->h'.get? b=some o)->h.objs.size<=h'.objs.size->Q' (.str k t) { s with heap:=h',toks:=tk' })->Qr (Qs prog w) A (call f [v]) Q' (fun _ _=>False) { s with heap:=h,toks:=tk }
theorem Zgr {s0:Qe}(hs0:∃ tk,s={ s0 with heap:=s.heap,toks:=tk })(k0:∀ b o,b≠a->s0.heap.get? b=some o->s.heap.get? b=some o)(z0:s0.heap.objs.size<=s.heap.objs.size)(hkn:s0.heap.objs.size<=kS)(nk:s.heap.get? kS=some (Gn "list" #[] 0))(na:s.heap.get? a=some (Gn "list" #[] e1))(hka:kS≠a)(hlen:ks.length=vs.length)(h64:vs.length < 64)(turn:ZbE prog w A s0 a f vs ks)(h:∀ h' tk S c,(∀ b o,b≠a->s0.heap.get? b=some o->h'.get? b=some o)->h'.get? a=some (Gn "list" S c)->Zaw ks vs S.toList->P (.done (.ret .none)) { s0 with heap:=h',toks:=tk }):
 Qr (Qs prog w) A (ksk_rest a f false vs.toArray e1 (.ref kS)) P E s:=by
 obtain ⟨tk0,hs0⟩:=hs0
 unfold ksk_rest
 refine Qf (wpAny_rule ?_)
 first
  | rw [List.forIn_toArray]
  | (rw [<- Array.forIn_toList];simp only [List.toList_toArray])
 refine Qf (ksk_fold (fun i s'=>∃ h' tk G c,s'={ s0 with heap:=h',toks:=tk }/\(∀ b o,b≠a->s0.heap.get? b=some o->h'.get? b=some o)/\s0.heap.objs.size<=h'.objs.size/\h'.get? kS=some (Gn "list" G c)/\h'.get? a=some (Gn "list" #[] e1)/\Pa G.toList (ks.take i)) vs 0 s
  ⟨s.heap,tk0,#[],0,hs0,k0,z0,nk,na,by simpa using StrsAre.nil⟩ ?step ?done)
 case step =>
  rintro j x s' hx ⟨h',tk,G,c,rfl,k1,z1,I,U,W⟩
  simp only [Nat.zero_add] at W ⊢
  have hj:j < vs.length:=(Qi.mp hx).1
  obtain ⟨k,hkj⟩:∃ k,ks[j]?=some k:=⟨_,getElem?_eq_getElem (by omega)⟩
  have hz:G.size<=vs.length:=by
   have h1:=W.length
   rw [GS,length_take] at h1
   omega
  refine Qf (wpAny_attempt (QW (turn j x k hx hkj h' tk k1 z1 (fun v Z=>∃ g J B,v=.str k B/\Z={ s0 with heap:=g,toks:=J }/\(∀ b o,h'.get? b=some o->g.get? b=some o)/\h'.objs.size<=g.objs.size) (fun g J B q z=>⟨g,J,B,rfl,rfl,q,z⟩)) (fun v Z he=>?_) fun _ _ hF=>hF.elim))
  obtain ⟨g,J,B,rfl,rfl,k2,z2⟩:=he
  try dsimp only
  have nk2:=k2 _ _ I
  have na2:=k2 _ _ U
  have s1:=Js g kS (QU (·.push (.str k B)))
  obtain ⟨c2,hc2⟩:∃ c2,(g.update kS (QU (·.push (.str k B)))).get? kS=some (Gn "list" (G.push (.str k B)) c2):=⟨_,Sq nk2 (·.push (.str k B))⟩
  have ek:ks.take (j+1)=ks.take j++[k]:=by rw [Jf,hkj];simp
  have ea:(G.push (PJ k B)).toList=G.toList++[PJ k B]:=by simp
  refine Qf (Tq nk2 rfl ?_ (by rw [QR];omega) (Qq (Jn (Array.size_push ..)) (by rw [QR];omega)))
  refine Qy ⟨rfl,_,_,G.push (.str k B),c2,rfl,fun b o hb y=>?_,Qq (Qq z1 z2) (Jn (TK ..).symm),hc2,(s1.2 a hka.symm).trans na2,by rw [ea,ek];exact ZcG W⟩
  exact (s1.2 b (fun z=>by rw [z] at y;exact absurd (Qg y) (QV.mpr hkn))).trans (k2 _ _ (k1 b o hb y))
 case done =>
  rintro s' ⟨h',tk,G,c,rfl,k1,z1,I,U,W⟩
  have hk':Pa G.toList ks:=by
   have e3:ks.take (0+vs.length)=ks:=JM (by omega)
   rw [e3] at W
   exact W
  try dsimp only
  refine Qf (listItems_at I rfl ?_)
  refine Zie I U hka hk' hlen h64 fun h3 tk3 S c3 k3 a3 o3=>h h3 tk3 S c3 (fun b o hb y=>k3 b o hb (fun z=>?_) (k1 b o hb y)) a3 o3
  rw [z] at y
  exact absurd (Qg y) (QV.mpr hkn)
theorem Zgs {n:Nat}(U:s.heap.get? a=some (Gn "list" vs.toArray n))(I:ks.length=vs.length)(W:vs.length < 64)(J:ZbE prog w A s a f vs ks)(h:∀ h' tk S c,(∀ b o,b≠a->s.heap.get? b=some o->h'.get? b=some o)->h'.get? a=some (Gn "list" S c)->Zaw ks vs S.toList->P (.done (.ret .none)) { s with heap:=h',toks:=tk }):
 Qr (Qs prog w) A (ksk_tree a f false) P E s:=by
 have Z:a < s.heap.objs.size:=Qg U
 have s1:=Js s.heap a (QU fun _=>(#[]:Array Qb))
 obtain ⟨e1,G⟩:∃ e1,(s.heap.update a (QU fun _=>(#[]:Array Qb))).get? a=some (Gn "list" #[] e1):=⟨_,Sq U fun _=>#[]⟩
 have B:((s.heap.update a (QU fun _=>(#[]:Array Qb))).push (Gn "tuple" vs.toArray 0)).objs.size=s.heap.objs.size+1:=by rw [RH,TK]
 unfold ksk_tree
 refine Qf (listItems_at U rfl ?_)
 refine Qf (Tq U rfl ?_ (by rw [size_toArray,QR];omega) (QH _))
 refine Qf (seqEpoch_at G rfl (Qf (wpAny_newTuple ?_ (by show vs.length<=_;rw [QR];omega))))
 refine Qf (wpAny_newList ?_ (QH _))
 refine Gh ?_
 refine Zgr (s0:=s) (s:={ s with heap:=((s.heap.update a (QU fun _=>(#[]:Array Qb))).push (Gn "tuple" vs.toArray 0)).push (Gn "list" #[] 0) }) (kS:=((s.heap.update a (QU fun _=>(#[]:Array Qb))).push (Gn "tuple" vs.toArray 0)).objs.size)
  ⟨s.toks,rfl⟩ (fun b o hb y=>Qd _ (Qd _ ((s1.2 b hb).trans y))) ?_ (by rw [B];exact GY _) (Qo _ rfl) (Qd _ (Qd _ G)) (by rw [B];exact GZ (JN Z)) I W J h
 show s.heap.objs.size<=(((s.heap.update a _).push _).push _).objs.size
 rw [RH,B];omega
theorem Zlt (hl:s.heap.IsList l vs.toArray)(J:ks.length=vs.length)(U:vs.length < 64)(ht:∀ x,Jg.«list.sort» ⟨[.ref x],[(Qw "key",f)]⟩=ksk_tree x f false)(S:∀ (h1:Heap) (Z:Nat),(∀ b o,s.heap.get? b=some o->h1.get? b=some o)->s.heap.objs.size<=h1.objs.size->ZbE prog w A.in1.in1 { s with heap:=h1,toks:=Z } (s.heap.objs.size+1) f vs ks)(h:∀ h' tk B c,(∀ b o,s.heap.get? b=some o->h'.get? b=some o)->h'.get? (s.heap.objs.size+1)=some (Gn "list" B c)->Zaw ks vs B.toList->Q (.ref (s.heap.objs.size+1)) { s with heap:=h',toks:=tk }):
 Qr (Qs prog w) A (call (.builtin "sorted") [.ref l] [(Qw "key",f)]) Q E s:=by
 refine call_function_entry_kw kind_sorted plain_sorted entry_sorted (ksk_s1 _ _) ?_
 unfold Jg.«sorted»
 refine Qf (m:=checkCount "sorted" 1 1 _) (Qy ?_)
 refine Qf (collect_list hl ?_ (by rw [QR];omega))
 refine Qf (wpAny_newList ?_ (by rw [QR];omega))
 generalize hg:(s.heap.push (Gn "list" #[] 0)).update s.heap.objs.size (QU (·++vs.toArray))=g
 have hsz:g.objs.size=s.heap.objs.size+1:=by rw [<- hg,TK,RH]
 have kg:∀ b o,s.heap.get? b=some o->(g.push (Gn "list" vs.toArray 0)).get? b=some o:=fun b o q=>by
  have G:b < s.heap.objs.size:=Qg q
  rw [Om _ _ _ (by rw [hsz];exact Qu (JN G)),<- hg,Py _ _ _ _ (Qu G),Om _ _ _ (Qu G)]
  exact q
 have I:(g.push (Gn "list" vs.toArray 0)).get? (s.heap.objs.size+1)=some (Gn "list" vs.toArray 0):=by rw [<- hsz];exact Qo _ rfl
 show Qr _ _ _ _ _ { s with heap:=g.push (Gn "list" vs.toArray 0) }
 rw [hsz]
 refine Qf (Gh (wpAny_call_entry_kw slot_list_sort ⟨_,I,rfl⟩ entry_list_sort ?body (ksk_l1 _ _)))
 show Qr (Qs prog w) A.in1.in1 (Jg.«list.sort» ⟨[.ref (s.heap.objs.size+1)],[(Qw "key",f)]⟩) _ _ _
 rw [ht]
 have W:s.heap.objs.size<=(g.push (Gn "list" vs.toArray 0)).objs.size:=by rw [RH,hsz];omega
 refine Zgs (s:={ s with heap:=g.push (Gn "list" vs.toArray 0) }) I J U (S (g.push (Gn "list" vs.toArray 0)) s.toks kg W) fun h' tk B c k3 a3 o3=>⟨_,rfl,?_⟩
 exact Qy ⟨_,rfl,h h' tk B c (fun b o y=>k3 b o (Qu (JN (Qg y))) (kg b o y)) a3 o3⟩
end
def XX (base:Heap)(mg:Str->Option Qb):Prop:=∃ bm ob,mg "__builtins__"=some (.ref bm)/\bm≠PN/\base.get? bm=some ob/\ob.cls=.type "module"/\ob.dict=some PN/\ob.data=.plain
def ZfK (ts:List Addr)(H:Hp):Prop:=∀ b,H b=none\/(∃ o xs,H b=some (.frz o (.lst xs)))\/(H b=some (.tbl #[])/\b∈ts)
theorem Zht {P:Qk}{w:Qt}{K:Qa}{mg mb:Str->Option Qb}{CX:Ui}{k:Nat}{fa a:Addr}{fd:Qn}{x:Str}{sp:Sp}{B:Qe}{vs:List Qb}{ns:List Int}{ts:List Addr}
   (KX:K.In B.heap) (hns:B.heap.Ns Ql mg) (hb:B.heap.Ns PN mb) (hbb:∀ x:Str,x≠"__name__"->mb x=JD x) (hlim:B.heap.NoLimit) (hg:B.gens=#[]) (hbm:XX B.heap mg)
   (ha:B.heap.get? a=some { cls:=.type "list",data:=.seq vs.toArray }) (hi:Nh vs ns) (hl:ns.length<=Qj) (hr:Room k Rc)
   (I:∀ b∈ts,B.heap.get? b=some (OB #[])/\K.lookup b=none/\∃ c,CodeHd B.heap c b)
   (F:∀ base:Heap,K.In base->base.Ns Ql mg->XX base mg->FnOk P w K mg base CX k fa fd [x] sp) (hbind:∀ (s:Qe) (u:Qb),PD s fd ⟨[u],[]⟩ [(x,u)])
   (hsp:∀ H:Hp,ZfK ts H->SqL K H a (ns.map V.int)->(∀ b∈ts,H b=some (.tbl #[]))->sp [.ref a] H (fun v _=>v=.bl true) fun _ _ _=>False)
   (hCX:∀ H e s',CX [] H B (fun _ _ _=>False) e s'->False) :
   Ja (Qs P w) Rc (.call (.ref fa) ⟨[.ref a],[]⟩) (fun r s'=>r=.ok (.ret (.bool true))/\OldK B.heap s'.heap/\s'.os=B.os/\Pz s'.gens) B:=by
 have rv:=ZcN hi
 have lenV:=hi.length
 have nta:a ∉ ts:=fun z=>by
   have e:=(I a z).1
   rw [ha] at e;cases e
 have U : ∀ H:Hp,ZfK ts H->SqL K H a (ns.map V.int)->HOk P w H B.heap->(∀ b∈ts,H b=some (.tbl #[]))->(∀ b,H b≠none->b=a\/b∈ts)->(∀ b,H b≠none->K.lookup b=none) ->
     Ja (Qs P w) Rc (.call (.ref fa) ⟨[.ref a],[]⟩) (fun r s'=>r=.ok (.ret (.bool true))/\OldK B.heap s'.heap/\s'.os=B.os/\Pz s'.gens) B:=by
   intro H hO hS hok hT hA hK
   have G:∀ {b:Addr} {o:Obj},B.heap.get? b=some o->H b=none->(Uq B.heap H).get? b=some o:=fun y n=>ZiR y n
   have Z:∀ {b:Addr} {o:Obj},B.heap.get? b=some o->(∀ its n,o.data≠.seq its n)->(∀ fs,o.data≠.fields fs)->H b=none:=fun {b o} y d1 d2=>by
     cases q:H b with
     | none=>rfl
     | some u =>
       rcases hA b (by rw [q];simp) with z | z
       · subst z
         rw [ha] at y;cases y
         exact absurd rfl (d1 _ _)
       · rw [(I b z).1] at y;cases y
         exact absurd rfl (d2 _)
   have S:∀ {b:Addr} {m:Str->Option Qb},B.heap.Ns b m->(Uq B.heap H).Ns b m:=fun {b m} ⟨o,es,ep,y,d,r⟩=>⟨o,es,ep,G y (Z y (fun its n z=>by rw [d] at z;cases z) fun fs z=>by rw [d] at z;cases z),d,r⟩
   have hKb:K.In (Uq B.heap H):=fun b o y=>G (KX b o y) (by
     cases q:H b with
     | none=>rfl
     | some u=>rw [hK b (by rw [q];simp)] at y;cases y)
   have hBm:XX (Uq B.heap H) mg:=by
     obtain ⟨bm,ob,h1,h2,h3,h4,h5,h6⟩:=hbm
     exact ⟨bm,ob,h1,h2,G h3 (Z h3 (fun its n z=>by rw [h6] at z;cases z) fun fs z=>by rw [h6] at z;cases z),h4,h5,h6⟩
   have hM:Mod K mg (Uq B.heap H):=⟨hKb,S hns,⟨mb,S hb,hbb⟩,let ⟨mc,h1,h2⟩:=hlim;⟨mc,S h1,h2⟩⟩
   have e0:Env0 P w K mg (Uq B.heap H) Rc [] B H:=⟨rfl,hM,fun b o e=>ZkI e,Jn (Zhg _ _),trivial,fun b hb=>absurd (show b∈([]:List Addr) from hb) (by simp),hok,.of_eq hg⟩
   refine Gk ((F _ hKb (S hns) hBm).run Rc [] B H ⟨[.ref a],[]⟩ [.ref a] [.ref a] _ _ hr e0 (hbind B (.ref a)) (.cons rfl .nil) (hsp H hO hS hT)) fun r s' h=>?_
   cases r with
   | error e=>exact (hCX H e s' h).elim
   | ok fl =>
     cases fl with
     | next=>exact QL h
     | brk=>exact QL h
     | cont=>exact QL h
     | ret u =>
       obtain ⟨v,H',os,bare,un,W,r',q⟩:=h
       have q':v=.bl true:=q
       subst q'
       obtain rfl:u=Gy true:=r'
       have key:∀ b o,B.heap.get? b=some o->s'.heap.get? b=some o\/(b∈ts/\∃ more:Array Qb,s'.heap.get? b=some (OB (#[]++more))):=fun b o y=>by
         cases q:H b with
         | none=>exact .inl (un.keep b o y q (by intro z;exact absurd (show b∈([]:List Addr) from z) (by simp)) (by simp))
         | some u =>
           rcases hO b with z | ⟨ob,xs,z⟩ | ⟨z,zt⟩
           · rw [q] at z;cases z
           · have z2:=un.frzs b ob _ z
             obtain ⟨e1,_⟩:=hok b _ z
             obtain ⟨e2,_⟩:=W b _ z2
             rw [y] at e1;cases e1
             exact .inl e2
           · obtain ⟨more,z2⟩:=un.tbls b #[] z
             exact .inr ⟨zt,more,show s'.heap.get? b=some { cls:=.none,data:=.fields (#[]++more) } from W b _ z2⟩
       refine ⟨rfl,⟨fun b o y=>?_,fun b o y=>?_⟩,os,bare⟩
       · rcases key b o y with z | ⟨zt,more,z⟩
         · exact .inl z
         · obtain ⟨t1,_,c,t3⟩:=I b zt
           rw [t1] at y;cases y
           exact .inr (.inl ⟨(t3.tab t1).isCodeTable,rfl,#[],more,rfl,z⟩)
       · rcases key b o y with z | ⟨zt,more,z⟩
         · exact ⟨_,z⟩
         · exact ⟨_,z⟩
 have okT:∀ (H:Hp) (b:Addr),b∈ts->ObjOk P w H B.heap b (.tbl #[]):=fun H b hb=>(I b hb).1
 cases hk:K.lookup a with
 | some o =>
   have e:=KX a o hk
   rw [ha] at e
   cases e
   refine U (fun b=>if b∈ts then some (.tbl #[]) else none) (fun b=>?_) (.inr ⟨_,vs.toArray,_,hk,rfl,rfl,rfl,by rw [size_toArray,lenV];exact hl,by simpa using rv⟩) (fun b u z=>?_) (fun b hb=>if_pos hb) (fun b z=>?_) (fun b z=>?_)
   · by_cases hb:b∈ts
     · exact .inr (.inr ⟨if_pos hb,hb⟩)
     · exact .inl (if_neg hb)
   · by_cases hb:b∈ts
     · have J:=(if_pos hb).symm.trans z
       cases J
       exact okT _ b hb
     · have J:=(if_neg hb).symm.trans z
       cases J
   · by_cases hb:b∈ts
     · exact .inr hb
     · exact absurd (if_neg hb) z
   · by_cases hb:b∈ts
     · exact (I b hb).2.1
     · exact absurd (if_neg hb) z
 | none =>
   refine U (fun b=>if b=a then some (.frz { cls:=.type "list",data:=.seq vs.toArray } (.lst (ns.map V.int))) else if b∈ts then some (.tbl #[]) else none) (fun b=>?_) (.inl (.inr ⟨{ cls:=.type "list",data:=.seq vs.toArray },if_pos rfl⟩)) (fun b u z=>?_)
     (fun b hb=>(if_neg (fun z:b=a=>nta (by rw [<- z];exact hb))).trans (if_pos hb)) (fun b z=>?_) (fun b z=>?_)
   · by_cases h1:b=a
     · exact .inr (.inl ⟨_,_,if_pos h1⟩)
     · by_cases hb:b∈ts
       · exact .inr (.inr ⟨(if_neg h1).trans (if_pos hb),hb⟩)
       · exact .inl ((if_neg h1).trans (if_neg hb))
   · by_cases h1:b=a
     · have J:=(if_pos h1).symm.trans z
       cases J
       subst h1
       exact ⟨ha,by rw [length_map];exact hl,vs,_,rv,ha⟩
     · have z1:=(if_neg h1).symm.trans z
       by_cases hb:b∈ts
       · have J:=(if_pos hb).symm.trans z1
         cases J
         exact okT _ b hb
       · have J:=(if_neg hb).symm.trans z1
         cases J
   · by_cases h1:b=a
     · exact .inl h1
     · by_cases hb:b∈ts
       · exact .inr hb
       · exact absurd ((if_neg h1).trans (if_neg hb)) z
   · by_cases h1:b=a
     · rw [h1];exact hk
     · by_cases hb:b∈ts
       · exact (I b hb).2.1
       · exact absurd ((if_neg h1).trans (if_neg hb)) z
theorem walk_ofT {l:Sr}{n k:Nat}{q:Qk}{J:List Str}{XP:(Str->Option Qb)->Heap->Prop}{YP:Qt->Heap->Prop}{d:DefRec}{K:Params->Qa}{CX:Qt->Ui}{sp:Qt->Sp}{x:Str}{ts:List Addr}
 (hn:l.most=some n) (hn2:n<=Qj) (hdf:d.params.defaults=[]) (hr:Room k Rc)
 (hY:∀ (w:Qt) (h:Heap),YP w h->(K w.params).In h/\∀ b∈ts,h.get? b=some (OB #[]))
 (hK:∀ (w:Qt) (b:Addr),b∈ts->(K w.params).lookup b=none/\∃ c,PZ (K w.params) c b=true)
 (F:∀ (w:Qt) (mg:Str->Option Qb) (fa:Addr) (h:Heap),(K w.params).In h->h.Ns Ql mg->mg d.name=some (.ref fa) ->
  ∃ fd:Qn,(∀ (s:Qe) (u:Qb),PD s fd ⟨[u],[]⟩ [(x,u)]) /\
   ∀ base:Heap,(K w.params).In base->base.Ns Ql mg->XX base mg->FnOk l.prog w (K w.params) mg base (CX w) k fa fd [x] (sp w))
 (hsp:∀ (w:Qt) (H:Hp) (a:Addr) (ns:List Int),ns.length<=n->ZfK ts H->SqL (K w.params) H a (ns.map V.int)->(∀ b∈ts,H b=some (.tbl #[]))->sp w [.ref a] H (fun v _=>v=.bl true) fun _ _ _=>False)
 (hCX:∀ (w:Qt) (H:Hp) (s:Qe) (e:Qb) (s':Qe),CX w [] H s (fun _ _ _=>False) e s'->False) :
 PySem.W.WalkO q J XP YP l.row.toRowW d [] (fun f vs=>PySem.call f vs):=by
 refine Att.attach_call hn hdf fun w s₀ U mg mb fa o pm cd doc a vs ns G Y ho hd hcd hmg Z I B hg=>?_
 obtain ⟨KX,hT⟩:=hY w _ Y
 obtain ⟨fd,hb,hF⟩:=F w mg fa _ KX G.T.g hmg
 exact Zht (ts:=ts) KX G.T.g G.T.b G.T.builtins G.T.nolimit hg G.T.bmain Z I (Qq B hn2) hr (fun b S=>⟨hT b S,(hK w b S).1,let ⟨c,hc⟩:=(hK w b S).2;⟨c,OT KX hc⟩⟩) hF hb (fun H hO hS hTb=>hsp w H a ns B hO hS hTb) fun H e s'=>hCX w H U e s'
abbrev VZ (apos:Pos):Arguments:={ posonlyargs:=[],args:=[{ arg:="pair",annotation:=none,pos:=apos }],vararg:=none,kwonlyargs:=[],kw_defaults:=[],kwarg:=none,defaults:=[] }
abbrev Uw (p1 p2 p3:Pos):Expr:=.Subscript (.Name "pair" p1) (.Constant (.int 0) 0 p2) p3
abbrev Ua:Scope:={ kind:=.function,names:=[("pair",.local)],isGenerator:=false,isCoroutine:=false,more:=[] }
section
variable {prog:Qk}{w:Qt}{A:QA}{E:Qb->Qe->Prop}{s:Qe}
theorem ZiS (ho:s.heap.get? q=some { cls:=.type "function",data:=.func (kla_fn "<lambda>" qual (VZ apos) (Uw p1 p2 p3) Ua [] pm Z ct) })(hcd:s.heap.CodeRec Z qual)(U:s.heap.NoLimit)(S:A.depth < SJ)(ht:OO s.heap t G)(h0:G[0]?=some k)(hQ:∀ h' tk,(∀ b o,s.heap.get? b=some o->h'.get? b=some o)->s.heap.objs.size<=h'.objs.size->Q k { s with heap:=h',toks:=tk }):
 Qr (Qs prog w) A (call (.ref q) [.ref t]) Q E s:=by
 refine Jm (kla_callFunE (body:=Uw p1 p2 p3) S ho rfl rfl rfl rfl hcd ?_)
 refine OS (a:=[(Qw "pair",Qm t)]) rfl ?_
 refine PX rfl (fun y hy=>?_) fun env he B x=>⟨U.keeps x.toInCall.keep,kla_codeExpr ?_⟩
 ·rw [mem_singleton.mp hy];exact .inl rfl
 have W:=x.toInCall.ns
 obtain ⟨h1,tk1,e1⟩:=x.toInCall.same
 have I:=x.toInCall.keep
 have hfr:=x.toInCall.fresh
 have hL:=W.lt
 have J:env.kindOf "pair"=some .local:=by rw [he];rfl
 have hm:(OP env.kindOf [(Qw "pair",Qm t)] fun _=>none) "pair"=some (.ref t):=by
  rw [he];rfl
 have hsc:env.scope.kind=.function:=by rw [he];rfl
 clear x
 refine Subscript_ (RA (Pd hsc J W hm (RB ?_)) (by decide))
 have ht1:OO B.heap t G:=by
  obtain ⟨o,e,r⟩:=ht
  exact ⟨o,I _ _ e,r⟩
 have fin:Q k { B with toks:=B.toks+1 }:=by
  subst e1
  exact hQ h1 (tk1+1) I (GF (QN hfr hL))
 have hsz:0 < G.size:=(Ga.mp h0).1
 have ht2:OO (Shared.heap { B with toks:=B.toks+1 }) t G:=ht1
 exact JH (x:=k) ht2.typeIs RE.lookup
  (getItem_tuple (j:=0) (Q:=fun r s'=>r=k/\(fun v s'=>(match (Except.ok (Flow.ret v):Sb) with | .ok (.ret v)=>Q v s' | .ok _=>False | .error e=>E e s')) r s') ht2 (by decide) (by decide) (ZbO (n:=G.size) (i:=0) (j:=0) (by unfold XS;rw [if_pos (by decide),if_pos (by omega)];rfl)).1 h0 ⟨rfl,fin⟩) rfl
theorem Zeu:∀{ts:List Addr}{us:List Qb},Vals (ts.map V.ref) us->us=ts.map Qm
 | [],_,.nil=>rfl
 | t::ts,_,.cons r h=>by
  have e:=Zeu h
  cases (show _=Qm t from r)
  rw [e];rfl
end
def ZfL (ks:List Str)(ts ts':List Addr):Prop:=∃ ps:List (Str×Addr),ps.Perm (ks.zip ts)/\ts'=ps.map (·.2)/\ps.Pairwise fun p q=>¬ (q.1.cps.toList < p.1.cps.toList)
def unR:Qb->Addr
 | .ref a=>a
 | _=>0
theorem ZkX (h:Zaw ks (ts.map Qm) I):∃ G,I=G.map Qm/\ZfL ks ts G:=by
 obtain ⟨ps,hp,U,S⟩:=h
 have B:∀ p∈ps,p.2=Qm (unR p.2):=fun p J=>by
  have h1:=(of_mem_zip (show (p.1,p.2)∈_ from hp.mem_iff.mp J)).2
  obtain ⟨t,_,e⟩:=mem_map.mp h1
  rw [<- e];rfl
 refine ⟨ps.map fun p=>unR p.2,?_,ps.map (fun p=>(p.1,unR p.2)),?_,?_,?_⟩
 ·rw [U,map_map]
  exact Px B
 ·have h1:=hp.map fun p:Str×Qb=>(p.1,unR p.2)
  have h2:(ks.zip (ts.map Qm)).map (fun p:Str×Qb=>(p.1,unR p.2))=ks.zip ts:=by
   rw [List.zip_map_right,map_map]
   have:((fun p:Str×Qb=>(p.1,unR p.2)) ∘ Prod.map id Qm)=(id:Str×Addr->Str×Addr):=by funext p;rfl
   rw [this,List.map_id]
  rwa [h2] at h1
 ·rw [map_map];rfl
 ·rw [JL];exact S
def Xs (c:Addr)(qual:Str):Heap->Prop:=fun h=>h.CodeRec (.ref c) qual
def LamAt (H:Hp)(Pl:Addr)(lpos:Pos)(qual:Str):Prop :=
 H Pl=some (.tbl #[])\/∃ c,H Pl=some (.tbl #[Gd lpos.line,Gd lpos.col,.ref c])/\H c=some (.ext (Xs c qual))
theorem Zkv (e:h.CodeRec (.ref c) qual):ObjOk P w H h c (.ext (Xs c qual)):=by
 obtain ⟨B,o,vs,t,z,g,r⟩:=id e
 cases z
 refine ⟨e,⟨o,g⟩,fun h1 h2 p k=>?_⟩
 obtain ⟨B,o,vs,t,z,g,r⟩:=p
 cases z
 exact ⟨_,o,vs,t,rfl,k _ g,r⟩
def Grown (Pl:Addr)(H H':Hp):Prop:=∀ b o,b≠Pl->H b=some o->H' b=some o
section
variable {X:Cx}{pins:List (Addr×Obj)}{σ:List (Option V)}{H:Hp}{s:Qe}{h':Heap}
theorem Inv.table {t':Nat}{Pl c:Addr}{ps:Array Qb}{qual:Str}{lpos:Pos}(I:Inv X pins σ H s)(G:H Pl=some (.tbl ps))(k:∀ b o,b≠Pl->s.heap.get? b=some o->h'.get? b=some o)
 (W:h'.get? Pl=some (OB (ps++#[Gd lpos.line,Gd lpos.col,.ref c]))) (Z:s.heap.objs.size<=c) (hr:h'.CodeRec (.ref c) qual) :
 Inv X pins σ (upd (upd H Pl (.tbl (ps++#[Gd lpos.line,Gd lpos.col,.ref c]))) c (.ext (Xs c qual))) { s with heap:=h',toks:=t' }:=by
 have J:H c=none:=I.hok.fresh Z
 have U:c≠Pl:=fun z=>by rw [z,G] at J;cases J
 have S:∀ b,H b=none->b≠Pl:=fun b z e=>by rw [e,G] at z;cases z
 have B:∀ b o,b≠Pl->H b=some o->upd (upd H Pl (.tbl (ps++#[Gd lpos.line,Gd lpos.col,.ref c]))) c (.ext (Xs c qual)) b=some o:=fun b o h1 e=>by rw [Zh (Zq e J),Zh h1];exact e
 have nL:X.env.locals≠Pl:=S _ I.free
 refine I.step (g':=s.gens) (d':=s.drawn) (ch:=[]) (fun _ z=>nomatch z) (fun b o _ _ _ e n=>k b o (S b n) e) (fun b o _ _ _ e n=>⟨o.slots,k b o (S b n) e⟩) (fun b o _ e n=>?_) (fun b o _ e=>?_)
  (fun b xs e=>B b _ (fun z=>by rw [z,G] at e;cases e) e) (fun b o u e=>B b _ (fun z=>by rw [z,G] at e;cases e) e) (fun b qs e=>?_) (fun m hm=>?_) (fun b u e=>?_) I.bare
 ·rw [Zh (fun z=>by rw [z] at e;exact absurd (Qg e) (QV.mpr Z)),Zh (S b n)];exact n
 ·by_cases hb:b=Pl
  ·exact ⟨_,by rw [hb];exact W⟩
  ·exact ⟨o,k b o hb e⟩
 ·by_cases hb:b=Pl
  ·rw [hb,G] at e
   cases e
   exact ⟨#[Gd lpos.line,Gd lpos.col,.ref c],by rw [hb,Zh U.symm,Ze]⟩
  ·exact ⟨#[],by rw [B b _ hb e];simp⟩
 ·obtain ⟨o,es,ep,ho,r⟩:=hm
  exact ⟨o,es,ep,k _ o nL ho,r⟩
 ·by_cases h1:b=c
  ·subst h1
   rw [Ze] at e
   cases e
   exact Zkv hr
  ·rw [Zh h1] at e
   by_cases h2:b=Pl
   ·subst h2
    rw [Ze] at e
    cases e
    exact W
   ·rw [Zh h2] at e
    refine (I.hok b u e).stay (fun d v hd y=>k d v ?_ y) (fun d y=>B d _ (fun z=>by rw [z,G] at y;cases y) y) fun d xs y=>B d _ (fun z=>by rw [z,G] at y;cases y) y
    rcases hd with z | z
    ·rw [z];exact h2
    ·exact fun z2=>by rw [z2,G] at z;cases z
theorem ZiT (I:Inv X pins σ H s)(G:X.env.code=.ref c)(C:PZ X.K c Pl=true)(hBm:XX X.base X.mg)(hL:LamAt H Pl lpos (X.env.qual++"<lambda>"))(h:∀ (q:Addr) (H':Hp) (s':Qe) (pm cdv ct:Qb),Inv X pins σ H' s'->Grown Pl H H'->LamAt H' Pl lpos (X.env.qual++"<lambda>")->s'.heap.get? q=some { cls:=.type "function",data:=.func (kla_fn "<lambda>" (X.env.qual++"<lambda>") (VZ apos) (Uw p1 p2 p3) Ua [] pm cdv ct) } ->
  s'.heap.CodeRec cdv (X.env.qual++"<lambda>")->Q (.ref q) s'):
 Qr (Qs X.prog X.w) A (eval (.Lambda (VZ apos) (Uw p1 p2 p3) Ua lpos) X.env) Q E s:=by
 rw [arm_eval_Lambda]
 refine Qf (m:=evalAll []) (Ob (Qf (Gh (m:=evalAllOpt []) (OS (a:=[]) rfl ?_))))
 have hcl:Sf Ua X.env=pure []:=rfl
 have hg:=I.mod.glob.keeps I.bk
 have CH:=OT I.kIn C
 have tab:∀ ps,H Pl=some (.tbl ps)->s.heap.get? Pl=some (OB ps):=fun ps e=>I.hok Pl _ e
 have U:∀ ps,s.heap.get? Pl=some (OB ps)->s.heap.BuiltinsAt X.mg Pl/\Ql≠Pl:=fun ps e=>by
  obtain ⟨bm,ob,b1,b2,b3,b4,b5,b6⟩:=hBm
  have S:=I.bk _ _ b3
  have hmg:Ql≠Pl:=fun z=>by
   obtain ⟨o,es,ep,y,hd,_⟩:=hg
   rw [z,e] at y;cases y;cases hd
  refine ⟨⟨bm,ob,b1,b2,fun z=>?_,(fun z=>by rw [z,e] at S;cases S;cases b4),S,b4,b5,b6⟩,hmg⟩
  obtain ⟨o,es,ep,y,hd,_⟩:=hg
  rw [<- z,S] at y;cases y
  rw [b6] at hd;cases hd
 rcases hL with e | ⟨J,e,ec⟩
 ·have hP:=tab _ e
  obtain ⟨hb,hgP⟩:=U _ hP
  refine kla_makeFunction (clos:=[]) hcl I.ok.glob hg G CH hP trivial rfl hgP hb fun J Z h' tk hx hge hlt B hT=>?_
  have I1:=I.table (t':=tk) (h':=h') (qual:=X.env.qual++"<lambda>") (lpos:=lpos) e (fun b o hb' y=>hx b o hb' y) hT hge B
  have W:H J=none:=I.hok.fresh hge
  have hcP:J≠Pl:=fun z=>by rw [z,e] at W;cases W
  refine h _ _ _ ((X.mg "__name__").getD .none) (.ref J) Z (I1.kept (t':=tk) fun b o y=>Qd _ y) (fun b o h1 y=>by rw [Zh (Zq y W),Zh h1];exact y) (.inr ⟨J,by rw [Zh hcP.symm,Ze];rfl,Ze⟩) (Qo _ rfl) (B.push _)
 ·have hP:=tab _ e
  obtain ⟨hb,hgP⟩:=U _ hP
  have B:s.heap.CodeRec (.ref J) (X.env.qual++"<lambda>"):=(I.hok J _ ec).1
  refine kla_makeFunctionHit (clos:=[]) (cv:=.ref J) hcl I.ok.glob hg G CH hP trivial (by simp [OC,Gd]) hb fun Z h' tk hk hz=>?_
  exact h _ _ _ ((X.mg "__name__").getD .none) (.ref J) Z ((I.kept (h':=h') (t':=tk) hk).kept (t':=tk) fun b o y=>Qd _ y) (fun b o _ y=>y) (.inr ⟨J,e,ec⟩) (Qo _ rfl) ((B.keeps hk).push _)
end
def ZoE (Pl:Addr)(lpos:Pos)(qual:Str)(te:TE):TE:=fun σ H Q=>te σ H fun x H1=>∃(l:Addr)(ts:List Addr)(ks:List Str),[x]=[.ref l]/\H1 l=some (.lst (ts.map V.ref))/\ts.length < 64/\ks.length=ts.length /\
 (∀ (i:Nat) (t:Addr) (k:Str),ts[i]?=some t->ks[i]?=some k->∃ vs,H1 t=some (.tup (.str k::vs)))/\LamAt H1 Pl lpos qual /\
 ∀ (H2:Hp) (r:Addr) (ts':List Addr),Grown Pl H1 H2->LamAt H2 Pl lpos qual->H2 r=none->ZfL ks ts ts'->Q (.ref r) (upd H2 r (.lst (ts'.map V.ref)))
section
variable {X:Cx}
theorem Zjt {k:Nat}{c Pl:Addr}(hg:Gl X "sorted")(hm:X.mg "sorted"=none)(he:PE X e te)(hr:Room k X.A)(J:X.env.code=.ref c)(C:PZ X.K c Pl=true)(hBm:XX X.base X.mg)(hs:QE [e] X.env=[(false,eval e X.env)]:=by rfl):PE X (.Call (.Name "sorted" p) [e] [⟨some "key",.Lambda (VZ apos) (Uw p1 p2 p3) Ua lpos,kpos⟩] pos) (ZoE Pl lpos (X.env.qual++"<lambda>") te):=by
 intro pins s σ H Q I h
 have ha:PA X [e] (Wh te Xo):=YA he Za hs
 refine QX (Ux I hg hm boot_sorted (callWith_kw ?_ (by rw [hs];rfl) (by rw [hs];rfl) rfl rfl))
 refine Zs (ha pos pins s σ H (fun xs H1=>∃ (l:Addr) (ts:List Addr) (ks:List Str),xs=[V.ref l]/\H1 l=some (.lst (ts.map V.ref))/\ts.length < 64/\ks.length=ts.length /\
  (∀ (i:Nat) (t:Addr) (k:Str),ts[i]?=some t->ks[i]?=some k->∃ vs,H1 t=some (.tup (.str k::vs)))/\LamAt H1 Pl lpos (X.env.qual++"<lambda>") /\
  ∀ (H2:Hp) (r:Addr) (B:List Addr),Grown Pl H1 H2->LamAt H2 Pl lpos (X.env.qual++"<lambda>")->H2 r=none->ZfL ks ts B->Q (.ref r) (upd H2 r (.lst (B.map V.ref)))) I h) fun us s1 ⟨vs,H1,I1,r1,q1⟩=>?_
 obtain ⟨l,ts,ks,rfl,el,h64,hlen,W,hL,q⟩:=q1
 obtain ⟨u,rfl,ru⟩:=Yo r1
 cases ru
 refine kws_cons (ZiT I1 J C hBm hL fun fq H2 s2 pm cdv ct I2 gr hL2 hfo Z=>kws_nil ?_)
 have nl:l≠Pl:=fun z=>by
  rw [z] at el
  rcases hL with y | ⟨_,y,_⟩<;>(rw [el] at y;cases y)
 have el2:=gr l _ nl el
 obtain ⟨its,rv,pl,hz⟩:=I2.list (SqL.of el2)
 have hits:=Zeu rv
 subst hits
 have S:∀ (i:Nat) (t:Addr) (k:Str),ts[i]?=some t->ks[i]?=some k->∃ its':Array Qb,OO s2.heap t its'/\∃ tk,its'[0]?=some (.str k tk):=fun i t k h1 h2=>by
  obtain ⟨vs,ev⟩:=W i t k h1 h2
  have nt:t≠Pl:=fun z=>by
   rw [z] at ev
   rcases hL with y | ⟨_,y,_⟩<;>(rw [ev] at y;cases y)
  obtain ⟨_,itv,rv',pt⟩:=(show ObjOk X.prog X.w H2 s2.heap t (.tup (.str k::vs)) from I2.hok t _ (gr t _ nt ev))
  cases rv' with
  | cons r rr =>
   obtain ⟨tk,e⟩:=r
   exact ⟨_,pt,tk,by rw [e];rfl⟩
 refine Zlt (vs:=ts.map Qm) (ks:=ks) pl.isList (by rw [length_map];exact hlen) (by rw [length_map];exact h64) (fun x=>ksk_t1 fq x) (fun h1 tk1 k1 z1=>?_) fun h' tk out cc k3 a3 o3=>?_
 ·intro i v k U hk h2 tk2 k2 z2 Q' hQ'
  rw [getElem?_map] at U
  cases ht:ts[i]? with
  | none=>rw [ht] at U;cases U
  | some t =>
   rw [ht] at U
   cases (show some (Qm t)=some v from U)
   obtain ⟨its',pt,tk',e0⟩:=S i t k ht hk
   have kp:∀ b o,s2.heap.get? b=some o->h2.get? b=some o:=fun b o y=>k2 b o (Qu (JN (Qg y))) (k1 b o y)
   have pt2:OO h2 t its':=by
    obtain ⟨o,eo,r⟩:=pt
    exact ⟨o,kp _ _ eo,r⟩
   exact ZiS (s:={ s2 with heap:=h2,toks:=tk2 }) (kp _ _ hfo) (Z.keeps kp) (I2.nolimit.keeps kp) (show X.A.depth < SJ by have:=hr.dp;omega) pt2 e0 fun h3 tk3 k3 z3=>hQ' h3 tk3 tk' k3 z3
 ·obtain ⟨B,G,hT⟩:=ZkX o3
  have rv2:Vals (B.map V.ref) out.toList:=by
   rw [G]
   clear G hT o3
   induction B with
   | nil=>exact .nil
   | cons t r ih=>exact .cons rfl ih
  have hl2:(B.map V.ref).length<=sizeLine:=by
   obtain ⟨ps,hp,e,_⟩:=hT
   have:=hp.length_eq
   rw [Ss] at this
   rw [length_map,e,length_map,this]
   exact ZfY (by omega)
  exact ⟨.ref _,_,I2.laid (t':=tk) k3 (GY _) (show ObjOk X.prog X.w _ h' _ (.lst (B.map V.ref)) from ⟨hl2,out.toList,cc,rv2,by rw [SV];exact a3⟩),rfl,q H2 _ B gr hL2 (I2.hok.fresh (GY _)) hT⟩
end
theorem Zbi:QZ (.type "tuple") "keys"=pure none:=am_miss_of_fast (by decide +kernel)
section
variable {prog:Qk}{w:Qt}{A:QA}{E:Qb->Qe->Prop}{s:Qe}
theorem Zhp {k:Nat}(I:s.heap.get? a=some { cls:=.type "tuple",dict:=none,data:=.seq xs k,slots:=J })(U:A.handled=none)(h:∀ h' tk,(∀ b o,s.heap.get? b=some o->h'.get? b=some o)->Q none { s with heap:=h',toks:=tk }):Qr (Qs prog w) A (getAttr? (.ref a) "keys") Q E s:=by
 obtain ⟨hp,g,d,tk,os⟩:=s
 have S:∀ B,(⟨hp,g,d,B,os⟩:Qe).TypeIs (.ref a) "tuple":=fun _=>⟨_,I,rfl⟩
 have Z:=sub_AttributeError
 have f3:=Td.lookup
 have f4:=Td.bind (.ref a)
 have W:=am_tuple_getattr_none
 unfold getAttr? getAttrBy? getAttrBy
 repeat (any_goals first | assumption | exact S _ | ((with_reducible show Qr _ _ (call (Jv "tuple.__getattribute__") _ _) _ _ _);refine RF F.slot_tuple_getattribute (S _) am_entry_tuple_getattribute (F.args_tuple_getattribute_2 _ _) (meets_getattribute_miss_tuple a xs k J "keys" _ Zbi (by decide) (by decide)) ⟨I,U,fun h' B e G=>?_⟩) | wp_step)
 obtain ⟨t',u',he⟩:=G.there
 show Qr _ _ (RI _ _ _ _ _ _ _) _ _ _
 unfold RI
 repeat (any_goals first | assumption | wp_step)
 all_goals exact h _ _ G.keeps
theorem Uv:entryFor table "dict.update.loop"=some Jg.«dict.update.loop»:=entryFor_of_tree (by kernel_rfl)
theorem Xz:plainId "dict.update.loop"=true:=by decide +kernel
end
section
variable {prog:Qk}{w:Qt}{A:QA}{R:Sb->Qe->Prop}
def PairAt (prog:Qk)(w:Qt)(h:Heap)(v:Qb)(p:Zo×Qb):Prop:=∃ tt key,v=.ref tt/\OO h tt #[key,p.2]/\(ZM prog w).is p.1 key=true
theorem PairAt.keep (x:PairAt prog w h v p)(k:∀ b o,h.get? b=some o->h'.get? b=some o):PairAt prog w h' v p:=by
 obtain ⟨B,key,e,⟨o,G,r⟩,z⟩:=x
 exact ⟨B,key,e,⟨o,k _ _ G,r⟩,z⟩
theorem PairAt.but (x:PairAt prog w h v p)(J:h.get? d=some o)(S:o.cls≠.type "tuple")(k:∀ b o,b≠d->h.get? b=some o->h'.get? b=some o):PairAt prog w h' v p:=by
 obtain ⟨I,key,e,⟨G,B,c,r⟩,z⟩:=x
 refine ⟨I,key,e,⟨G,k _ _ (fun y=>?_) B,c,r⟩,z⟩
 rw [y,J] at B
 cases B
 exact S c
theorem ZjQ (ps:List (Zo×Qb))(hlen:ps.length=B.size)(hnd:(ps.map (·.1)).Nodup)(hsz:ps.length<=Qj)(hh:A.handled=none)(hIt:I≠t)(hId:I≠d):
 ∀ (k i:Nat) (s:Qe) (n:Int) (tk:Tok),ps.length - i=k->i<=ps.length->s.heap.IsTupleIter I t i->s.heap.IsTuple t B->(∀ (j:Nat) (v:Qb) (p:Zo×Qb),B[j]?=some v->ps[j]?=some p->PairAt prog w s.heap v p)->s.heap.DictOf (ZM prog w) d (ps.take i) ->
 (∀ h' tk',(∀ b o,b≠I->b≠d->s.heap.get? b=some o->h'.get? b=some o)->h'.DictOf (ZM prog w) d ps->R (.ok (.ret .none)) { s with heap:=h',toks:=tk' }) ->
 Ja (Qs prog w) A (.builtin "dict.update.loop" ⟨[.ref d,.ref I,.int n tk,.none],[]⟩) R s:=by
 have W:=Walks.tuple (prog:=prog) (w:=w) (A:=A.in1) hh I t hIt.symm B
 intro k
 induction k with
 | zero =>
  intro i s n tk hk hi S htp hpr hd hR
  have hin:i=B.size:=by omega
  refine Pr Uv ?_
  rw [SW Xz _]
  show Qr _ A.in1 (pyNext (.ref I) >>= _) _ _ s
  refine Qf (W.done s _ _ ⟨by rw [<- hin];exact S,htp⟩ fun h' tk' kk=>?_)
  show Qr _ _ (Builtin.Dict.addKeywords d [] >>= _) _ _ _
  refine Qf (Qy (Qy (hR h' tk' (fun b o h1 _ y=>kk b o (by simpa using h1) y) ?_)))
  rw [JM (by omega)] at hd
  obtain ⟨o,es,ep,J,r⟩:=hd
  exact ⟨o,es,ep,kk d o (by simpa using hId.symm) J,r⟩
 | succ k ih =>
  intro i s n tk hk hi S htp hpr hd hR
  have hlt:i < B.size:=by omega
  refine Pr Uv ?_
  rw [SW Xz _]
  show Qr _ A.in1 (pyNext (.ref I) >>= _) _ _ s
  refine Qf (W.item i s _ _ hlt ⟨S,htp⟩ fun v h1 tk1 hv st1 kk=>?_)
  obtain ⟨hit1,htp1⟩:=st1
  have hI0:∃ o,s.heap.get? I=some o/\o.cls≠.type "tuple":=by
   obtain ⟨o,J,c,_⟩:=S
   exact ⟨o,J,by rw [c];decide⟩
  have Z:∀ (j:Nat) (v:Qb) (p:Zo×Qb),B[j]?=some v->ps[j]?=some p->PairAt prog w h1 v p:=fun j v p a b=>by
   obtain ⟨o,J,c⟩:=hI0
   exact (hpr j v p a b).but J c fun b o hb y=>kk b o (by simpa using hb) y
  obtain ⟨p,hp⟩:∃ p,ps[i]?=some p:=⟨_,getElem?_eq_getElem (by omega)⟩
  have hv':B[i]?=some v:=hv
  obtain ⟨tt,key,rfl,⟨ot,J,oc,on,od⟩,hkey⟩:=Z i v p hv' hp
  have hd1:h1.DictOf (ZM prog w) d (ps.take i):=by
   obtain ⟨o,es,ep,J,r⟩:=hd
   exact ⟨o,es,ep,kk d o (by simpa using hId.symm) J,r⟩
  have hT:Rq { s with heap:=h1,toks:=tk1 } (.ref tt) "tuple":=⟨ot,J,oc⟩
  have hnew:stored (ps.take i) p.1 p.2=ps.take (i+1):=by
   have hni:p.1 ∉ (ps.take i).map (·.1):=fun z=>by
    have e1:(ps.map (·.1))=(ps.take i).map (·.1)++(ps.drop i).map (·.1):=by rw [<- map_append,List.take_append_drop]
    rw [e1,On] at hnd
    refine hnd.2.2 _ z _ (mem_map.mpr ⟨p,?_,rfl⟩) rfl
    exact mem_of_getElem? (i:=0) (by rw [RG];simpa using hp)
   unfold stored
   rw [if_neg,Jf,hp]
   ·rfl
   ·intro z
    obtain ⟨q,hq,e⟩:=JW.mp z
    exact hni (mem_map.mpr ⟨q,hq,by simpa using e⟩)
  show Qr _ A.in1 (JE [.ref tt] _ >>= _) _ _ _
  refine Qf (Gh ?_)
  refine Qf (wpAny_tryCatch ?_)
  unfold Builtin.Dict.pairItems
  refine Qf (Oo hT ?_)
  rw [if_pos (by decide)]
  refine Qf (wpAny_seqItems J od (Qy ?_))
  show Qr _ _ (JE [key,p.2] (dictSet d key p.2)) _ _ _
  refine Gh (wpAny_dictSet_pairs hkey hd1 (fun h2 hd2 U=>?_) (Qq (by rw [length_take];omega) hsz))
  rw [hnew] at hd2
  refine Qy ⟨plainId_quiet Xz _,ih (i+1) _ (n+1) _ (by omega) (by omega) ?_ ?_ ?_ hd2 ?_⟩
  ·obtain ⟨o,G,r⟩:=hit1
   exact ⟨o,(U.2 I hId).trans G,r⟩
  ·obtain ⟨o,G,r⟩:=htp1
   refine ⟨o,(U.2 t (fun z=>?_)).trans G,r⟩
   obtain ⟨o',es,ep,eo2,c2,_⟩:=hd1
   rw [z,eo2] at G
   cases G
   rw [c2.1] at r
   exact absurd r.1 (by decide)
  ·intro j v p a b
   obtain ⟨o',es,ep,eo2,c2,_⟩:=hd1
   exact (Z j v p a b).but eo2 (by rw [c2.1];decide) fun b o hb y=>(U.2 b hb).trans y
  ·intro h3 tk3 k3 hd3
   exact hR h3 tk3 (fun b o h4 h5 y=>k3 b o h4 h5 ((U.2 b h5).trans (kk b o (by simpa using h4) y))) hd3
end
section
variable {prog:Qk}{w:Qt}{A:QA}{E:Qb->Qe->Prop}{s:Qe}
theorem ZcQ (ps:List (Zo×Qb))(ht:OO s.heap t G)(hnd0:∃ o,s.heap.get? t=some o/\o.dict=none)(hlen:ps.length=G.size)(hnd:(ps.map (·.1)).Nodup)(hsz:ps.length<=Qj)(hh:A.handled=none)(hpr:∀ (j:Nat) (v:Qb) (p:Zo×Qb),G[j]?=some v->ps[j]?=some p->PairAt prog w s.heap v p)(h:∀ h' W,(∀ b o,s.heap.get? b=some o->h'.get? b=some o)->h'.DictOf (ZM prog w) s.heap.objs.size ps->Q (.ref s.heap.objs.size) { s with heap:=h',toks:=W }):
 Qr (Qs prog w) A (call (.type "dict") [.ref t]) Q E s:=by
 refine callType_codes (Q₁:=fun obj J=>obj=.ref s.heap.objs.size/\J={ s with heap:=s.heap.push { cls:=.type "dict",data:=.dict #[] } }) F.kt_called_dict (F.kt_typeCall_dict_1 _) F.entry_dict_init (kt_code_dict_new _ ⟨rfl,rfl⟩) ?_
 rintro obj J ⟨rfl,rfl⟩
 have B:(s.heap.push { cls:=.type "dict",data:=.dict #[] }).DictOf (ZM prog w) s.heap.objs.size []:=OY s.heap
 have tlt:t < s.heap.objs.size:=by obtain ⟨o,S,_⟩:=ht;exact Qg S
 obtain ⟨ot,I,oct,on,odt⟩:=id ht
 obtain ⟨o2,eo2,Z⟩:=hnd0
 rw [I] at eo2
 cases eo2
 refine ⟨B.typeIs,F.args_dict_init_2 _ _,?_⟩
 unfold Jg.«dict.__init__»
 refine Qf ?_
 unfold Builtin.Dict.selfAndRest
 refine Qf (wpAny_notOrdered_dict B.typeIs ?_)
 show Qr _ _ (pure (s.heap.objs.size,[Qm t])) _ _ _
 refine Qy ?_
 show Qr _ _ (TM "dict.__init__" s.heap.objs.size (.ref t) [] .none) _ _ _
 unfold TM
 have hT:Rq { s with heap:=s.heap.push { cls:=.type "dict",data:=.dict #[] } } (.ref t) "tuple":=⟨ot,Qd _ I,oct⟩
 refine Qf (Oo hT ?_)
 rw [if_pos (by decide)]
 obtain ⟨c0,d0,dt0,sl0⟩:=ot
 have e1:c0=.type "tuple":=oct
 have e2:d0=none:=Z
 have e3:dt0=.seq G on:=odt
 subst e1 e2 e3
 refine Qf (Zhp (s:={ s with heap:=s.heap.push { cls:=.type "dict",data:=.dict #[] } }) (Qd _ I) hh fun h1 tk1 k1=>?_)
 rw [if_pos (show (none:Option Qb).isNone=true from rfl)]
 have U:=k1 _ _ (Qd { cls:=.type "dict",data:=.dict #[] } I)
 have hd1:h1.DictOf (ZM prog w) s.heap.objs.size []:=by
  obtain ⟨o,es,ep,S,r⟩:=B
  exact ⟨o,es,ep,k1 _ _ S,r⟩
 have dlt:s.heap.objs.size < h1.objs.size:=by obtain ⟨o,es,ep,S,r⟩:=hd1;exact Qg S
 refine Qf (wpAny_rule (Qf (RC (items:=G) ⟨_,U,rfl,on,rfl⟩ ?_)))
 refine Qy ⟨plainId_quiet Xz _,ZjQ (A:=A.in1) ps hlen hnd hsz hh (GZ (Qg U)) (GZ dlt) ps.length 0 _ 0 _ (by omega) (QH _) ⟨_,Qo _ rfl,rfl,rfl⟩ ⟨_,Qd _ U,rfl,on,rfl⟩ ?_ ?_ ?_⟩
 ·intro j v p a b
  exact (hpr j v p a b).keep fun b o y=>Qd _ (k1 _ _ (Qd _ y))
 ·obtain ⟨o,es,ep,S,r⟩:=hd1
  exact ⟨o,es,ep,Qd _ S,r⟩
 ·intro h' W k3 hd3
  refine ⟨rfl,h h' W (fun b o y=>?_) hd3⟩
  have y1:=k1 _ _ (Qd { cls:=.type "dict",data:=.dict #[] } y)
  exact k3 b o (Qu (Qg y1)) (Qu (Qg y)) (Qd _ y1)
end
section
variable {X:Cx}
theorem Uj (hc:X.calm=true):Ys X (.type "dict") (fun xs H Q=>∃ (t:Addr) (ts:List Addr) (kvs:List (Str×V)),xs=[.ref t]/\(∃ o,H t=some (.frz o (.tup (ts.map V.ref)))/\o.dict=none)/\ts.length=kvs.length/\kvs.length<=1000 /\
   (∀ (i:Nat) (a:Addr) (p:Str×V),ts[i]?=some a->kvs[i]?=some p->H a=some (.tup [.str p.1,p.2]))/\(kvs.map (·.1)).Nodup/\∀ d,H d=none->Q (.ref d) (upd H d (.dK (kvs.map fun p=>(QF p.1,p.2))))):=by
 intro pins s σ H xs us Q I r h
 obtain ⟨t,ts,kvs,rfl,⟨S,Z,hdn⟩,B,hsz,hp,hnd,q⟩:=h
 have hq:SqT X.K H t (ts.map V.ref):=.inl (.inr ⟨S,Z⟩)
 have eo0:=(I.hok t _ Z).1
 obtain ⟨u,rfl,ru⟩:=Yo r
 cases ru
 obtain ⟨its,rv,pt,hz⟩:=I.tuple hq
 have hits:=Zeu rv
 subst hits
 have G:∀ (kvs:List (Str×V)) (ts:List Addr),ts.length=kvs.length->(∀ (i:Nat) (a:Addr) (p:Str×V),ts[i]?=some a->kvs[i]?=some p->H a=some (.tup [.str p.1,p.2])) ->
     ∃ ps:List (Zo×Qb),KV (kvs.map fun p=>((QF p.1:Zo),p.2)) ps/\ps.length=kvs.length/\ps.map (·.1)=kvs.map (fun p=>(QF p.1:Zo))/\∀ (j:Nat) (v:Qb) (p:Zo×Qb),(ts.map Qm)[j]?=some v->ps[j]?=some p->PairAt X.prog X.w s.heap v p:=by
   intro kvs
   induction kvs with
   | nil=>intro ts _ _;exact ⟨[],.nil,rfl,rfl,fun j v p _ e=>by simp at e⟩
   | cons kv r ih =>
     intro ts hl hh
     cases ts with
     | nil=>simp at hl
     | cons a ar =>
       obtain ⟨ps,k1,k2,k3,k4⟩:=ih ar (by simpa using hl) fun i b p e1 J=>hh (i+1) b p (by simpa using e1) (by simpa using J)
       obtain ⟨_,itv,rv',pa⟩:=(show ObjOk X.prog X.w H s.heap a (.tup [.str kv.1,kv.2]) from I.hok a _ (hh 0 a kv rfl rfl))
       cases rv' with
       | cons r1 rr =>
         cases rr with
         | cons r2 rr =>
           cases rr
           obtain ⟨tk,e⟩:=r1
           subst e
           rename_i u2
           refine ⟨(QF kv.1,u2)::ps,.cons ⟨rfl,r2⟩ k1,by rw [length_cons,length_cons,k2],by rw [map_cons,map_cons,k3],fun j v p e1 J=>?_⟩
           cases j with
           | zero =>
             cases (show some (Qm a)=some v from e1)
             cases (show some ((QF kv.1:Zo),u2)=some p from J)
             exact ⟨a,.str kv.1 tk,rfl,pa,Zas _ _ _ _⟩
           | succ j=>exact k4 j v p (by simpa using e1) (by simpa using J)
 obtain ⟨ps,k1,k2,k3,k4⟩:=G kvs ts B hp
 have W:(ps.map (·.1)).Nodup:=by
   rw [k3]
   have:kvs.map (fun p=>(QF p.1:Zo))=(kvs.map (·.1)).map Sum.inr:=by rw [map_map];rfl
   rw [this]
   rw [List.Nodup,JL]
   exact hnd.imp fun h e=>h (by cases e;rfl)
 refine ZcQ ps pt ⟨S,eo0,hdn⟩ (by rw [k2,size_toArray,length_map,B]) W (by rw [k2];exact ZfY hsz) (I.ok.hd hc) (fun j v p e1 J=>k4 j v p (by simpa using e1) J) fun h' tk' kk hd=>?_
 have U:=I.big
 refine ⟨.ref s.heap.objs.size,_,I.laid (t':=tk') kk (Qh _) (show ObjOk X.prog X.w _ h' _ (.dK (kvs.map fun p=>((QF p.1:Zo),p.2))) from ⟨by rw [length_map];exact ZfY hsz,?_,ps,k1,hd⟩),rfl,q _ (I.hok.fresh (Qh _))⟩
 exact beq_eq_false_iff_ne.mpr (GZ U)
end
section
variable {X:Cx}{pins:List (Addr×Obj)}{σ:List (Option V)}{H H':Hp}{s:Qe}{h':Heap}
theorem Inv.many {t':Nat}(I:Inv X pins σ H s)(k:∀ b u,s.heap.get? b=some u->h'.get? b=some u)(ext:Same H H')(new:∀ b,b < s.heap.objs.size->H' b=H b)(hok:∀ b o,s.heap.objs.size<=b->H' b=some o->ObjOk X.prog X.w H' h' b o) :
 Inv X pins σ H' { s with heap:=h',toks:=t' }:=by
 refine I.step (g':=s.gens) (d':=s.drawn) (ch:=[]) (fun _ z=>nomatch z) (fun b o _ _ _ e _=>k b o e) (fun b o _ _ _ e _=>⟨o.slots,k b o e⟩) (fun b o _ e n=>by rw [new b (Qg e)];exact n) (fun b o _ e=>⟨o,k b o e⟩)
  (fun b xs e=>ext b _ e) (fun b o u e=>ext b _ e) (fun b ps e=>⟨#[],by rw [ext b _ e];simp⟩) (fun m B=>?_) (fun b u e=>?_) I.bare
 ·obtain ⟨o,es,ep,G,r⟩:=B
  exact ⟨o,es,ep,k _ o G,r⟩
 ·by_cases hb:b < s.heap.objs.size
  ·rw [new b hb] at e
   exact (I.hok b u e).stay (fun c v _ y=>k c v y) (fun c y=>ext c _ y) fun c xs y=>ext c _ y
  ·exact hok b u (Nat.not_lt.mp hb) e
end
def ZaR (v d:Addr):Heap->Prop:=fun h=>h.IsItemsView v d
def UY (H:Hp):List (Addr×Zo×V)->Hp
 | []=>H
 | (a,k,v)::r=>upd (UY H r) a (.tup [kV k,v])
theorem ZaF :∀{l:List (Addr×Zo×V)},b ∉ l.map (·.1)->UY H l b=H b
 | [],_=>rfl
 | (a,k,v)::r,h=>by
  rw [map_cons,mem_cons,not_or] at h
  show upd (UY H r) a _ b=_
  rw [Zh h.1];exact ZaF h.2
theorem ZeY :∀{l:List (Addr×Zo×V)},(l.map (·.1)).Nodup->(a,k,v)∈l->UY H l a=some (.tup [kV k,v])
 | (b,k',v')::r,hn,hm=>by
  rw [map_cons,nodup_cons] at hn
  show upd (UY H r) b _ a=_
  rcases mem_cons.mp hm with e | hm
  ·cases e;exact Ze
  ·rw [Zh (fun z:a=b=>hn.1 (by show b∈_;rw [<- z];exact mem_map.mpr ⟨_,hm,rfl⟩))]
   exact ZeY hn.2 hm
theorem Zmk (r:KV kvs vs):∀{j:Nat}{k:Zo}{x:Qb},vs[j]?=some (k,x)->∃ v,kvs[j]?=some (k,v)/\RelV v x:=by
 induction r with
 | nil=>intro j k x e;simp at e
 | cons h t ih =>
  intro j k x e
  cases j with
  | zero =>
   cases (show some _=some (k,x) from e)
   rename_i a _ _
   refine ⟨a.2,?_,h.2⟩
   have e1:a.1=k:=h.1
   show some a=some (k,a.2)
   rw [<- e1]
  | succ j=>exact ih (by simpa using e)
section
variable {X:Cx}
theorem ZiX:MtR X "dict.items" (fun x xs H Q=>∃ d kvs,x=.ref d/\xs=[]/\H d=some (.dK kvs)/\∀ v,H v=none->Q (.ref v) (upd H v (.ext (ZaR v d)))):=by
 intro pins s σ H x xs v us Q I G J h
 obtain ⟨d,kvs,rfl,rfl,e,q⟩:=h
 cases G
 cases J
 obtain ⟨U,lo,vs,W,B⟩:=ZcT I.hok e
 refine Og TN B.typeIs PySem.F.entry_dict_items (PySem.F.args_dict_items_1 _) (meets_dict_items (ZM X.prog X.w) d lo) ⟨⟨vs,B⟩,?_⟩
 refine ⟨.ref s.heap.objs.size,_,I.laid (t':=s.toks) (fun b o y=>Qd _ y) (Qh _) (show ObjOk X.prog X.w _ _ _ (.ext (ZaR s.heap.objs.size d)) from ⟨⟨_,Qo _ rfl,rfl,rfl⟩,⟨_,Qo _ rfl⟩,?_⟩),rfl,q _ (I.hok.fresh (Qh _))⟩
 rintro h1 h2 ⟨o,S,r⟩ k
 exact ⟨o,k _ S,r⟩
theorem ZaU (hc:X.calm=true):Ys X (.type "list") (fun xs H Q=>∃ v d kvs,xs=[.ref v]/\H v=some (.ext (ZaR v d))/\H d=some (.dK kvs) /\
 ∀ (l:Addr) (ts:List Addr) (H2:Hp),H l=none->Same H H2->ts.length=kvs.length->(∀ a∈ts,H a=none)->(∀ (i:Nat) (a:Addr) (p:Zo×V),ts[i]?=some a->kvs[i]?=some p->H2 a=some (.tup [kV p.1,p.2]))->H2 l=some (.lst (ts.map V.ref))->Q (.ref l) H2):=by
 intro pins s σ H xs us Q I r h
 obtain ⟨v,d,kvs,rfl,ev,ed,q⟩:=h
 obtain ⟨u,rfl,ru⟩:=Yo r
 cases ru
 obtain ⟨hz,lo,vs,kv,o,es,ep,ho,r1,r2,r3,r4,r5⟩:=ZcT I.hok ed
 have W:vs.length=kvs.length:=(JY kv).symm
 refine kdx_call (knd:=ZM X.prog X.w) (kvs:=vs) (ep:=ep) (I.ok.hd hc) (I.hok v _ ev).1 ⟨o,es,ho,r1,r2,r3,r4,r5⟩ (by rw [W];exact hz) fun h' tk acc c as hk hS hl hG S=>?_
 have hl2:as.length=kvs.length:=by rw [hl,W]
 have hnd:as.Nodup:=hG.rise.imp fun h=>Qu h
 generalize hL:as.zip (kvs.map fun p=>p)=L
 have J:L.map (·.1)=as:=by
  rw [<- hL,List.map_id']
  exact List.map_fst_zip (by omega)
 have U:∀ (j:Nat) (a:Addr) (p:Zo×V),as[j]?=some a->kvs[j]?=some p->(a,p.1,p.2)∈L:=fun j a p e1 e2=>by
  rw [<- hL,List.map_id']
  exact mem_of_getElem? (i:=j) (by rw [Gq];exact ⟨e1,e2⟩)
 have B:∀ a∈as,s.heap.objs.size < a:=hG.above
 have hfr:∀ b,s.heap.objs.size<=b->H b=none:=fun b hb=>I.hok.fresh hb
 have hnl:s.heap.objs.size ∉ L.map (·.1):=fun z=>by rw [J] at z;exact absurd (B _ z) (Gg _)
 have Z:∀ b,b < s.heap.objs.size->b ∉ L.map (·.1):=fun b hb z=>by rw [J] at z;exact absurd (Nat.lt_trans (B _ z) hb) (Gg _)
 have key:∀ b,b < s.heap.objs.size->upd (UY H L) s.heap.objs.size (.lst (as.map V.ref)) b=H b:=fun b hb=>by rw [Zh (Qu hb),ZaF (Z b hb)]
 have sm:Same H (upd (UY H L) s.heap.objs.size (.lst (as.map V.ref))):=fun b o e=>by rw [key b (I.hok.lt e)];exact e
 have G:∀ (j:Nat) (a:Addr) (p:Zo×V),as[j]?=some a->kvs[j]?=some p->upd (UY H L) s.heap.objs.size (.lst (as.map V.ref)) a=some (.tup [kV p.1,p.2]):=fun j a p e1 e2=>by
  rw [Zh (GZ (B a (mem_of_getElem? e1)))]
  exact ZeY (by rw [J];exact hnd) (U j a p e1 e2)
 have I2:Inv X pins σ (upd (UY H L) s.heap.objs.size (.lst (as.map V.ref))) { s with heap:=h',toks:=tk }:=by
  refine I.many hk sm key fun b o hb e=>?_
  by_cases h0:b=s.heap.objs.size
  ·subst h0
   rw [Ze] at e
   cases e
   refine ⟨by rw [length_map,hl2];exact hz,acc.toList,c,?_,by rw [SV];exact hS⟩
   rw [S]
   clear S hl hG hl2 hnd hL J U B hnl Z key sm G
   induction as with
   | nil=>exact .nil
   | cons a r ih=>exact .cons rfl ih
  ·rw [Zh h0] at e
   by_cases hm:b∈as
   ·obtain ⟨j,hj⟩:=JT.mp hm
    obtain ⟨keyv,kk,x,e1,e2,e3⟩:=hG.pairs j b hj
    obtain ⟨vv,e4,rel⟩:=Zmk kv e1
    have e5:=G j b (kk,vv) hj e4
    rw [Zh h0,e] at e5
    cases e5
    refine ⟨by show 2<=Qj;decide,[keyv,x],.cons ?_ (.cons rel .nil),⟨_,e3,rfl,_,rfl⟩⟩
    rw [Zgc] at e2
    rcases Yl e2 with ⟨i,tt,rfl,rfl⟩ | ⟨y,tt,rfl,rfl⟩
    ·exact ⟨tt,rfl⟩
    ·exact ⟨tt,rfl⟩
   ·rw [ZaF (by rw [J];exact hm),hfr b hb] at e
    cases e
 exact ⟨.ref s.heap.objs.size,_,I2,rfl,q _ as _ (hfr _ (Qh _)) sm hl2 (fun a ha=>hfr a (GF (B a ha))) G Ze⟩
def ZoB:TE:=fun _ H Q=>∀ p o,H p=none->o.dict=none->Q (.ref p) (upd H p (.frz o (.tup [])))
theorem Zfm {U:Nat}:PE X (.Tuple [] U pos) ZoB:=by
 intro pins s σ H Q I S
 refine Rj (Zs (Za pos pins s σ H (fun xs H1=>xs=[]/\H1=H) I ⟨rfl,rfl⟩) fun us s1 G=>?_)
 obtain ⟨xs,H1,B,r,e1,J⟩:=G
 subst e1 J
 cases r
 refine ⟨QH _,?_⟩
 have W:H1 s1.heap.objs.size=none:=B.hok.fresh (Qh _)
 exact ⟨.ref s1.heap.objs.size,_,B.laid (t':=s1.toks) (o:=.frz _ (.tup [])) (fun b u e=>Qd _ e) (Qh _) ⟨Qo _ rfl,QH _,[],.nil,⟨_,Qo _ rfl,rfl,_,rfl⟩⟩,rfl,S _ _ W rfl⟩
theorem ZaA:Ys X (.type "tuple") (fun xs H Q=>∃ p ys,xs=[.ref p]/\SqL X.K H p ys/\∀ l o,H l=none->o.dict=none->Q (.ref l) (upd H l (.frz o (.tup ys)))):=by
 intro pins s σ H xs us Q I r h
 obtain ⟨p,ys,rfl,hq,q⟩:=h
 obtain ⟨u,rfl,Z⟩:=Yo r
 cases Z
 obtain ⟨B,U,pl,W⟩:=I.list hq
 have J:=U.length
 refine OX pl.isList (fun h' kp=>?_) (by simp only [size_toArray]<;>omega)
 have S:Inv X pins σ H { s with heap:=h' }:=I.kept (t':=s.toks) kp
 have G:(h'.push { cls:=.type "tuple",data:=.seq B.toArray }).get? h'.objs.size=some { cls:=.type "tuple",data:=.seq B.toArray }:=Qo _ rfl
 exact ⟨.ref h'.objs.size,_,S.laid (t':=s.toks) (o:=.frz { cls:=.type "tuple",data:=.seq B.toArray } (.tup ys)) (fun b o e=>Qd _ e) (Qh _) ⟨G,W,B,U,⟨_,G,rfl,_,rfl⟩⟩,rfl,q _ _ (S.hok.fresh (Qh _)) rfl⟩
end
section
variable {O:KeyOrd}{key:Nat->O.α}{n:Nat}{s:Qe}{cmp:Nat->Nat->(Bool->Qe->Prop)->Qe->Prop}
end
structure FunC (K:Qa)(x qual:Str)(st:Stmt)(f:Addr)(fd:Qn)(c Pl:Addr):Prop where
 ex:∃ (oc:Qb) (od:Option Addr) (kV doc pm:Qb) (an:Option Addr) (ct:Qb) (osl:Array (Option Qb)),
  fd=JG x qual (VR st) (Xx st) (Zj st) .none kV doc pm an (.ref c) ct/\K.lookup f=some ⟨oc,od,.func fd,osl⟩/\SL K (.ref c) qual=true
 kp:GK K (.ref f)=true
 hd:PZ K c Pl=true
section
variable {P:Qk}{w:Qt}{K:Qa}{mg:Str->Option Qb}{base:Heap}
theorem FunC.ok {x qual:Str}{st:Stmt}{f c Pl:Addr}{fd:Qn}{N ps:List Str}{k:Nat}{sp:Sp}(F:FunC K x qual st f fd c Pl)(S:Zp N ps (Zj st)) 
 (B:∀ (A:QA) (outer:List Env) (s:Qe) (H:Hp) (vs:List V) (Q:VK) (E:XK),Room k (A.deeper (JV qual (Zj st) s.heap.objs.size f (.ref c)))->sp vs H Q E ->
  ∃ t,PSs (ZQ ZI P w K mg base N qual (Zj st) f (.ref c) A outer s H E).nox (Xx st) t/\t { nx:=fun _ H'=>Q .non H',rt:=Q } (start N vs) H) (len:∀ vs H Q E,sp vs H Q E->vs.length=ps.length:=by intro _ _ _ _ h;first | (cases h;subst_vars;rfl) | (repeat (first | exact congrArg Th h.1 | (obtain ⟨_,h⟩:=h)))):FnOk P w K mg base ZI (k+1) f fd ps sp:=by
 obtain ⟨oc,od,kV,J,pm,Z,ct,W,rfl,lk,I⟩:=F.ex
 refine ZfU lk I S len fun A outer s H vs Q E U G=>?_
 obtain ⟨t,h,q⟩:=B A outer s H vs Q E U G
 exact ⟨t,h.nox,q⟩
theorem FunC.fn {x qual:Str}{st:Stmt}{f c Pl:Addr}{fd:Qn}(F:FunC K x qual st f fd c Pl):Fun K x qual st f fd:=by
 obtain ⟨U,S,kV,B,Z,J,W,I,e,lk,G⟩:=F.ex
 exact ⟨⟨U,S,kV,B,Z,J,.ref c,W,I,e,lk,G⟩,F.kp⟩
end
theorem Ve {X:Cx}{st:Stmt}:PS X st (fun _ _ _=>False):=fun _ _ _ _ _ _ h=>h.elim
structure TF (H H':Hp):Prop where
 tup:∀ b xs,H b=some (.tup xs)->H' b=some (.tup xs)
 frz:∀ b o u,H b=some (.frz o u)->H' b=some (.frz o u)
theorem TF.trans (a:TF H H1)(b:TF H1 H2):TF H H2:=⟨fun x xs h=>b.tup x xs (a.tup x xs h),fun x o u h=>b.frz x o u (a.frz x o u h)⟩
theorem Same.tf (h:Same H H'):TF H H':=⟨fun b _ e=>h b _ e,fun b _ _ e=>h b _ e⟩
theorem Grown.tf (h:Grown Pl H H')(e:H Pl=some (.tbl ps)):TF H H' :=
 ⟨fun b _ y=>h b _ (fun z=>by rw [z,e] at y;cases y) y,fun b _ _ y=>h b _ (fun z=>by rw [z,e] at y;cases y) y⟩
theorem LamAt.tbl (h:LamAt H Pl lpos qual):∃ ps,H Pl=some (.tbl ps):=by
 rcases h with h | ⟨_,h,_⟩
 ·exact ⟨_,h⟩
 ·exact ⟨_,h⟩
theorem Zer {o:HO}(h:H l=some (.lst xs)):TF H (upd H l o) :=
 ⟨fun b _ y=>by rw [Zh (fun z=>by rw [z,h] at y;cases y)];exact y,fun b _ _ y=>by rw [Zh (fun z=>by rw [z,h] at y;cases y)];exact y⟩
theorem Zlx {o:HO}(h:H l=some (.dK xs)):TF H (upd H l o) :=
 ⟨fun b _ y=>by rw [Zh (fun z=>by rw [z,h] at y;cases y)];exact y,fun b _ _ y=>by rw [Zh (fun z=>by rw [z,h] at y;cases y)];exact y⟩
theorem SqT.tf {K:Qa}{H H':Hp}{a:Addr}{xs:List V}(h:SqT K H a xs)(t:TF H H'):SqT K H' a xs:=by
 rcases h with (h | ⟨o,h⟩) | h
 ·exact .inl (.inl (t.tup _ _ h))
 ·exact .inl (.inr ⟨o,t.frz _ _ _ h⟩)
 ·exact .inr h
inductive Nd where
 | bare
 | leaf (m:Int) (ps:List (Str×V))
 | fork (qs:List Nat)
def Nd.parts:Nd->List Nat
 | .fork qs=>qs
 | _=>[]
def Nd.pairs:Nd->List (Str×V)
 | .leaf _ ps=>ps
 | _=>[]
def Nd.hasM (n:Int):Nd->Bool
 | .leaf m _=>decide (m=n)
 | _=>false
def PairT (H:Hp)(ts:List Addr)(ps:List (Str×V)):Prop:=ts.length=ps.length/\∀(i:Nat)(a:Addr)(p:Str×V),ts[i]?=some a->ps[i]?=some p->H a=some (.tup [.str p.1,p.2])
def PairsAt (H:Hp)(t:Addr)(ps:List (Str×V)):Prop:=∃ o ts,H t=some (.frz o (.tup (ts.map V.ref)))/\o.dict=none/\PairT H ts ps
def NodeAt (K:Qa)(H:Hp)(a:Addr):Nd->Prop
 | .bare=>SqT K H a [.str "bare"]
 | .leaf m ps=>∃ t,SqT K H a [.str "leaf",.int m,.ref t]/\PairsAt H t ps
 | .fork qs=>∃ t,SqT K H a [.str "fork",.ref t]/\SqT K H t (qs.map fun q:Nat=>V.int (q:Int))/\qs.length=4
theorem PairT.tf (h:PairT H ts ps)(t:TF H H'):PairT H' ts ps:=⟨h.1,fun i a p e1 B=>t.tup _ _ (h.2 i a p e1 B)⟩
theorem PairsAt.tf (h:PairsAt H t ps)(f:TF H H'):PairsAt H' t ps:=by
 obtain ⟨o,ts,e,d,p⟩:=h
 exact ⟨o,ts,f.frz _ _ _ e,d,p.tf f⟩
theorem NodeAt.tf {K:Qa}{H H':Hp}{a:Addr}{n:Nd}(h:NodeAt K H a n)(f:TF H H'):NodeAt K H' a n:=by
 cases n with
 | bare=>exact SqT.tf h f
 | leaf m ps=>obtain ⟨t,e,p⟩:=h;exact ⟨t,e.tf f,p.tf f⟩
 | fork qs=>obtain ⟨t,e,p,l⟩:=h;exact ⟨t,e.tf f,p.tf f,l⟩
inductive WU (K:Qa)(vs:List V)(H:Hp)(Q:VK)(w_3:XK):Prop
 | mk (a:Addr) (n:Nd):vs=[.ref a]->NodeAt K H a n->(∀ t H',Same H H'->SqT K H' t (n.parts.map fun q:Nat=>V.int (q:Int))->Q (.ref t) H')->WU K vs H Q w_3
inductive XV (K:Qa)(vs:List V)(H:Hp)(Q:VK)(w_3:XK):Prop
 | mk (a:Addr) (n:Nd):vs=[.ref a]->NodeAt K H a n->(∀ t H',Same H H'->PairsAt H' t n.pairs->Q (.ref t) H')->XV K vs H Q w_3
inductive UG (K:Qa)(vs:List V)(H:Hp)(Q:VK)(w_3:XK):Prop
 | mk (a:Addr) (n:Nd) (m:Int):vs=[.ref a,.int m]->NodeAt K H a n->Q (.bl (n.hasM m)) H->UG K vs H Q w_3
inductive WA (K:Qa)(vs:List V)(H:Hp)(Q:VK)(w_3:XK):Prop
 | mk (l:Addr) (qs:List Nat):vs=[.ref l]->(H l=some (.lst (qs.map fun q:Nat=>V.int (q:Int))))->qs.length=4->(∀ a H',Same H H'->NodeAt K H' a (.fork qs)->Q (.ref a) H')->WA K vs H Q w_3
end L2
namespace L2
open PySem
def CompV (J:It)(tc:TT)(te:TE)(σ:St)(D:Addr)(Q:VK)(H1:Hp):Prop :=
 ∃ W : Nat->Nat->List V->Hp->Prop,(∃ m,W 0 m [] (upd H1 D (.lst [])))/\∀ i m ys H2,W i m ys H2 ->
  (J.stop i H2/\Q (.ref D) H2)\/(J.go i H2/\∃ (N:VK) (M:Hp->Prop),(∀ y H4,N y H4->H4 D=some (.lst ys)/\ys.length < Qj/\∃ m',m' < m/\W (i+1) m' (ys++[y]) (upd H4 D (.lst (ys++[y]))))/\(∀ H4,M H4->∃ m',m' < m/\W (i+1) m' ys H4) /\
   ∀ v H3,J.yld i H2 v H3->tc (σ++[some v]) H3 fun b H4=>if b=true then te (σ++[some v]) H4 N else M H4)
def Znd (wi:TI)(tc:TT)(te:TE):TE:=fun σ H Q=>wi σ H fun J H1=>∀ D,H1 D=none->CompV J tc te σ D Q H1
theorem CompV.n {J:It}{tc:TT}{te:TE}{σ:St}{D:Addr}{Q:VK}{H:Hp}{n:Nat}(hn:σ.length=n)(h:CompV J tc te σ D Q H):VQ J (UT n) tc te 1 (fun σ B=>∃ w,B=σ++[w]) σ D Q H:=by
 obtain ⟨W,S,t⟩:=h
 refine ⟨W,S,fun i m ys H2 w2=>(t i m ys H2 w2).imp (fun z=>z) fun U=>?_⟩
 obtain ⟨go,N,M,hN,Z,I⟩:=U
 refine ⟨go,N,M,hN,Z,fun ws v G hl y=>?_⟩
 match ws,hl with
 | [w],_ =>
  show (∃ w',(σ++[w]).set n (some v)=σ++[w'])/\tc ((σ++[w]).set n (some v)) G _
  rw [set1 hn]
  exact ⟨⟨_,rfl⟩,I v G y⟩
section
variable {X:Cx}{elt iter cnd:Expr}{x:Str}{px pos:Pos}{scope:Scope}{wi:TI}{te:TE}{tc:TT}
theorem Zat {i:Nat}(O:CompOk X scope x)(W:X.calm=true)(hN:X.N.Nodup)(G:X.N[i]?=some y)(hy:Loc X.env.scope y)(hi:PI X (.Name x px) iter wi)(S:∀ cl C s₀ H₀ fp,PT (YK X scope x cl C s₀ H₀ fp) cnd tc)(he:∀ cl C s₀ H₀ fp,PE (YK X scope x cl C s₀ H₀ fp) elt te)(I:PL (.ListComp elt [⟨.Name x px,iter,[cnd],0⟩] scope pos) (some (.Name y U)) B.line X.env=pure true)(hf:X.fn y=true\/X.env.scope.names.lookup y=some .local:=by first | exact .inl rfl | exact .inr rfl | assumption)(hs:∀ v,GN iter X.env v=pure v:=by intro _;rfl):PS X (.Assign [.Name y U] (.ListComp elt [⟨.Name x px,iter,[cnd],0⟩] scope pos) B) (ZgD (Znd wi tc te) (UT i)) :=
 ZeE (CW:=fun J σ D Q H=>CompV J tc te σ D Q H) O W hN G hy hi (fun _ _ _ _ _ Z h=>h.n Z) ok1 (ZdW O) (fun cl C s₀ H₀ fp=>.inr ⟨_,rfl,S cl C s₀ H₀ fp⟩) he I hf hs
end
theorem ZgX {K:Qa}(hn:xs.length<=Qj)(B:Nat->List V->Hp->Prop)(U:B 0 [] (upd H D (.lst [])))(Z:∀ i ys H,B i ys H->ys.length<=i/\SqT K H a xs)(hs:∀ i x ys H,xs[i]?=some x->B i ys H->tc (σ++[some x]) H fun b J=>if b=true then te (σ++[some x]) J fun y I=>I D=some (.lst ys)/\B (i+1) (ys++[y]) (upd I D (.lst (ys++[y]))) else B (i+1) ys J)(W:∀ ys H,B xs.length ys H->Q (.ref D) H):CompV (Itt K a) tc te σ D Q H:=by
 refine ⟨fun i m ys H=>m=xs.length - i/\i<=xs.length/\B i ys H,⟨xs.length,by simp,QH _,U⟩,?_⟩
 rintro i m ys H2 ⟨rfl,hi,p⟩
 obtain ⟨S,q⟩:=Z i ys _ p
 by_cases G:i < xs.length
 ·refine .inr ⟨⟨xs,xs[i],q,by simp [G]⟩,_,_,fun y I (q:I D=some (.lst ys)/\B (i+1) (ys++[y]) (upd I D (.lst (ys++[y]))))=>⟨q.1,by omega,xs.length - (i+1),by omega,rfl,G,q.2⟩,fun I (q:B (i+1) ys I)=>⟨xs.length - (i+1),by omega,rfl,G,q⟩,fun v J y=>?_⟩
  obtain ⟨e,y⟩:=y
  subst e
  exact hs i v ys _ (y xs q) p
 ·have e:i=xs.length:=by omega
  subst e
  exact .inl ⟨⟨xs,q,Qh _⟩,W ys H2 p⟩
theorem ZfR {K:Qa}(hn:xs.length<=Qj)(B:Nat->List V->Hp->Prop)(U:B 0 [] (upd H D (.lst [])))(Z:∀ i ys H,B i ys H->ys.length<=i/\SqL K H a xs)(hs:∀ i x ys H,xs[i]?=some x->B i ys H->tc (σ++[some x]) H fun b J=>if b=true then te (σ++[some x]) J fun y I=>I D=some (.lst ys)/\B (i+1) (ys++[y]) (upd I D (.lst (ys++[y]))) else B (i+1) ys J)(W:∀ ys H,B xs.length ys H->Q (.ref D) H):CompV (Itl K a) tc te σ D Q H:=by
 refine ⟨fun i m ys H=>m=xs.length - i/\i<=xs.length/\B i ys H,⟨xs.length,by simp,QH _,U⟩,?_⟩
 rintro i m ys H2 ⟨rfl,hi,p⟩
 obtain ⟨S,q⟩:=Z i ys _ p
 by_cases G:i < xs.length
 ·refine .inr ⟨⟨xs,xs[i],q,by simp [G]⟩,_,_,fun y I (q:I D=some (.lst ys)/\B (i+1) (ys++[y]) (upd I D (.lst (ys++[y]))))=>⟨q.1,by omega,xs.length - (i+1),by omega,rfl,G,q.2⟩,fun I (q:B (i+1) ys I)=>⟨xs.length - (i+1),by omega,rfl,G,q⟩,fun v J y=>?_⟩
  obtain ⟨e,y⟩:=y
  subst e
  exact hs i v ys _ (y xs q) p
 ·have e:i=xs.length:=by omega
  subst e
  exact .inl ⟨⟨xs,q,Qh _⟩,W ys H2 p⟩
end L2
namespace L2
open PySem PySem.Spec PyProof.Rows
section
variable {X:Cx}{elt iter tg:Expr}{xa xb:Str}{pos:Pos}{scope:Scope}{wi:TI}{te:TE}{g:TG}
end
section
variable {X:Cx}{elt iter tg cnd:Expr}{xa xb:Str}{pos:Pos}{scope:Scope}{wi:TI}{te:TE}{tc:TT}{g:TG}
end
end L2
namespace L2
open PySem
def YM:HO->Bool
 | .tup _=>false
 | .frz _ _=>false
 | .own _=>false
 | .met _ _=>false
 | .rng _ _=>false
 | .ext _=>false
 | _=>true
def WX (H h:Hp):Hp:=fun b=>match h b with
 | some o=>if YM o=true then none else H b
 | none=>H b
def one (p:Addr)(o:HO):Hp:=fun b=>if b=p then some o else none
theorem one_some :one p o b=some u↔b=p/\o=u:=by
 unfold one
 by_cases h:b=p
 ·rw [if_pos h];exact ⟨fun z=>⟨h,QG z⟩,fun z=>by rw [z.2]⟩
 ·rw [if_neg h];exact ⟨fun z=>(by cases z),fun z=>absurd z.1 h⟩
abbrev YE:=Addr->Hp->Prop
abbrev Rs:=List (Addr×YE)
def Sep:Rs->Hp->Prop
 | [],_=>True
 | (a,R)::Δ,H=>∃ h,Same h H/\R a h/\Sep Δ (WX H h)
theorem cut_some :WX H h b=some o↔H b=some o/\∀ u,h b=some u->YM u=false:=by
 unfold WX
 cases e:h b with
 | none=>exact ⟨fun z=>⟨z,fun u q=>by cases q⟩,fun z=>z.1⟩
 | some v =>
  cases m:YM v with
  | true=>show (if YM v=true then none else H b)=some o↔_;rw [if_pos m];exact ⟨fun z=>(by cases z),fun z=>(by have:=z.2 v rfl;rw [m] at this;cases this)⟩
  | false=>show (if YM v=true then none else H b)=some o↔_;rw [if_neg (by rw [m];decide)];exact ⟨fun z=>⟨z,fun u q=>(by cases q;exact m)⟩,fun z=>z.1⟩
theorem ZaW :Same (WX H h) H:=fun b o e=>(cut_some.mp e).1
theorem ZdF (s:Same H H'):Same (WX H h) (WX H' h):=fun b o e=>let ⟨x,y⟩:=cut_some.mp e;cut_some.mpr ⟨s _ _ x,y⟩
theorem Sep.mono:∀{Δ:Rs}{H H':Hp},Sep Δ H->Same H H'->Sep Δ H'
 | [],_,_,_,_=>trivial
 | (_,_)::_,_,_,⟨h,l,r,S⟩,s=>⟨h,l.trans s,r,S.mono (ZdF s)⟩
theorem Sep.swap (S:Sep ((a,R)::(b,T)::Δ) H):Sep ((b,T)::(a,R)::Δ) H:=by
 obtain ⟨h,l,r,g,m,t,S⟩:=S
 refine ⟨g,m.trans ZaW,t,h,fun c o e=>cut_some.mpr ⟨l _ _ e,fun u q=>?_⟩,r,S.mono fun c o e=>?_⟩
 ·obtain ⟨I,G⟩:=cut_some.mp (m _ _ q)
  have B:=l _ _ e
  rw [I] at B;cases B
  exact G _ e
 ·obtain ⟨e1,B⟩:=cut_some.mp e
  obtain ⟨J,U⟩:=cut_some.mp e1
  exact cut_some.mpr ⟨cut_some.mpr ⟨J,B⟩,U⟩
theorem Sep.tail (S:Sep ((a,R)::Δ) H):Sep Δ H:=by
 obtain ⟨h,l,r,S⟩:=S
 exact S.mono ZaW
class Pull (a:Addr) (Δ:Rs) (R:outParam YE) (Δ':outParam Rs):Prop where
 out:∀ {H},Sep Δ H->Sep ((a,R)::Δ') H
instance (priority:=1000) Pull.here {a:Addr} {R:YE} {Δ:Rs}:Pull a ((a,R)::Δ) R Δ:=⟨fun S=>S⟩
instance (priority:=900) Pull.there {a b:Addr} {R T:YE} {Δ Δ':Rs} [P:Pull a Δ R Δ']:Pull a ((b,T)::Δ) R ((b,T)::Δ') :=
 ⟨fun S=>by
  obtain ⟨h,l,r,S⟩:=S
  exact Sep.swap ⟨h,l,r,P.out S⟩⟩
theorem Sep.pull (S:Sep Δ H)(a:Addr)[P:Pull a Δ R Δ']:Sep ((a,R)::Δ') H:=P.out S
theorem Sep.drop (S:Sep Δ H)(a:Addr)[P:Pull a Δ R Δ']:Sep Δ' H:=(P.out S).tail
class Up (R:YE):Prop where
 up:∀ {a:Addr} {H H':Hp},R a H->Same H H'->R a H'
theorem Sep.get (S:Sep Δ H)(a:Addr)[P:Pull a Δ R Δ'][U:Up R]:R a H:=by
 obtain ⟨h,l,r,_⟩:=P.out S
 exact U.up r l
def Pt (o:HO):YE:=fun a h=>h a=some o
abbrev Yi (xs:List V):YE:=Pt (.lst xs)
abbrev Dic (kv:List (Zo×V)):YE:=Pt (.dK kv)
instance {o:HO}:Up (Pt o):=⟨fun h s=>s _ _ h⟩
theorem Sep.new (S:Sep Δ H){p:Addr}(hp:H p=none)(o:HO):Sep ((p,Pt o)::Δ) (upd H p o):=by
 refine ⟨one p o,fun b u e=>?_,one_some.mpr ⟨rfl,rfl⟩,S.mono fun b u e=>?_⟩
 ·obtain ⟨rfl,rfl⟩:=one_some.mp e;exact Ze
 ·have hb:=Zq e hp
  exact cut_some.mpr ⟨by rw [Zh hb];exact e,fun v q=>absurd (one_some.mp q).1 hb⟩
theorem Sep.made (S:Sep Δ H)(s:Same H H')(hp:H p=none)(e:H' p=some o):Sep ((p,Pt o)::Δ) H':=by
 refine ⟨one p o,fun b u q=>?_,one_some.mpr ⟨rfl,rfl⟩,S.mono fun b u q=>?_⟩
 ·obtain ⟨rfl,rfl⟩:=one_some.mp q;exact e
 ·have hb:=Zq q hp
  exact cut_some.mpr ⟨s _ _ q,fun v q=>absurd (one_some.mp q).1 hb⟩
theorem Sep.put (S:Sep Δ H)(a:Addr)(o':HO)[P:Pull a Δ (Pt o) Δ'](m:YM o=true:=by rfl):Sep ((a,Pt o')::Δ') (upd H a o'):=by
 obtain ⟨h,l,r,S⟩:=P.out S
 refine ⟨one a o',fun b u q=>?_,one_some.mpr ⟨rfl,rfl⟩,S.mono fun b u q=>?_⟩
 ·obtain ⟨rfl,rfl⟩:=one_some.mp q;exact Ze
 ·obtain ⟨B,G⟩:=cut_some.mp q
  have hb:b≠a:=fun z=>by
   have:=G o (by rw [z];exact r)
   rw [m] at this;cases this
  exact cut_some.mpr ⟨by rw [Zh hb];exact B,fun v q=>absurd (one_some.mp q).1 hb⟩
theorem Sep.say (S:Sep Δ H)(a:Addr)(T:YE)[P:Pull a Δ R Δ'](f:∀ h,R a h->T a h):Sep ((a,T)::Δ') H:=by
 obtain ⟨h,l,r,S⟩:=P.out S
 exact ⟨h,l,f h r,S⟩
theorem Sep.call {Δ:Rs}{H H':Hp}{a:Addr}{R T:YE}{L:List Addr}(S:Sep ((a,R)::Δ) H)(k:∀ b o,b ∉ L->H b=some o->H' b=some o)
 (f:∀ h,Same h H->R a h->(∀ b∈L,∃ o,h b=some o/\YM o=true)/\∃ h',Same h' H'/\T a h'/\∀ b o,h' b=some o->YM o=true->b∈L\/H b=none\/∃ u,h b=some u/\YM u=true):Sep ((a,T)::Δ) H':=by
 obtain ⟨h,l,r,S⟩:=S
 obtain ⟨U,h',l',t,Z⟩:=f h l r
 refine ⟨h',l',t,S.mono fun b o e=>?_⟩
 obtain ⟨e1,B⟩:=cut_some.mp e
 have hb:b ∉ L:=fun z=>by
  obtain ⟨u,W,I⟩:=U b z
  rw [B u W] at I;cases I
 refine cut_some.mpr ⟨k b o hb e1,fun u q=>?_⟩
 cases m:YM u with
 | false=>rfl
 | true =>
  rcases Z b u q m with z | z | ⟨v,J,G⟩
  ·exact absurd z hb
  ·rw [e1] at z;cases z
  ·rw [B v J] at G;cases G
abbrev Bx (n:Nat):YE:=fun a h=>BoxAt h a n
instance {n:Nat}:Up (Bx n):=⟨fun h s=>h.same s⟩
theorem Sep.box {n m:Nat}(S:Sep ((p,Bx n)::Δ) H)(k:Kp p H H')(B:BoxAt H' p m):Sep ((p,Bx m)::Δ) H':=by
 refine S.call (L:=[p]) (fun b o nb e=>k b o (fun z=>nb (by simp [z])) e) fun h l r=>⟨fun b hb=>?_,?_⟩
 ·rw [mem_singleton.mp hb]
  obtain ⟨x,y,z,e,_⟩:=r
  exact ⟨_,e,rfl⟩
 ·obtain ⟨x,y,z,e,w⟩:=B
  refine ⟨one p (.lst [.int x,.int y,.int z]),fun b u q=>?_,⟨x,y,z,one_some.mpr ⟨rfl,rfl⟩,w⟩,fun b o q _=>.inl (by simp [(one_some.mp q).1])⟩
  obtain ⟨rfl,rfl⟩:=one_some.mp q;exact e
inductive Zce (M:Int)(vs:List V)(H:Hp)(Q:VK)(w_3:XK):Prop
 | mk (p:Addr) (n:Nat) (m:Int) (Δ:Rs):vs=[.ref p,.int m]->Sep ((p,Bx n)::Δ) H->n<=1000000->0 < m->m < M->(∀ (r:Int) (H':Hp),0<=r->r < m->Sep ((p,Bx (n+1))::Δ) H'->Q (.int r) H')->Zce M vs H Q w_3
theorem Znn {M:Int}(h:Zce M vs H Q E):VM M vs H Q E:=by
 obtain ⟨p,n,m,Δ,e,S,h1,h2,G,q⟩:=h
 exact ⟨p,n,m,e,S.get p,h1,h2,G,fun r H' a b B k=>q r H' a b (S.box k B)⟩
theorem Zgo (h:ZfP u=some x):RelV x u:=by
 cases u<;>first | (cases h;exact rfl) | (cases h;exact ⟨_,rfl⟩) | cases h
theorem Zav:∀{xs:List V}{us:List Qb},us.map ZfP=xs.map some->Vals xs us
 | [],[],_=>.nil
 | [],_::_,h=>by cases h
 | _::_,[],h=>by cases h
 | x::xs,u::us,h=>by
  rw [map_cons,map_cons,List.cons.injEq] at h
  exact .cons (Zgo h.1) (Zav h.2)
def Zdo (K:Qa)(a:Addr)(vs:List V):Bool:=match K.lookup a with
 | some ⟨.type "tuple",_,.seq its _,_⟩=>decide (its.size<=100000)&&decide (its.toList.map ZfP=vs.map some)
 | _=>false
theorem Zet (h:Zdo K a vs=true)(H:Hp):SqT K H a vs:=by
 unfold Zdo at h
 split at h
 ·rename_i B n _ G
  simp only [QM,decide_eq_true_eq] at h
  exact .inr ⟨_,B,n,G,rfl,rfl,Qq h.1 (by decide),Zav h.2⟩
 ·cases h
structure Ym (mg:Str->Option Qb):Prop where
 len:mg "len"=none
 abs:mg "abs"=none
 int:mg "int"=none
 range:mg "range"=none
 min:mg "min"=none
 max:mg "max"=none
 repr:mg "repr"=none
 enumerate:mg "enumerate"=none
 ord:mg "ord"=none
 list:mg "list"=none
 tuple:mg "tuple"=none
 dict:mg "dict"=none
 sorted:mg "sorted"=none
 sum:mg "sum"=none
 all:mg "all"=none
 any:mg "any"=none
 divmod:mg "divmod"=none
 str:mg "str"=none
 isinstance:mg "isinstance"=none
 set:mg "set"=none
 zip:mg "zip"=none
 reversed:mg "reversed"=none
 bool:mg "bool"=none
abbrev DTk (P:Qk)(w:Qt)(K:Qa)(mg:Str->Option Qb)(base:Heap)(k:Nat):Prop:=Def P w K mg base k "_law_take" ["_law_box_here","_law_many"] (Zce 4611686018427387904)
theorem FnOk.conv {k:Nat}{sp sp':Sp}(F:FnOk P w K mg base ZI k f fd ps sp)(h:∀ vs H Q E,sp' vs H Q E->sp vs H Q E):FnOk P w K mg base ZI k f fd ps sp' :=
 ⟨fun vs H Q E z=>F.len vs H Q E (h vs H Q E z),fun A outer s H args us vs Q E G I hb B z=>F.run A outer s H args us vs Q E G I hb B (h vs H Q E z)⟩
theorem Def.conv {k:Nat}{sp sp':Sp}(D:Def P w K mg base k x ps sp)(h:∀ vs H Q E,sp' vs H Q E->sp vs H Q E):Def P w K mg base k x ps sp' :=
 let ⟨f,fd,F,b,kp,m⟩:=D;⟨f,fd,F.conv h,b,kp,m⟩
theorem ZgT {B:Type}{xs:List B}{r:Int}{v:B}(G:0<=r)(h:xs[r.toNat]?=some v):YH xs r=some v:=by
 have z:YH xs ((r.toNat:Nat):Int)=some v:=ZK h
 rwa [show ((r.toNat:Nat):Int)=r by omega] at z
theorem Wf {n m:Nat}(h:n<=m)(B:m<=100000:=by decide):n<=sizeLine:=Qq (Qq h B) (by decide)
theorem YO {n m:Nat}(h:n<=m)(B:m<=100000:=by decide):n < sizeLine:=QN (Qq h B) (by decide)
def DefM (P:Qk)(w:Qt)(K:Qa)(mg:Str->Option Qb)(base:Heap)(k:Nat)(C:Addr)(m:Str)(ps:List Str)(sp:Sp):Prop:=∃ f fd,FnOk P w K mg base ZI k f fd ps sp/\Binds K fd ps []/\Vr K C m f
theorem DefM.mono {j k:Nat}(D:DefM P w K mg base j C m ps sp)(h:j<=k):DefM P w K mg base k C m ps sp :=
 let ⟨f,fd,F,b,q⟩:=D;⟨f,fd,F.mono h,b,q⟩
section
variable {X:Cx}{k:Nat}{C:Addr}{m:Str}{ps:List Str}{sp:Sp}{pos apos:Pos}{o e:Expr}{es:List Expr}{ta:TE}{t:TA}
theorem Yc (D:DefM X.prog X.w X.K X.mg X.base k C m ps sp)(c:Cls X.K C)(J:Room k X.A)(S:PE X o ta)(U:PA X (e::es) t)(B:QE (e::es) X.env=(false,eval e X.env)::QE es X.env:=by rfl)(G:(GU pos (QE es X.env)).any (·.1)=false:=by rfl)(W:eval (.Call (.Attribute o m apos) (e::es) [] pos) X.env=(do
  let I <- eval o X.env
  Tf apos.atName
  let (f,first) <- JE [I] (PM I m pl)
  Tu pos f first (GU pos (QE (e::es) X.env)) (Pe pos (GX [] X.env))):=by rfl):
 PE X (.Call (.Attribute o m apos) (e::es) [] pos) (Zdn C m sp [] E0 ta t):=by
 obtain ⟨f,fd,F,b,q⟩:=D
 exact Zld S c q F J b .nil ZcW U B G W
end
def Kq (S:List Addr)(H H':Hp):Prop:=∀ b o,b ∉ S->H b=some o->H' b=some o
theorem Kq.trans (a:Kq S H H1)(b:Kq S H1 H2):Kq S H H2:=fun x o n h=>b x o n (a x o n h)
theorem Kq.sub (a:Kq S H H')(h:∀ b∈S,b∈B):Kq B H H':=fun x o n e=>a x o (fun z=>n (h x z)) e
theorem Same.kq (h:Same H H'):Kq S H H':=fun b o _ e=>h b o e
theorem Zbh :Kq [a] H (upd H a o):=fun b u n e=>by rw [Zh (fun z=>n (by simp [z]))];exact e
theorem tn:¬ (("nodes":Str)="tables"):=by decide +kernel
def ZaC (ln dt:Addr):List (Str×V):=Xn "tables" (.ref dt) (Xn "nodes" (.ref ln) [])
theorem XH (B G:Addr):(ZaC B G).lookup ("nodes":Str)=some (.ref B):=by unfold ZaC;rw [YU,if_neg tn,YU,if_pos rfl]
theorem Zhe (G B:Addr):(ZaC G B).lookup ("tables":Str)=some (.ref B):=by unfold ZaC;rw [YU,if_pos rfl]
theorem ZS (B G:Addr){m:Str}(h1:¬ m="tables")(h2:¬ m="nodes"):(ZaC B G).lookup m=none:=by
 unfold ZaC
 rw [YU,if_neg h1,YU,if_neg h2]
 rfl
structure StoreAt (K:Qa)(C st ln dt:Addr)(H:Hp)(nds:List Nd)(tabs:List (Zo×V)):Prop where
 ob:∃ dx,H st=some (.ins C dx (ZaC ln dt))
 nl:∃ as:List Addr,H ln=some (.lst (as.map V.ref))/\as.length=nds.length/\∀ (i:Nat) (a:Addr) (n:Nd),as[i]?=some a->nds[i]?=some n->NodeAt K H a n
 tb:H dt=some (.dK tabs)
theorem StoreAt.keep (S:StoreAt K C st G I H nds B)(h:Same H H'):StoreAt K C st G I H' nds B:=by
 obtain ⟨⟨dx,e⟩,⟨as,J,l,W⟩,U⟩:=S
 exact ⟨⟨dx,h _ _ e⟩,⟨as,h _ _ J,l,fun i a n x y=>(W i a n x y).tf h.tf⟩,h _ _ U⟩
theorem StoreAt.kq (S:StoreAt K C st G I H nds B)(k:Kq L H H')(t:TF H H')(h1:st ∉ L)(h2:G ∉ L)(J:I ∉ L):StoreAt K C st G I H' nds B:=by
 obtain ⟨⟨dx,e⟩,⟨as,U,l,Z⟩,W⟩:=S
 exact ⟨⟨dx,k _ _ h1 e⟩,⟨as,k _ _ h2 U,l,fun i a n x y=>(Z i a n x y).tf t⟩,k _ _ J W⟩
theorem Grown.kq (g:Grown Pl H H'):Kq [Pl] H H':=fun b o n e=>g b o (fun z=>n (by simp [z])) e
theorem LamAt.kq (h:LamAt H Pl lpos q)(k:Kq L H H')(B:∀ b∈L,∃ xs,H b=some (.lst xs)):LamAt H' Pl lpos q:=by
 rcases h with h | ⟨c,h,h2⟩
 ·exact .inl (k _ _ (fun z=>by obtain ⟨_,e⟩:=B _ z;rw [h] at e;cases e) h)
 ·exact .inr ⟨c,k _ _ (fun z=>by obtain ⟨_,e⟩:=B _ z;rw [h] at e;cases e) h,k _ _ (fun z=>by obtain ⟨_,e⟩:=B _ z;rw [h2] at e;cases e) h2⟩
theorem ZbJ {G:Type}{xs:List G}{r:Int}(I:0<=r)(h1:r < (xs.length:Int)):∃ v,YH xs r=some v/\v∈xs:=by
 have B:r.toNat < xs.length:=by omega
 have z:YH xs ((r.toNat:Nat):Int)=some xs[r.toNat]:=ZK (getElem?_eq_getElem B)
 have e:((r.toNat:Nat):Int)=r:=by omega
 rw [e] at z
 exact ⟨_,z,Jp B⟩
def IsVal:V->Prop
 | .int i=>i.natAbs < 10 ^ 30
 | .str x=>x.length<=40/\x.cps.toList.all sgn=true
 | _=>False
def Zdp:V->Bool
 | .int i=>decide (i.natAbs < 10 ^ 30)
 | .str x=>decide (x.length<=40)&&x.cps.toList.all sgn
 | _=>false
theorem ZaE (h:Zdp v=true):IsVal v:=by
 cases v with
 | int i=>exact of_decide_eq_true (p:=i.natAbs < 10 ^ 30) h
 | str x =>
  have h':(decide (x.length<=40)&&x.cps.toList.all sgn)=true:=h
  simp only [QM,decide_eq_true_eq] at h'
  exact h'
 | _=>cases h
theorem IsVal.b31 {i:Int}(h:IsVal (.int i)):i.natAbs<=10 ^ 31:=Qq (GF (show i.natAbs < 10 ^ 30 from h)) (by decide)
inductive Zcf (vs:List V)(H:Hp)(Q:VK)(w_3:XK):Prop
 | mk (p:Addr) (n:Nat):vs=[.ref p]->BoxAt H p n->n<=900000->(∀ (v:V) (H':Hp),IsVal v->BoxAt H' p (n+50)->Kp p H H'->Q v H')->Zcf vs H Q w_3
def ZjY:List Stmt->Str
 | .Assign _ (.Constant (.str x) _ _) _::_=>x
 | _::r=>ZjY r
 | []=>Str.empty
theorem FnOk.ex {P:Qk}{w:Qt}{K:Qa}{mg:Str->Option Qb}{base:Heap}{k:Nat}{f:Addr}{fd:Qn}{ps:List Str}{ok:List Str->Prop}{sp:List Str->Sp}(F:∀ NS,ok NS->FnOk P w K mg base ZI k f fd ps (sp NS)) :
 FnOk P w K mg base ZI k f fd ps (fun vs H Q E=>∃ NS,ok NS/\sp NS vs H Q E) :=
 ⟨fun vs H Q E ⟨NS,N,h⟩=>(F NS N).len vs H Q E h,fun A outer s H args us vs Q E G I hb B ⟨NS,N,h⟩=>(F NS N).run A outer s H args us vs Q E G I hb B h⟩
def ZbD (P:Qk)(w:Qt)(K:Qa)(mg:Str->Option Qb)(base:Heap)(k:Nat)(C:Addr)(x:Str)(ps:List Str)(sp:Sp):Prop:=∃ f fd,FnOk P w K mg base ZI k f fd ps sp/\Binds K fd ps []/\Mk K C f/\mg x=some (.ref C)
theorem ZcX {k:Nat}(D:ZbD X.prog X.w X.K X.mg X.base k C x ps sp)(I:Room (k+1) X.A)(G:Gl X x:=by rfl)(B:(x == ("__debug__":Str))=false:=by decide):
 PE X (.Call (.Name x p) [] [] pos) (Zkk C sp [] E0 Xo):=by
 obtain ⟨f,fd,F,b,M,m⟩:=D
 exact Zjr M F I G m b .nil ZcW B
theorem SqL.obj (h:SqL K H a xs):(∀ H',SqL K H' a xs)\/∃ o,H a=some o/\(∀ tb,o≠.tbl tb)/\∀ H',H' a=some o->SqL K H' a xs:=by
 rcases h with (h | ⟨o,h⟩) | h
 ·exact .inr ⟨_,h,(fun tb z=>by cases z),fun H' e=>.inl (.inl e)⟩
 ·exact .inr ⟨_,h,(fun tb z=>by cases z),fun H' e=>.inl (.inr ⟨o,e⟩)⟩
 ·exact .inl fun H'=>.inr h
theorem Zcz (s:Same H H')(h:H' a=none):H a=none:=by
 cases e:H a with
 | none=>rfl
 | some o=>rw [s _ _ e] at h;cases h
end L2
namespace L2
open PySem PySem.Spec PyProof.Rows
theorem Sep.nest {a:Addr}:∀{Γ:Rs}{H h:Hp},Same h H->Sep Γ h->Sep Δ (WX H h)->Sep (Γ++Δ) H
 | [],_,_,_,_,S=>S.mono ZaW
 | (b,T)::Γ,H,h,l,⟨g,m,t,G⟩,S=>by
  refine ⟨g,m.trans l,t,Sep.nest (a:=a) (h:=WX h g) (ZdF l) G (S.mono fun c o e=>?_)⟩
  obtain ⟨e1,B⟩:=cut_some.mp e
  refine cut_some.mpr ⟨cut_some.mpr ⟨e1,fun u q=>B u (m _ _ q)⟩,fun u q=>B u (cut_some.mp q).1⟩
theorem Sep.pack' :∀{Γ:Rs}{H:Hp},Sep (Γ++Δ) H->∃ h,Same h H/\Sep Γ h/\Sep Δ (WX H h)
 | [],H,S=>⟨fun _=>none,fun b o e=>(by cases e),trivial,S.mono fun b o e=>cut_some.mpr ⟨e,fun u q=>(by cases q)⟩⟩
 | (b,T)::Γ,H,⟨g,m,t,S⟩=>by
  obtain ⟨h',I,G,S⟩:=Sep.pack' S
  refine ⟨fun c=>match g c with | some o=>some o | none=>h' c,fun c o e=>?_,⟨g,fun c o e=>?_,t,G.mono fun c o e=>?_⟩,S.mono fun c o e=>?_⟩
  ·cases q:g c with
   | some u=>simp only [q] at e;cases e;exact m _ _ q
   | none=>simp only [q] at e;exact (cut_some.mp (I _ _ e)).1
  ·simp only [e]
  ·obtain ⟨e1,B⟩:=cut_some.mp (I _ _ e)
   refine cut_some.mpr ⟨?_,B⟩
   cases q:g c with
   | some u=>simp only [q];rw [m _ _ q] at e1;exact e1
   | none=>simp only [q];exact e
  ·obtain ⟨e1,B⟩:=cut_some.mp e
   obtain ⟨J,U⟩:=cut_some.mp e1
   refine cut_some.mpr ⟨J,fun u q=>?_⟩
   cases z:g c with
   | some v=>simp only [z] at q;cases q;exact U _ z
   | none=>simp only [z] at q;exact B _ q
theorem Sep.pack {Γ Δ:Rs}(S:Sep (Γ++Δ) H)(f:∀ h,Sep Γ h->R a h):Sep ((a,R)::Δ) H:=by
 obtain ⟨h,l,G,S⟩:=Sep.pack' S
 exact ⟨h,l,f h G,S⟩
section
variable {X:Cx}
end
section
variable {X:Cx}{k:Nat}{C:Addr}{x m:Str}{ps:List Str}{sp:Sp}{p pos apos:Pos}{o:Expr}{ta:TE}
theorem Vb (D:DefM X.prog X.w X.K X.mg X.base k C m ps sp)(c:Cls X.K C)(G:Room k X.A)(I:PE X o ta)(J:eval (.Call (.Attribute o m apos) [] [] pos) X.env=(do
  let B <- eval o X.env
  Tf apos.atName
  let (f,first) <- JE [B] (PM B m pl)
  Tu pos f first (GU pos (QE [] X.env)) (Pe pos (GX [] X.env))):=by rfl):
 PE X (.Call (.Attribute o m apos) [] [] pos) (Zdn C m sp [] E0 ta Xo):=by
 obtain ⟨f,fd,F,b,q⟩:=D
 exact Zjs I c q F G b .nil ZcW J
end
section
variable {X:Cx}
end
inductive Zfy (i j k:Nat)(D:Yj)(σ:St)(vs:List V)(H1:Hp):Prop
 | mk (u v w:_):vs=[u,v,w]->D.nx (((σ.set i (some u)).set j (some v)).set k (some w)) H1->Zfy i j k D σ vs H1
def ZoC (i j k:Nat)(ta:TA):TS:=fun D σ H=>ta σ H fun vs H1=>Zfy i j k D σ vs H1
theorem Zli {i j k:Nat}{kt k2 pt2}(hc:X.calm=true)(U:X.N.Nodup)(hi:X.N[i]?=some x)(hj:X.N[j]?=some y)(hk:X.N[k]?=some z)(hij:i≠j)(S:i≠k)(hjk:j≠k)(hx:X.env.scope.names.lookup x=some .local)(hy:X.env.scope.names.lookup y=some .local)(hz:X.env.scope.names.lookup z=some .local)(ha:PA X [a,b,c] ta)(hw:swappedStores [.Tuple [.Name x px,.Name y py,.Name z pz] kt pt] (.Tuple [a,b,c] k2 pt2) X.env=pure (some [x,y,z]))(hs:swapsWithSole [.Tuple [.Name x px,.Name y py,.Name z pz] kt pt] (.Tuple [a,b,c] k2 pt2) pos.line X.env=pure false:=by rfl):
 PS X (.Assign [.Tuple [.Name x px,.Name y py,.Name z pz] kt pt] (.Tuple [a,b,c] k2 pt2) pos) (ZoC i j k ta):=by
 intro pins s σ H D I h
 rw [exec_Assign_arm]
 refine Qf (GH ?_)
 rw [hs]
 refine Qf (Qy ?_)
 rw [if_neg (by decide)]
 refine Qf (Tuple_ (Zs (ha _ pins s σ H _ I h) fun us s1 zz=>?_))
 obtain ⟨vs,H1,I1,r1,q1⟩:=zz
 obtain ⟨v1,v2,v3,e1,q1⟩:=q1
 subst e1
 obtain ⟨B,J,G,rfl,rv1,rv2,Z⟩:∃ B J G,us=[B,J,G]/\RelV v1 B/\RelV v2 J/\RelV v3 G:=by
  cases r1 with
  | cons p q =>
   cases q with
   | cons p' q' =>
    cases q' with
    | cons p'' q'' =>
     cases q''
     exact ⟨_,_,_,rfl,p,p',p''⟩
 refine JJ ?_ (by show 3<=Qj;decide)
 have I2:Inv X pins σ H1 { s1 with heap:=s1.heap.push { cls:=.type "tuple",data:=.seq [B,J,G].toArray } }:=I1.kept (t':=s1.toks) fun b o e=>Qd _ e
 rw [hw]
 refine Qf (Qy ?_)
 show Qr (Qs X.prog X.w) X.A (do rule "assign.swapped-stores";let items <- unpackItems (.ref s1.heap.objs.size) 3 none;Rp [fun v=>Ta X.env z v,fun v=>Ta X.env y v,fun v=>Ta X.env x v] items.reverse;pure Flow.next) _ _ _
 refine Qf (wpAny_rule (Qf (unpackItems_tuple (items:=#[B,J,G]) (I.ok.hd hc) (IsTup.new s1.heap _) fun h' W=>?_)))
 have I3:=I2.kept (h':=h') (t':=s1.toks) fun b o e=>W b o (Qu (Qg e)) e
 show Qr _ _ (Rp [fun v=>Ta X.env z v,fun v=>Ta X.env y v,fun v=>Ta X.env x v] [G,J,B] >>= fun _=>pure Flow.next) _ _ _
 refine Qf (Jy (SX (XQ I3 U hk (.inl hz) Z (fun s2 I4=>?_) (.inr hz))))
 refine Jy (SX (XQ I4 U hj (.inl hy) rv2 (fun s3 I5=>?_) (.inr hy)))
 refine Jy (SX (XQ I5 U hi (.inl hx) rv1 (fun s4 I6=>RP (Qy ?_)) (.inr hx)))
 rw [Ru _ _ (Gv hjk),Ru _ _ (Gv S),Ru _ _ (Gv hij)] at I6
 exact ⟨_,H1,I6,q1⟩
section
variable {X:Cx}
end
end L2
namespace L2
open PySem
theorem Sep.newE (S:Sep Δ H)(hp:H p=none)(e:upd H p o=H2):Sep ((p,Pt o)::Δ) H2:=e ▸ S.new hp o
theorem Sep.putE (S:Sep Δ H)(e:upd H a o'=H2)[P:Pull a Δ (Pt o) Δ'](m:YM o=true:=by rfl):Sep ((a,Pt o')::Δ') H2:=e ▸ S.put a o' m
theorem Zan {lo:Int}{n:Nat}(hn:n<=Qj)(S:Sep Δ H)(hD:H D=none)(J:Nat->List V->Rs->Prop)(W:J 0 [] Δ)(hs:∀ i ys Δ H,i < n->ys.length=i->J i ys Δ->Sep ((D,Yi ys)::Δ) H->te (σ++[some (.int (lo+i))]) H fun y G=>∃ Δ',J (i+1) (ys++[y]) Δ'/\Sep ((D,Yi ys)::Δ') G)(Z:∀ ys Δ H,J n ys Δ->ys.length=n->Sep ((D,Yi ys)::Δ) H->Q (.ref D) H):CompW (Itr lo n) te σ D Q H:=by
 refine ⟨fun i m ys H=>m=n - i/\i<=n/\ys.length=i/\∃ Δ,J i ys Δ/\Sep ((D,Yi ys)::Δ) H,⟨n,by simp,QH _,rfl,Δ,W,S.new hD _⟩,?_⟩
 rintro i m ys H2 ⟨rfl,hi,U,Δ,j,S⟩
 by_cases B:i < n
 ·refine .inr ⟨B,_,fun y G (q:∃ Δ',J (i+1) (ys++[y]) Δ'/\Sep ((D,Yi ys)::Δ') G)=>?_,fun v H3 y=>?_⟩
  ·obtain ⟨Δ',j',I⟩:=q
   exact ⟨I.get D,by omega,n - (i+1),by omega,rfl,B,by simp [U],Δ',j',I.put D _⟩
  ·obtain ⟨e1,e2⟩:=y
   subst e1 e2
   exact hs i ys Δ _ B U j S
 ·have e:i=n:=by omega
  exact .inl ⟨by show n<=i;omega,Z ys Δ H2 (e ▸ j) (by omega) S⟩
end L2
namespace L2
open PySem PySem.W PySem.Spec PyProof.Rows
section
variable {prog:Qk}{w:Qt}{A:QA}{E:Qb->Qe->Prop}{s:Qe}{a:Addr}{as:List Addr}{ks:List Str}{P:Rf->Qe->Prop}
end
section
variable {X:Cx}
end
end L2
namespace L2
open PySem
def Zdu (x:Str):Prop:=1<=x.length/\x.length<=8/\x.cps.toList.all ZdP=true
theorem Ws (c:Nat):(⟨#[c]⟩:Str).length=1:=rfl
theorem ZdV :∀{l:List Str},(∀ z∈l,∃ c,z=⟨#[c]⟩/\P c=true)->(l.map (·.length)).sum=l.length/\(l.flatMap (·.cps.toList)).length=l.length/\(l.flatMap (·.cps.toList)).all P=true
 | [],_=>⟨rfl,rfl,rfl⟩
 | z :: r,h=>by
  obtain ⟨c,rfl,I⟩:=h z mem_cons_self
  obtain ⟨G,S,J⟩:=ZdV (l:=r) fun y U=>h y (mem_cons_of_mem _ U)
  refine ⟨?_,?_,?_⟩
  ·rw [map_cons,Rv,G,length_cons];show 1+_=_;omega
  ·have B:((⟨#[c]⟩:Str)::r).flatMap (·.cps.toList)=c::r.flatMap (·.cps.toList):=rfl
   rw [B,length_cons,length_cons,S]
  ·rw [Tj,Su,J];simp [I]
theorem Zhl (h:∀ z∈zs,∃ c,z=⟨#[c]⟩/\P c=true):(zs.map (·.length)).sum+zs.length * (Qw "").length<=2 * zs.length/\(Txt.join (Qw "") zs).length=zs.length/\(Txt.join (Qw "") zs).cps.toList.all P=true:=by
 obtain ⟨I,G,B⟩:=ZdV h
 refine ⟨?_,?_,?_⟩
 ·rw [I];show _+_ * 0<=_;omega
 ·rw [Yq,WN,G]
 ·rw [WN];exact B
theorem Zay {P:Nat->Bool}{x y:Str}(h1:x.cps.toList.all P=true)(h2:y.cps.toList.all P=true):(x++y).cps.toList.all P=true:=by
 rw [Zcl,Su,h1,h2];rfl
theorem ZdU {c:Nat}(h:P c=true):(⟨#[c]⟩:Str).cps.toList.all P=true:=by
 show [c].all P=true;simp [h]
theorem Zbt (h:x.cps.toList.all P=true):(Txt.slice x lo hi).cps.toList.all P=true:=by
 rw [Ur]
 rw [all_eq_true] at h ⊢
 exact fun c B=>h c (List.mem_of_mem_drop (List.mem_of_mem_take B))
theorem Zic {x:Str}{k:Int}(J:0<=k)(h1:k<=x.length):(Txt.slice x none (some k)).length+(Txt.slice x (some k) none).length=x.length:=by
 have I:¬ k < 0:=by omega
 rw [Yq,Yq,Ur,Ur,Yq]
 rw [Yq] at h1
 have e1:HT.sIx x.cps.toList.length 0 none=0:=rfl
 have G:HT.sIx x.cps.toList.length x.cps.toList.length none=x.cps.toList.length:=rfl
 have B:∀ d,HT.sIx x.cps.toList.length d (some k)=k.toNat:=fun d=>by
  unfold HT.sIx
  simp only [I,if_false]
  omega
 rw [e1,G,B,B,length_take,length_take,Tv,Tv]
 omega
theorem ZbX {x:Str}{P:Nat->Bool}(G:x.cps.toList.all P=true){r:Int}(I:0<=r)(h1:r < x.length):∃ c,YH x.cps.toList r=some c/\P c=true:=by
 have B:r.toNat < x.cps.toList.length:=by rw [<- Yq];omega
 exact ⟨_,ZgT I (getElem?_eq_getElem B),all_eq_true.mp G _ (Jp B)⟩
def a26:Str:="abcdefghijklmnopqrstuvwxyz"
theorem WP:a26.length=26:=by decide +kernel
theorem ZbG:a26.cps.toList.all ZdP=true:=by decide +kernel
theorem ZkH {xs:List V}{r:Int}(G:0<=r)(h1:r < (xs.length:Int)):∃ x∈xs,YH xs r=some x:=by
 have B:r.toNat < xs.length:=by omega
 exact ⟨_,Jp B,ZgT G (getElem?_eq_getElem B)⟩
theorem Sep.le {n m:Nat}(S:Sep ((p,Bx n)::Δ) H)(h:n<=m):Sep ((p,Bx m)::Δ) H:=by
 obtain ⟨g,l,r,S⟩:=S
 exact ⟨g,l,BoxAt.le r h,S⟩
inductive Vh (vs:List V)(H:Hp)(Q:VK)(w_3:XK):Prop
 | mk (p:Addr) (n:Nat) (Δ:Rs):vs=[.ref p]->Sep ((p,Bx n)::Δ) H->n<=900000->(∀ (v:V) (H':Hp),IsVal v->Sep ((p,Bx (n+50))::Δ) H'->Q v H')->Vh vs H Q w_3
theorem ZlE (h:Vh vs H Q E):Zcf vs H Q E:=by
 obtain ⟨p,n,Δ,e,S,h1,q⟩:=h
 exact ⟨p,n,e,S.get p,h1,fun v H' G B k=>q v H' G (S.box k B)⟩
inductive Zbv (K:Qa)(vs:List V)(H:Hp)(Q:VK)(w_3:XK):Prop
 | mk (a:Addr) (ns:List Int) (k:Int) (Δ:Rs):vs=[.ref a,.int k]->SqL K H a (ns.map V.int)->Sep Δ H->0<=k->k<=1000->(∀ (p:Addr) (H':Hp),Same H H'->Sep ((p,Bx 0)::Δ) H'->Q (.ref p) H')->Zbv K vs H Q w_3
theorem ZnD (h:Zbv K vs H Q E):Zgt K vs H Q E:=by
 obtain ⟨a,I,k,Δ,e,G,S,h1,h2,q⟩:=h
 refine ⟨a,I,k,e,G,h1,h2,fun p H' hp B s=>q p H' s ?_⟩
 obtain ⟨x,y,z,J,w⟩:=B
 exact (S.made s hp J).say p (Bx 0) fun h r=>⟨x,y,z,r,w⟩
inductive Stp where
 | set (x:Str) (v:V)
 | clr (x:Str)
def Stp.vs:Stp->List V
 | .set x v=>[.str "set",.str x,v]
 | .clr x=>[.str "clear",.str x]
def Stp.ok (NS:List Str):Stp->Prop
 | .set x v=>x∈NS/\IsVal v
 | .clr x=>x∈NS
class IsLst (R:YE) (k:Nat):Prop where
 lst:∀ {a h},R a h->∃ xs,h a=some (.lst xs)/\xs.length=k
theorem Zau (B:Nat):∀(ts:List Str)(k:Nat)(G:Str),(∀ t∈ts,t.length<=B)->(textFrom k G ts).length<=G.length+ts.length * (B+2)
 | [],_,G,_=>by show G.length<=G.length+0 * (B+2);omega
 | t::r,k,G,h=>by
  have h1:=Zau B r (k+1) (G++(if k > 0 then ", " else "":String)++t) fun x I=>h x (mem_cons_of_mem _ I)
  have h2:=h t mem_cons_self
  rw [YX,YX] at h1
  have J:(Qw (if k > 0 then ", " else "":String)).length<=2:=by split<;>decide
  show (textFrom (k+1) (G++(if k > 0 then ", " else "":String)++t) r).length<=G.length+(r.length+1) * (B+2)
  rw [Nat.add_mul,Nat.one_mul]
  omega
theorem ZkE {i:Int}(h:i.natAbs<=10 ^ 31):i.natAbs.log2 < 1920/\(Qw (SI i)).length<=40:=by
 constructor
 ·by_cases z:i.natAbs=0
  ·rw [z];decide
  ·exact (OR z).mpr (QN h (by decide +kernel))
 ·have e:=int_text_length_le10 (a:=i) (k:=32) (by decide) (QN h (by decide))
  rw [Yq,Ni,length_map,String.length_toList]
  omega
theorem Zee (q c:Nat)(h:c < 128):(Gb q c).length<=4:=by
 by_cases e:(c == q || c == 92)=true
 ·unfold Gb;simp only [e,if_true];show 2<=4;decide
 ·have B:(c == 200 || c == 92)=false:=by
   simp only [So,not_or,beq_iff_eq] at e
   simp only [Bool.or_eq_false_iff,beq_eq_false_iff_ne]
   exact ⟨by omega,e.2⟩
  have z:Gb q c=Gb 200 c:=by
   unfold Gb
   simp only [Bool.not_eq_true] at e
   simp only [e,B]
  rw [z]
  have all:∀ c:_root_.Fin 128,(Gb 200 c.val).length<=4:=by decide +kernel
  exact all ⟨c,h⟩
theorem ZjF (h:∀ c∈x.cps.toList,c < 128):(reprText x).length<=2+4 * x.length:=by
 rw [<- reprLen_eq,<- Array.foldl_toList,Yq]
 have B:∀ (l:List Nat) (n:Nat),(∀ c∈l,c < 128)->l.foldl (fun n c=>n+(Gb (reprQuote x) c).length) n<=n+4 * l.length:=by
  intro l
  induction l with
  | nil=>intro n _;simp
  | cons c r ih =>
   intro n G
   have h1:=Zee (reprQuote x) c (G c mem_cons_self)
   have h2:=ih (n+(Gb (reprQuote x) c).length) fun d I=>G d (mem_cons_of_mem _ I)
   rw [OZ,length_cons]
   omega
 exact B _ _ h
def NvV (v:V):Prop:=v=.non\/IsVal v
def Xa:V->Tp
 | .int i=>.int i
 | .str x=>.str x
 | _=>.none
theorem Zfd (h:NvV v):DataOf H v (Xa v):=by
 rcases h with rfl | h
 ·exact .non
 ·cases v<;>first | exact .int _ | exact .str _ | exact h.elim
structure Sml (d:Tp)(n k:Nat):Prop where
 sh:d.showable=true
 ln:d.shown.length<=n
 dp:d.depth<=k
theorem Zlv {n:Nat}(h:∀ c∈x.cps.toList,c < 128)(B:2+4 * x.length<=n)(k:Nat):Sml (.str x) n k:=⟨rfl,Qq (ZjF h) B,QH _⟩
theorem ZdT (h:NvV v)(k:Nat):Sml (Xa v) 200 k:=by
 rcases h with rfl | h
 ·exact ⟨rfl,by show 4<=200;decide,QH _⟩
 ·cases v with
  | int i =>
   obtain ⟨h1,h2⟩:=ZkE (IsVal.b31 h)
   exact ⟨decide_eq_true h1,Qq h2 (by decide),QH _⟩
  | str x =>
   refine Zlv (fun c B=>?_) (by have:x.length<=40:=h.1;omega) k
   have:=all_eq_true.mp h.2 c B
   unfold sgn at this
   simp only [QM,decide_eq_true_eq] at this
   omega
  | _=>exact h.elim
theorem Uf:∀ ds:List Tp,Ps ds=ds.map GG
 | []=>rfl
 | d::r=>by rw [Ps,Uf r];rfl
theorem Wy:∀{ds:List Tp},(∀ d∈ds,d.showable=true)->RJ ds=true
 | [],_=>rfl
 | d::r,h=>by rw [RJ,h d mem_cons_self,Wy fun e B=>h e (mem_cons_of_mem _ B)];rfl
theorem Uo {k:Nat}:∀{ds:List Tp},(∀ d∈ds,d.depth<=k)->Pu ds<=k
 | [],_=>QH _
 | d::r,h=>by
  have h1:=h d mem_cons_self
  have h2:=Uo (k:=k) (ds:=r) fun e B=>h e (mem_cons_of_mem _ B)
  simp [Pu];omega
theorem ZiV {ds:List Tp}{n k:Nat}(h:∀ d∈ds,Sml d n k):Sml (.list ds) (2+ds.length * (n+2)) (k+1):=by
 refine ⟨Wy fun d B=>(h d B).sh,?_,?_⟩
 ·show (listText (Ps ds)).length<=_
  rw [Uf]
  show (textFrom 0 "[" (ds.map GG)++Qw "]").length<=_
  rw [YX]
  have z:=Zau n (ds.map GG) 0 "[" (fun t I=>by
   obtain ⟨d,B,rfl⟩:=mem_map.mp I
   exact (h d B).ln)
  rw [length_map] at z
  have G:(Qw "[").length=1:=by decide
  have J:(Qw "]").length=1:=by decide
  have S:(textFrom 0 "[" (ds.map GG)).length<=1+ds.length * (n+2):=by rw [<- G];exact z
  omega
 ·have:=Uo (k:=k) fun d B=>(h d B).dp
  show Pu ds+1<=_
  omega
theorem VO :∀{vs:List V},(∀ v∈vs,NvV v)->DatasOf H vs (vs.map Xa)
 | [],_=>.nil
 | v::r,h=>.cons (Zfd (h v mem_cons_self)) (VO fun u B=>h u (mem_cons_of_mem _ B))
theorem ZcO (e:H a=some (.lst vs))(h:∀ v∈vs,NvV v)(G:vs.length<=1000):DataOf H (.ref a) (.list (vs.map Xa))/\(OU (vs.map Xa)).showable=true/\(OU (vs.map Xa)).shown.length<=Qj/\(OU (vs.map Xa)).depth<=60:=by
 have s:=ZiV (ds:=vs.map Xa) (n:=200) (k:=0) fun d I=>by
  obtain ⟨v,B,rfl⟩:=mem_map.mp I
  exact ZdT (h v B) 0
 refine ⟨.lst e (VO h),s.sh,Qq s.ln ?_,Qq s.dp (by decide)⟩
 rw [length_map]
 have:vs.length * (200+2)<=1000 * 202:=Pg _ G
 rw [QR];omega
def WW (K:Qa)(C:Addr)(nds:List Nd)(tabs:List (Zo×V)):YE:=fun st h=>nds[0]?=some .bare/\∃ ln dt,StoreAt K C st ln dt h nds tabs
def Zix (lp:Pos)(q:Str):YE:=fun Pl h=>LamAt h Pl lp q
instance {K:Qa} {C:Addr} {nds:List Nd} {tabs:List (Zo×V)}:Up (WW K C nds tabs):=⟨fun ⟨h0,ln,dt,h⟩ s=>⟨h0,ln,dt,h.keep s⟩⟩
theorem LamAt.same' (h:LamAt H Pl B q)(s:Same H H'):LamAt H' Pl B q:=by
 rcases h with h | ⟨c,h1,h2⟩
 ·exact .inl (s _ _ h)
 ·exact .inr ⟨c,s _ _ h1,s _ _ h2⟩
def some_of (H:Hp)(L:List Addr):Hp:=fun b=>if b∈L then H b else match H b with
 | some o=>if YM o=true then none else some o
 | none=>none
theorem WT :Same (some_of H L) H:=fun b o e=>by
 unfold some_of at e
 split at e
 ·exact e
 ·split at e
  ·rename_i o' h'
   split at e
   ·cases e
   ·cases e;exact h'
  ·cases e
theorem XT (h:b∈L):some_of H L b=H b:=by unfold some_of;rw [if_pos h]
theorem UF (e:H b=some o)(m:YM o=false):some_of H L b=some o:=by
 unfold some_of
 split
 ·exact e
 ·simp only [e,m,Gf,if_false]
theorem Wz (e:some_of H L b=some o)(m:YM o=true):b∈L:=by
 unfold some_of at e
 split at e
 ·assumption
 ·split at e
  ·split at e
   ·cases e
   ·rename_i h;cases e;exact absurd m h
  ·cases e
theorem Zfs :TF H (some_of H L):=⟨fun b xs e=>UF e rfl,fun b o u e=>UF e rfl⟩
theorem Sep.stoLam (S:Sep ((st,WW K C nds U)::(Pl,Zix lp q)::Δ) H):
 ∃ I J,StoreAt K C st I J H nds U/\nds[0]?=some .bare/\LamAt H Pl lp q/\∀ H' nds' G,StoreAt K C st I J H' nds' G->nds'[0]?=some .bare->LamAt H' Pl lp q->Kq [I,J,Pl] H H'->Sep ((st,WW K C nds' G)::(Pl,Zix lp q)::Δ) H':=by
 obtain ⟨h1,l1,⟨b0,I,J,r1⟩,h2,l2,r2,S⟩:=S
 have r2':LamAt h2 Pl lp q:=r2
 refine ⟨I,J,r1.keep l1,b0,(LamAt.same' r2' l2).same' ZaW,fun H' nds' G S' b0' L' kq=>?_⟩
 obtain ⟨tb,etb⟩:=r2'.tbl
 obtain ⟨tb',B⟩:=L'.tbl
 obtain ⟨dx,ob⟩:=r1.ob
 obtain ⟨as,nl,_⟩:=r1.nl
 obtain ⟨dx',ob'⟩:=S'.ob
 obtain ⟨as',nl',W,Z⟩:=S'.nl
 have nPl:Pl ∉ [st,I,J]:=fun z=>by
  simp only [mem_cons,not_mem_nil,or_false] at z
  rcases z with z | z | z
  ·rw [z,ob'] at B;cases B
  ·rw [z,nl'] at B;cases B
  ·rw [z,S'.tb] at B;cases B
 refine ⟨some_of H' [st,I,J],WT,⟨b0',I,J,⟨⟨dx',by rw [XT (by simp)];exact ob'⟩,⟨as',by rw [XT (by simp)];exact nl',W,fun i a n e1 e2=>(Z i a n e1 e2).tf Zfs⟩,by rw [XT (by simp)];exact S'.tb⟩⟩,?_⟩
 have imm:∀ b o,H' b=some o->YM o=false->WX H' (some_of H' [st,I,J]) b=some o:=fun b o e m=>cut_some.mpr ⟨e,fun u z=>by have:=WT _ _ z;rw [e] at this;cases this;exact m⟩
 refine ⟨some_of (WX H' (some_of H' [st,I,J])) [Pl],WT,?_,S.mono fun b o e=>?_⟩
 ·have ePl:some_of (WX H' (some_of H' [st,I,J])) [Pl] Pl=H' Pl:=by
   rw [XT (by simp)]
   have:WX H' (some_of H' [st,I,J]) Pl=some (.tbl tb'):=cut_some.mpr ⟨B,fun u z=>by
    cases m:YM u with
    | false=>rfl
    | true=>exact absurd (Wz z m) nPl⟩
   rw [this,B]
  rcases L' with z | ⟨c,z1,z2⟩
  ·exact .inl (by rw [ePl];exact z)
  ·refine .inr ⟨c,by rw [ePl];exact z1,?_⟩
   exact UF (imm _ _ z2 rfl) rfl
 ·obtain ⟨e1,e2⟩:=cut_some.mp e
  obtain ⟨e3,e4⟩:=cut_some.mp e1
  have n1:b≠I:=fun z=>by have:=e4 _ (z ▸ nl);cases this
  have n2:b≠J:=fun z=>by have:=e4 _ (z ▸ r1.tb);cases this
  have n3:b≠Pl:=fun z=>by have:=e2 _ (z ▸ etb);cases this
  have n4:b≠st:=fun z=>by have:=e4 _ (z ▸ ob);cases this
  have e5:=kq b o (by simp [n1,n2,n3]) e3
  refine cut_some.mpr ⟨cut_some.mpr ⟨e5,fun u z=>?_⟩,fun u z=>?_⟩
  ·cases m:YM u with
   | false=>rfl
   | true=>have:=Wz z m;simp [n1,n2,n4] at this
  ·cases m:YM u with
   | false=>rfl
   | true=>have:=Wz z m;simp [n3] at this
def Xt (C:Addr)(fs:List (Str×V)):YE:=fun a h=>∃ dx,h a=some (.ins C dx fs)
instance {C:Addr} {fs:List (Str×V)}:Up (Xt C fs):=⟨fun ⟨dx,h⟩ s=>⟨dx,s _ _ h⟩⟩
structure YD where
 ah:Nat
 st:Stp
 tb:Nat
 co:Nat
def UN (ss:List Stp):YE:=fun l h=>∃ as:List Addr,h l=some (.lst (V.non::as.map V.ref))/\as.length=ss.length/\∀(i:Nat)(a:Addr)(s:Stp),as[i]?=some a->ss[i]?=some s->h a=some (.tup s.vs)
instance {ss:List Stp}:Up (UN ss):=⟨fun ⟨as,e,l,h⟩ s=>⟨as,s _ _ e,l,fun i a x e1 e2=>s _ _ (h i a x e1 e2)⟩⟩
abbrev UD (st la ls lt lc:Addr):List (Str×V):=[("kept",.ref st),("aheads",.ref la),("steps",.ref ls),("tables",.ref lt),("costs",.ref lc)]
abbrev Ziz (K:Qa)(CR CS:Addr)(pls:List YD)(nds:List Nd)(tabs:List (Zo×V))(r st la ls lt lc:Addr):Rs :=
 [(r,Xt CR (UD st la ls lt lc)),(st,WW K CS nds tabs),(la,Yi (V.non::pls.map fun q=>V.int (q.ah:Int))),(ls,UN (pls.map (·.st))),(lt,Yi (V.int 0::pls.map fun q=>V.int (q.tb:Int))),(lc,Yi (V.int 0::pls.map fun q=>V.int (q.co:Int)))]
def Vm (K:Qa)(CR CS:Addr)(pls:List YD)(nds:List Nd)(tabs:List (Zo×V)):YE:=fun r h=>∃ st la ls lt lc,Sep (Ziz K CR CS pls nds tabs r st la ls lt lc) h
instance {K:Qa} {CR CS:Addr} {pls:List YD} {nds:List Nd} {tabs:List (Zo×V)}:Up (Vm K CR CS pls nds tabs):=⟨fun ⟨st,la,ls,lt,lc,S⟩ s=>⟨st,la,ls,lt,lc,S.mono s⟩⟩
theorem Sep.roaO {K:Qa}{CR CS r:Addr}{pls:List YD}{nds:List Nd}{B:List (Zo×V)}{Δ:Rs}{H:Hp}(S:Sep ((r,Vm K CR CS pls nds B)::Δ) H):∃ st I U lt J,Sep ((r,Xt CR (UD st I U lt J))::(st,WW K CS nds B)::(I,Yi (V.non::pls.map fun q=>V.int (q.ah:Int)))::(U,UN (pls.map (·.st)))::(lt,Yi (V.int 0::pls.map fun q=>V.int (q.tb:Int)))::(J,Yi (V.int 0::pls.map fun q=>V.int (q.co:Int)))::Δ) H:=by
 obtain ⟨h,l,⟨st,I,U,lt,J,G⟩,S⟩:=S
 exact ⟨st,I,U,lt,J,Sep.nest (a:=r) (Γ:=Ziz K CR CS pls nds B r st I U lt J) l G S⟩
theorem Sep.roaC {K:Qa}{CR CS r st I U lt J:Addr}{pls:List YD}{nds:List Nd}{B:List (Zo×V)}{Δ:Rs}{H:Hp}(S:Sep ((r,Xt CR (UD st I U lt J))::(st,WW K CS nds B)::(I,Yi (V.non::pls.map fun q=>V.int (q.ah:Int)))::(U,UN (pls.map (·.st)))::(lt,Yi (V.int 0::pls.map fun q=>V.int (q.tb:Int)))::(J,Yi (V.int 0::pls.map fun q=>V.int (q.co:Int)))::Δ) H):Sep ((r,Vm K CR CS pls nds B)::Δ) H :=
 Sep.pack (Γ:=Ziz K CR CS pls nds B r st I U lt J) S fun h G=>⟨st,I,U,lt,J,G⟩
theorem Sep.imm (S:Sep Δ H)(e:H a=some o)(m:YM o=false):Sep ((a,Pt o)::Δ) H:=by
 refine ⟨one a o,fun b u q=>?_,one_some.mpr ⟨rfl,rfl⟩,S.mono fun b u q=>cut_some.mpr ⟨q,fun v z=>?_⟩⟩
 ·obtain ⟨rfl,rfl⟩:=one_some.mp q;exact e
 ·obtain ⟨rfl,rfl⟩:=one_some.mp z;exact m
theorem Sep.updR (S:Sep Δ H)(a:Addr)(o':HO)[P:Pull a Δ R Δ'](m:∀ h,R a h->∃ o,h a=some o/\YM o=true)(f:∀ h,R a h->Same h H->∀ h',h' a=some o'->(∀ b o,b≠a->h b=some o->h' b=some o)->(∀ b o,b≠a->H b=some o->YM o=false->h' b=some o)->T a h'):Sep ((a,T)::Δ') (upd H a o'):=by
 obtain ⟨h,l,r,S⟩:=P.out S
 obtain ⟨o,ea,I⟩:=m h r
 refine ⟨fun b=>if b=a then some o' else match h b with | some u=>some u | none=>some_of H [] b,fun b u e=>?_,f h r l _ (if_pos rfl) (fun b u nb e=>?_) (fun b u nb e G=>?_),S.mono fun b u e=>?_⟩
 ·dsimp only at e
  by_cases hb:b=a
  ·rw [if_pos hb] at e;cases e;rw [hb];exact Ze
  ·rw [if_neg hb] at e
   rw [Zh hb]
   cases q:h b with
   | some z=>rw [q] at e;cases e;exact l _ _ q
   | none=>rw [q] at e;exact WT _ _ e
 ·rw [if_neg nb,e]
 ·rw [if_neg nb]
  cases q:h b with
  | some z=>have:=l _ _ q;rw [e] at this;cases this;rfl
  | none=>exact UF e G
 ·obtain ⟨e1,B⟩:=cut_some.mp e
  have hb:b≠a:=fun z=>by have:=B o (by rw [z];exact ea);rw [I] at this;cases this
  refine cut_some.mpr ⟨by rw [Zh hb];exact e1,fun v q=>?_⟩
  simp only [if_neg hb] at q
  cases z:h b with
  | some x=>rw [z] at q;cases q;exact B _ z
  | none =>
   rw [z] at q
   cases mm:YM v with
   | false=>rfl
   | true=>have:=Wz q mm;cases this
theorem Sep.stepApp {Δ Δ':Rs}{H:Hp}{W:List Stp}{s:Stp}{I:Addr}{as:List Addr}(S:Sep Δ H)(l:Addr)[P:Pull l Δ (UN W) Δ'](e:H l=some (.lst (V.non::as.map V.ref)))(es:H I=some (.tup s.vs)):Sep ((l,UN (W++[s]))::Δ') (upd H l (.lst (V.non::as.map V.ref++[V.ref I]))):=by
 refine S.updR l _ (fun h ⟨as,e,_⟩=>⟨_,e,rfl⟩) fun h r l' h' e1 e2 e3=>?_
 obtain ⟨as',e4,hl,hs⟩:=r
 have Z:=l' _ _ e4
 rw [e] at Z
 have e6:as.map V.ref=as'.map V.ref:=(List.cons.inj (HO.lst.inj (QG Z))).2
 refine ⟨as'++[I],?_,by rw [length_append,length_append,hl];rfl,fun i a x B G=>?_⟩
 ·rw [e1,map_append,e6];rfl
 ·have U:I≠l:=fun z=>by rw [z,e] at es;cases es
  by_cases hi:i < as'.length
  ·rw [getElem?_append_left hi] at B
   rw [getElem?_append_left (by omega)] at G
   have J:=hs i a x B G
   exact e2 _ _ (fun z=>by rw [z,e4] at J;cases J) J
  ·rw [getElem?_append_right (by omega)] at B G
   have h0:i - as'.length=0:=by
    cases z:i - as'.length with
    | zero=>rfl
    | succ j=>rw [z] at B;simp at B
   rw [h0] at B
   rw [show i - W.length=0 by omega] at G
   cases (show some I=some a from B)
   cases (show some s=some x from G)
   exact e3 _ _ U es rfl
def Stp.ap:Stp->(Str->Option V)->(Str->Option V)
 | .set x v,F=>fun y=>if y=x then some v else F y
 | .clr x,F=>fun y=>if y=x then none else F y
def envs (pls:List YD):List (Str->Option V):=pls.foldl (fun es q=>es++[q.st.ap (es.getD q.ah fun _=>none)]) [fun _=>none]
theorem ZdJ (pls:List YD)(q:YD):envs (pls++[q])=envs pls++[q.st.ap ((envs pls).getD q.ah fun _=>none)]:=by
 unfold envs;rw [List.foldl_append];rfl
theorem Zls {α:Type}{P:List α->Prop}(h0:P [])(hs:∀ l a,P l->P (l++[a])):∀ l,P l:=by
 have key:∀ n (l:List α),l.length=n->P l:=by
  intro n
  induction n with
  | zero=>intro l h;rw [eq_nil_of_length_eq_zero h];exact h0
  | succ n ih =>
   intro l h
   have hne:l≠[]:=fun z=>by rw [z] at h;cases h
   rw [<- List.dropLast_concat_getLast hne]
   exact hs _ _ (ih _ (by rw [List.length_dropLast];omega))
 exact fun l=>key _ l rfl
theorem US (pls:List YD):(envs pls).length=pls.length+1:=by
 induction pls using Zls with
 | h0=>rfl
 | hs l q ih=>rw [ZdJ,length_append,ih,length_append];rfl
end L2
namespace L2
open PySem PySem.Spec PyProof.Rows
section
variable {X:Cx}
end
mutual
inductive DatT (K:Qa)(H:Hp):V->Tp->Prop
 | non:DatT K H .non .none
 | int (i):DatT K H (.int i) (.int i)
 | str (x):DatT K H (.str x) (.str x)
 | tup {a xs ds}:SqT K H a xs->DatTs K H xs ds->DatT K H (.ref a) (.tuple ds)
inductive DatTs (K:Qa)(H:Hp):List V->List Tp->Prop
 | nil:DatTs K H [] []
 | cons {v d vs ds}:DatT K H v d->DatTs K H vs ds->DatTs K H (v::vs) (d::ds)
end
section
variable {X:Cx}{pins:List (Addr×Obj)}{σ:St}{H:Hp}{s:Qe}
mutual
theorem DatT.reads (I:Inv X pins σ H s):∀{v d}(u:Qb),DatT X.K H v d->RelV v u->d.hasDict=false/\∃ as,Reads s.heap u d as
 | _,_,u,.non,r=>by cases (show u=.none from r);exact ⟨rfl,_,.none⟩
 | _,_,u,.int i,r=>by obtain ⟨t,e⟩:=(show ∃ t,u=.int i t from r);subst e;exact ⟨rfl,_,.int i t⟩
 | _,_,u,.str x,r=>by obtain ⟨t,e⟩:=(show ∃ t,u=.str x t from r);subst e;exact ⟨rfl,_,.str x t⟩
 | _,_,u,.tup (a:=a) (xs:=xs) e q,r=>by
  cases (show u=.ref a from r)
  obtain ⟨B,J,⟨o,g,c,n,d⟩,_⟩:=I.tuple e
  obtain ⟨G,as,S⟩:=DatTs.reads I B q J
  exact ⟨by simpa [SS] using G,_,.tuple g c d (by simpa using S)⟩
theorem DatTs.reads (I:Inv X pins σ H s):∀{vs ds}(us:List Qb),DatTs X.K H vs ds->Vals vs us->JK ds=false/\∃ as,ReadsAll s.heap us ds as
 | _,_,_,.nil,.nil=>⟨rfl,_,.nil⟩
 | _,_,_,.cons r t,.cons rv tv=>by
  obtain ⟨B,as,S⟩:=DatT.reads I _ r rv
  obtain ⟨J,bs,G⟩:=DatTs.reads I _ t tv
  exact ⟨by simp [JK,B,J],_,.cons S G⟩
end
end
theorem ZdX (n:Nat):∀ ts:List Str,(∀ t∈ts,t.length<=n)->piled ts<=ts.length * (n+2)
 | [],_=>by simp [piled]
 | t::r,h=>by
  have h1:=ZdX n r fun x B=>h x (mem_cons_of_mem _ B)
  have h2:=h t mem_cons_self
  rw [length_cons,Nat.add_mul]
  simp only [piled] at h1 ⊢
  simp only [map_cons,Rv] at h1 ⊢
  omega
theorem Zip {ds:List Tp}{n k:Nat}(h:∀ d∈ds,Sml d n k):Sml (.tuple ds) (3+ds.length * (n+2)) (k+1):=by
 refine ⟨Wy fun d B=>(h d B).sh,?_,?_⟩
 ·show (tupleText (Ps ds)).length<=_
  rw [Uf]
  have S:(Qw (if (ds.map GG).length == 1 then ",)" else ")":String)).length<=2:=by split<;>decide
  have U:(Str.join ", " (ds.map GG)).length<=ds.length * (n+2):=by
   cases ds with
   | nil=>show 0<=_;omega
   | cons d r =>
    have e:=join_length_add ((d::r).map GG) (by simp)
    have p:=ZdX n ((d::r).map GG) (fun t I=>by
     obtain ⟨x,G,rfl⟩:=mem_map.mp I
     exact (h x G).ln)
    rw [length_map] at p
    omega
  show (Qw "("++Str.join ", " (ds.map GG)++Qw (if (ds.map GG).length == 1 then ",)" else ")":String)).length<=_
  rw [YX,YX]
  have J:(Qw "(").length=1:=by decide
  omega
 ·have:=Uo (k:=k) fun d B=>(h d B).dp
  show Pu ds+1<=_
  omega
end L2
namespace L2
open PySem
end L2
namespace L2
open PySem PySem.W PySem.Spec PyProof.Rows
section
variable {X:Cx}
end
end L2
namespace L2
open PySem
inductive Zii (t u:TS)(D:Yj)(σ:St)(H:Hp):Prop
 | mk (I:St->Hp->Prop):t { D with nx:=I } σ H->(∀ σ' H',I σ' H'->u D σ' H')->Zii t u D σ H
def tCut (t u:TS):TS:=fun D σ H=>Zii t u D σ H
theorem Zfn (h1:PS X st t)(h2:PSs X rest u):PSs X (st::rest) (tCut t u):=by
 intro pins s σ H D I h
 obtain ⟨J,h,g⟩:=h
 refine Ts (Zs (h1 pins s σ H { D with nx:=J } I h) fun f s1 q=>?_)
 cases f with
 | next =>
  obtain ⟨B,H',G,q⟩:=q
  exact h2 pins s1 B H' D G (g _ _ q)
 | ret v=>exact q
 | brk=>exact q
 | cont=>exact q
end L2
namespace L2
open PySem PySem.Spec PyProof.Rows
theorem zs1 {B:TS}{D:Yj}{σ:St}{H:Hp}(h:let G:Yj:=D;let S:St:=σ;B G S H):(B) D σ H:=h
theorem VP (h:let I:Yj:=D;let S:St:=σ;let J:St->Hp->Prop:=G I;B { I with nx:=J } S H):(Yd B G) D σ H:=h
theorem zs3 (h:let B:Yj:=D;let S:St:=σ;let W:St->Hp->Prop:=J B;let U:St->Hp->Prop:=I { B with nx:=W };G { B with nx:=U } S H):(Yd G (Yd I J)) D σ H:=h
theorem zs4 (h:let B:Yj:=D;let S:St:=σ;let Z:St->Hp->Prop:=U B;let N2:St->Hp->Prop:=J { B with nx:=Z };let W:St->Hp->Prop:=I { B with nx:=N2 };G { B with nx:=W } S H):(Yd G (Yd I (Yd J U))) D σ H:=h
theorem zs5 (h:let B:Yj:=D;let S:St:=σ;let N4:St->Hp->Prop:=G B;let N3:St->Hp->Prop:=W { B with nx:=N4 };let Z:St->Hp->Prop:=U { B with nx:=N3 };let N1:St->Hp->Prop:=J { B with nx:=Z };I { B with nx:=N1 } S H):(Yd I (Yd J (Yd U (Yd W G)))) D σ H:=h
theorem zs6 (h:let B:Yj:=D;let S:St:=σ;let N5:St->Hp->Prop:=W B;let N4:St->Hp->Prop:=G { B with nx:=N5 };let N3:St->Hp->Prop:=Z { B with nx:=N4 };let N2:St->Hp->Prop:=U { B with nx:=N3 };let N1:St->Hp->Prop:=J { B with nx:=N2 };I { B with nx:=N1 } S H):(Yd I (Yd J (Yd U (Yd Z (Yd G W))))) D σ H:=h
theorem zs8 (h:let B:Yj:=D;let S:St:=σ;let N7:St->Hp->Prop:=a8 B;let N6:St->Hp->Prop:=J { B with nx:=N7 };let N5:St->Hp->Prop:=W { B with nx:=N6 };let N4:St->Hp->Prop:=G { B with nx:=N5 };let N3:St->Hp->Prop:=a4 { B with nx:=N4 };let N2:St->Hp->Prop:=Z { B with nx:=N3 };let N1:St->Hp->Prop:=U { B with nx:=N2 };I { B with nx:=N1 } S H):(Yd I (Yd U (Yd Z (Yd a4 (Yd G (Yd W (Yd J a8))))))) D σ H:=h
theorem zs11 (h:let B:Yj:=D;let S:St:=σ;let J:St->Hp->Prop:=I B;let N9:St->Hp->Prop:=G { B with nx:=J };let N8:St->Hp->Prop:=a9 { B with nx:=N9 };let N7:St->Hp->Prop:=a8 { B with nx:=N8 };let N6:St->Hp->Prop:=a7 { B with nx:=N7 };let N5:St->Hp->Prop:=U { B with nx:=N6 };let N4:St->Hp->Prop:=W { B with nx:=N5 };let N3:St->Hp->Prop:=Z { B with nx:=N4 };let N2:St->Hp->Prop:=a3 { B with nx:=N3 };let N1:St->Hp->Prop:=a2 { B with nx:=N2 };a1 { B with nx:=N1 } S H):(Yd a1 (Yd a2 (Yd a3 (Yd Z (Yd W (Yd U (Yd a7 (Yd a8 (Yd a9 (Yd G I)))))))))) D σ H:=h
end L2
namespace K33
open PySem L2
def top (i:Nat):Stmt:=Tc.main.body.getD i (.Pass ⟨0,0,0,0⟩)
abbrev c_RoadError___init__:Stmt:=ZD (top 2) 0
abbrev s_alike:Stmt:=top 22
abbrev s_mark:Stmt:=top 23
abbrev s_digit:Stmt:=top 24
abbrev s_leaf_of:Stmt:=top 29
abbrev s_fork_of:Stmt:=top 30
abbrev s_parts_in:Stmt:=top 31
abbrev s_pairs_in:Stmt:=top 32
abbrev s_has_mark:Stmt:=top 33
abbrev c_Store___init__:Stmt:=ZD (top 39) 0
abbrev c_Store_empty:Stmt:=ZD (top 39) 1
abbrev c_Store_put:Stmt:=ZD (top 39) 2
abbrev c_Store_without:Stmt:=ZD (top 39) 3
abbrev c_Store_looked:Stmt:=ZD (top 39) 4
abbrev c_Store_way:Stmt:=ZD (top 39) 7
abbrev c_Store_made:Stmt:=ZD (top 39) 9
abbrev c_Store_check_table:Stmt:=ZD (top 39) 10
abbrev c_Store_keep:Stmt:=ZD (top 39) 12
abbrev c_Store_as_table:Stmt:=ZD (top 39) 13
abbrev c_Store_put_in:Stmt:=ZD (top 39) 14
abbrev c_Store_fork_parts:Stmt:=ZD (top 39) 15
abbrev c_Store_taken_from:Stmt:=ZD (top 39) 16
abbrev c_Roads___init__:Stmt:=ZD (top 41) 0
abbrev c_Roads_put:Stmt:=ZD (top 41) 1
abbrev c_Roads_table:Stmt:=ZD (top 41) 11
abbrev c_Roads_looked:Stmt:=ZD (top 41) 12
abbrev c_Roads_check_place:Stmt:=ZD (top 41) 18
abbrev c_Roads_go_on:Stmt:=ZD (top 41) 20
abbrev c_Tokens___init__:Stmt:=ZD (top 43) 0
abbrev c_Tokens_make:Stmt:=ZD (top 43) 1
abbrev c_Hall___init__:Stmt:=ZD (top 45) 0
abbrev c_Hall_declare:Stmt:=ZD (top 45) 1
abbrev c_Hall_worlds:Stmt:=ZD (top 45) 4
abbrev c_Hall_place:Stmt:=ZD (top 45) 5
abbrev c_Hall_now:Stmt:=ZD (top 45) 6
abbrev c_Hall_copy:Stmt:=ZD (top 45) 8
abbrev c_Hall_enter:Stmt:=ZD (top 45) 9
abbrev c_Hall_set_to:Stmt:=ZD (top 45) 11
abbrev c_Hall_open_tokens:Stmt:=ZD (top 45) 14
abbrev c_Hall_look_in:Stmt:=ZD (top 45) 18
abbrev c_Hall_check_world:Stmt:=ZD (top 45) 20
abbrev c_Hall_check_setting:Stmt:=ZD (top 45) 21
abbrev c_Hall_value_in:Stmt:=ZD (top 45) 22
abbrev s_l_cell_at:Stmt:=top 47
abbrev s_l_box:Stmt:=top 48
abbrev s_l_take:Stmt:=top 49
abbrev s_l_names:Stmt:=top 50
abbrev s_l_value:Stmt:=top 51
abbrev s_l_told:Stmt:=top 52
abbrev s_l_refused_right:Stmt:=top 53
abbrev s_law:Stmt:=top 54
section
variable {P:Qk}{w:Qt}{K:Qa}{mg:Str->Option Qb}{base:Heap}
theorem scC:Zp ["_law_script","_law_k"] ["_law_script","_law_k"] (Zj s_l_cell_at):={}
theorem ZkJ (F:Fun K "_law_cell_at" "_law_cell_at" s_l_cell_at f fd)(T:Ym mg):FnOk P w K mg base ZI 1 f fd ["_law_script","_law_k"] (Zei K):=by
 refine F.ok scC (fun W A outer s H vs Q E hr h=>?_)
 obtain ⟨a,B,k,rfl,I,Z,q⟩:=h
 refine ⟨_,Zd (Ye (ZX ZcV (pv 1) (Zr ZF rfl T.len QK (YA (pv 0) Za)) (ZU _)) (Zi (Zu (ZA ZG (pv 0) (pv 1) (fun _ _=>rfl)))) ZR)
  (Zi (Zu Zg)),?_⟩
 refine ⟨_,rfl,_,rfl,a,_,rfl,.inl I,_,_,rfl,rfl,_,rfl,?_⟩
 refine UW (fun c=>?_) (fun c=>?_)
 ·have U:k < (((B.map V.int).length:Nat):Int):=of_decide_eq_true c
  rw [length_map] at U
  have S:k.toNat < B.length:=by omega
  have J:k=((k.toNat:Nat):Int):=by omega
  have G:YH (B.map V.int) k=some (.int B[k.toNat]):=by
   have z:YH (B.map V.int) ((k.toNat:Nat):Int)=some (.int B[k.toNat]):=ZK (by rw [getElem?_map,getElem?_eq_getElem S];rfl)
   rwa [<- J] at z
  exact ⟨_,rfl,_,rfl,a,_,_,_,rfl,rfl,I,G,q _⟩
 ·exact q 0
theorem scB:Zp ["_law_script","_law_k","_law_cell"] ["_law_script","_law_k"] (Zj s_l_box):={}
theorem Zms (F:Fun K "_law_box" "_law_box" s_l_box f fd)(T:Ym mg)(D:Def P w K mg base 1 "_law_cell_at" ["_law_script","_law_k"] (Zei K)):FnOk P w K mg base ZI 2 f fd ["_law_script","_law_k"] (Zgt K):=by
 refine F.ok scB (fun U A outer s H vs Q E I h=>?_)
 obtain ⟨a,S,k,rfl,J,G,h1,q⟩:=h
 refine ⟨_,Zd (Zx (i:=2) scB.nd rfl (QJ rfl) (ZJ D I (YA (pv 0) (YA (pv 1) Za))))
  (Zi (Zu (Yb (YA (Zv WE (Zr Zdy rfl T.abs (by decide +kernel) (YA (pv 2) Za)) (Yy ZgU rfl T.int (by decide +kernel) (YA (WR ZnP (Zr Zdy rfl T.abs (by decide +kernel) (YA (pv 2) Za)) (Zv VE Zg Zg) (ZU _)) Za)))
   (YA (Zv Yx (Zv Yx (Zv Wb (pv 2) Zg) (Zv WE Zg (pv 1))) Zg) (YA Zg Za)))))),?_⟩
 refine ⟨_,rfl,_,rfl,a,S,k,rfl,J,G,fun r=>?_⟩
 refine ⟨_,rfl,_,rfl,⟨_,rfl,_,rfl,_,_,rfl,rfl,⟨by decide,by decide,by decide⟩,_,_,rfl,rfl,.inr ⟨_,rfl,?_⟩⟩⟩
 generalize hb:decide ((10:Int) ^ (Int.toNat 18)<=(if r < 0 then -r else r))=B
 refine ⟨_,_,rfl,rfl,.inr (by cases B<;>exact ⟨by decide,by decide⟩),_,rfl,_,_,rfl,rfl,(by show (0:Int) < _;decide),_,rfl,_,_,rfl,rfl,.inl ⟨by decide,by decide⟩,_,_,rfl,rfl,_,_,rfl,rfl,(by show 3<=Qj;decide),fun p hp=>?_⟩
 refine q p _ hp ⟨_,_,0,Ze,?_,by decide,by decide⟩ (Zm hp _)
 cases B
 ·simp
 ·simp only [if_true,Int.mul_one];split<;>omega
theorem scT:Zp ["_law_box_here","_law_many","_law_found","_law_once","_law_twice"] ["_law_box_here","_law_many"] (Zj s_l_take):={}
theorem ZkV (F:Fun K "_law_take" "_law_take" s_l_take f fd):FnOk P w K mg base ZI 1 f fd ["_law_box_here","_law_many"] (VM 4611686018427387904):=by
 refine F.ok scT (fun cdv A outer s H vs Q E hr h=>?_)
 obtain ⟨p,n,m,rfl,⟨a,b,c,hp,U,Z,hcn⟩,hn,I,J,q⟩:=h
 refine ⟨_,Zd (Ye (ZX ZnQ (ZA ZG (pv 0) Zg (fun _ _=>rfl)) Zg (ZU _))
     (Zd (Zx (i:=2) scT.nd rfl (QJ rfl) (Zv Wb (ZA ZG (pv 0) Zg (fun _ _=>rfl)) (pv 1)))
       (Zd (XJ (Zv Zjl (ZA ZG (pv 0) Zg (fun _ _=>rfl)) (pv 1)) (UB (pv 0) Zg Wx)) (Zi (Zu (pv 2))))) ZR)
   (Zd (XJ (Zv Yx (ZA ZG (pv 0) Zg (fun _ _=>rfl)) Zg) (UB (pv 0) Zg Wx))
   (Zd (Zx (i:=3) scT.nd rfl (QJ rfl) (Zv Wb (Zv WE (Zv Yx (ZA ZG (pv 0) Zg (fun _ _=>rfl)) (Zv WE Zg (ZA ZG (pv 0) Zg (fun _ _=>rfl)))) (Zv Yx Zg (ZA ZG (pv 0) Zg (fun _ _=>rfl)))) Zg))
   (Zd (Zx (i:=4) scT.nd rfl (QJ rfl) (Zv Wb (Zv WE (Zv Yx (pv 3) (ZA ZG (pv 0) Zg (fun _ _=>rfl))) (Zv Yx (Zv Wb (pv 3) Zg) Zg)) Zg))
   (Zi (Zu (Zv Wb (Zv Zfk (Zv Wb (Zv Yx (Zv WE (pv 4) Zg) (pv 3)) Zg) Zg) (pv 1))))))),?_⟩
 refine ⟨_,rfl,p,_,_,_,rfl,rfl,SqL.of hp,rfl,_,_,rfl,rfl,_,rfl,?_⟩
 refine UW (fun S=>?_) (fun S=>?_)
 · have h0:0 < a:=of_decide_eq_true S
   refine ⟨_,rfl,p,_,_,_,rfl,rfl,SqL.of hp,rfl,_,rfl,_,_,rfl,rfl,I,?_⟩
   refine ⟨_,rfl,p,_,_,_,rfl,rfl,SqL.of hp,rfl,_,rfl,_,_,rfl,rfl,⟨I,by have h4:m < 4611686018427387904:=J;omega⟩,?_⟩
   refine ⟨_,rfl,p,_,_,_,rfl,rfl,hp,rfl,?_⟩
   refine ⟨_,rfl,?_⟩
   exact q _ _ (GC _ (by omega)) (Gu _ I) ⟨a / m,b,c,Ze,Int.ediv_nonneg U (by omega),Z,by omega⟩ (Kp.upd _ _ _)
 · refine ⟨_,rfl,p,_,_,_,rfl,rfl,SqL.of hp,rfl,_,_,rfl,rfl,?_⟩
   refine ⟨_,rfl,p,_,_,_,rfl,rfl,hp,rfl,?_⟩
   have G:upd H p (.lst [.int a,.int b,.int (c+1)]) p=some (.lst [.int a,.int b,.int (c+1)]):=Ze
   refine ⟨_,rfl,p,_,_,_,rfl,rfl,SqL.of G,rfl,_,rfl,p,_,_,_,rfl,rfl,SqL.of G,rfl,_,_,rfl,rfl,.inl ⟨by decide,by decide⟩,_,_,rfl,rfl,_,rfl,p,_,_,_,rfl,rfl,SqL.of G,rfl,_,_,rfl,rfl,_,_,rfl,rfl,.inr ⟨by omega,by omega⟩,_,_,rfl,rfl,(by show (0:Int) < _;decide),?_⟩
   generalize hO:((b+48271 * (c+1)) * (39373+(c+1))) % 2147483647=B
   have W:0<=B:=by rw [<- hO];exact GC _ (by decide)
   refine ⟨_,rfl,_,rfl,p,_,_,_,rfl,rfl,SqL.of G,rfl,_,_,rfl,rfl,_,rfl,_,_,rfl,rfl,(by show (0:Int) < _;decide),_,_,rfl,rfl,_,_,rfl,rfl,.inr ?_,_,_,rfl,rfl,(by show (0:Int) < _;decide),?_⟩
   · have:=GC B (show (40009:Int)≠0 by decide)
     have:=Gu B (show (0:Int) < 40009 by decide)
     exact ⟨by omega,by omega⟩
   generalize hW:((B+(c+1)) * (B % 40009+7)) % 2147483629=twice
   refine ⟨_,rfl,_,_,rfl,rfl,.inr ⟨by decide,by decide⟩,_,rfl,_,_,rfl,rfl,_,_,rfl,rfl,(by show (0:Int) < _;decide),_,_,rfl,rfl,⟨by decide,by decide⟩,_,rfl,_,_,rfl,rfl,I,?_⟩
   exact q _ _ (GC _ (by omega)) (Gu _ I) ⟨a,b,c+1,G,U,by omega,by omega⟩ (Kp.upd _ _ _)
end
structure Txt (K:Qa)(mg:Str->Option Qb):Prop extends Ym mg where
 base:∃ t,mg "BASE"=some (.int 4 t)
 zero:∃ t,mg "BARE_NUMBER"=some (.int 0 t)
 bare:∃ a,mg "BARE"=some (.ref a)/\∀ H,SqT K H a [.str "bare"]
 figs:∃ a,mg "FIGURES"=some (.ref a)/\∀ H,SqT K H a [.int 0,.int 1,.int 2,.int 3]
section
variable {P:Qk}{w:Qt}{K:Qa}{mg:Str->Option Qb}{base:Heap}
def Wr (l:List Nat):Nat->Int
 | 0=>0
 | i+1=>Wr l i+((i:Int)+1) * (((l.getD i 0:Nat):Int) - 97+1)
inductive Wg (vs:List V)(H:Hp)(Q:VK)(w_3:XK):Prop
 | mk (x:Str):vs=[.str x]->x.length<=1000->(∀ H',Same H H'->Q (.int (Wr x.cps.toList x.length)) H')->Wg vs H Q w_3
inductive XU (vs:List V)(H:Hp)(Q:VK)(w_3:XK):Prop
 | mk (n:Int) (k:Nat):vs=[.int n,.int k]->0<=n->k<=1000->Q (.int (n / 4 ^ k % 4)) H->XU vs H Q w_3
theorem oa:(Qw "a").cps.getD 0 0=97:=by decide +kernel
theorem scM:Zp ["name","total","place","letter"] ["name"] (Zj s_mark):={}
theorem ZkR (F:Fun K "mark" "mark" s_mark f fd)(T:Txt K mg):FnOk P w K mg base ZI 1 f fd ["name"] Wg:=by
 refine F.ok scM (fun cdv A outer s H vs Q E hr h=>?_)
 obtain ⟨x,rfl,S,q⟩:=h
 refine' ⟨?t,?h,?r⟩
 case h =>
  conv=>arg 2;whnf
  with_reducible refine' Zd ?a1 (Zd ?a2 (Zi ?a3))
  case a1=>exact Zx (i:=1) scM.nd rfl (QJ rfl) Zg
  case a2=>exact Ue GD rfl (Zjv rfl T.enumerate (pv 0)) (VF rfl (YN (Yf (i:=2) scM.nd rfl (QJ rfl)) (YN (Yf (i:=3) scM.nd rfl (QJ rfl)) UC))) (Zi (ZmO (i:=1) scM.nd rfl (QJ rfl) (Zv WE (pv 2) (Zv Yx (Zv YS (Zr Zdz rfl T.ord (by decide +kernel) (Zc (pv 3) Za)) (Zr Zdz rfl T.ord (by decide +kernel) (Zc ZW Za))) Zg)) Zme))
  case a3=>exact Zu (pv 1)
 try dsimp only [ZQ,Cx.nox]
 refine zs3 ?_
 intro zD zS U W
 refine ⟨_,rfl,x,rfl,?_⟩
 refine ZiK (fun i σ H'=>∃ G B,σ=[some (.str x),some (.int (Wr x.cps.toList i)),G,B]/\Same H H'/\i<=x.cps.size) ⟨_,_,rfl,Same.refl H,QH _⟩ ?_ ?_
 ·rintro i c t σ H1 J Z ⟨G,B,rfl,s1,hi⟩
  have I:i < x.cps.size:=(Ga.mp J).1
  have hz:x.cps.size<=1000:=S
  refine ⟨t,_,rfl,SqT.of Ze,rfl,_,_,rfl,_,_,rfl,rfl,?_⟩
  refine ⟨_,rfl,_,rfl,_,rfl,_,rfl,rfl,_,rfl,rfl,_,_,rfl,rfl,_,_,rfl,rfl,_,_,rfl,rfl,.inl ⟨by omega,by omega⟩,_,_,rfl,rfl,?_⟩
  have e:Wr x.cps.toList (i+1)=Wr x.cps.toList i+((i:Int)+1) * ((((⟨#[c]⟩:Str).cps.getD 0 0:Nat):Int) - (((Qw "a").cps.getD 0 0:Nat):Int)+1):=by
   rw [oa]
   show Wr x.cps.toList i+((i:Int)+1) * (((x.cps.toList.getD i 0:Nat):Int) - 97+1)=Wr x.cps.toList i+((i:Int)+1) * ((c:Int) - 97+1)
   have e1:x.cps.toList.getD i 0=c:=by rw [getD_eq_getElem?_getD,Sw,J];rfl
   rw [e1]
  exact ⟨some (.int ((i:Int)+1)),some (.str ⟨#[c]⟩),by rw [e];rfl,s1.trans (Zm Z _),I⟩
 ·rintro σ H1 ⟨G,B,rfl,s1,_⟩
  exact ⟨_,rfl,q H1 s1⟩
theorem scDg:Zp ["number","level","below"] ["number","level"] (Zj s_digit):={}
theorem Zjb (F:Fun K "digit" "digit" s_digit f fd)(T:Txt K mg):FnOk P w K mg base ZI 1 f fd ["number","level"] XU:=by
 refine F.ok scDg (fun I A outer s H vs Q E J h=>?_)
 obtain ⟨n,k,rfl,Z,W,q⟩:=h
 obtain ⟨tb,hb⟩:=T.base
 refine' ⟨?t,?h,?r⟩
 case h =>
  conv=>arg 2;whnf
  with_reducible refine' Zd ?a1 (Zi ?a2)
  case a1=>exact Ue GD rfl (Xb rfl T.range (Zc (pv 1) Za)) (Yf (i:=2) scDg.nd rfl (QJ rfl)) (Zi (Zx (i:=0) scDg.nd rfl (QJ rfl) (Zv Zfk (pv 0) (ZN rfl hb (v:=.int 4) ⟨_,rfl⟩))))
  case a2=>exact Zu (Zv Wb (pv 0) (ZN rfl hb (v:=.int 4) ⟨_,rfl⟩))
 try dsimp only [ZQ,Cx.nox]
 refine VP ?_
 intro S U G
 refine ⟨_,rfl,k,rfl,by omega,by omega,?_⟩
 have B:(k:Int).toNat=k:=by omega
 rw [B]
 refine WD (fun i σ H'=>∃ y,σ=[some (.int (n / 4 ^ i)),some (.int k),y]/\H'=H) ⟨_,by rw [Int.pow_zero,Int.ediv_one];rfl,rfl⟩ ?_ ?_
 ·rintro i σ H1 hi ⟨y,rfl,rfl⟩
  have e:n / 4 ^ (i+1)=n / 4 ^ i / 4:=by rw [Int.pow_succ,<- Int.ediv_ediv_of_nonneg (Int.pow_nonneg (by decide))]
  exact ⟨_,rfl,_,_,rfl,rfl,⟨by decide,by decide⟩,some (.int (0+(i:Int))),by rw [e];rfl,rfl⟩
 ·rintro σ H1 ⟨y,rfl,rfl⟩
  exact ⟨_,rfl,_,_,rfl,rfl,(by show (0:Int) < 4;decide),q⟩
theorem nbf:decide (V.str (Qw "bare")=V.str (Qw "fork"))=false:=by decide +kernel
theorem nlf:decide (V.str (Qw "leaf")=V.str (Qw "fork"))=false:=by decide +kernel
theorem nbl:decide (V.str (Qw "bare")=V.str (Qw "leaf"))=false:=by decide +kernel
theorem nfl:decide (V.str (Qw "fork")=V.str (Qw "leaf"))=false:=by decide +kernel
theorem scPi:Zp ["node"] ["node"] (Zj s_parts_in):={}
theorem Zji (F:Fun K "parts_in" "parts_in" s_parts_in f fd):FnOk P w K mg base ZI 1 f fd ["node"] (WU K):=by
 refine F.ok scPi (fun J A outer s H vs Q E S h=>?_)
 obtain ⟨a,n,rfl,B,q⟩:=h
 refine ⟨_,Zi (Zu (Wu (ZX YW (ZA YL (pv 0) Zg (fun _ _=>rfl)) ZW (ZU _)) (ZA YL (pv 0) Zg (fun _ _=>rfl)) Zfm)),?_⟩
 cases n with
 | bare =>
  refine ⟨_,rfl,a,_,_,_,rfl,rfl,B,rfl,rfl,_,rfl,?_⟩
  rw [nbf]
  exact Ya fun p o hp G=>q p _ (Zm hp _) (.inl (.inr ⟨o,Ze⟩))
 | leaf m ps =>
  obtain ⟨t,e,_⟩:=B
  refine ⟨_,rfl,a,_,_,_,rfl,rfl,e,rfl,rfl,_,rfl,?_⟩
  rw [nlf]
  exact Ya fun p o hp G=>q p _ (Zm hp _) (.inl (.inr ⟨o,Ze⟩))
 | fork qs =>
  obtain ⟨t,e,I,_⟩:=B
  refine ⟨_,rfl,a,_,_,_,rfl,rfl,e,rfl,rfl,_,rfl,?_⟩
  rw [decide_eq_true rfl]
  exact Yw ⟨_,rfl,a,_,_,_,rfl,rfl,e,rfl,q t H (Same.refl H) I⟩
theorem scPr:Zp ["node"] ["node"] (Zj s_pairs_in):={}
theorem Zjh (F:Fun K "pairs_in" "pairs_in" s_pairs_in f fd):FnOk P w K mg base ZI 1 f fd ["node"] (XV K):=by
 refine F.ok scPr (fun J A outer s H vs Q E S h=>?_)
 obtain ⟨a,n,rfl,G,q⟩:=h
 refine ⟨_,Zi (Zu (Wu (ZX YW (ZA YL (pv 0) Zg (fun _ _=>rfl)) ZW (ZU _)) (ZA YL (pv 0) Zg (fun _ _=>rfl)) Zfm)),?_⟩
 have nil:∀ p o,H p=none->o.dict=none->PairsAt (upd H p (.frz o (.tup []))) p []:=fun p o hp B=>⟨o,[],Ze,B,rfl,fun i a p e=>by simp at e⟩
 cases n with
 | bare =>
  refine ⟨_,rfl,a,_,_,_,rfl,rfl,G,rfl,rfl,_,rfl,?_⟩
  rw [nbl]
  exact Ya fun p o hp B=>q p _ (Zm hp _) (nil p o hp B)
 | fork qs =>
  obtain ⟨t,e,_⟩:=G
  refine ⟨_,rfl,a,_,_,_,rfl,rfl,e,rfl,rfl,_,rfl,?_⟩
  rw [nfl]
  exact Ya fun p o hp B=>q p _ (Zm hp _) (nil p o hp B)
 | leaf m ps =>
  obtain ⟨t,e,I⟩:=G
  refine ⟨_,rfl,a,_,_,_,rfl,rfl,e,rfl,rfl,_,rfl,?_⟩
  rw [decide_eq_true rfl]
  exact Yw ⟨_,rfl,a,_,_,_,rfl,rfl,e,rfl,q t H (Same.refl H) I⟩
theorem scHm:Zp ["node","number"] ["node","number"] (Zj s_has_mark):={}
theorem ZkL (F:Fun K "has_mark" "has_mark" s_has_mark f fd):FnOk P w K mg base ZI 1 f fd ["node","number"] (UG K):=by
 refine F.ok scHm (fun G A outer s H vs Q E J h=>?_)
 obtain ⟨a,n,m,rfl,B,q⟩:=h
 refine ⟨_,Zi (Zu (ZhK (WR YW (ZA YL (pv 0) Zg (fun _ _=>rfl)) ZW (ZU _)) (ZhL (WR YW (ZA YL (pv 0) Zg (fun _ _=>rfl)) (pv 1) (ZU _))))),?_⟩
 cases n with
 | bare =>
  refine ⟨_,rfl,a,_,_,_,rfl,rfl,B,rfl,rfl,_,rfl,?_⟩
  rw [nbl]
  exact Ya q
 | fork qs =>
  obtain ⟨t,e,_⟩:=B
  refine ⟨_,rfl,a,_,_,_,rfl,rfl,e,rfl,rfl,_,rfl,?_⟩
  rw [nfl]
  exact Ya q
 | leaf m' ps =>
  obtain ⟨t,e,I⟩:=B
  refine ⟨_,rfl,a,_,_,_,rfl,rfl,e,rfl,rfl,_,rfl,?_⟩
  rw [decide_eq_true rfl]
  refine Yw ⟨_,rfl,a,_,_,_,rfl,rfl,e,rfl,_,rfl,rfl,?_⟩
  have:decide (V.int m'=V.int m)=decide (m'=m):=by
   by_cases z:m'=m
   ·subst z;rw [decide_eq_true rfl,decide_eq_true rfl]
   ·rw [decide_eq_false z,decide_eq_false (fun y=>z (by cases y;rfl))]
  rw [this]
  exact q
theorem scFo:Zp ["parts"] ["parts"] (Zj s_fork_of):={}
theorem ZhD (F:Fun K "fork_of" "fork_of" s_fork_of f fd)(T:Txt K mg):FnOk P w K mg base ZI 1 f fd ["parts"] (WA K):=by
 refine F.ok scFo (fun S A outer s H vs Q E U h=>?_)
 obtain ⟨l,qs,rfl,G,I,q⟩:=h
 refine ⟨_,Zi (Zu (YZ (Zc ZW (Zc (Yy ZcR rfl T.tuple (by decide +kernel) (Zc (pv 0) Za)) Za)))),?_⟩
 refine ⟨_,rfl,l,_,rfl,.inl ⟨SqL.of G,fun t J=>⟨(by show 2<=Qj;decide),fun a B=>?_⟩⟩⟩
 exact q a _ ((Zm J _).trans (Zm B _)) ⟨t,SqT.of Ze,SqT.of (Zm B _ _ _ Ze),I⟩
def pvl (H:Hp)(a:Addr):V:=match H a with
 | some (.tup [_,v])=>v
 | _=>.non
def ZbF (ps:List (Str×V)):Prop:=ps.Pairwise fun p q=>¬ (q.1.cps.toList < p.1.cps.toList)
theorem ZhH (h:PairT H ts ps)(o:ZfL (ps.map (·.1)) ts I):∃ G,G.Perm ps/\ZbF G/\PairT H I G:=by
 obtain ⟨zs,hp,e,Z⟩:=o
 have val:∀ (i:Nat) (a:Addr) (p:Str×V),ts[i]?=some a->ps[i]?=some p->pvl H a=p.2:=fun i a p e1 B=>by unfold pvl;rw [h.2 i a p e1 B]
 have U:((ps.map (·.1)).zip ts).map (fun z=>(z.1,pvl H z.2))=ps:=by
  apply List.ext_getElem?
  intro i
  rw [getElem?_map]
  cases B:ps[i]? with
  | none =>
   have:((ps.map (·.1)).zip ts)[i]?=none:=by
    rw [List.getElem?_eq_none_iff] at B ⊢
    rw [Ss,length_map];omega
   rw [this];rfl
  | some p =>
   have hi:i < ps.length:=(Qi.mp B).1
   obtain ⟨a,ea⟩:∃ a,ts[i]?=some a:=⟨_,getElem?_eq_getElem (by rw [h.1];exact hi)⟩
   have:((ps.map (·.1)).zip ts)[i]?=some (p.1,a):=by
    rw [Gq]
    exact ⟨by rw [getElem?_map,B];rfl,ea⟩
   rw [this]
   show some (p.1,pvl H a)=some p
   rw [val i a p ea B]
 refine ⟨zs.map fun z=>(z.1,pvl H z.2),?_,?_,?_⟩
 ·have:=hp.map fun z:Str×Addr=>(z.1,pvl H z.2)
  rwa [U] at this
 ·unfold ZbF;rw [JL];exact Z
 ·refine ⟨by rw [e,length_map,length_map],fun i a p e1 B=>?_⟩
  rw [e,getElem?_map] at e1
  rw [getElem?_map] at B
  cases ez:zs[i]? with
  | none=>rw [ez] at e1;cases e1
  | some z =>
   rw [ez] at e1 B
   cases (show some z.2=some a from e1)
   cases (show some (z.1,pvl H z.2)=some p from B)
   have W:=hp.mem_iff.mp (mem_of_getElem? ez)
   obtain ⟨j,S⟩:=JT.mp W
   rw [Gq] at S
   obtain ⟨h1,h2⟩:=S
   rw [getElem?_map] at h1
   cases e3:ps[j]? with
   | none=>rw [e3] at h1;cases h1
   | some pj =>
    rw [e3] at h1
    have J:pj.1=z.1:=by simpa using h1
    have:=h.2 j z.2 pj h2 e3
    rw [this,val j z.2 pj h2 e3,J]
def Zw (x:Str):Int:=Wr x.cps.toList x.length
def We:Str:=(("leaf_of":Str)++".<locals>.")++"<lambda>"
inductive UI (K:Qa)(Pl:Addr)(lpos:Pos)(vs:List V)(H:Hp)(Q:VK)(w_3:XK):Prop
 | mk (l:Addr) (ts:List Addr) (ps:List (Str×V)):vs=[.ref l]->H l=some (.lst (ts.map V.ref))->PairT H ts ps->ps≠[]->ps.length < 64->(∀ p∈ps,p.1.length<=1000)->LamAt H Pl lpos We->(∀ (a:Addr) (H':Hp) (p1:Str×V) (pr:List (Str×V)),Grown Pl H H'->LamAt H' Pl lpos We->(p1::pr).Perm ps->ZbF (p1::pr)->NodeAt K H' a (.leaf (Zw p1.1) (p1::pr))->Q (.ref a) H')->UI K Pl lpos vs H Q w_3
theorem Grown.trans' (a:Grown Pl H H1)(b:Same H1 H2):Grown Pl H H2:=fun x o n h=>b _ _ (a x o n h)
theorem LamAt.same (h:LamAt H Pl lpos q)(s:Same H H'):LamAt H' Pl lpos q:=by
 rcases h with h | ⟨c,h,h2⟩
 ·exact .inl (s _ _ h)
 ·exact .inr ⟨c,s _ _ h,s _ _ h2⟩
theorem scLf:Zp ["pairs","rising","first_name"] ["pairs"] (Zj s_leaf_of):={}
def Zml:Stmt->Pos
 | .Assign _ (.Call _ _ [⟨_,.Lambda _ _ _ p,_⟩] _) _=>p
 | _=>⟨0,0,0,0⟩
def YR:Pos:=Zml ((Xx s_leaf_of).getD 0 (.Pass ⟨0,0,0,0⟩))
theorem ZkO (F:FunC K "leaf_of" "leaf_of" s_leaf_of f fd c Pl)(T:Txt K mg)(hBm:XX base mg)(DM:Def P w K mg base 1 "mark" ["name"] Wg):FnOk P w K mg base ZI 2 f fd ["pairs"] (UI K Pl YR):=by
 refine F.ok scLf (fun A outer s H vs Q E hr h=>?_)
 obtain ⟨l,ts,ps,rfl,el,G,hne,h64,hnl,hL,q⟩:=h
 refine' ⟨?t,?h,?r⟩
 case h =>
  conv=>arg 2;whnf
  with_reducible refine' Zd ?a1 (Zd ?a2 (Zi ?a3))
  case a1=>exact Zx (i:=1) scLf.nd rfl (QJ rfl) (Zjt (c:=c) (Pl:=Pl) rfl T.sorted (pv 0) hr rfl F.hd hBm)
  case a2=>exact Zx (i:=2) scLf.nd rfl (QJ rfl) (ZA YL (ZA ZG (pv 1) Zg (fun _ _=>rfl)) Zg (fun _ _=>rfl))
  case a3=>exact Zu (YZ (Zc ZW (Zc (ZJ DM hr (Zc (pv 2) Za)) (Zc (Yy ZaA rfl T.tuple (by decide +kernel) (Zc (pv 1) Za)) Za))))
 try dsimp only [ZQ,Cx.nox]
 refine zs3 ?_
 intro zD zS zN2 zN1
 refine ⟨_,rfl,l,ts,ps.map (·.1),rfl,el,by rw [G.1];exact h64,by rw [length_map,G.1],fun i t k e1 Z=>?_,hL,fun H2 r ts' gr hL2 hr2 hT=>?_⟩
 ·rw [getElem?_map] at Z
  cases e3:ps[i]? with
  | none=>rw [e3] at Z;cases Z
  | some p =>
   rw [e3] at Z
   have e4:p.1=k:=by simpa using Z
   rw [<- e4]
   exact ⟨_,G.2 i t p e1 e3⟩
 obtain ⟨ps',B,U,I⟩:=ZhH G hT
 obtain ⟨tb,htb⟩:=hL.tbl
 have tf2:TF H H2:=gr.tf htb
 have J:=I.tf tf2
 cases ps' with
 | nil=>exact absurd (OD B).symm hne
 | cons p1 pr =>
  cases ts' with
  | nil=>have:=I.1;simp at this
  | cons W tr =>
   have e1:=J.2 0 W p1 rfl rfl
   have s3:=Zm hr2 (.lst ((W::tr).map V.ref))
   have hn1:p1.1.length<=1000:=hnl p1 (B.mem_iff.mp mem_cons_self)
   refine ⟨_,rfl,r,_,_,_,rfl,rfl,SqL.of Ze,(show YH ((W::tr).map V.ref) ((0:Nat):Int)=some (V.ref W) from ZK rfl),W,_,_,_,rfl,rfl,SqT.of (s3 _ _ e1),rfl,?_⟩
   refine ⟨_,rfl,p1.1,rfl,hn1,fun H4 s4=>⟨_,rfl,r,_,rfl,SqL.of (s4 _ _ Ze),fun t o ht hd=>⟨(by show 3<=Qj;decide),fun a ha=>?_⟩⟩⟩
   have s5:=Zm ht (.frz o (.tup ((W::tr).map V.ref)))
   have s6:=Zm ha (.tup [.str "leaf",.int (Zw p1.1),.ref t])
   have S:=((s3.trans s4).trans s5).trans s6
   refine q a _ p1 pr (Grown.trans' gr S) (LamAt.same hL2 S) B U ⟨t,SqT.of Ze,o,W::tr,s6 _ _ Ze,hd,J.tf S.tf⟩
end
structure Xm (K:Qa)(C:Addr):Prop where
 cl:Cls K C
 nN:NoAttr K C "nodes"
 nT:NoAttr K C "tables"
section
variable {P:Qk}{w:Qt}{K:Qa}{mg:Str->Option Qb}{base:Heap}{C:Addr}
inductive Zej (K:Qa)(C:Addr)(vs:List V)(H:Hp)(Q:VK)(w_3:XK):Prop
 | mk (p dx:Addr):vs=[.ref p]->H p=some (.ins C dx [])->(∀ (ln dt:Addr) (H':Hp),H ln=none->H dt=none->StoreAt K C p ln dt H' [.bare] [(QQ 0,.bl true)]->Kq [p] H H'->Q .non H')->Zej K C vs H Q w_3
theorem scIn:Zp ["self"] ["self"] (Zj c_Store___init__):={}
theorem ZkM (F:Fun K "__init__" "Store.__init__" c_Store___init__ f fd)(T:Txt K mg)(TC:Xm K C):FnOk P w K mg base ZI 1 f fd ["self"] (Zej K C):=by
 refine F.ok scIn (fun cdv A outer s H vs Q E hr h=>?_)
 obtain ⟨p,dx,rfl,hp,q⟩:=h
 obtain ⟨ab,hb,hbt⟩:=T.bare
 obtain ⟨tz,hz⟩:=T.zero
 refine ⟨_,Zd (YT (pv 0) (Yb (Zc (ZN rfl hb (v:=.ref ab) rfl) Za)) rfl) (Zi (YT (pv 0) (Zlb (Zjy (ZN rfl hz (v:=.int 0) ⟨_,rfl⟩) XM Zlg) rfl rfl (by simp) (by decide)) rfl)),?_⟩
 refine ⟨(by show 1<=Qj;decide),fun ln S=>?_⟩
 have J:p≠ln:=Zq hp S
 refine ⟨_,rfl,p,C,dx,[],rfl,(by rw [Zh J];exact hp),TC.cl,TC.nN,(by show 0 < 1000;decide),?_⟩
 intro Z B
 have I:p≠Z:=fun z=>by rw [<- z,Ze] at B;cases B
 have U:ln≠Z:=fun z=>by rw [<- z,Zh J.symm,Ze] at B;cases B
 have G:H Z=none:=by rw [Zh I.symm,Zh U.symm] at B;exact B
 refine ⟨Ze,[(QQ 0,.bl true)],rfl,by decide,_,rfl,p,C,dx,_,rfl,(by rw [Zh I,Zh I,Ze]),TC.cl,TC.nT,(by show 1 < 1000;decide),?_⟩
 refine q ln Z _ S G ⟨⟨dx,Ze⟩,⟨[ab],?_,rfl,fun i a n e1 e2=>?_⟩,?_⟩ fun b o nb e=>?_
 ·rw [Zh J.symm,Zh U,Zh U,Zh J.symm,Ze];rfl
 ·cases i with
  | zero =>
   cases (show some ab=some a from e1)
   cases (show some Nd.bare=some n from e2)
   exact hbt _
  | succ i=>simp at e1
 ·rw [Zh I.symm,Ze];rfl
 ·have W:b≠p:=fun z=>nb (by simp [z])
  rw [Zh W,Zh (Zq e G),Zh (Zq e G),Zh W,Zh (Zq e S)];exact e
inductive UH (K:Qa)(C:Addr)(vs:List V)(H:Hp)(Q:VK)(w_3:XK):Prop
 | mk (st ln dt a:Addr) (nds:List Nd) (tabs:List (Zo×V)) (n:Nd):vs=[.ref st,.ref a]->StoreAt K C st ln dt H nds tabs->NodeAt K H a n->nds.length<=100000->(∀ H',StoreAt K C st ln dt H' (nds++[n]) tabs->Kq [ln] H H'->TF H H'->Q (.int nds.length) H')->UH K C vs H Q w_3
theorem scKe:Zp ["self","node"] ["self","node"] (Zj c_Store_keep):={}
theorem ZkN (F:Fun K "keep" "Store.keep" c_Store_keep f fd)(T:Txt K mg)(TC:Xm K C):FnOk P w K mg base ZI 1 f fd ["self","node"] (UH K C):=by
 refine F.ok scKe (fun cdv A outer s H vs Q E hr h=>?_)
 obtain ⟨st,B,dt,a,nds,tabs,n,rfl,⟨⟨dx,Z⟩,⟨as,U,W,hn⟩,tb⟩,hna,hsz,q⟩:=h
 refine ⟨_,Zd (ZT (YG Qx QB QC ZZ (ZB (pv 0) rfl) (Zc (pv 1) Za))) (Zi (Zu (Zv YS (Zr ZF rfl T.len QK (Zc (ZB (pv 0) rfl) Za)) Zg))),?_⟩
 have e1:(as.map V.ref).length < sizeLine:=by rw [length_map,W];exact QN hsz (by decide)
 refine ⟨_,rfl,st,C,dx,_,_,rfl,Z,TC.cl,TC.nN,XH B dt,.inl ⟨rfl,_,SqL.of U⟩,_,rfl,B,_,_,rfl,rfl,U,e1,?_⟩
 have J:st≠B:=Zbj Z U (by intro z;cases z)
 have ndl:dt≠B:=Zbj tb U (by intro z;cases z)
 refine ⟨_,rfl,st,C,dx,_,_,rfl,(by rw [Zh J];exact Z),TC.cl,TC.nN,XH B dt,B,_,rfl,.inl (SqL.of Ze),_,_,rfl,rfl,?_⟩
 have tf:=Zer (o:=.lst (as.map V.ref++[.ref a])) U
 have e2:((((as.map V.ref++[V.ref a]).length:Nat):Int) - 1)=(nds.length:Int):=by rw [length_append,length_map,W];show ((nds.length+1:Nat):Int) - 1=_;omega
 have I:Q (.int (nds.length:Int)) (upd H B (.lst (as.map V.ref++[.ref a]))):=by
  refine q _ ⟨⟨dx,by rw [Zh J];exact Z⟩,⟨as++[a],by rw [map_append];exact Ze,by rw [length_append,length_append,W];rfl,fun i b m G S=>?_⟩,by rw [Zh ndl];exact tb⟩ Zbh tf
  by_cases hi:i < as.length
  ·rw [getElem?_append_left hi] at G
   rw [getElem?_append_left (by rw [<- W];exact hi)] at S
   exact (hn i b m G S).tf tf
  ·rw [getElem?_append_right (by omega)] at G
   rw [getElem?_append_right (by omega)] at S
   have h0:i - as.length=0:=by
    cases z:i - as.length with
    | zero=>rfl
    | succ j=>rw [z] at G;simp at G
   rw [h0] at G
   rw [show i - nds.length=0 by omega] at S
   cases (show some a=some b from G)
   cases (show some n=some m from S)
   exact hna.tf tf
 rw [<- e2] at I
 exact I
inductive Zde (K:Qa)(C:Addr)(vs:List V)(H:Hp)(Q:VK)(w_3:XK):Prop
 | mk (st ln dt:Addr) (nds:List Nd) (tabs:List (Zo×V)) (n:Int):vs=[.ref st,.int n]->StoreAt K C st ln dt H nds tabs->tabs.length<=100000->(∀ H',StoreAt K C st ln dt H' nds (Yz tabs (QQ n) (.bl true))->Kq [dt] H H'->TF H H'->Q (.int n) H')->Zde K C vs H Q w_3
theorem scAs:Zp ["self","number"] ["self","number"] (Zj c_Store_as_table):={}
theorem Zmr (F:Fun K "as_table" "Store.as_table" c_Store_as_table f fd)(U:Xm K C):FnOk P w K mg base ZI 1 f fd ["self","number"] (Zde K C):=by
 refine F.ok scAs (fun cdv A outer s H vs Q E hr h=>?_)
 obtain ⟨st,Z,G,nds,B,n,rfl,⟨⟨dx,S⟩,⟨as,W,hl,hn⟩,tb⟩,hsz,q⟩:=h
 refine ⟨_,Zd (ZbV (UV hr) (ZB (pv 0) rfl) (pv 1) XM rfl) (Zi (Zu (pv 1))),?_⟩
 refine ⟨_,rfl,st,C,dx,_,_,rfl,S,U.cl,U.nT,Zhe Z G,_,rfl,G,_,rfl,DPut.k (k:=QQ n) tb (QN hsz (by decide)),_,rfl,?_⟩
 have J:st≠G:=Zbj S tb (by intro z;cases z)
 have I:Z≠G:=Zbj W tb (by intro z;cases z)
 have tf:=Zlx (o:=.dK (Yz B (QQ n) (.bl true))) tb
 exact q _ ⟨⟨dx,by rw [Zh J];exact S⟩,⟨as,by rw [Zh I];exact W,hl,fun i a m e1 e2=>(hn i a m e1 e2).tf tf⟩,Ze⟩ Zbh tf
inductive ZbZ (K:Qa)(C:Addr)(vs:List V)(H:Hp)(Q:VK)(w_3:XK):Prop
 | mk (st ln dt:Addr) (nds:List Nd) (tabs:List (Zo×V)) (n:Int):vs=[.ref st,.int n]->StoreAt K C st ln dt H nds tabs->(ZH tabs (QQ n)).isSome=true->Q .non H->ZbZ K C vs H Q w_3
theorem scCk:Zp ["self","table"] ["self","table"] (Zj c_Store_check_table):={}
theorem Zja (F:Fun K "check_table" "Store.check_table" c_Store_check_table f fd)(B:Xm K C):FnOk P w K mg base ZI 1 f fd ["self","table"] (ZbZ K C):=by
 refine F.ok scCk (fun Z A outer s H vs Q E J h=>?_)
 obtain ⟨st,S,G,nds,I,n,rfl,⟨⟨dx,W⟩,⟨as,nl,hl,hn⟩,tb⟩,U,q⟩:=h
 refine ⟨_,Zi (Ye (VG (ZcB (UV J) (pv 1) (ZB (pv 0) rfl))) (Zi Ve) ZR),?_⟩
 refine ⟨_,rfl,_,rfl,st,C,dx,_,_,rfl,W,B.cl,B.nT,Zhe S G,G,_,rfl,DGet.k (k:=QQ n) tb,_,rfl,?_⟩
 rw [U]
 exact Ya q
end
def ZV (n:Int)(k:Nat):Nat:=(n / 4 ^ k % 4).toNat
theorem Wo (n:Int)(k:Nat):(ZV n k:Int)=n / 4 ^ k % 4:=Int.toNat_of_nonneg (GC _ (by decide))
theorem WZ (n:Int)(k:Nat):ZV n k < 4:=by
 have h1:=Wo n k
 have h2:=Gu (n / 4 ^ k) (show (0:Int) < 4 by decide)
 omega
def Xh (nds:List Nd)(m:Int):Nat->Nat->Nat->Option (List Nat)
 | 0,_,_=>none
 | f+1,lev,num=>match nds[num]? with
  | none=>none
  | some (.fork qs)=>(qs[ZV m lev]?).bind fun q=>(Xh nds m f (lev+1) q).map (num::·)
  | some _=>some [num]
def iN (n:Nat):V:=.int (n:Int)
section
variable {P:Qk}{w:Qt}{K:Qa}{mg:Str->Option Qb}{base:Heap}{C:Addr}
theorem _root_.L2.StoreAt.node {st G I:Addr}{H:Hp}{nds:List Nd}{B:List (Zo×V)}(S:StoreAt K C st G I H nds B){i:Nat}{n:Nd}(h:nds[i]?=some n):∃(as:List Addr)(a:Addr),H G=some (.lst (as.map V.ref))/\as[i]?=some a/\NodeAt K H a n:=by
 obtain ⟨_,⟨as,e,l,J⟩,_⟩:=S
 have hi:i < as.length:=by rw [l];exact (Qi.mp h).1
 exact ⟨as,as[i],e,getElem?_eq_getElem hi,J i _ n (getElem?_eq_getElem hi) h⟩
inductive ZgA (K:Qa)(C:Addr)(vs:List V)(H:Hp)(Q:VK)(w_3:XK):Prop
 | mk (st ln dt:Addr) (nds:List Nd) (tabs:List (Zo×V)) (t:Nat) (x:Str) (f:Nat) (ws:List Nat):vs=[.ref st,iN t,.str x]->StoreAt K C st ln dt H nds tabs->(ZH tabs (QQ (t:Int))).isSome=true->x.length<=1000->0<=Zw x->f<=1000->Xh nds (Zw x) f 0 t=some ws->(∀ r H',H r=none->Same H H'->H' r=some (.lst (ws.map iN))->Q (.ref r) H')->ZgA K C vs H Q w_3
theorem scWa:Zp ["self","table","name","told","parts","part"] ["self","table","name"] (Zj c_Store_way):={}
theorem ZmD (F:Fun K "way" "Store.way" c_Store_way f fd)(T:Txt K mg)(TC:Xm K C)(DC:DefM P w K mg base 1 C "check_table" ["self","table"] (ZbZ K C))(DP:Def P w K mg base 1 "parts_in" ["node"] (WU K))(DM:Def P w K mg base 1 "mark" ["name"] Wg)(DG:Def P w K mg base 1 "digit" ["number","level"] XU):FnOk P w K mg base ZI 2 f fd ["self","table","name"] (ZgA K C):=by
 refine F.ok scWa (fun cdv A outer s H vs Q E hr h=>?_)
 obtain ⟨st,ln,dt,nds,tabs,t,x,fu,ws,rfl,S,htab,hx,hm,hfu,J,q⟩:=h
 refine' ⟨?t,?h,?r⟩
 case h =>
  conv=>arg 2;whnf
  with_reducible refine' Zd ?a1 (Zd ?a2 (Zd ?a3 (Zd (ZjA ?w0 ?w1 (Zd ?b1 (Zd ?b2 (Zi ?b3)))) (Zi ?a5))))
  case a1=>exact ZT (Yc DC TC.cl hr (pv 0) (Zc (pv 1) Za))
  case a2=>exact Zx (i:=3) scWa.nd rfl (QJ rfl) (Yb (Zc (pv 1) Za))
  case a3=>exact Zx (i:=4) scWa.nd rfl (QJ rfl) (ZJ DP hr (Zc (ZA ZG (ZB (pv 0) rfl) (pv 1) (fun _ _=>rfl)) Za))
  case w0=>exact GD
  case w1=>exact Vg (pv 4) (fun _=>rfl)
  case b1=>exact Zx (i:=5) scWa.nd rfl (QJ rfl) (ZA YL (pv 4) (ZJ DG hr (Zc (ZJ DM hr (Zc (pv 2) Za)) (Zc (Zv YS (Zr ZF rfl T.len QK (Zc (pv 3) Za)) Zg) Za))) (fun _ _=>rfl))
  case b2=>exact ZT (YG Qx QB QC ZZ (pv 3) (Zc (pv 5) Za))
  case b3=>exact Zx (i:=4) scWa.nd rfl (QJ rfl) (ZJ DP hr (Zc (ZA ZG (ZB (pv 0) rfl) (pv 5) (fun _ _=>rfl)) Za))
  case a5=>exact Zu (pv 3)
 try dsimp only [ZQ,Cx.nox]
 refine zs5 ?_
 intro zD zS zN4 zN3 zN2 zN1
 obtain ⟨dx,ob⟩:=S.ob
 refine ⟨_,rfl,st,dx,_,rfl,ob,ZS ln dt (by decide +kernel) (by decide +kernel),_,rfl,st,ln,dt,nds,tabs,t,rfl,S,htab,_,rfl,(by show 1<=Qj;decide),fun l hl=>?_⟩
 obtain ⟨n,hn⟩:∃ n,nds[t]?=some n:=by
  cases fu with
  | zero=>cases J
  | succ fu =>
   cases e:nds[t]? with
   | none=>unfold Xh at J;rw [e] at J;cases J
   | some n=>exact ⟨n,rfl⟩
 have s1:=Zm hl (.lst [iN t])
 have S1:=S.keep s1
 obtain ⟨as,a,nl,ha,hna⟩:=S1.node hn
 obtain ⟨dx1,ob1⟩:=S1.ob
 refine ⟨_,rfl,st,C,dx1,_,_,rfl,ob1,TC.cl,TC.nN,XH ln dt,_,rfl,ln,_,_,_,rfl,rfl,SqL.of nl,ZK (by rw [getElem?_map,ha];rfl),a,n,rfl,hna,fun pt H2 s2 hpt=>?_⟩
 refine ⟨fun U σ H'=>∃ (B wr:List Nat) (G:Nat) (n:Nd) (pt:Addr) (y:Option V),σ=[some (.ref st),some (iN t),some (.str x),some (.ref l),some (.ref pt),y]/\Same H H'/\H' l=some (.lst ((B++[G]).map iN))/\nds[G]?=some n/\SqT K H' pt (n.parts.map iN)/\Xh nds (Zw x) U B.length G=some wr/\ws=B++wr/\U+B.length<=1000,
  ⟨fu,[],ws,t,n,pt,_,rfl,s1.trans s2,s2 _ _ Ze,hn,hpt,J,rfl,by simpa using hfu⟩,?_⟩
 rintro U σ H3 ⟨B,wr,G,n,pt,y,rfl,s3,Z,hn3,hpt3,I,rfl,hfl⟩
 refine ⟨_,rfl,_,.inr (.inl ⟨_,hpt3,rfl⟩),?_⟩
 have stop:n.parts=[]->Xh nds (Zw x) U B.length G=some [G]:=fun z=>by
  cases U with
  | zero=>cases I
  | succ U =>
   unfold Xh at I ⊢
   rw [hn3] at I ⊢
   cases n with
   | bare=>rfl
   | leaf m ps=>rfl
   | fork qs =>
    have z':qs=[]:=z
    subst z'
    simp at I
 by_cases hz:n.parts=[]
 ·rw [hz]
  refine Ya ⟨_,rfl,?_⟩
  have e:=stop hz
  rw [I] at e
  cases e
  exact q l H3 hl s3 Z
 ·have hk : (!(n.parts.map iN).isEmpty)=true:=by
   cases e:n.parts with
   | nil=>exact absurd e hz
   | cons _ _=>rfl
  rw [hk]
  cases n with
  | bare=>exact absurd rfl hz
  | leaf m ps=>exact absurd rfl hz
  | fork qs =>
   cases U with
   | zero=>cases I
   | succ U =>
    unfold Xh at I
    rw [hn3] at I
    cases eq1:qs[ZV (Zw x) B.length]? with
    | none=>simp [eq1] at I
    | some q1 =>
     have W:(Xh nds (Zw x) U (B.length+1) q1).map (G::·)=some wr:=by simpa [eq1] using I
     cases eq2:Xh nds (Zw x) U (B.length+1) q1 with
     | none=>rw [eq2] at W;cases W
     | some wr' =>
      rw [eq2] at W
      have ewr:G::wr'=wr:=by simpa using W
      obtain ⟨n',hn'⟩:∃ n',nds[q1]?=some n':=by
       cases U with
       | zero=>cases eq2
       | succ U =>
        cases e:nds[q1]? with
        | none=>unfold Xh at eq2;rw [e] at eq2;cases eq2
        | some n=>exact ⟨n,rfl⟩
      have e2:((((B++[G]).map iN).length:Nat):Int) - 1=(B.length:Int):=by rw [length_map,length_append];show ((B.length+1:Nat):Int) - 1=_;omega
      have hat:YH (qs.map iN) (Zw x / 4 ^ B.length % 4)=some (iN q1):=by rw [<- Wo];exact ZK (by rw [getElem?_map,eq1];rfl)
      refine Yw ⟨_,fun σ' H' h=>⟨U,Tt _,h⟩,_,rfl,_,rfl,x,rfl,hx,fun H4 s4=>?_⟩
      refine ⟨_,rfl,l,_,rfl,.inl (SqL.of (s4 _ _ Z)),_,_,rfl,rfl,Zw x,B.length,congrArg (fun z=>[V.int (Zw x),V.int z]) e2,hm,by omega,pt,_,_,_,rfl,rfl,hpt3.tf s4.tf,hat,?_⟩
      refine ⟨_,rfl,.inl ⟨rfl,_,SqL.of (s4 _ _ Z)⟩,_,rfl,l,_,_,rfl,rfl,s4 _ _ Z,(by rw [length_map,length_append];show B.length+1 < Qj;exact QN (show B.length+1<=1001 by omega) (by decide)),?_⟩
      have s5:Same H (upd H4 l (.lst ((B++[G]).map iN++[iN q1]))):=fun b o e=>by rw [Zh (Zq e hl)];exact s4 _ _ (s3 _ _ e)
      have S5:=S.keep s5
      obtain ⟨as5,a5,nl5,ha5,hna5⟩:=S5.node hn'
      obtain ⟨dx5,ob5⟩:=S5.ob
      refine ⟨_,rfl,st,C,dx5,_,_,rfl,ob5,TC.cl,TC.nN,XH ln dt,_,rfl,ln,_,_,_,rfl,rfl,SqL.of nl5,ZK (by rw [getElem?_map,ha5];rfl),a5,n',rfl,hna5,fun pt6 H6 s6 hpt6=>?_⟩
      refine ⟨B++[G],wr',q1,n',pt6,_,rfl,s5.trans s6,?_,hn',hpt6,?_,?_,?_⟩
      ·rw [map_append];exact s6 _ _ Ze
      ·rw [length_append];exact eq2
      ·rw [<- ewr,Op];rfl
      ·rw [length_append];show U+(B.length+1)<=1000;omega
def lk (ps:List (Str×V))(x:Str):Option V:=ZH (ps.map fun p=>((QF p.1:Zo),p.2)) (QF x)
inductive WB (K:Qa)(C:Addr)(vs:List V)(H:Hp)(Q:VK)(w_3:XK):Prop
 | mk (st ln dt:Addr) (nds:List Nd) (tabs:List (Zo×V)) (t:Nat) (x:Str) (f:Nat) (ws:List Nat) (e:Nat) (n:Nd):vs=[.ref st,iN t,.str x]->StoreAt K C st ln dt H nds tabs->(ZH tabs (QQ (t:Int))).isSome=true->x.length<=1000->0<=Zw x->f<=1000->Xh nds (Zw x) f 0 t=some (ws++[e])->nds[e]?=some n->n.pairs.length<=1000->(n.pairs.map (·.1)).Nodup->(∀ H',Same H H'->Q ((lk n.pairs x).getD .non) H')->WB K C vs H Q w_3
theorem scLo:Zp ["self","table","name","end"] ["self","table","name"] (Zj c_Store_looked):={}
theorem ZcA (F:Fun K "looked" "Store.looked" c_Store_looked f fd)(T:Txt K mg)(TC:Xm K C)(DW:DefM P w K mg base 2 C "way" ["self","table","name"] (ZgA K C))(DR:Def P w K mg base 1 "pairs_in" ["node"] (XV K)):FnOk P w K mg base ZI 3 f fd ["self","table","name"] (WB K C):=by
 refine F.ok scLo (fun cdv A outer s H vs Q E W h=>?_)
 obtain ⟨st,U,dt,nds,I,t,x,fu,ws,e,n,rfl,S,J,hx,hm,hfu,B,hn,hsz,hnd,q⟩:=h
 refine' ⟨?t,?h,?r⟩
 case h =>
  conv=>arg 2;whnf
  with_reducible refine' Zd ?a1 (Zi ?a2)
  case a1=>exact Zx (i:=3) scLo.nd rfl (QJ rfl) (ZA ZG (Yc DW TC.cl W (pv 0) (Zc (pv 1) (Zc (pv 2) Za))) (Zkb Zit Zg) (fun _ _=>rfl))
  case a2=>exact Zu (Zjp (UV W) (Yy (Uj rfl) rfl T.dict (by decide +kernel) (Zc (ZJ DR (W.mono (by decide)) (Zc (ZA ZG (ZB (pv 0) rfl) (pv 3) (fun _ _=>rfl)) Za)) Za)) (pv 2) ⟨rfl,rfl,rfl,rfl⟩)
 try dsimp only [ZQ,Cx.nox]
 refine VP ?_
 intro zD zS zN1
 obtain ⟨dx,ob⟩:=S.ob
 refine ⟨_,rfl,st,dx,_,rfl,ob,ZS U dt (by decide +kernel) (by decide +kernel),_,rfl,_,rfl,st,U,dt,nds,I,t,x,fu,_,rfl,S,J,hx,hm,hfu,B,fun r H1 hr1 s1 el=>?_⟩
 refine ⟨_,rfl,r,_,_,iN e,rfl,rfl,SqL.of el,(by rw [map_append];exact ZiC _ _),?_⟩
 have S1:=S.keep s1
 obtain ⟨as,a,nl,ha,hna⟩:=S1.node hn
 obtain ⟨Z,ob1⟩:=S1.ob
 refine ⟨_,rfl,st,C,Z,_,_,rfl,ob1,TC.cl,TC.nN,XH U dt,_,rfl,U,_,_,_,rfl,rfl,SqL.of nl,ZK (by rw [getElem?_map,ha];rfl),a,n,rfl,hna,fun pt H2 s2 hpt=>?_⟩
 obtain ⟨o,ts,ept,hod,G,hp⟩:=hpt
 refine ⟨pt,ts,n.pairs,rfl,⟨o,ept,hod⟩,G,hsz,hp,hnd,fun d hd=>⟨d,rfl,.inl ⟨_,.inl Ze⟩,_,rfl,_,DGet.k (k:=QF x) Ze,?_⟩⟩
 exact q _ ((s1.trans s2).trans (Zm hd _))
end
def Xe (num lev:Nat):Nd->List Nat
 | .fork qs=>qs
 | .leaf m _=>[0,1,2,3].map fun g=>if g=ZV m lev then num else 0
 | .bare=>[]
def Zds:Nd->Prop
 | .leaf m ps=>∃ p1 pr,ps=p1::pr/\Zw p1.1=m/\p1.1.length<=1000/\0<=m
 | _=>True
section
variable {P:Qk}{w:Qt}{K:Qa}{mg:Str->Option Qb}{base:Heap}{C:Addr}
inductive Zgw (K:Qa)(C:Addr)(vs:List V)(H:Hp)(Q:VK)(w_3:XK):Prop
 | mk (st ln dt:Addr) (nds:List Nd) (tabs:List (Zo×V)) (num lev:Nat) (n:Nd):vs=[.ref st,iN num,iN lev]->StoreAt K C st ln dt H nds tabs->nds[num]?=some n->n≠.bare->Zds n->lev<=1000->(∀ r H',H r=none->Same H H'->H' r=some (.lst ((Xe num lev n).map iN))->Q (.ref r) H')->Zgw K C vs H Q w_3
abbrev nFp:List Str:=["self","number","level","node","first_name","at"]
theorem scFp:Zp nFp ["self","number","level"] (Zj c_Store_fork_parts):={}
theorem ZnM (F:Fun K "fork_parts" "Store.fork_parts" c_Store_fork_parts f fd)(T:Txt K mg)(TC:Xm K C)(DP:Def P w K mg base 1 "parts_in" ["node"] (WU K))(DR:Def P w K mg base 1 "pairs_in" ["node"] (XV K))(DM:Def P w K mg base 1 "mark" ["name"] Wg)(DG:Def P w K mg base 1 "digit" ["number","level"] XU):FnOk P w K mg base ZI 2 f fd ["self","number","level"] (Zgw K C):=by
 refine F.ok scFp (fun cdv A outer s H vs Q E hr h=>?_)
 obtain ⟨st,ln,dt,nds,tabs,G,B,n,rfl,S,hn,hnb,hok,hlev,q⟩:=h
 obtain ⟨tz,hz⟩:=T.zero
 obtain ⟨af,hf,hft⟩:=T.figs
 refine' ⟨?t,?h,?r⟩
 case h =>
  conv=>arg 2;whnf
  with_reducible refine' Zd ?a1 (Zd ?a2 (Zd ?a3 (Zd ?a4 (Zi ?a5))))
  case a1=>exact Zx (i:=3) scFp.nd rfl (QJ rfl) (ZA ZG (ZB (pv 0) rfl) (pv 1) (fun _ _=>rfl))
  case a2=>exact Ye (Vg (ZJ DP hr (Zc (pv 3) Za)) (fun _=>rfl)) (Zi (Zu (Yy Vu rfl T.list (by decide +kernel) (Zc (ZJ DP hr (Zc (pv 3) Za)) Za)))) ZR
  case a3=>exact Zx (i:=4) scFp.nd rfl (QJ rfl) (ZA YL (ZA YL (ZJ DR hr (Zc (pv 3) Za)) Zg (fun _ _=>rfl)) Zg (fun _ _=>rfl))
  case a4=>exact Zx (i:=5) scFp.nd rfl (SO rfl) (ZJ DG hr (Zc (ZJ DM hr (Zc (pv 4) Za)) (Zc (pv 2) Za)))
  case a5=>exact Zu (Zaa (CompOk.of nFp c_Store_fork_parts rfl rfl (by decide +kernel)) rfl (ZhN (ZN rfl hf (v:=.ref af) rfl)) (fun _ _ _ _ _=>Wu (ZX YW (pv 6) (pv 5) (ZU _)) (pv 1) (ZN rfl hz (v:=.int 0) ⟨_,rfl⟩)))
 try dsimp only [ZQ,Cx.nox]
 refine zs5 ?_
 intro zD zS zN4 zN3 zN2 zN1
 obtain ⟨as,a,nl,ha,J⟩:=S.node hn
 obtain ⟨dx,ob⟩:=S.ob
 refine ⟨_,rfl,st,C,dx,_,_,rfl,ob,TC.cl,TC.nN,XH ln dt,_,rfl,ln,_,_,_,rfl,rfl,SqL.of nl,ZK (by rw [getElem?_map,ha];rfl),?_⟩
 refine ⟨_,rfl,a,n,rfl,J,fun pt H2 s2 hpt=>⟨_,.inr (.inl ⟨_,hpt,rfl⟩),?_⟩⟩
 cases n with
 | bare=>exact absurd rfl hnb
 | fork qs =>
  have h4:qs.length=4:=by obtain ⟨_,_,_,z⟩:=J;exact z
  have hk:(!(((Nd.fork qs).parts).map (fun q:Nat=>V.int (q:Int))).isEmpty)=true:=by
   cases qs with
   | nil=>cases h4
   | cons _ _=>rfl
  rw [hk]
  refine Yw ⟨_,rfl,a,_,rfl,J.tf s2.tf,fun W H3 s3 I=>⟨W,_,rfl,.inr I,fun l hl=>?_⟩⟩
  have hl0:H l=none:=by
   cases e:H l with
   | none=>rfl
   | some o=>rw [s3 _ _ (s2 _ _ e)] at hl;cases hl
  exact q l _ hl0 ((s2.trans s3).trans (Zm hl _)) Ze
 | leaf m ps =>
  obtain ⟨p1,pr,rfl,hm1,hx1,hm0⟩:=hok
  refine Ya ⟨_,rfl,a,_,rfl,J.tf s2.tf,fun W H3 s3 I=>?_⟩
  obtain ⟨o,ts,ept,hod,hlen,hp⟩:=I
  cases ts with
  | nil=>simp [Nd.pairs] at hlen
  | cons t1 tr =>
   have et1:=hp 0 t1 p1 rfl rfl
   refine ⟨W,_,_,_,rfl,rfl,.inl (.inr ⟨o,ept⟩),(show YH ((t1::tr).map V.ref) ((0:Nat):Int)=some (V.ref t1) from ZK rfl),t1,_,_,_,rfl,rfl,SqT.of et1,rfl,?_⟩
   refine ⟨_,rfl,p1.1,rfl,hx1,fun H4 s4=>⟨_,rfl,Zw p1.1,B,rfl,by rw [hm1];exact hm0,hlev,?_⟩⟩
   refine ⟨af,rfl,⟨_,hft _⟩,fun D hD=>?_⟩
   have s24:=(s2.trans s3).trans s4
   have hD0:H D=none:=by
    cases e:H D with
    | none=>rfl
    | some o=>rw [s24 _ _ e] at hD;cases hD
   refine ZiH (K:=K) (a:=af) (xs:=[.int 0,.int 1,.int 2,.int 3]) (by show 4<=Qj;decide) (fun i ys H'=>ys=(([0,1,2,3]:List Nat).take i).map (fun g=>iN (if g=ZV m B then G else 0))/\i<=4/\H' D=some (.lst ys)/\Same H H') ?_ ?_ ?_ ?_
   ·exact ⟨rfl,by decide,Ze,s24.trans (Zm hD _)⟩
   ·rintro i ys Z ⟨rfl,hi,_,_⟩
    exact ⟨by rw [length_map,length_take];show min i 4=i;omega,hft _⟩
   ·rintro i x ys Z hi ⟨rfl,hi4,U,s5⟩
    have hi':i < 4:=(Qi.mp hi).1
    have ex:x=iN i:=by
     rcases i with _ | _ | _ | _ | i
     ·cases hi;rfl
     ·cases hi;rfl
     ·cases hi;rfl
     ·cases hi;rfl
     ·omega
    subst ex
    have fin:∀ y,y=iN (if i=ZV m B then G else 0)->Z D=some (.lst ((([0,1,2,3]:List Nat).take i).map (fun g=>iN (if g=ZV m B then G else 0))))/\(((([0,1,2,3]:List Nat).take i).map (fun g=>iN (if g=ZV m B then G else 0))++[y])=(([0,1,2,3]:List Nat).take (i+1)).map (fun g=>iN (if g=ZV m B then G else 0))/\i+1<=4/\upd Z D (.lst ((([0,1,2,3]:List Nat).take i).map (fun g=>iN (if g=ZV m B then G else 0))++[y])) D=some (.lst ((([0,1,2,3]:List Nat).take i).map (fun g=>iN (if g=ZV m B then G else 0))++[y]))/\Same H (upd Z D (.lst ((([0,1,2,3]:List Nat).take i).map (fun g=>iN (if g=ZV m B then G else 0))++[y])))):=by
     intro y ey
     refine ⟨U,?_,by omega,Ze,fun b o e=>by rw [Zh (Zq e hD0)];exact s5 _ _ e⟩
     subst ey
     rcases i with _ | _ | _ | _ | i
     ·rfl
     ·rfl
     ·rfl
     ·rfl
     ·omega
    have ed:decide (iN i=V.int (Zw p1.1 / 4 ^ B % 4))=decide (i=ZV m B):=by
     rw [hm1,<- Wo]
     by_cases z:i=ZV m B
     ·rw [decide_eq_true z,z];exact decide_eq_true rfl
     ·rw [decide_eq_false z]
      exact decide_eq_false fun y=>z (by have:=V.int.inj y;omega)
    refine ⟨_,rfl,_,rfl,rfl,_,rfl,?_⟩
    rw [ed]
    by_cases z:i=ZV m B
    ·rw [decide_eq_true z]
     exact Yw ⟨_,rfl,fin _ (by rw [if_pos z])⟩
    ·rw [decide_eq_false z]
     exact Ya (fin _ (by rw [if_neg z];rfl))
   ·rintro ys Z ⟨rfl,_,U,s5⟩
    refine q D Z hD0 s5 ?_
    rw [U]
    rfl
end
def gK (p:Str×V):Zo×V:=(QF p.1,p.2)
theorem Zmm (ps:List (Str×V))(x:Str):lk ps x=ZH (ps.map gK) (QF x):=rfl
theorem Zhu (x:Str):lk [] x=none:=rfl
theorem Uy (p:Str×V)(ps:List (Str×V))(x:Str):lk (p::ps) x=if p.1=x then some p.2 else lk ps x:=by
 by_cases h:p.1=x
 ·rw [if_pos h];exact YC (show (gK p).1=QF x by rw [<- h];rfl)
 ·rw [if_neg h];exact YB (show ¬ (gK p).1=QF x from fun z=>h (JB z))
theorem VA (B:(ps.map (·.1)).Nodup):lk ps x=some v↔(x,v)∈ps:=by
 induction ps with
 | nil=>simp [Zhu]
 | cons p ps ih =>
  rw [map_cons,nodup_cons] at B
  rw [Uy]
  by_cases h:p.1=x
  ·rw [if_pos h]
   constructor
   ·intro e
    cases e
    rw [<- h];exact mem_cons_self
   ·intro e
    rcases mem_cons.mp e with e | e
    ·rw [<- e]
    ·exact absurd (h ▸ Rl (f:=(·.1)) e) B.1
  ·rw [if_neg h,ih B.2,mem_cons]
   exact ⟨.inr,fun e=>e.resolve_left fun z=>h (by rw [<- z])⟩
theorem ZeZ (h:∀ p∈ps,p.1≠x):lk ps x=none:=by
 induction ps with
 | nil=>rfl
 | cons p ps ih=>rw [Uy,if_neg (h p mem_cons_self)];exact ih fun q B=>h q (mem_cons_of_mem _ B)
theorem Zfa (h:ps.Perm qs)(G:(qs.map (·.1)).Nodup)(x:Str):lk ps x=lk qs x:=by
 have B:(ps.map (·.1)).Nodup:=(h.map (·.1)).nodup_iff.mpr G
 cases e:lk qs x with
 | some v=>exact (VA B).mpr (h.mem_iff.mpr ((VA G).mp e))
 | none =>
  cases e2:lk ps x with
  | none=>rfl
  | some v=>rw [(VA G).mpr (h.mem_iff.mp ((VA B).mp e2))] at e;cases e
def Wv (ps:List (Str×V))(x:Str)(v:V):List (Str×V) :=
 if (ps.any fun p=>decide (p.1=x))=true then ps.map (fun p=>if p.1=x then (p.1,v) else p) else ps++[(x,v)]
theorem Zeb (ps:List (Str×V))(x:Str)(v:V):Yz (ps.map gK) (QF x) v=(Wv ps x v).map gK:=by
 have e:∀ p:Str×V,decide ((gK p).1=QF x)=decide (p.1=x):=fun p=>by
  by_cases h:p.1=x
  ·rw [decide_eq_true h];exact decide_eq_true (by rw [<- h];rfl)
  ·rw [decide_eq_false h];exact decide_eq_false fun z=>h (JB z)
 have e1:((ps.map gK).any fun B=>decide (B.1=QF x))=ps.any fun p=>decide (p.1=x):=by
  rw [List.any_map];congr 1;funext p;exact e p
 unfold Yz Wv
 rw [e1]
 by_cases h:(ps.any fun p=>decide (p.1=x))=true
 ·rw [if_pos h,if_pos h,map_map,map_map]
  congr 1
  funext p
  show (if (gK p).1=QF x then ((gK p).1,v) else gK p)=gK (if p.1=x then (p.1,v) else p)
  by_cases z:p.1=x
  ·rw [if_pos z,if_pos (show (gK p).1=QF x by rw [<- z];rfl)];rfl
  ·rw [if_neg z,if_neg (show ¬ (gK p).1=QF x from fun y=>z (JB y))]
 ·rw [if_neg h,if_neg h,map_append];rfl
theorem ZhQ (ps:List (Str×V))(x:Str)(v:V):(Wv ps x v).map (·.1)=if x∈ps.map (·.1) then ps.map (·.1) else ps.map (·.1)++[x]:=by
 have e:(ps.any fun p=>decide (p.1=x))=true↔x∈ps.map (·.1):=by
  rw [JW,mem_map]
  exact ⟨fun ⟨p,h,z⟩=>⟨p,h,of_decide_eq_true z⟩,fun ⟨p,h,z⟩=>⟨p,h,decide_eq_true z⟩⟩
 unfold Wv
 by_cases h:(ps.any fun p=>decide (p.1=x))=true
 ·rw [if_pos h,if_pos (e.mp h),map_map]
  apply Px
  intro p _
  show (if p.1=x then (p.1,v) else p).1=p.1
  split<;>rfl
 ·rw [if_neg h,if_neg fun z=>h (e.mpr z),map_append];rfl
theorem Zlj (ps:List (Str×V))(x y:Str)(v:V):lk (Wv ps x v) y=if y=x then some v else lk ps y:=by
 rw [Zmm,<- Zeb,Ug]
 by_cases h:y=x
 ·rw [if_pos h,if_pos (by rw [h])]
 ·rw [if_neg h,if_neg fun z=>h (JB z)];rfl
structure Yr (NS:List Str):Prop where
 few:NS.length < 64
 len:∀ x∈NS,x.length<=1000
 lo:∀ x∈NS,0<=Zw x
 hi:∀ x∈NS,Zw x < 1024
structure LeafG (NS:List Str)(m:Int)(ps:List (Str×V)):Prop where
 ne:ps≠[]
 nd:(ps.map (·.1)).Nodup
 sub:∀ p∈ps,p.1∈NS
 mrk:∀ p∈ps,Zw p.1=m
def Xr (x:Str):Nat:=(Zw x).toNat
def TriE (NS:List Str)(nds:List Nd)(F:Str->Option V)(lev r num:Nat):Prop :=
 (num=0/\nds[num]?=some .bare/\∀ x∈NS,Xr x % 4 ^ lev=r->F x=none) \/
 ∃ m ps,nds[num]?=some (.leaf m ps)/\LeafG NS m ps/\m.toNat % 4 ^ lev=r/\∀ x∈NS,Xr x % 4 ^ lev=r->F x=lk ps x
def Tri (NS:List Str)(nds:List Nd)(F:Str->Option V):Nat->Nat->Nat->Nat->Prop
 | 0,lev,r,num=>TriE NS nds F lev r num
 | d+1,lev,r,num=>TriE NS nds F lev r num\/∃ qs,nds[num]?=some (.fork qs)/\qs.length=4/\∀ i q,qs[i]?=some q->Tri NS nds F d (lev+1) (r+i * 4 ^ lev) q
def NEx (nds nds':List Nd):Prop:=∀(i:Nat)(n:Nd),nds[i]?=some n->nds'[i]?=some n
theorem NEx.refl (nds:List Nd):NEx nds nds:=fun _ _ h=>h
theorem NEx.trans (h:NEx a b)(h':NEx b c):NEx a c:=fun i n e=>h' i n (h i n e)
theorem NEx.app (nds:List Nd)(n:Nd):NEx nds (nds++[n]):=fun i m e=>by rw [getElem?_append_left (Qi.mp e).1];exact e
section
variable {NS:List Str}{nds nds':List Nd}{F F':Str->Option V}
theorem TriE.mono {G r B:Nat}(h:TriE NS nds F G r B)(e:NEx nds nds'):TriE NS nds' F G r B:=by
 rcases h with ⟨h1,h2,I⟩ | ⟨m,ps,h1,h2⟩
 ·exact .inl ⟨h1,e _ _ h2,I⟩
 ·exact .inr ⟨m,ps,e _ _ h1,h2⟩
theorem Tri.mono:∀(d:Nat){G r B:Nat},Tri NS nds F d G r B->NEx nds nds'->Tri NS nds' F d G r B
 | 0,_,_,_,h,e=>TriE.mono h e
 | d+1,_,_,_,.inl h,e=>.inl (TriE.mono h e)
 | d+1,_,_,_,.inr ⟨qs,h1,h2,h3⟩,e=>.inr ⟨qs,e _ _ h1,h2,fun i q I=>Tri.mono d (h3 i q I) e⟩
theorem TriE.congr {B r J:Nat}(h:TriE NS nds F B r J)(e:∀ x∈NS,Xr x % 4 ^ B=r->F' x=F x):TriE NS nds F' B r J:=by
 rcases h with ⟨h1,h2,S⟩ | ⟨m,ps,h1,h2,S,U⟩
 ·exact .inl ⟨h1,h2,fun x G I=>by rw [e x G I];exact S x G I⟩
 ·exact .inr ⟨m,ps,h1,h2,S,fun x G I=>by rw [e x G I];exact U x G I⟩
theorem WS (n B:Nat):n % 4 ^ (B+1)=n % 4 ^ B+(n / 4 ^ B % 4) * 4 ^ B:=by
 rw [Nat.pow_succ,Nat.mod_mul,Nat.mul_comm (4 ^ B)]
theorem Ww {n B r i:Nat}(G:r < 4 ^ B)(h:n % 4 ^ (B+1)=r+i * 4 ^ B):n % 4 ^ B=r/\n / 4 ^ B % 4=i:=by
 rw [WS] at h
 have hp:0 < 4 ^ B:=Nat.pow_pos (by decide)
 have h1:=Nat.mod_lt n hp
 have e1:n % 4 ^ B=r:=by
  have z:=congrArg (· % 4 ^ B) h
  simp only [Nat.add_mul_mod_self_right] at z
  rwa [Nat.mod_mod,OE G] at z
 refine ⟨e1,?_⟩
 rw [e1] at h
 exact Nat.eq_of_mul_eq_mul_right hp (Nat.add_left_cancel h)
theorem UE {B r i:Nat}(G:r < 4 ^ B)(hi:i < 4):r+i * 4 ^ B < 4 ^ (B+1):=by
 rw [Nat.pow_succ]
 have:i * 4 ^ B<=3 * 4 ^ B:=Pg _ (by omega)
 omega
theorem Tri.congr:∀(d:Nat){B r G:Nat},r < 4 ^ B->Tri NS nds F d B r G->(∀ x∈NS,Xr x % 4 ^ B=r->F' x=F x)->Tri NS nds F' d B r G
 | 0,_,_,_,_,h,e=>TriE.congr h e
 | d+1,_,_,_,_,.inl h,e=>.inl (TriE.congr h e)
 | d+1,_,_,_,hr,.inr ⟨qs,h1,h2,h3⟩,e=>.inr ⟨qs,h1,h2,fun i q I=>Tri.congr d (UE hr (by rw [<- h2];exact (Qi.mp I).1)) (h3 i q I) fun x J S=>e x J (Ww hr S).1⟩
theorem Xy {n:Int}(h:0<=n)(B:Nat):ZV n B=n.toNat / 4 ^ B % 4:=by
 obtain ⟨k,rfl⟩:=Int.eq_ofNat_of_zero_le h
 unfold ZV
 have:((k:Int) / 4 ^ B % 4)=((k / 4 ^ B % 4:Nat):Int):=by norm_cast
 rw [this]
 rfl
theorem ZlA (N:Yr NS):∀(d:Nat){B r G:Nat}{x:Str},r < 4 ^ B->Tri NS nds F d B r G->x∈NS->Xr x % 4 ^ B=r ->
 ∃ U e n,Xh nds (Zw x) (d+1) B G=some (U++[e])/\nds[e]?=some n/\((e=0/\n=.bare/\F x=none)\/∃ m ps,n=.leaf m ps/\LeafG NS m ps/\F x=lk ps x):=by
 have J:∀ {B r G:Nat} {x:Str} (d:Nat),TriE NS nds F B r G->x∈NS->Xr x % 4 ^ B=r->∃ U e n,Xh nds (Zw x) (d+1) B G=some (U++[e])/\nds[e]?=some n/\((e=0/\n=.bare/\F x=none)\/∃ m ps,n=.leaf m ps/\LeafG NS m ps/\F x=lk ps x):=by
  intro B r G x d h I S
  rcases h with ⟨h1,h2,W⟩ | ⟨m,ps,h1,h2,W,h4⟩
  ·exact ⟨[],G,.bare,by unfold Xh;rw [h2];rfl,h2,.inl ⟨h1,rfl,W x I S⟩⟩
  ·exact ⟨[],G,.leaf m ps,by unfold Xh;rw [h1];rfl,h1,.inr ⟨m,ps,rfl,h2,h4 x I S⟩⟩
 intro d
 induction d with
 | zero=>exact fun _ h I S=>J 0 h I S
 | succ d ih =>
  intro B r G x Z h I S
  rcases h with h | ⟨qs,h1,h2,W⟩
  ·exact J _ h I S
  ·have hi:ZV (Zw x) B < qs.length:=by rw [h2];exact WZ _ _
   have hq:=getElem?_eq_getElem hi
   obtain ⟨U,e,n,e1,e2,e3⟩:=ih (UE Z (WZ _ _)) (W _ _ hq) I (by rw [WS,S,Xy (N.lo x I)];rfl)
   refine ⟨G::U,e,n,?_,e2,e3⟩
   unfold Xh
   rw [h1]
   show ((qs[ZV (Zw x) B]?).bind fun q=>(Xh nds (Zw x) (d+1) (B+1) q).map (G::·))=_
   rw [hq]
   show (Xh nds (Zw x) (d+1) (B+1) _).map (G::·)=_
   rw [e1]
   rfl
end
theorem ZkG:∀{l N:List Str},l.Nodup->(∀ x∈l,x∈N)->l.length<=N.length:=by
 intro l
 induction l with
 | nil=>intro N _ _;exact QH _
 | cons a l ih =>
  intro N B J
  rw [nodup_cons] at B
  have I:a∈N:=J a mem_cons_self
  have:=ih (N:=N.erase a) B.2 fun x G=>(List.mem_erase_of_ne (show x≠a from fun z=>B.1 (by rw [<- z];exact G))).mpr (J x (mem_cons_of_mem _ G))
  rw [List.length_erase_of_mem I] at this
  have h1:0 < N.length:=List.length_pos_of_mem I
  rw [length_cons];omega
section
variable {NS:List Str}{nds nds':List Nd}{F F':Str->Option V}
theorem LeafG.few {m:Int}(G:LeafG NS m ps):ps.length<=NS.length:=by
 have:=ZkG G.nd (N:=NS) fun x B=>by obtain ⟨p,hp,rfl⟩:=mem_map.mp B;exact G.sub p hp
 rwa [length_map] at this
theorem LeafG.perm {m:Int}(G:LeafG NS m ps)(h:qs.Perm ps):LeafG NS m qs :=
 ⟨fun z=>G.ne (by rw [z] at h;exact (OD h).symm),(h.map (·.1)).nodup_iff.mpr G.nd,fun p hp=>G.sub p (h.mem_iff.mp hp),fun p hp=>G.mrk p (h.mem_iff.mp hp)⟩
theorem LeafG.ok {m:Int}(N:Yr NS)(G:LeafG NS m ps):Zds (.leaf m ps):=by
 cases ps with
 | nil=>exact absurd rfl G.ne
 | cons p pr =>
  have h1:=G.mrk p mem_cons_self
  have h2:=G.sub p mem_cons_self
  exact ⟨p,pr,rfl,h1,N.len _ h2,by rw [<- h1];exact N.lo _ h2⟩
theorem ZjC (v:V)(S:x∈NS)(I:(ps.map (·.1)).Nodup)(W:∀ p∈ps,p.1∈NS)(U:∀ p∈ps,Zw p.1=Zw x):LeafG NS (Zw x) (Wv ps x v):=by
 have G:=ZhQ ps x v
 have B:∀ p∈Wv ps x v,p.1∈ps.map (·.1)\/p.1=x:=fun p hp=>by
  have h1:p.1∈(Wv ps x v).map (·.1):=Rl hp
  rw [G] at h1
  by_cases h:x∈ps.map (·.1)
  ·rw [if_pos h] at h1;exact .inl h1
  ·rw [if_neg h] at h1
   rcases mem_append.mp h1 with z | z
   ·exact .inl z
   ·exact .inr (mem_singleton.mp z)
 refine ⟨fun z=>?_,?_,fun p hp=>?_,fun p hp=>?_⟩
 ·rw [z] at G
  by_cases h:x∈ps.map (·.1)
  ·rw [if_pos h] at G;rw [<- G] at h;cases h
  ·rw [if_neg h] at G;simp at G
 ·rw [G]
  by_cases h:x∈ps.map (·.1)
  ·rw [if_pos h];exact I
  ·rw [if_neg h,On]
   exact ⟨I,by simp,fun a Z b hb e=>h (by rw [mem_singleton.mp hb] at e;rw [<- e];exact Z)⟩
 ·rcases B p hp with z | z
  ·obtain ⟨q,J,e⟩:=mem_map.mp z
   rw [<- e];exact W q J
  ·rw [z];exact S
 ·rcases B p hp with z | z
  ·obtain ⟨q,J,e⟩:=mem_map.mp z
   rw [<- e];exact U q J
  ·rw [z]
def upF (F:Str->Option V)(x:Str)(v:V):Str->Option V:=fun y=>if y=x then some v else F y
theorem ZjO {d B r:Nat}{m:Int}{ps qs:List (Str×V)}{I:Nat}(N:Yr NS)(hx:x∈NS)(S:Xr x % 4 ^ B=r)(hn:nds[I]?=some (.leaf m qs))(W:m=Zw x)(G:LeafG NS (Zw x) (Wv ps x v))(hp:qs.Perm (Wv ps x v))(U:∀ y∈NS,Xr y % 4 ^ B=r->F y=lk ps y):Tri NS nds (upF F x v) d B r I:=by
 subst W
 have h:TriE NS nds (upF F x v) B r I:=by
  refine .inr ⟨Zw x,qs,hn,G.perm hp,S,fun y Z J=>?_⟩
  rw [Zfa hp G.nd,Zlj]
  unfold upF
  by_cases h:y=x
  ·rw [if_pos h,if_pos h]
  ·rw [if_neg h,if_neg h];exact U y Z J
 cases d with
 | zero=>exact h
 | succ d=>exact .inl h
theorem ZiN {d B r I:Nat}(N:Yr NS)(h0:nds[0]?=some .bare)(hr:r < 4 ^ B)(h:Tri NS nds F (d+1) B r I)(W:nds[I]?=some n)(Z:n≠.bare):
 (Xe I B n).length=4/\∀ (i q:Nat),(Xe I B n)[i]?=some q->Tri NS nds F d (B+1) (r+i * 4 ^ B) q:=by
 have wrapE:∀ {r' q:Nat},TriE NS nds F (B+1) r' q->Tri NS nds F d (B+1) r' q:=fun g=>by
  cases d with
  | zero=>exact g
  | succ d=>exact .inl g
 rcases h with h | ⟨qs,h1,h2,h3⟩
 ·rcases h with ⟨_,e,_⟩ | ⟨m,ps,e,G,hm,hF⟩
  ·rw [W] at e;cases e;exact absurd rfl Z
  ·rw [W] at e;cases e
   obtain ⟨p1,pr,e1,e2,e3,e4⟩:=G.ok N
   refine ⟨rfl,fun i q U=>?_⟩
   have hi:i < 4:=(Qi.mp U).1
   have S:(if i=ZV m B then I else 0)=q:=by
    rcases i with _ | _ | _ | _ | i
    ·exact QG U
    ·exact QG U
    ·exact QG U
    ·exact QG U
    ·omega
   have hmm:m.toNat % 4 ^ (B+1)=r+ZV m B * 4 ^ B:=by rw [WS,hm,Xy e4]
   by_cases z:i=ZV m B
   ·rw [if_pos z] at S
    subst S
    exact wrapE (.inr ⟨m,ps,W,G,by rw [hmm,z],fun y hy J=>hF y hy (Ww hr J).1⟩)
   ·rw [if_neg z] at S
    subst S
    refine wrapE (.inl ⟨rfl,h0,fun y hy J=>?_⟩)
    rw [hF y hy (Ww hr J).1]
    refine ZeZ fun p hp e=>z ?_
    have:=(Ww hr J).2
    rw [<- this,<- e]
    unfold Xr
    rw [G.mrk p hp,Xy e4]
 ·rw [W] at h1;cases h1
  exact ⟨h2,h3⟩
theorem ZiU {r B:Nat}(N:Yr NS)(h:Tri NS nds F 0 5 r B)(U:nds[B]?=some n)(I:n≠.bare)(J:x∈NS)(S:Xr x % 4 ^ 5=r):n.hasM (Zw x)=true:=by
 rcases h with ⟨_,e,_⟩ | ⟨m,ps,e,G,Z,hF⟩
 ·rw [U] at e;cases e;exact absurd rfl I
 ·rw [U] at e;cases e
  refine decide_eq_true ?_
  obtain ⟨p1,pr,e1,W,e3,e4⟩:=G.ok N
  have h1:Zw p1.1 < 1024:=N.hi _ (G.sub p1 (by rw [e1];exact mem_cons_self))
  have h2:=N.hi x J
  have h3:=N.lo x J
  rw [W] at h1
  unfold Xr at S
  have h4:m.toNat % 1024=r:=Z
  have h5:(Zw x).toNat % 1024=r:=S
  rw [OE (by omega)] at h4 h5
  omega
theorem ZiM {d B r I num':Nat}{qs:List Nat}{x:Str}{v:V}(N:Yr NS)(U:r < 4 ^ B)(W:x∈NS)(hxr:Xr x % 4 ^ B=r)(S:qs.length=4)(hq:∀(i q:Nat),qs[i]?=some q->Tri NS nds F d (B+1) (r+i * 4 ^ B) q)
 (e:NEx nds nds') (hn:Tri NS nds' F' d (B+1) (r+ZV (Zw x) B * 4 ^ B) num') (Z:∀ y,y≠x->F' y=F y) (h:nds'[I]?=some (.fork (qs.set (ZV (Zw x) B) num'))):Tri NS nds' F' (d+1) B r I:=by
 refine .inr ⟨_,h,by rw [length_set,S],fun i q hi=>?_⟩
 have G:i < 4:=by rw [<- S];have:=(Qi.mp hi).1;rwa [length_set] at this
 rw [JO] at hi
 by_cases z:ZV (Zw x) B=i
 ·rw [if_pos z,if_pos (by rw [S,z];exact G)] at hi
  cases hi
  rw [<- z]
  exact hn
 ·rw [if_neg z] at hi
  refine Tri.congr d (UE U G) (Tri.mono d (hq i q hi) e) fun y hy J=>Z y fun w=>z ?_
  rw [w] at J
  rw [Xy (N.lo x W)]
  exact (Ww U J).2
end
section
variable {P:Qk}{w:Qt}{K:Qa}{mg:Str->Option Qb}{base:Heap}{C Pl:Addr}{NS:List Str}
def VL (K:Qa)(C Pl:Addr)(NS:List Str):Nat->Sp
 | 0=>fun _ _ _ _=>False
 | d+1=>fun vs H Q _=>∃ (st ln dt:Addr) (nds:List Nd) (tabs:List (Zo×V)) (num lev r:Nat) (x:Str) (v:V) (F:Str->Option V),vs=[.ref st,iN num,iN lev,.str x,v]/\StoreAt K C st ln dt H nds tabs/\nds[0]?=some .bare/\Tri NS nds F d lev r num/\r < 4 ^ lev/\lev+d=5/\x∈NS/\Xr x % 4 ^ lev=r/\nds.length+d+1<=100000/\LamAt H Pl YR We /\
  ∀ (H':Hp) (nds':List Nd) (num':Nat),StoreAt K C st ln dt H' nds' tabs->NEx nds nds'->nds'.length<=nds.length+d+1->Tri NS nds' (upF F x v) d lev r num'->LamAt H' Pl YR We->Kq [ln,Pl] H H'->TF H H'->Q (iN num') H'
abbrev nPi:List Str:=["self","number","level","name","value"]
theorem scPI:Zp ["self","number","level","name","value","node","pairs","parts","figure"] nPi (Zj c_Store_put_in):={}
theorem ZaN :∀{d G r B:Nat},Tri NS nds F d G r B->∃ n,nds[B]?=some n/\(n=.bare->B=0):=by
 have e:∀ {G r B:Nat},TriE NS nds F G r B->∃ n,nds[B]?=some n/\(n=.bare->B=0):=fun h=>by
  rcases h with ⟨h1,h2,_⟩ | ⟨m,ps,h1,_⟩
  ·exact ⟨_,h2,fun _=>h1⟩
  ·exact ⟨_,h1,fun z=>by cases z⟩
 intro d G r B h
 cases d with
 | zero=>exact e h
 | succ d =>
  rcases h with h | ⟨qs,h1,_⟩
  ·exact e h
  ·exact ⟨_,h1,fun z=>by cases z⟩
theorem ZjB {d I r B:Nat}(S:nds[0]?=some .bare)(h:Tri NS nds F d I r B)(J:nds[B]?=some n)(U:B=0\/n.hasM (Zw x)=true):
 (n.pairs.map (·.1)).Nodup/\(∀ p∈n.pairs,p.1∈NS)/\(∀ p∈n.pairs,Zw p.1=Zw x)/\(∀ y∈NS,Xr y % 4 ^ I=r->F y=lk n.pairs y)/\n.pairs.length<=NS.length:=by
 have e:TriE NS nds F I r B->(n.pairs.map (·.1)).Nodup/\(∀ p∈n.pairs,p.1∈NS)/\(∀ p∈n.pairs,Zw p.1=Zw x)/\(∀ y∈NS,Xr y % 4 ^ I=r->F y=lk n.pairs y)/\n.pairs.length<=NS.length:=fun g=>by
  rcases g with ⟨h1,h2,W⟩ | ⟨m,ps,h1,G,hm,Z⟩
  ·rw [J] at h2;cases h2
   exact ⟨SY,fun p hp=>(by cases hp),fun p hp=>(by cases hp),W,QH _⟩
  ·rw [J] at h1;cases h1
   rcases U with z | z
   ·rw [z,S] at J;cases J
   ·have z':m=Zw x:=of_decide_eq_true z
    exact ⟨G.nd,G.sub,fun p hp=>by rw [G.mrk p hp,z'],Z,G.few⟩
 cases d with
 | zero=>exact e h
 | succ d =>
  rcases h with h | ⟨qs,h1,_⟩
  ·exact e h
  ·rw [J] at h1;cases h1
   rcases U with z | z
   ·rw [z,S] at J;cases J
   ·cases z
theorem ZkT {d k:Nat}(N:Yr NS)(hk:2<=k)(F:Fun K "put_in" "Store.put_in" c_Store_put_in f fd)(T:Txt K mg)(TC:Xm K C)(DH:Def P w K mg base 1 "has_mark" ["node","number"] (UG K))(DR:Def P w K mg base 1 "pairs_in" ["node"] (XV K))(DM:Def P w K mg base 1 "mark" ["name"] Wg)(DG:Def P w K mg base 1 "digit" ["number","level"] XU)(DL:Def P w K mg base 2 "leaf_of" ["pairs"] (UI K Pl YR))(DO:Def P w K mg base 1 "fork_of" ["parts"] (WA K))(DK:DefM P w K mg base 1 C "keep" ["self","node"] (UH K C))(DF:DefM P w K mg base 2 C "fork_parts" ["self","number","level"] (Zgw K C))(DI:DefM P w K mg base k C "put_in" nPi (VL K C Pl NS d)):FnOk P w K mg base ZI (k+1) f fd nPi (VL K C Pl NS (d+1)):=by
 refine F.ok scPI (fun cdv A outer s H vs Q E hr h=>?_)
 obtain ⟨st,ln,dt,nds,tabs,I,B,r,x,v,Fm,rfl,S,h0,W,hrl,hlev,hx,hxr,hlen,hL,q⟩:=h
 obtain ⟨tz,hz⟩:=T.zero
 have hr1:=hr.mono (show 1<=k by omega)
 have hr2:=hr.mono hk
 refine' ⟨?t,?h,?r⟩
 case h =>
  conv=>arg 2;whnf
  with_reducible refine' Zd ?a1 (Zd (Ye ?a2 (Zd ?c1 (Zd ?c2 (Zi ?c3))) ZR) (Zd ?a3 (Zd ?a4 (Zd ?a5 (Zi ?a6)))))
  case a1=>exact Zx (i:=5) scPI.nd rfl (QJ rfl) (ZA ZG (ZB (pv 0) rfl) (pv 1) (fun _ _=>rfl))
  case a2=>exact PW.pt (Zgn (ZX YW (pv 1) (ZN rfl hz (v:=.int 0) ⟨_,rfl⟩) (ZU _)) (Zed (VH (ZJ DH hr1 (Zc (pv 5) (Zc (ZJ DM hr1 (Zc (pv 3) Za)) Za))))))
  case c1=>exact Zx (i:=6) scPI.nd rfl (QJ rfl) (Yy (Uj rfl) rfl T.dict (by decide +kernel) (Zc (ZJ DR hr1 (Zc (pv 5) Za)) Za))
  case c2=>exact ZbV (UV hr) (pv 6) (pv 3) (pv 4) rfl
  case c3=>exact Zu (Yc DK TC.cl hr1 (pv 0) (Zc (ZJ DL hr2 (Zc (Yy (ZaU rfl) rfl T.list (by decide +kernel) (Zc (ZmI Tx TN PySem.F.type_dict_items ZiX (pv 6)) Za)) Za)) Za))
  case a3=>exact Zx (i:=7) scPI.nd rfl (QJ rfl) (Yc DF TC.cl hr2 (pv 0) (Zc (pv 1) (Zc (pv 2) Za)))
  case a4=>exact Zx (i:=8) scPI.nd rfl (QJ rfl) (ZJ DG hr1 (Zc (ZJ DM hr1 (Zc (pv 3) Za)) (Zc (pv 2) Za)))
  case a5=>exact XJ (Yc DI TC.cl hr (pv 0) (Zc (ZA ZG (pv 7) (pv 8) (fun _ _=>rfl)) (Zc (Zv Yx (pv 2) Zg) (Zc (pv 3) (Zc (pv 4) Za))))) (UB (pv 7) (pv 8) Wx)
  case a6=>exact Zu (Yc DK TC.cl hr1 (pv 0) (Zc (ZJ DO hr1 (Zc (pv 7) Za)) Za))
 try dsimp only [ZQ,Cx.nox]
 refine zs6 ?_
 intro zD zS zN5 zN4 zN3 zN2 zN1
 obtain ⟨n,hn,hbare⟩:=ZaN W
 obtain ⟨as,a,nl,ha,hna⟩:=S.node hn
 obtain ⟨dx,ob⟩:=S.ob
 obtain ⟨tb,htb⟩:=hL.tbl
 have hst:st ∉ [Pl]:=fun z=>by rw [mem_singleton.mp z,htb] at ob;cases ob
 have hln:ln ∉ [Pl]:=fun z=>by rw [mem_singleton.mp z,htb] at nl;cases nl
 have hdt:dt ∉ [Pl]:=fun z=>by have e:=S.tb;rw [mem_singleton.mp z,htb] at e;cases e
 refine ⟨_,rfl,st,C,dx,_,_,rfl,ob,TC.cl,TC.nN,XH ln dt,_,rfl,ln,_,_,_,rfl,rfl,SqL.of nl,ZK (by rw [getElem?_map,ha];rfl),?_⟩
 refine ⟨_,rfl,rfl,_,rfl,?_⟩
 have ed:decide (iN I=V.int 0)=decide (I=0):=by
  by_cases z:I=0
  ·rw [decide_eq_true z,z];exact decide_eq_true rfl
  ·rw [decide_eq_false z]
   exact decide_eq_false fun y=>z (by have:=V.int.inj y;omega)
 rw [ed]
 rcases Classical.em (I=0\/n.hasM (Zw x)=true) with hc | hc
 ·obtain ⟨hnd,hsub,hmrk,hF,hfew⟩:=ZjB h0 W hn hc
  by_cases z0:I=0
  rw [decide_eq_true z0]
  have s1:Same H H:=Same.refl H
  refine Yw (Yw ?_)
  rotate_left
  rw [decide_eq_false z0]
  refine Ya ⟨_,rfl,_,rfl,x,rfl,N.len x hx,fun H1 s1=>⟨a,n,Zw x,rfl,hna.tf s1.tf,_,rfl,?_⟩⟩
  rw [hc.resolve_left z0]
  refine Yw ?_
  all_goals
   have S1:=S.keep s1
   refine ⟨_,rfl,a,n,rfl,hna.tf s1.tf,fun pt H2 s2 hpt=>?_⟩
   obtain ⟨o,ts,ept,hod,hlts,hp⟩:=hpt
   have hfw:=N.few
   refine ⟨pt,ts,n.pairs,rfl,⟨o,ept,hod⟩,hlts,by omega,hp,hnd,fun dd hd=>?_⟩
   have hd0:H dd=none:=by
    cases e:H dd with
    | none=>rfl
    | some o=>rw [s2 _ _ (s1 _ _ e)] at hd;cases hd
   have s3:=Zm hd (.dK (n.pairs.map fun p=>((QF p.1:Zo),p.2)))
   refine ⟨_,rfl,_,rfl,_,rfl,dd,_,rfl,DPut.k (k:=QF x) Ze (by rw [length_map];exact QN (show n.pairs.length<=64 by omega) (by decide)),?_⟩
   have s4:Same H (upd (upd H2 dd (.dK (n.pairs.map fun p=>((QF p.1:Zo),p.2)))) dd (.dK (Yz (n.pairs.map fun p=>((QF p.1:Zo),p.2)) (QF x) v))):=fun b o e=>by
    rw [Zh (Zq e hd0),Zh (Zq e hd0)];exact s2 _ _ (s1 _ _ e)
   have ed4:upd (upd H2 dd (.dK (n.pairs.map fun p=>((QF p.1:Zo),p.2)))) dd (.dK (Yz (n.pairs.map fun p=>((QF p.1:Zo),p.2)) (QF x) v)) dd=some (.dK ((Wv n.pairs x v).map gK)):=by
    rw [Ze,<- Zeb];rfl
   generalize upd (upd H2 dd (.dK (n.pairs.map fun p=>((QF p.1:Zo),p.2)))) dd (.dK (Yz (n.pairs.map fun p=>((QF p.1:Zo),p.2)) (QF x) v))=H4 at *
   have S4:=S.keep s4
   obtain ⟨dx4,ob4⟩:=S4.ob
   refine ⟨_,rfl,st,dx4,_,rfl,ob4,ZS ln dt (by decide +kernel) (by decide +kernel),_,rfl,.inr (.inr (.inl ⟨rfl,.inl ⟨_,ed4⟩⟩)),dd,_,rfl,rfl,ed4,fun vv hvv=>?_⟩
   have s5:=Zm hvv (.ext (ZaR vv dd))
   refine ⟨vv,dd,_,rfl,Ze,s5 _ _ ed4,fun l ts2 H5 hl5 s5b hlt2 hnone htup hlst=>?_⟩
   have s6:Same H H5:=(s4.trans s5).trans s5b
   have G:=ZjC (NS:=NS) v hx hnd hsub hmrk
   have hPT:PairT H5 ts2 (Wv n.pairs x v):=by
    refine ⟨by rw [hlt2,length_map],fun i b p e1 e2=>?_⟩
    exact htup i b (gK p) e1 (by rw [getElem?_map,e2];rfl)
   have hL5:=LamAt.same hL s6
   refine ⟨l,ts2,Wv n.pairs x v,rfl,hlst,hPT,G.ne,by have:=G.few;omega,fun p hp=>N.len _ (G.sub p hp),hL5,fun a6 H6 p1 pr g6 L6 perm6 sort6 node6=>?_⟩
   have tb5:H5 Pl=some (.tbl tb):=s6 _ _ htb
   have tf6:TF H5 H6:=g6.tf tb5
   have S6:=(S.keep s6).kq g6.kq tf6 hst hln hdt
   refine ⟨st,ln,dt,a6,nds,tabs,_,rfl,S6,node6,by omega,fun H7 S7 k7 tf7=>?_⟩
   have nl6:∃ xs,H6 ln=some (.lst xs):=by obtain ⟨as6,e6,_⟩:=S6.nl;exact ⟨_,e6⟩
   have hmk:Zw p1.1=Zw x:=(G.perm perm6).mrk p1 mem_cons_self
   refine q H7 _ nds.length S7 (NEx.app nds _) (by rw [length_append];show nds.length+1<=_;omega) ?_ (L6.kq k7 fun b hb=>by rw [mem_singleton.mp hb];exact nl6) ?_ ((s6.tf.trans tf6).trans tf7)
   ·exact ZjO (ps:=n.pairs) N hx hxr (by rw [getElem?_append_right (Qh _),Jq];rfl) hmk G perm6 hF
   ·exact (Same.kq s6).trans ((g6.kq.sub fun b hb=>by simp at hb ⊢;exact .inr hb).trans (k7.sub fun b hb=>by simp at hb ⊢;exact .inl hb))
 ·have z0:I≠0:=fun z=>hc (.inl z)
  have zm:n.hasM (Zw x)=false:=by
   cases e:n.hasM (Zw x) with
   | false=>rfl
   | true=>exact absurd (.inr e) hc
  have hnb:n≠.bare:=fun z=>z0 (hbare z)
  rw [decide_eq_false z0]
  refine Ya ⟨_,rfl,_,rfl,x,rfl,N.len x hx,fun H1 s1=>⟨a,n,Zw x,rfl,hna.tf s1.tf,_,rfl,?_⟩⟩
  rw [zm]
  refine Ya ?_
  cases d with
  | zero =>
   have h5:B=5:=by omega
   subst h5
   exact absurd (.inr (ZiU N W hn hnb hx hxr)) hc
  | succ d =>
   obtain ⟨hf4,hft⟩:=ZiN N h0 hrl W hn hnb
   have hok:Zds n:=by
    rcases W with W | ⟨qs,h1,_⟩
    ·rcases W with ⟨z,_⟩ | ⟨m,ps,h1,G,_⟩
     ·exact absurd z z0
     ·rw [hn] at h1;cases h1;exact G.ok N
    ·rw [hn] at h1;cases h1;exact trivial
   have S1:=S.keep s1
   obtain ⟨dx1,ob1⟩:=S1.ob
   refine ⟨_,rfl,st,dx1,_,rfl,ob1,ZS ln dt (by decide +kernel) (by decide +kernel),_,rfl,_,rfl,st,ln,dt,nds,tabs,I,B,n,rfl,S1,hn,hnb,hok,by omega,fun rl H2 hrl1 s2 el=>?_⟩
   refine ⟨_,rfl,x,rfl,N.len x hx,fun H3 s3=>⟨_,rfl,Zw x,B,rfl,N.lo x hx,by omega,?_⟩⟩
   have s13:Same H H3:=(s1.trans s2).trans s3
   have S3:=S.keep s13
   have J:H rl=none:=by
    cases e:H rl with
    | none=>rfl
    | some o=>rw [s1 _ _ e] at hrl1;cases hrl1
   have el3:=s3 _ _ el
   have hdl:ZV (Zw x) B < (Xe I B n).length:=by rw [hf4];exact WZ _ _
   have hq1:=getElem?_eq_getElem hdl
   generalize (Xe I B n)[ZV (Zw x) B]=q1 at hq1
   have hat:YH ((Xe I B n).map iN) (Zw x / 4 ^ B % 4)=some (iN q1):=by rw [<- Wo];exact ZK (by rw [getElem?_map,hq1];rfl)
   obtain ⟨dx3,ob3⟩:=S3.ob
   refine ⟨_,rfl,st,dx3,_,rfl,ob3,ZS ln dt (by decide +kernel) (by decide +kernel),_,rfl,_,rfl,rl,_,_,_,rfl,rfl,SqL.of el3,hat,_,rfl,_,_,rfl,rfl,_,rfl,_,rfl,?_⟩
   refine ⟨st,ln,dt,nds,tabs,q1,B+1,_,x,v,Fm,rfl,S3,h0,hft _ _ hq1,UE hrl (WZ _ _),by omega,hx,by rw [WS,hxr,Xy (N.lo x hx)];rfl,by omega,LamAt.same hL s13,fun H5 Z U S5 ext5 len5 tri5 L5 kq5 tf5=>?_⟩
   have nrl:rl ∉ [ln,Pl]:=fun z=>by
    rcases mem_cons.mp z with z | z
    ·rw [z,nl] at J;cases J
    ·rw [mem_singleton.mp z,htb] at J;cases J
   have el5:=kq5 _ _ nrl el3
   have hix:XS ((Xe I B n).map iN).length (Zw x / 4 ^ B % 4)=some (ZV (Zw x) B):=by
    rw [<- Wo,length_map]
    unfold XS
    rw [if_pos (by omega),if_pos (by omega)]
    rfl
   refine ⟨_,rfl,_,rfl,rl,_,_,_,rfl,rfl,el5,hix,?_⟩
   have tf6:=Zer (o:=.lst (((Xe I B n).map iN).set (ZV (Zw x) B) (iN U))) el5
   have k6:Kq [rl] H5 (upd H5 rl (.lst (((Xe I B n).map iN).set (ZV (Zw x) B) (iN U)))):=Zbh
   have nst:st ∉ [rl]:=fun z=>by rw [<- mem_singleton.mp z,ob] at J;cases J
   have nln:ln ∉ [rl]:=fun z=>by rw [<- mem_singleton.mp z,nl] at J;cases J
   have ndt:dt ∉ [rl]:=fun z=>by rw [<- mem_singleton.mp z,S.tb] at J;cases J
   have S6:=S5.kq k6 tf6 nst nln ndt
   have el6:upd H5 rl (.lst (((Xe I B n).map iN).set (ZV (Zw x) B) (iN U))) rl=some (.lst (((Xe I B n).set (ZV (Zw x) B) U).map iN)):=by rw [Ze,Sj]
   have L6:=L5.kq k6 fun b hb=>by rw [mem_singleton.mp hb];exact ⟨_,el5⟩
   have kh:Kq [ln,Pl] H (upd H5 rl (.lst (((Xe I B n).map iN).set (ZV (Zw x) B) (iN U)))):=fun b o nb e=>by
    rw [Zh (Zq e J)];exact kq5 _ _ nb (s13 _ _ e)
   generalize upd H5 rl (.lst (((Xe I B n).map iN).set (ZV (Zw x) B) (iN U)))=H6 at *
   obtain ⟨dx6,ob6⟩:=S6.ob
   refine ⟨_,rfl,st,dx6,_,rfl,ob6,ZS ln dt (by decide +kernel) (by decide +kernel),_,rfl,rl,(Xe I B n).set (ZV (Zw x) B) U,rfl,el6,by rw [length_set,hf4],fun a7 H7 s7 node7=>?_⟩
   have S7:=S6.keep s7
   refine ⟨st,ln,dt,a7,Z,tabs,_,rfl,S7,node7,by omega,fun H8 S8 k8 tf8=>?_⟩
   have nl7:∃ xs,H7 ln=some (.lst xs):=by obtain ⟨as7,e7,_⟩:=S7.nl;exact ⟨_,e7⟩
   refine q H8 _ Z.length S8 (ext5.trans (NEx.app Z _)) (by rw [length_append];show Z.length+1<=_;omega) ?_ ((LamAt.same L6 s7).kq k8 fun b hb=>by rw [mem_singleton.mp hb];exact nl7) ?_ ((((s13.tf.trans tf5).trans tf6).trans s7.tf).trans tf8)
   ·refine ZiM (v:=v) (num':=U) (F:=Fm) (qs:=Xe I B n) N hrl hx hxr hf4 hft (ext5.trans (NEx.app Z _)) (Tri.mono d tri5 (NEx.app Z _)) (fun y hy=>if_neg hy) ?_
    rw [getElem?_append_right (Qh _),Jq];rfl
   ·exact (kh.trans (Same.kq s7)).trans (k8.sub fun b hb=>by simp at hb ⊢;exact .inl hb)
end
section
variable {P:Qk}{w:Qt}{K:Qa}{mg:Str->Option Qb}{base:Heap}{C Pl:Addr}{NS:List Str}
theorem Zfi (N:Yr NS)(F:Fun K "put_in" "Store.put_in" c_Store_put_in f fd)(T:Txt K mg)(TC:Xm K C)(B:Def P w K mg base 1 "has_mark" ["node","number"] (UG K))(S:Def P w K mg base 1 "pairs_in" ["node"] (XV K))(U:Def P w K mg base 1 "mark" ["name"] Wg)(J:Def P w K mg base 1 "digit" ["number","level"] XU)(W:Def P w K mg base 2 "leaf_of" ["pairs"] (UI K Pl YR))(Z:Def P w K mg base 1 "fork_of" ["parts"] (WA K))(G:DefM P w K mg base 1 C "keep" ["self","node"] (UH K C))(I:DefM P w K mg base 2 C "fork_parts" ["self","number","level"] (Zgw K C))(b:Binds K fd nPi [])(mt:Vr K C "put_in" f):∀ d,FnOk P w K mg base ZI (2+d) f fd nPi (VL K C Pl NS d)
 | 0=>F.ok scPI (len:=(fun _ _ _ _ h=>h.elim)) (fun _ _ _ _ _ _ _ _ _ h=>h.elim)
 | d+1=>ZkT N (OF 2 d) F T TC B S U J W Z G I ⟨f,fd,Zfi N F T TC B S U J W Z G I b mt d,b,mt⟩
inductive ZbY (vs:List V)(H:Hp)(Q:VK)(w_3:XK):Prop
 | mk (u v:_):vs=[u,v]->scal u v=true->Q (.bl (decide (u=v))) H->ZbY vs H Q w_3
theorem scAl:Zp ["one","other"] ["one","other"] (Zj s_alike):={}
theorem ZiZ (F:Fun K "alike" "alike" s_alike f fd):FnOk P w K mg base ZI 1 f fd ["one","other"] ZbY:=by
 refine F.ok scAl (fun G A outer s H vs Q E I h=>?_)
 obtain ⟨u,v,rfl,B,q⟩:=h
 exact ⟨_,Zi (Zu (WR YW (pv 0) (pv 1) (ZU _))),⟨_,rfl,_,rfl,B,q⟩⟩
def ValV:V->Prop
 | .int _=>True
 | .str _=>True
 | _=>False
theorem ValV.scal (h:ValV v)(G:∀ u,o=some u->ValV u):scal (o.getD .non) v=true:=by
 cases o with
 | none=>cases v<;>first | rfl | exact h.elim
 | some u =>
  have B:=G u rfl
  cases u<;>first | exact B.elim | (cases v<;>first | rfl | exact h.elim)
theorem ValV.ne (h:ValV v):v≠.non:=fun z=>by subst z;exact h
theorem Vi {t:Nat}(N:Yr NS)(h:Tri NS nds F 5 0 0 t)(I:x∈NS):
 ∃ B e n,Xh nds (Zw x) 6 0 t=some (B++[e])/\nds[e]?=some n/\n.pairs.length<=1000/\(n.pairs.map (·.1)).Nodup/\lk n.pairs x=F x:=by
 obtain ⟨B,e,n,e1,J,S⟩:=ZlA N 5 (by decide) h I (by rw [Oq,OV])
 refine ⟨B,e,n,e1,J,?_⟩
 have U:=N.few
 rcases S with ⟨_,rfl,z⟩ | ⟨m,ps,rfl,G,z⟩
 ·exact ⟨QH _,SY,by rw [z];rfl⟩
 ·exact ⟨by have:=G.few;show ps.length<=1000;omega,G.nd,z.symm⟩
inductive Zgy (K:Qa)(C Pl:Addr)(NS:List Str)(vs:List V)(H:Hp)(Q:VK)(w_3:XK):Prop
 | mk (st ln dt:Addr) (nds:List Nd) (tabs:List (Zo×V)) (t:Nat) (x:Str) (v:V) (F:Str->Option V):vs=[.ref st,iN t,.str x,v]->StoreAt K C st ln dt H nds tabs->nds[0]?=some .bare->(ZH tabs (QQ (t:Int))).isSome=true->Tri NS nds F 5 0 0 t->x∈NS->ValV v->(∀ u,F x=some u->ValV u)->nds.length+6<=100000->tabs.length<=100000->LamAt H Pl YR We->(∀ (H':Hp) (nds':List Nd) (tabs':List (Zo×V)) (t':Nat),StoreAt K C st ln dt H' nds' tabs'->NEx nds nds'->nds'.length<=nds.length+6->tabs'.length<=tabs.length+1->(∀ k,(ZH tabs k).isSome=true->(ZH tabs' k).isSome=true)->(ZH tabs' (QQ (t':Int))).isSome=true->Tri NS nds' (upF F x v) 5 0 0 t'->LamAt H' Pl YR We->Kq [ln,dt,Pl] H H'->TF H H'->Q (iN t') H')->Zgy K C Pl NS vs H Q w_3
theorem scPu:Zp ["self","table","name","value"] ["self","table","name","value"] (Zj c_Store_put):={}
theorem ZmA (N:Yr NS)(F:Fun K "put" "Store.put" c_Store_put f fd)(TC:Xm K C)(DA:Def P w K mg base 1 "alike" ["one","other"] ZbY)(DLk:DefM P w K mg base 3 C "looked" ["self","table","name"] (WB K C))(DAs:DefM P w K mg base 1 C "as_table" ["self","number"] (Zde K C))(DI:DefM P w K mg base 8 C "put_in" nPi (VL K C Pl NS 6)):FnOk P w K mg base ZI 9 f fd ["self","table","name","value"] (Zgy K C Pl NS):=by
 refine F.ok scPu (fun cdv A outer s H vs Q E hr h=>?_)
 obtain ⟨st,ln,Z,nds,B,t,x,v,Fm,rfl,S,h0,U,G,hx,hv,hFv,hlen,htl,hL,q⟩:=h
 have hr1:=hr.mono (show 1<=8 by decide)
 have hr3:=hr.mono (show 3<=8 by decide)
 refine' ⟨?t,?h,?r⟩
 case h =>
  conv=>arg 2;whnf
  with_reducible refine' Zd (Ye ?a1 (Zi ?a2) ZR) (Zi ?a3)
  case a1=>exact VH (ZJ DA hr1 (Zc (Yc DLk TC.cl hr3 (pv 0) (Zc (pv 1) (Zc (pv 2) Za))) (Zc (pv 3) Za)))
  case a2=>exact Zu (pv 1)
  case a3=>exact Zu (Yc DAs TC.cl hr1 (pv 0) (Zc (Yc DI TC.cl hr (pv 0) (Zc (pv 1) (Zc Zg (Zc (pv 2) (Zc (pv 3) Za))))) Za))
 try dsimp only [ZQ,Cx.nox]
 refine VP ?_
 intro zD zS zN1
 obtain ⟨dx,ob⟩:=S.ob
 obtain ⟨ws,e,n,e1,e2,e3,e4,e5⟩:=Vi N G hx
 refine ⟨_,rfl,st,dx,_,rfl,ob,ZS ln Z (by decide +kernel) (by decide +kernel),_,rfl,_,rfl,st,ln,Z,nds,B,t,x,6,ws,e,n,rfl,S,U,N.len x hx,N.lo x hx,by decide,e1,e2,e3,e4,fun H1 s1=>?_⟩
 rw [e5]
 refine ⟨_,rfl,_,_,rfl,hv.scal hFv,_,rfl,?_⟩
 have S1:=S.keep s1
 have hL1:=LamAt.same hL s1
 by_cases hc:(Fm x).getD .non=v
 ·rw [decide_eq_true hc]
  refine Yw ⟨_,rfl,q H1 nds B t S1 (NEx.refl _) (by omega) (by omega) (fun _ h=>h) U (Tri.congr 5 (by decide) G fun y _ _=>?_) hL1 (Same.kq s1) s1.tf⟩
  unfold upF
  by_cases z:y=x
  ·rw [if_pos z,z]
   cases eF:Fm x with
   | none=>rw [eF] at hc;exact absurd hc.symm hv.ne
   | some u=>rw [eF] at hc;exact congrArg some hc.symm
  ·rw [if_neg z]
 ·rw [decide_eq_false hc]
  obtain ⟨dx1,ob1⟩:=S1.ob
  refine Ya ⟨_,rfl,st,dx1,_,rfl,ob1,ZS ln Z (by decide +kernel) (by decide +kernel),_,rfl,st,dx1,_,rfl,ob1,ZS ln Z (by decide +kernel) (by decide +kernel),_,rfl,_,rfl,_,rfl,?_⟩
  refine ⟨st,ln,Z,nds,B,t,0,0,x,v,Fm,rfl,S1,h0,G,by decide,rfl,hx,by rw [Oq,OV],hlen,hL1,fun H2 J I S2 ext2 len2 tri2 L2' kq2 tf2=>?_⟩
  refine ⟨st,ln,Z,J,B,I,rfl,S2,by omega,fun H3 S3 k3 tf3=>?_⟩
  obtain ⟨tb,htb⟩:=L2'.tbl
  refine q H3 J _ I S3 ext2 len2 (XI _ _ _) (fun k hk=>?_) (by rw [Ug,if_pos rfl];rfl) tri2 ?_ ?_ ((s1.tf.trans tf2).trans tf3)
  ·rw [Ug]
   by_cases z:k=QQ (I:Int)
   ·rw [if_pos z];rfl
   ·rw [if_neg z];exact hk
  ·have W:∀ b∈[Z],∃ xs,H2 b=some (.dK xs):=fun b hb=>by rw [mem_singleton.mp hb];exact ⟨_,S2.tb⟩
   rcases L2' with h | ⟨c,h,h2⟩
   ·exact .inl (k3 _ _ (fun z=>by obtain ⟨_,e⟩:=W _ z;rw [h] at e;cases e) h)
   ·exact .inr ⟨c,k3 _ _ (fun z=>by obtain ⟨_,e⟩:=W _ z;rw [h] at e;cases e) h,k3 _ _ (fun z=>by obtain ⟨_,e⟩:=W _ z;rw [h2] at e;cases e) h2⟩
  ·exact ((Same.kq s1).trans (kq2.sub fun b hb=>by simp at hb ⊢;rcases hb with z | z;exact .inl z;exact .inr (.inr z))).trans (k3.sub fun b hb=>by simp at hb ⊢;exact .inr (.inl hb))
end
section
variable {NS:List Str}{nds nds':List Nd}{F F':Str->Option V}
def dnF (F:Str->Option V)(x:Str):Str->Option V:=fun y=>if y=x then none else F y
def Wm (ps:List (Str×V))(x:Str):List (Str×V):=ps.filter fun p=>!decide (p.1=x)
theorem ZeN (ps:List (Str×V))(x y:Str):lk (Wm ps x) y=if y=x then none else lk ps y:=by
 induction ps with
 | nil => by_cases h:y=x
          · rw [if_pos h];rfl
          · rw [if_neg h];rfl
 | cons p ps ih =>
   unfold Wm at ih ⊢
   rw [OG]
   by_cases hp:p.1=x
   · rw [decide_eq_true hp]
     show lk (ps.filter fun p=>!decide (p.1=x)) y=_
     rw [ih,Uy]
     by_cases h:y=x
     · rw [if_pos h,if_pos h]
     · rw [if_neg h,if_neg h,if_neg fun z=>h (by rw [<- z,hp])]
   · rw [decide_eq_false hp]
     show lk (p::ps.filter fun p=>!decide (p.1=x)) y=_
     rw [Uy,ih,Uy]
     by_cases h:y=x
     · rw [if_pos h,if_pos h,if_neg fun z=>hp (by rw [z,h])]
     · rw [if_neg h,if_neg h]
theorem LeafG.but {m:Int}(G:LeafG NS m ps)(h:Wm ps x≠[]):LeafG NS m (Wm ps x):=by
 have B:(Wm ps x).Sublist ps:=List.filter_sublist
 exact ⟨h,G.nd.sublist (B.map (·.1)),fun p hp=>G.sub p (B.subset hp),fun p hp=>G.mrk p (B.subset hp)⟩
theorem ZcK {d G r B:Nat}(h:TriE NS nds F G r B):Tri NS nds F d G r B:=by
 cases d with
 | zero=>exact h
 | succ d=>exact .inl h
theorem Zin {d B r I:Nat}(h:Tri NS nds F d B r I)(hn:nds[I]?=some n)(W:x∈NS)(J:Xr x % 4 ^ B=r)(S:F x=some v0):
 (∃ ps,n=.leaf (Zw x) ps/\LeafG NS (Zw x) ps/\∀ y∈NS,Xr y % 4 ^ B=r->F y=lk ps y)\/∃ qs d',d=d'+1/\n=.fork qs/\qs.length=4/\∀ i q,qs[i]?=some q->Tri NS nds F d' (B+1) (r+i * 4 ^ B) q:=by
 have e:TriE NS nds F B r I->∃ ps,n=.leaf (Zw x) ps/\LeafG NS (Zw x) ps/\∀ y∈NS,Xr y % 4 ^ B=r->F y=lk ps y:=fun g=>by
  rcases g with ⟨_,_,U⟩ | ⟨m,ps,h1,G,_,Z⟩
  ·rw [U x W J] at S;cases S
  ·rw [hn] at h1;cases h1
   have hm:Zw x=m:=by
    rw [Z x W J] at S
    exact G.mrk _ ((VA G.nd).mp S)
   subst hm
   exact ⟨ps,rfl,G,Z⟩
 cases d with
 | zero=>exact .inl (e h)
 | succ d =>
  rcases h with h | ⟨qs,h1,h2,U⟩
  ·exact .inl (e h)
  ·rw [hn] at h1;cases h1
   exact .inr ⟨qs,d,rfl,rfl,h2,U⟩
theorem ZjP {B r I:Nat}(d:Nat)(S:Xr x % 4 ^ B=r)(Z:nds[I]?=some (.leaf (Zw x) qs))(G:LeafG NS (Zw x) (Wm ps x))(hp:qs.Perm (Wm ps x))(U:∀ y∈NS,Xr y % 4 ^ B=r->F y=lk ps y):Tri NS nds (dnF F x) d B r I:=by
 refine ZcK (.inr ⟨Zw x,qs,Z,G.perm hp,S,fun y W J=>?_⟩)
 rw [Zfa hp G.nd,ZeN]
 unfold dnF
 by_cases h:y=x
 ·rw [if_pos h,if_pos h]
 ·rw [if_neg h,if_neg h];exact U y W J
theorem ZjN {B r:Nat}(d:Nat)(I:nds[0]?=some .bare)(hb:Wm ps x=[])(J:∀ y∈NS,Xr y % 4 ^ B=r->F y=lk ps y):Tri NS nds (dnF F x) d B r 0:=by
 refine ZcK (.inl ⟨rfl,I,fun y S G=>?_⟩)
 have:=ZeN ps x y
 rw [hb,Zhu] at this
 unfold dnF
 by_cases h:y=x
 ·rw [if_pos h]
 ·rw [if_neg h] at this ⊢;rw [J y S G];exact this.symm
theorem ZhI {d B r num':Nat}{qs:List Nat}{x:Str}(N:Yr NS)(J:r < 4 ^ B)(U:x∈NS)(Z:Xr x % 4 ^ B=r)(S:qs.length=4)(hq:∀(i q:Nat),qs[i]?=some q->Tri NS nds F d (B+1) (r+i * 4 ^ B) q)
 (e:NEx nds nds') (hn:Tri NS nds' F' d (B+1) (r+ZV (Zw x) B * 4 ^ B) num') (W:∀ y,y≠x->F' y=F y) (i q:Nat) (hi:(qs.set (ZV (Zw x) B) num')[i]?=some q):Tri NS nds' F' d (B+1) (r+i * 4 ^ B) q:=by
 have G:i < 4:=by rw [<- S];have:=(Qi.mp hi).1;rwa [length_set] at this
 rw [JO] at hi
 by_cases z:ZV (Zw x) B=i
 ·rw [if_pos z,if_pos (by rw [S,z];exact G)] at hi
  cases hi
  rw [<- z]
  exact hn
 ·rw [if_neg z] at hi
  refine Tri.congr d (UE J G) (Tri.mono d (hq i q hi) e) fun y hy I=>W y fun w=>z ?_
  rw [w] at I
  rw [Xy (N.lo x U)]
  exact (Ww J I).2
theorem Zbb {qs:List Nat}{q:Nat}(h:(qs.filter fun p=>!decide (p=0))=[q]):∃ i:Nat,qs[i]?=some q/\q≠0/\∀(j p:Nat),qs[j]?=some p->j≠i->p=0:=by
 induction qs with
 | nil=>cases h
 | cons a qs ih =>
  rw [OG] at h
  by_cases G:a=0
  ·rw [decide_eq_true G] at h
   obtain ⟨i,h1,h2,J⟩:=ih h
   refine ⟨i+1,h1,h2,fun j p I B=>?_⟩
   cases j with
   | zero=>cases I;exact G
   | succ j=>exact J j p I fun z=>B (by rw [z])
  ·rw [decide_eq_false G] at h
   have h':a::(qs.filter fun p=>!decide (p=0))=[q]:=h
   obtain ⟨e1,S⟩:=List.cons.inj h'
   refine ⟨0,by rw [e1];rfl,by rw [<- e1];exact G,fun j p I B=>?_⟩
   cases j with
   | zero=>exact absurd rfl B
   | succ j =>
    have hp:p∈qs:=mem_of_getElem? I
    by_cases z:p=0
    ·exact z
    ·have:p∈qs.filter fun p=>!decide (p=0):=mem_filter.mpr ⟨hp,by rw [decide_eq_false z];rfl⟩
     rw [S] at this;cases this
theorem Znq {d B r q:Nat}{qs:List Nat}{m:Int}{ps:List (Str×V)}(N:Yr NS)(h0:nds[0]?=some .bare)(hr:r < 4 ^ B)(hl:qs.length=4)(hq:∀(i q:Nat),qs[i]?=some q->Tri NS nds F d (B+1) (r+i * 4 ^ B) q)
 (h1:(qs.filter fun p=>!decide (p=0))=[q]) (hn:nds[q]?=some (.leaf m ps)):Tri NS nds F (d+1) B r q:=by
 obtain ⟨i,hi,hq0,S⟩:=Zbb h1
 have J:TriE NS nds F (B+1) (r+i * 4 ^ B) q:=by
  have:=hq i q hi
  cases d with
  | zero=>exact this
  | succ d =>
   rcases this with h | ⟨Z,h,_⟩
   ·exact h
   ·rw [hn] at h;cases h
 rcases J with ⟨z,_⟩ | ⟨m',ps',e,G,hm,hF⟩
 ·exact absurd z hq0
 ·rw [hn] at e;cases e
  obtain ⟨p1,pr,e1,e2,e3,e4⟩:=G.ok N
  obtain ⟨W,hm2⟩:=Ww hr hm
  refine .inl (.inr ⟨m,ps,hn,G,W,fun y U hry=>?_⟩)
  have hj:ZV (Zw y) B < qs.length:=by rw [hl];exact WZ _ _
  have I:Xr y % 4 ^ (B+1)=r+ZV (Zw y) B * 4 ^ B:=by rw [WS,hry,Xy (N.lo y U)];rfl
  by_cases z:ZV (Zw y) B=i
  ·rw [z] at I;exact hF y U I
  ·have hz:=S _ _ (getElem?_eq_getElem hj) z
   have ht:=hq _ _ (getElem?_eq_getElem hj)
   rw [hz] at ht
   have hE:TriE NS nds F (B+1) (r+ZV (Zw y) B * 4 ^ B) 0:=by
    cases d with
    | zero=>exact ht
    | succ d =>
     rcases ht with h | ⟨Z,h,_⟩
     ·exact h
     ·rw [h0] at h;cases h
   rcases hE with ⟨_,_,h3⟩ | ⟨m',ps',e,_⟩
   ·rw [h3 y U I]
    refine (ZeZ fun p hp e=>z ?_).symm
    rw [Xy (N.lo y U),<- hm2,<- e,G.mrk p hp]
   ·rw [h0] at e;cases e
theorem ZaM {d B r G:Nat}(S:nds[G]?=some (.fork qs))(J:qs.length=4)(I:∀(i q:Nat),qs[i]?=some q->Tri NS nds F d (B+1) (r+i * 4 ^ B) q):Tri NS nds F (d+1) B r G:=.inr ⟨qs,S,J,I⟩
end
theorem ZkF {K:Qa}(B:X.K=K):IxR X (rIxT K):=by subst B;exact YL
section
variable {P:Qk}{w:Qt}{K:Qa}{mg:Str->Option Qb}{base:Heap}{C Pl:Addr}{NS:List Str}
def ZbA (K:Qa)(C Pl:Addr)(NS:List Str):Nat->Sp
 | 0=>fun _ _ _ _=>False
 | d+1=>fun vs H Q _=>∃ (st ln dt:Addr) (nds:List Nd) (tabs:List (Zo×V)) (num lev r:Nat) (x:Str) (v0:V) (F:Str->Option V),vs=[.ref st,iN num,iN lev,.str x]/\StoreAt K C st ln dt H nds tabs/\nds[0]?=some .bare/\Tri NS nds F d lev r num/\r < 4 ^ lev/\lev+d=5/\x∈NS/\Xr x % 4 ^ lev=r/\F x=some v0/\nds.length+d+1<=100000/\LamAt H Pl YR We /\
  ∀ (H':Hp) (nds':List Nd) (num':Nat),StoreAt K C st ln dt H' nds' tabs->NEx nds nds'->nds'.length<=nds.length+d+1->Tri NS nds' (dnF F x) d lev r num'->LamAt H' Pl YR We->Kq [ln,Pl] H H'->TF H H'->Q (iN num') H'
abbrev nTk:List Str:=["self","number","level","name"]
abbrev nTa:List Str:=["self","number","level","name","node","left","parts","figure","filled"]
theorem scTk:Zp nTa nTk (Zj c_Store_taken_from):={}
theorem ZmB {d k:Nat}(N:Yr NS)(hk:2<=k)(F:Fun K "taken_from" "Store.taken_from" c_Store_taken_from f fd)(T:Txt K mg)(TC:Xm K C)(DH:Def P w K mg base 1 "has_mark" ["node","number"] (UG K))(DP:Def P w K mg base 1 "parts_in" ["node"] (WU K))(DR:Def P w K mg base 1 "pairs_in" ["node"] (XV K))(DM:Def P w K mg base 1 "mark" ["name"] Wg)(DG:Def P w K mg base 1 "digit" ["number","level"] XU)(DL:Def P w K mg base 2 "leaf_of" ["pairs"] (UI K Pl YR))(DO:Def P w K mg base 1 "fork_of" ["parts"] (WA K))(DK:DefM P w K mg base 1 C "keep" ["self","node"] (UH K C))(DI:DefM P w K mg base k C "taken_from" nTk (ZbA K C Pl NS d)):FnOk P w K mg base ZI (k+1) f fd nTk (ZbA K C Pl NS (d+1)):=by
 refine F.ok scTk (fun cdv A outer s H vs Q E hr h=>?_)
 obtain ⟨st,ln,dt,nds,tabs,num,J,r,x,v0,Fm,rfl,S,h0,htri,hrl,hlev,hx,hxr,hFx,hlen,hL,q⟩:=h
 obtain ⟨tz,hz⟩:=T.zero
 have hr1:=hr.mono (show 1<=k by omega)
 have hr2:=hr.mono hk
 refine' ⟨?t,?h,?r⟩
 case h =>
  conv=>arg 2;whnf
  with_reducible refine' Zd ?a1 (Zd (Ye ?a2 (Zd ?c1 (Zi ?c2)) ZR) (Zd ?a3 (Zd ?a4 (Zd ?a5 (Zd ?a6 (Zd (Ye ?a7 (Zi ?a8) ZR) (Zi ?a9)))))))
  case a1=>exact Zx (i:=4) scTk.nd rfl (QJ rfl) (ZA ZG (ZB (pv 0) rfl) (pv 1) (fun _ _=>rfl))
  case a2=>exact VH (ZJ DH hr1 (Zc (pv 4) (Zc (ZJ DM hr1 (Zc (pv 3) Za)) Za)))
  case c1=>exact Zat (i:=5) (CompOk.of nTa c_Store_taken_from rfl rfl (by decide +kernel)) rfl scTk.nd rfl (QJ rfl) (ZhN (ZJ DR hr1 (Zc (pv 4) Za))) (fun _ _ _ _ _=>ZX Uk (ZA (ZkF (K:=K) rfl) (pv 9) Zg (fun _ _=>rfl)) (pv 3) (ZU _)) (fun _ _ _ _ _=>pv 9) rfl
  case c2=>exact Zu (Wu (Vg (pv 5) (fun _=>rfl)) (Yc DK TC.cl hr1 (pv 0) (Zc (ZJ DL hr2 (Zc (pv 5) Za)) Za)) (ZN rfl hz (v:=.int 0) ⟨_,rfl⟩))
  case a3=>exact Zx (i:=6) scTk.nd rfl (QJ rfl) (Yy Vu rfl T.list (by decide +kernel) (Zc (ZJ DP hr1 (Zc (pv 4) Za)) Za))
  case a4=>exact Zx (i:=7) scTk.nd rfl (QJ rfl) (ZJ DG hr1 (Zc (ZJ DM hr1 (Zc (pv 3) Za)) (Zc (pv 2) Za)))
  case a5=>exact XJ (Yc DI TC.cl hr (pv 0) (Zc (ZA ZG (pv 6) (pv 7) (fun _ _=>rfl)) (Zc (Zv Yx (pv 2) Zg) (Zc (pv 3) Za)))) (UB (pv 6) (pv 7) Wx)
  case a6=>exact Zat (i:=8) (CompOk.of nTa c_Store_taken_from rfl rfl (by decide +kernel)) rfl scTk.nd rfl (QJ rfl) (ZbR (pv 6)) (fun _ _ _ _ _=>ZX Uk (pv 9) (ZN rfl hz (v:=.int 0) ⟨_,rfl⟩) (ZU _)) (fun _ _ _ _ _=>pv 9) rfl
  case a7=>exact PW.pt (ZmP (ZX YW (Zr ZF rfl T.len QK (Zc (pv 8) Za)) Zg (ZU _)) (Zlk (Vg (ZJ DR hr1 (Zc (ZA ZG (ZB (pv 0) rfl) (ZA ZG (pv 8) Zg (fun _ _=>rfl)) (fun _ _=>rfl)) Za)) (fun _=>rfl))))
  case a8=>exact Zu (ZA ZG (pv 8) Zg (fun _ _=>rfl))
  case a9=>exact Zu (Yc DK TC.cl hr1 (pv 0) (Zc (ZJ DO hr1 (Zc (pv 6) Za)) Za))
 try dsimp only [ZQ,Cx.nox]
 refine zs8 ?_
 intro zD zS zN7 zN6 zN5 zN4 zN3 zN2 zN1
 obtain ⟨n,hn,hbare⟩:=ZaN htri
 obtain ⟨as,a,nl,ha,hna⟩:=S.node hn
 obtain ⟨dx,ob⟩:=S.ob
 obtain ⟨tb,htb⟩:=hL.tbl
 have hst:st ∉ [Pl]:=fun z=>by rw [mem_singleton.mp z,htb] at ob;cases ob
 have hln:ln ∉ [Pl]:=fun z=>by rw [mem_singleton.mp z,htb] at nl;cases nl
 have hdt:dt ∉ [Pl]:=fun z=>by have e:=S.tb;rw [mem_singleton.mp z,htb] at e;cases e
 refine ⟨_,rfl,st,C,dx,_,_,rfl,ob,TC.cl,TC.nN,XH ln dt,_,rfl,ln,_,_,_,rfl,rfl,SqL.of nl,ZK (by rw [getElem?_map,ha];rfl),?_⟩
 refine ⟨_,rfl,_,rfl,x,rfl,N.len x hx,fun H1 s1=>⟨a,n,Zw x,rfl,hna.tf s1.tf,_,rfl,?_⟩⟩
 rcases Zin htri hn hx hxr hFx with ⟨ps,rfl,G,hF⟩ | ⟨qs,d',rfl,rfl,hq4,hqs⟩
 ·rw [show (Nd.leaf (Zw x) ps).hasM (Zw x)=true from decide_eq_true rfl]
  refine Yw ?_
  refine ⟨_,rfl,a,_,rfl,hna.tf s1.tf,fun pt H2 s2 hpt=>?_⟩
  obtain ⟨o,ts,ept,hod,hlts,hp⟩:=hpt
  have hlts':ts.length=ps.length:=hlts
  have s12:=s1.trans s2
  have hfw:=N.few
  have hgf:=G.few
  refine ⟨pt,rfl,⟨_,.inl (.inr ⟨o,ept⟩)⟩,fun D hD=>?_⟩
  have hD0:H D=none:=by
   cases e:H D with
   | none=>rfl
   | some o=>rw [s12 _ _ e] at hD;cases hD
  have hzl:(ts.zip ps).length=ts.length:=by rw [Ss,hlts',Ol]
  have hzs:(ts.zip ps).map (·.2)=ps:=List.map_snd_zip (by omega)
  refine ZgX (K:=K) (a:=pt) (xs:=ts.map V.ref) (by rw [length_map];exact Qq (show ts.length<=64 by omega) (by decide))
   (fun i ys H'=>ys=(((ts.zip ps).take i).filter fun z=>!decide (z.2.1=x)).map (fun z=>V.ref z.1)/\H' D=some (.lst ys)/\Same H2 H') ⟨rfl,Ze,Zm hD _⟩ ?_ ?_ ?_
  ·rintro i ys H' ⟨rfl,_,s'⟩
   refine ⟨?_,.inl (.inr ⟨o,s' _ _ ept⟩)⟩
   rw [length_map]
   exact Qq (Sy _ _) (by rw [length_take];exact Nc _ _)
  ·rintro i v ys H' hi ⟨rfl,hDl,s'⟩
   have hit:i < ts.length:=by have:=(Qi.mp hi).1;rwa [length_map] at this
   have et:=getElem?_eq_getElem hit
   have ep:=getElem?_eq_getElem (show i < ps.length by omega)
   generalize ts[i]=ti at et
   generalize ps[i]=pi at ep
   have hv:V.ref ti=v:=by rw [getElem?_map,et] at hi;exact QG hi
   subst hv
   have ez:(ts.zip ps)[i]?=some (ti,pi):=Gq.mpr ⟨et,ep⟩
   have htup:=s' _ _ (hp i ti pi et ep)
   have hts:=OH (fun z:Addr×(Str×V)=>!decide (z.2.1=x)) (ts.zip ps) i (ti,pi) ez
   refine ⟨_,rfl,ti,_,_,_,rfl,rfl,SqT.of htup,rfl,_,rfl,rfl,_,rfl,?_⟩
   have edx:(!decide (V.str pi.1=V.str x))=!decide (pi.1=x):=by
    by_cases z:pi.1=x
    ·rw [z,decide_eq_true rfl,decide_eq_true rfl]
    ·rw [decide_eq_false z,decide_eq_false fun y=>z (V.str.inj y)]
   rw [edx]
   by_cases z:pi.1=x
   ·rw [decide_eq_true z]
    refine Ya ⟨?_,hDl,s'⟩
    rw [hts]
    show _=List.map _ (_++if (!decide (pi.1=x))=true then [(ti,pi)] else [])
    rw [decide_eq_true z]
    simp
   ·rw [decide_eq_false z]
    refine Yw ⟨_,rfl,hDl,?_,Ze,fun b u e=>by rw [Zh (Zq e hD)];exact s' _ _ e⟩
    rw [hts]
    show _=List.map _ (_++if (!decide (pi.1=x))=true then [(ti,pi)] else [])
    rw [decide_eq_false z]
    simp
  ·rintro ys H5 ⟨rfl,hD5,s5⟩
   rw [length_map,<- hzl,TJ] at hD5
   have hlp:((ts.zip ps).filter fun z=>!decide (z.2.1=x)).map (·.2)=Wm ps x:=by
    unfold Wm
    conv=>rhs;rw [<- hzs]
    rw [List.filter_map];rfl
   have hlt:((ts.zip ps).filter fun z=>!decide (z.2.1=x)).map (fun z=>V.ref z.1)=(((ts.zip ps).filter fun z=>!decide (z.2.1=x)).map (·.1)).map V.ref:=by rw [map_map];rfl
   have s15:Same H H5:=s12.trans s5
   have hPT:PairT H5 (((ts.zip ps).filter fun z=>!decide (z.2.1=x)).map (·.1)) (Wm ps x):=by
    refine ⟨by rw [<- hlp,length_map,length_map],fun i b p e1 e2=>?_⟩
    rw [<- hlp,getElem?_map] at e2
    rw [getElem?_map] at e1
    cases ez:((ts.zip ps).filter fun z=>!decide (z.2.1=x))[i]? with
    | none=>rw [ez] at e1;cases e1
    | some z =>
     rw [ez] at e1 e2
     cases (show some z.1=some b from e1)
     cases (show some z.2=some p from e2)
     obtain ⟨j,hj⟩:=JT.mp (mem_filter.mp (mem_of_getElem? ez)).1
     obtain ⟨h1,h2⟩:=Gq.mp hj
     exact s5 _ _ (hp j _ _ h1 h2)
   refine ⟨_,rfl,_,.inl ⟨_,SqL.of hD5,rfl⟩,?_⟩
   by_cases hb:Wm ps x=[]
   ·have:((ts.zip ps).filter fun z=>!decide (z.2.1=x))=[]:=by
     have:=congrArg Th hlp
     rw [hb,length_map] at this
     exact GW.mp this
    rw [this]
    exact Ya (q H5 nds 0 (S.keep s15) (NEx.refl _) (by omega) (ZjN d h0 hb hF) (LamAt.same hL s15) (Same.kq s15) s15.tf)
   ·have G2:=G.but hb
    have hne:(!(((ts.zip ps).filter fun z=>!decide (z.2.1=x)).map (fun z=>V.ref z.1)).isEmpty)=true:=by
     cases e:((ts.zip ps).filter fun z=>!decide (z.2.1=x)) with
     | nil=>rw [e] at hlp;exact absurd hlp.symm hb
     | cons _ _=>rfl
    rw [hne]
    have S5:=S.keep s15
    obtain ⟨dx5,ob5⟩:=S5.ob
    refine Yw ⟨_,rfl,st,dx5,_,rfl,ob5,ZS ln dt (by decide +kernel) (by decide +kernel),_,rfl,D,_,Wm ps x,rfl,by rw [hD5,hlt],hPT,hb,by have:=G2.few;omega,fun p hp=>N.len _ (G2.sub p hp),LamAt.same hL s15,fun a6 H6 p1 pr g6 L6 perm6 sort6 node6=>?_⟩
    have tb5:H5 Pl=some (.tbl tb):=s15 _ _ htb
    have tf6:TF H5 H6:=g6.tf tb5
    have S6:=S5.kq g6.kq tf6 hst hln hdt
    refine ⟨st,ln,dt,a6,nds,tabs,_,rfl,S6,node6,by omega,fun H7 S7 k7 tf7=>?_⟩
    have nl6:∃ xs,H6 ln=some (.lst xs):=by obtain ⟨as6,e6,_⟩:=S6.nl;exact ⟨_,e6⟩
    have hmk:Zw p1.1=Zw x:=(G2.perm perm6).mrk p1 mem_cons_self
    rw [hmk] at S7
    refine q H7 _ nds.length S7 (NEx.app nds _) (by rw [length_append];show nds.length+1<=_;omega) ?_ (L6.kq k7 fun b hb=>by rw [mem_singleton.mp hb];exact nl6) ?_ ((s15.tf.trans tf6).trans tf7)
    ·exact ZjP d hxr (by rw [getElem?_append_right (Qh _),Jq];rfl) G2 perm6 hF
    ·exact (Same.kq s15).trans ((g6.kq.sub fun b hb=>by simp at hb ⊢;exact .inr hb).trans (k7.sub fun b hb=>by simp at hb ⊢;exact .inl hb))
 ·refine Ya ?_
  refine ⟨_,rfl,a,_,rfl,hna.tf s1.tf,fun pt H2 s2 hpt=>⟨pt,_,rfl,.inr hpt,fun rl hrl1=>?_⟩⟩
  have s12:=s1.trans s2
  have U:H rl=none:=by
   cases e:H rl with
   | none=>rfl
   | some o=>rw [s12 _ _ e] at hrl1;cases hrl1
  refine ⟨_,rfl,x,rfl,N.len x hx,fun H3 s3=>⟨_,rfl,Zw x,J,rfl,N.lo x hx,by omega,?_⟩⟩
  have el3:H3 rl=some (.lst (qs.map iN)):=s3 _ _ Ze
  have s13:Same H H3:=(s12.trans (Zm hrl1 _)).trans s3
  have S3:=S.keep s13
  have hdl:ZV (Zw x) J < qs.length:=by rw [hq4];exact WZ _ _
  have hq1:=getElem?_eq_getElem hdl
  generalize qs[ZV (Zw x) J]=q1 at hq1
  have hat:YH (qs.map iN) (Zw x / 4 ^ J % 4)=some (iN q1):=by rw [<- Wo];exact ZK (by rw [getElem?_map,hq1];rfl)
  obtain ⟨dx3,ob3⟩:=S3.ob
  refine ⟨_,rfl,st,dx3,_,rfl,ob3,ZS ln dt (by decide +kernel) (by decide +kernel),_,rfl,_,rfl,rl,_,_,_,rfl,rfl,SqL.of el3,hat,_,rfl,_,_,rfl,rfl,_,rfl,?_⟩
  refine ⟨st,ln,dt,nds,tabs,q1,J+1,_,x,v0,Fm,rfl,S3,h0,hqs _ _ hq1,UE hrl (WZ _ _),by omega,hx,by rw [WS,hxr,Xy (N.lo x hx)];rfl,hFx,by omega,LamAt.same hL s13,fun H5 B W S5 ext5 len5 tri5 L5 kq5 tf5=>?_⟩
  have nrl:rl ∉ [ln,Pl]:=fun z=>by
   rcases mem_cons.mp z with z | z
   ·rw [z,nl] at U;cases U
   ·rw [mem_singleton.mp z,htb] at U;cases U
  have el5:=kq5 _ _ nrl el3
  have hix:XS (qs.map iN).length (Zw x / 4 ^ J % 4)=some (ZV (Zw x) J):=by
   rw [<- Wo,length_map]
   unfold XS
   rw [if_pos (by omega),if_pos (by omega)]
   rfl
  refine ⟨_,rfl,_,rfl,rl,_,_,_,rfl,rfl,el5,hix,?_⟩
  have tf6:=Zer (o:=.lst ((qs.map iN).set (ZV (Zw x) J) (iN W))) el5
  have k6:Kq [rl] H5 (upd H5 rl (.lst ((qs.map iN).set (ZV (Zw x) J) (iN W)))):=Zbh
  have nst:st ∉ [rl]:=fun z=>by rw [<- mem_singleton.mp z,ob] at U;cases U
  have nln:ln ∉ [rl]:=fun z=>by rw [<- mem_singleton.mp z,nl] at U;cases U
  have ndt:dt ∉ [rl]:=fun z=>by rw [<- mem_singleton.mp z,S.tb] at U;cases U
  have S6:=S5.kq k6 tf6 nst nln ndt
  have el6:upd H5 rl (.lst ((qs.map iN).set (ZV (Zw x) J) (iN W))) rl=some (.lst ((qs.set (ZV (Zw x) J) W).map iN)):=by rw [Ze,Sj]
  have L6:=L5.kq k6 fun b hb=>by rw [mem_singleton.mp hb];exact ⟨_,el5⟩
  have kh:Kq [ln,Pl] H (upd H5 rl (.lst ((qs.map iN).set (ZV (Zw x) J) (iN W)))):=fun b o nb e=>by
   rw [Zh (Zq e U)];exact kq5 _ _ nb (s13 _ _ e)
  generalize upd H5 rl (.lst ((qs.map iN).set (ZV (Zw x) J) (iN W)))=H6 at *
  have hps:∀ (i q:Nat),(qs.set (ZV (Zw x) J) W)[i]?=some q->Tri NS B (dnF Fm x) d' (J+1) (r+i * 4 ^ J) q:=fun i q hi=>ZhI N hrl hx hxr hq4 hqs ext5 tri5 (fun y hy=>if_neg hy) i q hi
  have hp4:(qs.set (ZV (Zw x) J) W).length=4:=by rw [length_set,hq4]
  generalize qs.set (ZV (Zw x) J) W=qn at *
  have h05:=ext5 _ _ h0
  have tfh:TF H H6:=(s13.tf.trans tf5).trans tf6
  refine ⟨_,rfl,rl,rfl,⟨_,SqL.of el6⟩,fun D hD=>?_⟩
  refine ZfR (K:=K) (a:=rl) (xs:=qn.map iN) (by rw [length_map,hp4];decide)
   (fun i ys H'=>ys=((qn.take i).filter fun p=>!decide (p=0)).map iN/\H' D=some (.lst ys)/\Same H6 H') ⟨rfl,Ze,Zm hD _⟩ ?_ ?_ ?_
  ·rintro i ys H' ⟨rfl,_,s'⟩
   refine ⟨?_,SqL.of (s' _ _ el6)⟩
   rw [length_map]
   exact Qq (Sy _ _) (by rw [length_take];exact Nc _ _)
  ·rintro i v ys H' hi ⟨rfl,hDl,s'⟩
   have hit:i < qn.length:=by have:=(Qi.mp hi).1;rwa [length_map] at this
   have et:=getElem?_eq_getElem hit
   generalize qn[i]=qi at et
   have hv:iN qi=v:=by rw [getElem?_map,et] at hi;exact QG hi
   subst hv
   have hts:=OH (fun p:Nat=>!decide (p=0)) qn i qi et
   refine ⟨_,rfl,rfl,_,rfl,?_⟩
   have edx:(!decide (iN qi=V.int 0))=!decide (qi=0):=by
    by_cases z:qi=0
    ·rw [z];rfl
    ·rw [decide_eq_false z,decide_eq_false fun y=>z (by have:=V.int.inj y;omega)]
   rw [edx]
   by_cases z:qi=0
   ·rw [decide_eq_true z]
    refine Ya ⟨?_,hDl,s'⟩
    rw [hts]
    show _=List.map _ (_++if (!decide (qi=0))=true then [qi] else [])
    rw [decide_eq_true z]
    simp
   ·rw [decide_eq_false z]
    refine Yw ⟨_,rfl,hDl,?_,Ze,fun b u e=>by rw [Zh (Zq e hD)];exact s' _ _ e⟩
    rw [hts]
    show _=List.map _ (_++if (!decide (qi=0))=true then [qi] else [])
    rw [decide_eq_false z]
    simp
  ·rintro ys H7 ⟨rfl,hD7,s7⟩
   rw [length_map,TJ] at hD7
   generalize hfl:(qn.filter fun p=>!decide (p=0))=fl at hD7
   have S7:=S6.keep s7
   refine ⟨_,rfl,D,_,rfl,.inl (SqL.of hD7),rfl,_,rfl,?_⟩
   by_cases h1:fl.length=1
   ·obtain ⟨q8,rfl⟩:∃ q8,fl=[q8]:=by
     cases fl with
     | nil=>cases h1
     | cons b t=>cases t with
      | nil=>exact ⟨b,rfl⟩
      | cons _ _=>simp at h1
    obtain ⟨i8,hi8,hq80,_⟩:=Zbb hfl
    obtain ⟨n8,hn8,_⟩:=ZaN (hps i8 q8 hi8)
    obtain ⟨as8,a8,nl8,ha8,hna8⟩:=S7.node hn8
    obtain ⟨dx8,ob8⟩:=S7.ob
    refine Yw ⟨_,rfl,st,C,dx8,_,_,rfl,ob8,TC.cl,TC.nN,XH ln dt,_,rfl,D,_,_,_,rfl,rfl,SqL.of hD7,(show YH ([q8].map iN) ((0:Nat):Int)=some (iN q8) from ZK rfl),ln,_,_,_,rfl,rfl,SqL.of nl8,ZK (by rw [getElem?_map,ha8];rfl),a8,n8,rfl,hna8,fun pt9 H9 s9 hpt9=>?_⟩
    obtain ⟨o9,ts9,ept9,_,hl9,_⟩:=hpt9
    refine ⟨_,.inr (.inl ⟨_,.inl (.inr ⟨o9,ept9⟩),rfl⟩),?_⟩
    have I:=s7.trans s9
    cases n8 with
    | leaf m8 ps8 =>
     have hne:(!(ts9.map V.ref).isEmpty)=true:=by
      cases ts9 with
      | nil =>
       have hE:TriE NS B (dnF Fm x) (J+1) (r+i8 * 4 ^ J) q8:=by
        have:=hps i8 q8 hi8
        cases d' with
        | zero=>exact this
        | succ d' =>
         rcases this with h | ⟨qs',h,_⟩
         ·exact h
         ·rw [hn8] at h;cases h
       rcases hE with ⟨z,_⟩ | ⟨m',ps',e,G,_⟩
       ·exact absurd z hq80
       ·rw [hn8] at e;cases e
        exact absurd (GW.mp (show ps8.length=0 from hl9.symm)) G.ne
      | cons _ _=>rfl
     rw [hne]
     refine Yw ⟨_,rfl,D,_,_,_,rfl,rfl,SqL.of (s9 _ _ hD7),(show YH ([q8].map iN) ((0:Nat):Int)=some (iN q8) from ZK rfl),?_⟩
     exact q H9 B q8 (S6.keep I) ext5 (by omega) (Znq N h05 hrl hp4 hps hfl hn8) (LamAt.same L6 I) (kh.trans (Same.kq I)) (tfh.trans I.tf)
    | bare =>
     rw [GW.mp (show ts9.length=0 from hl9)]
     refine Ya ?_
     obtain ⟨dxA,obA⟩:=(S6.keep I).ob
     refine ⟨_,rfl,st,dxA,_,rfl,obA,ZS ln dt (by decide +kernel) (by decide +kernel),_,rfl,rl,qn,rfl,I _ _ el6,hp4,fun aB HB sB Z=>?_⟩
     have SB:=(S6.keep I).keep sB
     refine ⟨st,ln,dt,aB,B,tabs,_,rfl,SB,Z,by omega,fun HC SC kC tfC=>?_⟩
     have nlB:∃ xs,HB ln=some (.lst xs):=by obtain ⟨asB,eB,_⟩:=SB.nl;exact ⟨_,eB⟩
     refine q HC _ B.length SC (ext5.trans (NEx.app B _)) (by rw [length_append];show B.length+1<=_;omega) ?_ ((LamAt.same (LamAt.same L6 I) sB).kq kC fun b hb=>by rw [mem_singleton.mp hb];exact nlB) ?_ (((tfh.trans I.tf).trans sB.tf).trans tfC)
     ·exact ZaM (by rw [getElem?_append_right (Qh _),Jq];rfl) hp4 fun i q hi=>Tri.mono d' (hps i q hi) (NEx.app B _)
     ·exact ((kh.trans (Same.kq I)).trans (Same.kq sB)).trans (kC.sub fun b hb=>by simp at hb ⊢;exact .inl hb)
    | fork qs8 =>
     rw [GW.mp (show ts9.length=0 from hl9)]
     refine Ya ?_
     obtain ⟨dxA,obA⟩:=(S6.keep I).ob
     refine ⟨_,rfl,st,dxA,_,rfl,obA,ZS ln dt (by decide +kernel) (by decide +kernel),_,rfl,rl,qn,rfl,I _ _ el6,hp4,fun aB HB sB Z=>?_⟩
     have SB:=(S6.keep I).keep sB
     refine ⟨st,ln,dt,aB,B,tabs,_,rfl,SB,Z,by omega,fun HC SC kC tfC=>?_⟩
     have nlB:∃ xs,HB ln=some (.lst xs):=by obtain ⟨asB,eB,_⟩:=SB.nl;exact ⟨_,eB⟩
     refine q HC _ B.length SC (ext5.trans (NEx.app B _)) (by rw [length_append];show B.length+1<=_;omega) ?_ ((LamAt.same (LamAt.same L6 I) sB).kq kC fun b hb=>by rw [mem_singleton.mp hb];exact nlB) ?_ (((tfh.trans I.tf).trans sB.tf).trans tfC)
     ·exact ZaM (by rw [getElem?_append_right (Qh _),Jq];rfl) hp4 fun i q hi=>Tri.mono d' (hps i q hi) (NEx.app B _)
     ·exact ((kh.trans (Same.kq I)).trans (Same.kq sB)).trans (kC.sub fun b hb=>by simp at hb ⊢;exact .inl hb)
   ·have hd1:decide (V.int (((fl.map iN).length:Nat):Int)=V.int 1)=false:=decide_eq_false fun z=>h1 (by have:=V.int.inj z;rw [length_map] at this;omega)
    rw [hd1]
    have I:=s7
    refine Ya (Ya ?_)
    obtain ⟨dxA,obA⟩:=(S6.keep I).ob
    refine ⟨_,rfl,st,dxA,_,rfl,obA,ZS ln dt (by decide +kernel) (by decide +kernel),_,rfl,rl,qn,rfl,I _ _ el6,hp4,fun aB HB sB Z=>?_⟩
    have SB:=(S6.keep I).keep sB
    refine ⟨st,ln,dt,aB,B,tabs,_,rfl,SB,Z,by omega,fun HC SC kC tfC=>?_⟩
    have nlB:∃ xs,HB ln=some (.lst xs):=by obtain ⟨asB,eB,_⟩:=SB.nl;exact ⟨_,eB⟩
    refine q HC _ B.length SC (ext5.trans (NEx.app B _)) (by rw [length_append];show B.length+1<=_;omega) ?_ ((LamAt.same (LamAt.same L6 I) sB).kq kC fun b hb=>by rw [mem_singleton.mp hb];exact nlB) ?_ (((tfh.trans I.tf).trans sB.tf).trans tfC)
    ·exact ZaM (by rw [getElem?_append_right (Qh _),Jq];rfl) hp4 fun i q hi=>Tri.mono d' (hps i q hi) (NEx.app B _)
    ·exact ((kh.trans (Same.kq I)).trans (Same.kq sB)).trans (kC.sub fun b hb=>by simp at hb ⊢;exact .inl hb)
theorem Zfj (N:Yr NS)(F:Fun K "taken_from" "Store.taken_from" c_Store_taken_from f fd)(T:Txt K mg)(TC:Xm K C)(B:Def P w K mg base 1 "has_mark" ["node","number"] (UG K))(J:Def P w K mg base 1 "parts_in" ["node"] (WU K))(S:Def P w K mg base 1 "pairs_in" ["node"] (XV K))(U:Def P w K mg base 1 "mark" ["name"] Wg)(I:Def P w K mg base 1 "digit" ["number","level"] XU)(W:Def P w K mg base 2 "leaf_of" ["pairs"] (UI K Pl YR))(Z:Def P w K mg base 1 "fork_of" ["parts"] (WA K))(G:DefM P w K mg base 1 C "keep" ["self","node"] (UH K C))(b:Binds K fd nTk [])(mt:Vr K C "taken_from" f):∀ d,FnOk P w K mg base ZI (2+d) f fd nTk (ZbA K C Pl NS d)
 | 0=>F.ok scTk (len:=(fun _ _ _ _ h=>h.elim)) (fun _ _ _ _ _ _ _ _ _ h=>h.elim)
 | d+1=>ZmB N (OF 2 d) F T TC B J S U I W Z G ⟨f,fd,Zfj N F T TC B J S U I W Z G b mt d,b,mt⟩
inductive ZjM (K:Qa)(C Pl:Addr)(NS:List Str)(vs:List V)(H:Hp)(Q:VK)(w_3:XK):Prop
 | mk (st ln dt:Addr) (nds:List Nd) (tabs:List (Zo×V)) (t:Nat) (x:Str) (F:Str->Option V):vs=[.ref st,iN t,.str x]->StoreAt K C st ln dt H nds tabs->nds[0]?=some .bare->(ZH tabs (QQ (t:Int))).isSome=true->Tri NS nds F 5 0 0 t->x∈NS->(∀ u,F x=some u->ValV u)->nds.length+6<=100000->tabs.length<=100000->LamAt H Pl YR We->(∀ (H':Hp) (nds':List Nd) (tabs':List (Zo×V)) (t':Nat),StoreAt K C st ln dt H' nds' tabs'->NEx nds nds'->nds'.length<=nds.length+6->tabs'.length<=tabs.length+1->(∀ k,(ZH tabs k).isSome=true->(ZH tabs' k).isSome=true)->(ZH tabs' (QQ (t':Int))).isSome=true->Tri NS nds' (dnF F x) 5 0 0 t'->LamAt H' Pl YR We->Kq [ln,dt,Pl] H H'->TF H H'->Q (iN t') H')->ZjM K C Pl NS vs H Q w_3
theorem scWo:Zp ["self","table","name"] ["self","table","name"] (Zj c_Store_without):={}
theorem ZnO (N:Yr NS)(F:Fun K "without" "Store.without" c_Store_without f fd)(TC:Xm K C)(DLk:DefM P w K mg base 3 C "looked" ["self","table","name"] (WB K C))(DAs:DefM P w K mg base 1 C "as_table" ["self","number"] (Zde K C))(DI:DefM P w K mg base 8 C "taken_from" nTk (ZbA K C Pl NS 6)):FnOk P w K mg base ZI 9 f fd ["self","table","name"] (ZjM K C Pl NS):=by
 refine F.ok scWo (fun cdv A outer s H vs Q E hr h=>?_)
 obtain ⟨st,ln,Z,nds,B,t,x,Fm,rfl,S,h0,U,G,hx,hFv,hlen,htl,hL,q⟩:=h
 have hr1:=hr.mono (show 1<=8 by decide)
 have hr3:=hr.mono (show 3<=8 by decide)
 refine' ⟨?t,?h,?r⟩
 case h =>
  conv=>arg 2;whnf
  with_reducible refine' Zd (Ye ?a1 (Zi ?a2) ZR) (Zi ?a3)
  case a1=>exact VG (ZhJ (Yc DLk TC.cl hr3 (pv 0) (Zc (pv 1) (Zc (pv 2) Za))))
  case a2=>exact Zu (pv 1)
  case a3=>exact Zu (Yc DAs TC.cl hr1 (pv 0) (Zc (Yc DI TC.cl hr (pv 0) (Zc (pv 1) (Zc Zg (Zc (pv 2) Za)))) Za))
 try dsimp only [ZQ,Cx.nox]
 refine VP ?_
 intro zD zS zN1
 obtain ⟨dx,ob⟩:=S.ob
 obtain ⟨ws,e,n,e1,e2,e3,e4,e5⟩:=Vi N G hx
 refine ⟨_,rfl,st,dx,_,rfl,ob,ZS ln Z (by decide +kernel) (by decide +kernel),_,rfl,_,rfl,st,ln,Z,nds,B,t,x,6,ws,e,n,rfl,S,U,N.len x hx,N.lo x hx,by decide,e1,e2,e3,e4,fun H1 s1=>?_⟩
 rw [e5]
 refine ⟨_,rfl,?_⟩
 have S1:=S.keep s1
 have hL1:=LamAt.same hL s1
 cases eF:Fm x with
 | none =>
  refine Yw ⟨_,rfl,q H1 nds B t S1 (NEx.refl _) (by omega) (by omega) (fun _ h=>h) U (Tri.congr 5 (by decide) G fun y _ _=>?_) hL1 (Same.kq s1) s1.tf⟩
  unfold dnF
  by_cases z:y=x
  ·rw [if_pos z,z,eF]
  ·rw [if_neg z]
 | some u =>
  have hc:decide ((some u).getD .non=V.non)=false:=decide_eq_false (hFv u eF).ne
  rw [hc]
  obtain ⟨dx1,ob1⟩:=S1.ob
  refine Ya ⟨_,rfl,st,dx1,_,rfl,ob1,ZS ln Z (by decide +kernel) (by decide +kernel),_,rfl,st,dx1,_,rfl,ob1,ZS ln Z (by decide +kernel) (by decide +kernel),_,rfl,_,rfl,?_⟩
  refine ⟨st,ln,Z,nds,B,t,0,0,x,u,Fm,rfl,S1,h0,G,by decide,rfl,hx,by rw [Oq,OV],eF,hlen,hL1,fun H2 J I S2 ext2 len2 tri2 L2' kq2 tf2=>?_⟩
  refine ⟨st,ln,Z,J,B,I,rfl,S2,by omega,fun H3 S3 k3 tf3=>?_⟩
  refine q H3 J _ I S3 ext2 len2 (XI _ _ _) (fun k hk=>?_) (by rw [Ug,if_pos rfl];rfl) tri2 ?_ ?_ ((s1.tf.trans tf2).trans tf3)
  ·rw [Ug]
   by_cases z:k=QQ (I:Int)
   ·rw [if_pos z];rfl
   ·rw [if_neg z];exact hk
  ·have W:∀ b∈[Z],∃ xs,H2 b=some (.dK xs):=fun b hb=>by rw [mem_singleton.mp hb];exact ⟨_,S2.tb⟩
   rcases L2' with h | ⟨c,h,h2⟩
   ·exact .inl (k3 _ _ (fun z=>by obtain ⟨_,e⟩:=W _ z;rw [h] at e;cases e) h)
   ·exact .inr ⟨c,k3 _ _ (fun z=>by obtain ⟨_,e⟩:=W _ z;rw [h] at e;cases e) h,k3 _ _ (fun z=>by obtain ⟨_,e⟩:=W _ z;rw [h2] at e;cases e) h2⟩
  ·exact ((Same.kq s1).trans (kq2.sub fun b hb=>by simp at hb ⊢;rcases hb with z | z;exact .inl z;exact .inr (.inr z))).trans (k3.sub fun b hb=>by simp at hb ⊢;exact .inr (.inl hb))
end
section
variable {P:Qk}{w:Qt}{K:Qa}{mg:Str->Option Qb}{base:Heap}{C Pl:Addr}{NS:List Str}
abbrev Xl:YE:=Zix YR We
inductive Zby (K:Qa)(C Pl:Addr)(vs:List V)(H:Hp)(Q:VK)(w_3:XK):Prop
 | mk (NS:List Str) (st:Addr) (nds:List Nd) (tabs:List (Zo×V)) (t:Nat) (x:Str) (v:V) (F:Str->Option V) (Δ:Rs):Yr NS->vs=[.ref st,iN t,.str x,v]->Sep ((st,WW K C nds tabs)::(Pl,Xl)::Δ) H->(ZH tabs (QQ (t:Int))).isSome=true->Tri NS nds F 5 0 0 t->x∈NS->ValV v->(∀ u,F x=some u->ValV u)->nds.length+6<=100000->tabs.length<=100000->(∀ (H':Hp) (nds':List Nd) (tabs':List (Zo×V)) (t':Nat),Sep ((st,WW K C nds' tabs')::(Pl,Xl)::Δ) H'->NEx nds nds'->nds'.length<=nds.length+6->tabs'.length<=tabs.length+1->(∀ k,(ZH tabs k).isSome=true->(ZH tabs' k).isSome=true)->(ZH tabs' (QQ (t':Int))).isSome=true->Tri NS nds' (upF F x v) 5 0 0 t'->Q (iN t') H')->Zby K C Pl vs H Q w_3
inductive Zdm (K:Qa)(C Pl:Addr)(vs:List V)(H:Hp)(Q:VK)(w_3:XK):Prop
 | mk (NS:List Str) (st:Addr) (nds:List Nd) (tabs:List (Zo×V)) (t:Nat) (x:Str) (F:Str->Option V) (Δ:Rs):Yr NS->vs=[.ref st,iN t,.str x]->Sep ((st,WW K C nds tabs)::(Pl,Xl)::Δ) H->(ZH tabs (QQ (t:Int))).isSome=true->Tri NS nds F 5 0 0 t->x∈NS->(∀ u,F x=some u->ValV u)->nds.length+6<=100000->tabs.length<=100000->(∀ (H':Hp) (nds':List Nd) (tabs':List (Zo×V)) (t':Nat),Sep ((st,WW K C nds' tabs')::(Pl,Xl)::Δ) H'->NEx nds nds'->nds'.length<=nds.length+6->tabs'.length<=tabs.length+1->(∀ k,(ZH tabs k).isSome=true->(ZH tabs' k).isSome=true)->(ZH tabs' (QQ (t':Int))).isSome=true->Tri NS nds' (dnF F x) 5 0 0 t'->Q (iN t') H')->Zdm K C Pl vs H Q w_3
theorem ZnS {k:Nat}(h:∀ NS,Yr NS->FnOk P w K mg base ZI k f fd ps (Zgy K C Pl NS)):FnOk P w K mg base ZI k f fd ps (Zby K C Pl) :=
 (FnOk.ex h).conv fun vs H Q E W=>by
  obtain ⟨NS,st,nds,G,t,x,v,F,Δ,N,e,S,h1,h2,Z,h4,h5,J,U,q⟩:=W
  obtain ⟨ln,dt,SA,b0,L,I⟩:=S.stoLam
  exact ⟨NS,N,st,ln,dt,nds,G,t,x,v,F,e,SA,b0,h1,h2,Z,h4,h5,J,U,L,fun H' nds' B t' S' ext len tl mono tok WI L' kq tf=>q H' nds' B t' (I H' nds' B S' (ext _ _ b0) L' kq) ext len tl mono tok WI⟩
theorem wo_S {k:Nat}(h:∀ NS,Yr NS->FnOk P w K mg base ZI k f fd ps (ZjM K C Pl NS)):FnOk P w K mg base ZI k f fd ps (Zdm K C Pl) :=
 (FnOk.ex h).conv fun vs H Q E U=>by
  obtain ⟨NS,st,nds,G,t,x,F,Δ,N,e,S,h1,h2,W,h4,h5,J,q⟩:=U
  obtain ⟨Z,dt,SA,b0,L,I⟩:=S.stoLam
  exact ⟨NS,N,st,Z,dt,nds,G,t,x,F,e,SA,b0,h1,h2,W,h4,h5,J,L,fun H' nds' B t' S' ext len tl mono tok WI L' kq tf=>q H' nds' B t' (I H' nds' B S' (ext _ _ b0) L' kq) ext len tl mono tok WI⟩
inductive Zae (K:Qa)(C:Addr)(vs:List V)(H:Hp)(Q:VK)(w_3:XK):Prop
 | mk (p dx:Addr) (H0:Hp) (Δ:Rs):vs=[.ref p]->H=upd (upd H0 dx (.own p)) p (.ins C dx [])->H0 p=none->H0 dx=none->dx≠p->Sep Δ H0->(∀ H',Same H0 H'->Sep ((p,WW K C [.bare] [(QQ 0,.bl true)])::Δ) H'->Q .non H')->Zae K C vs H Q w_3
theorem Zmd (h:Zae K C vs H Q E):Zej K C vs H Q E:=by
 obtain ⟨p,dx,J,Δ,e,rfl,h1,h2,h3,S,q⟩:=h
 refine ⟨p,dx,e,Ze,fun ln dt H' Z U W kq=>?_⟩
 have G:Same J (upd (upd J dx (.own p)) p (.ins C dx [])):=(Zm h2 _).trans (Zm (by rw [Zh h3.symm];exact h1) _)
 have s0:Same J H':=fun b o e=>kq b o (by simp only [mem_singleton];exact Zq e h1) (G b o e)
 refine q H' s0 ?_
 have n1:=Zcz G Z
 have n2:=Zcz G U
 obtain ⟨I,ob⟩:=W.ob
 obtain ⟨as,nl,B,nod⟩:=W.nl
 refine ⟨some_of H' [p,ln,dt],WT,⟨rfl,ln,dt,⟨⟨I,by rw [XT (by simp)];exact ob⟩,⟨as,by rw [XT (by simp)];exact nl,B,fun i a n e1 e2=>(nod i a n e1 e2).tf Zfs⟩,by rw [XT (by simp)];exact W.tb⟩⟩,S.mono fun b o e=>cut_some.mpr ⟨s0 _ _ e,fun u z=>?_⟩⟩
 cases m:YM u with
 | false=>rfl
 | true =>
  have:=Wz z m
  simp only [mem_cons,not_mem_nil,or_false] at this
  rcases this with z | z | z
  ·exact absurd z (Zq e h1)
  ·exact absurd z (Zq e n1)
  ·exact absurd z (Zq e n2)
inductive Zek (K:Qa)(C:Addr)(vs:List V)(H:Hp)(Q:VK)(w_3:XK):Prop
 | mk (st:Addr) (nds:List Nd) (tabs:List (Zo×V)):vs=[.ref st]->WW K C nds tabs st H->Q (.int (nds.length:Int)) H->Zek K C vs H Q w_3
theorem scMd:Zp ["self"] ["self"] (Zj c_Store_made):={}
theorem ZkP (F:Fun K "made" "Store.made" c_Store_made f fd)(T:Txt K mg)(B:Xm K C):FnOk P w K mg base ZI 1 f fd ["self"] (Zek K C):=by
 refine F.ok scMd (fun Z A outer s H vs Q E hr h=>?_)
 obtain ⟨st,nds,I,rfl,⟨b0,G,U,⟨⟨dx,W⟩,⟨as,J,S,hn⟩,tb⟩⟩,q⟩:=h
 refine ⟨_,Zi (Zu (Zr ZF rfl T.len QK (Zc (ZB (pv 0) rfl) Za))),?_⟩
 refine ⟨_,rfl,st,C,dx,_,_,rfl,W,B.cl,B.nN,XH G U,G,_,rfl,.inl (SqL.of J),?_⟩
 rw [length_map,S];exact q
inductive Zca (K:Qa)(C:Addr)(vs:List V)(H:Hp)(Q:VK)(w_3:XK):Prop
 | mk (v:_):vs=[v]->Q (.int 0) H->Zca K C vs H Q w_3
theorem scEm:Zp ["self"] ["self"] (Zj c_Store_empty):={}
theorem Zjc (F:Fun K "empty" "Store.empty" c_Store_empty f fd)(T:Txt K mg):FnOk P w K mg base ZI 1 f fd ["self"] (Zca K C):=by
 refine F.ok scEm (fun G A outer s H vs Q E I h=>?_)
 obtain ⟨v,rfl,q⟩:=h
 obtain ⟨J,B⟩:=T.zero
 exact ⟨_,Zi (Zu (ZN rfl B (v:=.int 0) ⟨_,rfl⟩)),q⟩
end
structure UP (K:Qa)(CR:Addr):Prop where
 cl:Cls K CR
 nk:NoAttr K CR "kept"
 na:NoAttr K CR "aheads"
 ns:NoAttr K CR "steps"
 nt:NoAttr K CR "tables"
 nc:NoAttr K CR "costs"
section
variable {P:Qk}{w:Qt}{K:Qa}{mg:Str->Option Qb}{base:Heap}{CR CS Pl:Addr}{NS:List Str}
theorem ZbW :(UD st G I lt B).lookup ("kept":Str)=some (V.ref st):=rfl
theorem Zef :(UD st B I lt G).lookup ("aheads":Str)=some (V.ref B):=rfl
theorem rf_s :(UD st I B lt G).lookup ("steps":Str)=some (V.ref B):=rfl
theorem ZjG :(UD st G I lt B).lookup ("tables":Str)=some (V.ref lt):=rfl
theorem rf_c :(UD st G I lt B).lookup ("costs":Str)=some (V.ref B):=rfl
theorem Zac (h:[("kept":Str),"aheads","steps","tables","costs"].all (fun k=>!(m == k))=true):(UD st B U lt I).lookup m=none:=by
 simp only [JZ,Os,Rw,QM,Jh] at h
 obtain ⟨h1,h2,G,J,S⟩:=h
 simp [UD,Gw,h1,h2,G,J,S]
abbrev RdR (K:Qa)(CR CS:Addr)(r:Addr)(pls:List YD)(nds:List Nd)(tabs:List (Zo×V))(H:Hp):Prop:=Vm K CR CS pls nds tabs r H
inductive Zgu (K:Qa)(CR CS:Addr)(vs:List V)(H:Hp)(Q:VK)(w_3:XK):Prop
 | mk (r:Addr) (pls:List YD) (nds:List Nd) (tabs:List (Zo×V)) (k:Nat):vs=[.ref r,.int (k:Int)]->RdR K CR CS r pls nds tabs H->k<=pls.length->Q .non H->Zgu K CR CS vs H Q w_3
abbrev nRCk:List Str:=["self","place"]
abbrev Zgi:List Str:=["self","place"]
theorem Zol:Zp nRCk Zgi (Zj c_Roads_check_place):={}
theorem ZkU (F:Fun K "check_place" "Roads.check_place" c_Roads_check_place f fd)(T:Ym mg)(B:UP K CR):FnOk P w K mg base ZI 1 f fd Zgi (Zgu K CR CS):=by
 refine F.ok Zol (fun J A outer s H vs Q E W h=>?_)
 obtain ⟨r,pls,nds,I,k,rfl,⟨st,G,ls,lt,Z,S⟩,hk,q⟩:=h
 obtain ⟨dx,U⟩:=S.get r
 refine' ⟨?t,?h,?r⟩
 case h =>
  conv=>arg 2;whnf
  with_reducible refine' (Zi (Ye ?h1 (Zi Ve) ZR))
  case h1=>exact Zbr (Zea Zka ZcV Zg (pv 1) (Zr ZF rfl T.len QK (Zc (ZB (pv 0) rfl) Za)))
 try dsimp only [ZQ,Cx.nox]
 refine ⟨_,rfl,_,_,rfl,rfl,_,rfl,?_⟩
 rw [decide_eq_true (show (0:Int)<=(k:Int) by omega)]
 refine Yw ⟨_,rfl,r,CR,dx,_,_,rfl,U,B.cl,B.na,Zef,G,_,rfl,.inl (SqL.of (S.get G)),_,_,rfl,rfl,_,rfl,?_⟩
 rw [decide_eq_true (show (k:Int) < (((V.non::pls.map fun q=>V.int (q.ah:Int)).length:Nat):Int) by rw [length_cons,length_map];omega)]
 exact Ya q
end
def WfP (pls:List YD):Prop:=∀(k:Nat)(q:YD),pls[k]?=some q->q.ah<=k
section
variable {P:Qk}{w:Qt}{K:Qa}{mg:Str->Option Qb}{base:Heap}{CR CS Pl:Addr}{NS:List Str}
def tbN (pls:List YD):Nat->Nat
 | 0=>0
 | k+1=>(pls.getD k ⟨0,.clr "",0,0⟩).tb
theorem ZbB {k:Nat}(h:k<=pls.length):(0::pls.map (·.tb))[k]?=some (tbN pls k):=by
 cases k with
 | zero=>rfl
 | succ k =>
  rw [TQ,getElem?_map,getElem?_eq_getElem (show k < pls.length by omega)]
  show some _=some (pls.getD k ⟨0,.clr "",0,0⟩).tb
  rw [getD_eq_getElem?_getD,getElem?_eq_getElem (show k < pls.length by omega)]
  rfl
theorem Zno {pls:List YD}{k:Nat}(h:k<=pls.length):(V.int 0::pls.map fun q=>V.int (q.tb:Int))[k]?=some (.int (tbN pls k:Int)):=by
 have e:(V.int 0::pls.map fun q=>V.int (q.tb:Int))=(0::pls.map (·.tb)).map fun n:Nat=>V.int (n:Int):=by rw [map_cons,map_map];rfl
 rw [e,getElem?_map,ZbB h];rfl
inductive Zah (K:Qa)(CR CS:Addr)(vs:List V)(H:Hp)(Q:VK)(w_3:XK):Prop
 | mk (r:Addr) (pls:List YD) (nds:List Nd) (tabs:List (Zo×V)) (k:Nat):vs=[.ref r,.int (k:Int)]->RdR K CR CS r pls nds tabs H->k<=pls.length->Q (.int (tbN pls k:Int)) H->Zah K CR CS vs H Q w_3
abbrev nRTa:List Str:=["self","place"]
abbrev Zdd:List Str:=["self","place"]
theorem Zop:Zp nRTa Zdd (Zj c_Roads_table):={}
theorem Zjj (F:Fun K "table" "Roads.table" c_Roads_table f fd)(T:Ym mg)(I:UP K CR)(B:DefM P w K mg base 1 CR "check_place" Zgi (Zgu K CR CS)):FnOk P w K mg base ZI 2 f fd Zdd (Zah K CR CS):=by
 refine F.ok Zop (fun W A outer s H vs Q E Z h=>?_)
 obtain ⟨r,pls,nds,G,k,rfl,R,J,q⟩:=h
 obtain ⟨st,la,ls,lt,lc,S⟩:=id R
 obtain ⟨dx,U⟩:=S.get r
 refine' ⟨?t,?h,?r⟩
 case h =>
  conv=>arg 2;whnf
  with_reducible refine' (Zd ?h1 (Zi ?h2))
  case h1=>exact ZT (Yc B I.cl Z (pv 0) (Zc (pv 1) Za))
  case h2=>exact Zu (ZA ZG (ZB (pv 0) rfl) (pv 1) (fun _ _=>rfl))
 try dsimp only [ZQ,Cx.nox]
 refine VP ?_
 intro zD zS zN1
 refine ⟨_,rfl,r,dx,_,rfl,U,Zac (by decide +kernel),_,rfl,r,pls,nds,G,k,rfl,R,J,?_⟩
 exact ⟨_,rfl,r,CR,dx,_,_,rfl,U,I.cl,I.nt,ZjG,_,rfl,lt,_,_,_,rfl,rfl,SqL.of (S.get lt),ZK (Zno J),q⟩
end
structure RInv (NS:List Str)(pls:List YD)(nds:List Nd)(tabs:List (Zo×V)):Prop where
 wf:WfP pls
 tr:∀ (k:Nat) (F:Str->Option V) (t:Nat),(envs pls)[k]?=some F->(0::pls.map (·.tb))[k]?=some t->(ZH tabs (QQ (t:Int))).isSome=true/\Tri NS nds F 5 0 0 t/\∀ x u,F x=some u->IsVal u
theorem Zcg (h:IsVal v):ValV v:=by
 cases v<;>first | trivial | exact h.elim
theorem RInv.app (I:RInv NS pls nds S){q:YD}(hk:q.ah<=pls.length)(hF:(envs pls)[q.ah]?=some F)(ext:NEx nds nds')(mono:∀ k,(ZH S k).isSome=true->(ZH J k).isSome=true)(ht:(ZH J (QQ (q.tb:Int))).isSome=true)(WI:Tri NS nds' (q.st.ap F) 5 0 0 q.tb)(hv:∀ x v,q.st=.set x v->IsVal v):RInv NS (pls++[q]) nds' J:=by
 have W:=(I.tr q.ah F _ hF (ZbB hk)).2.2
 refine ⟨fun k p e=>?_,fun k G t e1 e2=>?_⟩
 ·by_cases h:k < pls.length
  ·rw [getElem?_append_left h] at e;exact I.wf k p e
  ·rw [getElem?_append_right (by omega)] at e
   have:k - pls.length=0:=by
    cases z:k - pls.length with
    | zero=>rfl
    | succ j=>rw [z] at e;simp at e
   rw [this] at e
   cases (show some q=some p from e)
   omega
 ·rw [ZdJ] at e1
  by_cases h:k < (envs pls).length
  ·rw [getElem?_append_left h] at e1
   have U:(0::pls.map (·.tb))[k]?=some t:=by
    rw [map_append,<- OA,getElem?_append_left (by rw [length_cons,length_map];rw [US] at h;exact h)] at e2
    exact e2
   obtain ⟨g1,g2,g3⟩:=I.tr k G t e1 U
   exact ⟨mono _ g1,Tri.mono 5 g2 ext,g3⟩
  ·rw [getElem?_append_right (by omega)] at e1
   have hz:k - (envs pls).length=0:=by
    cases z:k - (envs pls).length with
    | zero=>rfl
    | succ j=>rw [z] at e1;simp at e1
   rw [hz] at e1
   have Z:q.st.ap ((envs pls).getD q.ah fun _=>none)=G:=QG e1
   rw [getD_eq_getElem?_getD,hF] at Z
   have ek:k=pls.length+1:=by rw [US] at h hz;omega
   have U:q.tb=t:=by
    rw [ek,TQ,map_append,getElem?_append_right (by rw [length_map];omega),length_map,Jq] at e2
    exact QG e2
   subst Z U
   refine ⟨ht,WI,fun x u B=>?_⟩
   have B:q.st.ap F x=some u:=B
   cases es:q.st with
   | set y v =>
    rw [es] at B
    have B:(if x=y then some v else F x)=some u:=B
    by_cases z:x=y
    ·rw [if_pos z] at B;cases B;exact hv y _ es
    ·rw [if_neg z] at B;exact W x u B
   | clr y =>
    rw [es] at B
    have B:(if x=y then none else F x)=some u:=B
    by_cases z:x=y
    ·rw [if_pos z] at B;cases B
    ·rw [if_neg z] at B;exact W x u B
section
variable {P:Qk}{w:Qt}{K:Qa}{mg:Str->Option Qb}{base:Heap}{CR CS Pl:Addr}
inductive ZjJ (K:Qa)(CR CS Pl:Addr)(vs:List V)(H:Hp)(Q:VK)(w_3:XK):Prop
 | mk (NS:List Str) (r sa:Addr) (pls:List YD) (nds:List Nd) (tabs:List (Zo×V)) (k:Nat) (s:Stp) (Δ:Rs):vs=[.ref r,.int (k:Int),.ref sa]->Yr NS->Sep ((r,Vm K CR CS pls nds tabs)::(Pl,Xl)::Δ) H->H sa=some (.tup s.vs)->RInv NS pls nds tabs->s.ok NS->k<=pls.length->pls.length<=10000->nds.length<=90000->tabs.length<=90000->(∀ (H':Hp) (nds':List Nd) (tabs':List (Zo×V)) (t':Nat),Sep ((r,Vm K CR CS (pls++[⟨k,s,t',nds'.length - nds.length⟩]) nds' tabs')::(Pl,Xl)::Δ) H'->RInv NS (pls++[⟨k,s,t',nds'.length - nds.length⟩]) nds' tabs'->NEx nds nds'->nds'.length<=nds.length+6->tabs'.length<=tabs.length+1->Q (.int ((pls.length+1:Nat):Int)) H')->ZjJ K CR CS Pl vs H Q w_3
theorem NEx.len (h:NEx nds nds'):nds.length<=nds'.length:=by
 cases e:nds.length with
 | zero=>omega
 | succ n =>
  have B:n < nds.length:=by omega
  have:=(Qi.mp (h n _ (getElem?_eq_getElem B))).1
  omega
abbrev nRGo:List Str:=["self","place","step","table","made_ahead"]
abbrev Zgj:List Str:=["self","place","step"]
theorem scRGo:Zp nRGo Zgj (Zj c_Roads_go_on):={}
theorem ZkK (F:Fun K "go_on" "Roads.go_on" c_Roads_go_on f fd)(T:Ym mg)(G:UP K CR)(TC:Xm K CS)(DR_table:DefM P w K mg base 9 CR "table" Zdd (Zah K CR CS))(DS_made:DefM P w K mg base 9 CS "made" ["self"] (Zek K CS))(DS_put:DefM P w K mg base 9 CS "put" ["self","table","name","value"] (Zby K CS Pl))(DS_without:DefM P w K mg base 9 CS "without" ["self","table","name"] (Zdm K CS Pl)):FnOk P w K mg base ZI 10 f fd Zgj (ZjJ K CR CS Pl):=by
 refine F.ok scRGo (fun cdv A outer s H vs Q E hr h=>?_)
 obtain ⟨NS,r,sa,pls,nds,tabs,k,s,Δ,rfl,N,S0,es,I,hs,hk,hpl,hnd,htb,q⟩:=h
 obtain ⟨st,Z,ls,lt,lc,S⟩:=S0.roaO
 obtain ⟨dx,ob⟩:=S.get r
 obtain ⟨b0,ln,dt,SA⟩:=S.get st
 obtain ⟨dxs,obs⟩:=SA.ob
 obtain ⟨Fk,hFk⟩:∃ Fk,(envs pls)[k]?=some Fk:=⟨_,getElem?_eq_getElem (by rw [US];omega)⟩
 obtain ⟨g1,g2,g3⟩:=I.tr k Fk _ hFk (ZbB hk)
 refine' ⟨?t,?h,?r⟩
 case h =>
  conv=>arg 2;whnf
  with_reducible refine' (Zd ?h1 (Zd ?h2 (Zd (Ye ?h3 (Zi ?h4) (Zi ?h5)) (Zd ?h6 (Zd ?h7 (Zd ?h8 (Zd ?h9 (Zi ?h10))))))))
  case h1=>exact Zx (i:=3) scRGo.nd rfl (QJ rfl) (Yc DR_table G.cl hr (pv 0) (Zc (pv 1) Za))
  case h2=>exact Zx (i:=4) scRGo.nd rfl (QJ rfl) (Vb DS_made TC.cl hr (ZB (pv 0) rfl))
  case h3=>exact ZX YW (ZA YL (pv 2) Zg (fun _ _=>rfl)) ZW (ZU _)
  case h4=>exact Zx (i:=3) scRGo.nd rfl (QJ rfl) (Yc DS_put TC.cl hr (ZB (pv 0) rfl) (Zc (pv 3) (Zc (ZA YL (pv 2) Zg (fun _ _=>rfl)) (Zc (ZA YL (pv 2) Zg (fun _ _=>rfl)) Za))))
  case h5=>exact Zx (i:=3) scRGo.nd rfl (QJ rfl) (Yc DS_without TC.cl hr (ZB (pv 0) rfl) (Zc (pv 3) (Zc (ZA YL (pv 2) Zg (fun _ _=>rfl)) Za)))
  case h6=>exact ZT (YG Qx QB QC ZZ (ZB (pv 0) rfl) (Zc (pv 1) Za))
  case h7=>exact ZT (YG Qx QB QC ZZ (ZB (pv 0) rfl) (Zc (pv 2) Za))
  case h8=>exact ZT (YG Qx QB QC ZZ (ZB (pv 0) rfl) (Zc (pv 3) Za))
  case h9=>exact ZT (YG Qx QB QC ZZ (ZB (pv 0) rfl) (Zc (Zv YS (Vb DS_made TC.cl hr (ZB (pv 0) rfl)) (pv 4)) Za))
  case h10=>exact Zu (Zv YS (Zr ZF rfl T.len QK (Zc (ZB (pv 0) rfl) Za)) Zg)
 try dsimp only [ZQ,Cx.nox]
 refine zs8 ?_
 intro zD zS zN7 zN6 zN5 zN4 zN3 zN2 zN1
 refine ⟨_,rfl,r,dx,_,rfl,ob,Zac (by decide +kernel),_,rfl,r,pls,nds,tabs,k,rfl,S0.get r,hk,?_⟩
 refine ⟨_,rfl,r,CR,dx,_,_,rfl,ob,G.cl,G.nk,ZbW,st,dxs,_,rfl,obs,ZS ln dt (by decide +kernel) (by decide +kernel),st,nds,tabs,rfl,S.get st,?_⟩
 have S1:=((S.imm es rfl).pull Pl).pull st
 cases s with
 | set x v =>
  obtain ⟨hx,hv⟩:=hs
  refine ⟨_,rfl,sa,_,_,_,rfl,rfl,SqT.of es,ZK (j:=0) rfl,rfl,_,rfl,?_⟩
  rw [decide_eq_true rfl]
  refine Yw ⟨_,rfl,r,CR,dx,_,_,rfl,ob,G.cl,G.nk,ZbW,st,dxs,_,rfl,obs,ZS ln dt (by decide +kernel) (by decide +kernel),_,rfl,_,rfl,sa,_,_,_,rfl,rfl,SqT.of es,ZK (j:=1) rfl,_,rfl,sa,_,_,_,rfl,rfl,SqT.of es,ZK (j:=2) rfl,?_⟩
  refine ⟨NS,st,nds,tabs,tbN pls k,x,v,Fk,_,N,rfl,S1,g1,g2,hx,Zcg hv,fun u hu=>Zcg (g3 x u hu),by omega,by omega,fun H2 B J t2 S2 U len2 tl2 mono2 ht2 tri2=>?_⟩
  have I2:=RInv.app (q:=⟨k,.set x v,t2,B.length - nds.length⟩) I hk hFk U mono2 ht2 tri2 (fun y u e=>by cases e;exact hv)
  revert S2 I2
  generalize Stp.set x v=s at *
  intro S2 I2
  obtain ⟨dx2,ob2⟩:=S2.get r
  refine ⟨_,rfl,r,CR,dx2,_,_,rfl,ob2,G.cl,G.na,Zef,.inl ⟨rfl,_,SqL.of (S2.get Z)⟩,_,rfl,Z,_,_,rfl,rfl,S2.get Z,YO (show _<=20000 by rw [length_cons,length_map];omega),?_⟩
  generalize W:upd H2 Z _=H3
  have S3:=S2.putE W
  clear W
  obtain ⟨dx3,ob3⟩:=S3.get r
  obtain ⟨as3,els,hal,_⟩:=S3.get ls
  rw [length_map] at hal
  refine ⟨_,rfl,r,CR,dx3,_,_,rfl,ob3,G.cl,G.ns,rf_s,.inl ⟨rfl,_,SqL.of els⟩,_,rfl,ls,_,_,rfl,rfl,els,YO (show _<=20000 by rw [length_cons,length_map];omega),?_⟩
  generalize W:upd H3 ls _=H4
  have S4:=W ▸ S3.stepApp ls els (S3.get sa)
  clear W
  obtain ⟨dx4,ob4⟩:=S4.get r
  refine ⟨_,rfl,r,CR,dx4,_,_,rfl,ob4,G.cl,G.nt,ZjG,.inl ⟨rfl,_,SqL.of (S4.get lt)⟩,_,rfl,lt,_,_,rfl,rfl,S4.get lt,YO (show _<=20000 by rw [length_cons,length_map];omega),?_⟩
  generalize W:upd H4 lt _=H5
  have S5:=S4.putE W
  clear W
  obtain ⟨dx5,ob5⟩:=S5.get r
  obtain ⟨_,ln5,dt5,SA5⟩:=S5.get st
  obtain ⟨dxs5,obs5⟩:=SA5.ob
  refine ⟨_,rfl,r,CR,dx5,_,_,rfl,ob5,G.cl,G.nc,rf_c,.inl ⟨rfl,_,SqL.of (S5.get lc)⟩,_,rfl,r,CR,dx5,_,_,rfl,ob5,G.cl,G.nk,ZbW,st,dxs5,_,rfl,obs5,ZS ln5 dt5 (by decide +kernel) (by decide +kernel),st,B,J,rfl,S5.get st,_,rfl,_,_,rfl,rfl,lc,_,_,rfl,rfl,S5.get lc,YO (show _<=20000 by rw [length_cons,length_map];omega),?_⟩
  generalize W:upd H5 lc _=H6
  have S6:=S5.putE W
  clear W
  obtain ⟨dx6,ob6⟩:=S6.get r
  refine ⟨_,rfl,r,CR,dx6,_,_,rfl,ob6,G.cl,G.na,Zef,Z,_,rfl,.inl (SqL.of (S6.get Z)),_,_,rfl,rfl,?_⟩
  have hle:=U.len
  have ec:V.int ((B.length:Int) - (nds.length:Int))=V.int ((B.length - nds.length:Nat):Int):=congrArg V.int (by omega)
  have S7:=(((((((S6.drop sa).pull Pl).pull lc).pull lt).pull ls).pull Z).pull st).pull r
  have S8:Sep ((r,Xt CR (UD st Z ls lt lc))::(st,WW K CS B J)::(Z,Yi (V.non::(pls++[(⟨k,s,t2,B.length - nds.length⟩:YD)]).map fun q=>V.int (q.ah:Int)))::(ls,UN ((pls++[(⟨k,s,t2,B.length - nds.length⟩:YD)]).map (·.st)))::(lt,Yi (V.int 0::(pls++[(⟨k,s,t2,B.length - nds.length⟩:YD)]).map fun q=>V.int (q.tb:Int)))::(lc,Yi (V.int 0::(pls++[(⟨k,s,t2,B.length - nds.length⟩:YD)]).map fun q=>V.int (q.co:Int)))::(Pl,Xl)::Δ) H6:=by
   rw [map_append,map_append,map_append,map_append]
   show Sep (_::_::_::_::_::(lc,Yi (V.int 0::(pls.map (fun q=>V.int (q.co:Int))++[V.int ((B.length - nds.length:Nat):Int)])))::_) _
   rw [<- ec]
   exact S7
  have e9:(((V.non::pls.map fun q=>V.int (q.ah:Int))++[V.int (k:Int)]).length:Int) - 1=((pls.length+1:Nat):Int):=by rw [length_append,length_cons,length_map];show ((pls.length+1+1:Nat):Int) - 1=_;omega
  have:=q H6 B J t2 S8.roaC I2 U len2 tl2
  rw [<- e9] at this
  exact this
 | clr x =>
  refine ⟨_,rfl,sa,_,_,_,rfl,rfl,SqT.of es,ZK (j:=0) rfl,rfl,_,rfl,?_⟩
  rw [show decide (V.str "clear"=V.str (Qw "set"))=false by decide +kernel]
  refine Ya ⟨_,rfl,r,CR,dx,_,_,rfl,ob,G.cl,G.nk,ZbW,st,dxs,_,rfl,obs,ZS ln dt (by decide +kernel) (by decide +kernel),_,rfl,_,rfl,sa,_,_,_,rfl,rfl,SqT.of es,ZK (j:=1) rfl,?_⟩
  refine ⟨NS,st,nds,tabs,tbN pls k,x,Fk,_,N,rfl,S1,g1,g2,hs,fun u hu=>Zcg (g3 x u hu),by omega,by omega,fun H2 B J t2 S2 U len2 tl2 mono2 ht2 tri2=>?_⟩
  have I2:=RInv.app (q:=⟨k,.clr x,t2,B.length - nds.length⟩) I hk hFk U mono2 ht2 tri2 (fun y u e=>by cases e)
  revert S2 I2
  generalize Stp.clr x=s at *
  intro S2 I2
  obtain ⟨dx2,ob2⟩:=S2.get r
  refine ⟨_,rfl,r,CR,dx2,_,_,rfl,ob2,G.cl,G.na,Zef,.inl ⟨rfl,_,SqL.of (S2.get Z)⟩,_,rfl,Z,_,_,rfl,rfl,S2.get Z,YO (show _<=20000 by rw [length_cons,length_map];omega),?_⟩
  generalize W:upd H2 Z _=H3
  have S3:=S2.putE W
  clear W
  obtain ⟨dx3,ob3⟩:=S3.get r
  obtain ⟨as3,els,hal,_⟩:=S3.get ls
  rw [length_map] at hal
  refine ⟨_,rfl,r,CR,dx3,_,_,rfl,ob3,G.cl,G.ns,rf_s,.inl ⟨rfl,_,SqL.of els⟩,_,rfl,ls,_,_,rfl,rfl,els,YO (show _<=20000 by rw [length_cons,length_map];omega),?_⟩
  generalize W:upd H3 ls _=H4
  have S4:=W ▸ S3.stepApp ls els (S3.get sa)
  clear W
  obtain ⟨dx4,ob4⟩:=S4.get r
  refine ⟨_,rfl,r,CR,dx4,_,_,rfl,ob4,G.cl,G.nt,ZjG,.inl ⟨rfl,_,SqL.of (S4.get lt)⟩,_,rfl,lt,_,_,rfl,rfl,S4.get lt,YO (show _<=20000 by rw [length_cons,length_map];omega),?_⟩
  generalize W:upd H4 lt _=H5
  have S5:=S4.putE W
  clear W
  obtain ⟨dx5,ob5⟩:=S5.get r
  obtain ⟨_,ln5,dt5,SA5⟩:=S5.get st
  obtain ⟨dxs5,obs5⟩:=SA5.ob
  refine ⟨_,rfl,r,CR,dx5,_,_,rfl,ob5,G.cl,G.nc,rf_c,.inl ⟨rfl,_,SqL.of (S5.get lc)⟩,_,rfl,r,CR,dx5,_,_,rfl,ob5,G.cl,G.nk,ZbW,st,dxs5,_,rfl,obs5,ZS ln5 dt5 (by decide +kernel) (by decide +kernel),st,B,J,rfl,S5.get st,_,rfl,_,_,rfl,rfl,lc,_,_,rfl,rfl,S5.get lc,YO (show _<=20000 by rw [length_cons,length_map];omega),?_⟩
  generalize W:upd H5 lc _=H6
  have S6:=S5.putE W
  clear W
  obtain ⟨dx6,ob6⟩:=S6.get r
  refine ⟨_,rfl,r,CR,dx6,_,_,rfl,ob6,G.cl,G.na,Zef,Z,_,rfl,.inl (SqL.of (S6.get Z)),_,_,rfl,rfl,?_⟩
  have hle:=U.len
  have ec:V.int ((B.length:Int) - (nds.length:Int))=V.int ((B.length - nds.length:Nat):Int):=congrArg V.int (by omega)
  have S7:=(((((((S6.drop sa).pull Pl).pull lc).pull lt).pull ls).pull Z).pull st).pull r
  have S8:Sep ((r,Xt CR (UD st Z ls lt lc))::(st,WW K CS B J)::(Z,Yi (V.non::(pls++[(⟨k,s,t2,B.length - nds.length⟩:YD)]).map fun q=>V.int (q.ah:Int)))::(ls,UN ((pls++[(⟨k,s,t2,B.length - nds.length⟩:YD)]).map (·.st)))::(lt,Yi (V.int 0::(pls++[(⟨k,s,t2,B.length - nds.length⟩:YD)]).map fun q=>V.int (q.tb:Int)))::(lc,Yi (V.int 0::(pls++[(⟨k,s,t2,B.length - nds.length⟩:YD)]).map fun q=>V.int (q.co:Int)))::(Pl,Xl)::Δ) H6:=by
   rw [map_append,map_append,map_append,map_append]
   show Sep (_::_::_::_::_::(lc,Yi (V.int 0::(pls.map (fun q=>V.int (q.co:Int))++[V.int ((B.length - nds.length:Nat):Int)])))::_) _
   rw [<- ec]
   exact S7
  have e9:(((V.non::pls.map fun q=>V.int (q.ah:Int))++[V.int (k:Int)]).length:Int) - 1=((pls.length+1:Nat):Int):=by rw [length_append,length_cons,length_map];show ((pls.length+1+1:Nat):Int) - 1=_;omega
  have:=q H6 B J t2 S8.roaC I2 U len2 tl2
  rw [<- e9] at this
  exact this
end
section
variable {P:Qk}{w:Qt}{K:Qa}{mg:Str->Option Qb}{base:Heap}{CR CS Pl:Addr}
def GoP (K:Qa)(CR CS Pl:Addr)(NS:List Str)(r:Addr)(pls:List YD)(nds:List Nd)(tabs:List (Zo×V))(k:Nat)(s:Stp)(Δ:Rs)(H:Hp)(Q:VK):Prop :=
 Yr NS/\Sep ((r,Vm K CR CS pls nds tabs)::(Pl,Xl)::Δ) H/\RInv NS pls nds tabs/\s.ok NS/\k<=pls.length/\pls.length<=10000/\nds.length<=90000/\tabs.length<=90000 /\
 ∀ (H':Hp) (nds':List Nd) (tabs':List (Zo×V)) (t':Nat),Sep ((r,Vm K CR CS (pls++[⟨k,s,t',nds'.length - nds.length⟩]) nds' tabs')::(Pl,Xl)::Δ) H'->RInv NS (pls++[⟨k,s,t',nds'.length - nds.length⟩]) nds' tabs'->nds'.length<=nds.length+6->tabs'.length<=tabs.length+1->Q (.int ((pls.length+1:Nat):Int)) H'
inductive Zel (K:Qa)(CR CS Pl:Addr)(vs:List V)(H:Hp)(Q:VK)(w_3:XK):Prop
 | mk (NS:List Str) (r:Addr) (pls:List YD) (nds:List Nd) (tabs:List (Zo×V)) (k:Nat) (x:Str) (v:V) (Δ:Rs):vs=[.ref r,.int (k:Int),.str x,v]->GoP K CR CS Pl NS r pls nds tabs k (.set x v) Δ H Q->Zel K CR CS Pl vs H Q w_3
abbrev nRPu:List Str:=["self","place","name","value"]
abbrev Zgl:List Str:=["self","place","name","value"]
theorem Zoo:Zp nRPu Zgl (Zj c_Roads_put):={}
theorem ZkS (F:Fun K "put" "Roads.put" c_Roads_put f fd)(T:Ym mg)(U:UP K CR)(B:DefM P w K mg base 10 CR "go_on" Zgj (ZjJ K CR CS Pl)):FnOk P w K mg base ZI 11 f fd Zgl (Zel K CR CS Pl):=by
 refine F.ok Zoo (fun cdv A outer s H vs Q E W h=>?_)
 obtain ⟨NS,r,pls,nds,J,k,x,v,Δ,rfl,N,S,I,hs,hk,h1,h2,h3,q⟩:=h
 obtain ⟨st,la,ls,lt,lc,SR⟩:=S.get r
 obtain ⟨dx,ob⟩:=SR.get r
 refine' ⟨?t,?h,?r⟩
 case h =>
  conv=>arg 2;whnf
  with_reducible refine' (Zi ?h1)
  case h1=>exact Zu (Yc B U.cl W (pv 0) (Zc (pv 1) (Zc (YZ (Zc ZW (Zc (pv 2) (Zc (pv 3) Za)))) Za)))
 try dsimp only [ZQ,Cx.nox]
 refine ⟨_,rfl,r,dx,_,rfl,ob,Zac (by decide +kernel),_,rfl,_,rfl,_,rfl,(by show 3<=Qj;decide),fun t ht=>?_⟩
 exact ⟨NS,r,t,pls,nds,J,k,.set x v,Δ,rfl,N,(S.new ht _).drop t,Ze,I,hs,hk,h1,h2,h3,fun H' nds' G t' Z I' _ l1 l2=>q H' nds' G t' Z I' l1 l2⟩
inductive Zcc (K:Qa)(CR CS:Addr)(vs:List V)(H:Hp)(Q:VK)(w_3:XK):Prop
 | mk (r dx:Addr) (H0:Hp) (Δ:Rs):vs=[.ref r]->H=upd (upd H0 dx (.own r)) r (.ins CR dx [])->H0 r=none->H0 dx=none->dx≠r->Sep Δ H0->(∀ H',Sep ((r,Vm K CR CS [] [.bare] [(QQ 0,.bl true)])::Δ) H'->Q .non H')->Zcc K CR CS vs H Q w_3
abbrev nRIn:List Str:=["self"]
abbrev Zkd:List Str:=["self"]
theorem Zom:Zp nRIn Zkd (Zj c_Roads___init__):={}
theorem Zje (F:Fun K "__init__" "Roads.__init__" c_Roads___init__ f fd)(T:Ym mg)(I:UP K CR)(TC:Xm K CS)(U:ZbD P w K mg base 1 CS "Store" ["self"] (Zae K CS))(G:DefM P w K mg base 2 CS "empty" ["self"] (Zca K CS)):FnOk P w K mg base ZI 3 f fd Zkd (Zcc K CR CS):=by
 refine F.ok Zom (fun cdv A outer s H vs Q E hr h=>?_)
 obtain ⟨r,dx,H0,Δ,rfl,rfl,h1,h2,h3,S0,q⟩:=h
 have S:=((S0.new h2 (.own r)).new (p:=r) (by rw [Zh h3.symm];exact h1) (.ins CR dx [])).drop dx
 generalize upd (upd H0 dx (.own r)) r (.ins CR dx [])=H at *
 refine' ⟨?t,?h,?r⟩
 case h =>
  conv=>arg 2;whnf
  with_reducible refine' (Zd ?h1 (Zd ?h2 (Zd ?h3 (Zd ?h4 (Zi ?h5)))))
  case h1=>exact YT (pv 0) (ZcX U hr) rfl
  case h2=>exact YT (pv 0) (Yb (Zc Ud Za)) rfl
  case h3=>exact YT (pv 0) (Yb (Zc Ud Za)) rfl
  case h4=>exact YT (pv 0) (Yb (Zc (Vb G TC.cl hr (ZB (pv 0) rfl)) Za)) rfl
  case h5=>exact YT (pv 0) (Yb (Zc Zg Za)) rfl
 try dsimp only [ZQ,Cx.nox]
 refine zs5 ?_
 intro zD zS zN4 zN3 zN2 zN1
 intro st dx2 hst J hne
 refine ⟨st,dx2,_,_,rfl,rfl,hst,J,hne,S,fun H1 _ S1=>⟨rfl,?_⟩⟩
 refine ⟨_,rfl,r,CR,dx,_,rfl,S1.get r,I.cl,I.nk,(by show 0 < 1000;decide),?_⟩
 generalize B:upd H1 r _=H2
 have S2:=S1.putE B
 clear B
 refine ⟨(by show 1<=Qj;decide),fun Z hla=>?_⟩
 generalize B:upd H2 Z _=H3
 have S3:=S2.newE hla B
 clear B
 refine ⟨_,rfl,r,CR,dx,_,rfl,S3.get r,I.cl,I.na,(by show 1 < 1000;decide),?_⟩
 generalize B:upd H3 r _=H4
 have S4:=S3.putE B
 clear B
 refine ⟨(by show 1<=Qj;decide),fun W hls=>?_⟩
 generalize B:upd H4 W _=H5
 have S5:=S4.newE hls B
 clear B
 refine ⟨_,rfl,r,CR,dx,_,rfl,S5.get r,I.cl,I.ns,(by show 2 < 1000;decide),?_⟩
 generalize B:upd H5 r _=H6
 have S6:=S5.putE B
 clear B
 obtain ⟨b0,ln,dt,SA⟩:=S6.get st
 obtain ⟨dxs,obs⟩:=SA.ob
 refine ⟨_,rfl,r,CR,dx,_,_,rfl,S6.get r,I.cl,I.nk,rfl,st,dxs,_,rfl,obs,ZS ln dt (by decide +kernel) (by decide +kernel),_,rfl,(by show 1<=Qj;decide),fun lt hlt=>?_⟩
 generalize B:upd H6 lt _=H7
 have S7:=S6.newE hlt B
 clear B
 refine ⟨_,rfl,r,CR,dx,_,rfl,S7.get r,I.cl,I.nt,(by show 3 < 1000;decide),?_⟩
 generalize B:upd H7 r _=H8
 have S8:=S7.putE B
 clear B
 refine ⟨(by show 1<=Qj;decide),fun lc hlc=>?_⟩
 generalize B:upd H8 lc _=H9
 have S9:=S8.newE hlc B
 clear B
 refine ⟨_,rfl,r,CR,dx,_,rfl,S9.get r,I.cl,I.nc,(by show 4 < 1000;decide),?_⟩
 generalize B:upd H9 r _=H10
 have S10:=S9.putE B
 clear B
 have S11:=S10.say W (UN []) fun h z=>⟨[],z,rfl,fun i a s e=>by simp at e⟩
 have S12:=S11.say r (Xt CR (UD st Z W lt lc)) fun h z=>⟨dx,z⟩
 have S13:=(((((S12.pull lc).pull lt).pull W).pull Z).pull st).pull r
 exact q _ (Sep.roaC (pls:=[]) S13)
end
end K33
namespace L2
open PySem PySem.Spec PyProof.Rows
abbrev vMro:List Value:=[.type "ValueError",.type "Exception",.type "BaseException",.type "object"]
inductive VT:List Qb->Prop
 | base:VT vMro
 | own {a:Addr} {r:List Qb}:VT r->VT (.ref a::r)
def ZgH:List Qb->Bool
 | .ref _::r=>ZgH r
 | l=>decide (l=vMro)
theorem VT.of:∀{l:List Qb},ZgH l=true->VT l
 | [],h=>nomatch (of_decide_eq_true h:([]:List Qb)=vMro)
 | v::r,h=>by cases v<;>first | exact .own (VT.of h) | (have e:=of_decide_eq_true h;rw [e];exact .base)
theorem VT.has (T:VT l){b:Bool}(hb:vMro.contains (.type x)=b):l.contains (.type x)=b:=by
 induction T with
 | base=>exact hb
 | own _ ih=>rw [contains_cons,ih];rfl
theorem VT.refuse (T:VT l)(B:Qb):refuseLoop B "__setattr__" l=pure ():=by
 induction T with
 | base=>exact Jw.passes B
 | own _ ih=>rw [refuseLoop_ref];exact ih
def Zex (K:Qa)(C:Addr):Bool:=match K.lookup C with
 | some ⟨.type "type",_,.cls cd,sl⟩=>(match cd.mro,sl.toList with
  | .ref C'::bm,[_,_,_,_,some (.builtin n),_]=>C' == C&&!cd.hasDel&&cd.hasDict&&n == "ValueError.__new__"&&ZgH bm
  | _,_=>false)
 | _=>false
theorem Zai {K:Qa}{h:Heap}{C:Addr}(X:K.In h)(q:Zex K C=true):∃ nm J N bs bm sn sub ab col dd k0 k1 k2 k3 k5,
 h.get? C=some (GQ nm J C N bs bm true sn sub ab col dd k0 k1 k2 k3 k5 "ValueError.__new__")/\VT bm:=by
 unfold Zex at q
 split at q
 ·rename_i dd cd S ho
  split at q
  ·rename_i C' bm k0 k1 k2 k3 n k5 U W
   simp only [QM,beq_iff_eq,Jh] at q
   obtain ⟨⟨⟨⟨rfl,B⟩,G⟩,rfl⟩,ht⟩:=q
   obtain ⟨nm,bs,Z,ns,J,hd,sn,sub,ab,col,del⟩:=cd
   dsimp only at U B G
   subst U B G
   have I:S=#[k0,k1,k2,k3,some (.builtin "ValueError.__new__"),k5]:=by
    obtain ⟨l⟩:=S
    simp only at W
    rw [W]
   subst I
   exact ⟨nm,J,ns,bs,bm,sn,sub,ab,col,dd,k0,k1,k2,k3,k5,X _ _ ho,.of ht⟩
  ·cases q
 ·cases q
section
variable {prog:Qk}{w:Qt}{A:QA}{E:Qb->Qe->Prop}{h:Heap}{g:Array RN}{d:Drawn}{t:Nat}{os:OsState}
variable {nm q:Str}{C N:Addr}{bs bm:List Qb}{sn:List Str}{sub:List Qb}{ab:Bool}{col:Option Bool}{dd:Option Addr}{k0 k1 k2 k3 k5:Option Qb}
theorem ZeF (T:VT bm)(G:h.get? C=some (GQ nm q C N bs bm true sn sub ab col dd k0 k1 k2 k3 k5 "ValueError.__new__"))(J:Q () ⟨h,g,d,t,os⟩):Qr M A (Gs "ValueError.__new__" ⟨.ref C::rest,[]⟩) Q E ⟨h,g,d,t,os⟩:=by
 have F:=GL
 have B:(Qm C::bm).contains (.type "ValueError")=true:=by rw [contains_cons,T.has F.hasB,Sk]
 have I:=F.noStar
 simp only [Gs,F.newKind,F.newSplit,F.newRow]
 repeat (first | refine QI G ?_ | (refine Gp G ?_;rw [B]) | refine wpAny_staticBase_exc G ?_ | refine OI G ?_ | simp only [bne_self_eq_false,Gf,if_false] | wp_step)
 exact J
theorem ZoH (T:VT bm)(U:h.get? C=some (GQ nm q C N bs bm true sn sub ab col dd k0 k1 k2 k3 k5 "ValueError.__new__"))(Z:R (.ok (.ret (.ref (h.objs.size+1)))) ⟨(h.push { cls:=.type "tuple",data:=.seq rest.toArray }).push
  {cls:=.ref C,data:=.fields #[.ref h.objs.size,.none,.none,.none,.bool false,.none] },g,d,t,os⟩)(W:rest.length<=Qj):
 Ja (Qs prog w) A (.builtin "ValueError.__new__" ⟨.ref C::rest,[]⟩) R ⟨h,g,d,t,os⟩:=by
 have F:=GL
 have B:=F.ends
 have S:(Qm C::bm).contains (.type "ValueError")=true:=by rw [contains_cons,T.has F.hasB,Sk]
 have G:(Qm C::bm).contains (.type "AttributeError")=false:=by rw [contains_cons,T.has F.noAttr];rfl
 have I:(Qm C::bm).contains (.type "NameError")=false:=by rw [contains_cons,T.has F.noName];rfl
 refine codeAny_builtinAt F.entry ?_
 unfold Jg.«BaseException.__new__»
 refine Nf ?_
 show PySem.wpAt _ _ _ (stack >>= _) _ _ _
 refine Nf (PySem.wpAt_stack fun p J=>Rm ?_)
 wp_walk
 refine Rm ?_
 rw [F.owner]
 repeat (first | with_reducible refine wpAny_madeHere_exc F.canon U ?_ | with_reducible refine QI U ?_ | (with_reducible refine Gp U ?_;first | rw [S] | rw [G] | rw [I]) | wp_step)
 show R _ _
 rw [Jl]
 exact Z
theorem ZeH (T:VT bm)(S:h.get? C=some (GQ nm q C N bs bm true sn sub ab col dd k0 k1 k2 k3 k5 "ValueError.__new__"))(LI:GI (Qs prog w) h (QZ (.ref C) "__init__") (some (.ref W)))(U:h.get? W=some oI)(hfc:oI.cls=.type "function")(hq:∀ h' e,Heap.MadeExcOf h h' e (.ref C) rest->h.objs.size<=e ->
     Qr (Qs prog w) A (call (.ref W) (.ref e::rest)) (fun r s'=>r=.none/\Q (.done (.ret (.ref e))) s') E ⟨h',g,d,t,os⟩)(J:rest.length<=Qj):
   Qr (Qs prog w) A (Jg.«type.__call__» ⟨.ref C::rest,[]⟩) Q E ⟨h,g,d,t,os⟩:=by
 have F:=GL
 repeat (first | with_reducible refine QI S ?_ | with_reducible refine OI S ?_ | wp_step)
 refine codeAny_call_builtin_code (JA _ F.quiet) (ZeF T S ?_)
 refine ZoH T S ?_ J
 show Qr _ _ _ _ _ _
 have I:=Qd { cls:=.ref C,data:=.fields #[.ref h.objs.size,.none,.none,.none,.bool false,.none] }
   (Qd { cls:=.type "tuple",data:=.seq rest.toArray } S)
 have B:=Qd { cls:=.ref C,data:=.fields #[.ref h.objs.size,.none,.none,.none,.bool false,.none] }
   (Qd { cls:=.type "tuple",data:=.seq rest.toArray } U)
 have G:((h.push { cls:=.type "tuple",data:=.seq rest.toArray }).push
     { cls:=.ref C,data:=.fields #[.ref h.objs.size,.none,.none,.none,.bool false,.none] }).get? (h.objs.size+1)=some
     { cls:=.ref C,data:=.fields #[.ref h.objs.size,.none,.none,.none,.bool false,.none] }:=by heap_get
 have Z:(Qm C::bm).contains (.ref C)=true:=by simp
 unfold isInstance
 repeat (first | with_reducible refine QI G ?_ | (with_reducible refine Gp I ?_;rw [Z]) | wp_step)
 show Qr _ _ (QZ (.ref C) _) _ _ _
 refine (LI.keeps (h':=(h.push { cls:=.type "tuple",data:=.seq rest.toArray }).push { cls:=.ref C,data:=.fields #[.ref h.objs.size,.none,.none,.none,.bool false,.none] }) fun b o e=>Qd _ (Qd _ e)) _ _ _ _ (fun _ _ e=>e) ?_
 refine Gh (Qf ?_)
 unfold bindSpecial
 refine Qf (Oo (T:="function") ⟨_,B,hfc⟩ ?_)
 rw [if_pos (by decide)]
 refine Qy (Qf (QW (hq _ (h.objs.size+1) ⟨fun b o hb=>Qd _ (Qd _ hb),Jj (GY _),h.objs.size,G,Jj (Qh _),?_⟩ (GY _)) (fun r s' hr=>?_) fun _ _ x=>x))
 · exact Qd _ (Ot rfl rfl)
 · obtain ⟨rfl,hQ⟩:=hr
   wp_walk
   exact hQ
theorem Znv (T:VT bm)(G:h.get? C=some (GQ nm q C N bs bm true sn sub ab col dd k0 k1 k2 k3 k5 "ValueError.__new__"))(LI:GI (Qs prog w) h (QZ (.ref C) "__init__") (some (.ref J)))(I:h.get? J=some W)(U:W.cls=.type "function")(hq:∀ h' e,Heap.MadeExcOf h h' e (.ref C) rest->h.objs.size<=e ->
  Qr (Qs prog w) (A.under (.builtin "type.__call__" ⟨.ref C::rest,[]⟩)) (call (.ref J) (.ref e::rest)) (fun r s'=>r=.none/\Q (.ref e) s') E ⟨h',g,d,t,os⟩)(B:rest.length<=Qj):
 Qr (Qs prog w) A (call (.ref C) rest) Q E ⟨h,g,d,t,os⟩:=by
 have f1:=tc_lookup
 have f2:=tc_bind (.ref C)
 have hT:(⟨h,g,d,t,os⟩:Qe).TypeIs (.ref C) "type":=⟨_,G,rfl⟩
 refine Jm (Na ?_)
 show Qr _ _ (callAny (.ref C) _) _ _ _
 repeat (any_goals (first | assumption | with_reducible refine QI G ?_ | wp_step))
 refine ⟨rfl,?_⟩
 refine codeAny_call_builtin_at (JA _ (by decide +kernel)) entry_typeCall (wpAny_check_type_call_sub G (ZeH T G LI I U (fun h' e Z S=>?_) B))
 exact hq h' e Z S
theorem ZlG (T:VT bm)(hh:A.handled=none)(h:Qr M A x (fun v B=>∃ e I vs,v=.ref e/\B.heap.get? C=some (GQ nm q C N bs bm true sn sub ab col dd k0 k1 k2 k3 k5 "ValueError.__new__") /\
  B.heap.get? e=some I/\I.cls=.ref C/\I.data=.fields vs/\vs[1]?=some .none/\E (.ref e) B) E s):
 Qr M A (raiseStmt env (some x) none) Q E s:=by
 have S:(Qm C::bm).contains (.type "BaseException")=true:=by rw [contains_cons,T.has GL.hasBase,Sk]
 unfold raiseStmt
 refine Qf (QW h (fun v B J=>?_) fun _ _ x=>x)
 obtain ⟨e,I,vs,rfl,W,Z,G,U,h1,hE⟩:=J
 obtain ⟨oc,odi,oda,osl⟩:=I
 dsimp only at G U
 subst G U
 obtain ⟨hp,g,d,tk,os⟩:=B
 repeat (first | with_reducible refine QI Z ?_ | with_reducible refine QI W ?_ | (with_reducible refine Gp W ?_;rw [S]) | with_reducible refine Tk Z rfl h1 ?_ | wp_step)
 exact wpAny_raiseNew_none hh hE
end
section
variable {prog:Qk}{w:Qt}{A:QA}{E:Qb->Qe->Prop}{h:Heap}{g:Array RN}{d:Drawn}{t:Nat}{os:OsState}
variable {nm q:Str}{C N x:Addr}{bs bm:List Qb}{sn:List Str}{sub:List Qb}{ab:Bool}{col:Option Bool}{dd:Option Addr}{k0 k1 k2 k3 k5:Option Qb}{name:Str}{v:Qb}{o:Obj}
theorem ZgJ (T:VT bm)(S:h.get? C=some (GQ nm q C N bs bm true sn sub ab col dd k0 k1 k2 k3 k5 "ValueError.__new__"))(J:h.get? x=some o)(U:o.cls=.ref C)(W:Q () ⟨h,g,d,t,os⟩):
 Qr M A (Gs "object.__setattr__" ⟨[.ref x,B,v],[]⟩) Q E ⟨h,g,d,t,os⟩:=by
 have G:=Jw
 have I:(Qm C::bm).contains (.type "object")=true:=by rw [contains_cons,T.has G.hasOwner,Sk]
 have Z:=G.args (.ref x) B v
 simp only [Gs,G.kind,G.split]
 refine Qf ?_
 ·unfold isInstance
  repeat (first | (with_reducible refine QI J ?_;rw [U]) | (with_reducible refine Gp S ?_;rw [I]) | wp_step)
  exact W
theorem ZlH (T:VT bm)(hC:h.get? C=some (GQ nm q C N bs bm true sn sub ab col dd k0 k1 k2 k3 k5 "ValueError.__new__"))(LS:GI (Qs prog w) h (QZ (.ref C) "__setattr__") (some (.builtin "object.__setattr__")))(LN:GI (Qs prog w) h (QZ (.ref C) name) none)(J:h.get? x=some o)(hc:o.cls=.ref C)(hdn:o.dict=none)(hnc:∀ c,o.data≠.cls c)(hq:∀ h' tk',h'.get? x=some { o with dict:=some h.objs.size }->h'.Ns1 h.objs.size (fun y=>if y=name then some v else none)->(∀ b ob,b≠x->h.get? b=some ob->h'.get? b=some ob)->Q () ⟨h',g,d,tk',os⟩):
   Qr (Qs prog w) A (setAttr (.ref x) name v) Q E ⟨h,g,d,t,os⟩:=by
 have SF:=Jw
 have f3:=SF.slot.bind (.ref x)
 unfold setAttr callSpecial? specialOf
 have LS':∀ {tk:Nat} {A:QA} {Q:Option Qb->Qe->Prop} {E:Qb->Qe->Prop},Q (some (.builtin "object.__setattr__")) ⟨h,g,d,tk,os⟩->Qr (Qs prog w) A (QZ (.ref C) "__setattr__") Q E ⟨h,g,d,tk,os⟩:=fun q=>LS _ _ _ _ (fun _ _ e=>e) q
 have LN':∀ {tk:Nat} {A:QA} {Q:Option Qb->Qe->Prop} {E:Qb->Qe->Prop},Q none ⟨h,g,d,tk,os⟩->Qr (Qs prog w) A (QZ (.ref C) name) Q E ⟨h,g,d,tk,os⟩:=fun q=>LN _ _ _ _ (fun _ _ e=>e) q
 repeat (any_goals (first | assumption | (with_reducible refine QI J ?_;rw [hc]) | (with_reducible refine LS' ?_) | wp_step))
 refine GP SF.slot.plain SF.entry (ZgJ T hC J hc ?_)
 have I:=T.refuse (.ref x)
 unfold Jg.«object.__setattr__»
 repeat (first | rw [refuse_eq] | (rw [refuseLoop_ref,I]) | (with_reducible refine QI J ?_;rw [hc]) | with_reducible refine wpAny_mroOf_exc hC ?_ | (with_reducible refine LN' ?_) | wp_step)
 rw [hdn,if_neg (by simp [typeHasDict])]
 split
 · rename_i G
   cases G
 split
 · rename_i c G
   exact absurd G (hnc c)
 · have B:(h.push { cls:=.type "dict",data:=.dict #[] }).get? x=some o:=Qd _ J
   have S:x≠h.objs.size:=Qu (Qg J)
   refine Qf (wpAny_alloc' ?_)
   refine Qf (wpAny_update' B ?_)
   refine Qy ?_
   have hgd:((h.push { cls:=.type "dict",data:=.dict #[] }).update x fun o=>{ cls:=o.cls,dict:=some h.objs.size,data:=o.data,slots:=o.slots }).get? h.objs.size
       = some { cls:=.type "dict",data:=.dict #[] } :=
     (Py _ _ _ _ S.symm).trans (Ot rfl rfl)
   have hnd:((h.push { cls:=.type "dict",data:=.dict #[] }).update x fun o=>{ cls:=o.cls,dict:=some h.objs.size,data:=o.data,slots:=o.slots }).Ns h.objs.size (fun _=>none) :=
     ⟨_,#[],_,hgd,rfl,fun e he=>absurd he (by simp),fun _=>rfl⟩
   show Qr _ _ (JX h.objs.size (.str name _) name v) _ _ _
   unfold JX OJ
   refine Qf (Qy (Qf (wpAny_nsSet1 (RT hnd) fun h' U hs=>?_)))
   obtain ⟨oD,esD,epD,Z,hdD,hcD⟩:=U.count (Within.cons name v Within.nil)
   refine Qf (Ow Z (by rw [hdD];exact Ox (Qq hcD (by rw [length_cons,Pk,QR];omega))) ?_)
   wp_walk
   have hx':h'.get? x=some { cls:=o.cls,dict:=some h.objs.size,data:=o.data,slots:=o.slots }:=by
     refine (hs.2 x S).trans (Jd _ B ?_)
     have hfr:=(Heap.get?_some_iff.mp J).2
     obtain ⟨oc,od,odt,osl⟩:=o
     cases odt<;>first | rfl | exact hfr
   repeat (any_goals (first | assumption | wp_step))
   exact hq h' _ hx' U fun b ob W hb=>(hs.2 b (Qu (Qg hb))).trans ((Py _ _ _ _ W).trans (Qd _ hb))
end
def TbAt (base:Heap)(n:Nat)(H:Hp)(h:Heap)(ea:Addr)(vs:Array Qb):Option Qb->Prop
 | none=>vs[1]?=some .none
 | some fl=>∃ T oT ts,vs[1]?=some (.ref T)/\T≠ea/\base.get? T=none/\H T=none/\n<=T/\h.get? T=some oT/\oT.data=.fields ts/\ts[3]?=some fl
def ExcAt (base:Heap)(n:Nat)(H:Hp)(ea C dx:Addr)(fl:Option Qb)(h:Heap):Prop :=
 base.get? ea=none/\H ea=none/\n<=ea/\∃ oe vs,h.get? ea=some oe/\oe.cls=.ref C/\oe.dict=some dx/\oe.data=.fields vs/\TbAt base n H h ea vs fl
def Keep (fs:List Addr)(n:Nat)(H:Hp)(h h':Heap):Prop :=
 (∀ b o,h.get? b=some o->b∈fs->∃ sl,h'.get? b=some { o with slots:=sl })/\(∀ b o,h.get? b=some o->b ∉ fs->(H b≠none\/b < n)->h'.get? b=some o) /\
 (∀ b m,h.Ns b m->h'.Ns b m)/\(∀ b v,h.IsCell b v->h'.IsCell b v)/\h.objs.size<=h'.objs.size
theorem Keep.trans {n:Nat}(a:Keep fs n H h h1)(b:Keep fs n H h1 h2):Keep fs n H h h2:=by
 refine ⟨fun c o e m=>?_,fun c o e m k=>b.2.1 c o (a.2.1 c o e m k) m k,fun c m x=>b.2.2.1 c m (a.2.2.1 c m x),fun c v x=>b.2.2.2.1 c v (a.2.2.2.1 c v x),Qq a.2.2.2.2 b.2.2.2.2⟩
 obtain ⟨I,e1⟩:=a.1 c o e m
 obtain ⟨B,G⟩:=b.1 c _ e1 m
 exact ⟨B,G⟩
theorem Zgd {h h':Heap}(k:∀ b o,h.get? b=some o->(∀ vs,o.data≠.fields vs)->∃ G,h'.get? b=some { o with slots:=G }){b:Addr}{m:Str->Option Qb}(x:h.Ns b m):h'.Ns b m:=by
 obtain ⟨o,es,ep,J,B,r⟩:=x
 obtain ⟨G,I⟩:=k b o J fun vs q=>by rw [B] at q;cases q
 exact ⟨_,es,ep,I,B,r⟩
theorem ZbK {h h':Heap}(k:∀ b o,h.get? b=some o->(∀ vs,o.data≠.fields vs)->∃ B,h'.get? b=some { o with slots:=B }){b:Addr}{v:Option Qb}(x:h.IsCell b v):h'.IsCell b v:=by
 obtain ⟨o,I,G⟩:=x
 obtain ⟨B,J⟩:=k b o I fun vs q=>by rw [G] at q;cases q
 exact ⟨_,J,G⟩
section
variable {M:Ro}{A:QA}{E:Qb->Qe->Prop}{s:Qe}{base:Heap}{n:Nat}{H:Hp}{env:Env}{outer:List Env}{L ea C dx:Addr}
theorem Zbk (hfr:A.frames=some (env::outer))(hl:s.heap.FunFrames base (env::outer))(hf:env.frame=some L)(he:s.heap.get? ea=some oe)(hkb:base.StaysIn s.heap)(hen:base.get? ea=none)(hHe:H ea=none)(hne:n<=ea)(hcl:oe.cls=.ref C)(hdi:oe.dict=some dx)(hd:oe.data=.fields vs)(hsz:1 < vs.size)(hH:∀ b,s.heap.objs.size<=b->H b=none)(h:∀ h',base.StaysIn h'->h'.FunFrames base (env::outer)->ExcAt base n H ea C dx (some (Gd L)) h'->Keep (Yv (env::outer)) n H s.heap h'->Q () { s with heap:=h' }):
   Qr M A (do let a <- frameOf env;let pl <- entryPlaceOf L hadNext;let b <- Rn I a .none (Gd L) .none pl;setField (.ref ea) 1 b) Q E s:=by
 have hene:ea ∉ (env::outer).filterMap (·.frame):=fun hm=>by
   obtain ⟨_,o,ho,S⟩:=hl.mem hm
   rw [he] at ho;injection ho with ho;subst ho;exact S vs hd
 refine Qf (wpAny_frameOf_fun hfr hl hf fun B G=>?_)
 refine Qf (wpAny_entryPlaceOf fun pl hpl=>?_)
 unfold Rn newFields
 refine Qf (JJ ?_ (hpl.sizeOk5 _ _ _ _ _))
 have U:B.get? ea=some oe:=(G.2.1 ea hene).trans he
 have Z:base.StaysIn B:=fun b o J=>(G.2.1 b fun hm=>by rw [(hl.mem hm).1] at J;cases J).trans (hkb b o J)
 have he₂:=Qd (h:=B) { cls:=.type "traceback",dict:=none,data:=.fields ([I,.ref L,.none,Gd L,.none]++(if pl.isEmpty then QY 6 QT else pl)).toArray } U
 refine SZ he₂ hd hsz ?_
 have hTe:B.objs.size≠ea:=GZ (Qg U)
 have hd₃:=Tb hd (·.setIfInBounds 1 (Qm B.objs.size))
 have he₃:=Jd (Ge (·.setIfInBounds 1 (Qm B.objs.size))) he₂ (Sz hd₃)
 have hT₃:=(Gm (B.push { cls:=.type "traceback",dict:=none,data:=.fields ([I,.ref L,.none,Gd L,.none]++(if pl.isEmpty then QY 6 QT else pl)).toArray })
   (Ge (·.setIfInBounds 1 (Qm B.objs.size))) (Gv hTe)).trans (Qo B rfl)
 have keep:∀ b o,b≠ea->B.get? b=some o ->
     ((B.push { cls:=.type "traceback",dict:=none,data:=.fields ([I,.ref L,.none,Gd L,.none]++(if pl.isEmpty then QY 6 QT else pl)).toArray }).update ea (Ge (·.setIfInBounds 1 (Qm B.objs.size)))).get? b=some o :=
   fun b o hbe hb=>by
     rw [Gm _ _ (Gv hbe)]
     exact Qd _ hb
 have W:∀ b o,s.heap.get? b=some o->(∀ vs,o.data≠.fields vs)->b≠ea:=fun b o hb S q=>by
   rw [q,he] at hb;injection hb with hb;subst hb;exact S vs hd
 have up:∀ b o,s.heap.get? b=some o->(∀ vs,o.data≠.fields vs)->∃ sl,((B.push { cls:=.type "traceback",dict:=none,data:=.fields ([I,.ref L,.none,Gd L,.none]++(if pl.isEmpty then QY 6 QT else pl)).toArray }).update ea (Ge (·.setIfInBounds 1 (Qm B.objs.size)))).get? b=some { o with slots:=sl }:=fun b o hb S=>by
   obtain ⟨sl,hs⟩:=G.2.2 b o hb
   exact ⟨sl,keep b _ (W b o hb S) hs⟩
 have hmap:∀ {o:Obj} {f:Array Qb->Array Qb},(o.mapFields f).dict=o.dict:=fun {o f}=>by unfold Ge;split<;>rfl
 refine h _ (fun b o J=>keep b o (fun q=>by rw [q,hen] at J;cases J) (Z b o J)) (hl.of_keeps fun b o hb S=>let ⟨sl,e⟩:=up b o hb S;⟨_,e,rfl⟩) ?_ ?_
 · refine ⟨hen,hHe,hne,_,_,he₃,(Obj.cls_mapFields _ _).trans hcl,hmap.trans hdi,hd₃,B.objs.size,_,_,by simp [hsz],hTe,Z.fresh,hH _ (by rw [G.1];exact Qh _),?_,hT₃,rfl,by first | (simp;done) | (rcases hpl with rfl | ⟨_,_,_,_,_,_,_,rfl⟩<;>simp)⟩
   exact Qq hne (GF (Qg U))
 · refine ⟨fun b o hb hm=>?_,fun b o hb hm k=>?_,fun b m x=>Zgd up x,fun b v x=>ZbK up x,?_⟩
   · obtain ⟨sl,hs⟩:=G.2.2 b o hb
     exact ⟨sl,keep b _ (fun q=>hene (by rw [<- q];exact hm)) hs⟩
   · refine keep b o (fun q=>?_) ((G.2.1 b hm).trans hb)
     rcases k with k | k
     · exact k (by rw [q];exact hHe)
     · rw [q] at k;exact absurd k (QV.mpr hne)
   · rw [JP,Jl,G.1];exact GY _
theorem Zfc (hfl:fl=none\/fl=some .none)(Z:A.frames=some (env::outer))(hl:s.heap.FunFrames base (env::outer))(hf:env.frame=some L)(hkb:base.StaysIn s.heap)(x:ExcAt base n H ea C dx fl s.heap)(hH:∀ b,s.heap.objs.size<=b->H b=none)(h:∀ h',base.StaysIn h'->h'.FunFrames base (env::outer)->ExcAt base n H ea C dx (some (Gd L)) h'->Keep (Yv (env::outer)) n H s.heap h'->Q () { s with heap:=h' }):
 Qr M A (noteFrame (.ref ea) env) Q E s:=by
 obtain ⟨hen,hHe,U,oe,vs,he,hcl,hdi,hd,tb⟩:=x
 unfold noteFrame
 simp only [hf]
 rcases hfl with rfl | rfl
 ·have h1:vs[1]?=some .none:=tb
  refine Qf (Tk he hd h1 ?_)
  rw [if_neg (by decide)]
  exact Zbk Z hl hf he hkb hen hHe U hcl hdi hd (Ga.mp h1).1 hH h
 ·obtain ⟨T,oT,ts,h1,hTe,hnT,hHT,W,hT,J,h3⟩:=tb
  refine Qf (Tk he hd h1 ?_)
  rw [if_pos (show (Qm T != QT)=true from by simp)]
  refine Qf (Tk hT J h3 ?_)
  rw [if_neg (show ¬ ((QT == Gd L)=true) from by simp [Gd])]
  refine Qf (SZ hT J (Ga.mp h3).1 ?_)
  have B:∀ b,b≠T->(s.heap.update T (Ge (·.setIfInBounds 3 QT))).get? b=s.heap.get? b:=fun b hb=>Gm _ _ (Gv hb)
  have G:∀ b o,s.heap.get? b=some o->(∀ vs,o.data≠.fields vs)->b≠T:=fun b o hb I q=>by
   rw [q,hT] at hb;injection hb with hb;subst hb;exact I ts J
  have up:∀ b o,s.heap.get? b=some o->(∀ vs,o.data≠.fields vs)->∃ sl,(s.heap.update T (Ge (·.setIfInBounds 3 QT))).get? b=some { o with slots:=sl }:=fun b o hb I=>⟨o.slots,(B b (G b o hb I)).trans hb⟩
  have hsz:(s.heap.update T (Ge (·.setIfInBounds 3 QT))).objs.size=s.heap.objs.size:=JP ..
  have kp:Keep (Yv (env::outer)) n H s.heap (s.heap.update T (Ge (·.setIfInBounds 3 QT))):=by
   refine ⟨fun b o hb hm=>⟨o.slots,(B b fun q=>?_).trans hb⟩,fun b o hb hm k=>(B b fun q=>?_).trans hb,fun b m x=>Zgd up x,fun b v x=>ZbK up x,Jn hsz.symm⟩
   ·obtain ⟨_,o',ho',I⟩:=hl.mem hm
    rw [q,hT] at ho';cases ho';exact I ts J
   ·rcases k with k | k
    ·exact k (by rw [q];exact hHT)
    ·rw [q] at k;exact absurd k (QV.mpr W)
  exact Zbk (s:={ s with heap:=s.heap.update T (Ge (·.setIfInBounds 3 QT)) }) Z (hl.of_keeps fun b o hb I=>⟨o,(B b (G b o hb I)).trans hb,rfl⟩) hf ((B ea (Gv hTe)).trans he)
   (fun b o S=>(B b fun q=>by rw [q,hnT] at S;cases S).trans (hkb b o S)) hen hHe U hcl hdi hd (Ga.mp h1).1 (fun b hb=>hH b (by rw [<- hsz];exact hb))
   fun h' x1 x2 x3 x4=>h h' x1 x2 x3 (kp.trans x4)
theorem VN (hkb:base.StaysIn s.heap)(hl:s.heap.FunFrames base l)(x:ExcAt base n H ea C dx (some fl) s.heap)(h:∀ h',base.StaysIn h'->h'.FunFrames base l->ExcAt base n H ea C dx (some .none) h'->(∀ fs,(∀ b∈fs,∃ o,s.heap.get? b=some o/\∀ vs,o.data≠.fields vs)->Keep fs n H s.heap h')->Q () { s with heap:=h' }):
 Qr M A (setFlight (.ref ea) none) Q E s:=by
 obtain ⟨hen,hHe,hne,oe,vs,he,hcl,hdi,hd,T,oT,ts,h1,Z,hnT,hHT,S,hT,J,h3⟩:=x
 have U:3 < ts.size:=(Ga.mp h3).1
 have B:∀ b,b≠T->(s.heap.update T (Ge (·.setIfInBounds 3 ((none:Option Addr).elim QT fun f=>Gd f)))).get? b=s.heap.get? b :=
  fun b hb=>Gm _ _ (Gv hb)
 have G:∀ b o,s.heap.get? b=some o->(∀ vs,o.data≠.fields vs)->b≠T:=fun b o hb I q=>by
  rw [q,hT] at hb;injection hb with hb;subst hb;exact I ts J
 have up:∀ b o,s.heap.get? b=some o->(∀ vs,o.data≠.fields vs)->∃ sl,(s.heap.update T (Ge (·.setIfInBounds 3 ((none:Option Addr).elim QT fun f=>Gd f)))).get? b=some { o with slots:=sl }:=fun b o hb I=>⟨o.slots,(B b (G b o hb I)).trans hb⟩
 unfold setFlight
 refine Qf (Tk he hd h1 ?_)
 rw [if_pos (show (Qm T != QT)=true from by simp)]
 refine SZ hT J U (h _ (fun b o W=>(B b fun q=>by rw [q,hnT] at W;cases W).trans (hkb b o W))
  (hl.of_keeps fun b o hb I=>⟨o,(B b (G b o hb I)).trans hb,rfl⟩) ?_ fun fs hfs=>?_)
 ·exact ⟨hen,hHe,hne,oe,vs,(B ea (Gv Z)).trans he,hcl,hdi,hd,T,_,_,h1,Z,hnT,hHT,S,Jd _ hT (Sz (Tb J _)),Tb J _,by simp [U]⟩
 ·refine ⟨fun b o hb hm=>⟨o.slots,(B b fun q=>?_).trans hb⟩,fun b o hb hm k=>(B b fun q=>?_).trans hb,fun b m x=>Zgd up x,fun b v x=>ZbK up x,Jn (JP ..).symm⟩
  ·obtain ⟨o',ho',I⟩:=hfs b hm
   rw [q,hT] at ho';cases ho';exact I ts J
  ·rcases k with k | k
   ·exact k (by rw [q];exact hHT)
   ·rw [q] at k;exact absurd k (QV.mpr S)
theorem ZdO (I:S=none\/S=some .none)(G:A.frames=some (env::outer))(hl:s.heap.FunFrames base (env::outer))(W:env.frame=some L)(J:base.StaysIn s.heap)(x:ExcAt base n H ea C dx S s.heap)(hH:∀ b,s.heap.objs.size<=b->H b=none)(h:∀ h',base.StaysIn h'->h'.FunFrames base outer->ExcAt base n H ea C dx (some .none) h'->Keep (Yv (env::outer)) n H s.heap h'->Q () { s with heap:=h' }):
 Qr M A (leaving env (.ref ea)) Q E s:=by
 unfold leaving
 refine Qf (Zfc I G hl W J x hH fun h1 b1 U x1 k1=>?_)
 refine VN b1 U x1 fun h2 b2 f2 Z k2=>h h2 b2 f2.2.2 Z (k1.trans (k2 _ fun b hb=>?_))
 obtain ⟨_,o,ho,B⟩:=U.mem hb
 exact ⟨o,ho,B⟩
end
theorem Keep.hok {n:Nat}(x:HOk P w H h)(G:∀ b∈fs,H b=none)(k:Keep fs n H h h'):HOk P w H h':=fun a o e=>by
 have B:∀ b,b=a\/H b=some (.own a)->H b≠none:=fun b hb z=>by
  rcases hb with rfl | hb
  ·rw [e] at z;cases z
  ·rw [hb] at z;cases z
 exact (x a o e).stay (fun b u hb q=>k.2.1 b u q (fun m=>B b hb (G b m)) (.inl (B b hb))) (fun _ q=>q) (fun _ _ q=>q)
theorem ExcAt.le {n G:Nat}(x:ExcAt base G H ea C dx B h)(l:n<=G):ExcAt base n H ea C dx B h:=by
 obtain ⟨a,b,c,S,vs,e1,U,Z,e4,tb⟩:=x
 refine ⟨a,b,Qq l c,S,vs,e1,U,Z,e4,?_⟩
 cases B with
 | none=>exact tb
 | some f=>obtain ⟨T,oT,ts,t1,I,J,t4,t5,W⟩:=tb;exact ⟨T,oT,ts,t1,I,J,t4,Qq l t5,W⟩
section
variable {X:Cx}{pins:List (Addr×Obj)}{σ:St}{H H1 H2:Hp}{s s1 s2:Qe}{h':Heap}
def ZgK (n:Nat)(H:Hp)(h:Heap):List Addr:=(Jx h.objs.size).filter fun b=>(H b).isNone&&decide (n<=b)
theorem Inv.flown {t':Nat}(J:Inv X pins σ H1 s1)(S:Inv X pins σ H2 s2)(k:Keep (Yv X.stack) s1.heap.objs.size H2 s2.heap h'):Inv X pins σ H2 { s2 with heap:=h',toks:=t' }:=by
 have W:∀ b,b∈ZgK s1.heap.objs.size H2 s2.heap->s1.heap.objs.size<=b:=fun b hb=>by
  have:=(mem_filter.mp hb).2
  simp only [QM,decide_eq_true_eq] at this
  exact this.2
 have I:∀ b o,s2.heap.get? b=some o->b ∉ ZgK s1.heap.objs.size H2 s2.heap->H2 b≠none\/b < s1.heap.objs.size:=fun b o e hb=>by
  by_cases z:H2 b=none
  ·refine .inr (Nat.lt_of_not_le fun l=>hb (mem_filter.mpr ⟨SG.mpr (Qg e),?_⟩))
   rw [z];simp [l]
  ·exact .inl z
 refine S.call (g':=s2.gens) (d':=s2.drawn) (ch:=ZgK s1.heap.objs.size H2 s2.heap) ⟨fun b o e Z U G=>k.2.1 b o e U (I b o e G),fun b o e Z U G=>k.1 b o e U,fun b o e Z G=>Z,fun b o e G=>?_,fun _ _ e=>e,fun _ _ _ e=>e,fun _ ps e=>⟨#[],by rw [e];simp⟩⟩ (k.hok S.hok S.stkFree) S.bare fun b hb=>?_
 ·by_cases m:b∈Yv X.stack
  ·obtain ⟨sl,q⟩:=k.1 b o e m;exact ⟨_,q⟩
  ·exact ⟨o,k.2.1 b o e m (I b o e G)⟩
 ·have B:=W b hb
  refine ⟨.inr (Qq J.sz B),fun z=>?_,fun x c hx z=>?_,fun p hp z=>?_⟩
  ·have:=J.lt;rw [<- z] at this;exact absurd this (QV.mpr B)
  ·obtain ⟨v,o,e,_⟩:=J.cell x c hx
   have:=Qg e;rw [z] at this;exact absurd this (QV.mpr B)
  ·have:=Qg (J.pin p hp).1;rw [z] at this;exact absurd this (QV.mpr B)
structure Cx.Old (X:Cx)(a:Addr):Prop where
 t:∀ xs,X.H₀ a≠some (.tup xs)
 f:∀ o u,X.H₀ a≠some (.frz o u)
 b:∀ ps,X.H₀ a≠some (.tbl ps)
theorem Inv.old {a:Addr}(I:Inv X pins σ H s)(h:H a=none):X.Old a where
 t:=fun xs e=>(by have:=I.base.tups a xs e;rw [h] at this;cases this)
 f:=fun o u e=>(by have:=I.base.frzs a o u e;rw [h] at this;cases this)
 b:=fun ps e=>(by obtain ⟨m,q⟩:=I.base.tbls a ps e;rw [h] at q;cases q)
theorem Cx.Old.nt {a b:Addr}(O:X.Old a){xs:List V}(e:X.H₀ b=some (.tup xs)):b≠a:=fun z=>O.t xs (by rw [<- z];exact e)
theorem Cx.Old.nf {a b:Addr}(O:X.Old a){o:Obj}{u:HO}(e:X.H₀ b=some (.frz o u)):b≠a:=fun z=>O.f o u (by rw [<- z];exact e)
theorem Cx.Old.nb {a b:Addr}(O:X.Old a){ps:Array Qb}(e:X.H₀ b=some (.tbl ps)):b≠a:=fun z=>O.b ps (by rw [<- z];exact e)
theorem Inv.track (I:Inv X pins σ H s)(G:H a=none)(S:X.s₀.heap.objs.size<=a)(U:a≠X.env.locals)(Z:∀ x c,X.env.cells.lookup x=some c->c≠a)(hp:∀ p∈X.pn++pins,p.1≠a)(new:ObjOk X.prog X.w (upd H a o) s.heap a o):Inv X pins σ (upd H a o) s:=by
 have old:∀ b u,X.s₀.heap.get? b=some u->b≠a:=fun b u e z=>by
  have:=Qg e;rw [z] at this;exact absurd this (QV.mpr S)
 refine ⟨I.ok,I.os,I.bare,⟨I.base.keep,I.base.slot,fun b u e n J=>?_,I.base.there,fun b xs e=>?_,fun b u xs e=>?_,fun b ps e=>?_⟩,I.loc,I.cell,?_,fun x c J=>?_,fun p B=>?_,fun b u e=>?_,I.len⟩
 ·rw [Zh (old b u e)];exact I.base.free b u e n J
 ·rw [Zh ((I.old G).nt e)];exact I.base.tups b xs e
 ·rw [Zh ((I.old G).nf e)];exact I.base.frzs b u xs e
 ·rw [Zh ((I.old G).nb e)];exact I.base.tbls b ps e
 ·rw [Zh (Gv U)];exact I.free
 ·rw [Zh (Z x c J)];exact I.freeC x c J
 ·obtain ⟨e1,W,e3⟩:=I.pin p B
  exact ⟨e1,by rw [Zh (hp p B)];exact W,e3⟩
 ·by_cases z:b=a
  ·subst z;rw [Ze] at e;cases e;exact new
  ·rw [Zh z] at e
   exact (I.hok b u e).stay (fun _ _ _ q=>q) (fun c q=>by rw [Zh (Zq q G)];exact q) (fun c xs q=>by rw [Zh (Zq q G)];exact q)
end
def XC (P:Qk)(w:Qt)(base:Heap):Ui:=fun outer H s E e s'=>∃(ea C dx:Addr)(H':Hp),e=.ref ea/\base.StaysIn s'.heap/\s'.heap.FunFrames base outer/\ExcAt base s.heap.objs.size H' ea C dx (some .none) s'.heap/\s'.os=s.os/\Pz s'.gens /\
 Un (Yv outer) [] H H' s.heap s'.heap/\HOk P w H' s'.heap/\E (.ref C) (some dx) H'
section
variable {P:Qk}{w:Qt}{K:Qa}{mg:Str->Option Qb}{base:Heap}{k:Nat}{f:Addr}{fd:Qn}{ps:List Str}{sp sp':Sp}{CX:Ui}
def Xq (X:Cx)(EE:St->XK):Prop:=∀(pins:List (Addr×Obj))(σ:St)(H1 H2:Hp)(s1 s2:Qe)(ea C dx:Addr)(fl:Option Qb),Inv X pins σ H1 s1->Inv X pins σ H2 s2->(fl=none\/fl=some .none)->ExcAt X.base s1.heap.objs.size H2 ea C dx fl s2.heap->EE σ (.ref C) (some dx) H2->X.xe (.ref ea) s2
theorem Ziu :Xq (ZQ (XC P w base) P w K mg base N qual scope f U A outer s H E) (fun _=>E):=by
 intro pins σ H1 H2 s1 s2 ea C dx fl I1 B hfl x q
 have hsz:s.heap.objs.size<=s1.heap.objs.size:=I1.sz
 have G:HOk P w H2 s2.heap:=B.hok
 refine ZdO (base:=base) (n:=s.heap.objs.size) (H:=H2) (outer:=outer) (L:=s.heap.objs.size) hfl B.ok.frames B.stack rfl B.bk (x.le hsz) (fun b hb=>G.fresh hb) fun h' b1 f1 x1 k1=>?_
 have un:Un (Yv outer) [] H H2 s.heap s2.heap:=B.base
 have nL:∀ b o,s.heap.get? b=some o->b ∉ Yv outer->b ∉ Yv (JV qual scope s.heap.objs.size f U::outer):=fun b o e I m=>by
  rcases mem_filterMap.mp m with ⟨v,hv,S⟩
  rcases mem_cons.mp hv with rfl | hv
  ·cases (show some s.heap.objs.size=some b from S);exact absurd (Qg e) (Gg _)
  ·exact I (mem_filterMap.mpr ⟨v,hv,S⟩)
 have inL:∀ b,b∈Yv outer->b∈Yv (JV qual scope s.heap.objs.size f U::outer):=fun b m=>by
  obtain ⟨v,hv,S⟩:=mem_filterMap.mp m
  exact mem_filterMap.mpr ⟨v,mem_cons_of_mem _ hv,S⟩
 refine ⟨ea,C,dx,H2,rfl,b1,f1,x1,B.os,B.bare,⟨fun b o e hn I J=>k1.2.1 b o (un.keep b o e hn I J) (nL b o e I) (.inr (Qg e)),fun b o e hn I J=>?_,un.free,fun b o e J=>?_,un.tups,un.frzs,un.tbls⟩,k1.hok G B.stkFree,q⟩
 ·obtain ⟨sl,e1⟩:=un.slot b o e hn I J
  obtain ⟨W,Z⟩:=k1.1 b _ e1 (inL b I)
  exact ⟨W,Z⟩
 ·obtain ⟨o',e1⟩:=un.there b o e J
  by_cases m:b∈Yv (JV qual scope s.heap.objs.size f U::outer)
  ·obtain ⟨sl,Z⟩:=k1.1 b o' e1 m;exact ⟨_,Z⟩
  ·exact ⟨o',k1.2.1 b o' e1 m (.inr (Qg e))⟩
end
abbrev Cx.tryc (X:Cx)(pn:List (Addr×Obj))(Z:Qb->Qe->Prop):Cx:={ X with pn:=pn,xe:=Z }
abbrev Cx.marked (X:Cx)(ea:Addr)(Z:Qb->Qe->Prop):Cx:={ X with A:=X.A.mark (some (.ref ea)),calm:=false,xe:=Z }
def XO (ea C dx:Addr):HO:=.ext fun h=>∃ oe vs,h.get? ea=some oe/\oe.cls=.ref C/\oe.dict=some dx/\oe.data=.fields vs
section
variable {X:Cx}{pins:List (Addr×Obj)}{σ:St}{H:Hp}{s:Qe}
theorem Inv.tryc (I:Inv X pins σ H s)(Z:Qb->Qe->Prop):Inv (X.tryc (X.pn++pins) Z) [] σ H s :=
 ⟨⟨I.ok.mod,I.ok.kind,I.ok.glob,I.ok.blt,I.ok.above,I.ok.inj,I.ok.has,I.ok.cab,I.ok.hd,I.ok.frames,I.ok.stk,I.ok.exf,I.ok.bs,I.ok.bsz,I.ok.noex,I.ok.exfs,I.ok.funs,I.ok.frf⟩,I.os,I.bare,I.base,I.loc,I.cell,I.free,I.freeC,fun p hp=>I.pin p (by rw [Pm] at hp;exact hp),I.hok,I.len⟩
theorem Inv.untryc (I:Inv (X.tryc (X.pn++pins) Z) B σ H s):Inv X pins σ H s :=
 ⟨⟨I.ok.mod,I.ok.kind,I.ok.glob,I.ok.blt,I.ok.above,I.ok.inj,I.ok.has,I.ok.cab,I.ok.hd,I.ok.frames,I.ok.stk,I.ok.exf,I.ok.bs,I.ok.bsz,I.ok.noex,I.ok.exfs,I.ok.funs,I.ok.frf⟩,I.os,I.bare,I.base,I.loc,I.cell,I.free,I.freeC,fun p hp=>I.pin p (Pb _ hp),I.hok,I.len⟩
theorem Inv.mark (I:Inv X pins σ H s)(ea:Addr)(Z:Qb->Qe->Prop):Inv (X.marked ea Z) pins σ H s :=
 ⟨⟨I.ok.mod,I.ok.kind,I.ok.glob,I.ok.blt,I.ok.above,I.ok.inj,I.ok.has,I.ok.cab,(fun z=>by cases z),I.ok.frames,I.ok.stk,I.ok.exf,I.ok.bs,I.ok.bsz,I.ok.noex,I.ok.exfs,I.ok.funs,I.ok.frf⟩,I.os,I.bare,I.base,I.loc,I.cell,I.free,I.freeC,I.pin,I.hok,I.len⟩
theorem Inv.unmark (I:Inv (X.marked ea Z) pins σ H s)(B:X.calm=true->X.A.handled=none):Inv X pins σ H s :=
 ⟨⟨I.ok.mod,I.ok.kind,I.ok.glob,I.ok.blt,I.ok.above,I.ok.inj,I.ok.has,I.ok.cab,B,I.ok.frames,I.ok.stk,I.ok.exf,I.ok.bs,I.ok.bsz,I.ok.noex,I.ok.exfs,I.ok.funs,I.ok.frf⟩,I.os,I.bare,I.base,I.loc,I.cell,I.free,I.freeC,I.pin,I.hok,I.len⟩
theorem ZkC {i:Nat}(I:Inv X pins σ H s)(hN:X.N.Nodup)(hi:X.N[i]?=some x)(hk:X.env.kindOf x=some .local)(h:∀ s',Inv X pins (σ.set i none) H s'->Q () s'):Qr M A (do Ta X.env x .none;Ra X.env x pos) Q E s:=by
 obtain ⟨m,Z,hl⟩:=id I.loc
 have S:(X.env.scope.kind == .class || (X.env.scope.kind == .module&&X.env.locals != X.env.globals))=false:=by rw [I.ok.kind];rfl
 have cne:=I.cne
 refine wpAny_nameGoes_keeps hk Z S fun h' v U B=>?_
 obtain ⟨oL,_,_,hoL,_⟩:=id Z
 refine h _ ⟨I.ok,I.os,I.bare,⟨fun b o e n hb J=>?_,fun b o e n hb J=>?_,I.base.free,fun b o e J=>?_,I.base.tups,I.base.frzs,I.base.tbls⟩,⟨_,U,fun j y v' e1 G e3=>?_⟩,fun y c e=>?_,I.free,I.freeC,fun p hp=>?_,fun b ob e=>?_,by simpa using I.len⟩
 ·exact (B.2 b (Qu (QD (Qg e) I.ok.above))).trans (I.base.keep b o e n hb J)
 ·obtain ⟨sl,e1⟩:=I.base.slot b o e n hb J
  exact ⟨sl,(B.2 b (Qu (QD (Qg e) I.ok.above))).trans e1⟩
 ·obtain ⟨o',e1⟩:=I.base.there b o e J
  exact ⟨o',(B.2 b (Qu (QD (Qg e) I.ok.above))).trans e1⟩
 ·by_cases W:j=i
  ·subst W
   rw [JO] at G
   split at G
   ·split at G<;>cases G
   ·rename_i z;exact absurd rfl z
  ·rw [Pc (Gv W)] at G
   obtain ⟨u',r',q⟩:=hl j y v' e1 G e3
   refine ⟨u',r',?_⟩
   rcases q with ⟨k,e⟩ | ⟨k,c,e,z⟩
   ·refine .inl ⟨k,?_⟩
    have:y≠x:=fun e=>W (ZaI hN e1 (e ▸ hi))
    simp [this,e]
   ·exact .inr ⟨k,c,e,z.sameBut B (cne y c e)⟩
 ·obtain ⟨w',z⟩:=I.cell y c e
  exact ⟨w',z.sameBut B (cne y c e)⟩
 ·obtain ⟨e,n,ne,nf,d⟩:=I.pin p hp
  exact ⟨(B.2 p.1 ne).trans e,n,ne,nf,d⟩
 ·refine (I.hok b ob e).stay (fun c w' hc q=>(B.2 c ?_).trans q) (fun _ q=>q) fun _ _ q=>q
  rintro rfl
  rcases hc with rfl | hc
  ·rw [I.free] at e;cases e
  ·rw [I.free] at hc;cases hc
end
def Znk (K:Qa)(C0:Addr)(i:Nat)(tb:(St->XK)->TS)(th:TS):TS:=fun D σ H =>
 tb (fun σ' Cv dO H'=>∃ C dx,Cv=.ref C/\dO=some dx/\PySem.W.exmOne K (.ref C) (.ref C0)=some true/\∀ ea,H' ea=none ->
  th { nx:=fun σ2 H2=>D.nx (σ2.set i none) H2,rt:=D.rt,bk:=fun σ2 H2=>D.bk (σ2.set i none) H2,ct:=fun σ2 H2=>D.ct (σ2.set i none) H2 } (σ'.set i (some (.ref ea))) (upd H' ea (XO ea C dx))) D σ H
section
variable {X:Cx}{body suite:List Stmt}{b0:Stmt}{C0:Addr}{x0 n:Str}{i:Nat}{tb:(St->XK)->TS}{th:TS}{p0 hp pos:Pos}
theorem Zjz (hcalm:X.calm=true)(U:X.stack=X.env::X.outer)(hfr:X.env.frame=some X.env.locals)(hN:X.N.Nodup)(hi:X.N[i]?=some n)(hk:X.env.kindOf n=some .local)(hg:Gl X x0)(hm:X.mg x0=some (.ref C0))(hdb:(x0 == ("__debug__":Str))=false)
 (hb:∀ pn Z EE,Xq (X.tryc pn Z) EE->PSs (X.tryc pn Z) body (tb EE)) (hh:∀ ea Z,PSs (X.marked ea Z) (b0::suite) th) :
 PS X (.Try body [.ExceptHandler (some (.Name x0 p0)) (some n) (b0::suite) hp] [] [] pos) (Znk X.K C0 i tb th):=by
 intro pins s σ H D I h
 rw [arm_exec_Try]
 refine Qf (GH (wpAny_tryStmt_except ?_))
 refine QW (hb (X.pn++pins) _ _ ?W [] s σ H D (I.tryc _) h) (fun f s1 S=>?_) (fun e s1 z=>z)
 case W =>
  intro pins' σ1 H1 H2 s1 s2 ea C dx fl I1 I2 hfl x q
  have J1:=I1.untryc
  have J2:=I2.untryc
  obtain ⟨C',dx',e1,e2,hex,hq⟩:=q
  cases e1
  cases e2
  have fr:X.A.frames=some (X.env::X.outer):=by rw [<- U];exact J2.ok.frames
  have ff:s2.heap.FunFrames X.base (X.env::X.outer):=by rw [<- U];exact J2.stack
  have off:∀ {h:Heap},h.FunFrames X.base (X.env::X.outer)->∀ b∈Yv (X.env::X.outer),∃ o,h.get? b=some o/\∀ vs,o.data≠.fields vs:=fun f b hb=>(f.mem hb).2
  refine Zfc (base:=X.base) (n:=s1.heap.objs.size) (H:=H2) hfl fr ff hfr J2.bk x (fun b hb=>J2.hok.fresh hb) fun h3 b3 f3 x3 k3=>?_
  refine VN b3 f3 x3 fun h4 b4 f4 x4 k4=>?_
  have k34:=k3.trans (k4 _ (off f3))
  have J4:Inv X pins σ1 H2 { s2 with heap:=h4 }:=J1.flown (t':=s2.toks) J2 (by rw [U];exact k34)
  refine wpAny_handleBy_cons (codeAny_handlers_test ?_) (by intro q;cases q)
  refine WQ (X:=X.marked ea X.xe) (J4.mark ea X.xe) hg hm ?_ hdb
  have LT:GI (Qs X.prog X.w) h4 (typeOf (.ref ea)) (.ref C):=by
   obtain ⟨_,_,_,oe,vs,he,hc,_⟩:=x4
   rw [<- hc];exact (OL he).andThen .now
  refine (PySem.W.exm_one (h:=h4) J4.kIn LT hex) _ _ _ _ (fun _ _ e=>e) ?_
  refine codeAny_handlers_suite_as ?_
  refine VN b4 f4 x4 fun h5 b5 f5 x5 k5=>?_
  have k45:=k34.trans (k5 _ (off f4))
  have J5:Inv X pins σ1 H2 { s2 with heap:=h5 }:=J1.flown (t':=s2.toks) J2 (by rw [U];exact k45)
  obtain ⟨hen,hHe,hne,oe,vs,he,hc,hdi,hd,_⟩:=id x5
  have lt1:∀ b,b < s1.heap.objs.size->b≠ea:=fun b hb z=>by rw [z] at hb;exact absurd hb (QV.mpr hne)
  have J6:Inv X pins σ1 (upd H2 ea (XO ea C dx)) { s2 with heap:=h5 }:=by
   refine J5.track hHe (Qq J1.sz hne) (fun z=>lt1 _ J1.lt z.symm) (fun y c hy=>?_) (fun p hp=>lt1 _ (Qg (J1.pin p hp).1)) ?_
   ·obtain ⟨v,o,e,_⟩:=J1.cell y c hy
    exact lt1 _ (Qg e)
   ·exact ⟨⟨oe,vs,he,hc,hdi,hd⟩,⟨oe,he⟩,fun h1 h2 ⟨oe,vs,e,r⟩ k=>⟨oe,vs,k _ e,r⟩⟩
  refine XQ (X:=X) J6 hN hi (.inl hk) (v:=.ref ea) rfl (fun s6 J8=>?_) (.inr hk)
  refine QW (hh ea _ pins s6 _ _ _ (J8.mark ea _) (hq ea hHe)) (fun f s7 S=>?_) (fun _ _ z=>z)
  have G:∀ {Z:Qb->Qe->Prop} {B:St} {H':Hp} {Q:Unit->Qe->Prop},Inv (X.marked ea Z) pins B H' s7->(∀ s',Inv X pins (B.set i none) H' s'->Q () s')->Qr (Qs X.prog X.w) X.A (do Ta X.env n .none;Ra X.env n hp) Q X.xe s7:=fun J q=>ZkC (J.unmark J1.ok.hd) hN hi hk q
  cases f with
  | next=>obtain ⟨B,H',J,q⟩:=S;exact G J fun s' J'=>⟨_,H',J',q⟩
  | brk=>obtain ⟨B,H',J,q⟩:=S;exact G J fun s' J'=>⟨_,H',J',q⟩
  | cont=>obtain ⟨B,H',J,q⟩:=S;exact G J fun s' J'=>⟨_,H',J',q⟩
  | ret u=>obtain ⟨v,B,H',J,r,q⟩:=S;exact G J fun s' J'=>⟨v,_,H',J',r,q⟩
 ·cases f with
  | next=>obtain ⟨B,H',J,q⟩:=S;exact Qy ⟨B,H',J.untryc,q⟩
  | brk=>obtain ⟨B,H',J,q⟩:=S;exact ⟨B,H',J.untryc,q⟩
  | cont=>obtain ⟨B,H',J,q⟩:=S;exact ⟨B,H',J.untryc,q⟩
  | ret u=>obtain ⟨v,B,H',J,r,q⟩:=S;exact ⟨v,B,H',J.untryc,r,q⟩
end
def DefMX (P:Qk)(w:Qt)(K:Qa)(mg:Str->Option Qb)(base:Heap)(k:Nat)(C:Addr)(m:Str)(ps:List Str)(sp:Sp):Prop:=∃ f fd,FnOk P w K mg base (XC P w base) k f fd ps sp/\Binds K fd ps []/\Vr K C m f
section
variable {P:Qk}{w:Qt}{K:Qa}{mg:Str->Option Qb}{base:Heap}{j k:Nat}{C:Addr}{x m:Str}{ps:List Str}{sp:Sp}
theorem DefMX.mono (D:DefMX P w K mg base j C m ps sp)(h:j<=k):DefMX P w K mg base k C m ps sp:=let ⟨f,fd,F,b,q⟩:=D;⟨f,fd,F.mono h,b,q⟩
end
inductive Zen (C:Addr)(m:Str)(sp:Sp)(EE:St->XK)(t:TA)(σ:St)(Q:VK)(x:V)(H1:Hp):Prop
 | mk (a dx fs:_):x=.ref a->H1 a=some (.ins C dx fs)->fs.lookup m=none->(t σ H1 fun vs H2=>sp (x::vs) H2 Q (EE σ))->Zen C m sp EE t σ Q x H1
def Znh (C:Addr)(m:Str)(sp:Sp)(EE:St->XK)(ta:TE)(t:TA):TE:=fun σ H Q=>ta σ H fun x H1=>Zen C m sp EE t σ Q x H1
section
variable {X:Cx}{EE:St->XK}{k:Nat}{f C:Addr}{fd:Qn}{ps:List Str}{sp:Sp}{x m:Str}{p pos apos:Pos}{e o:Expr}{es:List Expr}{ta:TE}{t:TA}
theorem Zlp {us:List Qb}(W:Xq X EE)(F:FnOk X.prog X.w X.K X.mg X.base (XC X.prog X.w X.base) k f fd ps sp)(J:Room k X.A)(hb:Binds X.K fd ps [])(I:Inv X pins σ H s)(r:Vals vs us)(h:sp vs H Q (EE σ)):Qr (Qs X.prog X.w) X.A (call (.ref f) us) (EP X pins σ Q) X.xe s:=by
 have S:(us++[]).length=ps.length:=by rw [Pm,<- r.length];exact F.len _ _ _ _ h
 have G:=hb s us I.kIn S
 rw [Pm] at G
 refine Jm (Gk (F.run X.A X.stack s H ⟨us,[]⟩ us vs Q (EE σ) J I.env0 G r h) fun r s' B=>?_)
 cases r with
 | error e =>
  obtain ⟨ea,C,dx,H',rfl,kb,Z,x,os,U,un,hok,q⟩:=B
  exact W pins σ H H' s s' ea C dx _ I (I.call' os un hok U fun b z=>absurd z (by simp)) (.inr rfl) x q
 | ok fl =>
  cases fl with
  | ret u=>exact I.after B
  | next=>exact QL B
  | brk=>exact QL B
  | cont=>exact QL B
theorem Wd (W:Xq X EE)(D:DefMX X.prog X.w X.K X.mg X.base k C m ps sp)(c:Cls X.K C)(hr:Room k X.A)(he:PE X o ta)(ha:PA X (e::es) t)(S:QE (e::es) X.env=(false,eval e X.env)::QE es X.env:=by rfl)(G:(GU pos (QE es X.env)).any (·.1)=false:=by rfl)(ht:eval (.Call (.Attribute o m apos) (e::es) [] pos) X.env=(do
  let Z <- eval o X.env
  Tf apos.atName
  let (f,first) <- JE [Z] (PM Z m pl)
  Tu pos f first (GU pos (QE (e::es) X.env)) (Pe pos (GX [] X.env))):=by rfl):
 PE X (.Call (.Attribute o m apos) (e::es) [] pos) (Znh C m sp EE ta t):=by
 obtain ⟨f,fd,F,b,U⟩:=D
 intro pins s σ H Q I h
 refine JR (pl:=pl) (Zs (he pins s σ H _ I h) fun u s1 B=>?_) ht
 obtain ⟨x,H1,J,rx,a,dx,fs,ex,ea,l,q⟩:=B
 subst ex
 obtain rfl:u=Qm a:=rx
 refine UU J ea c U l ?_
 refine Jb (h₀:=X.base) (first:=[.ref a]) J.ok.mod.kin U.kp (Zs (ha pos pins s1 σ H1 _ J q) fun us s2 B=>?_) S G
 obtain ⟨vs,H2,I2,r,q2⟩:=B
 refine ⟨I2.kIn,?_⟩
 exact Zlp (us:=.ref a::us) (vs:=.ref a::vs) W F hr b I2 (.cons rfl r) q2
end
theorem Fun.okX {P:Qk}{w:Qt}{K:Qa}{mg:Str->Option Qb}{base:Heap}{x qual:Str}{st:Stmt}{f:Addr}{fd:Qn}{N ps:List Str}{k:Nat}{sp:Sp}(F:Fun K x qual st f fd)(S:Zp N ps (Zj st)) 
 (G:∀ (B:Qb) (A:QA) (outer:List Env) (s:Qe) (H:Hp) (vs:List V) (Q:VK) (E:XK),Room k (A.deeper (JV qual (Zj st) s.heap.objs.size f B))->sp vs H Q E ->
  Xq (ZQ (XC P w base) P w K mg base N qual (Zj st) f B A outer s H E) (fun _=>E) ->
  ∃ t,PSs (ZQ (XC P w base) P w K mg base N qual (Zj st) f B A outer s H E) (Xx st) t/\t { nx:=fun _ H'=>Q .non H',rt:=Q } (start N vs) H) (len:∀ vs H Q E,sp vs H Q E->vs.length=ps.length:=by intro _ _ _ _ h;first | (cases h;subst_vars;rfl) | (repeat (first | exact congrArg Th h.1 | (obtain ⟨_,h⟩:=h)))):FnOk P w K mg base (XC P w base) (k+1) f fd ps sp:=by
 obtain ⟨oc,od,kV,U,pm,an,B,ct,Z,rfl,lk,J⟩:=F.ex
 exact ZfU lk J S len fun A outer s H vs Q E W I=>G B A outer s H vs Q E W I Ziu
def XN (ea C:Addr):HO:=.ext fun h=>∃ t:Addr,h.get? ea=some { cls:=.ref C,data:=.fields #[.ref t,.none,.none,.none,.bool false,.none] }
def XW (ea C dx:Addr):HO:=.ext fun h=>∃ t:Addr,h.get? ea=some { cls:=.ref C,dict:=some dx,data:=.fields #[.ref t,.none,.none,.none,.bool false,.none] }
structure XF (K:Qa)(C fI:Addr):Prop where
 xc:Zex K C=true
 init:Qv K (.ref C) "__init__"=some (some (.ref fI))
 sa:Qv K (.ref C) "__setattr__"=some (some (.builtin "object.__setattr__"))
 nw:Qv K (.ref C) "what"=some none
 fn:Sa K (.ref fI)=true
 kp:GK K (.ref C)=true
inductive Zfr (K:Qa)(D:Yj)(σ:St)(y x:V)(H2:Hp):Prop
 | mk (ea C fI:_):x=.ref ea->H2 ea=some (XN ea C)->XF K C fI->(∀ dx,H2 dx=none->dx≠ea->D.nx σ (upd (upd H2 dx (.xd [("what",y)])) ea (XW ea C dx)))->Zfr K D σ y x H2
def ZnY (K:Qa)(ta tv:TE):TS:=fun D σ H=>tv σ H fun y H1=>ta σ H1 fun x H2=>Zfr K D σ y x H2
section
variable {X:Cx}{o value:Expr}{pos pos':Pos}{ta tv:TE}
theorem Zlh (ha:PE X o ta)(hv:PE X value tv)(hs:PL value (some (.Attribute o "what" pos')) pos.line X.env=pure false):PS X (.Assign [.Attribute o "what" pos'] value pos) (ZnY X.K ta tv):=by
 intro pins s σ H D I h
 refine JQ (Zs (hv pins s σ H _ I h) fun u s1 zz=>?_) hs
 obtain ⟨y,H1,I1,ry,q⟩:=zz
 refine Zs (ha pins s1 σ H1 _ I1 q) fun ov s2 zz=>?_
 obtain ⟨x,H2,W,rx,ea,C,fI,ex,B,xf,q2⟩:=zz
 subst ex
 obtain rfl:ov=Qm ea:=rx
 obtain ⟨⟨t,hx⟩,_,_⟩:=(show ObjOk X.prog X.w H2 s2.heap ea (XN ea C) from W.hok ea _ B)
 obtain ⟨nm,qn,N,bs,bm,sn,sub,ab,col,dd,k0,k1,k2,k3,k5,hC,T⟩:=Zai W.kIn xf.xc
 obtain ⟨Z,g,d,tk,os⟩:=s2
 have G:H2 Z.objs.size=none:=W.hok.fresh (Qh _)
 have hne:Z.objs.size≠ea:=GZ (Qg hx)
 refine ZlH T hC (QP W.kIn xf.sa) (QP W.kIn xf.nw) hx rfl rfl (fun c z=>by cases z) fun h' tk' S hns hk=>⟨σ,_,?_,q2 _ G hne⟩
 have U:∀ b,H2 b=none->b≠ea:=fun b e z=>by rw [z,B] at e;cases e
 have ndx:∀ b J,Z.get? b=some J->b≠Z.objs.size:=fun b J e=>Qu (Qg e)
 refine W.un (h':=h') (t':=tk') ⟨fun b J e n _ _=>hk b J (U b n) e,fun b J e n _ _=>⟨J.slots,hk b J (U b n) e⟩,fun b J e n _=>by rw [Zh (U b n),Zh (ndx b J e)];exact n,fun b J e _=>?_,fun b xs e=>?_,fun b w xs e=>?_,fun b ps e=>?_⟩ fun b w e=>?_
 ·by_cases z:b=ea
  ·rw [z];exact ⟨_,S⟩
  ·exact ⟨J,hk b J z e⟩
 ·rw [Zh (fun z=>by rw [z,B] at e;cases e),Zh (Zq e G)];exact e
 ·rw [Zh (fun z=>by rw [z,B] at e;cases e),Zh (Zq e G)];exact e
 ·exact ⟨#[],by rw [Zh (fun z=>by rw [z,B] at e;cases e),Zh (Zq e G),e];simp⟩
 ·by_cases z:b=ea
  ·subst z;rw [Ze] at e;cases e
   exact ⟨⟨t,S⟩,⟨_,S⟩,fun h1 h2 ⟨t,e⟩ k=>⟨t,k _ e⟩⟩
  ·rw [Zh z] at e
   by_cases z2:b=Z.objs.size
   ·subst z2;rw [Ze] at e;cases e
    refine ⟨_,hns,fun f=>?_⟩
    show RelO (Gw f [("what",y)]) (if f="what" then some u else none)
    by_cases hf:f="what"
    ·rw [if_pos hf,hf];exact ry
    ·rw [if_neg hf]
     have hb:(f == ("what":Str))=false:=beq_eq_false_iff_ne.mpr hf
     simp only [Gw,hb];exact Gr
   ·rw [Zh z2] at e
    refine (W.hok b w e).stay (fun c u hc q=>?_) (fun c q=>?_) (fun c xs q=>?_)
    ·refine hk c u (fun y=>?_) q
     rcases hc with rfl | hc
     ·exact z y
     ·rw [y,B] at hc;cases hc
    ·rw [Zh (fun y=>by rw [y,B] at q;cases q),Zh (Zq q G)];exact q
    ·rw [Zh (fun y=>by rw [y,B] at q;cases q),Zh (Zq q G)];exact q
end
inductive ZgC (K:Qa)(vs:List V)(H:Hp)(Q:VK)(w_3:XK):Prop
 | mk (ea C fI:Addr) (v:V):vs=[.ref ea,v]->H ea=some (XN ea C)->XF K C fI->(∀ dx,H dx=none->dx≠ea->Q .non (upd (upd H dx (.xd [("what",v)])) ea (XW ea C dx)))->ZgC K vs H Q w_3
def UL (P:Qk)(w:Qt)(K:Qa)(mg:Str->Option Qb)(base:Heap)(k:Nat)(C:Addr)(x:Str):Prop :=
 ∃ fI fd,FnOk P w K mg base ZI k fI fd ["self","what"] (ZgC K)/\Binds K fd ["self","what"] []/\XF K C fI/\mg x=some (.ref C)
inductive Zep (C:Addr)(EE:St->XK)(σ:St)(vs:List V)(H1:Hp):Prop
 | mk (v:_):vs=[v]->(∀ dx,H1 dx=none->EE σ (.ref C) (some dx) (upd H1 dx (.xd [("what",v)])))->Zep C EE σ vs H1
def Zni (C:Addr)(EE:St->XK)(t:TA):TS:=fun w_0 σ H=>t σ H fun vs H1=>Zep C EE σ vs H1
section
variable {X:Cx}{pins:List (Addr×Obj)}{σ:St}{H:Hp}{s:Qe}
def del (H:Hp)(a:Addr):Hp:=fun b=>if b=a then none else H b
theorem WY (h:b≠a):del H a b=H b:=if_neg h
theorem Inv.untrack (I:Inv X pins σ H s)(e:H a=some (.ext S))(O:X.Old a):Inv X pins σ (del H a) s:=by
 have B:∀ b,H b=none->del H a b=none:=fun b n=>by unfold del;split;rfl;exact n
 refine ⟨I.ok,I.os,I.bare,⟨I.base.keep,I.base.slot,fun b u q n G=>B b (I.base.free b u q n G),I.base.there,fun b xs q=>?_,fun b u xs q=>?_,fun b ps q=>?_⟩,I.loc,I.cell,B _ I.free,fun x c G=>B _ (I.freeC x c G),fun p hp=>?_,fun b u q=>?_,I.len⟩
 ·rw [WY (O.nt q)];exact I.base.tups b xs q
 ·rw [WY (O.nf q)];exact I.base.frzs b u xs q
 ·rw [WY (O.nb q)];exact I.base.tbls b ps q
 ·obtain ⟨e1,J,U⟩:=I.pin p hp
  exact ⟨e1,B _ J,U⟩
 ·by_cases z:b=a
  ·subst z;unfold del at q;rw [if_pos rfl] at q;cases q
  ·rw [WY z] at q
   exact (I.hok b u q).stay (fun _ _ _ y=>y) (fun c y=>by rw [WY (fun z=>by rw [z,e] at y;cases y)];exact y) (fun c xs y=>by rw [WY (fun z=>by rw [z,e] at y;cases y)];exact y)
end
section
variable {X:Cx}{EE:St->XK}{k:Nat}{C:Addr}{x:Str}{np cpos pos:Pos}{e:Expr}{t:TA}
theorem Vf (W:Xq X EE)(D:UL X.prog X.w X.K X.mg X.base k C x)(hr:Room (k+1) X.A)(J:X.calm=true)(ha:PA X [e] t)(hg:Gl X x:=by rfl)(hdb:(x == ("__debug__":Str))=false:=by decide)
 (he:QE [e] X.env=(false,eval e X.env)::QE [] X.env:=by rfl) (hpl:(GU cpos (QE [] X.env)).any (·.1)=false:=by rfl):PS X (.Raise (some (.Call (.Name x np) [e] [] cpos)) none pos) (Zni C EE t):=by
 obtain ⟨fI,fd,F,hb,xf,hm⟩:=D
 intro pins s σ H D I h
 rw [arm_exec_Raise]
 obtain ⟨nm,qn,N,bs,bm,sn,sub,ab,col,dd,k0,k1,k2,k3,k5,hCb,T⟩:=Zai I.ok.mod.kin xf.xc
 refine Qf (GH (ZlG (C:=C) (nm:=nm) (q:=qn) (N:=N) (bs:=bs) (sn:=sn) (sub:=sub) (ab:=ab) (col:=col) (dd:=dd) (k0:=k0) (k1:=k1) (k2:=k2) (k3:=k3) (k5:=k5) T (I.ok.hd J) (Qf ?_)))
 refine QW (Q:=fun v B=>∃ e oe vs,v=.ref e/\B.heap.get? C=some (GQ nm qn C N bs bm true sn sub ab col dd k0 k1 k2 k3 k5 "ValueError.__new__")/\B.heap.get? e=some oe/\oe.cls=.ref C/\oe.data=.fields vs/\vs[1]?=some .none/\X.xe (.ref e) B) ?_ (fun v s1 h1=>Qf (GH (Qy h1))) fun _ _ x=>x
 refine QX (WQ I hg hm ?_ hdb)
 refine Jb (h₀:=X.base) I.ok.mod.kin xf.kp (Zs (ha cpos pins s σ H _ I h) fun us s1 zz=>?_) he hpl
 obtain ⟨vs,H1,G,r,v,ev,q⟩:=zz
 refine ⟨G.kIn,?_⟩
 subst ev
 obtain ⟨u,rfl,ru⟩:=Yo r
 obtain ⟨hh,g,d,tk,os⟩:=s1
 have hC1:=G.bk _ _ hCb
 obtain ⟨oI,hoI,hoc⟩:∃ oI,hh.get? fI=some oI/\oI.cls=.type "function":=by
  obtain ⟨oI,ho,hc⟩:=Go.mp (show (X.K.lookup fI).map (·.cls)=some (.type "function") from beq_iff_eq.mp xf.fn)
  exact ⟨oI,G.kIn _ _ ho,hc⟩
 refine Znv T hC1 (QP G.kIn xf.init) hoI hoc (fun h' ea S U=>?_) (by show 1<=Qj;decide)
 obtain ⟨t0,h0,h1,h2⟩:=S.there
 have Z:H1 ea=none:=G.hok.fresh U
 have I2:Inv X pins σ (upd H1 ea (XN ea C)) ⟨h',g,d,tk,os⟩:=G.laid (a:=ea) (o:=XN ea C) (h':=h') (t':=tk) S.keeps U ⟨⟨t0,h0⟩,⟨_,h0⟩,fun h1 h2 ⟨t,e⟩ k=>⟨t,k _ e⟩⟩
 have hsp:ZgC X.K [.ref ea,v] (upd H1 ea (XN ea C)) (fun w H'=>w=.non/\∃ dx,H1 dx=none/\dx≠ea/\H'=upd (upd (upd H1 ea (XN ea C)) dx (.xd [("what",v)])) ea (XW ea C dx)) E0 :=
  ⟨ea,C,fI,v,rfl,Ze,xf,fun dx h1 h2=>⟨rfl,dx,by rw [Zh h2] at h1;exact h1,h2,rfl⟩⟩
 have r2:Vals [V.ref ea,v] [Qm ea,u]:=.cons rfl (.cons ru .nil)
 refine Jm (Gk (F.run _ X.stack _ _ ⟨[.ref ea,u],[]⟩ [.ref ea,u] _ _ E0 (hr.make C [u] []) (I2.env0.make C [u] []) (hb _ [.ref ea,u] I2.kIn rfl) r2 hsp) fun r s' hq=>?_)
 cases r with
 | error e=>exact hq.elim
 | ok fl =>
  cases fl with
  | next=>exact QL hq
  | brk=>exact QL hq
  | cont=>exact QL hq
  | ret u' =>
   obtain ⟨w,H3,I3,rw',⟨ew,dx,hdx,hde,eH⟩⟩:=I2.after hq
   subst ew eH
   refine ⟨rw',?_⟩
   have at3:upd (upd (upd H1 ea (XN ea C)) dx (.xd [("what",v)])) ea (XW ea C dx) ea=some (XW ea C dx):=Ze
   obtain ⟨⟨t3,hx3⟩,_,_⟩:=(show ObjOk X.prog X.w _ s'.heap ea (XW ea C dx) from I3.hok ea _ at3)
   have I4:=I3.untrack at3 (G.old Z)
   have eq4:del (upd (upd (upd H1 ea (XN ea C)) dx (.xd [("what",v)])) ea (XW ea C dx)) ea=upd H1 dx (.xd [("what",v)]):=by
    funext b
    by_cases z:b=ea
    ·subst z;unfold del;rw [if_pos rfl,Zh (Gv hde)];exact Z.symm
    ·rw [WY z,Zh z]
     by_cases z2:b=dx
     ·subst z2;rw [Ze,Ze]
     ·rw [Zh z2,Zh z2,Zh z]
   rw [eq4] at I4
   refine ⟨ea,_,_,rfl,I3.bk _ _ hCb,hx3,rfl,rfl,rfl,?_⟩
   refine W pins σ H1 _ ⟨hh,g,d,tk,os⟩ s' ea C dx none G I4 (.inl rfl) ⟨?_,by rw [Zh (Gv hde)];exact Z,U,_,_,hx3,rfl,rfl,rfl,rfl⟩ (q dx hdx)
   cases qb:X.base.get? ea with
   | none=>rfl
   | some ob=>have:=G.bk _ _ qb;rw [S.new] at this;cases this
end
end L2
namespace L2
open PySem PySem.Spec PyProof.Rows
open PySem.Builtin PySem.Builtin.ObjectAttr
section
variable {prog:Qk}{w:Qt}{A:QA}{E:Qb->Qe->Prop}{h:Heap}{g:Array RN}{d:Drawn}{t:Nat}{os:OsState}
variable {nm q:Str}{C N a dx:Addr}{bs bm:List Qb}{sn:List Str}{sub:List Qb}{ab:Bool}{col:Option Bool}{dd:Option Addr}{k0 k1 k2 k3 k5:Option Qb}{name:Str}{v:Qb}{o:Obj}{vs:Array Qb}{mA:Str->Option Qb}
abbrev ZaO (h:Heap)(nm q:Str)(C N:Addr)(bs bm:List Qb)(sn:List Str)(sub:List Qb)(ab:Bool)(col:Option Bool)(dd:Option Addr)(k0 k1 k2 k3 k5:Option Qb):Prop:=h.get? C=some (GQ nm q C N bs bm true sn sub ab col dd k0 k1 k2 k3 k5 "ValueError.__new__")
theorem ZgI (T:VT bm)(S:ZaO h nm q C N bs bm sn sub ab col dd k0 k1 k2 k3 k5)(J:h.get? a=some o)(U:o.cls=.ref C)(W:Q () ⟨h,g,d,t,os⟩):Qr M A (Gs "BaseException.__getattribute__" ⟨[.ref a,B],[]⟩) Q E ⟨h,g,d,t,os⟩:=by
 have Z:builtinKind "BaseException.__getattribute__"=some .slot:=by decide +kernel
 have G:splitId "BaseException.__getattribute__"=some ("BaseException","__getattribute__"):=by decide +kernel
 have I:(Qm C::bm).contains (.type "BaseException")=true:=by rw [contains_cons,T.has PH.hasBase];rfl
 have ha:=PySem.F.args_bexc_ga (.ref a) B
 simp only [Gs,Z,G]
 refine Qf ?_
 ·unfold isInstance
  repeat (first | (with_reducible refine QI J ?_;rw [U]) | (with_reducible refine Gp S ?_;rw [I]) | wp_step)
  exact W
theorem x_by {tk:Tok}{fill B:Bool}{Q:Qb->Qe->Prop}(T:VT bm)(hC:ZaO h nm q C N bs bm sn sub ab col dd k0 k1 k2 k3 k5)
 (LG:GI (Qs prog w) h (QZ (.ref C) "__getattribute__") (some (.builtin "BaseException.__getattribute__"))) (LA:GI (Qs prog w) h (QZ (.ref C) "__getattr__") none)
 (S:h.get? a=some o) (U:o.cls=.ref C) (Z:handedOut v=pure v)
 (he:∀ (A:QA) (R:Rf->Qe->Prop) (E:Qb->Qe->Prop),R (.done (.ret v)) ⟨h,g,d,t,os⟩->Qr (Qs prog w) A (Jg.«object.__getattribute__» ⟨[.ref a,.str name tk],[]⟩) R E ⟨h,g,d,t,os⟩) (hq:Q v ⟨h,g,d,t,os⟩) :
 Qr (Qs prog w) A (getAttrBy (.ref a) (.str name tk) fill B) Q E ⟨h,g,d,t,os⟩:=by
 have W:=PH
 have f3:=W.ga.bind (.ref a)
 have hx0:(B&&onTheHeap (Jv "BaseException.__getattribute__"))=false:=by cases B<;>rfl
 have I:(Jv "BaseException.__getattribute__" == Jv "object.__getattribute__")=false:=by decide +kernel
 have hx1:(onTheHeap (Qm C)&&Jv "BaseException.__getattribute__" == Jv "object.__getattribute__")=false:=by rw [I];rfl
 have J:∀ {A:QA} {Q:Option Qb->Qe->Prop} {E:Qb->Qe->Prop},Q (some (.builtin "BaseException.__getattribute__")) ⟨h,g,d,t,os⟩->Qr (Qs prog w) A (QZ (.ref C) "__getattribute__") Q E ⟨h,g,d,t,os⟩:=fun q=>LG _ _ _ _ (fun _ _ e=>e) q
 have G:∀ {A:QA} {Q:Option Qb->Qe->Prop} {E:Qb->Qe->Prop},Q none ⟨h,g,d,t,os⟩->Qr (Qs prog w) A (QZ (.ref C) "__getattr__") Q E ⟨h,g,d,t,os⟩:=fun q=>LA _ _ _ _ (fun _ _ e=>e) q
 repeat (any_goals (first | assumption | (with_reducible refine QI S ?_;rw [U]) | with_reducible refine J ?_ | with_reducible refine G ?_ | wp_step))
 refine GP W.ga.plain PySem.F.entry_bexc_ga (ZgI T hC S U (he _ _ _ ?_))
 show Qr _ _ (handedOut v) _ _ _
 rw [Z]
 exact Qy hq
theorem Znw (hC:ZaO h nm q C N bs bm sn sub ab col dd k0 k1 k2 k3 k5)(LN:GI (Qs prog w) h (QZ (.ref C) name) none)(S:h.get? a=some o)(U:o.cls=.ref C)(I:o.dict=some dx)(Z:o.data=.fields vs)(J:h.Ns1 dx mA)(W:mA name=some v)(hq:Q (.done (.ret v)) ⟨h,g,d,t,os⟩):
 Qr (Qs prog w) A (Jg.«object.__getattribute__» ⟨[.ref a,.str name tk],[]⟩) Q E ⟨h,g,d,t,os⟩:=by
 have G:∀ {A:QA} {Q:Option Qb->Qe->Prop} {E:Qb->Qe->Prop},Q none ⟨h,g,d,t,os⟩->Qr (Qs prog w) A (QZ (.ref C) name) Q E ⟨h,g,d,t,os⟩:=fun q=>LN _ _ _ _ (fun _ _ e=>e) q
 unfold Jg.«object.__getattribute__»
 repeat (first | (with_reducible refine QI S ?_;rw [U]) | (with_reducible refine G ?_) | wp_step)
 split
 ·rename_i c B
  rw [Z] at B;cases B
 unfold instanceDict
 repeat (first | (with_reducible refine QI S ?_;rw [U]) | with_reducible refine QI hC ?_ | wp_step)
 rw [I]
 repeat (first | (with_reducible refine wpAny_nsGet J.ns ?_;rw [W]) | wp_step)
 exact hq
theorem ZeG (T:VT bm)(S:ZaO h nm q C N bs bm sn sub ab col dd k0 k1 k2 k3 k5)(I:h.get? a=some o)(J:o.cls=.ref C)(U:R (.ok (.ret (.ref C))) ⟨h,g,d,t,os⟩):
 Ja (Qs prog w) A (.call (.builtin "getset_descriptor.__get__") ⟨[.builtin "object.__class__",.ref a,.ref C],[]⟩) R ⟨h,g,d,t,os⟩:=by
 have G:(⟨h,g,d,t,os⟩:Qe).TypeIs (.builtin "object.__class__") "getset_descriptor":=Ji
 have B:(Qm C::bm).contains (.type (".".intercalate ("object.__class__".cutAt '.').dropLast))=true:=by
  rw [PySem.F.owner_object_class,contains_cons,T.has (b:=true) (by decide +kernel)];rfl
 refine GP PySem.F.slot_gs_get.plain PySem.F.entry_gs_get (PySem.F.slot_gs_get.check _ _ _ _ _ _ _ _ G (PySem.F.args_gs_get _ _ _) ?_)
 repeat (any_goals (first | assumption | (with_reducible refine QI I ?_;rw [J]) | (with_reducible refine Gp S ?_;rw [B]) | wp_step))
 refine ⟨JA _ (by decide +kernel),Pr PySem.F.entry_object_class ?_⟩
 repeat (any_goals (first | assumption | (with_reducible refine QI I ?_;rw [J]) | wp_step))
theorem ZlF (T:VT bm)(J:ZaO h nm q C N bs bm sn sub ab col dd k0 k1 k2 k3 k5)(U:GI (Qs prog w) h (QZ (.ref C) "__class__") (some (.builtin "object.__class__")))(G:h.get? a=some o)(I:o.cls=.ref C)(hq:Q (.done (.ret (.ref C))) ⟨h,g,d,t,os⟩):
 Qr (Qs prog w) A (Jg.«object.__getattribute__» ⟨[.ref a,.str "__class__" tk],[]⟩) Q E ⟨h,g,d,t,os⟩:=by
 have B:∀ {A:QA} {Q:Option Qb->Qe->Prop} {E:Qb->Qe->Prop},Q (some (.builtin "object.__class__")) ⟨h,g,d,t,os⟩->Qr (Qs prog w) A (QZ (.ref C) "__class__") Q E ⟨h,g,d,t,os⟩:=fun q=>U _ _ _ _ (fun _ _ e=>e) q
 have S:(⟨h,g,d,t,os⟩:Qe).TypeIs (.builtin "object.__class__") "getset_descriptor":=Ji
 have W:=Ji
 have Z:=PySem.F.slot_gs_get.lookup
 have f7:=PySem.F.slot_gs_set.lookup
 repeat (any_goals (first | assumption | (with_reducible refine QI G ?_;rw [I]) | (with_reducible refine B ?_) | wp_step))
 refine ZeG T J G I ?_
 repeat (any_goals (first | assumption | wp_step))
end
structure XG (K:Qa)(C:Addr):Prop where
 xc:Zex K C=true
 nw:Qv K (.ref C) "what"=some none
 ga:Qv K (.ref C) "__getattribute__"=some (some (.builtin "BaseException.__getattribute__"))
 gh:Qv K (.ref C) "__getattr__"=some none
 gc:Qv K (.ref C) "__class__"=some (some (.builtin "object.__class__"))
theorem ZdN {K:Qa}{C ea:Addr}(G:XG K C):PySem.W.KitX K (.ref ea) (.ref C) (fun h=>∃ o,h.get? ea=some o/\o.cls=.ref C) where
 ty:=fun M h _ p=>by obtain ⟨o,h1,h2⟩:=p;exact h2 ▸ (OL h1).andThen .now
 it:=fun M h X p=>by
  obtain ⟨nm,S,N,bs,bm,sn,sub,ab,col,dd,k0,k1,k2,k3,k5,B,T⟩:=Zai X G.xc
  intro A' Q' E' s' k q
  unfold isType loadHead
  exact Qf (wpAny_loadPart (k _ _ B) (Qy q))
 ne:=fun h Z dd U n sl X I=>by
  obtain ⟨nm,S,N,bs,bm,sn,sub,ab,col,dd,k0,k1,k2,k3,k5,B,T⟩:=Zai X G.xc
  refine Bool.eq_false_iff.mpr fun q=>?_
  have e:C=Z:=Value.ref.inj (beq_iff_eq.mp q)
  subst e
  have z:=congrArg Obj.cls (QG (B.symm.trans I))
  exact absurd (Value.type.inj z) (by decide)
 ca:=fun {prog w A E Q s} X p k=>by
  obtain ⟨nm,S,N,bs,bm,sn,sub,ab,col,dd,k0,k1,k2,k3,k5,B,T⟩:=Zai X G.xc
  obtain ⟨o,h1,h2⟩:=p
  obtain ⟨h,g,d,t,os⟩:=s
  have J:∀ {tk:Tok} {Q:Qb->Qe->Prop} {E:Qb->Qe->Prop} {A:QA},Q (.ref C) ⟨h,g,d,t+1,os⟩->Qr (Qs prog w) A (getAttrBy (.ref ea) (.str "__class__" tk) false) Q E ⟨h,g,d,t+1,os⟩:=fun q =>
   x_by T B (QP X G.ga) (QP X G.gh) h1 h2 rfl (fun A R E r=>ZlF T B (QP X G.gc) h1 h2 r) q
  unfold getAttr? getAttrBy?
  repeat (any_goals (first | assumption | with_reducible apply J | wp_step))
end L2
namespace L2
open PySem PySem.Spec PyProof.Rows
inductive ZfA (K:Qa)(Q:VK)(x:V)(H1:Hp):Prop
 | mk (ea C dx:Addr) (fs:List (Str×V)) (v:V):x=.ref ea->H1 ea=some (XO ea C dx)->H1 dx=some (.xd fs)->XG K C->fs.lookup ("what":Str)=some v->Q v H1->ZfA K Q x H1
def ZoF (K:Qa)(ta:TE):TE:=fun σ H Q=>ta σ H fun x H1=>ZfA K Q x H1
def TyX (K:Qa)(H:Hp)(x:V)(t:Qb):Prop:=Wl K H x t\/∃ ea C dx,x=.ref ea/\t=.ref C/\H ea=some (XO ea C dx)/\XG K C
inductive ZhS (K:Qa)(xs:List V)(H:Hp)(Q:VK):Prop
 | mk (x c t b:_):xs=[x,c]->TyX K H x t->((∃ D,c=.ref D/\PV K t (.ref D)=some b)\/(∃ T,c=.ty T/\PV K t (.type T)=some b))->Q (.bl b) H->ZhS K xs H Q
def rIsi (K:Qa):List V->Hp->VK->Prop:=fun xs H Q=>ZhS K xs H Q
inductive Zfo (K:Qa)(xs:List V)(H:Hp)(Q:VK):Prop
 | mk (ea C dx tp:Addr) (Ds:List Addr) (b:Bool):xs=[.ref ea,.ref tp]->H ea=some (XO ea C dx)->XG K C->H tp=some (.tup (Ds.map V.ref))->PySem.W.kitAny K (.ref C) (Ds.map Qm)=some b->Q (.bl b) H->Zfo K xs H Q
def ZnU (K:Qa):List V->Hp->VK->Prop:=fun xs H Q=>Zfo K xs H Q
section
variable {X:Cx}{e:Expr}{pos:Pos}{ta:TE}
theorem Zle (he:PE X e ta)(hb:Jt e "what" X.env (eval e X.env)=eval e X.env):PE X (.Attribute e "what" pos) (ZoF X.K ta):=by
 intro pins s σ H Q I h
 refine ZeM hb (Zs (he pins s σ H _ I h) fun u s1 zz=>?_)
 obtain ⟨x,H1,J,rx,ea,C,dx,fs,v,ex,Z,hdx,G,l,q⟩:=zz
 subst ex
 obtain rfl:u=Qm ea:=rx
 obtain ⟨⟨oe,vs,S,B,U,he4⟩,_,_⟩:=(show ObjOk X.prog X.w H1 s1.heap ea (XO ea C dx) from J.hok ea _ Z)
 obtain ⟨mA,hns,hr⟩:=(show ObjOk X.prog X.w H1 s1.heap dx (.xd fs) from J.hok dx _ hdx)
 obtain ⟨u,hu,ru⟩:=RelO.some_of (v:=v) (o:=mA "what") (by rw [<- l];exact hr "what")
 obtain ⟨nm,qn,N,bs,bm,sn,sub,ab,col,dd,k0,k1,k2,k3,k5,hC,T⟩:=Zai J.kIn G.xc
 have hK:=J.kIn
 have I2:=J.tok (s1.toks+1)
 obtain ⟨hh,g,d,tk,os⟩:=s1
 refine Qf (wpAny_mkText ?_)
 exact x_by T hC (QP hK G.ga) (QP hK G.gh) S B (PySem.W.handedOut_of (Zcv ru)) (fun A R E r=>Znw hC (QP hK G.nw) S B U he4 hns hu r) ⟨v,H1,I2,ru,q⟩
theorem ZeV (I:Inv X pins σ H s)(U:RelV x u)(ty:TyX X.K H x t)(e:PV X.K t c=some b)(h:∀ tk,Q (.bool b) { s with toks:=tk }):
 Qr (Qs X.prog X.w) A (call (.builtin "isinstance") [u,c]) Q E s:=by
 rcases ty with ty | ⟨ea,C,dx,rfl,rfl,B,G⟩
 ·exact Zhk I U ty e h
 ·cases (show u=Qm ea from U)
  obtain ⟨⟨W,vs,J,S,_⟩,_,_⟩:=(show ObjOk X.prog X.w H s.heap ea (XO ea C dx) from I.hok ea _ B)
  exact QS (ZdN G) I.kIn ⟨W,J,S⟩ e (fun z=>nomatch z) h
theorem Yu:Ys X (.builtin "isinstance") (rIsi X.K):=by
 intro pins s σ H xs us Q I r h
 obtain ⟨x,c,t,b,rfl,ty,S,q⟩:=h
 obtain ⟨u,J,rfl,G,B⟩:=Zdq r
 rcases S with ⟨D,rfl,e⟩ | ⟨T,rfl,e⟩
 ·cases (show J=Qm D from B)
  exact ZeV I G ty e fun tk=>⟨.bl b,H,I.tok tk,rfl,q⟩
 ·cases (show J=Rz T from B)
  exact ZeV I G ty e fun tk=>⟨.bl b,H,I.tok tk,rfl,q⟩
theorem ZbC:∀{B:List Addr}{us:List Qb},Vals (B.map V.ref) us->us=B.map Qm
 | [],_,h=>by cases h;rfl
 | D::B,_,h=>by
  cases h with
  | cons r t=>rw [ZbC t,show _=Qm D from r];rfl
theorem Zcq:Ys X (.builtin "isinstance") (ZnU X.K):=by
 intro pins s σ H xs us Q I r h
 obtain ⟨ea,C,dx,S,Ds,b,rfl,J,G,U,e,q⟩:=h
 obtain ⟨u,u',rfl,ru,B⟩:=Zdq r
 cases (show u=Qm ea from ru)
 cases (show u'=Qm S from B)
 obtain ⟨⟨oe,vs,Z,he2,_⟩,_,_⟩:=(show ObjOk X.prog X.w H s.heap ea (XO ea C dx) from I.hok ea _ J)
 obtain ⟨_,its,rv,p⟩:=(show ObjOk X.prog X.w H s.heap S (.tup (Ds.map V.ref)) from I.hok S _ U)
 obtain ⟨⟨oc,odi,oda,osl⟩,h1,h2,n,h3⟩:=p
 dsimp only at h2 h3
 subst h2 h3
 rw [ZbC rv] at h1
 exact PySem.W.kia_tup (ZdN G) I.kIn ⟨oe,Z,he2⟩ h1 e (fun z=>nomatch z) fun tk=>⟨.bl b,H,I.tok tk,rfl,q⟩
end
section
variable {X:Cx}
end
section
variable {X:Cx}{pins:List (Addr×Obj)}{σ:St}{H:Hp}{s:Qe}{d:Addr}{o:Obj}{kvs:List (Zo×V)}
end
section
variable {X:Cx}{tg:Expr}
end
end L2
namespace L2
open PySem PySem.W PySem.Spec PyProof.Rows
section
variable {X:Cx}
end
end L2
namespace L2
open PySem
end L2
namespace L2
open PySem PySem.W PySem.Spec PyProof.Rows
section
variable {X:Cx}
end
end L2
namespace L2
open PySem PySem.Spec PyProof.Rows
end L2
namespace L2
open PySem PySem.W PySem.Spec PyProof.Rows
section
variable {X:Cx}
end
end L2
namespace L2
open PySem PySem.Spec PyProof.Rows
section
variable {X:Cx}
end
end L2
namespace L2
open PySem PySem.W PySem.Spec PyProof.Rows
def WI (ts:List (Pos×Addr)):List Value:=ts.flatMap fun p=>[Gd p.1.line,Gd p.1.col,.ref p.2]
def LamsAt (H:Hp)(Pl:Addr)(qual:Str):Prop:=∃ ts:List (Pos×Addr),H Pl=some (.tbl (WI ts).toArray)/\∀ p∈ts,H p.2=some (.ext (Xs p.2 qual))
theorem Zes:∀ ts,TriplesOk (WI ts)
 | []=>trivial
 | p::r=>by
  show TriplesOk (Gd p.1.line::Gd p.1.col::.ref p.2::WI r)
  exact Zes r
theorem ZcL :∀{ts:List (Pos×Addr)},OC pos (WI ts)=some v->∃ p∈ts,v=.ref p.2
 | [],h=>by cases h
 | p :: r,h=>by
  have h:(if (p.1.line:Int) == pos.line&&(p.1.col:Int) == pos.col then some (Qm p.2) else OC pos (WI r))=some v:=h
  split at h
  ·cases h;exact ⟨p,mem_cons_self ..,rfl⟩
  ·obtain ⟨q,B,e⟩:=ZcL h
   exact ⟨q,mem_cons_of_mem _ B,e⟩
theorem Zlz (ts:List (Pos×Addr))(pos:Pos)(c:Addr):WI (ts++[(pos,c)])=WI ts++[Gd pos.line,Gd pos.col,.ref c]:=by
 unfold WI;rw [List.flatMap_append];rfl
section
variable {X:Cx}{pins:List (Addr×Obj)}{σ:List (Option V)}{H:Hp}{s:Qe}
end
def Vc (b:Addr)(o:Obj):HO:=.ext fun h=>h.get? b=some o
abbrev Pn:=List (Addr×Obj)
def cov (H:Hp)(cs:Pn):Hp:=fun b=>match cs.lookup b with
 | some o=>some (Vc b o)
 | none=>H b
def unc (H:Hp)(cs:Pn):Hp:=fun b=>match cs.lookup b with
 | some _=>none
 | none=>H b
def Has (cs:Pn)(H:Hp):Prop:=∀ b o,cs.lookup b=some o->H b=some (Vc b o)
def Hasn (cs:Pn)(H:Hp):Prop:=∀ b o,cs.lookup b=some o->H b=none
def Xc (cs:Pn)(h:Heap):Prop:=∀ b o,cs.lookup b=some o->h.get? b=some o
section
variable {cs:Pn}{H H' H2:Hp}{h h':Heap}{b:Addr}{o:Obj}{P:Qk}{w:Qt}{fs:List Addr}
theorem Xj (e:cs.lookup b=some o):cov H cs b=some (Vc b o):=by unfold cov;rw [e]
theorem ZC (e:cs.lookup b=none):cov H cs b=H b:=by unfold cov;rw [e]
theorem Yh (e:cs.lookup b=some o):unc H cs b=none:=by unfold unc;rw [e]
theorem Zy (e:cs.lookup b=none):unc H cs b=H b:=by unfold unc;rw [e]
theorem has_cov:Has cs (cov H cs):=fun b o e=>Xj e
theorem ZdK:Hasn cs (unc H cs):=fun b o e=>Yh e
theorem Has.same (a:Has cs H)(s:Same H H'):Has cs H':=fun b o e=>s _ _ (a b o e)
theorem WF (a:Hasn cs H)(e:H b=some u):cs.lookup b=none:=by
 cases q:cs.lookup b with
 | none=>rfl
 | some o=>rw [a b o q] at e;cases e
theorem Wt (a:Has cs H)(e:H b=some u)(n:∀ B,u≠.ext B):cs.lookup b=none:=by
 cases q:cs.lookup b with
 | none=>rfl
 | some o=>rw [a b o q] at e;cases e;exact absurd rfl (n _)
theorem UA (a:Has cs H)(e:H b=none):cs.lookup b=none:=by
 cases q:cs.lookup b with
 | none=>rfl
 | some o=>rw [a b o q] at e;cases e
theorem YV (a:Hasn cs H):Same H (cov H cs):=fun b u e=>by rw [ZC (WF a e)];exact e
theorem ZjI (a:Hasn cs H')(s:Same (cov H' cs) H2):Same H' (unc H2 cs):=fun b u e=>by
 have q:=WF a e
 rw [Zy q];exact s _ _ (by rw [ZC q];exact e)
theorem Vj (s:Same H H'):Same (unc H cs) (unc H' cs):=fun b u e=>by
 cases q:cs.lookup b with
 | some o=>rw [Yh q] at e;cases e
 | none=>rw [Zy q] at e ⊢;exact s _ _ e
theorem ZdY (e:h.get? b=some o):ObjOk P w H h b (Vc b o):=⟨e,⟨o,e⟩,fun _ _ a k=>k _ a⟩
theorem XR (x:HOk P w H h)(a:Has cs H):Xc cs h:=fun b o e=>(x b _ (a b o e)).1
theorem HOk.unc (x:HOk P w H h)(a:Has cs H):HOk P w (unc H cs) h:=fun b u e=>by
 have q:cs.lookup b=none:=by
  cases q:cs.lookup b with
  | none=>rfl
  | some o=>rw [Yh q] at e;cases e
 rw [Zy q] at e
 refine (x b u e).stay (fun _ _ _ z=>z) (fun c z=>?_) fun c xs z=>?_
 ·rw [Zy (Wt a z fun _ z=>by cases z)];exact z
 ·rw [Zy (Wt a z fun _ z=>by cases z)];exact z
theorem HOk.cov (x:HOk P w H h)(a:Hasn cs H)(k:Xc cs h):HOk P w (cov H cs) h:=fun b u e=>by
 cases q:cs.lookup b with
 | some o=>rw [Xj q] at e;cases e;exact ZdY (k b o q)
 | none =>
  rw [ZC q] at e
  refine (x b u e).stay (fun _ _ _ z=>z) (fun c z=>?_) fun c xs z=>?_
  ·exact YV a _ _ z
  ·exact YV a _ _ z
theorem Un.cov (u:Un fs [] (unc H cs) H' h h')(a:Has cs H)(k:Xc cs h):Un fs [] H (cov H' cs) h h':=by
 have I:Hasn cs H':=fun b o e=>u.free b o (k b o e) (Yh e) (by simp)
 refine ⟨fun b B q n hb G=>?_,fun b B q n hb G=>?_,fun b B q n G=>?_,fun b B q G=>u.there b B q G,fun b xs q=>?_,fun b B xs q=>?_,fun b ps q=>?_⟩
 ·exact u.keep b B q (by rw [Zy (UA a n)];exact n) hb G
 ·exact u.slot b B q (by rw [Zy (UA a n)];exact n) hb G
 ·rw [ZC (UA a n)];exact u.free b B q (by rw [Zy (UA a n)];exact n) G
 ·have z:=Wt a q fun _ z=>by cases z
  exact YV I _ _ (u.tups b xs (by rw [Zy z];exact q))
 ·have z:=Wt a q fun _ z=>by cases z
  exact YV I _ _ (u.frzs b B xs (by rw [Zy z];exact q))
 ·have z:=Wt a q fun _ z=>by cases z
  obtain ⟨m,e⟩:=u.tbls b ps (by rw [Zy z];exact q)
  exact ⟨m,YV I _ _ e⟩
theorem Un.uncov (u:Un fs [] (L2.cov H cs) H2 h h')(n:Hasn cs H)(k:Xc cs h)(I:Xc cs h'):Un fs [] H (unc H2 cs) h h':=by
 refine ⟨fun b B q m hb G=>?_,fun b B q m hb G=>?_,fun b B q m G=>?_,fun b B q G=>u.there b B q G,fun b xs q=>?_,fun b B xs q=>?_,fun b ps q=>?_⟩
 ·cases e:cs.lookup b with
  | some o=>have:=k b o e;rw [q] at this;cases this;exact I b _ e
  | none=>exact u.keep b B q (by rw [ZC e];exact m) hb G
 ·cases e:cs.lookup b with
  | some o=>have:=k b o e;rw [q] at this;cases this;exact ⟨_,I b _ e⟩
  | none=>exact u.slot b B q (by rw [ZC e];exact m) hb G
 ·cases e:cs.lookup b with
  | some o=>exact Yh e
  | none=>rw [Zy e];exact u.free b B q (by rw [ZC e];exact m) G
 ·have z:=WF n q
  rw [Zy z];exact u.tups b xs (by rw [ZC z];exact q)
 ·have z:=WF n q
  rw [Zy z];exact u.frzs b B xs (by rw [ZC z];exact q)
 ·have z:=WF n q
  obtain ⟨m,e⟩:=u.tbls b ps (by rw [ZC z];exact q)
  exact ⟨m,by rw [Zy z];exact e⟩
theorem ExcAt.re {n:Nat}(x:ExcAt base n H ea C dx B h)(f:∀ b,n<=b->H b=none->H' b=none):ExcAt base n H' ea C dx B h:=by
 obtain ⟨a,b,c,S,vs,e1,U,Z,e4,tb⟩:=x
 refine ⟨a,f _ c b,c,S,vs,e1,U,Z,e4,?_⟩
 cases B with
 | none=>exact tb
 | some v=>obtain ⟨T,oT,ts,t1,I,J,t4,G,W⟩:=tb;exact ⟨T,oT,ts,t1,I,J,f _ G t4,G,W⟩
end
abbrev YF (qual:Str)(sc:Scope)(L q:Addr)(cl:List (Str×Addr))(cd:Qb):Env:=newEnv sc L Ql cl (qual++".<locals>.") (some q) cd none PN
def Wa (P:Qk)(w:Qt)(K:Qa)(mg:Str->Option Qb)(base:Heap)(N:List Str)(env:Env)(A:QA)(outer:List Env)(s:Qe)(H:Hp)(Z:Qb->Qe->Prop):Cx where
 prog:=P
 w:=w
 K:=K
 mg:=mg
 base:=base
 A:=A.deeper env
 N:=N
 s₀:=s
 H₀:=H
 env:=env
 outer:=outer
 stack:=env::outer
 ex:=[]
 fn:=fun _=>false
 calm:=true
 pn:=[]
 xe:=Z
section
variable {P:Qk}{w:Qt}{K:Qa}{mg:Str->Option Qb}{base:Heap}{N:List Str}
theorem Ziv {env:Env}{A:QA}{outer:List Env}{s:Qe}{H:Hp}{E:XK}{R:Qb->Qe->Prop}(hL:env.locals=s.heap.objs.size)(hf:env.frame=some env.locals)(hR:∀ e s',XC P w base outer H s E e s'->R e s') :
 Xq (Wa P w K mg base N env A outer s H fun e s'=>Qr (Qs P w) (A.deeper env) (leaving env e) (fun _ I=>R e I) (fun e' I=>R e' I) s') (fun _=>E):=by
 intro pins σ H1 H2 s1 s2 ea C dx fl I1 G hfl x q
 have hsz:s.heap.objs.size<=s1.heap.objs.size:=I1.sz
 have B:HOk P w H2 s2.heap:=G.hok
 refine ZdO (base:=base) (n:=s.heap.objs.size) (H:=H2) (outer:=outer) (L:=env.locals) hfl G.ok.frames G.stack hf G.bk (x.le hsz) (fun b hb=>B.fresh hb) fun h' b1 f1 x1 k1=>hR _ _ ?_
 have un:Un (Yv outer) [] H H2 s.heap s2.heap:=G.base
 have nL:∀ b o,s.heap.get? b=some o->b ∉ Yv outer->b ∉ Yv (env::outer):=fun b o e J m=>by
  rcases mem_filterMap.mp m with ⟨v,hv,U⟩
  rcases mem_cons.mp hv with rfl | hv
  ·rw [hf,hL] at U;cases U;exact absurd (Qg e) (Gg _)
  ·exact J (mem_filterMap.mpr ⟨v,hv,U⟩)
 have inL:∀ b,b∈Yv outer->b∈Yv (env::outer):=fun b m=>by
  obtain ⟨v,hv,U⟩:=mem_filterMap.mp m
  exact mem_filterMap.mpr ⟨v,mem_cons_of_mem _ hv,U⟩
 refine ⟨ea,C,dx,H2,rfl,b1,f1,x1,G.os,G.bare,⟨fun b o e J hb S=>k1.2.1 b o (un.keep b o e J hb S) (nL b o e hb) (.inr (Qg e)),fun b o e J hb S=>?_,un.free,fun b o e S=>?_,un.tups,un.frzs,un.tbls⟩,k1.hok B G.stkFree,q⟩
 ·obtain ⟨sl,e1⟩:=un.slot b o e J hb S
  obtain ⟨W,Z⟩:=k1.1 b _ e1 (inL b hb)
  exact ⟨W,Z⟩
 ·obtain ⟨o',e1⟩:=un.there b o e S
  by_cases m:b∈Yv (env::outer)
  ·obtain ⟨sl,Z⟩:=k1.1 b o' e1 m;exact ⟨_,Z⟩
  ·exact ⟨o',k1.2.1 b o' e1 m (.inr (Qg e))⟩
def ZnB (P:Qk)(w:Qt)(K:Qa)(mg:Str->Option Qb)(base:Heap)(k:Nat)(cs:Pn)(cc:Addr)(qual:Str)(q:Addr)(T:Hp->VK->XK->Prop):Prop :=
 ∀ (A:QA) (outer:List Env) (s:Qe) (H:Hp) (Q:VK) (E:XK),Room k A->Env0 P w K mg base A outer s H->Has cs H->H cc=some (.ext (Xs cc qual)) ->
  T (unc H cs) (fun v H'=>Hasn cs H'->Q v (cov H' cs)) (fun C d H'=>Hasn cs H'->E C d (cov H' cs))->Ja (Qs P w) A (.call (.ref q) ⟨[],[]⟩) (CR (XC P w base) outer P w H s Q E) s
end
structure Thk (P:Qk)(w:Qt)(K:Qa)(mg:Str->Option Qb)(base:Heap)(k:Nat)(cs:Pn)(cc:Addr)(qual:Str)(q:Addr)(T:Hp->VK->XK->Prop):Prop where
 run:ZnB P w K mg base k cs cc qual q T
 fn:∃ fo fd,cs.lookup q=some fo/\fo.data=.func fd
inductive Zif (P:Qk)(w:Qt)(K:Qa)(mg:Str->Option Qb)(base:Heap)(k:Nat)(EE:St->XK)(i:Nat)(σ:St)(H:Hp)(Q:VK):Prop
 | mk (q cs cc qual T:_):σ[i]?=some (some (.ref q))->Thk P w K mg base k cs cc qual q T->Has cs H->H cc=some (.ext (Xs cc qual))->(T (unc H cs) (fun v H'=>Hasn cs H'->Q v (cov H' cs)) (fun C d H'=>Hasn cs H'->EE σ C d (cov H' cs)))->Zif P w K mg base k EE i σ H Q
def tAsk (P:Qk)(w:Qt)(K:Qa)(mg:Str->Option Qb)(base:Heap)(k:Nat)(EE:St->XK)(i:Nat):TE:=fun σ H Q=>Zif P w K mg base k EE i σ H Q
section
variable {X:Cx}{EE:St->XK}{k i:Nat}{x:Str}{p pos:Pos}
theorem ZmH (W:Xq X EE)(hr:Room k X.A)(hN:X.N[i]?=some x)(hv:Vis X.env.scope x)(hd:(x == ("__debug__":Str))=false:=by decide)(J:(x == ("__classdict__":Str))=false:=by decide) :
 PE X (.Call (.Name x p) [] [] pos) (tAsk X.prog X.w X.K X.mg X.base k EE i):=by
 intro pins s σ H Q I h
 obtain ⟨q,cs,cc,qual,T,e,Z,has,S,hT⟩:=h
 refine QX (Zs (ZhM (pos:=p) hN hv hd J pins s σ H (fun v H1=>v=.ref q/\H1=H) I ⟨_,e,rfl,rfl⟩) fun u s1 zz=>?_)
 obtain ⟨v,H1,G,r,e1,e2⟩:=zz
 subst e1;subst e2
 obtain rfl:u=Qm q:=r
 obtain ⟨U,fd,z1,z2⟩:=Z.fn
 have B:s1.heap.get? q=some U:=XR G.hok has q U z1
 refine callWith_of (P:=fun h=>h.get? q=some U) rfl (fun h e=>⟨.frame,.inl rfl,(Looks.ld (part:=none) e).andThen ?_⟩) (evalArgs_nil3 ⟨B,?_⟩)
 ·simp only [z2];exact .now
 refine Jm (Gk (Z.run X.A X.stack s1 H1 Q (EE σ) hr G.env0 has S hT) fun r s' B=>?_)
 cases r with
 | error e =>
  obtain ⟨ea,C,dx,H',rfl,kb,ff,x,os,gb,un,hok,q⟩:=B
  exact W pins σ H1 H' s1 s' ea C dx _ G (G.call' os un hok gb fun b z=>absurd z (by simp)) (.inr rfl) x q
 | ok fl =>
  cases fl with
  | ret u=>exact G.after B
  | next=>exact QL B
  | brk=>exact QL B
  | cont=>exact QL B
end
theorem ZkY {P:Qk}{w:Qt}{K:Qa}{mg:Str->Option Qb}{base:Heap}{X:Cx}{EE:St->XK}{k i:Nat}{x:Str}{p pos:Pos}(h1:X.prog=P)(h2:X.w=w)(S:X.K=K)(U:X.mg=mg)(Z:X.base=base)(W:Xq X EE)(I:Room k X.A)(hN:X.N[i]?=some x)(G:Vis X.env.scope x)(J:(x == ("__debug__":Str))=false:=by decide)(B:(x == ("__classdict__":Str))=false:=by decide) :
 PE X (.Call (.Name x p) [] [] pos) (tAsk P w K mg base k EE i):=by
 subst h1 h2 S U Z
 exact ZmH W I hN G J B
def Xw (env:Env)(h:Heap):Pn:=env.cells.filterMap fun p=>(env.cells.lookup p.1).bind fun c=>(h.get? c).map fun o=>(c,o)
theorem Vd (m:p∈Xw env h):h.get? p.1=some p.2/\∃ y,env.cells.lookup y=some p.1:=by
 obtain ⟨z,I,e⟩:=mem_filterMap.mp m
 obtain ⟨c,e1,G⟩:=TU.mp e
 obtain ⟨o,B,rfl⟩:=Go.mp G
 exact ⟨B,z.1,e1⟩
theorem Zgf (e:env.cells.lookup x=some c)(B:h.get? c=some o):(c,o)∈Xw env h :=
 mem_filterMap.mpr ⟨(x,c),L2.mem_of_lookup e,by show (env.cells.lookup x).bind _=_;rw [e];show (h.get? c).map _=_;rw [B];rfl⟩
theorem WG :∀{cs:Pn},cs.lookup b=some o->(b,o)∈cs
 | [],h=>by cases h
 | (n,z)::r,h=>by
  cases hx:b == n with
  | true =>
   have e:b=n:=by simpa using hx
   subst e
   simp only [lookup_cons,beq_self_eq_true] at h
   cases h
   exact mem_cons_self
  | false =>
   simp only [lookup_cons,hx] at h
   exact mem_cons_of_mem _ (WG h)
theorem ZbS {h:Heap}{b:Addr}{o:Obj}:∀{cs:Pn},(∀ p∈cs,h.get? p.1=some p.2)->(b,o)∈cs->cs.lookup b=some o
 | (n,z)::r,hh,m=>by
  cases hx:b == n with
  | true =>
   have e:b=n:=by simpa using hx
   subst e
   have h1:=hh _ mem_cons_self
   have h2:=hh _ m
   have B:some z=some o:=h1.symm.trans h2
   simp only [lookup_cons,beq_self_eq_true];exact B
  | false =>
   simp only [lookup_cons,hx]
   rcases mem_cons.mp m with e | m
   ·cases e;simp at hx
   ·exact ZbS (fun p hp=>hh p (mem_cons_of_mem _ hp)) m
section
variable {X:Cx}{k j:Nat}{f:Str}{pn:Str}{sp:Sp}{p0 lpos pos:Pos}{args:Jo}{body:Expr}{sc:Scope}{te:(St->XK)->TE}{c Pl:Addr}
end
theorem Vl:∀{bs:List Bool}{us:List Qb},Vals (bs.map V.bl) us->us=bs.map Gy
 | [],_,.nil=>rfl
 | b::bs,_,.cons r h=>by
  have e:=Vl h
  cases (show _=Gy b from r)
  rw [e];rfl
def VX:Qb->Bool
 | .bool b=>b
 | _=>false
inductive ZcD (K:Qa)(x:V)(vs:List V)(H:Hp)(Q:VK):Prop
 | mk (l:Addr) (bs:List Bool):x=.ref l->vs=[.bl true]->SqL K H l (bs.map V.bl)->Q (.int ((bs.filter id).length:Nat)) H->ZcD K x vs H Q
def Zlm (K:Qa):V->List V->Hp->VK->Prop:=fun x vs H Q=>ZcD K x vs H Q
inductive ZcF (K:Qa)(x:V)(vs:List V)(H:Hp)(Q:VK):Prop
 | mk (l:Addr) (bs:List Bool) (j:Nat):x=.ref l->vs=[.bl true]->SqL K H l (bs.map V.bl)->bs[j]?=some true->(∀ m,m < j->bs[m]?=some false)->j<=100000->Q (.int (j:Nat)) H->ZcF K x vs H Q
def Zlo (K:Qa):V->List V->Hp->VK->Prop:=fun x vs H Q=>ZcF K x vs H Q
theorem Vw:∀ bs:List Bool,(bs.map Gy).countP VX=(bs.filter id).length
 | []=>rfl
 | true::r=>by rw [map_cons,List.countP_cons_of_pos rfl,Vw r];rfl
 | false::r=>by rw [map_cons,List.countP_cons_of_neg (by decide),Vw r];rfl
section
variable {X:Cx}
theorem Zhd (A:QA)(s:Qe){bs:List Bool}{y:Qb}(h:y∈bs.map Gy):SeqAt.EqAt A s y (.bool true) (VX y):=by
 obtain ⟨b,_,rfl⟩:=mem_map.mp h
 have:=SM (A:=A) (s:=s) b true
 cases b<;>exact this
theorem Zhx:MtR X "list.count" (Zlm X.K):=by
 intro pins s σ H x vs v us Q I rx rv h
 obtain ⟨l,bs,rfl,rfl,hl,q⟩:=h
 cases rx
 obtain ⟨u,rfl,Z⟩:=Yo rv
 obtain rfl:u=Gy true:=Z
 obtain ⟨its,r,ht,_⟩:=I.list hl
 obtain ⟨⟨W,dd,J,sl⟩,n,U,S,B,G⟩:=ht
 have hi:=Vl r
 dsimp only at S B G
 subst S B G
 subst hi
 refine RF TV ⟨_,U,rfl⟩ PySem.F.entry_list_count (PySem.F.args_list_count_2 _ _) (PySem.SeqAt.list_countAt l _ n none sl (.bool true) VX) ⟨U,fun y hy=>Zhd _ _ (bs:=bs) (by simpa using hy),?_⟩
 rw [show ((bs.map Gy).toArray).toList=bs.map Gy from rfl,Vw]
 exact ⟨.int ((bs.filter id).length:Nat),H,I.tok _,⟨_,rfl⟩,q⟩
theorem Zhy:MtR X "list.index" (Zlo X.K):=by
 intro pins s σ H x vs v us Q I rx rv h
 obtain ⟨l,bs,j,rfl,rfl,Z,h1,h2,h3,q⟩:=h
 cases rx
 obtain ⟨u,rfl,ru⟩:=Yo rv
 obtain rfl:u=Gy true:=ru
 obtain ⟨its,r,ht,_⟩:=I.list Z
 obtain ⟨⟨cls,dd,W,sl⟩,n,S,U,B,J⟩:=ht
 have hi:=Vl r
 dsimp only at U B J
 subst U B J
 subst hi
 have hj:j < bs.length:=(Qi.mp h1).1
 refine RF TW ⟨_,S,rfl⟩ PySem.F.entry_list_index (PySem.F.args_list_index_2 _ _)
  (PySem.SeqAt.list_indexAt l _ n none sl (.bool true) VX j (by simpa using hj) (by omega) ?_ ?_) ⟨S,fun y hy=>Zhd _ _ (bs:=bs) (by simpa using hy),⟨.int (j:Nat),H,I.tok _,⟨_,rfl⟩,q⟩⟩
 ·have:bs[j]=true:=(Qi.mp h1).2
  simp [this,VX]
 ·intro m hm G
  obtain ⟨z1,z2⟩:=Qi.mp (h2 m G)
  simp [z2,VX]
end
def LmR (q:Str):YE:=fun Pl h=>LamsAt h Pl q
theorem LamsAt.same (h:LamsAt H Pl q)(s:Same H H'):LamsAt H' Pl q:=by
 obtain ⟨ts,e,f⟩:=h
 exact ⟨ts,s _ _ e,fun p hp=>s _ _ (f p hp)⟩
instance {q:Str}:Up (LmR q):=⟨fun h s=>LamsAt.same h s⟩
theorem Sep.grow (S:Sep ((Pl,LmR q)::Δ) H)(g:Grown Pl H H')(L:LamsAt H' Pl q):Sep ((Pl,LmR q)::Δ) H':=by
 refine S.call (L:=[Pl]) (fun b o nb e=>g b o (fun z=>nb (by simp [z])) e) fun h l r=>⟨fun b hb=>?_,some_of H' [Pl],WT,?_,fun b o e m=>.inl (Wz e m)⟩
 ·rw [mem_singleton.mp hb]
  obtain ⟨ts,e,_⟩:=r
  exact ⟨_,e,rfl⟩
 ·obtain ⟨ts,e,f⟩:=L
  exact ⟨ts,(XT (by simp)).trans e,fun p hp=>UF (f p hp) rfl⟩
theorem Grown.more (g:Grown Pl H H1)(s:Same H1 H2):Grown Pl H H2:=fun b o n e=>s _ _ (g b o n e)
inductive UK (P:Qk)(w:Qt)(K:Qa)(mg:Str->Option Qb)(base:Heap)(k:Nat)(RK:Addr->Str->Prop)(vs:List V)(H:Hp)(Q:VK)(w_3:XK):Prop
 | mk (q cs cc qual T:_):vs=[.ref q]->Thk P w K mg base k cs cc qual q T->Has cs H->H cc=some (.ext (Xs cc qual))->(∀ (H1:Hp) (Qc:VK) (Ec:XK),Same H H1->(∀ v H',(Hasn cs H'->∀ a H2,Same (cov H' cs) H2->H2 a=some (.tup [.str "told",v])->Q (.ref a) H2)->Qc v H')->(∀ C dx word what H',RK C word->H' dx=some (.xd [("what",what)])->(Hasn cs H'->∀ a H2,Same (cov H' cs) H2->H2 a=some (.tup [.str "refused",.str word,what])->Q (.ref a) H2)->Ec (.ref C) (some dx) H')->T (unc H1 cs) Qc Ec)->UK P w K mg base k RK vs H Q w_3
section
variable {P:Qk}{w:Qt}{K:Qa}{mg:Str->Option Qb}{base:Heap}{k:Nat}{RK:Addr->Str->Prop}{Pl:Addr}{qual:Str}{te:(St->XK)->TE}{σ:St}{H:Hp}{Q:VK}
end
section
variable {X:Cx}{k j:Nat}{RK:Addr->Str->Prop}{f:Str}{pn:Str}{p0 lpos pos:Pos}{args:Jo}{body:Expr}{sc:Scope}{te:(St->XK)->TE}{c Pl:Addr}
end
end L2
namespace L2
open PySem
structure Fnd where
 wd:Nat
 nm:Str
 ol:V
def Fnd.vs (f:Fnd):List V:=[.int (f.wd:Int),.str f.nm,f.ol]
def UM (fs:List Fnd):YE:=fun l h=>∃ as:List Addr,h l=some (.lst (as.map V.ref))/\as.length=fs.length/\∀(i:Nat)(a:Addr)(f:Fnd),as[i]?=some a->fs[i]?=some f->h a=some (.tup f.vs)
abbrev tFl (lf lu:Addr):List (Str×V):=[("finds",.ref lf),("unused",.ref lu)]
def Tks (CT:Addr)(fs:List Fnd)(us:List Bool):YE:=fun t h=>∃ lf lu,Sep [(t,Xt CT (tFl lf lu)),(lf,UM fs),(lu,Yi (us.map V.bl))] h
instance {CT:Addr} {fs:List Fnd} {us:List Bool}:Up (Tks CT fs us):=⟨fun ⟨lf,lu,S⟩ s=>⟨lf,lu,S.mono s⟩⟩
structure Hs where
 dfs:List (Zo×V)
 pls:List YD
 nds:List Nd
 tabs:List (Zo×V)
 spots:List Nat
 ins:List Nat
 fds:List Fnd
 us:List Bool
abbrev nI (n:Nat):V:=.int (n:Int)
theorem ZjW (e:Nat):∀ xs:List Nat,inV (nI e) (xs.map nI)=decide (e∈xs)
 | []=>rfl
 | x :: xs=>by
  have B:=ZjW e xs
  unfold inV at B ⊢
  rw [map_cons,any_cons,B]
  show (decide ((x:Int)=e) || _)=_
  by_cases h:x=e
  ·subst h;simp
  ·have h2:¬ (x:Int)=e:=fun z=>h (by omega)
   have G:¬ e=x:=fun z=>h z.symm
   simp [h2,G]
theorem Zkz (xs:List Nat):(xs.map nI).all WM=true:=all_eq_true.mpr fun v B=>by obtain ⟨x,_,rfl⟩:=mem_map.mp B;rfl
theorem ZgR {xs:List Nat}{k:Nat}(h:xs.getLast?=some k):YH (xs.map nI) (-1)=some (nI k):=by
 obtain ⟨ys,rfl⟩:=List.getLast?_eq_some_iff.mp h
 have G:((ys++[k]).map nI).length=ys.length+1:=by rw [length_map,length_append];rfl
 have e:((ys++[k]).map nI)[ys.length]?=some (nI k):=by rw [map_append,getElem?_append_right (by simp)];simp
 have B:XS (ys.length+1) (-1)=some ys.length:=by
  unfold XS
  rw [if_neg (by omega),if_pos (by omega),show (-1+((ys.length+1:Nat):Int)).toNat=ys.length by omega]
 unfold YH
 rw [G,B];exact e
abbrev Vx (d r sp i t:Addr):List (Str×V):=[("defaults",.ref d),("ways",.ref r),("spots",.ref sp),("inside",.ref i),("held",.ref t)]
abbrev Ziw (K:Qa)(CH CR CS CT:Addr)(s:Hs)(h d r sp i t:Addr):Rs :=
 [(h,Xt CH (Vx d r sp i t)),(d,Dic s.dfs),(r,Vm K CR CS s.pls s.nds s.tabs),(sp,Yi (s.spots.map nI)),(i,Yi (s.ins.map nI)),(t,Tks CT s.fds s.us)]
def XE (K:Qa)(CH CR CS CT:Addr)(s:Hs):YE:=fun h hp=>∃ d r sp i t,Sep (Ziw K CH CR CS CT s h d r sp i t) hp
section
variable {K:Qa}{CH CR CS CT h d r sp i t lf lu:Addr}{s:Hs}{fs:List Fnd}{us:List Bool}{Δ:Rs}{H:Hp}
instance:Up (XE K CH CR CS CT s):=⟨fun ⟨d,r,sp,i,t,S⟩ e=>⟨d,r,sp,i,t,S.mono e⟩⟩
theorem Sep.halO (S:Sep ((h,XE K CH CR CS CT s)::Δ) H):∃ d r sp i t,Sep ((h,Xt CH (Vx d r sp i t))::(d,Dic s.dfs)::(r,Vm K CR CS s.pls s.nds s.tabs)::(sp,Yi (s.spots.map nI))::(i,Yi (s.ins.map nI))::(t,Tks CT s.fds s.us)::Δ) H:=by
 obtain ⟨h',l,⟨d,r,sp,i,t,G⟩,S⟩:=S
 exact ⟨d,r,sp,i,t,Sep.nest (a:=h) (Γ:=Ziw K CH CR CS CT s h d r sp i t) l G S⟩
theorem Sep.halC (S:Sep ((h,Xt CH (Vx d r sp i t))::(d,Dic s.dfs)::(r,Vm K CR CS s.pls s.nds s.tabs)::(sp,Yi (s.spots.map nI))::(i,Yi (s.ins.map nI))::(t,Tks CT s.fds s.us)::Δ) H):Sep ((h,XE K CH CR CS CT s)::Δ) H :=
 Sep.pack (Γ:=Ziw K CH CR CS CT s h d r sp i t) S fun h' G=>⟨d,r,sp,i,t,G⟩
theorem Sep.tksO (S:Sep ((t,Tks CT fs us)::Δ) H):∃ lf lu,Sep ((t,Xt CT (tFl lf lu))::(lf,UM fs)::(lu,Yi (us.map V.bl))::Δ) H:=by
 obtain ⟨h',l,⟨lf,lu,G⟩,S⟩:=S
 exact ⟨lf,lu,Sep.nest (a:=t) (Γ:=[(t,Xt CT (tFl lf lu)),(lf,UM fs),(lu,Yi (us.map V.bl))]) l G S⟩
theorem Sep.tksC (S:Sep ((t,Xt CT (tFl lf lu))::(lf,UM fs)::(lu,Yi (us.map V.bl))::Δ) H):Sep ((t,Tks CT fs us)::Δ) H :=
 Sep.pack (Γ:=[(t,Xt CT (tFl lf lu)),(lf,UM fs),(lu,Yi (us.map V.bl))]) S fun h' G=>⟨lf,lu,G⟩
theorem ZiP:(Vx d r sp i t).lookup ("defaults":Str)=some (V.ref d):=rfl
theorem hf_w:(Vx d r sp i t).lookup ("ways":Str)=some (V.ref r):=rfl
theorem ZbN:(Vx d r sp i t).lookup ("spots":Str)=some (V.ref sp):=rfl
theorem ZiQ:(Vx d r sp i t).lookup ("inside":Str)=some (V.ref i):=rfl
theorem hf_h:(Vx d r sp i t).lookup ("held":Str)=some (V.ref t):=rfl
theorem Yn (h:[("defaults":Str),"ways","spots","inside","held"].all (fun k=>!(m == k))=true):(Vx d r sp i t).lookup m=none:=by
 simp only [JZ,Os,Rw,QM,Jh] at h
 obtain ⟨h1,h2,B,G,I⟩:=h
 simp [Vx,Gw,h1,h2,B,G,I]
end
structure XD (K:Qa)(CH:Addr):Prop where
 cl:Cls K CH
 nd:NoAttr K CH "defaults"
 nw:NoAttr K CH "ways"
 ns:NoAttr K CH "spots"
 ni:NoAttr K CH "inside"
 nh:NoAttr K CH "held"
structure ZfM (K:Qa)(CT:Addr):Prop where
 cl:Cls K CT
 nf:NoAttr K CT "finds"
 nu:NoAttr K CT "unused"
end L2
namespace K33
open PySem L2
section
variable {P:Qk}{w:Qt}{K:Qa}{mg:Str->Option Qb}{base:Heap}{CH CR CS CT:Addr}
inductive Zcd (CT:Addr)(vs:List V)(H:Hp)(Q:VK)(w_3:XK):Prop
 | mk (t dx:Addr) (H0:Hp) (Δ:Rs):vs=[.ref t]->H=upd (upd H0 dx (.own t)) t (.ins CT dx [])->H0 t=none->H0 dx=none->dx≠t->Sep Δ H0->(∀ H',Sep ((t,Tks CT [] [])::Δ) H'->Q .non H')->Zcd CT vs H Q w_3
abbrev nTIn:List Str:=["self"]
abbrev Zke:List Str:=["self"]
theorem Zoq:Zp nTIn Zke (Zj c_Tokens___init__):={}
theorem Zjf (F:Fun K "__init__" "Tokens.__init__" c_Tokens___init__ f fd)(T:Ym mg)(TT:ZfM K CT):FnOk P w K mg base ZI 1 f fd Zke (Zcd CT):=by
 refine F.ok Zoq (fun cdv A outer s H vs Q E hr h=>?_)
 obtain ⟨t,dx,H0,Δ,rfl,rfl,h1,h2,h3,S0,q⟩:=h
 have S:=((S0.new h2 (.own t)).new (p:=t) (by rw [Zh h3.symm];exact h1) (.ins CT dx [])).drop dx
 generalize upd (upd H0 dx (.own t)) t (.ins CT dx [])=H at *
 refine' ⟨?t,?h,?r⟩
 case h =>
  conv=>arg 2;whnf
  with_reducible refine' (Zd ?h1 (Zi ?h2))
  case h1=>exact YT (pv 0) (Yb Za) rfl
  case h2=>exact YT (pv 0) (Yb Za) rfl
 try dsimp only [ZQ,Cx.nox]
 refine VP ?_
 intro zD zS zN1
 refine ⟨(by show 0<=Qj;decide),fun lf G=>?_⟩
 generalize B:upd H lf _=H2
 have U:=S.newE G B
 clear B
 refine ⟨_,rfl,t,CT,dx,_,rfl,U.get t,TT.cl,TT.nf,(by show 0 < 1000;decide),?_⟩
 generalize B:upd H2 t _=Z
 have S3:=U.putE B
 clear B
 refine ⟨(by show 0<=Qj;decide),fun lu I=>?_⟩
 generalize B:upd Z lu _=H4
 have J:=S3.newE I B
 clear B
 refine ⟨_,rfl,t,CT,dx,_,rfl,J.get t,TT.cl,TT.nu,(by show 1 < 1000;decide),?_⟩
 generalize B:upd H4 t _=H5
 have S5:=J.putE B
 clear B
 have S6:=S5.say lf (UM []) fun h z=>⟨[],z,rfl,fun i a s e=>by simp at e⟩
 have W:=S6.say t (Xt CT (tFl lf lu)) fun h z=>⟨dx,z⟩
 exact q _ (Sep.tksC (us:=[]) (((W.pull lu).pull lf).pull t))
def hs0:Hs:=⟨[],[],[.bare],[(QQ 0,.bl true)],[0],[0],[],[]⟩
inductive Zcb (K:Qa)(CH CR CS CT:Addr)(vs:List V)(H:Hp)(Q:VK)(w_3:XK):Prop
 | mk (p dx:Addr) (H0:Hp) (Δ:Rs):vs=[.ref p]->H=upd (upd H0 dx (.own p)) p (.ins CH dx [])->H0 p=none->H0 dx=none->dx≠p->Sep Δ H0->(∀ H',Sep ((p,XE K CH CR CS CT hs0)::Δ) H'->Q .non H')->Zcb K CH CR CS CT vs H Q w_3
abbrev nHIn:List Str:=["self"]
abbrev Zkc:List Str:=["self"]
theorem Zoe:Zp nHIn Zkc (Zj c_Hall___init__):={}
theorem Zjd (F:Fun K "__init__" "Hall.__init__" c_Hall___init__ f fd)(T:Ym mg)(G:XD K CH)(W:ZbD P w K mg base 11 CR "Roads" ["self"] (Zcc K CR CS))(DTk:ZbD P w K mg base 1 CT "Tokens" ["self"] (Zcd CT)):FnOk P w K mg base ZI 13 f fd Zkc (Zcb K CH CR CS CT):=by
 refine F.ok Zoe (fun cdv A outer s H vs Q E hr h=>?_)
 obtain ⟨p,dx,H0,Δ,rfl,rfl,h1,h2,h3,S0,q⟩:=h
 have S:=((S0.new h2 (.own p)).new (p:=p) (by rw [Zh h3.symm];exact h1) (.ins CH dx [])).drop dx
 generalize upd (upd H0 dx (.own p)) p (.ins CH dx [])=H at *
 have hr2:=hr.mono (show 2<=12 by decide)
 refine' ⟨?t,?h,?r⟩
 case h =>
  conv=>arg 2;whnf
  with_reducible refine' (Zd ?h1 (Zd ?h2 (Zd ?h3 (Zd ?h4 (Zi ?h5)))))
  case h1=>exact YT (pv 0) Zjq rfl
  case h2=>exact YT (pv 0) (ZcX W hr) rfl
  case h3=>exact YT (pv 0) (Yb (Zc Zg Za)) rfl
  case h4=>exact YT (pv 0) (Yb (Zc Zg Za)) rfl
  case h5=>exact YT (pv 0) (ZcX DTk hr2) rfl
 try dsimp only [ZQ,Cx.nox]
 refine zs5 ?_
 intro zD zS zN4 zN3 zN2 zN1
 intro d hd
 generalize B:upd H d _=H1
 have S1:=S.newE hd B
 clear B
 refine ⟨_,rfl,p,CH,dx,_,rfl,S1.get p,G.cl,G.nd,(by show 0 < 1000;decide),?_⟩
 generalize B:upd H1 p _=H2
 have S2:=S1.putE B
 clear B
 intro r dr Z hdr I
 refine ⟨r,dr,_,_,rfl,rfl,Z,hdr,I,S2,fun H3 S3=>⟨rfl,?_⟩⟩
 refine ⟨_,rfl,p,CH,dx,_,rfl,S3.get p,G.cl,G.nw,(by show 1 < 1000;decide),?_⟩
 generalize B:upd H3 p _=H4
 have S4:=S3.putE B
 clear B
 refine ⟨(by show 1<=Qj;decide),fun sp hsp=>?_⟩
 generalize B:upd H4 sp _=H5
 have S5:=S4.newE hsp B
 clear B
 refine ⟨_,rfl,p,CH,dx,_,rfl,S5.get p,G.cl,G.ns,(by show 2 < 1000;decide),?_⟩
 generalize B:upd H5 p _=H6
 have S6:=S5.putE B
 clear B
 refine ⟨(by show 1<=Qj;decide),fun i hi=>?_⟩
 generalize B:upd H6 i _=H7
 have S7:=S6.newE hi B
 clear B
 refine ⟨_,rfl,p,CH,dx,_,rfl,S7.get p,G.cl,G.ni,(by show 3 < 1000;decide),?_⟩
 generalize B:upd H7 p _=H8
 have S8:=S7.putE B
 clear B
 intro t dt ht1 J hnt
 refine ⟨t,dt,_,_,rfl,rfl,ht1,J,hnt,S8,fun H9 S9=>⟨rfl,?_⟩⟩
 refine ⟨_,rfl,p,CH,dx,_,rfl,S9.get p,G.cl,G.nh,(by show 4 < 1000;decide),?_⟩
 generalize B:upd H9 p _=H10
 have S10:=S9.putE B
 clear B
 have U:=S10.say p (Xt CH (Vx d r sp i t)) fun h z=>⟨dx,z⟩
 exact q _ (Sep.halC (s:=hs0) (((((U.pull t).pull i).pull sp).pull r).pull d |>.pull p))
abbrev Vt (K:Qa)(CH CR CS CT h:Addr)(s:Hs)(H:Hp):Prop:=XE K CH CR CS CT s h H
def Vo (s:Hs)(i:Int):Prop:=0<=i/\i < (s.spots.length:Int)
abbrev ExW (E:XK)(CX:Addr)(v:V)(H:Hp):Prop:=∀ dx H',Same H H'->H' dx=some (.xd [("what",v)])->E (.ref CX) (some dx) H'
inductive WH (K:Qa)(CH CR CS CT CX:Addr)(vs:List V)(H:Hp)(Q:VK)(E:XK):Prop
 | mk (h:Addr) (s:Hs) (i:Int):vs=[.ref h,.int i]->Vt K CH CR CS CT h s H->(Vo s i->Q .non H)->(¬ Vo s i->ExW E CX (.int i) H)->WH K CH CR CS CT CX vs H Q E
abbrev nHCk:List Str:=["self","world"]
abbrev Ul:List Str:=["self","world"]
theorem ZnZ:Zp nHCk Ul (Zj c_Hall_check_world):={}
theorem Zff (F:Fun K "check_world" "Hall.check_world" c_Hall_check_world f fd)(T:Ym mg)(J:XD K CH)(DE:UL P w K mg base 1 CX "NoWorld"):FnOk P w K mg base (XC P w base) 3 f fd Ul (WH K CH CR CS CT CX):=by
 refine F.okX ZnZ (fun cdv A outer s H vs Q E Z h W=>?_)
 obtain ⟨h,s,i,rfl,⟨d,r,sp,il,t,S⟩,q1,U⟩:=h
 obtain ⟨dx,ob⟩:=S.get h
 refine' ⟨?t,?h,?r⟩
 case h =>
  conv=>arg 2;whnf
  with_reducible refine' (Zi (Ye ?h1 (Zi ?h2) ZR))
  case h1=>exact Zbr (Zea Zka ZcV Zg (pv 1) (Zr ZF rfl T.len QK (Zc (ZB (pv 0) rfl) Za)))
  case h2=>exact Vf W DE Z rfl (Zc (pv 1) Za)
 try dsimp only [ZQ,Cx.nox]
 refine ⟨_,rfl,_,_,rfl,rfl,_,rfl,?_⟩
 by_cases B:0<=i
 ·rw [decide_eq_true B]
  refine Yw ⟨_,rfl,h,CH,dx,_,_,rfl,ob,J.cl,J.ns,ZbN,sp,_,rfl,.inl (SqL.of (S.get sp)),_,_,rfl,rfl,_,rfl,?_⟩
  rw [length_map]
  by_cases G:i < (s.spots.length:Int)
  ·rw [decide_eq_true G]
   exact Ya (q1 ⟨B,G⟩)
  ·rw [decide_eq_false G]
   exact Yw ⟨_,rfl,_,rfl,fun d I=>U (fun z=>G z.2) d _ (Zm I _) Ze⟩
 ·rw [decide_eq_false B]
  refine Ya ⟨_,rfl,Yw ?_⟩
  exact ⟨_,rfl,_,rfl,fun d I=>U (fun z=>B z.1) d _ (Zm I _) Ze⟩
inductive Zgv (K:Qa)(CH CR CS CT:Addr)(vs:List V)(H:Hp)(Q:VK)(w_3:XK):Prop
 | mk (h:Addr) (s:Hs) (k:Nat):vs=[.ref h,.int (k:Int)]->Vt K CH CR CS CT h s H->k < s.spots.length->Q .non H->Zgv K CH CR CS CT vs H Q w_3
theorem ZnE (h:Zgv K CH CR CS CT vs H Q E):WH K CH CR CS CT CX vs H Q (fun _ _ _=>False):=by
 obtain ⟨h,s,k,e,R,B,q⟩:=h
 exact ⟨h,s,k,e,R,fun _=>q,fun z=>absurd ⟨by omega,by omega⟩ z⟩
inductive ZgB (K:Qa)(CH CR CS CT:Addr)(vs:List V)(H:Hp)(Q:VK)(w_3:XK):Prop
 | mk (h:Addr) (s:Hs):vs=[.ref h]->Vt K CH CR CS CT h s H->Q (.int (s.spots.length:Int)) H->ZgB K CH CR CS CT vs H Q w_3
abbrev nHWd:List Str:=["self"]
abbrev Zgh:List Str:=["self"]
theorem Zok:Zp nHWd Zgh (Zj c_Hall_worlds):={}
theorem ZmE (F:Fun K "worlds" "Hall.worlds" c_Hall_worlds f fd)(T:Ym mg)(B:XD K CH):FnOk P w K mg base ZI 1 f fd Zgh (ZgB K CH CR CS CT):=by
 refine F.ok Zok (fun I A outer s H vs Q E J h=>?_)
 obtain ⟨h,s,rfl,⟨d,r,sp,i,t,S⟩,q⟩:=h
 obtain ⟨dx,G⟩:=S.get h
 refine' ⟨?t,?h,?r⟩
 case h =>
  conv=>arg 2;whnf
  with_reducible refine' (Zi ?h1)
  case h1=>exact Zu (Zr ZF rfl T.len QK (Zc (ZB (pv 0) rfl) Za))
 try dsimp only [ZQ,Cx.nox]
 refine ⟨_,rfl,h,CH,dx,_,_,rfl,G,B.cl,B.ns,ZbN,sp,_,rfl,.inl (SqL.of (S.get sp)),?_⟩
 rw [length_map];exact q
inductive UJ (K:Qa)(CH CR CS CT CX:Addr)(vs:List V)(H:Hp)(Q:VK)(E:XK):Prop
 | mk (h:Addr) (s:Hs) (i:Int):vs=[.ref h,.int i]->Vt K CH CR CS CT h s H->((∀ (k p:Nat),i=(k:Int)->s.spots[k]?=some p->Q (.int (p:Int)) H))->(¬ Vo s i->ExW E CX (.int i) H)->UJ K CH CR CS CT CX vs H Q E
abbrev nHPl:List Str:=["self","world"]
abbrev WO:List Str:=["self","world"]
theorem Zoi:Zp nHPl WO (Zj c_Hall_place):={}
theorem Zfh (F:Fun K "place" "Hall.place" c_Hall_place f fd)(T:Ym mg)(G:XD K CH)(B:DefMX P w K mg base 3 CH "check_world" Ul (WH K CH CR CS CT CX)):FnOk P w K mg base (XC P w base) 4 f fd WO (UJ K CH CR CS CT CX):=by
 refine F.okX Zoi (fun cdv A outer s H vs Q E U h W=>?_)
 obtain ⟨h,s,i,rfl,R,q1,Z⟩:=h
 obtain ⟨d,r,sp,il,t,S⟩:=id R
 obtain ⟨dx,J⟩:=S.get h
 refine' ⟨?t,?h,?r⟩
 case h =>
  conv=>arg 2;whnf
  with_reducible refine' (Zd ?h1 (Zi ?h2))
  case h1=>exact ZT (Wd W B G.cl U (pv 0) (Zc (pv 1) Za))
  case h2=>exact Zu (ZA ZG (ZB (pv 0) rfl) (pv 1) (fun _ _=>rfl))
 try dsimp only [ZQ,Cx.nox]
 refine VP ?_
 intro zD zS zN1
 refine ⟨_,rfl,h,dx,_,rfl,J,Yn (by decide +kernel),_,rfl,h,s,i,rfl,R,fun ⟨c0,c1⟩=>?_,Z⟩
 obtain ⟨k,rfl⟩:∃ k:Nat,i=(k:Int):=⟨i.toNat,by omega⟩
 obtain ⟨p,I⟩:∃ p,s.spots[k]?=some p:=⟨_,getElem?_eq_getElem (by omega)⟩
 exact ⟨_,rfl,h,CH,dx,_,_,rfl,J,G.cl,G.ns,ZbN,_,rfl,sp,_,_,_,rfl,rfl,SqL.of (S.get sp),ZK (by rw [getElem?_map,I];rfl),q1 k p rfl I⟩
inductive Zag (K:Qa)(CH CR CS CT:Addr)(vs:List V)(H:Hp)(Q:VK)(w_3:XK):Prop
 | mk (h:Addr) (s:Hs) (k p:Nat):vs=[.ref h,.int (k:Int)]->Vt K CH CR CS CT h s H->s.spots[k]?=some p->Q (.int (p:Int)) H->Zag K CH CR CS CT vs H Q w_3
theorem ZnR (h:Zag K CH CR CS CT vs H Q E):UJ K CH CR CS CT CX vs H Q (fun _ _ _=>False):=by
 obtain ⟨h,s,k,p,e,R,B,q⟩:=h
 refine ⟨h,s,k,e,R,fun G I z h1=>?_,fun z=>absurd ⟨by omega,by have:=(Qi.mp B).1;omega⟩ z⟩
 obtain rfl:k=G:=by omega
 rw [B] at h1;cases h1;exact q
inductive Zdj (K:Qa)(CH CR CS CT:Addr)(vs:List V)(H:Hp)(Q:VK)(w_3:XK):Prop
 | mk (h:Addr) (s:Hs) (k:Nat):vs=[.ref h]->Vt K CH CR CS CT h s H->s.ins.getLast?=some k->Q (.int (k:Int)) H->Zdj K CH CR CS CT vs H Q w_3
abbrev nHNo:List Str:=["self"]
abbrev Zdb:List Str:=["self"]
theorem Zog:Zp nHNo Zdb (Zj c_Hall_now):={}
theorem Zmy (F:Fun K "now" "Hall.now" c_Hall_now f fd)(T:Ym mg)(B:XD K CH):FnOk P w K mg base ZI 1 f fd Zdb (Zdj K CH CR CS CT):=by
 refine F.ok Zog (fun J A outer s H vs Q E U h=>?_)
 obtain ⟨h,s,k,rfl,⟨d,r,sp,i,t,S⟩,G,q⟩:=h
 obtain ⟨dx,I⟩:=S.get h
 refine' ⟨?t,?h,?r⟩
 case h =>
  conv=>arg 2;whnf
  with_reducible refine' (Zi ?h1)
  case h1=>exact Zu (ZA ZG (ZB (pv 0) rfl) (Zkb Zit Zg) (fun _ _=>rfl))
 try dsimp only [ZQ,Cx.nox]
 exact ⟨_,rfl,h,CH,dx,_,_,rfl,I,B.cl,B.ni,ZiQ,1,rfl,i,_,_,_,rfl,rfl,SqL.of (S.get i),ZgR G,q⟩
inductive VJ (K:Qa)(CH CR CS CT CX:Addr)(vs:List V)(H:Hp)(Q:VK)(E:XK):Prop
 | mk (h:Addr) (s:Hs) (i:Int) (Δ:Rs):vs=[.ref h,.int i]->Sep ((h,XE K CH CR CS CT s)::Δ) H->s.spots.length<=1000->((∀ (k p:Nat),i=(k:Int)->s.spots[k]?=some p->∀ H',Sep ((h,XE K CH CR CS CT { s with spots:=s.spots++[p] })::Δ) H'->Q (.int (s.spots.length:Int)) H'))->(¬ Vo s i->ExW E CX (.int i) H)->VJ K CH CR CS CT CX vs H Q E
abbrev nHCo:List Str:=["self","world"]
abbrev Zab:List Str:=["self","world"]
theorem Zoa:Zp nHCo Zab (Zj c_Hall_copy):={}
theorem Zfg (F:Fun K "copy" "Hall.copy" c_Hall_copy f fd)(T:Ym mg)(G:XD K CH)(B:DefMX P w K mg base 4 CH "place" WO (UJ K CH CR CS CT CX)):FnOk P w K mg base (XC P w base) 5 f fd Zab (VJ K CH CR CS CT CX):=by
 refine F.okX Zoa (fun cdv A outer s H vs Q E hr h W=>?_)
 obtain ⟨h,s,i,Δ,rfl,S0,hl,q,q2⟩:=h
 have R:=S0.get h
 obtain ⟨d,r,sp,il,t,S⟩:=S0.halO
 obtain ⟨dx,ob⟩:=S.get h
 refine' ⟨?t,?h,?r⟩
 case h =>
  conv=>arg 2;whnf
  with_reducible refine' (Zd ?h1 (Zi ?h2))
  case h1=>exact ZT (YG Qx QB QC ZZ (ZB (pv 0) rfl) (Zc (Wd W B G.cl hr (pv 0) (Zc (pv 1) Za)) Za))
  case h2=>exact Zu (Zv YS (Zr ZF rfl T.len QK (Zc (ZB (pv 0) rfl) Za)) Zg)
 try dsimp only [ZQ,Cx.nox]
 refine VP ?_
 intro zD zS zN1
 refine ⟨_,rfl,h,CH,dx,_,_,rfl,ob,G.cl,G.ns,ZbN,.inl ⟨rfl,_,SqL.of (S.get sp)⟩,_,rfl,h,dx,_,rfl,ob,Yn (by decide +kernel),_,rfl,h,s,i,rfl,R,fun k p ei hk=>?_,q2⟩
 refine ⟨sp,_,_,rfl,rfl,S.get sp,YO (show _<=1000 by rw [length_map];exact hl),?_⟩
 generalize Z:upd H sp _=H2
 have J:=S.putE Z
 clear Z
 obtain ⟨I,U⟩:=J.get h
 refine ⟨_,rfl,h,CH,I,_,_,rfl,U,G.cl,G.ns,ZbN,sp,_,rfl,.inl (SqL.of (J.get sp)),_,_,rfl,rfl,?_⟩
 try dsimp only
 rw [show (((s.spots.map nI++[V.int (p:Int)]).length:Nat):Int) - 1=(s.spots.length:Int) by rw [length_append,length_map];simp]
 refine q k p ei hk _ (Sep.halC (s:={ s with spots:=s.spots++[p] }) (d:=d) (r:=r) (sp:=sp) (i:=il) (t:=t) ?_)
 show L2.Sep (_::_::_::(sp,Yi ((s.spots++[p]).map nI))::_) _
 rw [map_append]
 exact ((J.pull sp).pull r).pull d |>.pull h
inductive Zdh (K:Qa)(CH CR CS CT CX CB:Addr)(vs:List V)(H:Hp)(Q:VK)(E:XK):Prop
 | mk (h:Addr) (s:Hs) (i:Int) (Δ:Rs):vs=[.ref h,.int i]->Sep ((h,XE K CH CR CS CT s)::Δ) H->s.ins.length<=1000->(¬ Vo s i->ExW E CX (.int i) H)->(∀ k:Nat,i=(k:Int)->k < s.spots.length->k∈s.ins->ExW E CB (.int i) H)->((∀ k:Nat,i=(k:Int)->k < s.spots.length->k ∉ s.ins->∀ H',Sep ((h,XE K CH CR CS CT { s with ins:=s.ins++[k] })::Δ) H'->Q .non H'))->Zdh K CH CR CS CT CX CB vs H Q E
abbrev nHEt:List Str:=["self","world"]
abbrev ZcZ:List Str:=["self","world"]
theorem Zod:Zp nHEt ZcZ (Zj c_Hall_enter):={}
theorem Zmu (F:Fun K "enter" "Hall.enter" c_Hall_enter f fd)(T:Ym mg)(G:XD K CH)(B:DefMX P w K mg base 3 CH "check_world" Ul (WH K CH CR CS CT CX))(DE:UL P w K mg base 2 CB "Busy"):FnOk P w K mg base (XC P w base) 4 f fd ZcZ (Zdh K CH CR CS CT CX CB):=by
 refine F.okX Zod (fun cdv A outer s H vs Q E U h W=>?_)
 obtain ⟨h,s,I,Δ,rfl,S0,hl,q0,q1,q2⟩:=h
 have R:=S0.get h
 obtain ⟨d,r,sp,i,t,S⟩:=S0.halO
 obtain ⟨dx,J⟩:=S.get h
 refine' ⟨?t,?h,?r⟩
 case h =>
  conv=>arg 2;whnf
  with_reducible refine' (Zd ?h1 (Zd (Ye ?h2 (Zi ?h3) ZR) (Zi ?h4)))
  case h1=>exact ZT (Wd W B G.cl U (pv 0) (Zc (pv 1) Za))
  case h2=>exact ZX ZhG (pv 1) (ZB (pv 0) rfl) rfl
  case h3=>exact Vf W DE U rfl (Zc (pv 1) Za)
  case h4=>exact ZT (YG Qx QB QC ZZ (ZB (pv 0) rfl) (Zc (pv 1) Za))
 try dsimp only [ZQ,Cx.nox]
 refine zs3 ?_
 intro zD zS zN2 zN1
 refine ⟨_,rfl,h,dx,_,rfl,J,Yn (by decide +kernel),_,rfl,h,s,I,rfl,R,fun ⟨c0,c1⟩=>?_,q0⟩
 obtain ⟨k,rfl⟩:∃ k:Nat,I=(k:Int):=⟨I.toNat,by omega⟩
 refine ⟨_,rfl,_,rfl,h,CH,dx,_,_,rfl,J,G.cl,G.ni,ZiQ,i,_,rfl,.inl (SqL.of (S.get i)),rfl,Zkz _,_,rfl,?_⟩
 rw [if_neg (by decide),ZjW]
 refine UW (fun c=>?_) (fun c=>?_)
 ·exact ⟨_,rfl,_,rfl,fun d hd=>q1 k rfl (by omega) (of_decide_eq_true c) d _ (Zm hd _) Ze⟩
 refine ⟨_,rfl,h,CH,dx,_,_,rfl,J,G.cl,G.ni,ZiQ,.inl ⟨rfl,_,SqL.of (S.get i)⟩,_,rfl,i,_,_,rfl,rfl,S.get i,YO (show _<=1000 by rw [length_map];exact hl),?_⟩
 generalize Z:upd H i _=H2
 have S2:=S.putE Z
 clear Z
 refine q2 k rfl (by omega) (fun z=>c (decide_eq_true z)) _ (Sep.halC (s:={ s with ins:=s.ins++[k] }) (d:=d) (r:=r) (sp:=sp) (i:=i) (t:=t) ?_)
 show L2.Sep (_::_::_::_::(i,Yi ((s.ins++[k]).map nI))::_) _
 rw [map_append]
 exact (((S2.pull i).pull sp).pull r).pull d |>.pull h
end
end K33
namespace L2
open PySem PySem.W
def ZaS (v:Option (Option Qb))(x:String):Bool:=match v with
 | some (some (.builtin b))=>b == x
 | _=>false
def ZcU (v:Option (Option Qb)):Bool:=match v with
 | some none=>true
 | _=>false
def VU (K:Qa)(CRo C fI:Addr)(cs n1 n2:List Addr)(j:Nat):Bool :=
 ((Zex K C&&ZcU (Qv K (.ref C) "what"))&&(ZaS (Qv K (.ref C) "__getattribute__") "BaseException.__getattribute__"&&(ZcU (Qv K (.ref C) "__getattr__")&&ZaS (Qv K (.ref C) "__class__") "object.__class__"))) &&
 (((match Qv K (.ref C) "__init__" with | some (some (.ref a))=>a == fI | _=>false)&&ZaS (Qv K (.ref C) "__setattr__") "object.__setattr__")&&keepIn K (.ref C)) &&
 ((exmOne K (.ref C) (.ref CRo) == some true&&kitOne K (.ref C) (.type "ValueError") == some true) &&
  (((Jx cs.length).all fun i=>kitOne K (.ref C) (.ref (cs.getD i 0)) == some (decide (i=j)))&&(kitAny K (.ref C) (n1.map Qm) == some false&&kitAny K (.ref C) (n2.map Qm) == some false)))
structure RefK (K:Qa)(CRo:Addr)(cs n1 n2:List Addr)(C:Addr)(j:Nat):Prop where
 g:XG K C
 cat:exmOne K (.ref C) (.ref CRo)=some true
 ve:kitOne K (.ref C) (.type "ValueError")=some true
 is:∀ i,i < cs.length->kitOne K (.ref C) (.ref (cs.getD i 0))=some (decide (i=j))
 no1:kitAny K (.ref C) (n1.map Qm)=some false
 no2:kitAny K (.ref C) (n2.map Qm)=some false
theorem Zdx (h:ZaS v x=true):v=some (some (.builtin x)):=by
 unfold ZaS at h
 split at h
 ·rw [beq_iff_eq.mp h]
 ·cases h
theorem ZdS (h:ZcU v=true):v=some none:=by
 unfold ZcU at h
 split at h
 ·rfl
 ·cases h
theorem WC {j:Nat}(h:VU K CRo C B cs I S j=true):RefK K CRo cs I S C j/\(isFn K (.ref B)=true->XF K C B):=by
 unfold VU at h
 simp only [QM,beq_iff_eq,all_eq_true,List.mem_range] at h
 obtain ⟨⟨⟨⟨G,J⟩,a3,a4,U⟩,⟨b1,b2⟩,b3⟩,⟨c1,Z⟩,c3,c4,W⟩:=h
 have g:XG K C:=⟨G,ZdS J,Zdx a3,ZdS a4,Zdx U⟩
 refine ⟨⟨g,c1,Z,c3,c4,W⟩,fun hf=>?_⟩
 have i1:Qv K (.ref C) "__init__"=some (some (.ref B)):=by
  split at b1
  ·rename_i e;rw [e,beq_iff_eq.mp b1]
  ·cases b1
 exact ⟨G,i1,Zdx b2,ZdS J,hf,b3⟩
end L2
namespace L2
open PySem PySem.Spec PyProof.Rows PyProof.Rows.KTD
section
variable {δ:Type}{Rr:δ->Qb->Prop}{prog:Qk}{w:Qt}{A:QA}{E:Qb->Qe->Prop}{s:Qe}{a:Addr}{D:List (Str×δ)}{k:Str}{tk:Tok}
end
section
variable {X:Cx}{o e:Expr}{apos cpos:Pos}{te:TE}{d:Addr}{D:List (Str×List V)}
end
end L2
namespace L2
open PySem PySem.Spec PyProof.Rows
section
variable {X:Cx}
end
mutual
theorem DatT.same {K:Qa}{H H':Hp}(s:Same H H'):∀{v d},DatT K H v d->DatT K H' v d
 | _,_,.non=>.non
 | _,_,.int i=>.int i
 | _,_,.str x=>.str x
 | _,_,.tup e q=>.tup (e.tf s.tf) (DatTs.same s q)
theorem DatTs.same {K:Qa}{H H':Hp}(s:Same H H'):∀{vs ds},DatTs K H vs ds->DatTs K H' vs ds
 | _,_,.nil=>.nil
 | _,_,.cons r t=>.cons (DatT.same s r) (DatTs.same s t)
end
section
variable {X:Cx}
end
section
variable {prog:Qk}{w:Qt}{A:QA}{E:Qb->Qe->Prop}{s:Qe}
end
section
variable {X:Cx}
end
section
variable {prog:Qk}{w:Qt}{A:QA}{E:Qb->Qe->Prop}{s:Qe}
end
section
variable {prog:Qk}{w:Qt}{A:QA}{E:Qb->Qe->Prop}{s:Qe}
end
section
variable {X:Cx}
end
section
variable {X:Cx}{pins:List (Addr×Obj)}{σ:St}{H:Hp}{s:Qe}
end
end L2
namespace L2
open PySem
structure FG (K:Qa)(x:Str)(st:Stmt)(f:Addr)(fd:Qn):Prop where
 a:Qp K Ql x=some (some (.ref f))
 F:Fun K x x st f fd
structure FM (K:Qa)(C:Addr)(x q:Str)(st:Stmt)(f:Addr)(fd:Qn):Prop where
 m:Vr K C x f
 F:Fun K x q st f fd
structure FGC (K:Qa)(x:Str)(st:Stmt)(f:Addr)(fd:Qn)(c Pl:Addr):Prop where
 a:Qp K Ql x=some (some (.ref f))
 F:FunC K x x st f fd c Pl
structure CH (K:Qa)(x:Str)(C:Addr):Prop where
 a:Qp K Ql x=some (some (.ref C))
 c:Cls K C
 ms:Sn K C=true
 kp:GK K (.ref C)=true
structure Bs (P:Qk)(w:Qt)(K:Qa)(mg:Str->Option Qb)(base h:Heap):Prop where
 X:K.In h
 G:h.Ns Ql mg
section
variable {P:Qk}{w:Qt}{K:Qa}{mg:Str->Option Qb}{base h:Heap}{x q:Str}{st:Stmt}{f c Pl C:Addr}{fd:Qn}{k:Nat}{ps:List Str}{sp:Sp}{p1 p2 p3 p4 p5:Str}
theorem FG.df (g:FG K x st f fd)(e:Bs P w K mg base h)(o:FnOk P w K mg base ZI k f fd ps sp)(b:Binds K fd ps []):Def P w K mg base k x ps sp:=⟨f,fd,o,b,g.F.kp,Gx e.X e.G g.a⟩
theorem FGC.df (g:FGC K x st f fd c Pl)(e:Bs P w K mg base h)(o:FnOk P w K mg base ZI k f fd ps sp)(b:Binds K fd ps []):Def P w K mg base k x ps sp:=⟨f,fd,o,b,g.F.kp,Gx e.X e.G g.a⟩
theorem FM.df (g:FM K C x q st f fd)(_:Bs P w K mg base h)(o:FnOk P w K mg base ZI k f fd ps sp)(b:Binds K fd ps []):DefM P w K mg base k C x ps sp:=⟨f,fd,o,b,g.m⟩
theorem FM.di (g:FM K C "__init__" q st f fd)(ch:CH K y C)(e:Bs P w K mg base h)(o:FnOk P w K mg base ZI k f fd ps sp)(b:Binds K fd ps []):ZbD P w K mg base k C y ps sp:=⟨f,fd,o,b,⟨ch.ms,g.m.at_,g.m.fn,ch.kp⟩,Gx e.X e.G ch.a⟩
abbrev BA (x q:Str)(st:Stmt)(us:List Qb)(r:List (Str×Qb)):Prop:=∀(kV doc pm:Qb)(an:Option Addr)(cdv ct:Qb),RZ (JG x q (VR st) (Xx st) (Zj st) .none kV doc pm an cdv ct) ⟨us,[]⟩=pure r
theorem Xg {B:Type}{us:List B}{n:Nat}(h:us.length=n+1):∃ u r,us=u::r/\r.length=n:=by
 cases us with
 | nil=>cases h
 | cons u r=>exact ⟨u,r,rfl,Nat.succ.inj h⟩
theorem Fun.b1 (F:Fun K x q st f fd)(h:∀ u,BA x q st [u] [(p1,u)]):Binds K fd [p1] []:=F.binds fun a b c d e g us B=>by
 obtain ⟨u,us,rfl,C⟩:=Xg B
 cases eq_nil_of_length_eq_zero C;exact h u a b c d e g
theorem Fun.b2 (F:Fun K x q st f fd)(h:∀ u v,BA x q st [u,v] [(p1,u),(p2,v)]):Binds K fd [p1,p2] []:=F.binds fun a b c d e g us B=>by
 obtain ⟨u,us,rfl,C⟩:=Xg B
 obtain ⟨v,us,rfl,D⟩:=Xg C
 cases eq_nil_of_length_eq_zero D;exact h u v a b c d e g
theorem Fun.b3 (F:Fun K x q st f fd)(h:∀ u v y,BA x q st [u,v,y] [(p1,u),(p2,v),(p3,y)]):Binds K fd [p1,p2,p3] []:=F.binds fun a b c d e g us B=>by
 obtain ⟨u,us,rfl,C⟩:=Xg B
 obtain ⟨v,us,rfl,D⟩:=Xg C
 obtain ⟨y,us,rfl,E⟩:=Xg D
 cases eq_nil_of_length_eq_zero E;exact h u v y a b c d e g
theorem Fun.b4 (F:Fun K x q st f fd)(h:∀ u v y z,BA x q st [u,v,y,z] [(p1,u),(p2,v),(p3,y),(p4,z)]):Binds K fd [p1,p2,p3,p4] []:=F.binds fun a b c d e g us B=>by
 obtain ⟨u,us,rfl,C⟩:=Xg B
 obtain ⟨v,us,rfl,D⟩:=Xg C
 obtain ⟨y,us,rfl,E⟩:=Xg D
 obtain ⟨z,us,rfl,W⟩:=Xg E
 cases eq_nil_of_length_eq_zero W;exact h u v y z a b c d e g
theorem Fun.b5 (F:Fun K x q st f fd)(h:∀ u v y z G,BA x q st [u,v,y,z,G] [(p1,u),(p2,v),(p3,y),(p4,z),(p5,G)]):Binds K fd [p1,p2,p3,p4,p5] []:=F.binds fun a b c d e g us B=>by
 obtain ⟨u,us,rfl,C⟩:=Xg B
 obtain ⟨v,us,rfl,D⟩:=Xg C
 obtain ⟨y,us,rfl,E⟩:=Xg D
 obtain ⟨z,us,rfl,W⟩:=Xg E
 obtain ⟨G,us,rfl,Z⟩:=Xg W
 cases eq_nil_of_length_eq_zero Z;exact h u v y z G a b c d e g
theorem Zhs (F:Fun K x q st f fd)(h:∀ u,BA x q st [u] [(p1,u)])(s:Qe)(v:Qb):PD s fd ⟨[v],[]⟩ [(p1,v)]:=by
 obtain ⟨Z,od,kV,B,W,I,G,U,S,rfl,lk,J⟩:=F.ex
 exact .of_eq (h v kV B W I G U)
end
end L2
namespace L2
open PySem PySem.Spec PyProof.Rows
def ZiI:Expr->Option V
 | .Constant (.int i) _ _=>some (.int i)
 | .Constant (.str x) _ _=>some (.str x)
 | .Constant (.bool b) _ _=>some (.bl b)
 | .Constant .none _ _=>some .non
 | _=>none
def ZfT:List Expr->Option (List V)
 | []=>some []
 | e::es=>match ZiI e,ZfT es with
  | some v,some vs=>some (v::vs)
  | _,_=>none
section
variable {X:Cx}
theorem ZmJ (h:ZiI e=some v):PE X e (tC v)/\∀ es,QE (e::es) X.env=(false,eval e X.env)::QE es X.env:=by
 unfold ZiI at h
 split at h<;>cases h
 ·exact ⟨Zg,fun _=>rfl⟩
 ·exact ⟨ZW,fun _=>rfl⟩
 ·exact ⟨XM,fun _=>rfl⟩
 ·exact ⟨Ud,fun _=>rfl⟩
def Zow (vs:List V):TA:=fun _ H Q=>Q vs H
theorem Zfl:∀{es:List Expr}{vs:List V},ZfT es=some vs->PA X es (Zow vs)
 | [],_,h=>by cases h;exact Za
 | e :: es,vs,h=>by
  rw [ZfT] at h
  split at h
  ·rename_i v B h1 h2
   cases h
   obtain ⟨p,s⟩:=ZmJ (X:=X) h1
   exact YA p (Zfl h2) (s es)
  ·cases h
end
section
variable {X:Cx}
end
section
variable {K:Qa}{x q:Str}{st:Stmt}{f:Addr}{fd:Qn}{p1 p2 p3 p4 p5 p6 p7:Str}
end
section
variable {X:Cx}
end
end L2
namespace K33
open PySem L2
abbrev xNm:List Str:=["Known","NoSetting","Missing","NoWorld","Busy","AtHome","NoToken","Used","Elsewhere","OutOfTurn","NoTable","NoNode","NoPlace","NotBehind","NoWatcher","NoTask","BadRow"]
abbrev xWd:List Str:=["known","setting","missing","world","busy","home","token","used","elsewhere","turn"]
structure TxtE (K:Qa)(mg:Str->Option Qb)(CRo:Addr)(cs:List Addr):Prop where
 road:mg "RoadError"=some (.ref CRo)
 ve:mg "ValueError"=none
 ex:∀ (i:Nat) {x:Str},xNm[i]?=some x->mg x=some (.ref (cs.getD i 0))
theorem ZlB {K:Qa}(hr:mg "RoadError"=some (.ref CRo))(hv:mg "ValueError"=none)(h0:mg "Known"=some (.ref c0))(h1:mg "NoSetting"=some (.ref c1))(h2:mg "Missing"=some (.ref c2))(h3:mg "NoWorld"=some (.ref c3))(h4:mg "Busy"=some (.ref c4))(h5:mg "AtHome"=some (.ref c5))(h6:mg "NoToken"=some (.ref c6))(h7:mg "Used"=some (.ref c7))(h8:mg "Elsewhere"=some (.ref c8))(h9:mg "OutOfTurn"=some (.ref c9))(h10:mg "NoTable"=some (.ref W))(h11:mg "NoNode"=some (.ref U))(h12:mg "NoPlace"=some (.ref I))(h13:mg "NotBehind"=some (.ref G))(Z:mg "NoWatcher"=some (.ref S))(h15:mg "NoTask"=some (.ref J))(h16:mg "BadRow"=some (.ref B)):TxtE K mg CRo [c0,c1,c2,c3,c4,c5,c6,c7,c8,c9,W,U,I,G,S,J,B]:=⟨hr,hv,fun i x h=>match i,h with
 | 0,h=>by cases h;exact h0
 | 1,h=>by cases h;exact h1
 | 2,h=>by cases h;exact h2
 | 3,h=>by cases h;exact h3
 | 4,h=>by cases h;exact h4
 | 5,h=>by cases h;exact h5
 | 6,h=>by cases h;exact h6
 | 7,h=>by cases h;exact h7
 | 8,h=>by cases h;exact h8
 | 9,h=>by cases h;exact h9
 | 10,h=>by cases h;exact h10
 | 11,h=>by cases h;exact h11
 | 12,h=>by cases h;exact h12
 | 13,h=>by cases h;exact h13
 | 14,h=>by cases h;exact Z
 | 15,h=>by cases h;exact h15
 | 16,h=>by cases h;exact h16
 | n+17,h=>by simp [xNm] at h⟩
def RK (K:Qa)(CRo:Addr)(cs:List Addr)(C:Addr)(word:Str):Prop:=∃ j,RefK K CRo [cs.getD 0 0,cs.getD 1 0,cs.getD 2 0,cs.getD 3 0,cs.getD 4 0,cs.getD 5 0,cs.getD 6 0,cs.getD 7 0,cs.getD 8 0,cs.getD 9 0] [cs.getD 10 0,cs.getD 11 0,cs.getD 12 0,cs.getD 13 0] [cs.getD 14 0,cs.getD 15 0,cs.getD 16 0] C j/\xWd[j]?=some word
abbrev kBs (j:Nat):List Bool:=[decide (0=j),decide (1=j),decide (2=j),decide (3=j),decide (4=j),decide (5=j),decide (6=j),decide (7=j),decide (8=j),decide (9=j),false,false]
theorem kcnt:∀ j:Fin 10,((kBs j.val).filter id).length=1:=by decide
theorem kat:∀ j:Fin 10,(kBs j.val)[j.val]?=some true:=by decide
theorem kno:∀ j:Fin 10,∀ m:Fin 10,m.val < j.val->(kBs j.val)[m.val]?=some false:=by decide
section
variable {P:Qk}{w:Qt}{K:Qa}{mg:Str->Option Qb}{base:Heap}{CRo:Addr}{cs:List Addr}{kk:Nat}
abbrev nTo:List Str:=["_law_ask","_law_caught","_law_found","error","_law_kinds","_law_words"]
abbrev pnTo:List Str:=["_law_ask"]
theorem scTo:Zp nTo pnTo (Zj s_l_told):={}
theorem ZkW (F:Fun K "_law_told" "_law_told" s_l_told f fd)(T:Ym mg)(TE:TxtE K mg CRo cs):FnOk P w K mg base ZI (kk+1) f fd pnTo (UK P w K mg base kk (RK K CRo cs)):=by
 refine F.ok scTo (fun cdv A outer s H vs Q E hr h=>?_)
 obtain ⟨q,cs',cc,qual,T',rfl,Z,has,hcc,hT⟩:=h
 refine' ⟨?t,?h,?r⟩
 case h =>
  conv=>arg 2;whnf
  with_reducible refine' (Zd ?h1 (Zd (Zjz (i:=3) ?h2 ?h3 ?h4 ?h5 ?h6 ?h7 ?h8 ?h9 ?h10 (fun pn Z EE W=>(Zi ?h11)) (fun ea Z=>(Zi ?h12))) (Zd (Ye ?h13 (Zi ?h14) ZR) (Zd ?h15 (Zd ?h16 (Zd ?h17 (Zd ?h18 (Zd ?h19 (Zd (Zx (i:=5) ?h20 ?h21 ?h22 (Yb ?h23) ?h24 ?h25) (Zd (Ye ?h26 (Zi ?h27) ZR) (Zi ?h28)))))))))))
  case h1=>exact XJ (YZ (Zc Ud (Zc Ud Za))) (VF rfl (YN (Yf (i:=1) scTo.nd rfl (QJ rfl)) (YN (Yf (i:=2) scTo.nd rfl (QJ rfl)) UC)))
  case h2=>exact rfl
  case h3=>exact rfl
  case h4=>exact rfl
  case h5=>exact scTo.nd
  case h6=>exact rfl
  case h7=>exact rfl
  case h8=>exact rfl
  case h9=>exact TE.road
  case h10=>exact (by decide)
  case h11=>exact Zx (i:=2) scTo.nd rfl (QJ rfl) (ZkY (i:=0) (P:=P) (w:=w) (K:=K) (mg:=mg) (base:=base) rfl rfl rfl rfl rfl W hr rfl (.inl rfl))
  case h12=>exact Zx (i:=1) scTo.nd rfl (QJ rfl) (pv 3)
  case h13=>exact VG (ZhJ (pv 1))
  case h14=>exact Zu (YZ (Zc ZW (Zc (pv 2) Za)))
  case h15=>exact Zx (i:=4) scTo.nd rfl (QJ rfl) (Yb (Zc (Zr Yu rfl T.isinstance (by decide +kernel) (Zc (pv 1) (Zc (ZN (v:=.ref _) rfl (TE.ex 0 rfl) rfl) Za))) (Zc (Zr Yu rfl T.isinstance (by decide +kernel) (Zc (pv 1) (Zc (ZN (v:=.ref _) rfl (TE.ex 1 rfl) rfl) Za))) (Zc (Zr Yu rfl T.isinstance (by decide +kernel) (Zc (pv 1) (Zc (ZN (v:=.ref _) rfl (TE.ex 2 rfl) rfl) Za))) Za))))
  case h16=>exact Zx (i:=4) scTo.nd rfl (QJ rfl) (Zv Zbm (pv 4) (Yb (Zc (Zr Yu rfl T.isinstance (by decide +kernel) (Zc (pv 1) (Zc (ZN (v:=.ref _) rfl (TE.ex 3 rfl) rfl) Za))) (Zc (Zr Yu rfl T.isinstance (by decide +kernel) (Zc (pv 1) (Zc (ZN (v:=.ref _) rfl (TE.ex 4 rfl) rfl) Za))) (Zc (Zr Yu rfl T.isinstance (by decide +kernel) (Zc (pv 1) (Zc (ZN (v:=.ref _) rfl (TE.ex 5 rfl) rfl) Za))) Za)))))
  case h17=>exact Zx (i:=4) scTo.nd rfl (QJ rfl) (Zv Zbm (pv 4) (Yb (Zc (Zr Yu rfl T.isinstance (by decide +kernel) (Zc (pv 1) (Zc (ZN (v:=.ref _) rfl (TE.ex 6 rfl) rfl) Za))) (Zc (Zr Yu rfl T.isinstance (by decide +kernel) (Zc (pv 1) (Zc (ZN (v:=.ref _) rfl (TE.ex 7 rfl) rfl) Za))) (Zc (Zr Yu rfl T.isinstance (by decide +kernel) (Zc (pv 1) (Zc (ZN (v:=.ref _) rfl (TE.ex 8 rfl) rfl) Za))) Za)))))
  case h18=>exact Zx (i:=4) scTo.nd rfl (QJ rfl) (Zv Zbm (pv 4) (Yb (Zc (Zr Yu rfl T.isinstance (by decide +kernel) (Zc (pv 1) (Zc (ZN (v:=.ref _) rfl (TE.ex 9 rfl) rfl) Za))) (Zc (Zr Zcq rfl T.isinstance (by decide +kernel) (Zc (pv 1) (Zc (YZ (Wc (ZN (v:=.ref _) rfl (TE.ex 10 rfl) rfl) (Wc (ZN (v:=.ref _) rfl (TE.ex 11 rfl) rfl) (Wc (ZN (v:=.ref _) rfl (TE.ex 12 rfl) rfl) (Wc (ZN (v:=.ref _) rfl (TE.ex 13 rfl) rfl) Za rfl) rfl) rfl) rfl)) Za))) Za))))
  case h19=>exact Zx (i:=4) scTo.nd rfl (QJ rfl) (Zv Zbm (pv 4) (Yb (Zc (Zr Zcq rfl T.isinstance (by decide +kernel) (Zc (pv 1) (Zc (YZ (Wc (ZN (v:=.ref _) rfl (TE.ex 14 rfl) rfl) (Wc (ZN (v:=.ref _) rfl (TE.ex 15 rfl) rfl) (Wc (ZN (v:=.ref _) rfl (TE.ex 16 rfl) rfl) Za rfl) rfl) rfl)) Za))) Za)))
  case h20=>exact scTo.nd
  case h21=>exact rfl
  case h22=>exact (QJ rfl)
  case h23=>(refine' Zfl (vs:=[.str "known",.str "setting",.str "missing",.str "world",.str "busy",.str "home",.str "token",.str "used",.str "elsewhere",.str "turn",.str "odd",.str "odd"]) ?zz;case zz=>decide +kernel)
  case h24=>exact rfl
  case h25=>exact (by first | exact .inl rfl | exact .inr rfl)
  case h26=>exact PW.pt (Zgn (ZX Uk (YG Qx TV PySem.F.type_list_count Zhx (pv 4) (Zc XM Za)) Zg (ZU _)) (Zed (Zbr (VH (Zr Yu rfl T.isinstance (by decide +kernel) (Zc (pv 1) (Zc (ZkZ rfl TE.ve (by decide +kernel) (v:=.ty "ValueError") rfl) Za)))))))
  case h27=>exact Zu (YZ (Zc ZW (Zc ZW (Zc Ud Za))))
  case h28=>exact Zu (YZ (Zc ZW (Zc (ZA ZG (pv 5) (YG Qx TW PySem.F.type_list_index Zhy (pv 4) (Zc XM Za)) (fun _ _=>rfl)) (Zc (Zle (pv 1) rfl) Za))))
 try dsimp only [ZQ,Cx.nox]
 refine zs11 ?_
 intro zD zS zN10 zN9 zN8 zN7 zN6 zN5 zN4 zN3 zN2 zN1
 refine ⟨(by decide),fun t0 ht0=>⟨t0,_,rfl,SqT.of Ze,rfl,_,_,rfl,_,_,rfl,rfl,?_⟩⟩
 generalize B:upd H t0 _=H0
 have s0:Same H H0:=by rw [<- B];exact Zm ht0 _
 clear B
 refine ⟨q,cs',cc,qual,T',rfl,Z,has.same s0,s0 _ _ hcc,hT H0 _ _ s0 (fun v H' f hn=>?_) (fun C dx word what H' rk ed f hn=>?_)⟩
 ·exact ⟨_,rfl,_,rfl,Yw ⟨_,rfl,(by show 2<=Qj;decide),fun a ha=>f hn a _ (Zm ha _) Ze⟩⟩
 have f:=f hn
 have ed:=YV hn _ _ ed
 generalize cov H' cs'=H1 at f ed
 obtain ⟨j,R,hw⟩:=rk
 refine ⟨C,dx,rfl,rfl,R.cat,fun ea hea=>?_⟩
 generalize B:upd H1 ea _=H2
 have G:H2 ea=some (XO ea C dx):=by rw [<- B];exact Ze
 have s2:Same H1 H2:=by rw [<- B];exact Zm hea _
 clear B
 have ed2:=s2 _ _ ed
 have ty:∀ H',Same H2 H'->TyX K H' (.ref ea) (.ref C):=fun H' s=>.inr ⟨ea,C,dx,rfl,rfl,s _ _ G,R.g⟩
 refine ⟨_,rfl,_,rfl,_,rfl,Ya ?_⟩
 refine ⟨_,rfl,_,_,_,_,rfl,ty _ (fun _ _ e=>e),.inl ⟨_,rfl,R.is 0 (show 0 < 10 by decide)⟩,_,rfl,_,_,_,_,rfl,ty _ (fun _ _ e=>e),.inl ⟨_,rfl,R.is 1 (show 1 < 10 by decide)⟩,_,rfl,_,_,_,_,rfl,ty _ (fun _ _ e=>e),.inl ⟨_,rfl,R.is 2 (show 2 < 10 by decide)⟩,(by show 3<=Qj;decide),fun l1 hl1=>?_⟩
 generalize B:upd H2 l1 _=H3
 have s3:Same H2 H3:=by rw [<- B];exact Zm hl1 _
 have e3:H3 l1=some (.lst [.bl (decide (0=j)),.bl (decide (1=j)),.bl (decide (2=j))]):=by rw [<- B];exact Ze
 clear B
 refine ⟨_,rfl,_,rfl,_,_,_,_,rfl,ty _ (s3),.inl ⟨_,rfl,R.is 3 (show 3 < 10 by decide)⟩,_,rfl,_,_,_,_,rfl,ty _ (s3),.inl ⟨_,rfl,R.is 4 (show 4 < 10 by decide)⟩,_,rfl,_,_,_,_,rfl,ty _ (s3),.inl ⟨_,rfl,R.is 5 (show 5 < 10 by decide)⟩,(by show 3<=Qj;decide),fun l6 hl6=>⟨l1,l6,_,_,rfl,rfl,Zm hl6 _ _ _ e3,Ze,Wf (show 6<=1000 by decide),fun l7 hl7=>?_⟩⟩
 generalize B:upd (upd H3 l6 _) l7 _=H4
 have s4:Same H2 H4:=by rw [<- B];exact (s3.trans (Zm hl6 _)).trans (Zm hl7 _)
 have e4:H4 l7=some (.lst [.bl (decide (0=j)),.bl (decide (1=j)),.bl (decide (2=j)),.bl (decide (3=j)),.bl (decide (4=j)),.bl (decide (5=j))]):=by rw [<- B];exact Ze
 clear B
 refine ⟨_,rfl,_,rfl,_,_,_,_,rfl,ty _ (s4),.inl ⟨_,rfl,R.is 6 (show 6 < 10 by decide)⟩,_,rfl,_,_,_,_,rfl,ty _ (s4),.inl ⟨_,rfl,R.is 7 (show 7 < 10 by decide)⟩,_,rfl,_,_,_,_,rfl,ty _ (s4),.inl ⟨_,rfl,R.is 8 (show 8 < 10 by decide)⟩,(by show 3<=Qj;decide),fun l8 hl8=>⟨l7,l8,_,_,rfl,rfl,Zm hl8 _ _ _ e4,Ze,Wf (show 9<=1000 by decide),fun l9 hl9=>?_⟩⟩
 generalize B:upd (upd H4 l8 _) l9 _=H5
 have s5:Same H2 H5:=by rw [<- B];exact (s4.trans (Zm hl8 _)).trans (Zm hl9 _)
 have e5:H5 l9=some (.lst [.bl (decide (0=j)),.bl (decide (1=j)),.bl (decide (2=j)),.bl (decide (3=j)),.bl (decide (4=j)),.bl (decide (5=j)),.bl (decide (6=j)),.bl (decide (7=j)),.bl (decide (8=j))]):=by rw [<- B];exact Ze
 clear B
 refine ⟨_,rfl,_,rfl,_,_,_,_,rfl,ty _ s5,.inl ⟨_,rfl,R.is 9 (show 9 < 10 by decide)⟩,_,rfl,(by show 4<=Qj;decide),fun tp U=>?_⟩
 have s5t:=s5.trans (Zm U (.tup [.ref (cs.getD 10 0),.ref (cs.getD 11 0),.ref (cs.getD 12 0),.ref (cs.getD 13 0)]))
 refine ⟨ea,C,dx,tp,[cs.getD 10 0,cs.getD 11 0,cs.getD 12 0,cs.getD 13 0],false,rfl,s5t _ _ G,R.g,Ze,R.no1,(by show 2<=Qj;decide),fun l10 S=>⟨l9,l10,_,_,rfl,rfl,Zm S _ _ _ (Zm U _ _ _ e5),Ze,Wf (show 11<=1000 by decide),fun l11 hl11=>?_⟩⟩
 generalize B:upd (upd (upd H5 tp _) l10 _) l11 _=H6
 have s6:Same H2 H6:=by rw [<- B];exact ((s5.trans (Zm U _)).trans (Zm S _)).trans (Zm hl11 _)
 have e6:H6 l11=some (.lst [.bl (decide (0=j)),.bl (decide (1=j)),.bl (decide (2=j)),.bl (decide (3=j)),.bl (decide (4=j)),.bl (decide (5=j)),.bl (decide (6=j)),.bl (decide (7=j)),.bl (decide (8=j)),.bl (decide (9=j)),.bl false]):=by rw [<- B];exact Ze
 clear B
 refine ⟨_,rfl,_,rfl,(by show 3<=Qj;decide),fun tq htq=>?_⟩
 have s6t:=s6.trans (Zm htq (.tup [.ref (cs.getD 14 0),.ref (cs.getD 15 0),.ref (cs.getD 16 0)]))
 refine ⟨ea,C,dx,tq,[cs.getD 14 0,cs.getD 15 0,cs.getD 16 0],false,rfl,s6t _ _ G,R.g,Ze,R.no2,(by show 1<=Qj;decide),fun l12 J=>⟨l11,l12,_,_,rfl,rfl,Zm J _ _ _ (Zm htq _ _ _ e6),Ze,Wf (show 12<=1000 by decide),fun I hl13=>?_⟩⟩
 generalize B:upd (upd (upd H6 tq _) l12 _) I _=H7
 have s7:Same H2 H7:=by rw [<- B];exact ((s6.trans (Zm htq _)).trans (Zm J _)).trans (Zm hl13 _)
 have e7:H7 I=some (.lst ((kBs j).map V.bl)):=by rw [<- B];exact Ze
 clear B
 refine ⟨(by show 12<=Qj;decide),fun lw hlw=>?_⟩
 generalize B:upd H7 lw _=H8
 have s8:Same H7 H8:=by rw [<- B];exact Zm hlw _
 have ew:H8 lw=some (.lst ((xWd++(["odd","odd"]:List Str)).map V.str)):=by rw [<- B];exact Ze
 clear B
 have e8:=s8 _ _ e7
 have hj:j < 10:=(Qi.mp hw).1
 have k1:=kcnt ⟨j,hj⟩
 have k2:=kat ⟨j,hj⟩
 have k3:∀ m,m < j->(kBs j)[m]?=some false:=fun m hm=>kno ⟨j,hj⟩ ⟨m,by omega⟩ hm
 refine ⟨_,rfl,.inl ⟨rfl,_,SqL.of e8⟩,I,kBs j,rfl,rfl,SqL.of e8,?_⟩
 rw [show ((kBs j).filter id).length=1 from k1]
 refine ⟨rfl,_,rfl,Ya ?_⟩
 refine ⟨_,rfl,_,_,_,true,rfl,ty _ (s7.trans s8),.inr ⟨_,rfl,R.ve⟩,_,rfl,Ya ?_⟩
 refine ⟨_,rfl,_,rfl,.inl ⟨rfl,_,SqL.of e8⟩,I,kBs j,j,rfl,rfl,SqL.of e8,k2,k3,by omega,?_⟩
 refine ⟨lw,_,_,_,rfl,rfl,SqL.of ew,ZK (by rw [getElem?_map,getElem?_append_left (show j < xWd.length from hj),hw];rfl),?_⟩
 refine ⟨_,rfl,ea,C,dx,_,_,rfl,s8 _ _ (s7 _ _ G),s8 _ _ (s7 _ _ ed2),R.g,rfl,(by show 3<=Qj;decide),fun a ha=>?_⟩
 exact f a _ (((s2.trans s7).trans s8).trans (Zm ha _)) Ze
end
end K33
namespace L2
open PySem
theorem YI (e:H a=some (.tup vs))(h:∀ v∈vs,NvV v)(G:vs.length<=1000):DataOf H (.ref a) (.tuple (vs.map Xa))/\(Ou (vs.map Xa)).showable=true/\(Ou (vs.map Xa)).shown.length<=Qj/\(Ou (vs.map Xa)).depth<=60:=by
 have s:=Zip (ds:=vs.map Xa) (n:=200) (k:=0) fun d I=>by
  obtain ⟨v,B,rfl⟩:=mem_map.mp I
  exact ZdT (h v B) 0
 refine ⟨.tup e (VO h),s.sh,Qq s.ln ?_,Qq s.dp (by decide)⟩
 rw [length_map]
 have:vs.length * (200+2)<=1000 * 202:=Pg _ G
 rw [QR];omega
theorem Zbl {n:Nat}(h:n<=1000000):NvV (nI n):=.inr (show ((n:Int)).natAbs < 10 ^ 30 by omega)
theorem ZhA (h:Zdp (.str x)=true):NvV (.str x):=.inr (ZaE h)
theorem Zfe {xs:List Nat}(h:∀ x∈xs,x<=1000000):∀ v∈xs.map nI,NvV v:=fun v B=>by
 obtain ⟨x,G,rfl⟩:=mem_map.mp B
 exact Zbl (h x G)
def ScR (K:Qa)(ns:List Int):YE:=fun a h=>SqL K h a (ns.map V.int)
theorem Zos (h:SqL K H a xs)(s:Same H H'):SqL K H' a xs:=by
 rcases h with (h | ⟨o,h⟩) | h
 ·exact .inl (.inl (s _ _ h))
 ·exact .inl (.inr ⟨o,s _ _ h⟩)
 ·exact .inr h
instance {K:Qa} {ns:List Int}:Up (ScR K ns):=⟨fun h s=>Zos h s⟩
def Wk (qs:List (Str×V)):List (Zo×V):=qs.map fun p=>(QF p.1,p.2)
theorem Zkx (qs B:List (Str×V)):Wk (qs++B)=Wk qs++Wk B:=map_append
theorem Uu (x:Str):∀ qs:List (Str×V),ZH (Wk qs) (QF x)=(qs.find? fun p=>decide (p.1=x)).map (·.2)
 | []=>rfl
 | p :: r=>by
  unfold Wk ZH
  rw [map_cons,find?_cons,find?_cons]
  by_cases h:p.1=x
  ·rw [decide_eq_true (show (QF p.1:Zo)=QF x by rw [h]),decide_eq_true h];rfl
  ·rw [decide_eq_false (show ¬ (QF p.1:Zo)=QF x from fun z=>h (JB z)),decide_eq_false h]
   exact Uu x r
theorem ZiJ (h:x ∉ qs.map (·.1)):ZH (Wk qs) (QF x)=none:=by
 rw [Uu]
 have:(qs.find? fun p=>decide (p.1=x))=none:=List.find?_eq_none.mpr fun p hp z=>h (mem_map.mpr ⟨p,hp,by simpa using z⟩)
 rw [this];rfl
theorem ZdI {x:Str}:∀{qs:List (Str×V)},(qs.map (·.1)).Nodup->(x,v)∈qs->ZH (Wk qs) (QF x)=some v
 | p :: r,nd,m=>by
  rw [Uu,find?_cons]
  rcases mem_cons.mp m with e | m
  ·subst e;simp
  ·have hp:¬ p.1=x:=fun z=>(nodup_cons.mp nd).1 (mem_map.mpr ⟨(x,v),m,z.symm⟩)
   rw [decide_eq_false hp]
   have:=ZdI (x:=x) (v:=v) (nodup_cons.mp nd).2 m
   rw [Uu] at this;exact this
theorem Zky (h:x ∉ qs.map (·.1)):Yz (Wk qs) (QF x) v=Wk (qs++[(x,v)]):=by
 unfold Yz
 rw [if_neg,Zkx];rfl
 simp only [Wk,List.any_map,JW,Function.comp,decide_eq_true_eq,not_exists,not_and]
 exact fun p hp z=>h (mem_map.mpr ⟨p,hp,JB z⟩)
end L2
namespace K33
open PySem L2
section
variable {P:Qk}{w:Qt}{K:Qa}{mg:Str->Option Qb}{base:Heap}{CH CR CS CT:Addr}{C:Addr}
inductive Zaf (K:Qa)(C:Addr)(vs:List V)(H:Hp)(Q:VK)(w_3:XK):Prop
 | mk (NS:List Str) (st:Addr) (nds:List Nd) (tabs:List (Zo×V)) (t:Nat) (x:Str) (F:Str->Option V):Yr NS->vs=[.ref st,iN t,.str x]->WW K C nds tabs st H->(ZH tabs (QQ (t:Int))).isSome=true->Tri NS nds F 5 0 0 t->x∈NS->(∀ H',Same H H'->Q ((F x).getD .non) H')->Zaf K C vs H Q w_3
theorem Zmn {k:Nat}(h:FnOk P w K mg base ZI k f fd ps (WB K C)):FnOk P w K mg base ZI k f fd ps (Zaf K C) :=
 h.conv fun vs H Q E I=>by
  obtain ⟨NS,st,nds,B,t,x,F,N,e,⟨b0,Z,dt,S⟩,h1,h2,G,q⟩:=I
  obtain ⟨U,z,n,e1,J,e3,e4,W⟩:=Vi N h2 G
  exact ⟨st,Z,dt,nds,B,t,x,6,U,z,n,e,S,h1,N.len x G,N.lo x G,by decide,e1,J,e3,e4,fun H' s=>by rw [W];exact q H' s⟩
inductive Zgx (K:Qa)(CR CS:Addr)(vs:List V)(H:Hp)(Q:VK)(w_3:XK):Prop
 | mk (NS:List Str) (r:Addr) (pls:List YD) (nds:List Nd) (tabs:List (Zo×V)) (k:Nat) (x:Str) (F:Str->Option V):vs=[.ref r,.int (k:Int),.str x]->Yr NS->RdR K CR CS r pls nds tabs H->RInv NS pls nds tabs->k<=pls.length->(envs pls)[k]?=some F->x∈NS->(∀ H',Same H H'->Q ((F x).getD .non) H')->Zgx K CR CS vs H Q w_3
abbrev nRLk:List Str:=["self","place","name"]
abbrev Zgk:List Str:=["self","place","name"]
theorem Zon:Zp nRLk Zgk (Zj c_Roads_looked):={}
theorem Zmx (F:Fun K "looked" "Roads.looked" c_Roads_looked f fd)(T:Ym mg)(W:UP K CR)(TC:Xm K CS)(J:DefM P w K mg base 9 CR "table" Zdd (Zah K CR CS))(B:DefM P w K mg base 9 CS "looked" ["self","table","name"] (Zaf K CS)):FnOk P w K mg base ZI 10 f fd Zgk (Zgx K CR CS):=by
 refine F.ok Zon (fun cdv A outer s H vs Q E hr h=>?_)
 obtain ⟨NS,r,pls,nds,U,k,x,G,rfl,N,R,I,hk,hG,hx,q⟩:=h
 obtain ⟨st,la,ls,lt,lc,S⟩:=id R
 obtain ⟨dx,ob⟩:=S.get r
 have ST:=S.get st
 obtain ⟨b0,ln,dt,SA⟩:=id ST
 obtain ⟨dxs,Z⟩:=SA.ob
 obtain ⟨g1,g2,g3⟩:=I.tr k G _ hG (ZbB hk)
 refine' ⟨?t,?h,?r⟩
 case h =>
  conv=>arg 2;whnf
  with_reducible refine' (Zi ?h1)
  case h1=>exact Zu (Yc B TC.cl hr (ZB (pv 0) rfl) (Zc (Yc J W.cl hr (pv 0) (Zc (pv 1) Za)) (Zc (pv 2) Za)))
 try dsimp only [ZQ,Cx.nox]
 exact ⟨_,rfl,r,CR,dx,_,_,rfl,ob,W.cl,W.nk,ZbW,st,dxs,_,rfl,Z,ZS ln dt (by decide +kernel) (by decide +kernel),_,rfl,r,dx,_,rfl,ob,Zac (by decide +kernel),_,rfl,r,pls,nds,U,k,rfl,R,hk,_,rfl,NS,st,nds,U,tbN pls k,x,G,N,rfl,ST,g1,g2,hx,q⟩
structure HI (NS:List Str)(s:Hs):Prop where
 N:Yr NS
 R:RInv NS s.pls s.nds s.tabs
 sp:∀ p∈s.spots,p<=s.pls.length
inductive Zgz (K:Qa)(CH CR CS CT:Addr)(vs:List V)(H:Hp)(Q:VK)(w_3:XK):Prop
 | mk (NS:List Str) (h:Addr) (s:Hs) (k p:Nat) (x:Str) (F:Str->Option V):vs=[.ref h,.int (k:Int),.str x]->Vt K CH CR CS CT h s H->HI NS s->s.spots[k]?=some p->(envs s.pls)[p]?=some F->x∈NS->(∀ H',Same H H'->Q ((F x).getD .non) H')->Zgz K CH CR CS CT vs H Q w_3
abbrev nHVi:List Str:=["self","world","name"]
abbrev Zgg:List Str:=["self","world","name"]
theorem Zoj:Zp nHVi Zgg (Zj c_Hall_value_in):={}
theorem ZmC (F:Fun K "value_in" "Hall.value_in" c_Hall_value_in f fd)(T:Ym mg)(W:XD K CH)(TR:UP K CR)(J:DefM P w K mg base 10 CH "place" WO (Zag K CH CR CS CT))(B:DefM P w K mg base 10 CR "looked" Zgk (Zgx K CR CS)):FnOk P w K mg base ZI 11 f fd Zgg (Zgz K CH CR CS CT):=by
 refine F.ok Zoj (fun cdv A outer s H vs Q E hr h=>?_)
 obtain ⟨NS,h,s,k,p,x,G,rfl,R,I,hk,hG,hx,q⟩:=h
 obtain ⟨d,r,sp,i,t,S⟩:=id R
 obtain ⟨dx,ob⟩:=S.get h
 have RR:=S.get r
 obtain ⟨st,la,ls,lt,lc,SR⟩:=id RR
 obtain ⟨Z,U⟩:=SR.get r
 refine' ⟨?t,?h,?r⟩
 case h =>
  conv=>arg 2;whnf
  with_reducible refine' (Zi ?h1)
  case h1=>exact Zu (Yc B TR.cl hr (ZB (pv 0) rfl) (Zc (Yc J W.cl hr (pv 0) (Zc (pv 1) Za)) (Zc (pv 2) Za)))
 try dsimp only [ZQ,Cx.nox]
 exact ⟨_,rfl,h,CH,dx,_,_,rfl,ob,W.cl,W.nw,hf_w,r,Z,_,rfl,U,Zac (by decide +kernel),_,rfl,h,dx,_,rfl,ob,Yn (by decide +kernel),_,rfl,h,s,k,p,rfl,R,hk,_,rfl,NS,r,s.pls,s.nds,s.tabs,p,x,G,rfl,I.N,RR,I.R,I.sp p (mem_of_getElem? hk),hG,hx,q⟩
inductive Zdf (K:Qa)(CH CR CS CT CX:Addr)(vs:List V)(H:Hp)(Q:VK)(E:XK):Prop
 | mk (h:Addr) (s:Hs) (x:Str):vs=[.ref h,.str x]->Vt K CH CR CS CT h s H->(((ZH s.dfs (QF x)).isSome=true->Q .non H))->((ZH s.dfs (QF x)=none->∀ dx H',Same H H'->H' dx=some (.xd [("what",.str x)])->E (.ref CX) (some dx) H'))->Zdf K CH CR CS CT CX vs H Q E
abbrev nHCs:List Str:=["self","name"]
abbrev ZcY:List Str:=["self","name"]
theorem Zob:Zp nHCs ZcY (Zj c_Hall_check_setting):={}
theorem Zmt (F:Fun K "check_setting" "Hall.check_setting" c_Hall_check_setting f fd)(T:Ym mg)(G:XD K CH)(J:UL P w K mg base 1 CX "NoSetting"):FnOk P w K mg base (XC P w base) 3 f fd ZcY (Zdf K CH CR CS CT CX):=by
 refine F.okX Zob (fun cdv A outer s H vs Q E B h W=>?_)
 obtain ⟨h,s,x,rfl,⟨d,r,sp,i,t,S⟩,Z,U⟩:=h
 obtain ⟨dx,ob⟩:=S.get h
 refine' ⟨?t,?h,?r⟩
 case h =>
  conv=>arg 2;whnf
  with_reducible refine' (Zi (Ye ?h1 (Zi ?h2) ZR))
  case h1=>exact VG (ZcB (UV B) (pv 1) (ZB (pv 0) rfl))
  case h2=>exact Vf W J B rfl (Zc (pv 1) Za)
 try dsimp only [ZQ,Cx.nox]
 refine ⟨_,rfl,_,rfl,h,CH,dx,_,_,rfl,ob,G.cl,G.nd,ZiP,d,_,rfl,DGet.k (k:=QF x) (S.get d),_,rfl,?_⟩
 cases e:ZH s.dfs (QF x) with
 | none=>exact Yw ⟨_,rfl,_,rfl,fun d I=>U e d _ (Zm I _) Ze⟩
 | some v=>exact Ya (Z (by rw [e];rfl))
inductive Zdg (K:Qa)(CH CR CS CT CX:Addr)(vs:List V)(H:Hp)(Q:VK)(E:XK):Prop
 | mk (h:Addr) (s:Hs) (qs:List (Str×V)) (x:Str) (v:V) (Δ:Rs):vs=[.ref h,.str x,v]->Sep ((h,XE K CH CR CS CT s)::Δ) H->s.dfs=Wk qs->qs.length<=1000->((x∈qs.map (·.1)->∀ dx H',Same H H'->H' dx=some (.xd [("what",.str x)])->E (.ref CX) (some dx) H'))->((x ∉ qs.map (·.1)->∀ H',Sep ((h,XE K CH CR CS CT { s with dfs:=Wk (qs++[(x,v)]) })::Δ) H'->Q .non H'))->Zdg K CH CR CS CT CX vs H Q E
abbrev nHDe:List Str:=["self","name","default"]
abbrev Zbp:List Str:=["self","name","default"]
theorem Zoc:Zp nHDe Zbp (Zj c_Hall_declare):={}
theorem ZhC (F:Fun K "declare" "Hall.declare" c_Hall_declare f fd)(T:Ym mg)(I:XD K CH)(DE:UL P w K mg base 1 CX "Known"):FnOk P w K mg base (XC P w base) 3 f fd Zbp (Zdg K CH CR CS CT CX):=by
 refine F.okX Zoc (fun cdv A outer s H vs Q E J h W=>?_)
 obtain ⟨h,s,qs,x,v,Δ,rfl,S0,B,hl,q1,q2⟩:=h
 obtain ⟨d,r,sp,i,t,S⟩:=S0.halO
 obtain ⟨dx,ob⟩:=S.get h
 refine' ⟨?t,?h,?r⟩
 case h =>
  conv=>arg 2;whnf
  with_reducible refine' (Zd (Ye ?h1 (Zi ?h2) ZR) (Zi ?h3))
  case h1=>exact VG (ZmG (UV J) (pv 1) (ZB (pv 0) rfl))
  case h2=>exact Vf W DE J rfl (Zc (pv 1) Za)
  case h3=>exact ZbV (UV J) (ZB (pv 0) rfl) (pv 1) (pv 2) rfl
 try dsimp only [ZQ,Cx.nox]
 refine VP ?_
 intro zD zS zN1
 refine ⟨_,rfl,_,rfl,h,CH,dx,_,_,rfl,ob,I.cl,I.nd,ZiP,d,_,rfl,DGet.k (k:=QF x) (S.get d),_,rfl,?_⟩
 by_cases G:x∈qs.map (·.1)
 ·have e:(ZH s.dfs (QF x)).isSome=true:=by
   rw [B,Uu]
   obtain ⟨p,hp,rfl⟩:=mem_map.mp G
   cases z:qs.find? fun q=>decide (q.1=p.1) with
   | none=>exact absurd (decide_eq_true rfl) (List.find?_eq_none.mp z p hp)
   | some v=>rfl
  rw [e]
  exact Yw ⟨_,rfl,_,rfl,fun d hd=>q1 G d _ (Zm hd _) Ze⟩
 ·have e:ZH s.dfs (QF x)=none:=by rw [B];exact ZiJ G
  rw [e]
  refine Ya ⟨_,rfl,_,rfl,h,CH,dx,_,_,rfl,ob,I.cl,I.nd,ZiP,_,rfl,d,_,rfl,.inl ⟨_,QF x,S.get d,rfl,YO (show _<=1000 by rw [B];unfold Wk;rw [length_map];exact hl),rfl⟩,?_⟩
  generalize U:upd H d _=H2
  have Z:=S.putE U
  clear U
  rw [B,Zky G] at Z
  exact q2 G _ (Sep.halC (s:={ s with dfs:=Wk (qs++[(x,v)]) }) (d:=d) (r:=r) (sp:=sp) (i:=i) (t:=t) (Z.pull h))
end
end K33
namespace L2
open PySem
def TLs (H:Hp)(as:List Addr)(tss:List (List V)):Prop:=as.length=tss.length/\∀(i:Nat)(a:Addr)(ts:List V),as[i]?=some a->tss[i]?=some ts->H a=some (.tup ts)
def TL (tss:List (List V)):YE:=fun l h=>∃ as:List Addr,h l=some (.lst (as.map V.ref))/\TLs h as tss
theorem TLs.up (h:TLs H as B)(s:Same H H'):TLs H' as B:=⟨h.1,fun i a x e1 G=>s _ _ (h.2 i a x e1 G)⟩
instance {tss:List (List V)}:Up (TL tss):=⟨fun ⟨as,e,h⟩ s=>⟨as,s _ _ e,h.up s⟩⟩
theorem TLs.app (h:TLs H as I)(e:H a=some (.tup ts)):TLs H (as++[a]) (I++[ts]):=by
 refine ⟨by rw [length_append,length_append,h.1];rfl,fun i b x B G=>?_⟩
 by_cases hi:i < as.length
 ·rw [getElem?_append_left hi] at B
  rw [getElem?_append_left (by rw [<- h.1];exact hi)] at G
  exact h.2 i b x B G
 ·rw [getElem?_append_right (by omega)] at B
  rw [getElem?_append_right (by rw [<- h.1];omega),<- h.1] at G
  cases z:i - as.length with
  | zero=>rw [z] at B G;cases B;cases G;exact e
  | succ j=>rw [z] at B;cases B
theorem Sep.tlPut (S:Sep Δ H)(e:upd H l o=H2)(U:o=.lst (as'.map V.ref))[P:Pull l Δ (TL G) Δ'](I:TLs H as' B):Sep ((l,TL B)::Δ') H2:=by
 subst e;subst U
 refine S.updR l _ (fun h ⟨as,e,_⟩=>⟨_,e,rfl⟩) fun h r l' h' e1 e2 e3=>⟨as',e1,I.1,fun i a ts Z W=>?_⟩
 have J:=I.2 i a ts Z W
 refine e3 _ _ (fun z=>?_) J rfl
 obtain ⟨as,e4,_⟩:=r
 have:=l' _ _ e4
 rw [<- z,J] at this
 cases this
end L2
namespace L2
open PySem PySem.W PySem.Spec PyProof.Rows
section
variable {P:Qk}{w:Qt}{K:Qa}{mg:Str->Option Qb}{base:Heap}
end
section
variable {X:Cx}{o:Expr}{to:TE}{y z:Str}{apos cpos p1 p2:Pos}
end
end L2
namespace L2
open PySem
def ZfJ (pre post:Str)(z:Int)(x:Str):Prop:=∃ c1 c2,x=pre++(⟨#[c1]⟩:Str)++(⟨#[c2]⟩:Str)++post/\YH a26.cps.toList (z / 26)=some c1/\YH a26.cps.toList (z % 26)=some c2
theorem Zks:∀ i j:_root_.Fin 26,a26.cps.toList[i.val]?=a26.cps.toList[j.val]?->i=j:=by decide +kernel
theorem ZgS {r:Int}{c:Nat}(B:0<=r)(h:YH xs r=some c):xs[r.toNat]?=some c:=by
 unfold YH XS at h
 rw [if_pos B] at h
 split at h
 ·exact h
 ·cases h
theorem ZgQ {r B:Int}{c:Nat}(I:0<=r)(h1:r < 26)(h2:0<=B)(J:B < 26)(e:YH a26.cps.toList r=some c)(G:YH a26.cps.toList B=some c):r=B:=by
 have:=Zks ⟨r.toNat,by omega⟩ ⟨B.toNat,by omega⟩ ((ZgS I e).trans (ZgS h2 G).symm)
 have:=congrArg Fin.val this
 simp only at this
 omega
theorem Zku (x y:Str):(x++y).cps.toList=x.cps.toList++y.cps.toList:=by
 show (x.cps++y.cps).toList=_
 simp
theorem Zmp {z I:Int}(Z:0<=z)(h1:z < 676)(h2:0<=I)(h3:I < 676)(h:ZfJ G B z x)(h':ZfJ G B I x):z=I:=by
 obtain ⟨c1,c2,rfl,e1,S⟩:=h
 obtain ⟨d1,W,e,J,U⟩:=h'
 have e:=congrArg (fun s:Str=>s.cps.toList) e
 simp only [Zku,Op] at e
 have e:=List.append_cancel_left e
 simp at e
 obtain ⟨rfl,rfl⟩:=e
 have g1:=ZgQ (by omega) (by omega) (by omega) (by omega) e1 J
 have g2:=ZgQ (by omega) (by omega) (by omega) (by omega) S U
 omega
theorem Zlu {G B:Int}{i j:Nat}(J:B=1\/B=27\/B=5\/B=251)(I:i < j)(S:j<=100)(e:(G+B * (0+(i:Int))) % 676=(G+B * (0+(j:Int))) % 676):False:=by
 rcases J with rfl | rfl | rfl | rfl<;>omega
theorem Zhz {J G:Str}{S B:Int}{xs:List Str}(U:B=1\/B=27\/B=5\/B=251)(Z:xs.length<=100)(h:∀(j:Nat)(x:Str),xs[j]?=some x->ZfJ J G ((S+B * (0+(j:Int))) % 676) x):xs.Nodup:=by
 refine List.pairwise_iff_getElem.mpr fun i j hi W I e=>?_
 have a:=h i _ (getElem?_eq_getElem hi)
 have b:=h j _ (getElem?_eq_getElem W)
 rw [e] at a
 exact Zlu U I (by omega) (Zmp (GC _ (by decide)) (Gu _ (by decide)) (GC _ (by decide)) (Gu _ (by decide)) a b)
inductive ZaK (vs:List V)(H:Hp)(Q:VK)(w_3:XK):Prop
 | mk (p:Addr) (n:Nat) (many:Int) (Δ:Rs):vs=[.ref p,.int many]->Sep ((p,Bx n)::Δ) H->n<=900000->0<=many->many<=100->(∀ (l:Addr) (H':Hp) (xs:List Str),Sep ((l,Yi (xs.map V.str))::(p,Bx (n+20))::Δ) H'->xs.length=many.toNat->(∀ x∈xs,Zdu x)->xs.Nodup->Q (.ref l) H')->ZaK vs H Q w_3
end L2
namespace L2
open PySem PySem.Spec PyProof.Rows
section
variable {X:Cx}
end
end L2
namespace L2
open PySem PySem.W PySem.Spec PyProof.Rows
section
variable {X:Cx}
end
end L2
namespace L2
open PySem PySem.Spec PyProof.Rows
section
variable {prog:Qk}{w:Qt}{A:QA}{E:Qb->Qe->Prop}{s:Qe}
end
section
variable {X:Cx}
end
section
variable {P:Qk}{w:Qt}{K:Qa}{mg:Str->Option Qb}{base:Heap}{k:Nat}{f:Addr}{fd:Qn}{ps:List Str}{sp sp':Sp}
theorem FnOk.low (F:FnOk P w K mg base (XC P w base) k f fd ps sp)(h:∀ vs H Q E,sp' vs H Q E->sp vs H Q (fun _ _ _=>False)):FnOk P w K mg base ZI k f fd ps sp' :=
 ⟨fun vs H Q E z=>F.len vs H Q _ (h vs H Q E z),fun A outer s H args us vs Q E B e b v q=>Gk (F.run A outer s H args us vs Q _ B e b v (h vs H Q E q)) fun r s' z=>by
  cases r with
  | error e=>obtain ⟨_,_,_,_,_,_,_,_,_,_,_,_,z⟩:=z;exact z.elim
  | ok fl=>cases fl<;>exact z⟩
end
end L2
namespace K33
open PySem L2
theorem ZlZ :UM fs l h->TL (fs.map Fnd.vs) l h
 | ⟨as,e,hl,hs⟩=>⟨as,e,by rw [length_map];exact hl,fun i a ts G B=>by
  rw [getElem?_map] at B
  obtain ⟨f,I,rfl⟩:=Go.mp B
  exact hs i a f G I⟩
theorem Znp :TL (fs.map Fnd.vs) l h->UM fs l h
 | ⟨as,e,hl,hs⟩=>⟨as,e,by rw [hl,length_map],fun i a f G B=>hs i a f.vs G (by rw [getElem?_map,B];rfl)⟩
theorem ZoG (h:[("finds":Str),"unused"].all (fun k=>!(m == k))=true):(tFl lf lu).lookup m=none:=by
 simp only [JZ,Os,Rw,QM,Jh] at h
 obtain ⟨h1,h2⟩:=h
 simp [tFl,Gw,h1,h2]
section
variable {P:Qk}{w:Qt}{K:Qa}{mg:Str->Option Qb}{base:Heap}{CH CR CS CT Pl:Addr}
inductive ZjK (CT:Addr)(vs:List V)(H:Hp)(Q:VK)(w_3:XK):Prop
 | mk (t:Addr) (fs:List Fnd) (us:List Bool) (k:Nat) (x:Str) (v:V) (Δ:Rs):vs=[.ref t,.int (k:Int),.str x,v]->Sep ((t,Tks CT fs us)::Δ) H->fs.length<=1000->us.length<=1000->(∀ H',Sep ((t,Tks CT (fs++[⟨k,x,v⟩]) (us++[true]))::Δ) H'->Q (.int (fs.length:Int)) H')->ZjK CT vs H Q w_3
abbrev nTMk:List Str:=["self","world","name","old"]
abbrev Zgm:List Str:=["self","world","name","old"]
theorem Zor:Zp nTMk Zgm (Zj c_Tokens_make):={}
theorem ZkQ (F:Fun K "make" "Tokens.make" c_Tokens_make f fd)(T:Ym mg)(TT:ZfM K CT):FnOk P w K mg base ZI 1 f fd Zgm (ZjK CT):=by
 refine F.ok Zor (fun cdv A outer s H vs Q E hr h=>?_)
 obtain ⟨t,fs,us,k,x,v,Δ,rfl,S0,hf,hu,q⟩:=h
 obtain ⟨lf,lu,S⟩:=S0.tksO
 obtain ⟨dx,ob⟩:=S.get t
 have S1:=S.say lf (TL (fs.map Fnd.vs)) fun h z=>ZlZ z
 obtain ⟨as,el,hs⟩:=S1.get lf
 refine' ⟨?t,?h,?r⟩
 case h =>
  conv=>arg 2;whnf
  with_reducible refine' (Zd ?h1 (Zd ?h2 (Zi ?h3)))
  case h1=>exact ZT (YG Qx QB QC ZZ (ZB (pv 0) rfl) (Zc (YZ (Zc (pv 1) (Zc (pv 2) (Zc (pv 3) Za)))) Za))
  case h2=>exact ZT (YG Qx QB QC ZZ (ZB (pv 0) rfl) (Zc XM Za))
  case h3=>exact Zu (Zv YS (Zr ZF rfl T.len QK (Zc (ZB (pv 0) rfl) Za)) Zg)
 try dsimp only [ZQ,Cx.nox]
 refine zs3 ?_
 intro zD zS zN2 zN1
 refine ⟨_,rfl,t,CT,dx,_,_,rfl,ob,TT.cl,TT.nf,rfl,.inl ⟨rfl,_,SqL.of el⟩,_,rfl,_,rfl,_,rfl,(by show 3<=Qj;decide),fun p hp=>?_⟩
 generalize B:upd H p _=H2
 have Z:=S1.newE hp B
 have ep:H2 p=some (.tup [.int (k:Int),.str x,v]):=Z.get p
 clear B
 obtain ⟨as2,el2,I⟩:=Z.get lf
 refine ⟨lf,_,_,rfl,rfl,el2,YO (show _<=1000 by rw [length_map,I.1,length_map];exact hf),?_⟩
 generalize B:upd H2 lf _=H3
 have J:=Z.tlPut B (as':=as2++[p]) (by rw [map_append];rfl) (I.app ep)
 clear B
 obtain ⟨dx3,ob3⟩:=J.get t
 refine ⟨_,rfl,t,CT,dx3,_,_,rfl,ob3,TT.cl,TT.nu,rfl,.inl ⟨rfl,_,SqL.of (J.get lu)⟩,lu,_,_,rfl,rfl,J.get lu,YO (show _<=1000 by rw [length_map];exact hu),?_⟩
 generalize B:upd H3 lu _=H4
 have U:=J.putE B
 clear B
 obtain ⟨W,ob4⟩:=U.get t
 obtain ⟨as4,el4,hs4⟩:=U.get lf
 refine ⟨_,rfl,t,CT,W,_,_,rfl,ob4,TT.cl,TT.nf,rfl,lf,_,rfl,.inl (SqL.of el4),_,_,rfl,rfl,?_⟩
 have G:=hs4.1
 rw [length_append,length_map,Je] at G
 rw [length_map,G]
 show Q (.int (((fs.length+1:Nat):Int) - 1)) H4
 rw [show ((fs.length+1:Nat):Int) - 1=(fs.length:Int) by omega]
 have S5:=U.say lf (UM (fs++[⟨k,x,v⟩])) fun h z=>Znp (by rw [map_append];exact z)
 refine q _ (Sep.tksC (lf:=lf) (lu:=lu) ?_)
 rw [map_append]
 exact (((S5.drop p).pull lu).pull lf).pull t
end
section
variable {P:Qk}{w:Qt}{K:Qa}{mg:Str->Option Qb}{base:Heap}{CH CR CS CT Pl:Addr}
end
section
variable {P:Qk}{w:Qt}{K:Qa}{mg:Str->Option Qb}{base:Heap}{CH CR CS CT Pl:Addr}
structure HB (s:Hs):Prop where
 pl:s.pls.length<=9000
 nd:s.nds.length<=80000
 tb:s.tabs.length<=80000
 fd:s.fds.length<=900
 fu:s.fds.length=s.us.length
def hGo (s:Hs)(n p:Nat)(st:Stp)(t' c:Nat)(nds:List Nd)(tabs:List (Zo×V)):Hs:={ s with pls:=s.pls++[⟨p,st,t',c⟩],nds:=nds,tabs:=tabs,spots:=s.spots.set n (s.pls.length+1) }
theorem ZnI (I:HI NS s){n p t' c:Nat}(R:RInv NS (s.pls++[⟨p,st,t',c⟩]) nds B):HI NS (hGo s n p st t' c nds B):=by
 refine ⟨I.N,R,fun x G=>?_⟩
 show x<=(s.pls++[_]).length
 rw [length_append,Je]
 rcases List.mem_or_eq_of_mem_set G with h | h
 ·have:=I.sp x h;omega
 ·omega
inductive Zdl (K:Qa)(CH CR CS CT Pl CX:Addr)(vs:List V)(H:Hp)(Q:VK)(E:XK):Prop
 | mk (NS:List Str) (h:Addr) (s:Hs) (n p:Nat) (x:Str) (v:V) (G:Str->Option V) (Δ:Rs):vs=[.ref h,.str x,v]->Sep ((h,XE K CH CR CS CT s)::(Pl,Xl)::Δ) H->HI NS s->HB s->s.ins.getLast?=some n->s.spots[n]?=some p->(envs s.pls)[p]?=some G->x∈NS->IsVal v->(ZH s.dfs (QF x)=none->ExW E CX (.str x) H)->(((ZH s.dfs (QF x)).isSome=true->∀ (H':Hp) (t' c:Nat) (nds:List Nd) (tabs:List (Zo×V)),Sep ((h,XE K CH CR CS CT { hGo s n p (.set x v) t' c nds tabs with fds:=s.fds++[⟨n,x,(G x).getD .non⟩],us:=s.us++[true] })::(Pl,Xl)::Δ) H'->HI NS (hGo s n p (.set x v) t' c nds tabs)->nds.length<=s.nds.length+6->tabs.length<=s.tabs.length+1->Q (.int (s.fds.length:Int)) H'))->Zdl K CH CR CS CT Pl CX vs H Q E
abbrev nHSt:List Str:=["self","name","value","world","token"]
abbrev Zbq:List Str:=["self","name","value"]
theorem scHSt:Zp nHSt Zbq (Zj c_Hall_set_to):={}
theorem ZhE (F:Fun K "set_to" "Hall.set_to" c_Hall_set_to f fd)(T:Ym mg)(TH:XD K CH)(TR:UP K CR)(TT:ZfM K CT)(J:DefMX P w K mg base 12 CH "check_setting" ZcY (Zdf K CH CR CS CT CX))(DH_now:DefM P w K mg base 12 CH "now" Zdb (Zdj K CH CR CS CT))(DT_make:DefM P w K mg base 12 CT "make" Zgm (ZjK CT))(U:DefM P w K mg base 12 CH "value_in" Zgg (Zgz K CH CR CS CT))(Z:DefM P w K mg base 12 CH "place" WO (Zag K CH CR CS CT))(DR_put:DefM P w K mg base 12 CR "put" Zgl (Zel K CR CS Pl)):FnOk P w K mg base (XC P w base) 13 f fd Zbq (Zdl K CH CR CS CT Pl CX):=by
 refine F.okX scHSt (fun cdv A outer s H vs Q E hr h W=>?_)
 obtain ⟨NS,h,s,n,p,x,v,G,Δ,rfl,S0,I,B,hn,hp,hG,hx,hv,q0,q'⟩:=h
 have R:=S0.get h
 obtain ⟨d,r,sp,i,t,S⟩:=S0.halO
 obtain ⟨dx,ob⟩:=S.get h
 obtain ⟨lf,lu,ST⟩:=S.get t
 obtain ⟨dxt,obt⟩:=ST.get t
 have hBf:=B.fd
 have hBu:=B.fu
 refine' ⟨?t,?h,?r⟩
 case h =>
  conv=>arg 2;whnf
  with_reducible refine' (Zd ?h1 (Zd ?h2 (Zd ?h3 (Zd ?h4 (Zi ?h5)))))
  case h1=>exact ZT (Wd W J TH.cl hr (pv 0) (Zc (pv 1) Za))
  case h2=>exact Zx (i:=3) scHSt.nd rfl (QJ rfl) (Vb DH_now TH.cl hr (pv 0))
  case h3=>exact Zx (i:=4) scHSt.nd rfl (QJ rfl) (Yc DT_make TT.cl hr (ZB (pv 0) rfl) (Zc (pv 3) (Zc (pv 1) (Zc (Yc U TH.cl hr (pv 0) (Zc (pv 3) (Zc (pv 1) Za))) Za))))
  case h4=>exact XJ (Yc DR_put TR.cl hr (ZB (pv 0) rfl) (Zc (Yc Z TH.cl hr (pv 0) (Zc (pv 3) Za)) (Zc (pv 1) (Zc (pv 2) Za)))) (UB (ZB (pv 0) rfl) (pv 3) Wx)
  case h5=>exact Zu (pv 4)
 try dsimp only [ZQ,Cx.nox]
 refine zs5 ?_
 intro zD zS zN4 zN3 zN2 zN1
 refine ⟨_,rfl,h,dx,_,rfl,ob,Yn (by decide +kernel),_,rfl,h,s,x,rfl,R,fun hd=>?_,q0⟩
 have q:=q' hd
 refine ⟨_,rfl,h,dx,_,rfl,ob,Yn (by decide +kernel),h,s,n,rfl,R,hn,?_⟩
 refine ⟨_,rfl,h,CH,dx,_,_,rfl,ob,TH.cl,TH.nh,hf_h,t,dxt,_,rfl,obt,ZoG (by decide +kernel),_,rfl,_,rfl,_,rfl,h,dx,_,rfl,ob,Yn (by decide +kernel),_,rfl,_,rfl,NS,h,s,n,p,x,G,rfl,R,I,hp,hG,hx,fun H1 s1=>?_⟩
 refine ⟨t,s.fds,s.us,n,x,_,_,rfl,(S.mono s1).pull t,by omega,by omega,fun H2 S2=>?_⟩
 have R2:Vt K CH CR CS CT h { s with fds:=s.fds++[⟨n,x,(G x).getD .non⟩],us:=s.us++[true] } H2:=Sep.get (Sep.halC (s:={ s with fds:=s.fds++[⟨n,x,(G x).getD .non⟩],us:=s.us++[true] }) ((((((S2.pull t).pull i).pull sp).pull r).pull d).pull h)) h
 obtain ⟨dx2,ob2⟩:=S2.get h
 obtain ⟨st,la,ls,lt,lc,SR⟩:=S2.get r
 obtain ⟨dxr,obr⟩:=SR.get r
 refine ⟨_,rfl,h,CH,dx2,_,_,rfl,ob2,TH.cl,TH.nw,hf_w,r,dxr,_,rfl,obr,Zac (by decide +kernel),_,rfl,h,dx2,_,rfl,ob2,Yn (by decide +kernel),_,rfl,h,_,n,p,rfl,R2,hp,_,rfl,_,rfl,NS,r,s.pls,s.nds,s.tabs,p,x,v,_,rfl,I.N,(S2.pull Pl).pull r,I.R,⟨hx,hv⟩,I.sp p (mem_of_getElem? hp),by have:=B.pl;omega,by have:=B.nd;omega,by have:=B.tb;omega,fun H3 nds' tabs' t' S3 I3 l1 l2=>?_⟩
 obtain ⟨dx3,ob3⟩:=S3.get h
 have hns:=(Qi.mp hp).1
 refine ⟨_,rfl,h,CH,dx3,_,_,rfl,ob3,TH.cl,TH.ns,ZbN,_,rfl,sp,_,_,n,rfl,rfl,S3.get sp,(by unfold XS;rw [length_map,if_pos (by omega)];simp [hns]),?_⟩
 generalize hE:upd H3 sp _=H4
 have S4:=S3.putE hE
 clear hE
 refine ⟨_,rfl,q H4 t' _ nds' tabs' ?_ (ZnI I I3) l1 l2⟩
 refine Sep.halC (d:=d) (r:=r) (sp:=sp) (i:=i) (t:=t) ?_
 show Sep (_::_::_::(sp,Yi ((s.spots.set n (s.pls.length+1)).map nI))::_) _
 rw [Sj]
 exact ((((((S4.pull Pl).pull t).pull i).pull sp).pull r).pull d).pull h
end
section
variable {P:Qk}{w:Qt}{K:Qa}{mg:Str->Option Qb}{base:Heap}{CH CR CS CT:Addr}
inductive Zdk (K:Qa)(CH CR CS CT CX:Addr)(vs:List V)(H:Hp)(Q:VK)(E:XK):Prop
 | mk (h:Addr) (s:Hs) (i:Int):vs=[.ref h,.int i]->Vt K CH CR CS CT h s H->¬ Vo s i->ExW E CX (.int i) H->Zdk K CH CR CS CT CX vs H Q E
abbrev nHOx:List Str:=["self","world"]
abbrev Zdc:List Str:=["self","world"]
theorem Zoh:Zp nHOx Zdc (Zj c_Hall_open_tokens):={}
theorem Zmz (F:Fun K "open_tokens" "Hall.open_tokens" c_Hall_open_tokens f fd)(T:Ym mg)(I:XD K CH)(B:DefMX P w K mg base 12 CH "check_world" Ul (WH K CH CR CS CT CX)):FnOk P w K mg base (XC P w base) 13 f fd Zdc (Zdk K CH CR CS CT CX):=by
 refine F.okX Zoh (fun cdv A outer s H vs Q E G h W=>?_)
 obtain ⟨h,s,i,rfl,R,J,q⟩:=h
 obtain ⟨d,r,sp,il,t,S⟩:=id R
 obtain ⟨dx,Z⟩:=S.get h
 refine' ⟨?t,?h,?r⟩
 case h =>
  conv=>arg 2;whnf
  with_reducible refine' (Zd ?h1 (Zi Ve))
  case h1=>exact ZT (Wd W B I.cl G (pv 0) (Zc (pv 1) Za))
 try dsimp only [ZQ,Cx.nox]
 refine VP ?_
 intro zD zS U
 exact ⟨_,rfl,h,dx,_,rfl,Z,Yn (by decide +kernel),_,rfl,h,s,i,rfl,R,fun z=>absurd z J,fun _=>q⟩
inductive Zdi (K:Qa)(CH CR CS CT CX:Addr)(vs:List V)(H:Hp)(Q:VK)(E:XK):Prop
 | mk (h:Addr) (s:Hs) (i:Int) (v:V):vs=[.ref h,.int i,v]->Vt K CH CR CS CT h s H->¬ Vo s i->ExW E CX (.int i) H->Zdi K CH CR CS CT CX vs H Q E
abbrev nHLy:List Str:=["self","world","name","value"]
abbrev Zda:List Str:=["self","world","name"]
theorem Zof:Zp nHLy Zda (Zj c_Hall_look_in):={}
theorem Zmw (F:Fun K "look_in" "Hall.look_in" c_Hall_look_in f fd)(T:Ym mg)(U:XD K CH)(B:DefMX P w K mg base 12 CH "check_world" Ul (WH K CH CR CS CT CX)):FnOk P w K mg base (XC P w base) 13 f fd Zda (Zdi K CH CR CS CT CX):=by
 refine F.okX Zof (fun cdv A outer s H vs Q E I h W=>?_)
 obtain ⟨h,s,i,v,rfl,R,hw,q⟩:=h
 obtain ⟨d,r,sp,il,t,S⟩:=id R
 obtain ⟨dx,ob⟩:=S.get h
 refine' ⟨?t,?h,?r⟩
 case h =>
  conv=>arg 2;whnf
  with_reducible refine' (Zd ?h1 (Zd Ve (Zd Ve (Zd Ve (Zi Ve)))))
  case h1=>exact ZT (Wd W B U.cl I (pv 0) (Zc (pv 1) Za))
 try dsimp only [ZQ,Cx.nox]
 refine zs5 ?_
 intro zD zS J Z G zN1
 exact ⟨_,rfl,h,dx,_,rfl,ob,Yn (by decide +kernel),_,rfl,h,s,i,rfl,R,fun z=>absurd z hw,fun _=>q⟩
end
section
variable {P:Qk}{w:Qt}{K:Qa}{mg:Str->Option Qb}{base:Heap}
abbrev nNm:List Str:=["_law_box_here","_law_many","_law_letters","_law_size","_law_stem","_law_first","_law_step","_law_at","_law_found","_law_k","_law_one","_law_other"]
abbrev Zjw:List Str:=["_law_box_here","_law_many"]
theorem scNm:Zp nNm Zjw (Zj s_l_names):={}
theorem Zjg (F:Fun K "_law_names" "_law_names" s_l_names f fd)(T:Ym mg)(DT:DTk P w K mg base 1):FnOk P w K mg base ZI 2 f fd Zjw ZaK:=by
 refine F.ok scNm (fun cdv A outer s H vs Q E hr h=>?_)
 obtain ⟨p,n,many,Δ,rfl,S,hn,h0,h1,q⟩:=h
 have I:=hr
 refine' ⟨?t,?h,?r⟩
 case h =>
  conv=>arg 2;whnf
  with_reducible refine' (Zd ?h1 (Zd ?h2 (Zd ?h3 (Zd ?h4 (Zd (Ue ?h5 ?h6 ?h7 ?h8 (Zd ?h9 (Zi ?h10)) ?h11) (Zi ?h12))))))
  case h1=>exact XJ (YZ (Zc ZW (Zc (Zv Yx Zg (ZJ DT I (Zc (pv 0) (Zc Zg Za)))) Za))) (VF rfl (YN (Yf (i:=2) scNm.nd rfl (SO rfl)) (YN (Yf (i:=3) scNm.nd rfl (QJ rfl)) UC)))
  case h2=>exact Zx (i:=4) scNm.nd rfl (QJ rfl) (YG Sl SD SE Zfb ZW (Zc (Zaa (CompOk.of nNm s_l_names rfl rfl (by decide +kernel)) rfl (Xb rfl T.range (Zc (Zv YS (pv 3) Zg) Za))  (fun _ _ _ _ _=>ZA Zbg (pv 2) (ZJ DT I (Zc (pv 0) (Zc Zg Za))) (fun _ _=>rfl))) Za))
  case h3=>exact Zli (i:=5) (j:=6) (k:=7) rfl scNm.nd rfl rfl rfl (by decide) (by decide) (by decide) rfl rfl rfl (Zc (ZJ DT I (Zc (pv 0) (Zc Zg Za))) (Zc (ZA ZG (Yb (Zc Zg (Zc Zg (Zc Zg (Zc Zg Za))))) (ZJ DT I (Zc (pv 0) (Zc Zg Za))) (fun _ _=>rfl)) (Zc (ZJ DT I (Zc (pv 0) (Zc (Zv YS (pv 3) Zg) Za))) Za))) rfl
  case h4=>exact Zx (i:=8) scNm.nd rfl (QJ rfl) (Yb Za)
  case h5=>exact GD
  case h6=>exact rfl
  case h7=>exact Xb rfl T.range (Zc (pv 1) Za)
  case h8=>exact Yf (i:=9) scNm.nd rfl (QJ rfl)
  case h9=>exact XJ (Zr Zez rfl T.divmod (by decide +kernel) (Zc (Zv Wb (Zv Yx (pv 5) (Zv WE (pv 6) (pv 9))) Zg) (Zc Zg Za))) (VF rfl (YN (Yf (i:=10) scNm.nd rfl (QJ rfl)) (YN (Yf (i:=11) scNm.nd rfl (QJ rfl)) UC)))
  case h10=>exact ZT (YG Qx QB QC ZZ (pv 8) (Zc (Zv Va (Zv Va (Zv Va (ZaJ Zib (pv 4) ZbT (ZbU (pv 7))) (ZA Zbg (pv 2) (pv 10) (fun _ _=>rfl))) (ZA Zbg (pv 2) (pv 11) (fun _ _=>rfl))) (ZaJ Zib (pv 4) (ZbU (pv 7)) ZbT)) Za))
  case h11=>exact fun _=>rfl
  case h12=>exact Zu (pv 8)
 try dsimp only [ZQ,Cx.nox]
 refine zs6 ?_
 intro zD zS zN5 zN4 zN3 zN2 zN1
 refine ⟨_,rfl,p,_,7,_,rfl,S,by omega,by decide,by decide,fun r1 H1 a0 a1 S1=>⟨_,_,rfl,rfl,(by show 2<=Qj;decide),fun t ht=>⟨t,_,rfl,SqT.of Ze,rfl,_,_,rfl,_,_,rfl,rfl,?_⟩⟩⟩
 generalize G:upd H1 t _=H2
 have S2:=(S1.newE ht G).tail
 clear G
 refine ⟨rfl,_,rfl,_,_,rfl,rfl,_,rfl,by omega,by omega,fun D hD=>?_⟩
 have e1:(2+r1 - 2).toNat=r1.toNat:=by omega
 rw [e1]
 refine Zan (Wf (show r1.toNat<=1000 by omega)) S2 hD (fun i ys Δ'=>∃ zs:List Str,ys=zs.map V.str/\(∀ z∈zs,∃ c,z=⟨#[c]⟩/\ZdP c=true)/\Δ'=(p,Bx (n+1+i))::Δ) ⟨[],rfl,(fun _ h=>nomatch h),rfl⟩ ?_ ?_
 ·rintro i ys Δ' H' hi hl ⟨zs,rfl,hz,rfl⟩ S'
  refine ⟨_,rfl,_,rfl,p,_,26,_,rfl,S'.pull p,by omega,by decide,by decide,fun r3 H3 b0 b1 S3=>?_⟩
  obtain ⟨c,hc,hcl⟩:=ZbX (x:=a26) ZbG b0 (by rw [WP];exact b1)
  refine ⟨a26,r3,c,rfl,rfl,by rw [WP];decide,hc,_,⟨zs++[⟨#[c]⟩],by rw [map_append];rfl,?_,rfl⟩,S3.pull D⟩
  intro z hz'
  rcases mem_append.mp hz' with h | h
  ·exact hz z h
  ·rw [mem_singleton.mp h];exact ⟨c,rfl,hcl⟩
 rintro ys Δ' H3 ⟨zs,rfl,hz,rfl⟩ hl S3
 rw [length_map] at hl
 obtain ⟨g1,g2,g3⟩:=Zhl hz
 refine ⟨_,D,zs,rfl,rfl,SqL.of (S3.get D),by omega,?_⟩
 have S4:=S3.tail
 generalize Txt.join (Qw "") zs=B at *
 refine ⟨_,rfl,p,_,676,_,rfl,S4,by omega,by decide,by decide,fun r5 H5 b0 b1 S5=>⟨(by show 4<=Qj;decide),fun l hl4=>?_⟩⟩
 generalize G:upd H5 l _=H6
 have S6:=S5.newE hl4 G
 clear G
 refine ⟨_,rfl,p,_,4,_,rfl,S6.pull p,by omega,by decide,by decide,fun r7 H7 c0 c1 S7=>?_⟩
 obtain ⟨sv,hsm,hsv⟩:=ZkH (xs:=[.int 1,.int 27,.int 5,.int 251]) c0 c1
 obtain ⟨U,rfl,hst,hst4⟩:∃ z:Int,sv=.int z/\(0<=z/\z<=251)/\(z=1\/z=27\/z=5\/z=251):=by
  simp only [mem_cons,not_mem_nil,or_false] at hsm
  rcases hsm with rfl | rfl | rfl | rfl<;>exact ⟨_,rfl,⟨by decide,by decide⟩,by decide⟩
 refine ⟨l,_,_,_,rfl,rfl,SqL.of (S7.get l),hsv,?_⟩
 have S8:=S7.drop l
 refine ⟨_,rfl,_,rfl,_,_,rfl,rfl,p,_,_,_,rfl,S8,by omega,by omega,by omega,fun W H9 d0 d1 S10=>⟨_,_,_,rfl,?_⟩⟩
 refine ⟨(by show 0<=Qj;decide),fun Z hfl=>?_⟩
 generalize G:upd H9 Z _=H11
 have S11:=S10.newE hfl G
 clear G
 refine ⟨_,rfl,many,rfl,by omega,by omega,?_⟩
 refine WD (fun i σ H'=>∃ x9 x10 x11 xs,σ=[some (.ref p),some (.int many),some (.str a26),some (.int (2+r1)),some (.str B),some (.int r5),some (.int U),some (.int W),some (.ref Z),x9,x10,x11]/\Sep ((Z,Yi (xs.map V.str))::(p,Bx (n+20))::Δ) H'/\xs.length=i/\(∀ x∈xs,Zdu x)/\∀ (j:Nat) (x:Str),xs[j]?=some x->ZfJ (Txt.slice B none (some W)) (Txt.slice B (some W) none) ((r5+U * (0+(j:Int))) % 676) x)
  ⟨_,_,_,[],rfl,(S11.pull p).le (by omega) |>.pull Z,rfl,(fun _ h=>nomatch h),fun _ _ h=>nomatch h⟩ ?_ ?_
 ·rintro i σ H' hi ⟨x9,x10,x11,xs,rfl,S',hxl,hxs,hnm⟩
  have hb:0<=U * (0+(i:Int)):=Int.mul_nonneg hst.1 (by omega)
  refine ⟨_,rfl,_,rfl,_,rfl,_,_,rfl,rfl,.inl ⟨by omega,by omega⟩,_,_,rfl,rfl,_,_,rfl,rfl,(by show (0:Int) < 676;decide),?_⟩
  obtain ⟨z,hz⟩:∃ z:Int,(r5+U * (0+(i:Int))) % 676=z:=⟨_,rfl⟩
  have hz0:0<=z:=by rw [<- hz];exact GC _ (by decide)
  have hz1:z < 676:=by rw [<- hz];exact Gu _ (by decide)
  refine ⟨z,26,congrArg (fun y=>[V.int y,V.int 26]) hz,⟨by decide,by decide⟩,fun t2 ht2=>⟨t2,_,rfl,SqT.of Ze,rfl,_,_,rfl,_,_,rfl,rfl,?_⟩⟩
  generalize G:upd H' t2 _=H12
  have S12:=(S'.newE ht2 G).tail
  clear G
  obtain ⟨c1',hc1,hcl1⟩:=ZbX (x:=a26) ZbG (r:=z / 26) (by omega) (by rw [WP];omega)
  obtain ⟨J,hc2,hcl2⟩:=ZbX (x:=a26) ZbG (r:=z % 26) (by omega) (by rw [WP];omega)
  have hsl:=Zic (x:=B) d0 (by omega)
  refine ⟨_,rfl,.inl ⟨rfl,_,SqL.of (S12.get Z)⟩,_,rfl,_,rfl,W,rfl,B,rfl,Wf (show B.length<=1000 by omega),_,rfl,_,rfl,a26,_,c1',rfl,rfl,by rw [WP];decide,hc1,_,_,rfl,rfl,Wf (show _<=1000 by rw [Ws];omega),?_⟩
  refine ⟨_,rfl,_,rfl,a26,_,J,rfl,rfl,by rw [WP];decide,hc2,_,_,rfl,rfl,Wf (show _<=1000 by rw [YX,Ws,Ws];omega),_,rfl,_,rfl,W,rfl,B,rfl,Wf (show B.length<=1000 by omega),_,_,rfl,rfl,Wf (show _<=1000 by rw [YX,YX,Ws,Ws];omega),?_⟩
  refine ⟨Z,_,_,rfl,rfl,S12.get Z,YO (show _<=1000 by rw [length_map];omega),?_⟩
  have S13:=S12.put Z (.lst (xs.map V.str++[.str (Txt.slice B none (some W)++(⟨#[c1']⟩:Str)++(⟨#[J]⟩:Str)++Txt.slice B (some W) none)]))
  refine ⟨_,_,_,xs++[Txt.slice B none (some W)++(⟨#[c1']⟩:Str)++(⟨#[J]⟩:Str)++Txt.slice B (some W) none],rfl,by rw [map_append];exact S13,by simp [hxl],fun x hx=>?_,fun j x hx=>?_⟩
  ·rcases mem_append.mp hx with h | h
   ·exact hxs x h
   ·rw [mem_singleton.mp h]
    refine ⟨?_,?_,Zay (Zay (Zay (Zbt g3) (ZdU hcl1)) (ZdU hcl2)) (Zbt g3)⟩<;>(rw [YX,YX,YX,Ws,Ws];omega)
  ·by_cases hj:j < xs.length
   ·rw [getElem?_append_left hj] at hx;exact hnm j x hx
   ·have hj2:j=i:=by
     have:=(Qi.mp hx).1
     rw [length_append,Je] at this;omega
    subst hj2
    rw [getElem?_append_right (by omega),show j - xs.length=0 by omega] at hx
    cases (show some _=some x from hx)
    rw [hz];exact ⟨c1',J,rfl,hc1,hc2⟩
 ·rintro σ H' ⟨x9,x10,x11,xs,rfl,S',hxl,hxs,hnm⟩
  exact ⟨_,rfl,q Z H' xs S' hxl hxs (Zhz hst4 (by omega) hnm)⟩
end
def mkB:Nat->Int
 | 0=>0
 | i+1=>mkB i+((i:Int)+1) * 26
theorem Zhw {l:List Nat}:∀ i,i<=l.length->l.all ZdP=true->0<=Wr l i/\Wr l i<=mkB i
 | 0,_,_=>⟨OW _,OW _⟩
 | i+1,hi,ha=>by
  obtain ⟨J,h1⟩:=Zhw i (by omega) ha
  have B:i < l.length:=hi
  have G:=all_eq_true.mp ha _ (Jp B)
  have I:l.getD i 0=l[i]:=by rw [getD_eq_getElem?_getD,getElem?_eq_getElem B];rfl
  unfold ZdP at G
  simp only [QM,decide_eq_true_eq] at G
  show 0<=Wr l i+((i:Int)+1) * (((l.getD i 0:Nat):Int) - 97+1)/\Wr l i+((i:Int)+1) * (((l.getD i 0:Nat):Int) - 97+1)<=mkB i+((i:Int)+1) * 26
  rw [I]
  have p0:(0:Int)<=((i:Int)+1) * (((l[i]:Nat):Int) - 97+1):=Int.mul_nonneg (by omega) (by omega)
  have p1:((i:Int)+1) * (((l[i]:Nat):Int) - 97+1)<=((i:Int)+1) * 26:=Int.mul_le_mul_of_nonneg_left (by omega) (by omega)
  omega
theorem ZnL (W:NS.length < 64)(h:∀ x∈NS,Zdu x):Yr NS:=by
 have b:∀ x∈NS,0<=Zw x/\Zw x < 1024:=fun x B=>by
  obtain ⟨h1,G,S⟩:=h x B
  obtain ⟨I,U⟩:=Zhw (l:=x.cps.toList) x.length (by rw [<- Yq];exact Qh _) S
  have J:∀ i,i<=8->mkB i < 1024:=by decide
  have:=J x.length G
  exact ⟨I,by show Wr _ _ < _;omega⟩
 exact ⟨by omega,fun x B=>by have:=(h x B).2.1;omega,fun x B=>(b x B).1,fun x B=>(b x B).2⟩
theorem ZnW :RInv NS [] [.bare] [(QQ 0,.bl true)]:=by
 refine ⟨fun k q e=>by simp at e,fun k F t e1 B=>?_⟩
 cases k with
 | zero =>
  cases (show some (fun _=>none)=some F from e1)
  cases (show some 0=some t from B)
  exact ⟨rfl,.inl (.inl ⟨rfl,rfl,fun _ _ _=>rfl⟩),fun x u z=>by cases z⟩
 | succ k=>simp [envs] at e1
end K33
namespace L2
open PySem
theorem ZbP {H:Hp}(h:NvV v):DataOf H v (Xa v)/\(Xa v).showable=true/\(Xa v).shown.length<=Qj/\(Xa v).depth<=60:=by
 have s:=ZdT h 0
 exact ⟨Zfd h,s.sh,Qq s.ln (by rw [QR];omega),Qq s.dp (by decide)⟩
end L2
namespace L2
open PySem PySem.W PySem.Spec PyProof.Rows
def Apt (fs cs:Pn):Prop:=∀ b o,fs.lookup b=some o->cs.lookup b=none
section
variable {fs cs:Pn}{H H' H2:Hp}{h:Heap}{b:Addr}{o:Obj}
theorem ZhO:(fs++cs).lookup b=(fs.lookup b).or (cs.lookup b):=List.lookup_append
theorem XA (e:fs.lookup b=some o):(fs++cs).lookup b=some o:=by rw [ZhO,e];rfl
theorem Yp (e:fs.lookup b=none):(fs++cs).lookup b=cs.lookup b:=by rw [ZhO,e];rfl
theorem Apt.sym (a:Apt fs cs)(e:cs.lookup b=some o):fs.lookup b=none:=by
 cases z:fs.lookup b with
 | none=>rfl
 | some u=>rw [a b u z] at e;cases e
theorem Has.app (a:Has fs H)(c:Has cs H):Has (fs++cs) H:=fun b o e=>by
 cases z:fs.lookup b with
 | some u=>rw [XA z] at e;cases e;exact a b _ z
 | none=>rw [Yp z] at e;exact c b o e
theorem Has.fst (a:Has (fs++cs) H):Has fs H:=fun b o e=>a b o (XA e)
theorem Has.snd (a:Has (fs++cs) H)(p:Apt fs cs):Has cs H:=fun b o e=>a b o (by rw [Yp (p.sym e)];exact e)
theorem Hasn.app (a:Hasn fs H)(c:Hasn cs H):Hasn (fs++cs) H:=fun b o e=>by
 cases z:fs.lookup b with
 | some u=>exact a b u z
 | none=>rw [Yp z] at e;exact c b o e
theorem ZeO (a:Has fs H)(p:Apt fs cs):cov (unc H (fs++cs)) fs=unc H cs:=funext fun b=>by
 cases z:fs.lookup b with
 | some u=>rw [Xj z,Zy (p b u z),a b u z]
 | none =>
  rw [ZC z]
  cases y:cs.lookup b with
  | some u=>rw [Yh y,Yh (show (fs++cs).lookup b=some u by rw [Yp z];exact y)]
  | none=>rw [Zy y,Zy (by rw [Yp z];exact y)]
theorem ZbL (a:Has fs H)(p:Apt fs cs):cov (unc H fs) (fs++cs)=cov H cs:=funext fun b=>by
 cases z:fs.lookup b with
 | some u=>rw [Xj (XA z),ZC (p b u z),a b u z]
 | none =>
  cases y:cs.lookup b with
  | some u=>rw [Xj y,Xj (show (fs++cs).lookup b=some u by rw [Yp z];exact y)]
  | none=>rw [ZC y,ZC (by rw [Yp z];exact y),Zy z]
theorem ZlC (p:Apt fs cs):unc H (fs++cs)=unc (unc H fs) cs:=funext fun b=>by
 cases z:fs.lookup b with
 | some u=>rw [Yh (XA z),Zy (p b u z),Yh z]
 | none =>
  cases y:cs.lookup b with
  | some u=>rw [Yh y,Yh (show (fs++cs).lookup b=some u by rw [Yp z];exact y)]
  | none=>rw [Zy y,Zy z,Zy (by rw [Yp z];exact y)]
theorem Hasn.of_app (a:Hasn (fs++cs) (unc H fs))(p:Apt fs cs):Hasn cs H:=fun b o e=>by
 have z:=p.sym e
 have:=a b o (by rw [Yp z];exact e)
 rwa [Zy z] at this
theorem ZkD:Has [] H:=fun _ _ e=>nomatch e
end
def Thk1 (P:Qk)(w:Qt)(K:Qa)(mg:Str->Option Qb)(base:Heap)(k:Nat)(fs cs:Pn)(cc:Addr)(qual:Str)(q:Addr)(T:Hp->VK->XK->Prop):Prop :=
 ∀ (A:QA) (outer:List Env) (s:Qe) (H:Hp) (Q:VK) (E:XK),Room k A->Env0 P w K mg base A outer s H->Has fs H->Has cs H->H cc=some (.ext (Xs cc qual)) ->
  T (unc H cs) Q E->Ja (Qs P w) A (.call (.ref q) ⟨[],[]⟩) (CR (XC P w base) outer P w (unc H cs) s Q E) s
def tFs (fs:Pn)(T:Hp->VK->XK->Prop):Hp->VK->XK->Prop:=fun H Q E=>T (cov H fs) (fun v H'=>Has fs H'/\Q v (unc H' fs)) (fun C d H'=>Has fs H'/\E C d (unc H' fs))
section
variable {P:Qk}{w:Qt}{K:Qa}{mg:Str->Option Qb}{base:Heap}
theorem ZlW (U:Env0 P w K mg base A outer s H)(has:Has cs H)(hQ:∀ v H',Hasn cs H'->W v H'->Q v (cov H' cs))(hE:∀ C d H',Hasn cs H'->S C d H'->E C d (cov H' cs))(h:CR (XC P w base) outer P w (unc H cs) s W S r s'):CR (XC P w base) outer P w H s Q E r s':=by
 have B:Xc cs s.heap:=XR U.hok has
 have nf:∀ b o,cs.lookup b=some o->b ∉ Yv outer:=fun b o e z=>by have:=U.frf b z;rw [has b o e] at this;cases this
 cases r with
 | error e =>
  obtain ⟨ea,C,dx,H',rfl,b1,Z,x1,os,gb,un,hok,J⟩:=h
  have G:Hasn cs H':=fun b o e=>un.free b o (B b o e) (Yh e) (by simp)
  have kk:Xc cs s'.heap:=fun b o e=>un.keep b o (B b o e) (Yh e) (nf b o e) (by simp)
  refine ⟨ea,C,dx,cov H' cs,rfl,b1,Z,x1.re fun b l e=>?_,os,gb,un.cov has B,hok.cov G kk,hE _ _ _ G J⟩
  cases z:cs.lookup b with
  | none=>rw [ZC z];exact e
  | some o=>exact absurd (Qg (B b o z)) (QV.mpr l)
 | ok f =>
  cases f with
  | ret u =>
   obtain ⟨v',H',os,I,un,hok,rv,J⟩:=h
   have G:Hasn cs H':=fun b o e=>un.free b o (B b o e) (Yh e) (by simp)
   have kk:Xc cs s'.heap:=fun b o e=>un.keep b o (B b o e) (Yh e) (nf b o e) (by simp)
   exact ⟨v',cov H' cs,os,I,un.cov has B,hok.cov G kk,rv,hQ _ _ G J⟩
  | next=>exact QL h
  | brk=>exact QL h
  | cont=>exact QL h
theorem Thk1.thk {k:Nat}(h:Thk1 P w K mg base k fs cs cc qual q T)(p:Apt fs cs)(hf:∃ B fd,fs.lookup q=some B/\B.data=.func fd):Thk P w K mg base k (fs++cs) cc qual q (tFs fs T):=by
 obtain ⟨B,fd,U,Z⟩:=hf
 refine ⟨fun A outer s H Q E W S has G I=>?_,B,fd,XA U,Z⟩
 unfold tFs at I
 rw [ZeO has.fst p] at I
 refine Gk (h A outer s H _ _ W S has.fst (has.snd p) G I) fun r s' hq=>ZlW S (has.snd p) (fun v H' J z=>?_) (fun C d H' J z=>?_) hq
 ·have:=z.2 (Hasn.app ZdK fun b o e=>by rw [Zy (p.sym e)];exact J b o e)
  rwa [ZbL z.1 p] at this
 ·have:=z.2 (Hasn.app ZdK fun b o e=>by rw [Zy (p.sym e)];exact J b o e)
  rwa [ZbL z.1 p] at this
structure Zdr (N ps:List Str)(sc:Scope):Prop where
 kind:sc.kind=.function
 co:sc.isCoroutine=false
 gen:sc.isGenerator=false
 cell:∀ y∈sc.names,y.2≠.cell
 loc:∀ x,sc.names.lookup x=some .local->x∈ps
 par:∀ x∈ps,sc.names.lookup x=some .local
 own:∀ x∈N,x ∉ ps
abbrev kfn (qual:Str)(args:Jo)(body:Expr)(sc:Scope)(cl:List (Str×Addr))(dV doc pm:Qb)(cc:Addr)(ct:Qb):Obj:={ cls:=.type "function",data:=.func (kdv_fn "<lambda>" qual args (.expr body) sc cl dV doc pm (.ref cc) ct) }
theorem Zly {N ps:List Str}{k:Nat}{fs cs:Pn}{cc q:Addr}{qual:Str}{args:Jo}{body:Expr}{sc:Scope}{cl:List (Str×Addr)}{dV doc pm ct:Qb}{fo:Obj}{σ:St}{ds:List V}{us:List Qb}{te:(St->XK)->TE}(S:Zdr N ps sc)
 (hq:fs.lookup q=some fo) (hfo:fo=kfn qual args body sc cl dV doc pm cc ct)
 (hbind:∀ s:Qe,Xc fs s.heap->PD s (kdv_fn "<lambda>" qual args (.expr body) sc cl dV doc pm (.ref cc) ct) ⟨[],[]⟩ (ps.zip us)) (hN:σ.length=N.length) (hds:ds.length=ps.length)
 (hus:∀ (j:Nat) (x:Str) (v:V),ps[j]?=some x->ds[j]?=some v->∃ u,RelV v u/\(ps.zip us).reverse.lookup x=some u)
 (inj:∀ x y c,cl.lookup x=some c->cl.lookup y=some c->x=y) (cl2:∀ y∈sc.names,y.2=.free->cl.lookup y.1≠none)
 (hcl:∀ x c,cl.lookup x=some c->∃ o v,cs.lookup c=some o/\o.data=.cell v)
 (hσ:∀ (i:Nat) (x:Str) (v:V) (c:Addr),N[i]?=some x->σ[i]?=some (some v)->cl.lookup x=some c->sc.names.lookup x=some .free->∃ o u,cs.lookup c=some o/\o.data=.cell (some u)/\RelV v u)
 (he:∀ (A:QA) (outer:List Env) (s:Qe) (H:Hp) (Z:Qb->Qe->Prop) (EE:St->XK),Room k (A.deeper (YF qual sc s.heap.objs.size q cl (.ref cc)))->Xq (Wa P w K mg base (N++ps) (YF qual sc s.heap.objs.size q cl (.ref cc)) A outer s H Z) EE ->
  PE (Wa P w K mg base (N++ps) (YF qual sc s.heap.objs.size q cl (.ref cc)) A outer s H Z) body (te EE)) :
 Thk1 P w K mg base (k+1) fs cs cc qual q (fun H Q E=>te (fun _=>E) (σ++ds.map some) H Q):=by
 intro A outer s H Q E hr G hasf has hcc hT
 have lim:s.heap.NoLimit:=G.mod.nolimit.keeps fun b o e=>(G.bs b o e).1
 have hshf:Xc fs s.heap:=XR G.hok hasf
 have hsh:Xc cs s.heap:=XR G.hok has
 have hcd:s.heap.CodeRec (.ref cc) qual:=(G.hok cc _ hcc).1
 have B:∀ b,H b=none->unc H cs b=none:=fun b e=>by rw [Zy (UA has e)];exact e
 refine kla_callFunE (body:=body) hr.depth (hshf q fo hq) (by rw [hfo]) S.co S.gen rfl hcd ?_
 refine hbind s hshf _ _ _ _ ?_
 refine Pf S.cell (fun y hy=>S.par _ (of_mem_zip hy).1) (fun h₁ U I=>?_) S.kind
 have old:∀ b o,s.heap.get? b=some o->h₁.get? b=some o:=fun b o e=>I.extBut b o (Qu (Qg e)) (Qd _ e)
 refine ⟨lim.keeps old,kla_codeExpr ?_⟩
 have W:=Ziv (P:=P) (w:=w) (K:=K) (mg:=mg) (base:=base) (N:=N++ps) (env:=YF qual sc s.heap.objs.size q cl (.ref cc)) (A:=A) (outer:=outer) (s:=s) (H:=unc H cs) (E:=E) (R:=fun e s'=>CR (XC P w base) outer P w (unc H cs) s Q E (.error e) s') rfl rfl (fun e s' h=>h)
 refine QW (he A outer s (unc H cs) _ _ (hr.deeper _) W [] _ (σ++ds.map some) (unc H cs) _ ?_ hT) (fun v s' hs=>?_) fun e s' hs=>hs
 ·refine ⟨⟨G.mod,S.kind,rfl,rfl,Qh _,inj,fun x hx=>?_,(fun x c z _=>nomatch z),fun _=>hr.hd,SK G.frames,.inr ⟨rfl,rfl⟩,(fun b z=>nomatch z),fun b o e=>⟨(G.bs b o e).1,B b (G.bs b o e).2⟩,G.bsz,(fun _ _ _ z=>nomatch z),(fun _ z=>nomatch z),G.funs,fun b hb=>B b (G.frf b hb)⟩,
   rfl,G.bare,Un.kept old,⟨_,U,fun i x v h1 h2 h3=>?_⟩,fun x c e=>?_,B _ (G.hok.fresh (Qh _)),fun x c e=>?_,(fun p hp=>nomatch hp),(G.hok.unc has).kept old,by rw [length_append,length_map,hN,hds];exact (length_append ..).symm⟩
  ·have hf:sc.names.lookup x=some .free:=by
    rcases hx with hx | hx
    ·exact absurd rfl (S.cell _ (L2.mem_of_lookup hx))
    ·exact hx
   cases z:cl.lookup x with
   | none=>exact absurd z (cl2 _ (L2.mem_of_lookup hf) rfl)
   | some c=>exact ⟨c,z⟩
  ·have h1:(N++ps)[i]?=some x:=h1
   rcases Oh i N.length with hi | hi
   ·rw [getElem?_append_left hi] at h1
    rw [getElem?_append_left (by rw [hN];exact hi)] at h2
    have hf:sc.names.lookup x=some .free:=by
     rcases h3 with hx | hx | hx
     ·exact absurd (S.loc _ hx) (S.own x (mem_of_getElem? h1))
     ·exact absurd rfl (S.cell _ (L2.mem_of_lookup hx))
     ·exact hx
    cases z:cl.lookup x with
    | none=>exact absurd z (cl2 _ (L2.mem_of_lookup hf) rfl)
    | some c =>
     obtain ⟨o,u,h4,h5,h6⟩:=hσ i x v c h1 h2 z hf
     exact ⟨u,h6,.inr ⟨.inr hf,c,z,o,old _ _ (hsh c o h4),h5⟩⟩
   ·rw [getElem?_append_right hi] at h1
    rw [getElem?_append_right (by rw [hN];exact hi),hN,getElem?_map] at h2
    obtain ⟨v',hv,e⟩:=Go.mp h2
    cases e
    obtain ⟨u,r,hu⟩:=hus _ x v h1 hv
    exact ⟨u,r,.inl ⟨S.par x (mem_of_getElem? h1),hu⟩⟩
  ·obtain ⟨o,v,h4,h5⟩:=hcl x c e
   exact ⟨v,o,old _ _ (hsh c o h4),h5⟩
  ·obtain ⟨o,v,h4,h5⟩:=hcl x c e
   exact Yh h4
 ·obtain ⟨v',H',J,rv,q1⟩:=hs
  exact ⟨v',H',J.os,J.bare,J.base,J.hok,rv,q1⟩
end
abbrev Yk (X:Cx):Str:=X.env.qual++"<lambda>"
abbrev kdf (X:Cx)(args:Jo)(body:Expr)(sc:Scope)(cl:List (Str×Addr))(dV doc pm:Qb)(cc:Addr)(ct:Qb):FuncData:=kdv_fn "<lambda>" (Yk X) args (.expr body) sc cl dV doc pm (.ref cc) ct
inductive Kept (X:Cx)(k:Nat)(fs:Pn)(cc q:Addr)(ds:List V)(te:(St->XK)->TE):Prop
 | mk (args:Jo) (body:Expr) (sc:Scope) (cl:List (Str×Addr)) (dV doc pm ct:Qb) (ps:List Str) (us:List Qb):Zdr X.N ps sc->fs.lookup q=some (kfn (Yk X) args body sc cl dV doc pm cc ct) ->
  (∀ s:Qe,Xc fs s.heap->PD s (kdf X args body sc cl dV doc pm cc ct) ⟨[],[]⟩ (ps.zip us))->ds.length=ps.length ->
  (∀ (j:Nat) (x:Str) (v:V),ps[j]?=some x->ds[j]?=some v->∃ u,RelV v u/\(ps.zip us).reverse.lookup x=some u) ->
  (∀ y c,cl.lookup y=some c->X.env.cells.lookup y=some c)->(∀ y∈sc.names,y.2=.free->cl.lookup y.1≠none)->(∀ y∈sc.names,y.2=.free->X.env.kindOf y.1=some .cell)->(∀ b o,fs.lookup b=some o->∀ v,o.data≠.cell v) ->
  (∀ (A:QA) (outer:List Env) (s:Qe) (H:Hp) (Z:Qb->Qe->Prop) (EE:St->XK),Room k (A.deeper (YF (Yk X) sc s.heap.objs.size q cl (.ref cc)))->Xq (Wa X.prog X.w X.K X.mg X.base (X.N++ps) (YF (Yk X) sc s.heap.objs.size q cl (.ref cc)) A outer s H Z) EE ->
   PE (Wa X.prog X.w X.K X.mg X.base (X.N++ps) (YF (Yk X) sc s.heap.objs.size q cl (.ref cc)) A outer s H Z) body (te EE))->Kept X k fs cc q ds te
theorem Kept.fn {k:Nat}(h:Kept X k fs cc q ds te):∃ B fd,fs.lookup q=some B/\B.data=.func fd:=by
 obtain ⟨args,body,sc,cl,J,G,W,U,ps,us,S,I,r⟩:=h
 exact ⟨_,_,I,rfl⟩
theorem Kept.nc {k:Nat}(h:Kept X k fs cc q ds te):∀ b o,fs.lookup b=some o->∀ v,o.data≠.cell v:=by
 obtain ⟨args,body,sc,cl,W,B,pm,ct,ps,us,S,Z,h1,h2,U,h4,h5,J,G,I⟩:=h
 exact G
theorem Kept.run {k:Nat}{σ:St}(h:Kept X k fs cc q ds te)(hN:σ.length=X.N.length)(inj:∀ x y c,X.env.cells.lookup x=some c->X.env.cells.lookup y=some c->x=y)(I:∀ x c,X.env.cells.lookup x=some c->∃ o v,cs.lookup c=some o/\o.data=.cell v)(G:∀ (i:Nat) (x:Str) (v:V) (c:Addr),X.N[i]?=some x->σ[i]?=some (some v)->X.env.cells.lookup x=some c->X.env.kindOf x=some .cell->∃ o u,cs.lookup c=some o/\o.data=.cell (some u)/\RelV v u):
 Thk1 X.prog X.w X.K X.mg X.base (k+1) fs cs cc (Yk X) q (fun H Q E=>te (fun _=>E) (σ++ds.map some) H Q):=by
 obtain ⟨args,body,sc,cl,dV,U,pm,ct,ps,us,S,hq,h1,h2,h3,B,h5,W,h7,Z⟩:=h
 exact Zly S hq rfl h1 hN h2 h3 (fun x y c e1 J=>inj x y c (B x c e1) (B y c J)) h5 (fun x c e=>I x c (B x c e)) (fun i x v c e1 J e3 e4=>G i x v c e1 J (B x c e3) (W _ (L2.mem_of_lookup e4) rfl)) Z
def tLam (KP:Pn->Addr->Addr->List V->Prop)(Pl:Addr)(qual:Str)(t:TA):TE:=fun σ H Q=>t σ H fun ds H0=>LamsAt H0 Pl qual/\∀(q:Addr)(H2:Hp)(fs:Pn)(cc:Addr),Grown Pl H0 H2->LamsAt H2 Pl qual->H2 cc=some (.ext (Xs cc qual))->Has fs H2->KP fs cc q ds->Q (.ref q) H2
section
variable {X:Cx}{pins:List (Addr×Obj)}{σ:St}{H:Hp}{s:Qe}
theorem ZiG (I:Inv X pins σ H s)(G:X.env.code=.ref c)(C:PZ X.K c Pl=true)(hBm:XX X.base X.mg)(hL:LamsAt H Pl (Yk X))(S:∀ y∈sc.names,y.2=.free->∃ c,X.env.cells.lookup y.1=some c)(h:∀ (q:Addr) (H':Hp) (s':Qe) (pm B ct:Qb) (cc:Addr) (cl:List (Str×Addr)),Inv X pins σ H' s'->Grown Pl H H'->LamsAt H' Pl (Yk X)->(∀ y c,cl.lookup y=some c->X.env.cells.lookup y=some c)->(∀ y∈sc.names,y.2=.free->cl.lookup y.1≠none)->H' q=none->s.heap.objs.size<=q ->
  s'.heap.get? q=some (kfn (Yk X) args body sc cl dV B pm cc ct)->H' cc=some (.ext (Xs cc (Yk X)))->Q (.ref q) s'):
 Qr (Qs X.prog X.w) A (makeTail "<lambda>" (Yk X) args (.expr body) sc X.env dV .none none lpos lpos.line) Q E s:=by
 obtain ⟨cl,hcl,cl1,cl2⟩:=UQ S
 have hg:=I.mod.glob.keeps I.bk
 have CH:=OT I.kIn C
 obtain ⟨ts,e,ec⟩:=hL
 have hP:s.heap.get? Pl=some (OB (WI ts).toArray):=I.hok Pl _ e
 have bmAt:s.heap.BuiltinsAt X.mg Pl/\Ql≠Pl:=by
  obtain ⟨bm,ob,b1,b2,b3,b4,b5,b6⟩:=hBm
  have J:=I.bk _ _ b3
  have hmg:Ql≠Pl:=fun z=>by
   obtain ⟨o,es,ep,y,hd,_⟩:=hg
   rw [z,hP] at y;cases y;cases hd
  refine ⟨⟨bm,ob,b1,b2,fun z=>?_,(fun z=>by rw [z,hP] at J;cases J;cases b4),J,b4,b5,b6⟩,hmg⟩
  obtain ⟨o,es,ep,y,hd,_⟩:=hg
  rw [<- z,J] at y;cases y
  rw [b6] at hd;cases hd
 obtain ⟨hb,hgP⟩:=bmAt
 cases hf:OC lpos (WI ts) with
 | none =>
  refine kdv_makeTail (clos:=cl) hcl I.ok.glob hg G CH hP (Zes ts) hf hgP hb fun W Z B h' tk hx hge hlt hrec hT=>?_
  have I1:=I.table (t':=tk) (h':=h') (qual:=Yk X) (lpos:=lpos) e (fun b o hb' y=>hx b o hb' y) hT hge hrec
  have U:H W=none:=I.hok.fresh hge
  have hcP:W≠Pl:=fun z=>by rw [z,e] at U;cases U
  have gr:Grown Pl H (upd (upd H Pl (.tbl ((WI ts).toArray++#[Gd lpos.line,Gd lpos.col,.ref W]))) W (.ext (Xs W (Yk X)))):=fun b o h1 y=>by rw [Zh (Zq y U),Zh h1];exact y
  refine h _ _ _ ((X.mg "__name__").getD .none) B Z W cl (I1.kept (t':=tk) fun b o y=>Qd _ y) gr ⟨ts++[(lpos,W)],?_,fun p hp=>?_⟩ cl1 cl2 (I1.hok.fresh (Qh _)) (GF (QN hge hlt)) (Qo _ rfl) Ze
  ·rw [Zh hcP.symm,Ze,Zlz];simp
  ·rcases mem_append.mp hp with y | y
   ·have e2:=ec p y
    exact gr _ _ (fun z=>by rw [z,e] at e2;cases e2) e2
   ·rw [mem_singleton.mp y];exact Ze
 | some v =>
  obtain ⟨p,hp,rfl⟩:=ZcL hf
  refine kdv_makeTailHit (clos:=cl) (cv:=.ref p.2) hcl I.ok.glob hg G CH hP (Zes ts) hf hb fun Z B h' tk hk hz=>?_
  exact h _ _ _ ((X.mg "__name__").getD .none) B Z p.2 cl ((I.kept (h':=h') (t':=tk) hk).kept (t':=tk) fun b o y=>Qd _ y) (fun b o _ y=>y) ⟨ts,e,ec⟩ cl1 cl2 (I.hok.fresh hz) hz (Qo _ rfl) (ec p hp)
structure LamOk1 (X:Cx)(ps:List Str)(sc:Scope):Prop where
 lam:Zdr X.N ps sc
 clos:∀ y∈sc.names,y.2=.free->X.env.kindOf y.1=some .cell
def ZeW (N ps:List Str)(names:List (Str×GE))(sc:Scope):Bool :=
 (sc.kind == .function&&(!sc.isCoroutine&&!sc.isGenerator))&&((sc.names.all fun y=>(y.2 != .cell&&(y.2 != .local || ps.contains y.1))&&(y.2 != .free || names.lookup y.1 == some .cell))&&((ps.all fun x=>sc.names.lookup x == some .local)&&N.all fun x=>!ps.contains x))
theorem LamOk1.of {ps:List Str}(N:List Str)(st:Stmt)(hN:X.N=N)(hn:X.env.scope=Zj st)(B:ZeW N ps (Zj st).names sc=true):LamOk1 X ps sc:=by
 unfold ZeW at B
 simp only [QM,all_eq_true,So,bne_iff_ne,beq_iff_eq,Jh,List.contains_iff_mem] at B
 obtain ⟨⟨c1,Z,c3⟩,I,U,W⟩:=B
 refine ⟨⟨c1,Z,c3,fun y S=>(I y S).1.1,fun x G=>?_,U,fun x G m=>?_⟩,fun y S J=>?_⟩
 ·have:=(I _ (L2.mem_of_lookup G)).1.2
  exact this.resolve_left fun z=>z rfl
 ·have:=W x (by rw [<- hN];exact G)
  simp [m] at this
 ·show X.env.scope.names.lookup y.1=_
  rw [hn];exact (I y S).2.resolve_left fun z=>z J
theorem ZeX {k:Nat}{ft:Pn}(I:Inv X pins σ H s)(O:LamOk1 X ps sc)(S:X.env.code=.ref c)(C:PZ X.K c Pl=true)(hBm:XX X.base X.mg)(hL:LamsAt H Pl (Yk X))(hft:Has ft H)(hnc:∀ b o,ft.lookup b=some o->∀ v,o.data≠.cell v)(W:∀ cl B pm cc ct (s:Qe),Xc ft s.heap->PD s (kdf X args body sc cl dV B pm cc ct) ⟨[],[]⟩ (ps.zip us))(hds:ds.length=ps.length)(hus:∀ (j:Nat) (x:Str) (v:V),ps[j]?=some x->ds[j]?=some v->∃ u,RelV v u/\(ps.zip us).reverse.lookup x=some u)(he:∀ (q:Addr) (cl:List (Str×Addr)) (cc:Addr) (A:QA) (outer:List Env) (s:Qe) (H:Hp) (Z:Qb->Qe->Prop) (EE:St->XK),Room k (A.deeper (YF (Yk X) sc s.heap.objs.size q cl (.ref cc)))->Xq (Wa X.prog X.w X.K X.mg X.base (X.N++ps) (YF (Yk X) sc s.heap.objs.size q cl (.ref cc)) A outer s H Z) EE ->
  PE (Wa X.prog X.w X.K X.mg X.base (X.N++ps) (YF (Yk X) sc s.heap.objs.size q cl (.ref cc)) A outer s H Z) body (te EE))(h:∀ (q:Addr) (H2:Hp) (fs:Pn) (cc:Addr),Grown Pl H H2->LamsAt H2 Pl (Yk X)->H2 cc=some (.ext (Xs cc (Yk X)))->Has fs H2->Kept X k fs cc q ds te->Q (.ref q) H2):
 Qr (Qs X.prog X.w) X.A (makeTail "<lambda>" (Yk X) args (.expr body) sc X.env dV .none none lpos lpos.line) (EP X pins σ Q) X.xe s:=by
 refine ZiG I S C hBm hL (fun y hy hf=>I.ok.has y.1 (.inl (O.clos y hy hf))) fun q H1 s1 pm B ct cc cl I1 gr L1 cl1 cl2 U G ho hcc=>?_
 generalize hfo:kfn (Yk X) args body sc cl dV B pm cc ct=J at ho
 have I2:Inv X pins σ (upd H1 q (Vc q J)) s1:=I1.track U (Qq I.sz G) (fun z=>absurd (show q < s.heap.objs.size by rw [z];exact I.lt) (QV.mpr G)) (fun x c e z=>by
  obtain ⟨v,o,y,_⟩:=I.cell x c e
  exact absurd (Qg y) (QV.mpr (by rw [z];exact G))) (fun p hp z=>absurd (Qg (I.pin p hp).1) (QV.mpr (by rw [z];exact G))) (ZdY ho)
 have sm:Same H1 (upd H1 q (Vc q J)):=fun b u e=>by rw [Zh (Zq e U)];exact e
 have nP:∀ b o,ft.lookup b=some o->b≠Pl:=fun b o e z=>by
  obtain ⟨ts,y,_⟩:=hL
  have:=hft b o e
  rw [z,y] at this;cases this
 have hft1:Has ft (upd H1 q (Vc q J)):=fun b o e=>sm _ _ (gr b _ (nP b o e) (hft b o e))
 have hqt:ft.lookup q=none:=by
  cases z:ft.lookup q with
  | none=>rfl
  | some o=>have:=gr q _ (nP q o z) (hft q o z);rw [U] at this;cases this
 have lq:((q,J)::ft:Pn).lookup q=some J:=by simp
 have ln:∀ b,b≠q->((q,J)::ft:Pn).lookup b=ft.lookup b:=fun b z=>by rw [lookup_cons,show (b == q)=false by simpa using z]
 refine ⟨.ref q,_,I2,rfl,h q _ ((q,J)::ft) cc (gr.more sm) (L1.same sm) (sm _ _ hcc) (fun b o e=>?_) ⟨args,body,sc,cl,dV,B,pm,ct,ps,us,O.lam,by rw [lq,hfo],fun s hs=>W cl B pm cc ct s fun b o e=>hs b o ?_,hds,hus,cl1,cl2,O.clos,fun b o e v=>?_,he q cl cc⟩⟩
 ·by_cases z:b=q
  ·subst z;rw [lq] at e;cases e;exact Ze
  ·rw [ln b z] at e;exact hft1 b o e
 ·by_cases z:b=q
  ·subst z;rw [hqt] at e;cases e
  ·rw [ln b z];exact e
 ·by_cases z:b=q
  ·subst z;rw [lq] at e;cases e;rw [<- hfo];intro y;cases y
  ·rw [ln b z] at e;exact hnc b o e v
section
variable {k:Nat}{c Pl:Addr}{args:Jo}{body:Expr}{sc:Scope}{lpos:Pos}{te:(St->XK)->TE}
theorem Zbn (O:LamOk1 X [] sc)(J:X.env.code=.ref c)(C:PZ X.K c Pl=true)(U:XX X.base X.mg)
 (he:∀ (q:Addr) (cl:List (Str×Addr)) (cc:Addr) (A:QA) (outer:List Env) (s:Qe) (H:Hp) (Z:Qb->Qe->Prop) (EE:St->XK),Room k (A.deeper (YF (Yk X) sc s.heap.objs.size q cl (.ref cc)))->Xq (Wa X.prog X.w X.K X.mg X.base (X.N++[]) (YF (Yk X) sc s.heap.objs.size q cl (.ref cc)) A outer s H Z) EE ->
  PE (Wa X.prog X.w X.K X.mg X.base (X.N++[]) (YF (Yk X) sc s.heap.objs.size q cl (.ref cc)) A outer s H Z) body (te EE))
 (S:defaultsOf args X.env=([],[]):=by rfl) (G:∀ cl B pm cc W,RZ (kdf X args body sc cl .none B pm cc W) ⟨[],[]⟩=pure []:=by intros;rfl) :
 PE X (.Lambda args body sc lpos) (tLam (fun fs cc q ds=>Kept X k fs cc q ds te) Pl (Yk X) Xo):=by
 intro pins s σ H Q I h
 obtain ⟨hL,h⟩:=h
 refine kla_eval S ?_
 rw [Ng]
 simp only [RL,PY,OM,if_true,Tz]
 exact ZeX (ft:=[]) (ps:=[]) (us:=[]) (ds:=[]) I O J C U hL ZkD (fun _ _ z=>nomatch z) (fun cl B pm cc W s _=>BindsTo.of_eq (G cl B pm cc W)) rfl (fun _ _ _ z=>nomatch z) he h
theorem Zlc (O:LamOk1 X [x] sc)(G:X.env.code=.ref c)(C:PZ X.K c Pl=true)(hBm:XX X.base X.mg)(hd:PE X e t)(he:∀ (q:Addr) (cl:List (Str×Addr)) (cc:Addr) (A:QA) (outer:List Env) (s:Qe) (H:Hp) (Z:Qb->Qe->Prop) (EE:St->XK),Room k (A.deeper (YF (Yk X) sc s.heap.objs.size q cl (.ref cc)))->Xq (Wa X.prog X.w X.K X.mg X.base (X.N++[x]) (YF (Yk X) sc s.heap.objs.size q cl (.ref cc)) A outer s H Z) EE ->
  PE (Wa X.prog X.w X.K X.mg X.base (X.N++[x]) (YF (Yk X) sc s.heap.objs.size q cl (.ref cc)) A outer s H Z) body (te EE))(hk0:args.kw_defaults=[]:=by rfl)(S:args.defaults=[e]:=by rfl)(J:∀ cl B W cc U (T:Addr),∃ kk,RZ (kdf X args body sc cl (.ref T) B W cc U) ⟨[],[]⟩=seqItems? (kdf X args body sc cl (.ref T) B W cc U).defaults >>= kk/\∀ u:Qb,kk (some #[u])=pure [(x,u)]:=by intros;exact ⟨_,rfl,fun _=>rfl⟩):
 PE X (.Lambda args body sc lpos) (tLam (fun fs cc q ds=>Kept X k fs cc q ds te) Pl (Yk X) (Wh t Xo)):=by
 intro pins s σ H Q I h
 refine kdv_lam (by rw [S];rfl) hk0 ?_
 rw [S]
 refine kdv_all1 (Zs (hd pins s σ H _ I h) fun u s1 zz=>?_)
 obtain ⟨v,H1,I1,ru,hL,h1⟩:=zz
 refine kdv_all0 ?_
 rw [Ng]
 simp only [RL,PY,OM,List.isEmpty_cons,if_true,Tz,Gf,if_false]
 refine Qf (wpAny_newTextTuple ?_)
 have hTn:H1 s1.heap.objs.size=none:=I1.hok.fresh (Qh _)
 have I2:=I1.laid (o:=Vc s1.heap.objs.size (Rg [u])) (t':=s1.toks) (h':=s1.heap.push (Rg [u])) (fun b o e=>Qd _ e) (Qh _) (ZdY (Qo _ rfl))
 have sm:Same H1 (upd H1 s1.heap.objs.size (Vc s1.heap.objs.size (Rg [u]))):=fun b o e=>by rw [Zh (Zq e hTn)];exact e
 have lk:∀ b o,([(s1.heap.objs.size,Rg [u])]:Pn).lookup b=some o->b=s1.heap.objs.size/\o=Rg [u]:=fun b o e=>by
  by_cases z:b=s1.heap.objs.size
  ·subst z;simp at e;exact ⟨rfl,e.symm⟩
  ·rw [lookup_cons,show (b == s1.heap.objs.size)=false by simpa using z] at e;cases e
 refine ZeX (ft:=[(s1.heap.objs.size,Rg [u])]) (ps:=[x]) (us:=[u]) (ds:=[v]) I2 O G C hBm (hL.same sm) (fun b o e=>?_) (fun b o e v z=>?_) (fun cl B W cc U s hs=>?_) rfl (fun j y w e1 e2=>?_) he fun q H2 fs cc g L hcc hf kp=>h1 q H2 fs cc ?_ L hcc hf kp
 ·obtain ⟨rfl,rfl⟩:=lk b o e;exact Ze
 ·obtain ⟨rfl,rfl⟩:=lk b o e;cases z
 ·obtain ⟨kk,z1,z2⟩:=J cl B W cc U s1.heap.objs.size
  exact BindsTo.of_defaults (o:=Rg [u]) rfl (hs _ _ (by simp)) rfl z1 (z2 u)
 ·cases j with
  | zero=>cases e1;cases e2;exact ⟨u,ru,by simp⟩
  | succ j=>cases e1
 ·intro b o n e
  exact g b o n (sm _ _ e)
end
end
theorem ZdZ (I:Inv Y pins σ H s):Hasn (Xw Y.env s.heap) H/\Xc (Xw Y.env s.heap) s.heap/\(∀ b o,(Xw Y.env s.heap).lookup b=some o->∃ y,Y.env.cells.lookup y=some b)/\(∀ x c o,Y.env.cells.lookup x=some c->s.heap.get? c=some o->(Xw Y.env s.heap).lookup c=some o):=by
 have B:∀ p∈Xw Y.env s.heap,s.heap.get? p.1=some p.2:=fun p hp=>(Vd hp).1
 exact ⟨fun b o e=>by obtain ⟨y,J⟩:=(Vd (WG e)).2;exact I.freeC y b J,fun b o e=>B _ (WG e),fun b o e=>(Vd (WG e)).2,fun x c o e1 G=>ZbS B (Zgf e1 G)⟩
def ZfG (Y:Cx):Prop:=∀ y c,Y.env.cells.lookup y=some c->Y.base.get? c=none/\c ∉ Yv Y.stack
theorem ZkA (I:Inv X pins σ H s)(J:∀ x,X.fn x=true):ZfG X:=fun y c e=>by
 have B:=I.ok.cab y c (J y) e
 refine ⟨Jj (Qq I.ok.bsz B),fun z=>?_⟩
 rcases mem_cons.mp (I.stkSub c z) with z | z
 ·exact I.cne y c e z
 ·obtain ⟨_,o,G,_⟩:=I.ok.funs.mem z
  exact absurd (Qg G) (QV.mpr B)
section
variable {Y:Cx}{pins:List (Addr×Obj)}{σ:St}{H1:Hp}{s1:Qe}{k j:Nat}{RK:Addr->Str->Prop}{pn:Str}{fa:Addr}{fd:Qn}{fs cs1:Pn}{cc q:Addr}{qual:Str}{T:Hp->VK->XK->Prop}{Q:VK}
theorem Zio (F:FnOk Y.prog Y.w Y.K Y.mg Y.base ZI j fa fd [pn] (UK Y.prog Y.w Y.K Y.mg Y.base k RK))(hb:Binds Y.K fd [pn] [])(hr:Room j Y.A)(I1:Inv Y pins σ H1 s1)(fr:ZfG Y)
 (Z:Thk1 Y.prog Y.w Y.K Y.mg Y.base k fs (Xw Y.env s1.heap++cs1) cc qual q T) (hfn:∃ fo fd,fs.lookup q=some fo/\fo.data=.func fd) (hnc:∀ b o,fs.lookup b=some o->∀ v,o.data≠.cell v) (hc1:∀ b o,cs1.lookup b=some o->∃ v,o.data=.cell v)
 (hf:Has fs H1) (h1:Has cs1 H1) (hcc:H1 cc=some (.ext (Xs cc qual)))
 (run:∀ (Hx:Hp) (Qc:VK) (Ec:XK),Same H1 Hx->(∀ v H',Has fs H'->(Hasn cs1 H'->∀ a H2,Same (cov H' cs1) H2->H2 a=some (.tup [.str "told",v])->Q (.ref a) H2)->Qc v H') ->
  (∀ C dx I J H',Has fs H'->RK C I->H' dx=some (.xd [("what",J)])->(Hasn cs1 H'->∀ a H2,Same (cov H' cs1) H2->H2 a=some (.tup [.str "refused",.str I,J])->Q (.ref a) H2)->Ec (.ref C) (some dx) H')->T (unc Hx cs1) Qc Ec) :
 Qr (Qs Y.prog Y.w) Y.A (call (.ref fa) [.ref q] []) (EP Y pins σ Q) Y.xe s1:=by
 obtain ⟨W,hsh,S,hlk⟩:=ZdZ I1
 generalize hpc:Xw Y.env s1.heap=B at Z W hsh S hlk
 have e0:=I1.env0
 have hpf:∀ b o,fs.lookup b=some o->B.lookup b=none:=fun b o e=>by
  cases z:B.lookup b with
  | none=>rfl
  | some u=>have:=W b u z;rw [hf b o e] at this;cases this
 have a1:Apt fs (B++cs1):=fun b o e=>by
  rw [Yp (hpf b o e)]
  cases z:cs1.lookup b with
  | none=>rfl
  | some u =>
   obtain ⟨v,hv⟩:=hc1 b u z
   have y1:=XR I1.hok hf b o e
   have y2:=XR I1.hok h1 b u z
   rw [y1] at y2;cases y2
   exact absurd hv (hnc b o e v)
 have a2:Apt B cs1:=fun b o e=>by
  cases z:cs1.lookup b with
  | none=>rfl
  | some u=>have:=W b o e;rw [h1 b u z] at this;cases this
 have e1:Env0 Y.prog Y.w Y.K Y.mg Y.base Y.A Y.stack s1 (cov H1 B):=by
  have no:∀ b,(Y.base.get? b≠none\/b∈Yv Y.stack)->B.lookup b=none:=fun b hb=>by
   cases z:B.lookup b with
   | none=>rfl
   | some o =>
    obtain ⟨y,hy⟩:=S b o z
    obtain ⟨f1,f2⟩:=fr y b hy
    rcases hb with hb | hb
    ·exact absurd f1 hb
    ·exact absurd hb f2
  refine ⟨e0.frames,e0.mod,fun b o e=>⟨(e0.bs b o e).1,?_⟩,e0.bsz,e0.funs,fun b hb=>?_,e0.hok.cov W hsh,e0.bare⟩
  ·rw [ZC (no b (.inl (by rw [e];simp)))];exact (e0.bs b o e).2
  ·rw [ZC (no b (.inr hb))];exact e0.frf b hb
 have hsp:UK Y.prog Y.w Y.K Y.mg Y.base k RK [.ref q] (cov H1 B) (fun v H2=>Has B H2/\Q v (unc H2 B)) (fun _ _ _=>False):=by
  refine ⟨q,fs++(B++cs1),cc,qual,tFs fs T,rfl,Z.thk a1 hfn,?_,YV W _ _ hcc,fun Hx Qc Ec sx hq he=>?_⟩
  ·exact Has.app (fun b o e=>YV W _ _ (hf b o e)) (Has.app has_cov fun b o e=>YV W _ _ (h1 b o e))
  ·have hfx:Has fs Hx:=fun b o e=>sx _ _ (YV W _ _ (hf b o e))
   unfold tFs
   rw [ZeO hfx a1,ZlC a2]
   have sy:=ZjI W sx
   have fin:∀ (w0:List V) (H':Hp),Has fs H'->(∀ z,w0≠[z])->(Hasn (fs++(B++cs1)) (unc H' fs)->∀ a H2,Same (cov (unc H' fs) (fs++(B++cs1))) H2->H2 a=some (.tup w0)->Has B H2/\(Hasn cs1 H'/\Same (cov H' cs1) (unc H2 B)/\unc H2 B a=some (.tup w0))):=fun w0 H' G _ U a H2 s3 e3=>by
    have hn2:=Hasn.of_app U a1
    rw [ZbL G a1] at s3
    have hpc2:Has B H2:=fun b o e=>s3 _ _ (Xj (XA e))
    have hnp:Hasn B H':=fun b o e=>hn2 b o (XA e)
    refine ⟨hpc2,fun b o e=>hn2 b o (by rw [Yp (a2.sym e)];exact e),fun b u e=>?_,?_⟩
    ·have zb:B.lookup b=none:=by
      cases z:B.lookup b with
      | none=>rfl
      | some o=>rw [ZC (a2 b o z),hnp b o z] at e;cases e
     rw [Zy zb]
     refine s3 _ _ ?_
     cases z:cs1.lookup b with
     | some o=>rw [Xj (show (B++cs1).lookup b=some o by rw [Yp zb];exact z)];rw [Xj z] at e;exact e
     | none=>rw [ZC (by rw [Yp zb];exact z)];rw [ZC z] at e;exact e
    ·rw [Zy (Wt hpc2 e3 fun _ z=>by cases z)];exact e3
   refine run (unc Hx B) _ _ sy (fun v H' G f=>⟨G,hq v (unc H' fs) fun U a H2 s3 e3=>?_⟩) (fun C dx I J H' G rk ed f=>⟨G,he C dx I J (unc H' fs) rk ?_ fun U a H2 s3 e3=>?_⟩)
   ·obtain ⟨z1,z2,z3,z4⟩:=fin _ H' G (fun z y=>by cases y) U a H2 s3 e3
    exact ⟨z1,f z2 a _ z3 z4⟩
   ·rw [Zy (Wt G ed fun _ z=>by cases z)];exact ed
   ·obtain ⟨z1,z2,z3,z4⟩:=fin _ H' G (fun z y=>by cases y) U a H2 s3 e3
    exact ⟨z1,f z2 a _ z3 z4⟩
 refine Jm (Gk (F.run Y.A Y.stack s1 (cov H1 B) ⟨[.ref q],[]⟩ [.ref q] [.ref q] _ _ hr e1 (hb s1 [.ref q] I1.kIn rfl) (.cons rfl .nil) hsp) fun r s' hq=>?_)
 cases r with
 | error e=>exact QL hq
 | ok fl =>
  cases fl with
  | ret u =>
   obtain ⟨v,H2,os,bare,un,hok,r,has2,hQ⟩:=hq
   exact ⟨v,unc H2 B,I1.call' os (un.uncov W hsh (XR hok has2)) (hok.unc has2) bare fun b z=>absurd z (by simp),r,hQ⟩
  | next=>exact QL hq
  | brk=>exact QL hq
  | cont=>exact QL hq
end
theorem Has.grow (B:Has fs H)(L:LamsAt H Pl q)(g:Grown Pl H H'):Has fs H':=fun b o e=>g b _ (fun z=>by
 obtain ⟨ts,y,_⟩:=L
 have:=B b o e
 rw [z,y] at this;cases this) (B b o e)
theorem ZjE (e:H cc=some (.ext B))(L:LamsAt H Pl q)(g:Grown Pl H H'):H' cc=some (.ext B):=g cc _ (fun z=>by
 obtain ⟨ts,y,_⟩:=L
 rw [z,y] at e;cases e) e
section
variable {X:Cx}{k j:Nat}{RK:Addr->Str->Prop}{f:Str}{pn:Str}{p0 pos:Pos}{e:Expr}{t:TA}
end
def frB (names:List (Str×GE))(y:Str):Bool:=names.any fun q=>q.1 == y&&q.2 == .free
theorem Zma (h:(y,Gc)∈B):frB B y=true:=List.any_eq_true.mpr ⟨_,h,by simp⟩
theorem Um {env:Env}:∀(B:List (Str×GE))(G:List (Str×Addr)),(∀ y∈B,y.2=.free->∃ c,env.cells.lookup y.1=some c) ->
 ∃ cl:List (Str×Addr),(forIn B G fun (x:Str×GE) (r:List (Str×Addr))=>(if x.2 == Gc then (do let a <- cellOf env x.1;pure (GB ((x.1,a)::r))) else pure (GB r):Sem (ForInStep (List (Str×Addr)))))=pure cl /\
  (∀ y c,cl.lookup y=some c->G.lookup y=some c\/(env.cells.lookup y=some c/\(y,Gc)∈B))/\(∀ y,G.lookup y≠none->cl.lookup y≠none)/\∀ y∈B,y.2=.free->cl.lookup y.1≠none
 | [],G,_=>⟨G,rfl,fun _ _ h=>.inl h,fun _ h=>h,fun _ h=>(nomatch h)⟩
 | (n, k)::r,G,h=>by
  by_cases Z:k=.free
  ·subst Z
   obtain ⟨c,hc⟩:=h (n,.free) mem_cons_self rfl
   obtain ⟨cl,e,W,S,g3⟩:=Um r ((n,c)::G) fun y hy=>h y (mem_cons_of_mem _ hy)
   refine ⟨cl,?_,?_,?_,?_⟩
   ·rw [Po]
    have I:cellOf env n=pure c:=by unfold cellOf;rw [hc]
    simp only [beq_self_eq_true,if_true,I,Tz]
    exact e
   ·intro y d q
    rcases W y d q with q | q
    ·cases hx:y == n with
     | true =>
      have J:y=n:=by simpa using hx
      subst J
      simp only [lookup_cons,beq_self_eq_true] at q
      cases q
      exact .inr ⟨hc,mem_cons_self ..⟩
     | false=>simp only [lookup_cons,hx] at q;exact .inl q
    ·exact .inr ⟨q.1,mem_cons_of_mem _ q.2⟩
   ·intro y q
    apply S
    cases hx:y == n with
    | true=>simp [lookup_cons,hx]
    | false=>simpa [lookup_cons,hx] using q
   ·intro y hy U
    rcases mem_cons.mp hy with J | hy
    ·subst J
     apply S
     simp [lookup_cons]
    ·exact g3 y hy U
  ·obtain ⟨cl,e,W,S,g3⟩:=Um r G fun y hy=>h y (mem_cons_of_mem _ hy)
   refine ⟨cl,?_,fun y c q=>(W y c q).imp (fun z=>z) fun z=>⟨z.1,mem_cons_of_mem _ z.2⟩,S,?_⟩
   ·rw [Po]
    have hb:(k == Gc)=false:=by simpa using Z
    simp only [hb,Gf,if_false,Tz]
    exact e
   ·intro y hy U
    rcases mem_cons.mp hy with J | hy
    ·subst J;exact absurd U Z
    ·exact g3 y hy U
theorem ZeA {scope:Scope}(h:∀ y∈scope.names,y.2=.free->∃ c,env.cells.lookup y.1=some c):
 ∃ cl,Sf scope env=pure cl/\(∀ y c,cl.lookup y=some c->env.cells.lookup y=some c)/\(∀ y∈scope.names,y.2=.free->cl.lookup y.1≠none)/\∀ y c,cl.lookup y=some c->frB scope.names y=true:=by
 obtain ⟨cl,e,B,_,G⟩:=Um (env:=env) scope.names [] h
 refine ⟨cl,?_,fun y c q=>(B y c q).elim (fun z=>by cases z) fun z=>z.1,G,fun y c q=>(B y c q).elim (fun z=>by cases z) fun z=>Zma z.2⟩
 simp only [Sf]
 rw [<- bind_pure (pure cl:Sem _),<- e]
def Wn (env:Env)(names:List (Str×GE))(h:Heap):Pn:=env.cells.filterMap fun p=>if frB names p.1 then none else (env.cells.lookup p.1).bind fun c=>(h.get? c).map fun o=>(c,o)
structure ZfF (X:Cx)(scope:Scope)(σ:St)(cs1:Pn):Prop where
 len:σ.length=X.N.length
 inj:∀ x y c,X.env.cells.lookup x=some c->X.env.cells.lookup y=some c->x=y
 fr:ZfG X
 cell:∀ b o,cs1.lookup b=some o->∃ v,o.data=.cell v
 own:∀ b o,cs1.lookup b=some o->∃ y,X.env.cells.lookup y=some b/\frB scope.names y=false
 lk:∀ x c,X.env.cells.lookup x=some c->frB scope.names x=true\/∃ o v,cs1.lookup c=some o/\o.data=.cell v/\∀ (i:Nat) (v':V),X.N[i]?=some x->σ[i]?=some (some v')->X.env.kindOf x=some .cell->∃ u,v=some u/\RelV v' u
structure ZfE (X:Cx)(scope:Scope)(cl:List (Str×Addr)):Prop where
 c1:∀ y c,cl.lookup y=some c->X.env.cells.lookup y=some c
 c2:∀ y∈scope.names,y.2=.free->cl.lookup y.1≠none
 fr:ZfG X
theorem XY (m:p∈Wn env B h):h.get? p.1=some p.2/\∃ y,env.cells.lookup y=some p.1/\frB B y=false:=by
 obtain ⟨z,J,e⟩:=mem_filterMap.mp m
 split at e
 ·cases e
 ·rename_i hb
  obtain ⟨c,e1,I⟩:=TU.mp e
  obtain ⟨o,G,rfl⟩:=Go.mp I
  exact ⟨G,z.1,e1,by simpa using hb⟩
theorem ZdD (e:env.cells.lookup x=some c)(hb:frB B x=false)(G:h.get? c=some o):(c,o)∈Wn env B h :=
 mem_filterMap.mpr ⟨(x,c),L2.mem_of_lookup e,by rw [if_neg (by rw [hb];decide)];show (env.cells.lookup x).bind _=_;rw [e];show (h.get? c).map _=_;rw [G];rfl⟩
theorem Zkt {scope:Scope}(I:Inv X pins σ H s)(hf:∀ x,X.fn x=true):ZfF X scope σ (Wn X.env scope.names s.heap)/\Hasn (Wn X.env scope.names s.heap) H/\Xc (Wn X.env scope.names s.heap) s.heap:=by
 have B:∀ p∈Wn X.env scope.names s.heap,s.heap.get? p.1=some p.2:=fun p hp=>(XY hp).1
 refine ⟨⟨I.len,I.ok.inj,ZkA I hf,fun b o e=>?_,fun b o e=>(XY (WG e)).2,fun x c e=>?_⟩,fun b o e=>?_,fun b o e=>B _ (WG e)⟩
 ·obtain ⟨e1,y,e2,_⟩:=XY (WG e)
  obtain ⟨v,o',G,J⟩:=I.cell y b e2
  have e1:s.heap.get? b=some o:=e1
  rw [e1] at G;cases G
  exact ⟨v,J⟩
 ·cases hb:frB scope.names x with
  | true=>exact .inl rfl
  | false =>
   obtain ⟨v,o,G,J⟩:=I.cell x c e
   refine .inr ⟨o,v,ZbS B (ZdD e hb G),J,fun i v' h1 h2 U=>?_⟩
   obtain ⟨m,hn,hl⟩:=I.loc
   obtain ⟨u,Z,lu⟩:=hl i x v' h1 h2 (.inr (.inl U))
   rcases lu with ⟨z,_⟩ | ⟨_,c',z,o',S,W⟩
   ·rw [U] at z;cases z
   ·rw [e] at z;cases z
    rw [G] at S;cases S
    rw [J] at W;cases W
    exact ⟨u,rfl,Z⟩
 ·obtain ⟨_,y,hy,_⟩:=XY (WG e)
  exact I.freeC y b hy
theorem Un.uncovX (u:Un fs ex (L2.cov H cs) H2 h h')(n:Hasn cs H)(k:Xc cs h)(I:Xc cs h'):Un fs ex H (unc H2 cs) h h':=by
 refine ⟨fun b B q m hb G=>?_,fun b B q m hb G=>?_,fun b B q m G=>?_,fun b B q G=>u.there b B q G,fun b xs q=>?_,fun b B xs q=>?_,fun b ps q=>?_⟩
 ·cases e:cs.lookup b with
  | some o=>have:=k b o e;rw [q] at this;cases this;exact I b _ e
  | none=>exact u.keep b B q (by rw [ZC e];exact m) hb G
 ·cases e:cs.lookup b with
  | some o=>have:=k b o e;rw [q] at this;cases this;exact ⟨_,I b _ e⟩
  | none=>exact u.slot b B q (by rw [ZC e];exact m) hb G
 ·cases e:cs.lookup b with
  | some o=>exact Yh e
  | none=>rw [Zy e];exact u.free b B q (by rw [ZC e];exact m) G
 ·have z:=WF n q
  rw [Zy z];exact u.tups b xs (by rw [ZC z];exact q)
 ·have z:=WF n q
  rw [Zy z];exact u.frzs b B xs (by rw [ZC z];exact q)
 ·have z:=WF n q
  obtain ⟨m,e⟩:=u.tbls b ps (by rw [ZC z];exact q)
  exact ⟨m,by rw [Zy z];exact e⟩
section
variable {X:Cx}{elt iter tg:Expr}{cs:List Expr}{xs:List Str}{pos:Pos}{scope:Scope}{wi:TI}{te:TE}{tc:TT}{g:TG}{OK:St->St->Prop}
theorem ZeB {I:Pn}{pins:List (Addr×Obj)}{σ:St}{H2:Hp}{G:Qe}{J:It}{fp:List Addr}{it:Addr}{tn:Nat->Heap->Prop}{cl:List (Str×Addr)}{E:Qb->Qe->Prop}{Q:VK}{RR:Qb->Addr->Sb->Qe->Prop}
 (O:CompOkN X scope xs) (hc:X.calm=true) (cl1:∀ y c,cl.lookup y=some c->X.env.cells.lookup y=some c) (cl2:∀ y∈scope.names,y.2=.free->cl.lookup y.1≠none)
 (hOK:∀ σ σ',OK σ σ'->∃ ws:St,ws.length=xs.length/\σ'=σ++ws) (hg:∀ cl C s₀ H₀ fp,PG (ZL X scope xs cl C s₀ H₀ fp) tg g) (hcn:∀ cl C s₀ H₀ fp,PCs (ZL X scope xs cl C s₀ H₀ fp) cs tc) (he:∀ cl C s₀ H₀ fp,ZfE X scope cl->PE (ZL X scope xs cl C s₀ H₀ fp) elt te)
 (cl3:∀ y c,cl.lookup y=some c->frB scope.names y=true) (Z:ZfF X scope σ I) (zn:Hasn I H2) (zh:Xc I G.heap) (I2:Inv X pins σ H2 G) (T:Zax X.prog X.w X.K tg J fp it tn) (st:tn 0 G.heap) (f2:∀ b∈fp,Xk X pins H2 b)
 (h:∀ D,H2 D=none->I.lookup D=none->VQ J g tc te xs.length OK σ D (fun v H'=>Has I H'/\Q v (unc H' I)) (cov H2 I))
 (hRR:∀ D C H' s',Inv X pins σ H' s'->Xk X pins H' C->(∃ m,s'.heap.Ns C m)->Q (.ref D) H'->RR (.ref D) C (.ok .next) s') :
 Qr (Qs X.prog X.w) X.A (newList []) (fun acc B=>Qr (Qs X.prog X.w) X.A (newFunctionEnv scope X.env.globals cl [] X.env.qual none .none (some X.env)) (fun cenv U =>
  Ja (Qs X.prog X.w) X.A (.compStart (.ListComp elt [⟨tg,iter,cs,0⟩] scope pos) 0 (.ref it) acc { cenv with scope:=Re scope X.env }) (RR acc cenv.locals) U) E B) E G:=by
 have hD:H2 G.heap.objs.size=none:=I2.hok.fresh (Qh _)
 refine JJ ?_
 have S:Inv X pins σ (upd H2 G.heap.objs.size (.lst [])) { G with heap:=G.heap.push { cls:=.type "list",data:=.seq ([]:List Qb).toArray } } :=
  I2.laid (t':=G.toks) (fun b u e=>Qd _ e) (Qh _) ⟨QH _,[],_,.nil,Qo _ rfl⟩
 have f3:∀ b∈fp,Xk X pins (upd H2 G.heap.objs.size (.lst [])) b:=fun b hb=>by
  obtain ⟨g0,g1⟩:=f2 b hb
  obtain ⟨o,e,_⟩:=T.obj 0 _ st b hb
  exact ⟨by rw [Zh (Qu (Qg e))];exact g0,g1⟩
 have st3:tn 0 (G.heap.push { cls:=.type "list",data:=.seq ([]:List Qb).toArray }):=T.keep _ _ _ st fun b hb o e=>Qd _ e
 have hDc:I.lookup G.heap.objs.size=none:=by
  cases z:I.lookup G.heap.objs.size with
  | none=>rfl
  | some o=>exact absurd (Qg (zh _ _ z)) (Gg _)
 obtain ⟨W,⟨m0,w0⟩,turn⟩:=h _ hD hDc
 generalize hDe:G.heap.objs.size=D at S f3 w0 turn hDc ⊢
 rw [show upd (cov H2 I) D (.lst [])=cov (upd H2 D (.lst [])) I from funext fun b=>by
  by_cases z:b=D
  ·subst z;rw [Ze,ZC hDc,Ze]
  ·rw [Zh z]
   cases y:I.lookup b with
   | none=>rw [ZC y,ZC y,Zh z]
   | some o=>rw [Xj y,Xj y]] at w0
 generalize hH3:upd H2 D (.lst [])=H3 at S f3 w0 turn ⊢
 generalize hs3:({ G with heap:=G.heap.push { cls:=.type "list",data:=.seq ([]:List Qb).toArray } }:Qe)=B at S
 have zh3:Xc I B.heap:=fun b o e=>by rw [<- hs3];exact Qd _ (zh b o e)
 have zn3:Hasn I H3:=fun b o e=>by
  rw [<- hH3,Zh (fun z=>by rw [z,hDc] at e;cases e)];exact zn b o e
 have noB:∀ b o,X.base.get? b=some o->I.lookup b=none:=fun b o e=>by
  cases z:I.lookup b with
  | none=>rfl
  | some u=>obtain ⟨y,hy,_⟩:=Z.own b u z;rw [(Z.fr y b hy).1] at e;cases e
 have noF:∀ b,b∈Yv X.stack->I.lookup b=none:=fun b e=>by
  cases z:I.lookup b with
  | none=>rfl
  | some u=>obtain ⟨y,hy,_⟩:=Z.own b u z;exact absurd e (Z.fr y b hy).2
 have noP:∀ b,b∈fp->I.lookup b=none:=fun b hb=>by
  cases z:I.lookup b with
  | none=>rfl
  | some u=>obtain ⟨y,hy,_⟩:=Z.own b u z;exact absurd rfl ((f3 b hb).2.2.2.2.1 y b hy)
 have noN:∀ b,B.heap.objs.size<=b->I.lookup b=none:=fun b hb=>by
  cases z:I.lookup b with
  | none=>rfl
  | some u=>exact absurd (Qg (zh3 b u z)) (QV.mpr hb)
 have st3':tn 0 B.heap:=by rw [<- hs3];exact st3
 have hobj:∀ b∈fp,b < B.heap.objs.size:=fun b hb=>by
  obtain ⟨o,e,_⟩:=T.obj 0 _ st3' b hb
  exact Qg e
 refine Pf O.cell (by intro y hy;simp at hy) (fun h₁ hns₁ hsb₁=>?_) O.kind
 have old:∀ b o,B.heap.get? b=some o->h₁.get? b=some o:=fun b o e=>hsb₁.extBut b o (Qu (Qg e)) (Qd _ e)
 generalize hs4:({ B with heap:=h₁,toks:=B.toks+([]:List (Str×Qb)).length }:Qe)=U
 have h4:U.heap=h₁:=by rw [<- hs4]
 have hX:∀ C,Xk X pins C B.heap.objs.size->True:=fun _ _=>trivial
 have ok':(ZL X scope xs cl B.heap.objs.size B (cov H3 I) fp).Ok:=by
  refine ⟨S.ok.mod,O.kind,S.ok.glob,S.ok.blt,Qh _,?_,?_,?_,S.ok.hd,S.ok.frames,.inl rfl,?_,fun b o e=>⟨(S.bs b o e).1,by show cov H3 I b=none;rw [ZC (noB b o e)];exact (S.bs b o e).2⟩,Qq S.ok.bsz S.sz,?_,?_,S.stack,fun b e=>by show cov H3 I b=none;rw [ZC (noF b e)];exact S.stkFree b e⟩
  ·exact fun y z c e1 e2=>S.ok.inj y z c (cl1 y c e1) (cl1 z c e2)
  ·intro y hk
   have hf:scope.names.lookup y=some .free:=by
    rcases hk with hk | hk
    ·rcases ZO O.cell hk with q | q
     ·exact absurd rfl (O.cell _ (mem_of_lookup q))
     ·exact q.1
    ·rcases ZO O.cell hk with q | q
     ·exact q
     ·cases q.2
   have:=cl2 _ (mem_of_lookup hf) rfl
   cases e:cl.lookup y with
   | none=>exact absurd e this
   | some c=>exact ⟨c,e⟩
  ·intro y c hf;cases hf
  ·intro b hb
   obtain ⟨g0,g1,g2,g3,g4,g5⟩:=f3 b hb
   exact ⟨Qu (hobj b hb),fun y c e=>g4 y c (cl1 y c e)⟩
  ·intro b o e hb
   obtain ⟨g0,g1,g2,g3,g4,g5⟩:=f3 b hb
   rcases g3 with g3 | g3
   ·exact S.ok.noex b o e g3
   ·exact absurd (Qg e) (QV.mpr (Qq S.ok.bsz g3))
  ·intro b hb hs
   obtain ⟨g0,g1,g2,g3,g4,g5⟩:=f3 b hb
   rcases mem_cons.mp (S.stkSub b hs) with e | e
   ·exact g1 e
   ·exact g2 e
 have I4 : Inv (ZL X scope xs cl B.heap.objs.size B (cov H3 I) fp) [] (σ++QY xs.length none) (cov H3 I) U:=by
  obtain ⟨m,hm,hl⟩:=S.loc
  refine ⟨ok',by rw [<- hs4];rfl,by rw [<- hs4];exact S.bare,by rw [h4];exact Un.kept old,⟨_,by rw [h4];exact hns₁,?_⟩,?_,by show cov H3 I B.heap.objs.size=none;rw [ZC (noN _ (Qh _))];exact S.hok.fresh (Qh _),fun y c e=>?_,?_,by rw [h4];exact (S.hok.cov zn3 zh3).kept old,?_⟩
  ·intro i y v e1 e2 e3
   have hlt:i < σ.length:=by
    rcases Oh i σ.length with z | z
    ·exact z
    ·rw [getElem?_append_right z] at e2
     have:=To (mem_of_getElem? e2)
     cases this
   rw [getElem?_append_left hlt] at e2
   have hsm:∃ k,scope.names.lookup y=some k:=by
    rcases e3 with hk | hk | hk
    ·rcases ZO O.cell hk with q | q
     ·exact ⟨_,q⟩
     ·exact ⟨_,q.1⟩
    ·rcases ZO O.cell hk with q | q
     ·exact ⟨_,q⟩
     ·exact ⟨_,q.1⟩
    ·rcases ZO O.cell hk with q | q
     ·exact ⟨_,q⟩
     ·exact ⟨_,q.1⟩
   obtain ⟨e1',hyx⟩:X.N[i]?=some y/\y ∉ xs:=by
    have e1:(Wp X.N xs++xs)[i]?=some y:=e1
    rw [getElem?_append_left (by rw [Wq,<- S.len];exact hlt)] at e1
    rcases ZdL e1 with z | z
    ·exact z
    ·obtain ⟨k,hk⟩:=hsm
     rcases z with z | z
     ·rw [z,O.noh.1] at hk;cases hk
     ·rw [z,O.noh.2] at hk;cases hk
   have hy:y∈X.N:=mem_of_getElem? e1'
   have hf:scope.names.lookup y=some .free:=by
    rcases e3 with hk | hk | hk
    ·rcases ZO O.cell hk with q | q
     ·exact absurd q (O.own y hy hyx)
     ·exact q.1
    ·rcases ZO O.cell hk with q | q
     ·exact absurd rfl (O.cell _ (mem_of_lookup q))
     ·exact q.1
    ·rcases ZO O.cell hk with q | q
     ·exact q
     ·exact q.1
   have hk:=O.clos _ (mem_of_lookup hf) rfl
   have hv:Vis X.env.scope y:=by rcases hk with z | z;exact .inr (.inl z);exact .inr (.inr z)
   obtain ⟨u,ru,lu⟩:=hl i y v e1' e2 hv
   refine ⟨u,ru,?_⟩
   have hkc:(TD scope cl B.heap.objs.size X.env).kindOf y=some .cell\/(TD scope cl B.heap.objs.size X.env).kindOf y=some .free:=by
    rcases e3 with q | q | q
    ·rcases ZO O.cell q with z | z
     ·exact absurd z (O.own y hy hyx)
     ·cases z.2
    ·exact .inl q
    ·exact .inr q
   rcases lu with ⟨q,_⟩ | ⟨_,c,hcl,hcc⟩
   ·rcases hk with z | z<;>(rw [q] at z;cases z)
   ·refine .inr ⟨hkc,?_⟩
    cases e:cl.lookup y with
    | none=>exact absurd e (cl2 _ (mem_of_lookup hf) rfl)
    | some c' =>
     have:=cl1 y c' e
     rw [hcl] at this
     cases this
     refine ⟨c,e,?_⟩
     rw [h4]
     obtain ⟨oc,ho,hd⟩:=hcc
     exact ⟨oc,old _ _ ho,hd⟩
  ·intro y c e
   obtain ⟨v,oc,ho,hd⟩:=S.cell y c (cl1 y c e)
   exact ⟨v,oc,by rw [h4];exact old _ _ ho,hd⟩
  ·cases z:I.lookup c with
   | none=>rw [ZC z];exact S.freeC y c (cl1 y c e)
   | some u =>
    obtain ⟨y',hy,hf⟩:=Z.own c u z
    have:=Z.inj y' y c hy (cl1 y c e)
    subst this
    rw [cl3 y' c e] at hf;cases hf
  ·intro p hp;cases hp
  ·show (σ++QY xs.length none).length=(Wp X.N xs++xs).length
   rw [length_append,length_append,Wq,S.len,length_replicate]
 have st4:tn 0 U.heap:=by rw [h4];exact T.keep _ _ _ st3' fun b hb o e=>old b o e
 have fpok:∀ {H':Hp},(∀ b∈fp,H' b=none)->∀ b∈fp,Xk (ZL X scope xs cl B.heap.objs.size B (cov H3 I) fp) [] H' b:=fun hn b hb=>by
  obtain ⟨g0,g1,g2,g3,g4,g5⟩:=f3 b hb
  refine ⟨hn b hb,Qu (hobj b hb),ok'.exfs b hb,.inl hb,fun y c e=>g4 y c (cl1 y c e),?_⟩
  intro p hp;cases hp
 have loop:Ja (Qs X.prog X.w) X.A (.compLoop (.ListComp elt [⟨tg,iter,cs,0⟩] scope pos) 0 (.ref it) (.ref D) (TD scope cl B.heap.objs.size X.env)) (RR (.ref D) B.heap.objs.size) U:=by
  refine XZ (fun n s'=>∃ i ys ws H',ws.length=xs.length/\Inv (ZL X scope xs cl B.heap.objs.size B (cov H3 I) fp) [] (σ++ws) H' s'/\tn i s'.heap/\(∀ b∈fp,H' b=none)/\W i n ys H') ?_ m0 ⟨0,[],_,cov H3 I,length_replicate,I4,st4,fun b hb=>by rw [ZC (noP b hb)];exact (f3 b hb).1,w0⟩
  rintro n s5 ⟨i,ys,ws,H5,hws,I5,st5,fr5,w5⟩
  rcases turn i n ys H5 w5 with ⟨stop,q⟩ | ⟨go,N,M,hN,hM,step⟩
  ·refine Zs (T.done (ZL X scope xs cl B.heap.objs.size B (cov H3 I) fp) rfl rfl rfl hc i [] s5 _ H5 _ I5 (fpok fr5) st5 stop) fun r s6 ⟨hr,I6⟩=>?_
   subst hr
   obtain ⟨m6,hn6,_⟩:=I6.loc
   have IX:Inv X pins σ (unc H5 I) s6:=S.call' (ch:=fp) I6.os (I6.base.uncovX zn3 zh3 (XR I6.hok q.1)) (I6.hok.unc q.1) I6.bare fun b hb=>by
    obtain ⟨g0,g1,g2,g3,g4,g5⟩:=f3 b hb
    exact ⟨g3,g1,g4,g5⟩
   exact hRR D _ (unc H5 I) s6 IX (S.fpOk (Qh _) (by
    cases z:I.lookup B.heap.objs.size with
    | none=>rw [Zy z];exact I6.free
    | some u=>exact Yh z)) ⟨m6,hn6⟩ q.2
  ·refine Zs (T.item (ZL X scope xs cl B.heap.objs.size B (cov H3 I) fp) rfl rfl rfl hc i [] s5 _ H5 _ I5 (fpok fr5) st5 go) fun r s6 zz=>?_
   obtain ⟨u,hr,h6⟩:=zz
   subst hr
   refine Zs h6 fun _ s7 zz=>?_
   obtain ⟨v,H7,I7,r7,y7,st7,fr7⟩:=zz
   have I7':=I7.pinned (fpok fr7) (T.obj _ _ st7)
   refine Zs (hg cl B.heap.objs.size B (cov H3 I) fp _ s7 _ H7 v u _ I7' r7 (step ws v H7 hws y7)) fun _ s8 zz=>?_
   obtain ⟨σ8,H8,I8,o8,q8⟩:=zz
   obtain ⟨ws',hws',e8⟩:=hOK σ σ8 o8
   subst e8
   refine Zs (PCs.go (hcn cl B.heap.objs.size B (cov H3 I) fp) _ s8 _ H8 _ I8 q8) fun bb s8b zz=>?_
   obtain ⟨H8b,I8b,q8b⟩:=zz
   cases bb with
   | false =>
    obtain ⟨m',hm',w9⟩:=hM H8b q8b
    refine ⟨m',hm',i+1,ys,ws',_,hws',I8b.unpinned (pins:=[]),T.keep _ _ _ st7 fun b hb o e=>(I8b.pin (b,o) (mem_append_right _ (mem_append_right _ (Yt hb e)))).1,fun b hb=>?_,w9⟩
    obtain ⟨o,e,d⟩:=T.obj _ _ st7 b hb
    exact (I8b.pin (b,o) (mem_append_right _ (mem_append_right _ (Yt hb e)))).2.1
   | true =>
    refine Zs (he cl B.heap.objs.size B (cov H3 I) fp ⟨cl1,cl2,Z.fr⟩ _ s8b _ H8b _ I8b q8b) fun uy s9 zz=>?_
    obtain ⟨y,H9,I9,r9,n9⟩:=zz
    obtain ⟨hl9,hz9,m',hm',w9⟩:=hN y H9 n9
    refine Zs (ZZ (X:=ZL X scope xs cl B.heap.objs.size B (cov H3 I) fp) _ s9 _ H9 (.ref D) [y] (.ref D) [uy] (fun v H'=>H'=upd H9 D (.lst (ys++[y]))) I9 rfl (.cons r9 .nil) ⟨D,ys,y,rfl,rfl,hl9,hz9,rfl⟩) fun _ s10 zz=>?_
    obtain ⟨_,H10,I10,_,e10⟩:=zz
    subst e10
    refine ⟨m',hm',i+1,ys++[y],ws',_,hws',I10.unpinned (pins:=[]),T.keep _ _ _ st7 fun b hb o e=>(I10.pin (b,o) (mem_append_right _ (mem_append_right _ (Yt hb e)))).1,fun b hb=>?_,w9⟩
    obtain ⟨o,e,d⟩:=T.obj _ _ st7 b hb
    exact (I10.pin (b,o) (mem_append_right _ (mem_append_right _ (Yt hb e)))).2.1
 exact Sg loop (T.self _ 0 _ _ _ st4 loop)
def Znc (KI:St->Pn->Prop)(wi:TI)(te:TE):TE:=fun σ H Q=>wi σ H fun J H1=>∀ c1,KI σ c1->Hasn c1 H1->∀ D,H1 D=none->c1.lookup D=none->CompW J te σ D (fun v H'=>Has c1 H'/\Q v (unc H' c1)) (cov H1 c1)
end
section
variable {X:Cx}{elt iter:Expr}{x:Str}{px pos:Pos}{scope:Scope}{wi:TI}{te:TE}
theorem Zjn (O:CompOk X scope x)(hc:X.calm=true)(S:∀ y,X.fn y=true)(hi:PI X (.Name x px) iter wi)(he:∀ cl C s₀ H₀ fp,ZfE X scope cl->PE (YK X scope x cl C s₀ H₀ fp) elt te)
 (hs:∀ v,GN iter X.env v=pure v:=by intro _;rfl):PE X (.ListComp elt [⟨.Name x px,iter,[],0⟩] scope pos) (Znc (ZfF X scope) wi te):=by
 intro pins s σ H Q I h
 obtain ⟨cl,hcl,G,W,cl3⟩:=ZeA (scope:=scope) (env:=X.env) fun y hy hf=>I.ok.has _ (O.clos y hy hf)
 rw [eval_ListComp]
 refine Ju (use:=none) rfl hs hcl O.kind O.names (Zs (hi pins s σ H _ I h) fun v s1 h1=>Zs h1 fun itv s2 h2=>?_)
 obtain ⟨it,fp,tn,J,H2,e,I2,T,B,f2,q⟩:=h2
 subst e
 obtain ⟨Z,zn,zh⟩:=Zkt (scope:=scope) I2 S
 refine ZeB (RR:=fun U C=>compPost (Qs X.prog X.w) X.A X.xe none (EP X pins σ Q) U C) O hc G W ok1 (ZdW O) (fun _ _ _ _ _=>.inl ⟨rfl,rfl⟩) he cl3 Z zn zh I2 T B f2 (fun z hz hzc=>(q _ Z zn z hz hzc).n I2.len) ?_
 intro D C H' s' I' ⟨g0,g1,g2,g3,g4,g5⟩ ⟨m,hm⟩ hq
 exact ⟨m,hm,fun h' hs'=>⟨.ref D,H',I'.turned (t':=s'.toks) (fun b o hb e=>(hs'.2 b hb).trans e) g0 g1 g3 g4 g5,rfl,hq⟩⟩
end
section
variable {cs:Pn}{H H':Hp}{D:Addr}{o:HO}
theorem WJ:Same (unc H cs) H:=fun b u e=>by
 cases z:cs.lookup b with
 | some o=>rw [Yh z] at e;cases e
 | none=>rw [Zy z] at e;exact e
theorem ZlD (a:Hasn cs H):unc (cov H cs) cs=H:=funext fun b=>by
 cases z:cs.lookup b with
 | some o=>rw [Yh z,a b o z]
 | none=>rw [Zy z,ZC z]
theorem VI (n:cs.lookup D=none)(B:H D=none)(s:Same H (unc H' cs)):Same H (unc (upd H' D o) cs):=fun b u e=>by
 have z:=s b u e
 cases y:cs.lookup b with
 | some p=>rw [Yh y] at z;cases z
 | none =>
  rw [Zy y] at z ⊢
  rw [Zh (Zq e B)];exact z
theorem Has.upd (h:Has cs H)(n:cs.lookup D=none):Has cs (upd H D o):=fun b u e=>by
 rw [Zh (fun z=>by rw [z,n] at e;cases e)];exact h b u e
end
inductive ZaL (KP:Pn->Addr->Addr->List V->((St->XK)->TE)->Prop)(KI:St->Pn->Prop)(RK:Addr->Str->Prop)(qual:Str)(n:Nat)(σ:St)(vs:List V)(H:Hp)(Q:VK):Prop
 | mk (q:Addr) (fs c1:Pn) (cc:Addr) (ds:List V) (te:(St->XK)->TE):vs=[.ref q]->KP fs cc q ds te->KI (σ.take n) c1->Has fs H->Has c1 H->H cc=some (.ext (Xs cc qual)) ->
  (∀ (H1:Hp) (Qc:VK) (Ec:XK),Same H H1->(∀ v H',Has fs H'->(Hasn c1 H'->∀ a H2,Same (cov H' c1) H2->H2 a=some (.tup [.str "told",v])->Q (.ref a) H2)->Qc v H') ->
   (∀ C dx word what H',Has fs H'->RK C word->H' dx=some (.xd [("what",what)])->(Hasn c1 H'->∀ a H2,Same (cov H' c1) H2->H2 a=some (.tup [.str "refused",.str word,what])->Q (.ref a) H2)->Ec (.ref C) (some dx) H')->te (fun _=>Ec) (σ.take n++ds.map some) (unc H1 c1) Qc)->ZaL KP KI RK qual n σ vs H Q
def Znj (KP:Pn->Addr->Addr->List V->((St->XK)->TE)->Prop)(KI:St->Pn->Prop)(RK:Addr->Str->Prop)(qual:Str)(n:Nat)(t:TA):TE:=fun σ H Q=>t σ H fun vs H1=>ZaL KP KI RK qual n σ vs H1 Q
theorem XL {n:Nat}(Z:List V)(kp:KP fs cc q ds te)(ki:KI (σ.take n) I)(hf:Has fs (unc H I))(h1:Has I H)(W:unc H I cc=some (.ext (Xs cc qual)))(run:∀ (H1:Hp) (S:VK) (U:XK),Same (unc H I) H1->(∀ v H',Same H1 H'->Z=[.str "told",v]->S v H')->(∀ C dx B G H',Same H1 H'->RK C B->H' dx=some (.xd [("what",G)])->Z=[.str "refused",.str B,G]->U (.ref C) (some dx) H')->te (fun _=>U) (σ.take n++ds.map some) H1 S)(J:∀ (a:Addr) (H2:Hp),Same H H2->H2 a=some (.tup Z)->Q (.ref a) H2):ZaL KP KI RK qual n σ [.ref q] H Q:=by
 have up:∀ {H1 H' H2:Hp},Same H H1->Same (unc H1 I) H'->Same (cov H' I) H2->Same H H2:=fun {H1 H' H2} s s' s2 b u e=>by
  cases z:I.lookup b with
  | some o =>
   have:=h1 b o z
   rw [e] at this;cases this
   exact s2 _ _ (Xj z)
  | none=>exact s2 _ _ (by rw [ZC z];exact s' _ _ (by rw [Zy z];exact s _ _ e))
 exact ⟨q,fs,I,cc,ds,te,rfl,kp,ki,hf.same WJ,h1,WJ _ _ W,fun H1 S U s hq he=>run (unc H1 I) S U (Vj s)
  (fun v H' s' e=>hq v H' (hf.same ((Vj s).trans s')) fun _ a H2 s2 ea=>J a H2 (up s s' s2) (by rw [e];exact ea))
  fun C dx B G H' s' rk ed e=>he C dx B G H' (hf.same ((Vj s).trans s')) rk ed fun _ a H2 s2 ea=>J a H2 (up s s' s2) (by rw [e];exact ea)⟩
theorem ZfQ {K:Qa}{a:Addr}{xs:List V}{te:TE}{σ:St}{D:Addr}{Q:VK}{H:Hp}{B:Pn}(hn:xs.length<=Qj)(W:Hasn B H)(S:H D=none)(G:B.lookup D=none)(ha:H a=some (.lst xs))
 (hs:∀ (i:Nat) (x:V) (H':Hp) (Q:VK),xs[i]?=some x->Same H (unc H' B)->Has B H'->(∀ J,Same H' J->Q (.bl true) J)->te (σ++[some x]) H' Q)
 (Z:∀ H',Same H H'->H' D=some (.lst (QY xs.length (.bl true)))->Q (.ref D) H'):CompW (Itl K a) te σ D (fun v H'=>Has B H'/\Q v (unc H' B)) (cov H B):=by
 have s0:Same H (unc (cov H B) B):=by rw [ZlD W];exact fun _ _ e=>e
 refine ZgY (xs:=xs) hn (fun i ys H'=>Has B H'/\Same H (unc H' B)/\H' D=some (.lst ys)/\ys=QY i (.bl true)) ⟨has_cov.upd G,VI G S s0,Ze,rfl⟩ ?_ ?_ ?_
 ·rintro i ys H' ⟨_,s,_,rfl⟩
  exact ⟨length_replicate,SqL.of (WJ _ _ (s _ _ ha))⟩
 ·rintro i x ys H' U ⟨h1,s,e,rfl⟩
  refine hs i x H' _ U s h1 fun J I=>⟨I _ _ e,(h1.same I).upd G,VI G S (s.trans (Vj I)),Ze,?_⟩
  rw [List.replicate_succ']
 ·rintro ys H' ⟨h1,s,e,rfl⟩
  exact ⟨h1,Z _ s (by rw [Zy G];exact e)⟩
section
variable {X:Cx}{k j:Nat}{RK:Addr->Str->Prop}{f:Str}{pn x:Str}{p0 pos:Pos}{e:Expr}{t:TA}{scope:Scope}{cl:List (Str×Addr)}{C:Addr}{s₀:Qe}{H₀:Hp}{fp:List Addr}
theorem Zju (O:CompOk X scope x)(B:ZfE X scope cl)(D:Def X.prog X.w X.K X.mg X.base j f [pn] (UK X.prog X.w X.K X.mg X.base (k+1) RK))(hr:Room j X.A)(ha:PA (YK X scope x cl C s₀ H₀ fp) [e] t)
 (hfr:(scope.names.all fun q=>q.2 != .free || scope.names.lookup q.1 == some .free)=true:=by decide +kernel) (hg:Gl (YK X scope x cl C s₀ H₀ fp) f:=by rfl) (hdb:(f == ("__debug__":Str))=false:=by decide)
 (he:QE [e] (YK X scope x cl C s₀ H₀ fp).env=(false,eval e (YK X scope x cl C s₀ H₀ fp).env)::QE [] (YK X scope x cl C s₀ H₀ fp).env:=by rfl) (hpl:(GU pos (QE [] (YK X scope x cl C s₀ H₀ fp).env)).any (·.1)=false:=by rfl) :
 PE (YK X scope x cl C s₀ H₀ fp) (.Call (.Name f p0) [e] [] pos) (Znj (fun fs cc q ds te=>Kept X k fs cc q ds te) (ZfF X scope) RK (Yk X) X.N.length t):=by
 obtain ⟨fa,fd,F,hb,kp,hm⟩:=D
 intro pins s σ H Q I h
 refine QX (WQ I hg hm ?_ hdb)
 refine Jb (h₀:=X.base) I.ok.mod.kin kp (Zs (ha pos pins s σ H _ I h) fun us s1 zz=>?_) he hpl
 obtain ⟨vs,H1,I1,r,q⟩:=zz
 refine ⟨I1.kIn,?_⟩
 obtain ⟨q,fs,c1,cc,ds,te,rfl,S,ki,hf,h1,hcc,run⟩:=q
 obtain ⟨u,rfl,ru⟩:=Yo r
 obtain rfl:u=Qm q:=ru
 obtain ⟨hn,hsh,hcell,hlk⟩:=ZdZ I1
 have a2:Apt (Xw (YK X scope x cl C s₀ H₀ fp).env s1.heap) c1:=fun b o e=>by
  cases z:c1.lookup b with
  | none=>rfl
  | some u=>have:=hn b o e;rw [h1 b u z] at this;cases this
 have G:∀ {y:Str} {c:Addr},frB scope.names y=true->X.env.cells.lookup y=some c->cl.lookup y=some c/\scope.names.lookup y=some .free:=fun {y c} hb U=>by
  obtain ⟨⟨y',kd⟩,hm,hy⟩:=JW.mp hb
  simp only [QM,beq_iff_eq] at hy
  obtain ⟨rfl,rfl⟩:=hy
  refine ⟨?_,?_⟩
  ·cases z:cl.lookup y' with
   | none=>exact absurd z (B.c2 _ hm rfl)
   | some c'=>rw [<- B.c1 y' c' z];exact U.symm ▸ rfl
  ·have:=all_eq_true.mp hfr _ hm
   simpa using this
 have Z:=S.run (σ:=σ.take X.N.length) (cs:=Xw (YK X scope x cl C s₀ H₀ fp).env s1.heap++c1) ki.len ki.inj (fun y c ec=>by
  rcases ki.lk y c ec with hb | ⟨o,v,J,z2,_⟩
  ·obtain ⟨U,_⟩:=G hb ec
   obtain ⟨v,o,J,z2⟩:=I1.cell y c U
   exact ⟨o,v,XA (hlk y c o U J),z2⟩
  ·exact ⟨o,v,by rw [Yp (a2.sym J)];exact J,z2⟩) (fun i y v c e1 e2 e3 e4=>by
  rcases ki.lk y c e3 with hb | ⟨o,v',J,z2,z3⟩
  ·obtain ⟨U,hs⟩:=G hb e3
   have hyx:y≠x:=fun z=>by
    rw [z,O.loc x (mem_cons_self ..)] at hs;cases hs
   have hi:i < X.N.length:=(Qi.mp e1).1
   have e2':σ[i]?=some (some v):=by rw [List.getElem?_take,if_pos hi] at e2;exact e2
   have hN:(YK X scope x cl C s₀ H₀ fp).N[i]?=some y:=by
    show (Wp X.N [x]++[x])[i]?=some y
    rw [getElem?_append_left (by rw [Wq];exact hi)]
    unfold Wp
    rw [getElem?_map,e1]
    show some (if y∈[x] then _ else y)=some y
    rw [if_neg (by simpa using hyx)]
   have hk:∃ kd,(Re scope X.env).names.lookup y=some kd/\(kd=.cell\/kd=.free):=by
    unfold Re
    rw [Uc,hs,GA]
    by_cases hcd:(Gc == Gc&&X.env.scope.kind == .function&&X.env.kindOf y == some .cell)=true
    ·exact ⟨_,if_pos hcd |> congrArg some,.inl rfl⟩
    ·exact ⟨_,if_neg hcd |> congrArg some,.inr rfl⟩
   obtain ⟨kd,W,hkk⟩:=hk
   obtain ⟨m,hn',hl⟩:=I1.loc
   obtain ⟨u,ru,lu⟩:=hl i y v hN e2' (by
    rcases hkk with rfl | rfl
    ·exact .inr (.inl W)
    ·exact .inr (.inr W))
   rcases lu with ⟨z,_⟩ | ⟨_,c',z,o,y1,y2⟩
   ·have z:(Re scope X.env).names.lookup y=some .local:=z
    rw [W] at z
    rcases hkk with rfl | rfl<;>cases z
   ·have z:cl.lookup y=some c':=z
    rw [U] at z;cases z
    exact ⟨o,u,XA (hlk y c o U y1),y2,ru⟩
  ·obtain ⟨u,rfl,ru⟩:=z3 i v e1 e2 e4
   exact ⟨o,u,by rw [Yp (a2.sym J)];exact J,z2,ru⟩)
 exact Zio (Y:=YK X scope x cl C s₀ H₀ fp) F hb hr I1 (fun y c ec=>B.fr y c (B.c1 y c ec)) Z S.fn S.nc ki.cell hf h1 hcc run
end
inductive Lk (X:Cx)(k:Nat)(qual:Str)(q:Addr)(ds:List V)(te:(St->XK)->TE)(H:Hp):Prop
 | mk (fs:Pn) (cc:Addr):Kept X k fs cc q ds te->Has fs H->H cc=some (.ext (Xs cc qual))->Lk X k qual q ds te H
section
variable {X:Cx}{k:Nat}{qual q0:Str}{q Pl l:Addr}{ds:List V}{te:(St->XK)->TE}{H H':Hp}{o o':HO}
theorem Lk.same (h:Lk X k qual q ds te H)(s:Same H H'):Lk X k qual q ds te H':=by
 obtain ⟨fs,cc,z,f,e⟩:=h
 exact ⟨fs,cc,z,f.same s,s _ _ e⟩
theorem Lk.grow (h:Lk X k qual q ds te H)(L:LamsAt H Pl q0)(g:Grown Pl H H'):Lk X k qual q ds te H':=by
 obtain ⟨fs,cc,z,f,e⟩:=h
 exact ⟨fs,cc,z,f.grow L g,ZjE e L g⟩
theorem Lk.put (h:Lk X k qual q ds te H)(G:H l=some o)(n:∀ B,o≠.ext B):Lk X k qual q ds te (upd H l o'):=by
 obtain ⟨fs,cc,z,f,e⟩:=h
 have ne:∀ b B,H b=some (.ext B)->b≠l:=fun b B y x=>by rw [x,G] at y;cases y;exact n _ rfl
 exact ⟨fs,cc,z,fun b u y=>by rw [Zh (ne b _ (f b u y))];exact f b u y,by rw [Zh (ne cc _ e)];exact e⟩
end
end L2
namespace K33
open PySem L2
theorem Uz (v:V):(!decide (v=v))=false:=by simp
abbrev qR:Str:=(("_law_refused_right":Str)++".<locals>.")++"<lambda>"
section
variable {P:Qk}{w:Qt}{K:Qa}{mg:Str->Option Qb}{base:Heap}{CH CR CS CT CRo CW CB CN CM Pq:Addr}{cs:List Addr}
abbrev rfL (K:Qa)(CH CR CS CT Pq p h dl:Addr)(s:Hs)(n:Nat)(Δ:Rs):Rs:=(p,Bx n)::(h,XE K CH CR CS CT s)::(dl,Yi (s.spots.map nI))::(Pq,LmR qR)::Δ
inductive ZjL (K:Qa)(CH CR CS CT Pq:Addr)(vs:List V)(H:Hp)(Q:VK)(w_3:XK):Prop
 | mk (p h dl:Addr) (n:Nat) (x:Str) (s:Hs) (Δ:Rs):vs=[.ref p,.ref h,.ref dl,.str x]->Sep (rfL K CH CR CS CT Pq p h dl s n Δ) H->s.spots.length<=100->s.ins=[0]->n<=400000->(∀ n' H',n'<=n+10->Sep (rfL K CH CR CS CT Pq p h dl s n' Δ) H'->Q (.bl true) H')->ZjL K CH CR CS CT Pq vs H Q w_3
abbrev nRf:List Str:=["_law_box_here","_law_hall","_law_due","_law_name","_law_world","_law_asks","_law_told_here"]
abbrev Zjx:List Str:=["_law_box_here","_law_hall","_law_due","_law_name"]
theorem scRf:Zp nRf Zjx (Zj s_l_refused_right):={}
theorem ZnN (F:FunC K "_law_refused_right" "_law_refused_right" s_l_refused_right f fd c Pq)(hBm:XX base mg)(T:Ym mg)(TH:XD K CH)(DT:DTk P w K mg base 1)(DX_copy:DefMX P w K mg base 14 CH "copy" Zab (VJ K CH CR CS CT CW))(DX_place:DefMX P w K mg base 14 CH "place" WO (UJ K CH CR CS CT CW))(DX_enter:DefMX P w K mg base 14 CH "enter" ZcZ (Zdh K CH CR CS CT CW CB))(J:DefMX P w K mg base 14 CH "open_tokens" Zdc (Zdk K CH CR CS CT CW))(DX_look_in:DefMX P w K mg base 14 CH "look_in" Zda (Zdi K CH CR CS CT CW))(DH_now:DefM P w K mg base 17 CH "now" Zdb (Zdj K CH CR CS CT))(rW:RK K CRo cs CW "world")(DTo:Def P w K mg base 17 "_law_told" ["_law_ask"] (UK P w K mg base 15 (RK K CRo cs))):FnOk P w K mg base ZI 18 f fd Zjx (ZjL K CH CR CS CT Pq):=by
 refine F.ok scRf (fun A outer s0 H vs Q E hr h=>?_)
 obtain ⟨p,h,dl,n,x,s,Δ,rfl,S,hs9,hin,hn,q⟩:=h
 have hr1:=hr.mono (show 1<=17 by decide)
 refine' ⟨?t,?h,?r⟩
 case h =>
  conv=>arg 2;whnf
  with_reducible refine' (Zfn ?h1 (Zd ?h2 (Zd ?h3 (Zd ?h4 (Zd ?h5 (Zd ?h6 (Zi ?h7)))))))
  case h1=>exact Zx (i:=4) scRf.nd rfl (SO rfl) (ZA ZG (Yb (Zc (Zv YS (Zv YS Zg Zg) (ZJ DT hr1 (Zc (pv 0) (Zc Zg Za)))) (Zc (Zr ZF rfl T.len QK (Zc (pv 2) Za)) (Zc (Zv Yx (Zv Yx (Zr ZF rfl T.len QK (Zc (pv 2) Za)) Zg) (ZJ DT hr1 (Zc (pv 0) (Zc (Zv VE Zg Zg) Za)))) Za)))) (ZJ DT hr1 (Zc (pv 0) (Zc Zg Za))) (fun _ _=>rfl))
  case h2=>exact Zx (i:=5) scRf.nd rfl (QJ rfl) (Yb (Zc (Zbn (c:=c) (Pl:=Pq) (LamOk1.of (ps:=[]) nRf s_l_refused_right rfl rfl (by decide +kernel)) rfl F.hd hBm (fun _ _ _ _ _ _ _ _ _ hrL W=>(Wd W DX_copy TH.cl hrL (pv 1) (Zc (pv 4) Za)))) (Zc (Zlc (c:=c) (Pl:=Pq) (LamOk1.of (ps:=["_law_one"]) nRf s_l_refused_right rfl rfl (by decide +kernel)) rfl F.hd hBm Zg (fun _ _ _ _ _ _ _ _ _ hrL W=>(Wd W DX_place TH.cl hrL (pv 1) (Zc (pv 4) Za)))) Za)))
  case h3=>exact ZT (YG Qx QB QC ZZ (pv 5) (Zc (Zbn (c:=c) (Pl:=Pq) (LamOk1.of (ps:=[]) nRf s_l_refused_right rfl rfl (by decide +kernel)) rfl F.hd hBm (fun _ _ _ _ _ _ _ _ _ hrL W=>(Wd W DX_enter TH.cl hrL (pv 1) (Zc (pv 4) Za)))) Za))
  case h4=>exact ZT (YG Qx QB QC ZZ (pv 5) (Zc (Zbn (c:=c) (Pl:=Pq) (LamOk1.of (ps:=[]) nRf s_l_refused_right rfl rfl (by decide +kernel)) rfl F.hd hBm (fun _ _ _ _ _ _ _ _ _ hrL W=>(Wd W J TH.cl hrL (pv 1) (Zc (pv 4) Za)))) Za))
  case h5=>exact ZT (YG Qx QB QC ZZ (pv 5) (Zc (Zbn (c:=c) (Pl:=Pq) (LamOk1.of (ps:=[]) nRf s_l_refused_right rfl rfl (by decide +kernel)) rfl F.hd hBm (fun _ _ _ _ _ _ _ _ _ hrL W=>(Wd W DX_look_in TH.cl hrL (pv 1) (Zc (pv 4) (Zc (pv 3) Za))))) Za))
  case h6=>exact Zx (i:=6) scRf.nd rfl (SO rfl) (YZ (Zc ZW (Zc ZW (Zc (pv 4) Za))))
  case h7=>exact Zu (ZhK (Zr (ZiE rfl) rfl T.all (by decide +kernel) (Zc (Zjn (CompOk.of nRf s_l_refused_right rfl rfl (by decide +kernel)) rfl (fun _=>rfl) (ZbR (pv 5)) (fun _ _ _ _ _ B=>WR YW (Zr (Xv hr.gd hr.units) rfl T.repr (by decide +kernel) (Zc (Zju (CompOk.of nRf s_l_refused_right rfl rfl (by decide +kernel)) B DTo hr (Zc (pv 7) Za)) Za)) (Zr (Xv hr.gd hr.units) rfl T.repr (by decide +kernel) (Zc (pv 6) Za)) (ZU _))) Za)) (ZhL (WR YW (Vb DH_now TH.cl hr (pv 1)) Zg (ZU _))))
 try dsimp only [ZQ,Cx.nox]
 refine zs1 ?_
 intro zD zS
 refine ⟨fun σ' H'=>∃ (i:Int) (n':Nat),σ'=[some (.ref p),some (.ref h),some (.ref dl),some (.str x),some (.int i),none,none]/\¬ Vo s i/\i.natAbs<=2000000/\n'<=n+5/\Sep (rfL K CH CR CS CT Pq p h dl s n' Δ) H',?_,?_⟩
 ·refine ⟨_,_,rfl,rfl,_,rfl,p,_,50,_,rfl,S,by omega,by decide,by decide,fun r1 H1 a0 a1 S1=>⟨_,_,rfl,rfl,_,rfl,dl,_,rfl,.inl (SqL.of (S1.get dl)),_,rfl,dl,_,rfl,.inl (SqL.of (S1.get dl)),_,_,rfl,rfl,_,rfl,_,_,rfl,rfl,⟨by decide,by decide,by decide⟩,?_⟩⟩
  refine ⟨p,_,1000000,_,rfl,S1,by omega,by decide,by decide,fun r2 H2 b0 b1 S2=>⟨_,_,rfl,rfl,(by show 3<=Qj;decide),fun l hl=>?_⟩⟩
  generalize hE:upd H2 l _=H3
  have S3:=S2.newE hl hE
  clear hE
  refine ⟨_,rfl,p,_,3,_,rfl,S3.pull p,by omega,by decide,by decide,fun r3 H4 c0 c1 I=>?_⟩
  rw [length_map] at I
  obtain ⟨v,hv,hw,h9⟩:∃ v:Int,[V.int (0 - 1 - r1),V.int (s.spots.length:Int),V.int ((s.spots.length:Int)+1+r2)][r3.toNat]?=some (V.int v)/\¬ Vo s v/\v.natAbs<=2000000:=by
   rcases (show r3=0\/r3=1\/r3=2 by omega) with rfl | rfl | rfl
   ·exact ⟨_,rfl,fun z=>by unfold Vo at z;omega,by omega⟩
   ·exact ⟨_,rfl,fun z=>by unfold Vo at z;omega,by omega⟩
   ·exact ⟨_,rfl,fun z=>by unfold Vo at z;omega,by omega⟩
  obtain ⟨kk,rfl⟩:∃ z:Nat,r3=(z:Int):=⟨r3.toNat,by omega⟩
  refine ⟨l,_,_,_,rfl,rfl,SqL.of (I.get l),ZK hv,v,_,rfl,hw,h9,by omega,(I.drop l)⟩
 clear S
 rintro σ1 H1 ⟨i,n1,rfl,hi,hi9,hn1,S1⟩
 refine ⟨S1.get Pq,fun q1 H2 fs1 cc1 g1 L1 e1 f1 k1=>⟨L1,fun q2 H3 fs2 cc2 g2 L2' e2 f2 k2=>⟨(by show 2<=Qj;decide),fun la hla=>?_⟩⟩⟩
 have l1:=(Lk.mk fs1 cc1 k1 f1 e1).grow L1 g2
 have l2:=Lk.mk fs2 cc2 k2 f2 e2
 have S3:=((S1.pull Pq).grow g1 L1).grow g2 L2'
 generalize hE:upd H3 la _=H4
 have w1:Same H3 H4:=by rw [<- hE];exact Zm hla _
 have I:=S3.newE hla hE
 have l1:=l1.same w1
 have l2:=l2.same w1
 clear hE w1 S3 L1 L2' g1 g2 f1 f2 e1 e2 k1 k2 S1
 refine ⟨_,rfl,.inl ⟨rfl,_,SqL.of (I.get la)⟩,I.get Pq,fun q3 H5 fs cc g L e fh kp=>?_⟩
 have ln:=Lk.mk fs cc kp fh e
 have S5:=(I.pull Pq).grow g L
 have l1:=l1.grow (I.get Pq) g
 have l2:=l2.grow (I.get Pq) g
 have G:=S5.get la
 refine ⟨la,_,_,rfl,rfl,G,(by show 2 < Qj;decide),?_⟩
 have S6:=S5.put la (.lst ([V.ref q1,V.ref q2]++[V.ref q3]))
 have l1:=l1.put (o':=.lst ([V.ref q1,V.ref q2]++[V.ref q3])) G (fun _ z=>by cases z)
 have l2:=l2.put (o':=.lst ([V.ref q1,V.ref q2]++[V.ref q3])) G (fun _ z=>by cases z)
 have l3:=ln.put (o':=.lst ([V.ref q1,V.ref q2]++[V.ref q3])) G (fun _ z=>by cases z)
 clear ln S5 kp fh e g L G I
 generalize upd H5 la _=H4 at S6 l1 l2 l3 ⊢
 have I:=S6
 clear S6
 refine ⟨_,rfl,.inl ⟨rfl,_,SqL.of (I.get la)⟩,I.get Pq,fun q4 H5 fs cc g L e fh kp=>?_⟩
 have ln:=Lk.mk fs cc kp fh e
 have S5:=(I.pull Pq).grow g L
 have l1:=l1.grow (I.get Pq) g
 have l2:=l2.grow (I.get Pq) g
 have l3:=l3.grow (I.get Pq) g
 have G:=S5.get la
 refine ⟨la,_,_,rfl,rfl,G,(by show 3 < Qj;decide),?_⟩
 have S6:=S5.put la (.lst ([V.ref q1,V.ref q2]++[V.ref q3]++[V.ref q4]))
 have l1:=l1.put (o':=.lst ([V.ref q1,V.ref q2]++[V.ref q3]++[V.ref q4])) G (fun _ z=>by cases z)
 have l2:=l2.put (o':=.lst ([V.ref q1,V.ref q2]++[V.ref q3]++[V.ref q4])) G (fun _ z=>by cases z)
 have l3:=l3.put (o':=.lst ([V.ref q1,V.ref q2]++[V.ref q3]++[V.ref q4])) G (fun _ z=>by cases z)
 have l4:=ln.put (o':=.lst ([V.ref q1,V.ref q2]++[V.ref q3]++[V.ref q4])) G (fun _ z=>by cases z)
 clear ln S5 kp fh e g L G I
 generalize upd H5 la _=H4 at S6 l1 l2 l3 l4 ⊢
 have I:=S6
 clear S6
 refine ⟨_,rfl,.inl ⟨rfl,_,SqL.of (I.get la)⟩,I.get Pq,fun q5 H5 fs cc g L e fh kp=>?_⟩
 have ln:=Lk.mk fs cc kp fh e
 have S5:=(I.pull Pq).grow g L
 have l1:=l1.grow (I.get Pq) g
 have l2:=l2.grow (I.get Pq) g
 have l3:=l3.grow (I.get Pq) g
 have l4:=l4.grow (I.get Pq) g
 have G:=S5.get la
 refine ⟨la,_,_,rfl,rfl,G,(by show 4 < Qj;decide),?_⟩
 have S6:=S5.put la (.lst ([V.ref q1,V.ref q2]++[V.ref q3]++[V.ref q4]++[V.ref q5]))
 have l1:=l1.put (o':=.lst ([V.ref q1,V.ref q2]++[V.ref q3]++[V.ref q4]++[V.ref q5])) G (fun _ z=>by cases z)
 have l2:=l2.put (o':=.lst ([V.ref q1,V.ref q2]++[V.ref q3]++[V.ref q4]++[V.ref q5])) G (fun _ z=>by cases z)
 have l3:=l3.put (o':=.lst ([V.ref q1,V.ref q2]++[V.ref q3]++[V.ref q4]++[V.ref q5])) G (fun _ z=>by cases z)
 have l4:=l4.put (o':=.lst ([V.ref q1,V.ref q2]++[V.ref q3]++[V.ref q4]++[V.ref q5])) G (fun _ z=>by cases z)
 have l5:=ln.put (o':=.lst ([V.ref q1,V.ref q2]++[V.ref q3]++[V.ref q4]++[V.ref q5])) G (fun _ z=>by cases z)
 clear ln S5 kp fh e g L G I
 generalize upd H5 la _=H4 at S6 l1 l2 l3 l4 l5 ⊢
 have I:=S6
 clear S6
 refine ⟨_,rfl,(by show 3<=Qj;decide),fun t ht=>?_⟩
 generalize hE:upd H4 t _=H5
 have w1:Same H4 H5:=by rw [<- hE];exact Zm ht _
 have et:H5 t=some (.tup [V.str "refused",V.str "world",V.int i]):=by rw [<- hE];exact Ze
 have S5:=I.mono w1
 have l1:=l1.same w1
 have l2:=l2.same w1
 have l3:=l3.same w1
 have l4:=l4.same w1
 have l5:=l5.same w1
 clear hE w1 I
 have Z:∀ u∈[V.str "refused",V.str "world",V.int i],NvV u:=fun u hu=>by
  rcases mem_cons.mp hu with rfl | hu
  ·exact ZhA (by decide +kernel)
  rcases mem_cons.mp hu with rfl | hu
  ·exact ZhA (by decide +kernel)
  ·rw [mem_singleton.mp hu];exact .inr (show i.natAbs < 10 ^ 30 by omega)
 refine ⟨_,rfl,la,rfl,⟨_,SqL.of (S5.get la)⟩,fun c1 ki zn D hD hDc=>?_⟩
 refine ZfQ (xs:=[V.ref q1,V.ref q2,V.ref q3,V.ref q4,V.ref q5]) (by show 5<=Qj;decide) zn hD hDc (S5.get la) ?_ ?_
 ·intro j v H6 Q' hv s6 h6 fin
  have hor:v=.ref q1\/v=.ref q2\/v=.ref q3\/v=.ref q4\/v=.ref q5:=by
   have:=mem_of_getElem? hv
   simpa using this
  rcases hor with rfl | rfl | rfl | rfl | rfl
  ·obtain ⟨fs,cc,kp,fh,e⟩:=l1.same s6
   refine ⟨_,rfl,XL [V.str "refused",V.str "world",V.int i] kp ki fh h6 e (fun H7 Qc Ec U hq he=>?_) (fun a H7 U ea=>?_)⟩
   ·have Sx:=S5.mono (s6.trans U)
    obtain ⟨d0,r0,sp0,i0,t0,Sh⟩:=Sx.get h
    obtain ⟨dx,ob⟩:=Sh.get h
    exact ⟨_,rfl,h,dx,_,rfl,ob,Yn (by decide +kernel),_,rfl,h,s,i,_,rfl,Sx.pull h,by omega,(fun k p' z h1=>absurd ⟨by omega,by have:=(Qi.mp h1).1;omega⟩ hi),(fun _ dx' H8 s8 ed=>he CW dx' "world" _ H8 s8 rW ed rfl)⟩
   delta Xo
   obtain ⟨u1,u2,u3,u4⟩:=YI ea Z (by show 3<=1000;decide)
   obtain ⟨v1,v2,v3,v4⟩:=YI (U _ _ (WJ _ _ (s6 _ _ et))) Z (by show 3<=1000;decide)
   refine ⟨_,_,rfl,u1,u2,u3,u4,_,rfl,_,_,rfl,v1,v2,v3,v4,rfl,?_⟩
   rw [decide_eq_true (show V.str _=V.str _ from rfl)]
   exact fin H7 U
  ·obtain ⟨fs,cc,kp,fh,e⟩:=l2.same s6
   refine ⟨_,rfl,XL [V.str "refused",V.str "world",V.int i] kp ki fh h6 e (fun H7 Qc Ec U hq he=>?_) (fun a H7 U ea=>?_)⟩
   ·have Sx:=S5.mono (s6.trans U)
    obtain ⟨d0,r0,sp0,i0,t0,Sh⟩:=Sx.get h
    obtain ⟨dx,ob⟩:=Sh.get h
    exact ⟨_,rfl,h,dx,_,rfl,ob,Yn (by decide +kernel),_,rfl,h,s,i,rfl,Sx.get h,(fun k p' z h1=>absurd ⟨by omega,by have:=(Qi.mp h1).1;omega⟩ hi),(fun _ dx' H8 s8 ed=>he CW dx' "world" _ H8 s8 rW ed rfl)⟩
   delta Xo
   obtain ⟨u1,u2,u3,u4⟩:=YI ea Z (by show 3<=1000;decide)
   obtain ⟨v1,v2,v3,v4⟩:=YI (U _ _ (WJ _ _ (s6 _ _ et))) Z (by show 3<=1000;decide)
   refine ⟨_,_,rfl,u1,u2,u3,u4,_,rfl,_,_,rfl,v1,v2,v3,v4,rfl,?_⟩
   rw [decide_eq_true (show V.str _=V.str _ from rfl)]
   exact fin H7 U
  ·obtain ⟨fs,cc,kp,fh,e⟩:=l3.same s6
   refine ⟨_,rfl,XL [V.str "refused",V.str "world",V.int i] kp ki fh h6 e (fun H7 Qc Ec U hq he=>?_) (fun a H7 U ea=>?_)⟩
   ·have Sx:=S5.mono (s6.trans U)
    obtain ⟨d0,r0,sp0,i0,t0,Sh⟩:=Sx.get h
    obtain ⟨dx,ob⟩:=Sh.get h
    exact ⟨_,rfl,h,dx,_,rfl,ob,Yn (by decide +kernel),_,rfl,h,s,i,_,rfl,Sx.pull h,by rw [hin];decide,(fun _ dx' H8 s8 ed=>he CW dx' "world" _ H8 s8 rW ed rfl),(fun k z hk _=>absurd ⟨by omega,by omega⟩ hi),(fun k z hk _=>absurd ⟨by omega,by omega⟩ hi)⟩
   delta Xo
   obtain ⟨u1,u2,u3,u4⟩:=YI ea Z (by show 3<=1000;decide)
   obtain ⟨v1,v2,v3,v4⟩:=YI (U _ _ (WJ _ _ (s6 _ _ et))) Z (by show 3<=1000;decide)
   refine ⟨_,_,rfl,u1,u2,u3,u4,_,rfl,_,_,rfl,v1,v2,v3,v4,rfl,?_⟩
   rw [decide_eq_true (show V.str _=V.str _ from rfl)]
   exact fin H7 U
  ·obtain ⟨fs,cc,kp,fh,e⟩:=l4.same s6
   refine ⟨_,rfl,XL [V.str "refused",V.str "world",V.int i] kp ki fh h6 e (fun H7 Qc Ec U hq he=>?_) (fun a H7 U ea=>?_)⟩
   ·have Sx:=S5.mono (s6.trans U)
    obtain ⟨d0,r0,sp0,i0,t0,Sh⟩:=Sx.get h
    obtain ⟨dx,ob⟩:=Sh.get h
    exact ⟨_,rfl,h,dx,_,rfl,ob,Yn (by decide +kernel),_,rfl,h,s,i,rfl,Sx.get h,hi,(fun dx' H8 s8 ed=>he CW dx' "world" _ H8 s8 rW ed rfl)⟩
   delta Xo
   obtain ⟨u1,u2,u3,u4⟩:=YI ea Z (by show 3<=1000;decide)
   obtain ⟨v1,v2,v3,v4⟩:=YI (U _ _ (WJ _ _ (s6 _ _ et))) Z (by show 3<=1000;decide)
   refine ⟨_,_,rfl,u1,u2,u3,u4,_,rfl,_,_,rfl,v1,v2,v3,v4,rfl,?_⟩
   rw [decide_eq_true (show V.str _=V.str _ from rfl)]
   exact fin H7 U
  ·obtain ⟨fs,cc,kp,fh,e⟩:=l5.same s6
   refine ⟨_,rfl,XL [V.str "refused",V.str "world",V.int i] kp ki fh h6 e (fun H7 Qc Ec U hq he=>?_) (fun a H7 U ea=>?_)⟩
   ·have Sx:=S5.mono (s6.trans U)
    obtain ⟨d0,r0,sp0,i0,t0,Sh⟩:=Sx.get h
    obtain ⟨dx,ob⟩:=Sh.get h
    exact ⟨_,rfl,h,dx,_,rfl,ob,Yn (by decide +kernel),_,rfl,_,rfl,h,s,i,.str x,rfl,Sx.get h,hi,(fun dx' H8 s8 ed=>he CW dx' "world" _ H8 s8 rW ed rfl)⟩
   delta Xo
   obtain ⟨u1,u2,u3,u4⟩:=YI ea Z (by show 3<=1000;decide)
   obtain ⟨v1,v2,v3,v4⟩:=YI (U _ _ (WJ _ _ (s6 _ _ et))) Z (by show 3<=1000;decide)
   refine ⟨_,_,rfl,u1,u2,u3,u4,_,rfl,_,_,rfl,v1,v2,v3,v4,rfl,?_⟩
   rw [decide_eq_true (show V.str _=V.str _ from rfl)]
   exact fin H7 U
 ·intro H6 s6 eD
  have S6:=S5.mono s6
  obtain ⟨d0,r0,sp0,i0,t0,Sh⟩:=S6.get h
  obtain ⟨dx,ob⟩:=Sh.get h
  refine ⟨D,QY 5 true,rfl,SqL.of eD,?_⟩
  refine ⟨true,rfl,Yw ⟨_,rfl,h,dx,_,rfl,ob,Yn (by decide +kernel),h,s,0,rfl,S6.get h,by rw [hin];rfl,rfl,?_⟩⟩
  exact q n1 H6 (by omega) (((((S6.drop la).pull Pq).pull dl).pull h).pull p)
end
abbrev ZjR (P:Qk)(w:Qt)(K:Qa)(mg:Str->Option Qb)(base:Heap):Prop:=Def P w K mg base 1 "_law_take" ["_law_box_here","_law_many"] (VM 4611686018427387904)
section
variable {P:Qk}{w:Qt}{K:Qa}{mg:Str->Option Qb}{base:Heap}
abbrev vSigns:Str:=ZjY (Xx s_l_value)
theorem vs_len:vSigns.length=94:=by decide +kernel
theorem Znt:vSigns.cps.toList.all sgn=true:=by decide +kernel
abbrev nVv:List Str:=["_law_box_here","_law_way","_law_signs"]
theorem scVal:Zp nVv ["_law_box_here"] (Zj s_l_value):={}
theorem Zjk {f:Addr}{fd:Qn}(F:Fun K "_law_value" "_law_value" s_l_value f fd)(T:Txt K mg)(D:ZjR P w K mg base):FnOk P w K mg base ZI 2 f fd ["_law_box_here"] Zcf:=by
 refine F.ok scVal (fun cdv A outer s H vs Q E hr h=>?_)
 obtain ⟨p,n,rfl,hB,hn,q⟩:=h
 refine ⟨_,Zd (Zx (i:=1) scVal.nd rfl (QJ rfl) (ZJ D hr (Zc (pv 0) (Zc Zg Za))))
   (Zd (Ye (ZX ZcV (pv 1) Zg (ZU _)) (Zi (Zu (Zv YS (ZJ D hr (Zc (pv 0) (Zc Zg Za))) Zg))) ZR)
   (Zd (Ye (ZX YW (pv 1) Zg (ZU _)) (Zi (Zu (ZA ZG (Yb (Wc (Zv YS (Zv VE Zg Zg) Zg) (Wc (Zv YS Zg (Zv VE Zg Zg)) (Wc (Zv VE Zg Zg) (Wc Zg Za rfl) rfl) rfl) rfl)) (ZJ D hr (Zc (pv 0) (Zc Zg Za))) (fun _ _=>rfl)))) ZR)
   (Zd (Ye (ZX YW (pv 1) Zg (ZU _)) (Zi (Zu (ZA ZG (Yb (Wc ZW (Wc ZW (Wc ZW (Wc ZW (Wc ZW (Wc ZW (Wc ZW (Wc ZW Za rfl) rfl) rfl) rfl) rfl) rfl) rfl) rfl)) (ZJ D hr (Zc (pv 0) (Zc Zg Za))) (fun _ _=>rfl)))) ZR)
   (Zd (Zx (i:=2) scVal.nd rfl (SO rfl) ZW)
   (Zi (Zu (YG Sl SD SE Zfb ZW (Zc (Zaa (CompOk.of nVv s_l_value rfl rfl (by decide +kernel)) rfl
     (Xb rfl T.range (Zc (ZJ D hr (Zc (pv 0) (Zc (Wu (ZX YW (pv 1) Zg (ZU _)) Zg Zg) Za))) Za))
     (fun _ _ _ _ _=>ZA Zbg (pv 2) (ZJ D hr (Zc (pv 0) (Zc (Zr (ZgV (K:=K) rfl) rfl T.len QK (Zc (pv 2) Za)) Za))) (fun _ _=>rfl))) Za)))))))),?_⟩
 refine ⟨_,rfl,p,n,6,rfl,hB,by omega,by decide,by decide,fun r1 H1 a0 a1 W k1=>?_⟩
 refine ⟨_,rfl,_,_,rfl,rfl,_,rfl,UW (fun c=>?_) (fun c=>?_)⟩
 · refine ⟨_,rfl,p,n+1,7,rfl,W,by omega,by decide,by decide,fun B H2 b0 b1 I k2=>⟨_,_,rfl,rfl,?_⟩⟩
   exact q _ _ (by show (B - 3).natAbs < 10 ^ 30;omega) (I.le (by omega)) (k1.trans k2)
 refine ⟨_,rfl,rfl,_,rfl,UW (fun c2=>?_) (fun c2=>?_)⟩
 · refine ⟨_,_,rfl,rfl,⟨by decide,by decide,by decide⟩,_,_,rfl,rfl,_,_,rfl,rfl,⟨by decide,by decide,by decide⟩,_,_,rfl,rfl,_,_,rfl,rfl,⟨by decide,by decide,by decide⟩,(by show 4<=Qj;decide),fun l J=>?_⟩
   have G:l≠p:=fun e=>by obtain ⟨_,_,_,z,_⟩:=W;rw [e,z] at J;cases J
   refine ⟨_,rfl,p,n+1,4,rfl,W.same (Zm J _),by omega,by decide,by decide,fun B H2 b0 b1 I k2=>?_⟩
   obtain ⟨v,hv,hm⟩:=ZbJ (xs:=([.int (10 ^ (30:Int).toNat - 1),.int (1 - 10 ^ (30:Int).toNat),.int (10 ^ (29:Int).toNat),.int 0]:List V)) b0 b1
   refine ⟨l,_,_,v,rfl,rfl,SqL.of (k2 l _ G Ze),hv,q _ _ ?_ (I.le (by omega)) (k1.trans ((Zm J _).kp p |>.trans k2))⟩
   have all:(([.int (10 ^ (30:Int).toNat - 1),.int (1 - 10 ^ (30:Int).toNat),.int (10 ^ (29:Int).toNat),.int 0]:List V)).all Zdp=true:=by decide +kernel
   exact ZaE (all_eq_true.mp all v hm)
 refine ⟨_,rfl,rfl,_,rfl,UW (fun c3=>?_) (fun c3=>?_)⟩
 · refine ⟨(by show 8<=Qj;decide),fun l J=>?_⟩
   have G:l≠p:=fun e=>by obtain ⟨_,_,_,z,_⟩:=W;rw [e,z] at J;cases J
   refine ⟨_,rfl,p,n+1,8,rfl,W.same (Zm J _),by omega,by decide,by decide,fun B H2 b0 b1 I k2=>?_⟩
   obtain ⟨v,hv,hm⟩:=ZbJ (xs:=([.str "",.str "0",.str "-1",.str "a",.str "none",.str "'",.str "\\", .str " "]:List V)) b0 b1
   refine ⟨l,_,_,v,rfl,rfl,SqL.of (k2 l _ G Ze),hv,q _ _ ?_ (I.le (by omega)) (k1.trans ((Zm J _).kp p |>.trans k2))⟩
   have all:(([.str "",.str "0",.str "-1",.str "a",.str "none",.str "'",.str "\\", .str " "]:List V)).all Zdp=true:=by decide +kernel
   exact ZaE (all_eq_true.mp all v hm)
 refine ⟨rfl,?_⟩
 have fin:∀ (B:Int) (H2:Hp),0<=B->B < 41->BoxAt H2 p (n+2)->Kp p H1 H2->∃ j:Int,[V.int B]=[.int j]/\-(2 ^ 62)<=j/\j < 2 ^ 62/\∀ D,H2 D=none->CompW (Itr 0 j.toNat)
     (tOp rIxS (Zeq 2) (ZgE (VM 4611686018427387904) [] E0 (Wh (Zeq 0) (Wh (tCB (fun xs H Q=>∃ x n,xs=[x]/\Ziy K x H n/\Q (.int n) H) (Wh (Zeq 2) Xo)) Xo))))
     [some (.ref p),some (.int r1),some (.str vSigns)] D (fun x H3=>∃ Z a ys,V.str ""=.str Z/\[x]=[.ref a]/\SqL K H3 a (ys.map V.str)/\(ys.map (·.length)).sum+ys.length * Z.length<=16777216/\Q (.str (Txt.join Z ys)) H3) H2:=by
   intro B H2 b0 b1 I k2
   refine ⟨B,rfl,by omega,by omega,fun Dl hD=>?_⟩
   have G:Dl≠p:=fun e=>by obtain ⟨_,_,_,z,_⟩:=I;rw [e,z] at hD;cases hD
   refine ZfS (Qq (show B.toNat<=1000 by omega) (ZfY (Qh _)))
     (fun i ys H'=>∃ zs:List Str,ys=zs.map V.str/\zs.length=i/\(∀ z∈zs,∃ c,z=⟨#[c]⟩/\sgn c=true)/\H' Dl=some (.lst ys)/\BoxAt H' p (n+2+i)/\Kp p H1 H'/\i<=B.toNat)
     ⟨[],rfl,rfl,(fun _ h=>nomatch h),Ze,I.same (Zm hD _),k2.trans ((Zm hD _).kp p),QH _⟩ ?_ ?_ ?_
   · rintro i ys H' ⟨zs,rfl,hz,_⟩;rw [length_map];exact hz
   · rintro i ys H' hi ⟨zs,rfl,hz,S,U,B',k',_⟩
     refine ⟨_,rfl,_,rfl,_,rfl,_,94,rfl,⟨by rw [vs_len];decide,vs_len.symm⟩,p,n+2+i,94,rfl,B',by omega,by decide,by decide,fun r3 H3 d0 d1 B3 k3=>?_⟩
     have J:vSigns.cps.toList.length=94:=by rw [<- Yq];exact vs_len
     obtain ⟨c,hc,hm⟩:=ZbJ (xs:=vSigns.cps.toList) d0 (by rw [J];exact d1)
     refine ⟨vSigns,r3,c,rfl,rfl,(by rw [vs_len];decide),hc,k3 Dl _ G U,zs++[⟨#[c]⟩],by rw [map_append];rfl,by rw [length_append,hz];rfl,?_,Ze,?_,fun b o nb e=>?_,hi⟩
     · intro z hz'
       rcases mem_append.mp hz' with h | h
       · exact S z h
       · rw [mem_singleton.mp h];exact ⟨c,rfl,all_eq_true.mp Znt c hm⟩
     · obtain ⟨x1,x2,x3,x4,x5⟩:=B3
       exact ⟨x1,x2,x3,by rw [Zh G.symm];exact x4,x5⟩
     · rw [Zh (Zq (k2 b o nb e) hD)];exact k3 b o nb (k' b o nb e)
   · rintro ys H' ⟨zs,rfl,hz,S,U,B',k',_⟩
     have ones:∀ l:List Str,(∀ z∈l,∃ c,z=⟨#[c]⟩/\sgn c=true)->(l.map (·.length)).sum=l.length/\(l.flatMap (·.cps.toList)).length=l.length/\(l.flatMap (·.cps.toList)).all sgn=true:=by
       intro l
       induction l with
       | nil=>intro _;exact ⟨rfl,rfl,rfl⟩
       | cons z r ih =>
         intro h
         obtain ⟨c,rfl,hc⟩:=h z mem_cons_self
         obtain ⟨g1,g2,g3⟩:=ih fun y hy=>h y (mem_cons_of_mem _ hy)
         refine ⟨?_,?_,?_⟩
         · rw [map_cons,Rv,g1,length_cons];show 1+_=_;omega
         · have e0:((⟨#[c]⟩:Str)::r).flatMap (·.cps.toList)=c::r.flatMap (·.cps.toList):=rfl
           rw [e0,length_cons,length_cons,g2]
         · rw [Tj,Su,g3];simp [hc]
     obtain ⟨g1,g2,g3⟩:=ones zs S
     refine ⟨_,Dl,zs,rfl,rfl,SqL.of U,?_,q _ _ ⟨?_,?_⟩ (B'.le (by omega)) (k1.trans k')⟩
     · rw [g1];show _+_ * 0<=_;omega
     · rw [Yq];show (Txt.join (Qw "") zs).cps.toList.length<=40;rw [WN,g2];omega
     · show (Txt.join (Qw "") zs).cps.toList.all sgn=true;rw [WN];exact g3
 refine ⟨_,rfl,_,rfl,rfl,_,rfl,UW (fun c4=>?_) (fun c4=>?_)⟩
 · exact ⟨p,n+1,4,rfl,W,by omega,by decide,by decide,fun B H2 b0 b1 I k2=>by obtain ⟨j,e1,e2,e3,e4⟩:=fin B H2 b0 (by omega) I k2;exact ⟨j,e1,e2,e3,e4⟩⟩
 · exact ⟨p,n+1,41,rfl,W,by omega,by decide,by decide,fun B H2 b0 b1 I k2=>by obtain ⟨j,e1,e2,e3,e4⟩:=fin B H2 b0 (by omega) I k2;exact ⟨j,e1,e2,e3,e4⟩⟩
end
end K33
namespace L2
open PySem
section
variable {d:Addr}{o:Obj}{kvs:List (Zo×V)}{Δ Δ':Rs}{H H':Hp}
end
inductive Zfv (wi:TI)(σ:St)(H:Hp)(R:It->Hp->Prop):Prop
 | mk (I:It->Hp->Prop):wi σ H I->(∀ J H',I J H'->R J H')->Zfv wi σ H R
def Zox (wi:TI):TI:=fun σ H R=>Zfv wi σ H R
theorem ZmK (h:PI X tg l wi):PI X tg l (Zox wi):=by
 intro pins s σ H R I z
 obtain ⟨J,z,g⟩:=z
 refine Zs (h pins s σ H J I z) fun v s1 h1=>Zs h1 fun G s2 h2=>?_
 obtain ⟨S,fp,tn,j,H2,e,U,T,B,W,q⟩:=h2
 exact ⟨S,fp,tn,j,H2,e,U,T,B,W,g _ _ q⟩
end L2
namespace K33
open PySem L2
theorem Zia (hp:H P=some (.tbl #[]))(B:∀ h:Hp,h P=some (.tbl #[])->R P h)(S:Sep Δ (WX H (one P (.tbl #[])))):Sep ((P,R)::Δ) H :=
 ⟨one P (.tbl #[]),fun b o e=>by obtain ⟨rfl,rfl⟩:=one_some.mp e;exact hp,B _ (one_some.mpr ⟨rfl,rfl⟩),S⟩
theorem ZdG (e:H Q=some o)(n:Q≠P):WX H (one P (.tbl #[])) Q=some o:=cut_some.mpr ⟨e,fun v z=>absurd (one_some.mp z).1 n⟩
theorem Zgp (U:SqL K H a (J.map V.int))(h1:H B=some (.tbl #[]))(h2:H G=some (.tbl #[]))(S:[B,G].Nodup):Sep [(B,Xl),(G,LmR W),(a,ScR K J)] H:=by
 simp only [nodup_cons,mem_cons,not_mem_nil,or_false,not_or] at S
 obtain ⟨I,-⟩:=S
 refine Zia h1 (fun h e=>.inl e) (Zia (ZdG h2 (Gv I)) (fun h e=>⟨[],e,fun _ z=>nomatch z⟩) ⟨_,fun b o e=>e,?_,trivial⟩)
 rcases U.obj with z | ⟨o,e,nt,z⟩
 ·exact z _
 ·have n:∀ P,H P=some (.tbl #[])->a≠P:=fun P h y=>by rw [y,h] at e;cases e;exact absurd rfl (nt _)
  exact z _ (ZdG (ZdG e (n _ h1)) (n _ h2))
theorem VB {n:Nat}(h:n<=1000000):((n:Int)).natAbs.log2 < 1920:=by
 rw [Int.natAbs_natCast]
 by_cases z:n=0
 ·subst z;decide
 ·exact (OR z).mpr (QN h (QD (show 1000000 < 2 ^ 20 by decide) (SU (by decide) (by decide))))
structure KJ (xs:List Str)(qs:List (Str×V))(s:Hs)(n:Nat):Prop where
 I:HI xs s
 ins:s.ins=[0]
 s0:s.spots[0]?=some n
 pl:s.pls.length=n
 fl:s.fds.length=n
 fu:s.us.length=n
 nl:s.nds.length<=1+6 * n
 tl:s.tabs.length<=1+n
 df:s.dfs=Wk qs
theorem KJ.hb {n:Nat}(W:KJ xs qs s n)(B:n<=200):HB s:=⟨by have:=W.pl;omega,by have:=W.nl;omega,by have:=W.tl;omega,by have:=W.fl;omega,by have:=W.fl;have:=W.fu;omega⟩
theorem KJ.env {n:Nat}(W:KJ xs qs s n):∃ G,(envs s.pls)[n]?=some G:=⟨_,getElem?_eq_getElem (by rw [US,W.pl];omega)⟩
theorem KJ.st {xs:List Str}{qs:List (Str×V)}{s:Hs}{n:Nat}(W:KJ xs qs s n){x:Str}{v o:V}{t' c:Nat}{nds:List Nd}{B:List (Zo×V)}(G:HI xs (hGo s 0 n (.set x v) t' c nds B))(h1:nds.length<=s.nds.length+6)(h2:B.length<=s.tabs.length+1) :
 KJ xs qs { hGo s 0 n (.set x v) t' c nds B with fds:=s.fds++[⟨0,x,o⟩],us:=s.us++[true] } (n+1) where
 I:=⟨G.N,G.R,G.sp⟩
 ins:=W.ins
 s0:=by
  show (s.spots.set 0 (s.pls.length+1))[0]?=_
  rw [W.pl,JO,if_pos rfl,if_pos (Qi.mp W.s0).1]
 pl:=by show (_++[_]).length=_;rw [length_append,W.pl];rfl
 fl:=by show (_++[_]).length=_;rw [length_append,W.fl];rfl
 fu:=by show (_++[_]).length=_;rw [length_append,W.fu];rfl
 nl:=by show nds.length<=_;have:=W.nl;omega
 tl:=by show B.length<=_;have:=W.tl;omega
 df:=W.df
theorem KJ.cp {xs:List Str}{qs:List (Str×V)}{s:Hs}{n k p:Nat}(W:KJ xs qs s n)(B:s.spots[k]?=some p):KJ xs qs { s with spots:=s.spots++[p] } n where
 I := ⟨W.I.N,W.I.R,fun q hq=>by
  rcases mem_append.mp hq with hq | hq
  ·exact W.I.sp q hq
  ·rw [mem_singleton.mp hq];exact W.I.sp p (mem_of_getElem? B)⟩
 ins:=W.ins
 s0:=by
  show (s.spots++[p])[0]?=_
  rw [getElem?_append_left (Qi.mp W.s0).1];exact W.s0
 pl:=W.pl
 fl:=W.fl
 fu:=W.fu
 nl:=W.nl
 tl:=W.tl
 df:=W.df
section
variable {P:Qk}{w:Qt}{K:Qa}{mg:Str->Option Qb}{base:Heap}{CH CR CS CT CRo Pl Pq:Addr}{cs:List Addr}
abbrev hsQ (qs:List (Str×V)):Hs:={ hs0 with dfs:=Wk qs }
inductive Zbw (K:Qa)(CH CR CS CT:Addr)(vs:List V)(H:Hp)(Q:VK)(w_3:XK):Prop
 | mk (h:Addr) (s:Hs) (qs:List (Str×V)) (x:Str) (v:V) (Δ:Rs):vs=[.ref h,.str x,v]->Sep ((h,XE K CH CR CS CT s)::Δ) H->s.dfs=Wk qs->qs.length<=1000->x ∉ qs.map (·.1)->(∀ H',Sep ((h,XE K CH CR CS CT { s with dfs:=Wk (qs++[(x,v)]) })::Δ) H'->Q .non H')->Zbw K CH CR CS CT vs H Q w_3
theorem ZnF {CX:Addr}{vs:List V}{H:Hp}{Q:VK}{E:XK}(h:Zbw K CH CR CS CT vs H Q E):Zdg K CH CR CS CT CX vs H Q (fun _ _ _=>False):=by
 obtain ⟨h,s,qs,x,v,Δ,e,S,h1,h2,B,q⟩:=h
 exact ⟨h,s,qs,x,v,Δ,e,S,h1,h2,fun z=>absurd z B,fun _=>q⟩
inductive Zbz (K:Qa)(CH CR CS CT Pl:Addr)(vs:List V)(H:Hp)(Q:VK)(w_3:XK):Prop
 | mk (NS:List Str) (h:Addr) (s:Hs) (n p:Nat) (x:Str) (v:V) (G:Str->Option V) (Δ:Rs):vs=[.ref h,.str x,v]->Sep ((h,XE K CH CR CS CT s)::(Pl,Xl)::Δ) H->HI NS s->HB s->s.ins.getLast?=some n->s.spots[n]?=some p->(envs s.pls)[p]?=some G->x∈NS->IsVal v->(ZH s.dfs (QF x)).isSome=true->(∀ (H':Hp) (t' c:Nat) (nds:List Nd) (tabs:List (Zo×V)),Sep ((h,XE K CH CR CS CT { hGo s n p (.set x v) t' c nds tabs with fds:=s.fds++[⟨n,x,(G x).getD .non⟩],us:=s.us++[true] })::(Pl,Xl)::Δ) H'->HI NS (hGo s n p (.set x v) t' c nds tabs)->nds.length<=s.nds.length+6->tabs.length<=s.tabs.length+1->Q (.int (s.fds.length:Int)) H')->Zbz K CH CR CS CT Pl vs H Q w_3
theorem Zot (h:Zbz K CH CR CS CT Pl vs H Q E):Zdl K CH CR CS CT Pl CX vs H Q (fun _ _ _=>False):=by
 obtain ⟨NS,h,s,n,p,x,v,G,Δ,e,S,h1,h2,U,W,Z,J,I,B,q⟩:=h
 exact ⟨NS,h,s,n,p,x,v,G,Δ,e,S,h1,h2,U,W,Z,J,I,fun z=>by (rw [z] at B;cases B),fun _=>q⟩
inductive Zad (K:Qa)(CH CR CS CT:Addr)(vs:List V)(H:Hp)(Q:VK)(w_3:XK):Prop
 | mk (h:Addr) (s:Hs) (k p:Nat) (Δ:Rs):vs=[.ref h,.int (k:Int)]->Sep ((h,XE K CH CR CS CT s)::Δ) H->s.spots.length<=1000->s.spots[k]?=some p->(∀ H',Sep ((h,XE K CH CR CS CT { s with spots:=s.spots++[p] })::Δ) H'->Q (.int (s.spots.length:Int)) H')->Zad K CH CR CS CT vs H Q w_3
theorem ZlV (h:Zad K CH CR CS CT vs H Q E):VJ K CH CR CS CT CX vs H Q (fun _ _ _=>False):=by
 obtain ⟨h,s,k,p,Δ,e,S,h1,h2,q⟩:=h
 refine ⟨h,s,k,Δ,e,S,h1,fun G I z B=>?_,fun z=>absurd ⟨by omega,by have:=(Qi.mp h2).1;omega⟩ z⟩
 obtain rfl:G=k:=by omega
 rw [h2] at B;cases B
 exact q
inductive Zbx (K:Qa)(Pl Pq:Addr)(vs:List V)(H:Hp)(Q:VK)(w_3:XK):Prop
 | mk (a:Addr) (ns:List Int):vs=[.ref a]->SqL K H a (ns.map V.int)->ns.length<=63->Sep [(Pl,Xl),(Pq,LmR qR),(a,ScR K ns)] H->(∀ H',Q (.bl true) H')->Zbx K Pl Pq vs H Q w_3
abbrev lwL (K:Qa)(CH CR CS CT Pl Pq p h dl nl a:Addr)(ns:List Int)(xs:List Str)(s:Hs)(due:List Nat)(n:Nat):Rs:=[(p,Bx n),(h,XE K CH CR CS CT s),(Pl,Xl),(Pq,LmR qR),(dl,Yi (due.map nI)),(nl,Yi (xs.map V.str)),(a,ScR K ns)]
abbrev nLw:List Str:=["_law_script","_law_k","_law_box_here","_law_names_here","_law_hall","_law_due","_law_step","_law_name","_law_turn","_law_world","_law_again"]
abbrev pnLw:List Str:=["_law_script"]
theorem scLw:Zp nLw pnLw (Zj s_law):={}
theorem Zmv (F:Fun K "law" "law" s_law f fd)(T:Ym mg)(TH:XD K CH)(DT:DTk P w K mg base 1)(DB:Def P w K mg base 18 "_law_box" ["_law_script","_law_k"] (Zbv K))(DN:Def P w K mg base 18 "_law_names" Zjw ZaK)(DV:Def P w K mg base 18 "_law_value" ["_law_box_here"] Vh)(DHl:ZbD P w K mg base 17 CH "Hall" ["self"] (Zcb K CH CR CS CT))(DH_declare:DefM P w K mg base 18 CH "declare" Zbp (Zbw K CH CR CS CT))(DH_set_to:DefM P w K mg base 18 CH "set_to" Zbq (Zbz K CH CR CS CT Pl))(DH_copy:DefM P w K mg base 18 CH "copy" Zab (Zad K CH CR CS CT))(DH_place:DefM P w K mg base 18 CH "place" WO (Zag K CH CR CS CT))(DH_worlds:DefM P w K mg base 18 CH "worlds" Zgh (ZgB K CH CR CS CT))(DRf:Def P w K mg base 18 "_law_refused_right" Zjx (ZjL K CH CR CS CT Pq)):FnOk P w K mg base ZI 19 f fd pnLw (Zbx K Pl Pq):=by
 refine F.ok scLw (fun cdv A outer s0 H vs Q E hr h=>?_)
 obtain ⟨a,ns,rfl,hS,hl,S,q⟩:=h
 have hr1:=hr.mono (show 1<=18 by decide)
 refine' ⟨?t,?h,?r⟩
 case h =>
  conv=>arg 2;whnf
  with_reducible refine' (Zd (Ue ?h1 ?h2 ?h3 ?h4 (Zd ?h5 (Zd ?h6 (Zd ?h7 (Zd (Ue ?h8 ?h9 ?h10 ?h11 (Zi ?h12) ?h13) (Zd (Ue ?h14 ?h15 ?h16 ?h17 (Zfn (Ye ?h18 (Zd ?h19 (Zd ?h20 (Zi ?h21))) ZR) (Zd ?h22 (Zd (Ye ?h23 (Zi ?h24) ZR) (Zd ?h25 (Zi (Ye ?h26 (Zi ?h27) ZR)))))) ?h28) (Zd (Ue ?h29 ?h30 ?h31 ?h32 (Zi (Ye ?h33 (Zi ?h34) ZR)) ?h35) (Zd (Ye ?h36 (Zi ?h37) ZR) (Zi (Ye ?h38 (Zi ?h39) ZR))))))))) ?h40) (Zi ?h41))
  case h1=>exact GD
  case h2=>exact rfl
  case h3=>exact Xb rfl T.range (Zc (Zv Yx Zg (Zr (ZgW rfl) rfl T.min (by decide +kernel) (Zc Zg (Zc (Zr ZF rfl T.len QK (Zc (pv 0) Za)) Za)))) Za)
  case h4=>exact Yf (i:=1) scLw.nd rfl (QJ rfl)
  case h5=>exact Zx (i:=2) scLw.nd rfl (QJ rfl) (ZJ DB hr (Zc (pv 0) (Zc (pv 1) Za)))
  case h6=>exact Zx (i:=3) scLw.nd rfl (QJ rfl) (ZJ DN hr (Zc (pv 2) (Zc Zg Za)))
  case h7=>exact XJ (YZ (Zc (ZcX DHl hr) (Zc (Yb (Zc Zg Za)) (Zc Zg Za)))) (VF rfl (YN (Yf (i:=4) scLw.nd rfl (SO rfl)) (YN (Yf (i:=5) scLw.nd rfl (QJ rfl)) (YN (Yf (i:=6) scLw.nd rfl (QJ rfl)) UC))))
  case h8=>exact GD
  case h9=>exact rfl
  case h10=>exact ZbR (ZaJ Zlr (pv 3) ZbT (ZbU Zg))
  case h11=>exact Yf (i:=7) scLw.nd rfl (QJ rfl)
  case h12=>exact ZT (Yc DH_declare TH.cl hr (pv 4) (Zc (pv 7) (Zc Ud Za)))
  case h13=>exact fun _=>rfl
  case h14=>exact GD
  case h15=>exact rfl
  case h16=>exact ZmK (Xb rfl T.range (Zc (Wu (ZX YW (ZJ DT hr1 (Zc (pv 2) (Zc Zg Za))) Zg (ZU _)) Zg (ZJ DT hr1 (Zc (pv 2) (Zc Zg Za)))) Za))
  case h17=>exact Yf (i:=8) scLw.nd rfl (QJ rfl)
  case h18=>exact ZX YW (ZJ DT hr1 (Zc (pv 2) (Zc Zg Za))) Zg (ZU _)
  case h19=>exact ZT (Yc DH_set_to TH.cl hr (pv 4) (Zc (ZA ZG (pv 3) (ZJ DT hr1 (Zc (pv 2) (Zc Zg Za))) (fun _ _=>rfl)) (Zc (ZJ DV hr (Zc (pv 2) Za)) Za)))
  case h20=>exact Zx (i:=6) scLw.nd rfl (QJ rfl) (Zv Yx (pv 6) Zg)
  case h21=>exact XJ (pv 6) (UB (pv 5) Zg Wx)
  case h22=>exact Zx (i:=9) scLw.nd rfl (QJ rfl) (ZJ DT hr1 (Zc (pv 2) (Zc (Zr ZF rfl T.len QK (Zc (pv 5) Za)) Za)))
  case h23=>exact ZX Uk (Zr (Xv hr.gd hr.units) rfl T.repr (by decide +kernel) (Zc (Yc DH_copy TH.cl hr (pv 4) (Zc (pv 9) Za)) Za)) (Yy Vv rfl T.str (by decide +kernel) (Zc (Zr ZF rfl T.len QK (Zc (pv 5) Za)) Za)) (ZU _)
  case h24=>exact Zu XM
  case h25=>exact ZT (YG Qx QB QC ZZ (pv 5) (Zc (ZA ZG (pv 5) (pv 9) (fun _ _=>rfl)) Za))
  case h26=>exact ZX Uk (Zr (Xv hr.gd hr.units) rfl T.repr (by decide +kernel) (Zc (Vb DH_worlds TH.cl hr (pv 4)) Za)) (Yy Vv rfl T.str (by decide +kernel) (Zc (Zr ZF rfl T.len QK (Zc (pv 5) Za)) Za)) (ZU _)
  case h27=>exact Zu XM
  case h28=>exact fun _=>rfl
  case h29=>exact GD
  case h30=>exact rfl
  case h31=>exact Xb rfl T.range (Zc Zg Za)
  case h32=>exact Yf (i:=10) scLw.nd rfl (QJ rfl)
  case h33=>exact ZX Uk (Zr (Xv hr.gd hr.units) rfl T.repr (by decide +kernel) (Zc (Zaa (CompOk.of nLw s_law rfl rfl (by decide +kernel)) rfl (Xb rfl T.range (Zc (Zr ZF rfl T.len QK (Zc (pv 5) Za)) Za))  (fun _ _ _ _ _=>Yc DH_place TH.cl hr (pv 4) (Zc (pv 11) Za))) Za)) (Zr (Xv hr.gd hr.units) rfl T.repr (by decide +kernel) (Zc (pv 5) Za)) (ZU _)
  case h34=>exact Zu XM
  case h35=>exact fun _=>rfl
  case h36=>exact Zbr (VH (ZJ DRf hr (Zc (pv 2) (Zc (pv 4) (Zc (pv 5) (Zc (ZA ZG (pv 3) (ZJ DT hr1 (Zc (pv 2) (Zc Zg Za))) (fun _ _=>rfl)) Za))))))
  case h37=>exact Zu XM
  case h38=>exact PW.pt (Zgn (ZX Uk (Zr (Xv hr.gd hr.units) rfl T.repr (by decide +kernel) (Zc (Vb DH_worlds TH.cl hr (pv 4)) Za)) (Yy Vv rfl T.str (by decide +kernel) (Zc (Zr ZF rfl T.len QK (Zc (pv 5) Za)) Za)) (ZU _)) (Zed (ZX Uk (Yc DH_place TH.cl hr (pv 4) (Zc Zg Za)) (pv 6) (ZU _))))
  case h39=>exact Zu XM
  case h40=>exact fun _=>rfl
  case h41=>exact Zu XM
 try dsimp only [ZQ,Cx.nox]
 refine VP ?_
 intro zD zS zN1
 refine ⟨_,rfl,a,_,rfl,.inl hS,_,_,rfl,_,_,rfl,rfl,?_⟩
 rw [length_map]
 generalize hm:(1:Int)+(if ((ns.length:Nat):Int) < 2 then ((ns.length:Nat):Int) else 2)=m
 have hm9:0<=m/\m<=9:=by rw [<- hm];split<;>omega
 refine ⟨m,(by first | rfl | exact congrArg (fun z=>[V.int z]) hm),by omega,by omega,?_⟩
 refine WD (fun i σ H'=>∃ x1 x2 x3 x4 x5 x6 x7 x8 x9 x10,σ=[some (.ref a),x1,x2,x3,x4,x5,x6,x7,x8,x9,x10]/\Sep [(Pl,Xl),(Pq,LmR qR),(a,ScR K ns)] H') ⟨_,_,_,_,_,_,_,_,_,_,rfl,S⟩ ?_ (fun σ H' _=>q H')
 rintro i0 σ H0 hi0' ⟨x1,x2,x3,x4,x5,x6,x7,x8,x9,x10,rfl,S0⟩
 refine zs8 ?_
 intro zD zS zN7 zN6 zN5 zN4 zN3 zN2 zN1
 refine ⟨_,rfl,_,rfl,a,ns,_,_,rfl,S0.get a,S0,by omega,by omega,fun p H1 s1 S1=>?_⟩
 refine ⟨_,rfl,p,_,3,_,rfl,S1,by omega,by omega,by omega,fun nl H3 xs S3 hxl hxn hxd=>?_⟩
 have hxl:xs.length=3:=by omega
 have N:Yr xs:=ZnL (by omega) hxn
 clear S1 S0 S
 obtain ⟨U,B,Z,rfl⟩:∃ a b c,xs=[a,b,c]:=by
  match xs,hxl with
  | [a,b,c],_=>exact ⟨a,b,c,rfl⟩
 intro h dx hh hdx hne
 refine ⟨h,dx,_,_,rfl,rfl,hh,hdx,hne,S3,fun H5 S5=>⟨rfl,(by show 1<=Qj;decide),fun dl hdl=>⟨(by show 3<=Qj;decide),fun t0 ht0=>?_⟩⟩⟩
 generalize hE:upd (upd H5 dl _) t0 _=H6
 have S6':=(S5.new hdl _).newE ht0 hE
 clear hE
 refine ⟨t0,_,rfl,SqT.of (S6'.get t0),rfl,_,_,rfl,_,_,rfl,_,_,rfl,rfl,?_⟩
 obtain ⟨n0,hn0,S6⟩:∃ n0,n0<=200/\Sep (lwL K CH CR CS CT Pl Pq p h dl nl a ns [U,B,Z] (hsQ []) [0] n0) H6:=⟨_,by omega,((((((S6'.drop t0).pull nl).pull dl).pull Pq).pull Pl).pull h).pull p⟩
 clear S6' S5 S3
 refine ⟨_,rfl,?_⟩
 delta Zfx
 refine ⟨_,rfl,nl,_,rfl,SqL.of (S6.get nl),fun l2 hl2=>?_⟩
 rw [show ZdE ([U,B,Z].map V.str) none (some 2)=[U,B].map V.str from rfl]
 generalize hE:upd H6 l2 _=H7
 have S7:=S6.newE hl2 hE
 clear hE S6
 refine ⟨l2,rfl,⟨_,SqL.of (S7.get l2)⟩,?_⟩
 have hx3:U≠B/\U≠Z/\B≠Z:=by
  simp only [nodup_cons,mem_cons,not_mem_nil,or_false,not_or] at hxd
  exact ⟨hxd.1.1,hxd.1.2,hxd.2.1⟩
 refine ZiL (K:=K) (xs:=[U,B].map V.str) (fun i σ H'=>∃ y7,σ=[some (.ref a),some (.int (0+(i0:Int))),some (.ref p),some (.ref nl),some (.ref h),some (.ref dl),some (.int 0),y7,x8,x9,x10]/\Sep ((l2,Yi ([U,B].map V.str))::lwL K CH CR CS CT Pl Pq p h dl nl a ns [U,B,Z] (hsQ (([U,B].take i).map fun x=>(x,V.non))) [0] n0) H') ⟨_,rfl,S7⟩ ?_ ?_ ?_
 ·rintro i σ H' _ ⟨_,rfl,S'⟩;exact SqL.of (S'.get l2)
 ·clear S7
  rintro i v0 σ H6 hv0 ⟨y7,rfl,S6⟩
  rw [getElem?_map] at hv0
  obtain ⟨x,hx,rfl⟩:=Go.mp hv0
  obtain ⟨d0,r0,sp0,i0',t0',Sh⟩:=S6.get h
  obtain ⟨dx0,ob0⟩:=Sh.get h
  have e2:([U,B].take (i+1)).map (fun x=>(x,V.non))=([U,B].take i).map (fun x=>(x,V.non))++[(x,V.non)]:=by rw [Jf,hx,map_append];rfl
  have hq:x ∉ (([U,B].take i).map fun x=>(x,V.non)).map (·.1):=by
   match i,hx with
   | 0,e=>exact not_mem_nil
   | 1,e=>cases e;show B ∉ [U];rw [mem_singleton];exact fun z=>hx3.1 z.symm
   | _+2,e=>cases e
  refine ⟨_,rfl,h,dx0,_,rfl,ob0,Yn (by decide +kernel),_,rfl,h,hsQ (([U,B].take i).map fun x=>(x,V.non)),_,x,.non,_,rfl,S6.pull h,rfl,(by rw [length_map];exact Qq (List.length_take_le' ..) (show 2<=1000 by decide)),hq,fun H7 S7=>?_⟩
  refine ⟨_,rfl,?_⟩
  rw [e2]
  exact ((((S7.pull Pq).pull Pl).pull h).pull p).pull l2
 rintro σ H6 ⟨y7,rfl,S6⟩
 have S6:=S6.drop l2
 clear S7
 rw [show ([U,B].take ([U,B].map V.str).length).map (fun x=>(x,V.non))=[(U,V.non),(B,V.non)] from rfl] at S6
 have W0:KJ [U,B,Z] [(U,V.non),(B,V.non)] (hsQ [(U,V.non),(B,V.non)]) 0:=⟨⟨N,ZnW,fun p hp=>by rw [mem_singleton.mp hp];exact QH _⟩,rfl,rfl,rfl,rfl,rfl,Qh _,Qh _,rfl⟩
 refine ⟨fun J H'=>∃ (m n':Nat),J=Itr 0 m/\m<=39/\n'<=300/\Sep (lwL K CH CR CS CT Pl Pq p h dl nl a ns [U,B,Z] (hsQ [(U,V.non),(B,V.non)]) [0] n') H',?_,?_⟩
 ·refine ⟨_,rfl,p,_,2,_,rfl,S6,by omega,by decide,by decide,fun r2 H7 b0 b1 S7=>⟨rfl,_,rfl,UW (fun c=>?_) (fun c=>?_)⟩⟩
  ·exact ⟨39,rfl,by decide,by decide,39,_,rfl,by decide,by omega,S7⟩
  ·exact ⟨_,rfl,p,_,40,_,rfl,S7,by omega,by decide,by decide,fun r3 H8 d0 d1 S8=>⟨_,rfl,by omega,by omega,r3.toNat,_,rfl,by omega,by omega,S8⟩⟩
 clear S6
 rintro J H6 ⟨m2,n1,rfl,hm2,hn1,S6⟩
 refine WD (fun i σ H'=>∃ y7 y8 y9 s,∃ n n2:Nat,σ=[some (.ref a),some (.int (0+(i0:Int))),some (.ref p),some (.ref nl),some (.ref h),some (.ref dl),some (.int (n:Int)),y7,y8,y9,x10]/\KJ [U,B,Z] [(U,V.non),(B,V.non)] s n/\n<=i/\s.spots.length=i+1/\n2<=300+60 * i/\Sep (lwL K CH CR CS CT Pl Pq p h dl nl a ns [U,B,Z] s s.spots n2) H') ⟨_,_,_,_,0,n1,rfl,W0,Qh _,rfl,by omega,S6⟩ ?_ ?_
 ·clear S6 W0
  rintro i σ H7 hi ⟨y7',y8,y9,s,n,n2,rfl,W,hni,hsl,hn2,S7⟩
  refine ⟨fun σ' H'=>∃ s',∃ n' n3:Nat,σ'=[some (.ref a),some (.int (0+(i0:Int))),some (.ref p),some (.ref nl),some (.ref h),some (.ref dl),some (.int (n':Int)),y7',some (.int (0+(i:Int))),y9,x10]/\KJ [U,B,Z] [(U,V.non),(B,V.non)] s' n'/\n'<=i+1/\s'.spots.length=i+1/\n3<=n2+53/\Sep (lwL K CH CR CS CT Pl Pq p h dl nl a ns [U,B,Z] s' s'.spots n3) H',?_,?_⟩
  ·refine ⟨_,rfl,p,_,3,_,rfl,S7,by omega,by decide,by decide,fun r3 H8 d0 d1 S8=>⟨rfl,_,rfl,UW (fun c=>?_) (fun c=>⟨s,n,_,rfl,W,by omega,hsl,by omega,S8⟩)⟩⟩
   clear S7
   obtain ⟨d,r,sp,il,t0',Sh⟩:=S8.get h
   obtain ⟨dx0,ob0⟩:=Sh.get h
   refine ⟨_,rfl,h,dx0,_,rfl,ob0,Yn (by decide +kernel),_,rfl,_,rfl,p,_,2,_,rfl,S8,by omega,by decide,by decide,fun r4 H9 e0 e1 S9=>?_⟩
   obtain ⟨x,hx,hxq⟩:∃ x,[U,B,Z][r4.toNat]?=some x/\(x,V.non)∈[(U,V.non),(B,V.non)]:=by
    have:r4=0\/r4=1:=by omega
    rcases this with rfl | rfl
    ·exact ⟨_,rfl,mem_cons_self ..⟩
    ·exact ⟨_,rfl,mem_cons_of_mem _ (mem_cons_self ..)⟩
   have hxm:=mem_of_getElem? hx
   refine ⟨nl,_,_,_,rfl,rfl,SqL.of (S9.get nl),(by rw [show r4=((r4.toNat:Nat):Int) by omega];exact ZK (show ([U,B,Z].map V.str)[r4.toNat]?=some (.str x) by rw [getElem?_map,hx];rfl)),?_⟩
   refine ⟨_,rfl,p,_,_,rfl,S9,by omega,fun v H10 hv S10=>?_⟩
   obtain ⟨G,hG⟩:=W.env
   refine ⟨[U,B,Z],h,s,0,n,x,v,G,_,rfl,(S10.pull Pl).pull h,W.I,W.hb (by omega),by rw [W.ins];rfl,W.s0,hG,hxm,hv,?_,fun H11 t' c' nds tabs S11 I11 l1 l2=>?_⟩
   ·rw [W.df]
    have hq2:([(U,V.non),(B,V.non)].map (·.1)).Nodup:=by
     show [U,B].Nodup
     simp only [nodup_cons,mem_cons,not_mem_nil,or_false,not_false_eq_true,SY,and_true];exact hx3.1
    rw [ZdI hq2 hxq];rfl
   have W':=W.st (o:=(G x).getD .non) I11 l1 l2
   refine ⟨_,rfl,_,_,rfl,rfl,_,rfl,_,rfl,?_⟩
   have hix:XS (s.spots.map nI).length 0=some 0:=by unfold XS;rw [length_map,hsl,if_pos (OW 0),if_pos (by omega)];rfl
   refine ⟨dl,_,_,0,rfl,rfl,S11.get dl,hix,?_⟩
   have S12:=S11.put dl (.lst ((s.spots.map nI).set 0 (.int ((n:Int)+1))))
   generalize upd H11 dl _=H12 at S12 ⊢
   obtain ⟨s',hs',hsp⟩:∃ s':Hs,s'={ hGo s 0 n (.set x v) t' c' nds tabs with fds:=s.fds++[⟨0,x,(G x).getD .non⟩],us:=s.us++[true] }/\s'.spots=s.spots.set 0 (n+1):=⟨_,rfl,by show s.spots.set 0 (s.pls.length+1)=_;rw [W.pl]⟩
   have S13:Sep (lwL K CH CR CS CT Pl Pq p h dl nl a ns [U,B,Z] s' s'.spots (n2+1+1+50)) H12:=by
    unfold lwL
    rw [hsp,Sj,hs']
    exact (((S12.pull Pq).pull Pl).pull h).pull p
   exact ⟨s',n+1,_,rfl,by rw [hs'];exact W',by omega,by rw [hsp,length_set];exact hsl,by omega,S13⟩
  clear S7 W hni hsl
  rintro σ H8 ⟨s',n',n3,rfl,W,hni,hsl,hn3,S7⟩
  refine zs4 ?_
  intro zD zS zN3 zN2 zN1
  have hlm:(s'.spots.map nI).length=i+1:=by rw [length_map];exact hsl
  refine ⟨_,rfl,_,rfl,dl,_,rfl,.inl (SqL.of (S7.get dl)),p,_,_,_,rfl,S7,by omega,by omega,by omega,fun r4 H9 e0 e1 S9=>?_⟩
  obtain ⟨kk,rfl⟩:∃ z:Nat,r4=(z:Int):=⟨r4.toNat,by omega⟩
  obtain ⟨pk,hpk⟩:∃ pk,s'.spots[kk]?=some pk:=⟨_,getElem?_eq_getElem (by omega)⟩
  obtain ⟨d,r,sp,il,t0',Sh⟩:=S9.get h
  obtain ⟨dx0,ob0⟩:=Sh.get h
  refine ⟨_,rfl,h,dx0,_,rfl,ob0,Yn (by decide +kernel),_,rfl,h,s',kk,pk,_,rfl,S9.pull h,by omega,hpk,fun H10 S10=>?_⟩
  obtain ⟨u1,u2,u3,u4⟩:=ZbP (H:=H10) (Zbl (n:=s'.spots.length) (by omega))
  refine ⟨_,_,rfl,u1,u2,u3,u4,_,rfl,dl,_,rfl,.inl (SqL.of (S10.get dl)),.inl ⟨_,rfl,VB (by omega),rfl,_,rfl,?_⟩⟩
  rw [show (!decide (V.str (Xa (nI s'.spots.length)).shown=V.str (Qw (SI (((s'.spots.map nI).length:Nat):Int)))))=false by rw [length_map];exact Uz _]
  refine Ya ?_
  refine ⟨_,rfl,.inl ⟨rfl,_,SqL.of (S10.get dl)⟩,_,rfl,_,rfl,dl,_,_,_,rfl,rfl,SqL.of (S10.get dl),ZK (show (s'.spots.map nI)[kk]?=some (nI pk) by rw [getElem?_map,hpk];rfl),dl,_,_,rfl,rfl,S10.get dl,YO (show _<=1000 by omega),?_⟩
  have S11':=S10.put dl (.lst (s'.spots.map nI++[nI pk]))
  generalize upd H10 dl _=H11 at S11' ⊢
  obtain ⟨s2,hs2,hsp2⟩:∃ s2:Hs,s2={ s' with spots:=s'.spots++[pk] }/\s2.spots=s'.spots++[pk]:=⟨_,rfl,rfl⟩
  have W2:KJ [U,B,Z] [(U,V.non),(B,V.non)] s2 n':=by rw [hs2];exact W.cp hpk
  have S11:Sep (lwL K CH CR CS CT Pl Pq p h dl nl a ns [U,B,Z] s2 s2.spots (n3+1)) H11:=by
   unfold lwL
   rw [hsp2,map_append,hs2]
   exact (((S11'.pull Pq).pull Pl).pull h).pull p
  have hsl2:s2.spots.length=i+1+1:=by rw [hsp2,length_append,hsl];rfl
  have hlm2:(s2.spots.map nI).length=i+1+1:=by rw [length_map];exact hsl2
  clear S11' S10 S9 S7 W hs2 hsp2 hsl hlm hpk u1 u2 u3 u4 Sh
  obtain ⟨d,r,sp,il,t0',Sh⟩:=S11.get h
  obtain ⟨dx0,ob0⟩:=Sh.get h
  obtain ⟨u1,u2,u3,u4⟩:=ZbP (H:=H11) (Zbl (n:=s2.spots.length) (by omega))
  refine ⟨_,rfl,h,dx0,_,rfl,ob0,Yn (by decide +kernel),h,s2,rfl,S11.get h,_,_,rfl,u1,u2,u3,u4,_,rfl,dl,_,rfl,.inl (SqL.of (S11.get dl)),.inl ⟨_,rfl,VB (by omega),rfl,_,rfl,?_⟩⟩
  rw [show (!decide (V.str (Xa (nI s2.spots.length)).shown=V.str (Qw (SI (((s2.spots.map nI).length:Nat):Int)))))=false by rw [length_map];exact Uz _]
  exact Ya ⟨_,_,_,s2,n',_,rfl,W2,hni,hsl2,by omega,S11⟩
 clear S6 W0
 rintro σ H6 ⟨y7',y8,y9,s,n,n2,rfl,W,hni,hsl,hn2,S6⟩
 have hlm:(s.spots.map nI).length=m2+1:=by rw [length_map];have:=hsl;omega
 have hsm:∀ x∈s.spots,x<=1000000:=fun x hx=>by have:=W.I.sp x hx;rw [W.pl] at this;omega
 refine ⟨2,rfl,by decide,by decide,?_⟩
 refine WD (fun i σ H'=>∃ y10,σ=[some (.ref a),some (.int (0+(i0:Int))),some (.ref p),some (.ref nl),some (.ref h),some (.ref dl),some (.int (n:Int)),y7',y8,y9,y10]/\Sep (lwL K CH CR CS CT Pl Pq p h dl nl a ns [U,B,Z] s s.spots n2) H') ⟨_,rfl,S6⟩ ?_ ?_
 ·clear S6
  rintro i σ H7 hi ⟨y10,rfl,S7⟩
  refine ⟨_,rfl,dl,_,rfl,.inl (SqL.of (S7.get dl)),_,rfl,by omega,by omega,fun D hD=>?_⟩
  refine Zan (Wf (show _<=1000 by omega)) S7 hD (fun i ys Δ'=>ys=(s.spots.take i).map nI/\Δ'=_) ⟨rfl,rfl⟩ ?_ ?_
  ·rintro j ys Δ' H' hj hl ⟨rfl,rfl⟩ S'
   obtain ⟨d,r,sp,il,tk,Sh⟩:=(S'.get h)
   obtain ⟨dx6,ob6⟩:=Sh.get h
   obtain ⟨pk,hpk⟩:∃ pk,s.spots[j]?=some pk:=⟨_,getElem?_eq_getElem (by omega)⟩
   refine ⟨_,rfl,h,dx6,_,rfl,ob6,Yn (by decide +kernel),_,rfl,h,s,j,pk,congrArg (fun z=>[V.ref h,V.int z]) (Int.zero_add _),S'.get h,hpk,_,⟨?_,rfl⟩,S'⟩
   rw [Jf,hpk,map_append];rfl
  rintro ys Δ' H' ⟨rfl,rfl⟩ hl S'
  have e:(s.spots.take ((((s.spots.map nI).length:Nat):Int)).toNat)=s.spots:=JM (by omega)
  have S8:=S'
  rw [e] at S8
  obtain ⟨u1,u2,u3,u4⟩:=ZcO (S8.get D) (Zfe hsm) (by omega)
  obtain ⟨v1,v2,v3,v4⟩:=ZcO (S8.get dl) (Zfe hsm) (by omega)
  refine ⟨_,_,rfl,u1,u2,u3,u4,_,rfl,_,_,rfl,v1,v2,v3,v4,rfl,_,rfl,?_⟩
  rw [Uz]
  exact Ya ⟨_,rfl,S8.drop D⟩
 clear S6
 rintro σ H6 ⟨y10,rfl,S6⟩
 refine ⟨_,rfl,_,rfl,_,rfl,_,rfl,_,rfl,p,_,3,_,rfl,S6,by omega,by decide,by decide,fun r4 H7 e0 e1 S7=>?_⟩
 obtain ⟨x,hx⟩:∃ x,[U,B,Z][r4.toNat]?=some x:=⟨_,getElem?_eq_getElem (by show r4.toNat < 3;omega)⟩
 refine ⟨nl,_,_,_,rfl,rfl,SqL.of (S7.get nl),(by rw [show r4=((r4.toNat:Nat):Int) by omega];exact ZK (show ([U,B,Z].map V.str)[r4.toNat]?=some (.str x) by rw [getElem?_map,hx];rfl)),?_⟩
 refine ⟨p,h,dl,_,x,s,_,rfl,((S7.pull Pq).pull dl).pull h |>.pull p,by omega,W.ins,by omega,fun n' H8 hn' S8=>⟨true,rfl,Ya ?_⟩⟩
 obtain ⟨d,r,sp,il,t0',Sh⟩:=S8.get h
 obtain ⟨dx0,ob0⟩:=Sh.get h
 obtain ⟨u1,u2,u3,u4⟩:=ZbP (H:=H8) (Zbl (n:=s.spots.length) (by omega))
 refine ⟨_,rfl,h,dx0,_,rfl,ob0,Yn (by decide +kernel),h,s,rfl,S8.get h,_,_,rfl,u1,u2,u3,u4,_,rfl,dl,_,rfl,.inl (SqL.of (S8.get dl)),.inl ⟨_,rfl,VB (by omega),rfl,_,rfl,?_⟩⟩
 rw [show (!decide (V.str (Xa (nI s.spots.length)).shown=V.str (Qw (SI (((s.spots.map nI).length:Nat):Int)))))=false by rw [length_map];exact Uz _]
 refine Ya ⟨_,rfl,h,dx0,_,rfl,ob0,Yn (by decide +kernel),h,s,0,n,rfl,S8.get h,W.s0,_,rfl,rfl,_,rfl,?_⟩
 rw [Uz]
 exact Ya ⟨_,_,_,_,_,_,_,_,_,_,rfl,(((((S8.drop dl).drop nl).drop h).drop p).pull Pq).pull Pl⟩
end
section
variable {P:Qk}{w:Qt}{K:Qa}{mg:Str->Option Qb}{base:Heap}
theorem scXi:Zp ["self","what"] ["self","what"] (Zj c_RoadError___init__):={}
theorem UZ {f:Addr}{fd:Qn}(F:Fun K "__init__" "RoadError.__init__" c_RoadError___init__ f fd):FnOk P w K mg base ZI 1 f fd ["self","what"] (ZgC K):=by
 refine F.ok scXi (fun J A outer s H vs Q E S h=>?_)
 obtain ⟨ea,C,I,v,rfl,B,G,q⟩:=h
 refine' ⟨?t,?h,?r⟩
 case h =>
  conv=>arg 2;whnf
  with_reducible refine' (Zi ?h1)
  case h1=>exact Zlh (pv 0) (pv 1) rfl
 exact ⟨_,rfl,_,rfl,ea,C,I,rfl,B,G,fun dx h1 h2=>q dx h1 h2⟩
end
end K33
namespace K33
open PySem L2
open PySem.W in
theorem all_mk {l:Sr}{w:Qt}{K:Qa}{h:Heap}{mg:Str->Option Qb}{fa:Addr}
 {ax sf t6 sg qo ql ph pf pc lz km gl l0 ir ny jk g8 jl nv g9 i5 ma gk kl jj kj nr ly kn ko gz kf lx pb nn lv fi jh i4 ke g7 ji nq kr qm pd nz n5 pe gm ui aa ad ae ac ak aw ai ay ag be bh bc b9 al aq ba bj az ao am bn bi fg o0 P_law_refused_right P_leaf_of:Addr} {dk sd tw se qk qh o7 o6 o4 ll j8 gg lm iq m9 en gy er im cw dy lr gf j7 jg j6 m7 lj j9 ka cr j5 gx o1 ik gw cg eg i2 f6 cu eh m5 kc qj i3 ng nj o5 gj rq:Qn} (X:K.In h) (G:h.Ns Ql mg) (hfa:mg "law"=some (.ref fa))
 (li:CH K "Store" aa)
 (jr:Qv K (.ref aa) "nodes"=some none)
 (i9:Qv K (.ref aa) "tables"=some none)
 (lh:CH K "Roads" ad)
 (kx:Qv K (.ref ad) "kept"=some none)
 (i6:Qv K (.ref ad) "aheads"=some none)
 (jq:Qv K (.ref ad) "steps"=some none)
 (i7:Qv K (.ref ad) "tables"=some none)
 (jp:Qv K (.ref ad) "costs"=some none)
 (jv:CH K "Tokens" ae)
 (ja:Qv K (.ref ae) "finds"=some none)
 (iw:Qv K (.ref ae) "unused"=some none)
 (ou:CH K "Hall" ac)
 (iu:Qv K (.ref ac) "defaults"=some none)
 (mq:Qv K (.ref ac) "ways"=some none)
 (ku:Qv K (.ref ac) "spots"=some none)
 (jo:Qv K (.ref ac) "inside"=some none)
 (mo:Qv K (.ref ac) "held"=some none)
 (mj:Qp K Ql "RoadError"=some (some (.ref ak)))
 (rh:Qp K Ql "Known"=some (some (.ref aw)))
 (me:Qp K Ql "NoSetting"=some (some (.ref ai)))
 (pp:Qp K Ql "Missing"=some (some (.ref ay)))
 (p9:Qp K Ql "NoWorld"=some (some (.ref ag)))
 (so:Qp K Ql "Busy"=some (some (.ref be)))
 (qv:Qp K Ql "AtHome"=some (some (.ref bh)))
 (p8:Qp K Ql "NoToken"=some (some (.ref bc)))
 (sq:Qp K Ql "Used"=some (some (.ref b9)))
 (md:Qp K Ql "Elsewhere"=some (some (.ref al)))
 (mi:Qp K Ql "OutOfTurn"=some (some (.ref aq)))
 (pw:Qp K Ql "NoTable"=some (some (.ref ba)))
 (qx:Qp K Ql "NoNode"=some (some (.ref bj)))
 (pq:Qp K Ql "NoPlace"=some (some (.ref az)))
 (mh:Qp K Ql "NotBehind"=some (some (.ref ao)))
 (mf:Qp K Ql "NoWatcher"=some (some (.ref am)))
 (qy:Qp K Ql "NoTask"=some (some (.ref bn)))
 (qw:Qp K Ql "BadRow"=some (some (.ref bi)))
 (aj:FM K ak "__init__" "RoadError.__init__" c_RoadError___init__ ax dk)
 (jm:FG K "alike" s_alike sf sd)
 (ml:FG K "mark" s_mark t6 tw)
 (jn:FG K "digit" s_digit sg se)
 (ic:FGC K "leaf_of" s_leaf_of qo qk o0 P_leaf_of)
 (ia:FG K "fork_of" s_fork_of ql qh)
 (fw:FG K "parts_in" s_parts_in ph o7)
 (fv:FG K "pairs_in" s_pairs_in pf o6)
 (fk:FG K "has_mark" s_has_mark pc o4)
 (dq:FM K aa "__init__" "Store.__init__" c_Store___init__ lz ll)
 (da:FM K aa "empty" "Store.empty" c_Store_empty km j8)
 (bt:FM K aa "check_table" "Store.check_table" c_Store_check_table gl gg)
 (du:FM K aa "keep" "Store.keep" c_Store_keep l0 lm)
 (b8:FM K aa "as_table" "Store.as_table" c_Store_as_table ir iq)
 (d5:FM K aa "way" "Store.way" c_Store_way ny m9)
 (bg:FM K aa "looked" "Store.looked" c_Store_looked jk en)
 (bx:FM K aa "fork_parts" "Store.fork_parts" c_Store_fork_parts g8 gy)
 (bz:FM K aa "put_in" "Store.put_in" c_Store_put_in jl er)
 (d4:FM K aa "put" "Store.put" c_Store_put nv im)
 (bd:FM K aa "taken_from" "Store.taken_from" c_Store_taken_from g9 cw)
 (cj:FM K aa "without" "Store.without" c_Store_without i5 dy)
 (dv:FM K aa "made" "Store.made" c_Store_made ma lr)
 (br:FM K ad "check_place" "Roads.check_place" c_Roads_check_place gk gf)
 (cz:FM K ad "table" "Roads.table" c_Roads_table kl j7)
 (cm:FM K ad "looked" "Roads.looked" c_Roads_looked jj jg)
 (cy:FM K ad "go_on" "Roads.go_on" c_Roads_go_on kj j6)
 (d3:FM K ad "put" "Roads.put" c_Roads_put nr m7)
 (dn:FM K ad "__init__" "Roads.__init__" c_Roads___init__ ly lj)
 (db:FM K ae "__init__" "Tokens.__init__" c_Tokens___init__ kn j9)
 (dc:FM K ae "make" "Tokens.make" c_Tokens_make ko ka)
 (av:FM K ac "check_world" "Hall.check_world" c_Hall_check_world gz cr)
 (cx:FM K ac "worlds" "Hall.worlds" c_Hall_worlds kf j5)
 (bw:FM K ac "place" "Hall.place" c_Hall_place lx gx)
 (fj:FM K ac "now" "Hall.now" c_Hall_now pb o1)
 (b7:FM K ac "copy" "Hall.copy" c_Hall_copy nn ik)
 (dm:FM K ac "enter" "Hall.enter" c_Hall_enter lv gw)
 (bp:FM K ac "check_setting" "Hall.check_setting" c_Hall_check_setting fi cg)
 (bf:FM K ac "declare" "Hall.declare" c_Hall_declare jh eg)
 (ci:FM K ac "value_in" "Hall.value_in" c_Hall_value_in i4 i2)
 (bq:FM K ac "set_to" "Hall.set_to" c_Hall_set_to ke f6)
 (bv:FM K ac "open_tokens" "Hall.open_tokens" c_Hall_open_tokens g7 cu)
 (ck:FM K ac "look_in" "Hall.look_in" c_Hall_look_in ji eh)
 (dz:FM K ac "__init__" "Hall.__init__" c_Hall___init__ nq m5)
 (de:FG K "_law_cell_at" s_l_cell_at kr kc)
 (ib:FG K "_law_box" s_l_box qm qj)
 (dg:FG K "_law_take" s_l_take pd i3)
 (d6:FG K "_law_names" s_l_names nz ng)
 (d7:FG K "_law_value" s_l_value n5 nj)
 (fm:FG K "_law_told" s_l_told pe o5)
 (bu:FGC K "_law_refused_right" s_l_refused_right gm gj fg P_law_refused_right)
 (qa:FG K "law" s_law ui rq)
 (u7:Qp K Ql "len"=some none)
 (uz:Qp K Ql "abs"=some none)
 (u6:Qp K Ql "int"=some none)
 (sw:Qp K Ql "range"=some none)
 (u9:Qp K Ql "min"=some none)
 (u8:Qp K Ql "max"=some none)
 (ug:Qp K Ql "repr"=some none)
 (oo:Qp K Ql "enumerate"=some none)
 (va:Qp K Ql "ord"=some none)
 (uf:Qp K Ql "list"=some none)
 (tj:Qp K Ql "tuple"=some none)
 (ue:Qp K Ql "dict"=some none)
 (rp:Qp K Ql "sorted"=some none)
 (vd:Qp K Ql "sum"=some none)
 (u0:Qp K Ql "all"=some none)
 (u5:Qp K Ql "any"=some none)
 (rn:Qp K Ql "divmod"=some none)
 (vc:Qp K Ql "str"=some none)
 (mr:Qp K Ql "isinstance"=some none)
 (vb:Qp K Ql "set"=some none)
 (vf:Qp K Ql "zip"=some none)
 (qd:Qp K Ql "reversed"=some none)
 (ud:Qp K Ql "bool"=some none)
 {tb:Tok}
 (gBASE:Qp K Ql "BASE"=some (some (.int 4 tb)))
 {tz:Tok}
 (gZERO:Qp K Ql "BARE_NUMBER"=some (some (.int 0 tz)))
 {ab:Addr}
 (gBARE:Qp K Ql "BARE"=some (some (.ref ab)))
 (tBARE:Zdo K ab [.str "bare"]=true)
 {af:Addr}
 (gFIG:Qp K Ql "FIGURES"=some (some (.ref af)))
 (tFIG:Zdo K af [.int 0,.int 1,.int 2,.int 3]=true)
 (zVE:Qp K Ql "ValueError"=some none)
 (ox:VU K ak aw ax [aw,ai,ay,ag,be,bh,bc,b9,al,aq] [ba,bj,az,ao] [am,bn,bi] 0=true)
 (ip:VU K ak ai ax [aw,ai,ay,ag,be,bh,bc,b9,al,aq] [ba,bj,az,ao] [am,bn,bi] 1=true)
 (jx:VU K ak ag ax [aw,ai,ay,ag,be,bh,bc,b9,al,aq] [ba,bj,az,ao] [am,bn,bi] 3=true)
 (q9:VU K ak be ax [aw,ai,ay,ag,be,bh,bc,b9,al,aq] [ba,bj,az,ao] [am,bn,bi] 4=true) :
 ∃ fd:Qn,(∀ (s:Qe) (v:Qb),PD s fd ⟨[v],[]⟩ [("_law_script",v)])/\∀ base:Heap,K.In base->base.Ns Ql mg->XX base mg->FnOk l.prog w K mg base ZI 19 fa fd ["_law_script"] (Zbx K P_leaf_of P_law_refused_right):=by
 have e:=hfa.symm.trans (Gx X G qa.a)
 cases e
 have uo:=QO X G u7
 have uj:=QO X G uz
 have um:=QO X G u6
 have sr:=QO X G sw
 have ur:=QO X G u9
 have uq:=QO X G u8
 have uc:=QO X G ug
 have om:=QO X G oo
 have ut:=QO X G va
 have ub:=QO X G uf
 have su:=QO X G tj
 have ua:=QO X G ue
 have rm:=QO X G rp
 have uw:=QO X G vd
 have uk:=QO X G u0
 have ul:=QO X G u5
 have rj:=QO X G rn
 have uv:=QO X G vc
 have mn:=QO X G mr
 have uu:=QO X G vb
 have ux:=QO X G vf
 have qc:=QO X G qd
 have t9:=QO X G ud
 have sj:=Gx X G gBASE
 have sk:=Gx X G gZERO
 have si:=Gx X G gBARE
 have t8:=Gx X G gFIG
 have oj:=Gx X G mj
 have ow:=Gx X G rh
 have io:=Gx X G me
 have qq:=Gx X G pp
 have jw:=Gx X G p9
 have qp:=Gx X G so
 have rc:=Gx X G qv
 have qu:=Gx X G p8
 have t7:=Gx X G sq
 have n6:=Gx X G md
 have oi:=Gx X G mi
 have qt:=Gx X G pw
 have rf:=Gx X G qx
 have qr:=Gx X G pq
 have oh:=Gx X G mh
 have og:=Gx X G mf
 have rg:=Gx X G qy
 have rd:=Gx X G qw
 have rb:=li.c
 have ra:=lh.c
 have qg:=jv.c
 have r8:=ou.c
 have TB:Ym mg:=⟨uo,uj,um,sr,ur,uq,uc,om,ut,ub,su,ua,rm,uw,uk,ul,rj,uv,mn,uu,ux,qc,t9⟩
 have T:Txt K mg:=⟨TB,⟨_,sj⟩,⟨_,sk⟩,⟨_,si,Zet tBARE⟩,⟨_,t8,Zet tFIG⟩⟩
 have TC:Xm K aa:=⟨rb,jr,i9⟩
 have TR:UP K ad:=⟨ra,kx,i6,jq,i7,jp⟩
 have TT:ZfM K ae:=⟨qg,ja,iw⟩
 have TH:XD K ac:=⟨r8,iu,mq,ku,jo,mo⟩
 have vg:=QO X G zVE
 have TE:=ZlB (K:=K) oj vg ow io qq jw qp rc qu t7 n6 oi qt rf qr oh og rg rd
 have vh:RK K ak [aw,ai,ay,ag,be,bh,bc,b9,al,aq,ba,bj,az,ao,am,bn,bi] aw "known":=⟨0,(WC ox).1,rfl⟩
 have uh:RK K ak [aw,ai,ay,ag,be,bh,bc,b9,al,aq,ba,bj,az,ao,am,bn,bi] ai "setting":=⟨1,(WC ip).1,rfl⟩
 have qz:RK K ak [aw,ai,ay,ag,be,bh,bc,b9,al,aq,ba,bj,az,ao,am,bn,bi] ag "world":=⟨3,(WC jx).1,rfl⟩
 have vi:RK K ak [aw,ai,ay,ag,be,bh,bc,b9,al,aq,ba,bj,az,ao,am,bn,bi] be "busy":=⟨4,(WC q9).1,rfl⟩
 refine ⟨rq,fun s v=>Zhs qa.F (fun _ _ _ _ _ _ _=>rfl) s v,fun base _ _ hBm=>?_⟩
 have e:Bs l.prog w K mg base h:=⟨X,G⟩
 have bo:Binds K dk ["self","what"] []:=aj.F.b2 fun _ _ _ _ _ _ _ _=>rfl
 have oq:UL l.prog w K mg base 1 aw "Known":=⟨_,_,(UZ aj.F).mono (by decide),bo,(WC ox).2 aj.m.fn,ow⟩
 have mw:UL l.prog w K mg base 1 ai "NoSetting":=⟨_,_,(UZ aj.F).mono (by decide),bo,(WC ip).2 aj.m.fn,io⟩
 have js:UL l.prog w K mg base 1 ag "NoWorld":=⟨_,_,(UZ aj.F).mono (by decide),bo,(WC jx).2 aj.m.fn,jw⟩
 have tu:UL l.prog w K mg base 2 be "Busy":=⟨_,_,(UZ aj.F).mono (by decide),bo,(WC q9).2 aj.m.fn,qp⟩
 have rz:=jm.df e (ZiZ jm.F) (jm.F.b2 fun _ _ _ _ _ _ _ _=>rfl)
 have gs:=ml.df e (ZkR ml.F T) (ml.F.b1 fun _ _ _ _ _ _ _=>rfl)
 have ie:=jn.df e (Zjb jn.F T) (jn.F.b2 fun _ _ _ _ _ _ _ _=>rfl)
 have ju:=ic.df e (ZkO ic.F T hBm gs) (ic.F.fn.b1 fun _ _ _ _ _ _ _=>rfl)
 have jt:=ia.df e (ZhD ia.F T) (ia.F.b1 fun _ _ _ _ _ _ _=>rfl)
 have fc:=fw.df e (Zji fw.F) (fw.F.b1 fun _ _ _ _ _ _ _=>rfl)
 have ce:=fv.df e (Zjh fv.F) (fv.F.b1 fun _ _ _ _ _ _ _=>rfl)
 have iy:=fk.df e (ZkL fk.F) (fk.F.b2 fun _ _ _ _ _ _ _ _=>rfl)
 have kz:=dq.di li e (FnOk.conv (sp':=Zae K aa) (ZkM dq.F T TC) (fun _ _ _ _ h=>Zmd h)) (dq.F.b1 fun _ _ _ _ _ _ _=>rfl)
 have j1:=da.df e (Zjc (C:=aa) da.F T) (da.F.b1 fun _ _ _ _ _ _ _=>rfl)
 have f9:=bt.df e (Zja bt.F TC) (bt.F.b2 fun _ _ _ _ _ _ _ _=>rfl)
 have gp:=du.df e (ZkN du.F T TC) (du.F.b2 fun _ _ _ _ _ _ _ _=>rfl)
 have dh:=b8.df e (Zmr b8.F TC) (b8.F.b2 fun _ _ _ _ _ _ _ _=>rfl)
 have ii:=d5.df e (ZmD d5.F T TC f9 fc gs ie) (d5.F.b3 fun _ _ _ _ _ _ _ _ _=>rfl)
 have ee:Binds K en ["self","table","name"] []:=bg.F.b3 fun _ _ _ _ _ _ _ _ _=>rfl
 have d8:DefM l.prog w K mg base 3 aa "looked" ["self","table","name"] (WB K aa):=⟨_,_,ZcA bg.F T TC ii ce,ee,bg.m⟩
 have j2:DefM l.prog w K mg base 3 aa "looked" ["self","table","name"] (Zaf K aa):=⟨_,_,Zmn (ZcA bg.F T TC ii ce),ee,bg.m⟩
 have gn:=bx.df e (ZnM bx.F T TC fc ce gs ie) (bx.F.b3 fun _ _ _ _ _ _ _ _ _=>rfl)
 have ef:Binds K er ["self","number","level","name","value"] []:=bz.F.b5 fun _ _ _ _ _ _ _ _ _ _ _=>rfl
 have jd:∀ NS,Yr NS->DefM l.prog w K mg base 8 aa "put_in" nPi (VL K aa P_leaf_of NS 6):=fun NS N=>⟨_,_,Zfi N bz.F T TC iy ce gs ie ju jt gp gn ef bz.m 6,ef,bz.m⟩
 have m4:Binds K im ["self","table","name","value"] []:=d4.F.b4 fun _ _ _ _ _ _ _ _ _ _=>rfl
 have mx:DefM l.prog w K mg base 9 aa "put" ["self","table","name","value"] (Zby K aa P_leaf_of):=⟨_,_,ZnS fun NS N=>ZmA N d4.F TC rz d8 dh (jd NS N),m4,d4.m⟩
 have cq:Binds K cw ["self","number","level","name"] []:=bd.F.b4 fun _ _ _ _ _ _ _ _ _ _=>rfl
 have gq:∀ NS,Yr NS->DefM l.prog w K mg base 8 aa "taken_from" nTk (ZbA K aa P_leaf_of NS 6):=fun NS N=>⟨_,_,Zfj N bd.F T TC iy fc ce gs ie ju jt gp cq bd.m 6,cq,bd.m⟩
 have iz:Binds K dy ["self","table","name"] []:=cj.F.b3 fun _ _ _ _ _ _ _ _ _=>rfl
 have ix:DefM l.prog w K mg base 9 aa "without" ["self","table","name"] (Zdm K aa P_leaf_of):=⟨_,_,wo_S fun NS N=>ZnO N cj.F TC d8 dh (gq NS N),iz,cj.m⟩
 have k9:=dv.df e (ZkP dv.F T TC) (dv.F.b1 fun _ _ _ _ _ _ _=>rfl)
 have f8:=br.df e (ZkU (CS:=aa) br.F TB TR) (br.F.b2 fun _ _ _ _ _ _ _ _=>rfl)
 have fx:=cz.df e (Zjj cz.F TB TR f8) (cz.F.b2 fun _ _ _ _ _ _ _ _=>rfl)
 have jc:=cm.df e (Zmx cm.F TB TR TC (fx.mono (by decide)) (j2.mono (by decide))) (cm.F.b3 fun _ _ _ _ _ _ _ _ _=>rfl)
 have j0:=cy.df e (ZkK cy.F TB TR TC (fx.mono (by decide)) (k9.mono (by decide)) mx ix) (cy.F.b3 fun _ _ _ _ _ _ _ _ _=>rfl)
 have ig:=d3.df e (ZkS d3.F TB TR j0) (d3.F.b4 fun _ _ _ _ _ _ _ _ _ _=>rfl)
 have ky:=dn.di lh e ((Zje dn.F TB TR TC kz (j1.mono (by decide))).mono (show 3<=11 by decide)) (dn.F.b1 fun _ _ _ _ _ _ _=>rfl)
 have j3:=db.di jv e (Zjf db.F TB TT) (db.F.b1 fun _ _ _ _ _ _ _=>rfl)
 have fy:=dc.df e (ZkQ dc.F TB TT) (dc.F.b4 fun _ _ _ _ _ _ _ _ _ _=>rfl)
 have cn:Binds K cr ["self","world"] []:=av.F.b2 fun _ _ _ _ _ _ _ _=>rfl
 have au:DefMX l.prog w K mg base 3 ac "check_world" Ul (WH K ac ad aa ae ag):=⟨_,_,Zff av.F TB TH js,cn,av.m⟩
 have qe:DefM l.prog w K mg base 3 ac "check_world" Ul (Zgv K ac ad aa ae):=⟨_,_,FnOk.low (Zff av.F TB TH js) fun _ _ _ _ z=>ZnE z,cn,av.m⟩
 have jz:=cx.df e (ZmE (CH:=ac) (CR:=ad) (CS:=aa) (CT:=ae) cx.F TB TH) (cx.F.b1 fun _ _ _ _ _ _ _=>rfl)
 have gv:Binds K gx ["self","world"] []:=bw.F.b2 fun _ _ _ _ _ _ _ _=>rfl
 have dj:DefMX l.prog w K mg base 4 ac "place" WO (UJ K ac ad aa ae ag):=⟨_,_,Zfh bw.F TB TH au,gv,bw.m⟩
 have cb:DefM l.prog w K mg base 4 ac "place" WO (Zag K ac ad aa ae):=⟨_,_,FnOk.low (Zfh bw.F TB TH au) fun _ _ _ _ z=>ZnR z,gv,bw.m⟩
 have eu:=fj.df e (Zmy (CH:=ac) (CR:=ad) (CS:=aa) (CT:=ae) fj.F TB TH) (fj.F.b1 fun _ _ _ _ _ _ _=>rfl)
 have ij:Binds K ik ["self","world"] []:=b7.F.b2 fun _ _ _ _ _ _ _ _=>rfl
 have m3:DefMX l.prog w K mg base 5 ac "copy" Zab (VJ K ac ad aa ae ag):=⟨_,_,Zfg b7.F TB TH dj,ij,b7.m⟩
 have mu:DefM l.prog w K mg base 5 ac "copy" Zab (Zad K ac ad aa ae):=⟨_,_,FnOk.low (Zfg b7.F TB TH dj) fun _ _ _ _ z=>ZlV z,ij,b7.m⟩
 have lg:Binds K gw ["self","world"] []:=dm.F.b2 fun _ _ _ _ _ _ _ _=>rfl
 have lb:DefMX l.prog w K mg base 4 ac "enter" ZcZ (Zdh K ac ad aa ae ag be):=⟨_,_,Zmu dm.F TB TH au tu,lg,dm.m⟩
 have fe:Binds K cg ["self","name"] []:=bp.F.b2 fun _ _ _ _ _ _ _ _=>rfl
 have cf:DefMX l.prog w K mg base 3 ac "check_setting" ZcY (Zdf K ac ad aa ae ai):=⟨_,_,Zmt bp.F TB TH mw,fe,bp.m⟩
 have d9:Binds K eg ["self","name","default"] []:=bf.F.b3 fun _ _ _ _ _ _ _ _ _=>rfl
 have r6:DefMX l.prog w K mg base 3 ac "declare" Zbp (Zdg K ac ad aa ae aw):=⟨_,_,ZhC bf.F TB TH oq,d9,bf.m⟩
 have jb:DefM l.prog w K mg base 3 ac "declare" Zbp (Zbw K ac ad aa ae):=⟨_,_,FnOk.low (ZhC bf.F TB TH oq) fun _ _ _ _ z=>ZnF z,d9,bf.m⟩
 have dw:=ci.df e (ZmC ci.F TB TH TR (cb.mono (by decide)) jc) (ci.F.b3 fun _ _ _ _ _ _ _ _ _=>rfl)
 have fz:Binds K f6 ["self","name","value"] []:=bq.F.b3 fun _ _ _ _ _ _ _ _ _=>rfl
 have tm:DefMX l.prog w K mg base 13 ac "set_to" Zbq (Zdl K ac ad aa ae P_leaf_of ai):=⟨_,_,ZhE bq.F TB TH TR TT (cf.mono (by decide)) (eu.mono (by decide)) (fy.mono (by decide)) (dw.mono (by decide)) (cb.mono (by decide)) (ig.mono (by decide)),fz,bq.m⟩
 have jy:DefM l.prog w K mg base 13 ac "set_to" Zbq (Zbz K ac ad aa ae P_leaf_of):=⟨_,_,FnOk.low (ZhE bq.F TB TH TR TT (cf.mono (by decide)) (eu.mono (by decide)) (fy.mono (by decide)) (dw.mono (by decide)) (cb.mono (by decide)) (ig.mono (by decide))) fun _ _ _ _ z=>Zot z,fz,bq.m⟩
 have gu:Binds K cu ["self","world"] []:=bv.F.b2 fun _ _ _ _ _ _ _ _=>rfl
 have gt:DefMX l.prog w K mg base 13 ac "open_tokens" Zdc (Zdk K ac ad aa ae ag):=⟨_,_,Zmz bv.F TB TH (au.mono (by decide)),gu,bv.m⟩
 have jf:Binds K eh ["self","world","name"] []:=ck.F.b3 fun _ _ _ _ _ _ _ _ _=>rfl
 have je:DefMX l.prog w K mg base 13 ac "look_in" Zda (Zdi K ac ad aa ae ag):=⟨_,_,Zmw ck.F TB TH (au.mono (by decide)),jf,ck.m⟩
 have mv:=dz.di ou e ((Zjd dz.F TB TH ky j3).mono (show 13<=17 by decide)) (dz.F.b1 fun _ _ _ _ _ _ _=>rfl)
 have j4:=de.df e (ZkJ de.F TB) (de.F.b2 fun _ _ _ _ _ _ _ _=>rfl)
 have qf:=ib.df e (FnOk.conv (sp':=Zbv K) (Zms ib.F TB j4) (fun _ _ _ _ h=>ZnD h)) (ib.F.b2 fun _ _ _ _ _ _ _ _=>rfl)
 have oz:Binds K i3 ["_law_box_here","_law_many"] []:=dg.F.b2 fun _ _ _ _ _ _ _ _=>rfl
 have DT0:ZjR l.prog w K mg base:=⟨_,_,ZkV dg.F,oz,dg.F.kp,(Gx X G dg.a)⟩
 have fb:DTk l.prog w K mg base 1:=DT0.conv fun _ _ _ _ h=>Znn h
 have my:=d6.df e (Zjg d6.F TB fb) (d6.F.b2 fun _ _ _ _ _ _ _ _=>rfl)
 have mz:=d7.df e (FnOk.conv (sp':=Vh) (Zjk d7.F T DT0) (fun _ _ _ _ h=>ZlE h)) (d7.F.b1 fun _ _ _ _ _ _ _=>rfl)
 have oy:=fm.df e (ZkW (kk:=15) fm.F TB TE) (fm.F.b1 fun _ _ _ _ _ _ _=>rfl)
 have ge:=bu.df e (ZnN bu.F hBm TB TH fb (m3.mono (by decide)) (dj.mono (by decide)) (lb.mono (by decide)) (gt.mono (by decide)) (je.mono (by decide)) (eu.mono (by decide)) qz (oy.mono (by decide))) (bu.F.fn.b4 fun _ _ _ _ _ _ _ _ _ _=>rfl)
 exact Zmv qa.F TB TH fb (qf.mono (by decide)) (my.mono (by decide)) (mz.mono (by decide)) mv (jb.mono (by decide)) (jy.mono (by decide)) (mu.mono (by decide)) (cb.mono (by decide)) (jz.mono (by decide)) (ge.mono (by decide))
theorem walk {l:Sr}{q:Qk}{loose:List Str}{XP:(Str->Option Qb)->Heap->Prop}{YP:Qt->Heap->Prop}{d:DefRec}{K:Params->Qa}{ts:List Addr}{P_law_refused_right P_leaf_of:Addr}(hn:l.most=some 63)(hdf:d.params.defaults=[])
 (hY:∀ (w:Qt) (h:Heap),YP w h->(K w.params).In h/\∀ b∈ts,h.get? b=some (PySem.W.tabObj #[]))
 (hK:∀ (w:Qt) (b:Addr),b∈ts->(K w.params).lookup b=none/\∃ c,PySem.W.codeHdIn (K w.params) c b=true)
 (hP_law_refused_right:P_law_refused_right∈ts) (hP_leaf_of:P_leaf_of∈ts) (hne:[P_leaf_of,P_law_refused_right].Nodup) (F:∀ (w:Qt) (mg:Str->Option Qb) (fa:Addr) (h:Heap),(K w.params).In h->h.Ns Ql mg->mg d.name=some (.ref fa) ->
  ∃ fd:Qn,(∀ (s:Qe) (u:Qb),PD s fd ⟨[u],[]⟩ [("_law_script",u)])/\∀ base:Heap,(K w.params).In base->base.Ns Ql mg->XX base mg->FnOk l.prog w (K w.params) mg base ZI 19 fa fd ["_law_script"] (Zbx (K w.params) P_leaf_of P_law_refused_right)) :
 PySem.W.WalkO q loose XP YP l.row.toRowW d [] (fun f vs=>PySem.call f vs) :=
 L2.walk_ofT (n:=63) (k:=19) (x:="_law_script") (CX:=fun _=>ZI) (sp:=fun w=>Zbx (K w.params) P_leaf_of P_law_refused_right) (ts:=ts) hn (by decide) hdf ⟨rfl,by decide,by decide,rfl⟩ hY hK F (fun w H a ns hl hO hS hT=>⟨a,ns,rfl,hS,hl,Zgp hS (hT _ hP_leaf_of) (hT _ hP_law_refused_right) hne,fun _=>rfl⟩) fun _ _ _ _ _ z=>z
end K33
set_option genInjectivity false in
set_option genSizeOfSpec false in
structure PySem.W.Fast:Prop where (tw9996901541456570241 tw2668229521756320373 tw3877072554803181856 tw10366050778378288203 tw8513240525787147169 tw14682236208459356790 tw4531018561930597915 tw13404172725215209496 tw18222872241421280768 tw2921434876844841120 tw17679042958770821214 tw13108674202273079922 tw17502023453463880454 tw9253743317308093564 tw731335643046571621 tw7546068424693140919 tw6730683067528785662 tw5708933529666070603 tw16919896675637542586 tw11629847265527580377 tw1366503875352088143 tw16140582991243954450 tw12966580249780119389 tw15719266733462638795 tw6207292341623957923 tw10997059492489234477 tw18394272087145445052 tw2485235613134530679 tw8783942056748943069 tw7776551806126057654 tw8727096185783447296 tw15091989640814838297 tw8575932097474779950 tw15544355022925587729 tw575613809476169418 tw17035407834926686215 tw6854416943178186081 tw4304625237434356843 tw4933452169779900170 tw13960051104589947706 tw11201142628263574248 tw18066959116237671896 tw1968301200109141672 tw1322709889636903997 tw14415000562754462023 tw10072110915319884411 tw18322215090457243886 tw11345639025962762967 tw4559459997862977250 tw9683474690943694958 tw1905112899757289581 tw6509831271696586164 tw12067592196750594194 tw11079214835551254955 tw18402953916261614039 tw9540700837501176514 tw2222035251312713282 tw368777067305092936 tw6304428787496075751 tw2097818878455965404 tw8613188417634731914 tw5985730537056192521 tw6054631322457773896 tw7898796053082234073 tw1969549649142990618 tw7179130702548008120 tw11821888767145493469 tw2763764764319308755 tw12272861811673720610 tw12696816226274507153 tw736922580498778358 tw17981676910523625975 tw3941059261896717762 tw13084903072640561031 tw7745623475382418553 tw7719923695776270142 tw11606034437650202927 tw6585183045345747128 tw10416665354263660304 tw5129787304461974709 tw16287951550294986934 tw17016949371475800676 tw17139659552956311069 tw4770373654666003796 tw12058141006982580436 tw2391406833469096269 tw3648252081164218542 tw17652972177480041482 tw12292217851884655748 tw1388319928277271215 tw17599912153399768614 tw11319811446532242678 tw11528609782084409152 tw1010365538457463574 tw11878252971428068323 tw1294066685382503709 tw15259771763537072050 tw9259613763886531818 tw528203461187420814 tw5732109283474876762 tw10911994954510215786 tw3432976292516513181 tw17754262037453773390 tw15130830532416460073 tw7215737012524655706 tw4108581758761460553 tw10524277966136356783 tw1220214418555812287 tw6432862783334204212 tw3364454026683159960 tw12611195184508156657 tw2228087242796083373 tw14139435311479098668 tw13768646913990543592 tw10502838333398426220 tw10212700106129719163 tw15841335274257355399 tw17508502514233988406 tw4382280377870714326 tw672696305696851456 tw4861212460090618972 tw11427945321629502311 tw12937360257952139940 tw6061311880328510112 tw13481548726948236491 tw4916698281485230258 tw14040044131560071511 tw11329921974945311655 tw9068046885841836204 tw9147565746933954176 tw7329482279397846266 tw6715709411079324583 tw3710972644934726267 tw17154153452151787646 tw13382263489827619602 tw15186674634518127643 tw152876991225406104 tw11569582128011721960 tw17057223161042913499 tw9999610276535587252 tw13383773128616765295 tw9753368910708603528 tw995068230265954145 tw3500594041336696944 tw2727905685964128539 tw7332538710731939108 tw8204662593456259960 tw6887178293960824157 tw11841839727144663079 tw10737276833413549100 tw17732558028123243541 tw16552646246269821078 tw11914179726499314083 tw1424507414509079574 tw1131235279332582948 tw8687918811807202399 tw4673017254226474881 tw3953294547486373928 tw14484774315648864718 tw2620038544024762527 tw6593809086428980510 tw17647731909362110464 tw16452951732666921683 tw7446513449315511862 tw2405212720707164168 tw666993404863294863 tw17397942412143102087 tw16119208202346823997 tw8254709090798399152 tw1805853692562578865 tw4492758579527749067 tw14738390175337456035 tw15910840071260864156 tw16811734870074953565 tw11879880532911279575 tw15194740353179812704 tw2259560212691642189 tw14150381707386776412 tw15913687188226725033 tw250763831349818837 tw17199577793264263414 tw8040762880214885228 tw10506231793354491623 tw17293935356674124432 tw15871579461910816930 tw2985589177746222871 tw17592531296026644607 tw2476254440114161448 tw3254585805818910050 tw4937720054011713558 tw18227072823780842511 tw10209694669232723723 tw13417169575512831738 tw4410318266791537328 tw14927211647924096829 tw13952436375036438857 tw16459269686961502857 tw17807704551711267215 tw6789709977310045880 tw204653128376880346 tw18098741055271201548 tw5029200718380892233 tw16096873160878370167 tw16061955016866890111 tw325011697213523632 tw991542864393246429 tw2878768450376327794 tw13472830112770998625 tw2343343393632056222 tw15021481511407556055 tw211568317939893023 tw11790370431390959421 tw10729667466466290585 tw16184573625896219519 tw8541130960771124135 tw2100983587331783844 tw12539607267707352500 tw14049554596957693658 tw17184868289734274137 tw11797534844811160765 tw15712700710547639916 tw17426372329968500075 tw11377494998403118451 tw1602730314717685092 tw12412271039723193294 tw8820650018013374377 tw11188820831796294328 tw11956258242833196601 tw18352129496462559158 tw17079552466318044641 tw5491318306458266252 tw4546921606829306571 tw12658046446420885717 tw14522522898876951263 tw7925003491665698872 tw6933645775616129691 tw6434048344162053582 tw11234751528169938033 tw9501692383749171355 tw11963342241300719172 tw10764276850558374233 tw12631254657264824599 tw11574188806262852534 tw9900651671183050560 tw1818536010119930325 tw12206937306767765800 tw390164656874951670 tw17447972688671126183 tw737309302557594550 tw15102469020751178589 tw14658688004519773179 tw378617001369302277 tw8496917798827362158 tw8182939549293615196 tw6514366607808045769 tw5662622387074546241 tw15588514803513850511 tw14699573235523982152 tw10199680467163392177 tw5831507779574215355 tw17957025149534819385 tw3032647045321740414 tw303676711087280724 tw215028439860329066 tw14576060429803190016 tw2031577415431031544 tw9829188634164771176 tw962238417431296618 tw7823582504624436489 tw2210418740386868908 tw18184244909186087766 tw16775477111381750294 tw14428898440292349391 tw15569234347756176924 tw975034586309290583 tw3370811692734452931 tw7175422310131632857 tw16930208133416548013 tw9042186692306995349 tw7947713651028554237 tw10612138466307088125 tw2502437789538969094 tw5392926659112503878 tw8301558212370658289 tw11188826468114808823 tw5848623068297617117 tw10185745994330479709 tw601086130384651954 tw7847651451663007344 tw11161913518647438006 tw9804906264996708844 tw7428221759805035343 tw5543424336961152124 tw3098064101085095404 tw2479757174847546177 tw18126292690305616327 tw16000840722300044783 tw17517397898851577959 tw4672115758463336427 tw11005484783910849469 tw9021381780186360318 tw5941072251988666240 tw7924800048523768318 tw6073541017059293702 tw12155799993819092292 tw10770038824568897695 tw10491560023172722906 tw6339031316570898377 tw13458465565587061081 tw14533882303274825742 tw897041937073858675 tw4693287972980506122 tw12290784654325112386 tw5463374892853916095 tw9352831051892337215 tw5390242565020910059 tw16673083805540516949 tw9560432250358652144 tw1425905194665613086 tw8786985533201602587 tw4859511704981023214 tw15474383950212549143 tw15339473458477090205 tw15281792751556494221 tw1276547180850564543 tw9703996108871449762 tw5604663672042738054 tw3089472056609222263 tw17452165604605390719 tw12500123475195118856 tw3655734841433997459 tw7555810954321965032 tw6464595173160328174 tw3554078640722831215 tw3321366172331285069 tw17305670224137277762 tw14347213791195832695 tw11741236457611698345 tw4168431063576362328 tw17745419109043096908 tw14971649107432083448 tw8942298528605389230 tw723493962876165654 tw6771806972742159874 tw6181873721146773242 tw5778004196904766665 tw5527785651711137166 tw471298316200237058 tw3169044733881135047 tw2008308203552892520 tw18128233769008188711 tw16525873825592122327 tw1585322445806106083 tw15496196140095440963 tw6808894113528033408 tw3674923303562692703 tw18061725447418100912 tw16019149288420779720 tw14230402599408258485 tw1054789752751266337 tw15183181262201748023 tw9701168116524180972 tw17663346038522980539 tw15913202758627256528 tw12209029336939504839 tw4457997497168911596 tw2870354428399195193 tw10189081087804181303 tw2764004845774889670 tw103266124158129805 tw1886320999096264581 tw1570972718847479269 tw2361217249467810578 tw2264504729233342866 tw15663028029496423033 tw15825543856768113510 tw5468194456269795956 tw11150725472165430744 tw15707388033310617851 tw14564043014200767776 tw701682590199745918 tw13651813865552218095 tw6229497201944297822 tw10922836956460384514 tw15926892713669272865 tw9050293279153221081 tw16126853710892014740 tw15671032603223931181 tw13230774889431291836 tw2762087880938336128 tw2962763677165320260 tw17133962298517430515 tw8797293352796478227 tw14132500567078824501 tw3559622642870839015 tw16377486752009336688 tw11325215527919157289 tw17819753360131232107 tw6462208731542021290 tw10471136971251411371 tw6008619284495269153 tw10483615954302768642 tw9358135661055315456 tw8261255373852756681 tw7827820648375379512 tw5609944461011080682 tw2727709239368623417 tw18120192066793159273 tw17474380353282592735 tw16828673712293562029 tw15596529717978045378 tw13571768837109929924 tw13475895094893768883 tw11917171407106467313 tw5954225523825437840 tw9788947323251022709 tw9638534098726031049 tw9512852546013584832 tw8802756417160705568 tw8060033499162460575 tw7014217329142149531 tw6591567072428816568 tw6279610053218050197 tw3988573474532724367 tw3685967619228157862 tw3664811358337517642 tw3471271648422528278 tw2906765174847746741 tw18303002499331344158 tw18103017726765620855 tw17492941942754705907 tw16905608362902398325 tw16727946482944784656 tw16434772328762291721 tw1589430290625998820 tw15868154652837864776 tw15558428152488501958 tw14444635706696081916 tw13804598994854707125 tw12781854106162662428 tw12700071035074780784 tw12643522598971330104 tw11869969082412904644 tw1139307997929461853 tw10723500876685724292 tw3480657837264153046 tw9969966545356656756 tw7285901152259059788 tw4431818262448057012 tw702330498209613592 tw15899198875714724045 tw13810476008638555921 tw12517501260157707575 tw6290303683736873717 tw4647848701920605348 tw1902026486875693007 tw15950058247128177127 tw14890756809879187452 tw13803063835592565739 tw5178197385784065857 tw9077251265897654115 tw18415938188364889134 tw842836597525673871 tw6813965986040581142 tw4843852019962060404 tw2744187149396294011 tw2086315006893845752 tw17174481130332856530 tw16354673346670890397 tw15372473964055370934 tw15321214316866774368 tw14581946120369464305 tw12542212224911177991 tw12169815883385549087 tw11313769804121071402 tw6432089470835696812 tw18295133557528227531 tw8687092284196752763 tw8658970803233271923 tw7545081788825261797 tw7497603524316425141 tw5524908019969749526 tw5237475936607224506 tw5087359711345617419 tw4716919300558307018 tw322262048611125171 tw285459807613588559 tw2522613694378906449 tw17023491288992650819 tw15727372554408371013 tw14262517527794127461 tw13065023098247930692 tw12281295734550297122 tw11604059283035281076 tw10917004948435311712 tw13900954643619622756 tw8151584222833967207 tw584972583448798806 tw3028737609726531647 tw17066176874196471894 tw1024525835628131547 tw679921232318329797 tw16054686315569683182 tw16776315766793682177 tw13721973466556001662 tw5715654625343629011 tw16756230586160400190 tw16285493481343144663 tw9727560176516006585 tw8171854039105977302 tw12999587027515807134 tw8784751110344965528 tw5787426603000611799 tw15616904939393262734 tw5273527910485585153 tw8625367562766612541 tw7990481723559838138 tw7845889226330687018 tw7057760987585202996 tw6694199693210222259 tw6549908404109866583 tw6224687304753441881 tw4258568165358368067 tw4047684767122324717 tw3382820912319234394 tw2300781706543978040 tw17786332128291800632 tw17570932088034843558 tw17557970513558935526 tw17552713237826473619 tw17338511345993539612 tw13630901565412191143 tw13356479256799537916 tw13224485518394223650 tw11038760991865466693 tw10371063112492635326 tw9305674504321062409 tw804685851284974508 tw8500677206378188942 tw3258327802148054763 tw2900296802047037641 tw12952548521455931679 tw12085228179608651756 tw11759316215793566870 tw10822498901600033312 tw6113549301609707477 tw4094413077631771248 tw17049896158399155112 tw16932166265307114009 tw8950465369212778761 tw17835089238188440750 tw9039322319319385957 tw709457853437985227 tw8539658473084206734 tw18106723251294522732 tw13207352923581415655 tw10415030357236930725 tw6998882118305220171 tw2567179409937425642 tw17276084528152784460 tw6147272725622474484 tw9226150440191718838 tw8528498736980052696 tw8501453204128837495 tw7106870261383910613 tw6808396351065510716 tw5906274206978871064 tw5698355503691321421 tw5524150550841828518 tw5211731653577922160 tw4525690442511191060 tw4357457927891328196 tw3662734020425512341 tw2485904543839100023 tw2273857956076258927 tw16668756488766270757 tw13191052030393727151 tw13073887826348807953 tw12723412501887440342 tw10196767984400333796 tw3219613683037735651 tw15944092131302453034 tw10488535008601233355 tw10375289000104831427 tw4004033419624307412 tw9368806396489601683 tw7735499856602116068 tw702465129777732098 tw6386971006032694626 tw5370222191427120764 tw4716753328374161803 tw3806481852257628959 tw3225535570672872411 tw3063300825908258221 tw2145799611822189838 tw1901355000190338515 tw18357684068683735017 tw1826884993860781917 tw1791551431460044190 tw16820100332534599905 tw15119376546541314732 tw14685076348796354957 tw13833700783558546000 tw12545398695820807411 tw11195348416216187147 tw9189031148115233006 tw6019521628828750376 tw5410413449038794914 tw5153398048885705477 tw4912348555489091099 tw18376378942781101056 tw1830898337777533453 tw17069461006791304466 tw15531283600637573491 tw12796157596151932411 tw12794496580383511789 tw12742366808468764873 tw12577844160541580510 tw17621154255880748517 tw15793530640310435761 tw13472893296371198948 tw15799545142756248102 tw1153255709091483259 tw9457947666378384150 tw2664138742446000875 tw17381743217355876252 tw13646612759063862102 tw11278182084729234160 tw9188291655306529094 tw8040363621322078136 tw7796337780765611990 tw7188036814952825195 tw699346955434850834 tw6415681817899543695 tw597504905792222495 tw2974207057076093384 tw2698541368846689038 tw2244902321193240024 tw17819381852374968070 tw16044251429524252194 tw14024574260254256421 tw11721961248695553570 tw1155358737470668722 tw3996300088860196701 tw11179330775650606929 tw9611481487356935034 tw9372723831702390997 tw3775768452150592167 tw3477865926111969033 tw15739831536396976628 tw15647609261217425175 tw15471851145111106065 tw14041897065336376413 tw12380741746378890649 tw9576418807597030512 tw8371108974598306449 tw7255268546030537653 tw5180763743416647980 tw4794357391869428951 tw4042579548776044693 tw2505557765532011592 tw2446718946390672604 tw159757472557389357 tw15900690769385201859 tw15778053234299729273 tw1493717114959428440 tw14267353981053489206 tw13928719221468972786 tw12912343152910165778 tw12349426519464261729 tw11505875742197218768 tw9985458288016562622 tw9937654960291185300 tw9928538006375734845 tw9864546168035392465 tw9842873802257166447 tw9783441872625271251 tw9727746283686663864 tw9717050483923971323 tw945290106001576670 tw9409375585072248107 tw9386678956683433825 tw9380010826535151507 tw9320111714446885731 tw9286299967298734877 tw9171143259950360744 tw9109773587105025594 tw9020028894351852778 tw9004925694867595313 tw8939815855290904192 tw8894409792519069583 tw8856437304414157607 tw8850843534812369080 tw8840733912483290399 tw8760187898762855426 tw87363190073199126 tw8697348646613723309 tw8693006869611813536 tw8556637812062653602 tw8460845279568317705 tw8449092854233039723 tw8440429528258183492 tw8430056812447049506 tw8286983378572852693 tw8206265372139177136 tw8141319189762763524 tw8115204597650513985 tw8096965152318720142 tw8091504761942676624 tw7901179075041103082 tw7844982808254601155 tw7719666768260012928 tw7698521515590863361 tw7690703599840344655 tw7680847723060946660 tw7671519276979983317 tw7501249994109913233 tw7496409291198765347 tw7491724622091759380 tw7479180951095592709 tw7464069059458758029 tw7463641405513192911 tw7431240427398233935 tw7372243079039494029 tw7354732630979872246 tw7348886357339672281 tw7345242370542452747 tw729665470296912355 tw7151981607302858103 tw7132459002232488951 tw7130996784961934033 tw710703742723846921 tw7018836922285502806 tw696269185461335981 tw6954240408501902105 tw6866012084600011072 tw6823606663355308015 tw6821449908667542244 tw6817477536092444051 tw6804311880995955700 tw6784385853002372079 tw6714526028477033943 tw6694187143320671108 tw6688702044463889055 tw662287080711550067 tw6618632055767530271 tw6577926978548235739 tw6552579083566859619 tw6549197165831223998 tw6540519604395168588 tw64490541188252511 tw6447347397260951107 tw6422043315413371207 tw6394887388015651619 tw6306618828571230221 tw6302482020725781058 tw6282428048944716683 tw627697744333491127 tw6249278119481872870 tw6152086149192264229 tw6085565380518021740 tw6080940546867725899 tw6070089378369185152 tw6053763835079655409 tw605090879526810264 tw60461339741991227 tw6016835428069899678 tw5992269821391534940 tw5988313491858515606 tw5984127580229441343 tw5864819007706611814 tw5820017579539579751 tw5806178430575009974 tw5781308023938817203 tw5724591187110530793 tw5679447350661028036 tw5559633628581902758 tw5541816398760725578 tw5539740390919759872 tw5385546129991725246 tw5344972468357600500 tw5342914146788643166 tw5323050908660667970 tw5279547261524163160 tw5278060517722120714 tw5268434780342968785 tw526773792243091175 tw5242424725982929465 tw5230345079638450827 tw5227807566632412671 tw5115422946622540715 tw5103266191945161884 tw4960666203061534293 tw4924931502261192822 tw4919722510948446967 tw4918614505558036653 tw489465481457619266 tw4884533291224971789 tw4840422379787274353 tw4834355622421383504 tw4694902857887852867 tw4559489584054563164 tw4488267782293592359 tw4480101328970373041 tw4384088409530442173 tw4292821844691009931 tw4283636121779361349 tw4223686241176245237 tw4183700572477995752 tw4169295572117870157 tw4165879782662441786 tw4120930130705565144 tw4005273902441067468 tw3984272400018051817 tw3936030584169759904 tw3891682824261830634 tw3813716440452709817 tw3762232364659348998 tw3542898418791782956 tw3523403235778495936 tw3461269662077150528 tw342015305091607994 tw3359349327838238095 tw335372009764931988 tw332584471271419608 tw3271738581205087487 tw3239984757229415586 tw3236541804431189766 tw3196485452111796319 tw3183923301260404139 tw3170779402217453469 tw3165855457180603345 tw2946786266800031353 tw2929789335240985403 tw2861712246398210786 tw2861174913842630601 tw2826275570467626015 tw2814816229581265836 tw2640841539260215940 tw2498150907871300584 tw2488609407757700747 tw2472459883798109117 tw2460033989981383993 tw2401881878204848904 tw2344265602305142995 tw2336029410437240918 tw2318376891715284536 tw2262110110568166928 tw2262004286953156660 tw2259984975585523640 tw2238872931974342918 tw2237626364574879819 tw2236820981159778245 tw2212367338491363109 tw220417162149633842 tw2199183740978242853 tw2168211652528511654 tw2114298089018416464 tw2040152285399074093 tw2038169295657471162 tw2032087171253296203 tw2031292922652258361 tw2024645615597135056 tw1987699275622592962 tw1987138776172996839 tw1950294696081460717 tw18440423776929844768 tw18424287170865212000 tw18395480003143027053 tw18391277771277004593 tw18319423881133271270 tw18288076021454127414 tw18284874622539381450 tw1825446824798309325 tw18213852587126985277 tw18208588545307888674 tw18176334238432789901 tw18175410433144584751 tw18136518636708700680 tw1813361626412972711 tw18123898853222500942 tw18049811760839342592 tw18030158517926415761 tw17974177213632435284 tw17945825543859571335 tw17920449566075958438 tw17834968326346441470 tw17827675788691912939 tw17784508340719211454 tw17766076107350410288 tw17713613685238410708 tw17677220389313535572 tw17671293669957939114 tw1765932762665884920 tw1763211476905961044 tw17624626663744116145 tw17598897508194252776 tw17571911415984710033 tw17542435005866576029 tw17539812973234610781 tw17427707400316067496 tw1741200785671364665 tw17411681199349753996 tw17408522806613848209 tw17372137708156667380 tw17348439609028633978 tw17346032947104033092 tw17341802646227359171 tw1732675823065102456 tw17282579521668708819 tw17277635186067692214 tw17262062880137556377 tw17218014419384997769 tw17215083532507563857 tw17182019244440744359 tw17151165601415129021 tw171212457442822955 tw17062961756760505537 tw17060872816693920973 tw17024236384162970564 tw16946317881469917859 tw16938426173321350410 tw16815783302327667055 tw16808578866139691127 tw16783643512141373242 tw16774431572500636343 tw16723670296322374240 tw16706474944867415499 tw16669815954517691331 tw16666011461022432383 tw16650018051830150416 tw16576792646938349844 tw16505109521012137206 tw16402890009308407875 tw16382897078842471807 tw16381100223080644479 tw16359349449576372686 tw16297027908629465766 tw16227407961137064681 tw1621596034732989417 tw1614818665358635894 tw16123856541484075575 tw16061879099438073866 tw16014678121223202654 tw15996744886044920347 tw15993907979213940329 tw15950709268428688426 tw15917312021343362315 tw15862533263391603008 tw15858676017196909733 tw15828586640304048700 tw15816073329355660015 tw15794055552073004366 tw1570274063600470132 tw15679893180940457802 tw15609205514523546650 tw1553744296491590596 tw15503531669993505373 tw15455394410643147223 tw15419131720976476598 tw15314789100396329696 tw15295573807251903274 tw15266321145106688280 tw15240907299044272683 tw15171350428906936886 tw15144212799255028989 tw1512176350290443899 tw15091322597244689113 tw15029260495717063312 tw14955328457911343908 tw14872413387848158353 tw14870195083306760766 tw14864223205813143809 tw1485536720573692478 tw14835520403534628417 tw14812250516034854627 tw14794275374211218472 tw14750627010334270680 tw14707519030481219665 tw14702955231600456248 tw14701158985161852166 tw14690648051215178688 tw14664544697538072895 tw14660073646992693763 tw1465888755484409577 tw14651066865019697555 tw1461999797618037839 tw14619697002624215384 tw14531835376593268028 tw14437911503736558474 tw1443595794460557003 tw14421283098535859157 tw1441074895375554837 tw14365133990468705164 tw14344332207416857507 tw14336985548123236409 tw14280279377859273067 tw14233630119654289726 tw14215615475541792952 tw142138197575651468 tw1417944474884476251 tw14168397987402741880 tw14139300321479198422 tw14123914167087564390 tw13971413194059174977 tw13787074969285898655 tw13768493236282979718 tw13745695042163787682 tw13736377037521358380 tw13676784285238702140 tw13631534925552142999 tw13576284932933878625 tw13473857812164446442 tw13395363525178386794 tw13391644115870679963 tw13373635787745571964 tw13274208595902324282 tw13175773168509708208 tw13163780319084093160 tw13162169713684475755 tw13141552176783263143 tw13118386675966882312 tw13108497879476752240 tw13093154486600560028 tw13066446707040734331 tw13043952503370692353 tw13037986618413597558 tw13026607914977809051 tw12952688078817515829 tw12948296338865552449 tw12943408532593901661 tw12933503306983944078 tw12882543471890582610 tw12847726278999706859 tw12838538919207410210 tw127545929468043574 tw12709810865344909311 tw12691032726951368741 tw12684301104584236920 tw12666811997097569265 tw12548074925852378335 tw12536572605793319851 tw12439749463440741049 tw12431491758352890407 tw1237257372693059389 tw12350844717733453230 tw1231211403896811719 tw12301213422256279960 tw12280851661914115967 tw1227852455744984519 tw12208885955261816299 tw12200727666517550482 tw12196182563585908558 tw1217662538187990565 tw12099374642849970604 tw1204077839057936075 tw11994779415590751030 tw1197045072902978378 tw11933581273496539797 tw11896028573652230946 tw11747766458363802316 tw11739685476840718440 tw11644552977909466789 tw11642464354869238570 tw11593409525133855537 tw11543467910432778336 tw11542256174781425871 tw1152965986408598170 tw1149877553335315895 tw11489631508129076866 tw11440630145512057655 tw11433728341266609273 tw11417679715232123366 tw11417284801018897647 tw11331741928270436599 tw11326136887928306047 tw11300502457913458064 tw11291265421894686538 tw11268804366714593307 tw1121875596780126072 tw1118123798194952533 tw11167154945656572243 tw11147374173474590144 tw11088279563400489672 tw11056131356519857838 tw11053225743224126809 tw11029314490432450528 tw11013059024156283531 tw10964598785447288613 tw10960905292350654378 tw10954185932155186335 tw10940688853741664901 tw10887785577317997937 tw10771948292535476596 tw10736382797881744238 tw10691872626905846582 tw10626817677000103387 tw10612932295782547975 tw10601390252434183633 tw10570276332197723751 tw10473003900085021671 tw10446125764977802721 tw10373326839989477290 tw10345865984007123200 tw10345564066434314362 tw10200780826600824107 tw10122428918116922229 tw10036513057007729784 tw1003650656985684083:True)
open PySem PySem.W PyProof.Rows
set_option maxRecDepth 100000 in
set_option maxHeartbeats 0 in
theorem PySem.Challenge.cw_roadsettings_k33_worlds_copied_holds : PySem.Challenge.rw_roadsettings_k33_worlds_copied.Holds := by
  w_on; o_law; k_head; (case hw => w_witness2)
  k_fill
  refine' K33.walk (l := PySem.Challenge.rw_roadsettings_k33_worlds_copied) (P_law_refused_right := 900) (P_leaf_of := 270) rfl rfl (fun w h Y => ⟨PySem.W.km_in_of Y, PySem.W.km_tabs_of Y⟩) ?hK ?hP0 ?hP1 (by decide) ?F
  case hP0 => decide
  case hP1 => decide
  case hK =>
    intro w b hb
    simp only [List.mem_cons, List.not_mem_nil, or_false] at hb
    rcases hb with rfl | rfl | rfl
    · exact ⟨by kernel_rfl, 902, by kernel_rfl⟩
    · exact ⟨by kernel_rfl, 274, by kernel_rfl⟩
    · exact ⟨by kernel_rfl, 377, by kernel_rfl⟩
  case F =>
    intro w mg fa h KX G hmg
    refine' K33.all_mk KX G hmg ?_ ?_ ?_ ?_ ?_ ?_ ?_ ?_ ?_ ?_ ?_ ?_ ?_ ?_ ?_ ?_ ?_ ?_ ?_ ?_ ?_ ?_ ?_ ?_ ?_ ?_ ?_ ?_ ?_ ?_ ?_ ?_ ?_ ?_ ?_ ?_ ?_ ?_ ?_ ?_ ?_ ?_ ?_ ?_ ?_ ?_ ?_ ?_ ?_ ?_ ?_ ?_ ?_ ?_ ?_ ?_ ?_ ?_ ?_ ?_ ?_ ?_ ?_ ?_ ?_ ?_ ?_ ?_ ?_ ?_ ?_ ?_ ?_ ?_ ?_ ?_ ?_ ?_ ?_ ?_ ?_ ?_ ?_ ?_ ?_ ?_ ?_ ?_ ?_ ?_ ?_ ?_ ?_ ?_ ?_ ?_ ?_ ?_ ?_ ?_ ?_ ?_ ?_ ?_ ?_ ?_ ?_ ?_ ?_ ?_ ?_ ?_ ?_ ?_ ?_ ?_ ?_ ?_ ?_ ?_ ?_
    all_goals try (first | refine ⟨⟨by k_is, by k_is, by k_is⟩, ⟨_, _, _, _, _, _, _, _, _, rfl, by k_is, by k_is⟩, by k_is⟩ | refine ⟨by k_is, ⟨_, _, _, _, _, _, _, _, _, rfl, by k_is, by k_is⟩, by k_is⟩ | refine ⟨by k_is, ⟨by k_is, by k_is, by k_is, by k_is⟩, by k_is, by k_is⟩ | refine ⟨⟨by k_is, by k_is, by k_is⟩, ⟨_, _, _, _, _, _, _, _, rfl, by k_is, by k_is⟩, by k_is, by kernel_rfl⟩ | refine ⟨by k_is, ⟨_, _, _, _, _, _, _, _, rfl, by k_is, by k_is⟩, by k_is, by kernel_rfl⟩ | (show _ = _; first | k_is | kernel_rfl))
