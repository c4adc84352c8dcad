import PyProof.Rows.All
import Wide.All
import OpenK.AllK
import Wide.FinOn
import Lean
import PyProof.EqAt
import PyProof.EqKinds
import PyProof.TupleCall
import PyProof.NeKinds
import PyProof.SliceStr2
import KE.KDictList
import PyProof.CollectIter
import PyProof.EnumFor
import PyProof.EnumMake
import PyProof.LayNew
import PySem.Str
import PyProof.Rows.RegStrFacts
import PyProof.StrLawsRepr
import PySem.Challenge.RW_patchkin_k07_taken_and_dropped
set_option Elab.async false
set_option linter.all false
set_option maxRecDepth 100000
set_option maxHeartbeats 0
theorem U8:type_of% @List.length_map:=@List.length_map
theorem Vb:type_of% @List.getElem?_eq_some_iff:=@List.getElem?_eq_some_iff
theorem XX:type_of% @PySem.wpAny_bind:=@PySem.wpAny_bind
theorem XZ:type_of% @decide_eq_true:=@decide_eq_true
theorem Yc:type_of% @List.mem_singleton:=@List.mem_singleton
theorem Yd:type_of% @List.mem_of_getElem?:=@List.mem_of_getElem?
theorem Y0:type_of% @List.getElem?_eq_getElem:=@List.getElem?_eq_getElem
theorem Y5:type_of% @List.length_append:=@List.length_append
theorem aab:type_of% @Nat.le_refl:=@Nat.le_refl
theorem aac:type_of% @decide_eq_false:=@decide_eq_false
theorem aae:type_of% @List.filter_cons_of_pos:=@List.filter_cons_of_pos
theorem aaf:type_of% @List.mem_append:=@List.mem_append
theorem aag:type_of% @List.mem_cons:=@List.mem_cons
theorem aah:type_of% @Nat.le_trans:=@Nat.le_trans
theorem aai:type_of% @List.mem_map_of_mem:=@List.mem_map_of_mem
theorem aaj:type_of% @List.filter_cons_of_neg:=@List.filter_cons_of_neg
theorem aak:type_of% @Bool.false_ne_true:=@Bool.false_ne_true
theorem aal:type_of% @List.length_cons:=@List.length_cons
theorem aam:type_of% @List.take_length:=@List.take_length
theorem aan:type_of% @List.getElem?_map:=@List.getElem?_map
theorem aao:type_of% @PySem.Heap.get?_push_of_some:=@PySem.Heap.get?_push_of_some
theorem aap:type_of% @List.mem_cons_of_mem:=@List.mem_cons_of_mem
theorem aaq:type_of% @PySem.W.mg_of:=@PySem.W.mg_of
theorem aar:type_of% @List.size_toArray:=@List.size_toArray
theorem aas:type_of% @PySem.wpAny_pure:=@PySem.wpAny_pure
theorem aat:type_of% @List.mem_filter:=@List.mem_filter
theorem aau:type_of% @if_neg:=@if_neg
theorem aav:type_of% @PySem.Paired.length:=@PySem.Paired.length
theorem aaw:type_of% @of_decide_eq_true:=@of_decide_eq_true
theorem aax:type_of% @if_pos:=@if_pos
theorem aay:type_of% @List.length_take:=@List.length_take
theorem aaz:type_of% @List.mem_cons_self:=@List.mem_cons_self
theorem aaA:type_of% @List.map_append:=@List.map_append
theorem aaB:type_of% @List.map_cons:=@List.map_cons
theorem aaC:type_of% @List.mem_append_left:=@List.mem_append_left
theorem aaD:type_of% @PySem.Heap.lt_size:=@PySem.Heap.lt_size
theorem aaE:type_of% @PySem.boot_len:=@PySem.boot_len
theorem aaF:type_of% @PySem.sizeLine_eq:=@PySem.sizeLine_eq
theorem aaG:type_of% @PySem.PassesOwn.never:=@PySem.PassesOwn.never
theorem aaH:type_of% @List.length_filter_le:=@List.length_filter_le
theorem aaI:type_of% @PySem.Heap.get?_push_size:=@PySem.Heap.get?_push_size
theorem aaJ:type_of% @Option.some.inj:=@Option.some.inj
theorem aaK:type_of% @Nat.lt_of_lt_of_le:=@Nat.lt_of_lt_of_le
theorem aaL:type_of% @Option.map_eq_some_iff:=@Option.map_eq_some_iff
theorem aaM:type_of% @List.Sublist.refl:=@List.Sublist.refl
theorem aaN:type_of% @List.flatMap_cons:=@List.flatMap_cons
theorem aaO:type_of% @List.mem_map:=@List.mem_map
theorem aaP:type_of% @List.append_nil:=@List.append_nil
theorem aaQ:type_of% @List.filter_append:=@List.filter_append
theorem aaR:type_of% @PyProof.Rows.boot_isinstance:=@PyProof.Rows.boot_isinstance
theorem aaS:type_of% @List.mem_append_right:=@List.mem_append_right
theorem aaT:type_of% @List.mem_iff_getElem?:=@List.mem_iff_getElem?
theorem aaU:type_of% @Nat.zero_le:=@Nat.zero_le
theorem aaV:type_of% @List.length_eq_zero_iff:=@List.length_eq_zero_iff
theorem aaW:type_of% @PySem.F.plainAttrs_list:=@PySem.F.plainAttrs_list
theorem aaX:type_of% @List.drop_eq_getElem_cons:=@List.drop_eq_getElem_cons
theorem aaY:type_of% @List.nodup_cons:=@List.nodup_cons
theorem aaZ:type_of% @List.append_assoc:=@List.append_assoc
theorem aa0:type_of% @List.filter_sublist:=@List.filter_sublist
theorem aa1:type_of% @Nat.ne_of_lt:=@Nat.ne_of_lt
theorem aa2:type_of% @List.filter_nil:=@List.filter_nil
theorem aa3:type_of% @PySem.F.slot_list_append:=@PySem.F.slot_list_append
theorem aa4:type_of% @PySem.F.type_list_append:=@PySem.F.type_list_append
theorem aa5:type_of% @Array.getElem?_eq_getElem:=@Array.getElem?_eq_getElem
theorem aa6:type_of% @List.nodup_append:=@List.nodup_append
theorem aa7:type_of% @PyProof.Rows.callWith_type1:=@PyProof.Rows.callWith_type1
theorem aa8:type_of% @Bool.eq_false_iff:=@Bool.eq_false_iff
theorem aa9:type_of% @Bool.false_eq_true:=@Bool.false_eq_true
theorem aa_:type_of% @List.sublist_append_right:=@List.sublist_append_right
theorem abb:type_of% @congrArg:=@congrArg
theorem abc:type_of% @Bool.and_eq_true:=@Bool.and_eq_true
theorem abd:type_of% @PySem.W.mg_none_of:=@PySem.W.mg_none_of
theorem abe:type_of% @Array.getElem?_toList:=@Array.getElem?_toList
theorem abf:type_of% @List.getElem?_set_self:=@List.getElem?_set_self
theorem abg:type_of% @Array.length_toList:=@Array.length_toList
theorem abh:type_of% @PySem.Heap.get?_update_self:=@PySem.Heap.get?_update_self
theorem abi:type_of% @List.replicate_succ:=@List.replicate_succ
theorem abj:type_of% @List.mem_flatMap:=@List.mem_flatMap
theorem abk:type_of% @PySem.wpAny_dictEntries:=@PySem.wpAny_dictEntries
theorem abl:type_of% @List.getElem?_append_right:=@List.getElem?_append_right
theorem abm:type_of% @List.getElem?_set_ne:=@List.getElem?_set_ne
theorem abn:type_of% @PySem.Calls.spliced_cons:=@PySem.Calls.spliced_cons
theorem abo:type_of% @PySem.Calls.callWith_builtin:=@PySem.Calls.callWith_builtin
theorem abp:type_of% @Bool.eq_iff_iff:=@Bool.eq_iff_iff
theorem abq:type_of% @PySem.W.kia_one:=@PySem.W.kia_one
theorem abr:type_of% @List.nodup_nil:=@List.nodup_nil
theorem abt:type_of% @List.length_reverse:=@List.length_reverse
theorem abu:type_of% @PySem.Heap.SameBut.update:=@PySem.Heap.SameBut.update
theorem abv:type_of% @PySem.wpAny_mono:=@PySem.wpAny_mono
theorem abw:type_of% @List.take_append_drop:=@List.take_append_drop
theorem abx:type_of% @PySem.F.slot_dict_keyiterator_next:=@PySem.F.slot_dict_keyiterator_next
theorem aby:type_of% @Nat.lt_irrefl:=@Nat.lt_irrefl
theorem abz:type_of% @Nat.lt_of_le_of_lt:=@Nat.lt_of_le_of_lt
theorem abA:type_of% @PySem.Calls.evalArgs_plain:=@PySem.Calls.evalArgs_plain
theorem abB:type_of% @List.sublist_cons_self:=@List.sublist_cons_self
theorem abC:type_of% @List.filterMap_cons:=@List.filterMap_cons
theorem abD:type_of% @PySem.Calls.spliced_nil:=@PySem.Calls.spliced_nil
theorem abE:type_of% @PySem.mem_of_lookup:=@PySem.mem_of_lookup
theorem abF:type_of% @List.flatMap_append:=@List.flatMap_append
theorem abG:type_of% @List.getElem?_eq_none_iff:=@List.getElem?_eq_none_iff
theorem abH:type_of% @List.take_zero:=@List.take_zero
theorem abI:type_of% @PySem.tupleKind_room_in1:=@PySem.tupleKind_room_in1
theorem abJ:type_of% @decide_eq_true_iff:=@decide_eq_true_iff
theorem abK:type_of% @List.getElem?_take:=@List.getElem?_take
theorem abL:type_of% @List.all_eq_true:=@List.all_eq_true
theorem abM:type_of% @PySem.wpAny_typeNameOfWhole_keyiter:=@PySem.wpAny_typeNameOfWhole_keyiter
theorem abN:type_of% @List.flatMap_nil:=@List.flatMap_nil
theorem abO:type_of% @PySem.F.plainAttrs_dict:=@PySem.F.plainAttrs_dict
theorem abP:type_of% @PySem.wpAny_truthy_bool:=@PySem.wpAny_truthy_bool
theorem abQ:type_of% @List.getElem?_inj:=@List.getElem?_inj
theorem abR:type_of% @List.filter_congr:=@List.filter_congr
theorem abS:type_of% @beq_eq_false_iff_ne:=@beq_eq_false_iff_ne
theorem abT:type_of% @Ne.symm:=@Ne.symm
theorem abU:type_of% @PySem.Heap.get?_update_other:=@PySem.Heap.get?_update_other
theorem abV:type_of% @List.filter_eq_nil_iff:=@List.filter_eq_nil_iff
theorem abW:type_of% @PyProof.Rows.boot_list:=@PyProof.Rows.boot_list
theorem abX:type_of% @PySem.wpAny_holding:=@PySem.wpAny_holding
theorem abY:type_of% @PySem.wpAny_Call_Name_kw:=@PySem.wpAny_Call_Name_kw
theorem abZ:type_of% @List.filterMap_append:=@List.filterMap_append
theorem ab0:type_of% @List.getElem?_append_left:=@List.getElem?_append_left
theorem ab1:type_of% @List.pairwise_iff_getElem:=@List.pairwise_iff_getElem
theorem ab3:type_of% @PySem.wpAny_passesOwn:=@PySem.wpAny_passesOwn
theorem ab4:type_of% @beq_iff_eq:=@beq_iff_eq
theorem ab5:type_of% @Int.toNat_natCast:=@Int.toNat_natCast
theorem ab6:type_of% @List.flatten_cons:=@List.flatten_cons
theorem ab7:type_of% @decide_eq_true_eq:=@decide_eq_true_eq
theorem ab8:type_of% @PySem.F.slot_dict_update:=@PySem.F.slot_dict_update
theorem ab9:type_of% @Sum.inr.inj:=@Sum.inr.inj
theorem ab_:type_of% @List.map_congr_left:=@List.map_congr_left
theorem aca:type_of% @List.lookup_cons:=@List.lookup_cons
theorem acb:type_of% @PySem.wpAny_call_entry:=@PySem.wpAny_call_entry
theorem acd:type_of% @List.mem_filterMap:=@List.mem_filterMap
theorem ace:type_of% @PySem.W.callWith_K:=@PySem.W.callWith_K
theorem acf:type_of% @if_false:=@if_false
theorem acg:type_of% @List.getElem?_drop:=@List.getElem?_drop
theorem ach:type_of% @List.Nodup.sublist:=@List.Nodup.sublist
theorem aci:type_of% @List.find?_cons:=@List.find?_cons
theorem acj:type_of% @Option.map_some:=@Option.map_some
theorem ack:type_of% @PySem.F.slot_dict_pop:=@PySem.F.slot_dict_pop
theorem acm:type_of% @PySem.wpAny_specialOf:=@PySem.wpAny_specialOf
theorem acn:type_of% @Bool.or_eq_true:=@Bool.or_eq_true
theorem aco:type_of% @PySem.wpAny_ite_split:=@PySem.wpAny_ite_split
theorem acp:type_of% @PySem.size_of_entries:=@PySem.size_of_entries
theorem acq:type_of% @List.range_succ:=@List.range_succ
theorem acr:type_of% @List.take_sublist:=@List.take_sublist
theorem acs:type_of% @List.length_range:=@List.length_range
theorem acu:type_of% @List.mem_range:=@List.mem_range
theorem acv:type_of% @Nat.lt_succ_self:=@Nat.lt_succ_self
theorem acw:type_of% @List.not_mem_nil:=@List.not_mem_nil
theorem acx:type_of% @List.range'_succ:=@List.range'_succ
theorem acy:type_of% @List.drop_length:=@List.drop_length
theorem acz:type_of% @List.length_set:=@List.length_set
theorem acA:type_of% @Nat.le_of_eq:=@Nat.le_of_eq
abbrev Qqq:=PySem.Value→PySem.Shared→Prop
abbrev Qqz:=List (PySem.Addr×PySem.Obj)
abbrev Qqx:=PySem.Str→Option PySem.Value
abbrev Qqy:=PySem.W.Frag
namespace L2
open PySem PySem.Spec PyProof.Rows
abbrev Key:=Sum Int Str
noncomputable def AY:Key→Value→Bool
 | .inl k,v=>Value.isInt k v
 | .inr x,v=>Value.isStrOf x v
noncomputable def Xj(w:World):Key→Int
 | .inl k=>hashInt k
 | .inr x=>hashStr w x
theorem jK:∀{k:Key} {v:Value},AY k v=true→(∃i t,k=Sum.inl i∧v=Value.int i t)∨(∃x t,k=Sum.inr x∧v=Value.str x t)
 | .inl i,v,h=>by
  obtain⟨t,e⟩:=Value.isInt_shape (k:=i) (v:=v) h
  exact .inl ⟨i,t,rfl,e⟩
 | .inr x,v,h=>by
  obtain⟨t,e⟩:=Value.isStrOf_shape (x:=x) (v:=v) h
  exact .inr ⟨x,t,rfl,e⟩
theorem JN(i:Int)(t:Tok):AY (.inl i) (.int i t)=true:=by simp[AY,Value.isInt]
theorem JO(x:Str)(t:Tok):AY (.inr x) (.str x t)=true:=by simp[AY,Value.isStrOf]
theorem P5(a b:Int):decide ((Sum.inl a:Key)=Sum.inl b)=(a ==b):=by
 by_cases e:a=b
 ·subst e;simp
 ·have h:¬(Sum.inl a:Key)=Sum.inl b:=fun q=>e (Sum.inl.inj q)
  rw[aac h]
  exact(abS.mpr e).symm
theorem P6(a b:Str):decide ((Sum.inr a:Key)=Sum.inr b)=decide (a=b):=by
 by_cases e:a=b
 ·subst e;simp
 ·have h:¬(Sum.inr a:Key)=Sum.inr b:=fun q=>e (ab9 q)
  rw[aac h,aac e]
theorem P7(a:Int)(b:Str):decide ((Sum.inl a:Key)=Sum.inr b)=false:=aac (fun q=>nomatch q)
theorem P8(a:Str)(b:Int):decide ((Sum.inr a:Key)=Sum.inl b)=false:=aac (fun q=>nomatch q)
noncomputable def jl(prog:Program)(w:World):PySem.KeyKind prog w Key where
 is:=AY
 hash:=Xj w
 inj:=fun v a b ha hb=>by
  rcases jK ha with⟨i,t,rfl,rfl⟩|⟨x,t,rfl,rfl⟩
  ·rcases jK hb with⟨j,u,rfl,e⟩|⟨y,u,rfl,e⟩
   ·injection e with e1 _;rw[e1]
   ·exact nomatch e
  ·rcases jK hb with⟨j,u,rfl,e⟩|⟨y,u,rfl,e⟩
   ·exact nomatch e
   ·injection e with e1 _;rw[e1]
 byValue:=fun k v h=>by
  rcases jK h with⟨i,t,rfl,rfl⟩|⟨x,t,rfl,rfl⟩<;>rfl
 pyHash:=fun hv h=>by
  rcases jK hv with⟨i,t,rfl,rfl⟩|⟨x,t,rfl,rfl⟩
  ·exact wpAny_pyHash_int h
  ·exact wpAny_pyHash_str h
 eqBool:=fun hu hv h=>by
  rcases jK hu with⟨i,t,rfl,rfl⟩|⟨x,t,rfl,rfl⟩
  ·rcases jK hv with⟨j,u,rfl,rfl⟩|⟨y,u,rfl,rfl⟩
   ·rw[P5] at h;exact wpAny_eqBool_int h
   ·rw[P7] at h;exact SeqAt.EqAt.int_str i t y u _ _ _ _ h
  ·rcases jK hv with⟨j,u,rfl,rfl⟩|⟨y,u,rfl,rfl⟩
   ·rw[P8] at h;exact SeqAt.EqAt.str_int x t j u _ _ _ _ h
   ·rw[P6] at h;exact wpAny_eqBool_str h
 «strs»:=fun k x t v h=>by
  rcases jK h with⟨i,u,rfl,e⟩|⟨y,u,rfl,e⟩
  ·exact nomatch e
  ·injection e with e1 _
   subst e1
   cases v<;>rfl
theorem FK(prog:Program)(w:World)(i:Int)(t:Tok):(jl prog w).is (.inl i) (.int i t)=true:=JN i t
theorem FL(prog:Program)(w:World)(x:Str)(t:Tok):(jl prog w).is (.inr x) (.str x t)=true:=JO x t
inductive V where
 | js|bl (b:Bool)|int (i:Int)|str (x:Str)|HA (b:Array UInt8)|O3 (b:UInt64)|ref (a:Addr)|ty (n:String)
 deriving DecidableEq
def RelV:V→Value→Prop
 | .js,u=>u=Value.none
 | .bl b,u=>u=Value.bool b
 | .int i,u=>∃t,u=Value.int i t
 | .str x,u=>∃t,u=Value.str x t
 | .HA b,u=>∃t,u=Value.bytes b t
 | .O3 b,u=>∃t,u=Value.float b t
 | .ref a,u=>u=Value.ref a
 | .ty n,u=>u=Value.type n
abbrev Vals:List V→List Value→Prop:=Paired RelV
theorem Vals.length{xs:List V}{us:List Value}(r:Vals xs us):xs.length=us.length:=aav r
theorem Vals.get:∀{xs:List V} {us:List Value} {i:Nat} {x:V},Vals xs us→xs[i]?=some x→∃u,us[i]?=some u∧RelV x u
 | _,_,_,_,.nil,e=>by simp at e
 | _,_,0,_,.cons r _,e=>by simp at e;subst e;exact⟨_,rfl,r⟩
 | _,_,i+1,x,.cons _ t,e=>by
  obtain⟨u,h1,h2⟩:=Vals.get (i:=i) (x:=x) t (by simpa using e)
  exact⟨u,by simpa using h1,h2⟩
theorem Vals.set{x:V}{u:Value}(r:RelV x u):∀{xs:List V} {us:List Value} (i:Nat),Vals xs us→Vals (xs.set i x) (us.set i u)
 | _,_,_,.nil=>.nil
 | _,_,0,.cons _ t=>.cons r t
 | _,_,i+1,.cons q t=>.cons q (Vals.set r i t)
theorem Vals.append:∀{xs ys:List V} {us ws:List Value},Vals xs us→Vals ys ws→Vals (xs++ys) (us++ws)
 | _,_,_,_,.nil,s=>s
 | _,_,_,_,.cons r t,s=>.cons r (Vals.append t s)
theorem Vals.take:∀{xs:List V} {us:List Value} (n:Nat),Vals xs us→Vals (xs.take n) (us.take n)
 | _,_,0,_=>.nil
 | _,_,_+1,.nil=>.nil
 | _,_,n+1,.cons r t=>.cons r (Vals.take n t)
theorem Vals.drop:∀{xs:List V} {us:List Value} (n:Nat),Vals xs us→Vals (xs.drop n) (us.drop n)
 | _,_,0,r=>r
 | _,_,_+1,.nil=>.nil
 | _,_,n+1,.cons _ t=>Vals.drop n t
def qE:Option V→Option Value→Prop
 | some v,some u=>RelV v u
 | none,none=>True
 | _,_=>False
def KV{κ:Type}:List (κ×V)→List (κ×Value)→Prop:=Paired fun(p:κ×V) (q:κ×Value)=>p.1=q.1∧RelV p.2 q.2
noncomputable def kV:Key→V
 | .inl i=>.int i
 | .inr x=>.str x
inductive HO where
 | lst (xs:List V)
 | tup (xs:List V)
 | dK (kvs:List (Key×V))|dT (kvs:List (List Key×V))
 | set (S:Int→Bool) (n:Nat)
 | ins (C dx:Addr) (fs:List (Str×V))
 | own (x:Addr)
 | xd (fs:List (Str×V))
 | met (f x:Addr)
 | Wg (lo hi:Int)
 | oO (o:Obj) (u:HO)
 | Nd (ps:Array Value)
 | ext (φ:Heap→Prop)
abbrev Hp:=Addr→Option HO
noncomputable def upd(H:Hp)(a:Addr)(o:HO):Hp:=fun b=>if b=a then some o else H b
theorem b_{H:Hp}{a:Addr}{o:HO}:upd H a o a=some o:=by unfold upd;rw[aax rfl]
theorem e_{H:Hp}{a b:Addr}{o:HO}(h:b≠a):upd H a o b=H b:=by unfold upd;rw[aau h]
theorem Nn{H:Hp}{a:Addr}{o u:HO}:upd (upd H a o) a u=upd H a u:=by
 funext b;unfold upd;split<;>rfl
theorem jd{H:Hp}{a b:Addr}{o u:HO}(h:H a=some o)(h':H b=some u)(d:o≠u):a≠b:=by
 intro e;subst e;rw[h] at h';exact d (aaJ h')
theorem gn{H:Hp}{a b:Addr}{o:HO}(h:H a=some o)(h':H b=none):a≠b:=by
 intro e;subst e;rw[h] at h';cases h'
section
variable(P:Program)(w:World)
def i4(H:Hp)(h:Heap)(a:Addr):HO→Prop
 | .lst xs=>xs.length≤sizeLine∧∃(ic:List Value)(n:Nat),Vals xs ic∧h.get? a=some {cls:=.type "list",data:=.seq ic.toArray n}
 | .tup xs=>xs.length≤sizeLine∧∃ic:List Value,Vals xs ic∧IsTup h a ic.toArray
 | .dK kvs=>kvs.length≤sizeLine∧(a ==sysModules)=false∧∃vs,KV kvs vs∧h.DictOf (jl P w) a vs
 | .dT kvs=>kvs.length≤sizeLine∧(a ==sysModules)=false∧∃xs:List (List Key×Addr×Value),
  Paired (fun(p:List Key×V) (q:List Key×Addr×Value)=>p.1=q.1∧H q.2.1=some (.tup (p.1.map kV))∧RelV p.2 q.2.2) kvs xs∧
  ∃o es ep,h.get? a=some o∧o.ExactDict∧o.data=.dict es ep∧es.toList=xs.map (entryOfKey (tupleKind (jl P w)))∧(xs.map (·.1)).Nodup
 | .set S n=>h.SetOf (intKind P w) a S n
 | .ins C dx fs=>H dx=some (.own a)∧fs.length≤1000∧dx≠a∧h.get? a=some (W.instObj C dx)∧
  ∃mA,h.Ns1 dx mA∧(∀f,qE (fs.lookup f) (mA f))∧PySem.Within mA (fs.map (·.1))
 | .own _=>∃o,h.get? a=some o
 | .xd fs=>∃mA,h.Ns1 a mA∧∀f,qE (fs.lookup f) (mA f)
 | .Wg lo hi=>∃t u v,h.get? a=some {cls:=.type "range",data:=.fields #[.int lo t,.int hi u,.int 1 v]}
 | .oO o u=>h.get? a=some o∧i4 H h a u
 | .Nd ps=>h.get? a=some {cls:=.none,data:=.fields ps}
 | .met f x=>h.get? a=some (W.methodObj (.ref f) (.ref x))
 | .ext φ=>φ h∧(∃o,h.get? a=some o)∧∀h1 h2:Heap,φ h1→(∀o,h1.get? a=some o→h2.get? a=some o)→φ h2
def rl(H:Hp)(h:Heap):Prop:=∀a o,H a=some o→i4 P w H h a o
end
section
variable{P:Program}{w:World}{H H':Hp}{h h':Heap}{a:Addr}{o:HO}
theorem i4.lt(x:i4 P w H h a o):a<h.objs.size:=by
 cases o with
 | lst xs=>obtain⟨_,_,_,_,e⟩:=x;exact aaD e
 | tup xs=>obtain⟨_,_,_,p⟩:=x;exact p.lt
 | dK kvs=>obtain⟨_,_,_,_,o,_,_,e,_⟩:=x;exact aaD e
 | dT kvs=>obtain⟨_,_,_,_,o,_,_,e,_⟩:=x;exact aaD e
 | set S n=>obtain⟨o,_,_,_,e,_⟩:=x;exact aaD e
 | ins C dx fs=>obtain⟨_,_,_,e,_⟩:=x;exact aaD e
 | own y=>obtain⟨_,e⟩:=x;exact aaD e
 | xd fs=>obtain⟨_,⟨_,_,_,e,_⟩,_⟩:=x;exact aaD e
 | Wg lo hi=>obtain⟨_,_,_,e⟩:=x;exact aaD e
 | oO ob u=>obtain⟨e,_⟩:=x;exact aaD e
 | Nd ps=>exact aaD (show h.get? a=some _ from x)
 | met f y=>exact aaD (show h.get? a=some _ from x)
 | ext φ=>obtain⟨_,⟨_,e⟩,_⟩:=x;exact aaD e
theorem Paired.lA{α β:Type}{F G:α→β→Prop}:∀{l₁:List α} {l₂:List β},Paired F l₁ l₂→(∀a b,F a b→G a b)→Paired G l₁ l₂
 | _,_,.nil,_=>.nil
 | _,_,.cons r t,f=>.cons (f _ _ r) (Paired.lA t f)
theorem i4.yq(x:i4 P w H h a o)(k:∀b u,(b=a∨H b=some (.own a))→h.get? b=some u→h'.get? b=some u)
  (ho:∀b,H b=some (.own a)→H' b=some (.own a)) (ht:∀b xs,H b=some (.tup xs)→H' b=some (.tup xs)):i4 P w H' h' a o:=by
 induction o with
 | lst xs=>obtain⟨z,ic,n,r,e⟩:=x;exact⟨z,ic,n,r,k _ _ (.inl rfl) e⟩
 | tup xs=>obtain⟨z,ic,r,ob,e,c⟩:=x;exact⟨z,ic,r,ob,k _ _ (.inl rfl) e,c⟩
 | dK kvs=>obtain⟨z,y,vs,r,ob,es,ep,e,c⟩:=x;exact⟨z,y,vs,r,ob,es,ep,k _ _ (.inl rfl) e,c⟩
 | dT kvs=>
  obtain⟨z,y,xs,r,ob,es,ep,e,c⟩:=x
  exact⟨z,y,xs,Paired.lA r fun p q z=>⟨z.1,ht _ _ z.2.1,z.2.2⟩,ob,es,ep,k _ _ (.inl rfl) e,c⟩
 | set S n=>obtain⟨ob,es,ep,t,e,c⟩:=x;exact⟨ob,es,ep,t,k _ _ (.inl rfl) e,c⟩
 | ins C dx fs=>
  obtain⟨d,z,ne,e,mA,⟨od,es,ep,e2,c⟩,r⟩:=x
  exact⟨ho _ d,z,ne,k _ _ (.inl rfl) e,mA,⟨od,es,ep,k _ _ (.inr d) e2,c⟩,r⟩
 | own y=>obtain⟨ob,e⟩:=x;exact⟨ob,k _ _ (.inl rfl) e⟩
 | xd fs=>obtain⟨mA,⟨od,es,ep,e,c⟩,r⟩:=x;exact⟨mA,⟨od,es,ep,k _ _ (.inl rfl) e,c⟩,r⟩
 | Wg lo hi=>obtain⟨t,u,v,e⟩:=x;exact⟨t,u,v,k _ _ (.inl rfl) e⟩
 | oO ob u ih=>obtain⟨e,q⟩:=x;exact⟨k _ _ (.inl rfl) e,ih q⟩
 | Nd ps=>
  have e:h.get? a=some {cls:=.none,data:=.fields ps}:=x
  show h'.get? a=some {cls:=.none,data:=.fields ps}
  exact k a _ (.inl rfl) e
 | met f y=>
  have e:h.get? a=some (W.methodObj (.ref f) (.ref y)):=x
  show h'.get? a=some (W.methodObj (.ref f) (.ref y))
  exact k a _ (.inl rfl) e
 | ext φ=>obtain⟨p,⟨o,e⟩,st⟩:=x;exact⟨st _ _ p fun o q=>k _ _ (.inl rfl) q,⟨o,k _ _ (.inl rfl) e⟩,st⟩
theorem rl.lt(x:rl P w H h)(e:H a=some o):a<h.objs.size:=(x a o e).lt
theorem rl.fresh(x:rl P w H h)(e:h.objs.size≤a):H a=none:=by
 cases q:H a with
 | none=>rfl
 | some u=>exact absurd (aaK (x.lt q) e) (aby _)
theorem rl.kept(x:rl P w H h)(k:∀b u,h.get? b=some u→h'.get? b=some u):rl P w H h':=fun a o e=>
 (x a o e).yq (fun b u _ q=>k b u q) (fun _ q=>q) fun _ _ q=>q
theorem rl.laid(x:rl P w H h)(k:∀b u,h.get? b=some u→h'.get? b=some u)(hp:h.objs.size≤a)(new:i4 P w (upd H a o) h' a o):rl P w (upd H a o) h':=fun b u e=>by
 have hn:=x.fresh hp
 by_cases hb:b=a
 ·subst hb;rw[b_] at e;cases e;exact new
 ·rw[e_ hb] at e
  exact(x b u e).yq (fun c v _ q=>k c v q) (fun c q=>by rw[e_ (gn q hn)];exact q) fun c xs q=>by rw[e_ (gn q hn)];exact q
end
def Rd(H:Hp)(a:Addr)(u:HO):Prop:=H a=some u∨∃o,H a=some (.oO o u)
theorem Rd.ok{P:Program}{w:World}{H:Hp}{h:Heap}{a:Addr}{u:HO}(r:Rd H a u)(x:rl P w H h):i4 P w H h a u:=by
 rcases r with r|⟨o,r⟩
 ·exact x a u r
 ·obtain⟨_,q⟩:=x a _ r
  exact q
def O4:Option HO→Prop
 | some (.lst _)=>True
 | some (.dK _)=>True
 | some (.dT _)=>True
 | some (.set _ _)=>True
 | some (.ins _ _ _)=>True
 | some (.ext _)=>True
 | _=>False
section
variable{P:Program}{w:World}{H:Hp}{h h':Heap}{x e:Addr}{o':HO}
theorem rl.write(ok:rl P w H h)(mu:O4 (H x))(he:e=x∨H e=some (.own x))(k:∀b u,b≠e→h.get? b=some u→h'.get? b=some u)(MM:∃u,h'.get? e=some u)
  (new:i4 P w (upd H x o') h' x o'):rl P w (upd H x o') h':=fun b u q=>by
 have Uz:∀c y,H c=some (.own y)→c≠x:=fun c y r z=>by subst z;rw[r] at mu;exact mu
 have Yq:∀c xs,H c=some (.tup xs)→c≠x:=fun c xs r z=>by subst z;rw[r] at mu;exact mu
 by_cases hb:b=x
 ·subst hb;rw[b_] at q;cases q;exact new
 ·rw[e_ hb] at q
  by_cases RC:b=e
  ·have q':H b=some (.own x):=by
    rcases he with z|z
    ·exact absurd (RC.trans z) hb
    ·rw[RC];exact z
   rw[q] at q';cases q'
   obtain⟨v,hv⟩:=MM
   exact⟨v,by rw[RC];exact hv⟩
  ·refine(ok b u q).yq (fun c v hc r=>k c v ?_ r) (fun c r=>by rw[e_ (Uz c b r)];exact r) fun c xs r=>by rw[e_ (Yq c xs r)];exact r
   rcases hc with rfl|hc
   ·exact RC
   ·rintro rfl
    rcases he with z|z
    ·exact Uz c b hc z
    ·rw[hc] at z;cases z;exact hb rfl
end
structure Un(fs ex:List Addr)(H H':Hp)(h h':Heap):Prop where
 keep:∀b o,h.get? b=some o→H b=none→b∉fs→b∉ex→h'.get? b=some o
 slot:∀b o,h.get? b=some o→H b=none→b∈fs→b∉ex→∃sl,h'.get? b=some {o with slots:=sl}
 free:∀b o,h.get? b=some o→H b=none→b∉ex→H' b=none
 there:∀b o,h.get? b=some o→b∉ex→∃o',h'.get? b=some o'
 qm:∀b xs,H b=some (.tup xs)→H' b=some (.tup xs)
 tF:∀b o u,H b=some (.oO o u)→H' b=some (.oO o u)
 vS:∀b ps,H b=some (.Nd ps)→∃more,H' b=some (.Nd (ps++more))
section
variable{fs fs' ex ex':List Addr}{H H1 H2:Hp}{h h1 h2 h':Heap}{a x e:Addr}{o:HO}
theorem Un.any(u:Un fs ex H H1 h h1){b:Addr}{ob:Obj}(q:h.get? b=some ob)(n:H b=none)(hx:b∉ex):∃sl,h1.get? b=some {ob with slots:=sl}:=by
 by_cases hb:b∈fs
 ·exact u.slot b ob q n hb hx
 ·exact⟨ob.slots,u.keep b ob q n hb hx⟩
theorem Un.kept(k:∀b u,h.get? b=some u→h'.get? b=some u):Un fs ex H H h h':=
 ⟨fun b ob q _ _ _=>k b ob q,fun b ob q _ _ _=>⟨ob.slots,k b ob q⟩,fun _ _ _ n _=>n,fun b ob q _=>⟨ob,k b ob q⟩,fun _ _ q=>q,fun _ _ _ q=>q,fun _ ps q=>⟨#[],by rw[q];simp⟩⟩
theorem Un.refl:Un fs ex H H h h:=Un.kept fun _ _ q=>q
theorem Un.laid(k:∀b u,h.get? b=some u→h'.get? b=some u)(hp:h.objs.size≤a)(hn:H a=none):Un fs ex H (upd H a o) h h' where
 keep:=fun b u q _ _ _=>k b u q
 slot:=fun b u q _ _ _=>⟨u.slots,k b u q⟩
 free:=fun b u q n _=>by rw[e_ (aa1 (aaK (aaD q) hp))];exact n
 there:=fun b u q _=>⟨u,k b u q⟩
 qm:=fun b xs q=>by rw[e_ (gn q hn)];exact q
 tF:=fun b u xs q=>by rw[e_ (gn q hn)];exact q
 vS:=fun b ps q=>⟨#[],by rw[e_ (gn q hn),q];simp⟩
theorem Un.write(mu:O4 (H x))(he:e=x∨H e=some (.own x))(k:∀b u,b≠e→h.get? b=some u→h'.get? b=some u)(MM:∃u,h'.get? e=some u):Un fs ex H (upd H x o) h h':=by
 have hx:∀b,H b=none→b≠x:=fun b n z=>by subst z;rw[n] at mu;exact mu
 have hb:∀b,H b=none→b≠e:=fun b n z=>by
  subst z
  rcases he with r|r
  ·exact hx b n r
  ·rw[n] at r;cases r
 have hm:∀b u,H b=some u→¬O4 (some u)→b≠x:=fun b u q nm z=>by subst z;rw[q] at mu;exact nm mu
 refine⟨fun b u q n _ _=>k b u (hb b n) q,fun b u q n _ _=>⟨u.slots,k b u (hb b n) q⟩,fun b u q n _=>by rw[e_ (hx b n)];exact n,fun b u q _=>?_,
  fun b xs q=>by rw[e_ (hm b _ q fun z=>z)];exact q,fun b u xs q=>by rw[e_ (hm b _ q fun z=>z)];exact q,fun b ps q=>⟨#[],by rw[e_ (hm b _ q fun z=>z),q];simp⟩⟩
 by_cases RC:b=e
 ·subst RC;exact MM
 ·exact⟨u,k b u RC q⟩
end
noncomputable def Wi(h:Heap)(H:Hp):List Addr:=(List.range h.objs.size).filter fun a=>(H a).isSome
noncomputable def D7(h:Heap)(H:Hp):Heap:=W.hideAll h (Wi h H)
theorem JP(h:Heap)(H:Hp):(D7 h H).objs.size=h.objs.size:=W.hideAll_size _ _
theorem La{h:Heap}{H:Hp}{b:Addr}{o:Obj}(e:h.get? b=some o)(n:H b=none):(D7 h H).get? b=some o:=
 W.hideAll_get _ e fun hm=>by
  have q:(H b).isSome=true:=(aat.mp hm).2
  rw[n] at q;simp at q
theorem Np{h:Heap}{H:Hp}{b:Addr}{o:Obj}(e:(D7 h H).get? b=some o):h.get? b=some o∧H b=none:=by
 have e':h.get? b=some o:=W.of_hideAll (Wi h H) e
 refine⟨e',?_⟩
 cases q:H b with
 | none=>rfl
 | some x=>
  have hm:b∈Wi h H:=aat.mpr ⟨acu.mpr (aaD e'),by simp[q]⟩
  have z:(D7 h H).get? b=none:=W.hideAll_none (Wi h H) hm
  rw[z] at e;cases e
def Nq(g h:Heap)(L:Addr):Qqz:=(List.range h.objs.size).filterMap fun a=>if a=L∨(g.get? a).isSome=true then none else(h.get? a).map fun o=>(a,o)
def rest(g h:Heap)(L d:Addr):Qqz:=(Nq g h L).filter fun p=>decide (p.1≠d)
structure Mod(K:Qqy)(mg:Qqx)(base:Heap):Prop where
 Nr:K.In base
 glob:base.Ns mainGlobals mg
 blt:∃mb,base.Ns builtinsNs mb∧∀x:Str,x≠"__name__"→mb x=bootBuiltins x
 nolimit:base.NoLimit
structure Cx where
 prog:Program
 w:World
 K:Qqy
 mg:Qqx
 base:Heap
 A:Around
 N:List Str
 s₀:Shared
 H₀:Hp
 env:Env
 outer:List Env
 stack:List Env
 ex:List Addr
 fn:Str→Bool
 calm:Bool
 pn:Qqz
 xe:Qqq
def tw(l:List Env):List Addr:=l.filterMap (·.frame)
abbrev Cx.fs(X:Cx):List Addr:=tw X.outer
def Xk(sc:Scope)(x:Str):Prop:=sc.names.lookup x=some .local∨sc.names.lookup x=some .cell∨sc.names.lookup x=some .free
def Loc(sc:Scope)(x:Str):Prop:=sc.names.lookup x=some .local∨sc.names.lookup x=some .cell
def Look(env:Env)(h:Heap)(m:Qqx)(x:Str)(u:Value):Prop:=
 (env.kindOf x=some .local∧m x=some u)∨((env.kindOf x=some .cell∨env.kindOf x=some .free)∧∃c,env.cells.lookup x=some c∧h.IsCell c (some u))
structure Cx.Ok(X:Cx):Prop where
 mod:Mod X.K X.mg X.base
 kind:X.env.scope.kind=.function
 glob:X.env.globals=mainGlobals
 blt:X.env.builtins=builtinsNs
 above:X.s₀.heap.objs.size≤X.env.locals
 inj:∀x y c,X.env.cells.lookup x=some c→X.env.cells.lookup y=some c→x=y
 has:∀x,(X.env.kindOf x=some .cell∨X.env.kindOf x=some .free)→∃c,X.env.cells.lookup x=some c
 Nt:∀x c,X.fn x=true→X.env.cells.lookup x=some c→X.s₀.heap.objs.size≤c
 hd:X.calm=true→X.A.handled=none
 frames:X.A.frames=some X.stack
 O5:X.stack=X.outer∨(X.stack=X.env::X.outer∧X.env.frame=some X.env.locals)
 Sq:∀b∈X.ex,b≠X.env.locals∧∀x c,X.env.cells.lookup x=some c→c≠b
 bs:∀b o,X.base.get? b=some o→X.s₀.heap.get? b=some o∧X.H₀ b=none
 JQ:X.base.objs.size≤X.s₀.heap.objs.size
 rm:∀b o,X.base.get? b=some o→b∉X.ex
 FN:∀b∈X.ex,b∉X.fs
 tD:X.s₀.heap.FunFrames X.base X.outer
 K3:∀b∈X.fs,X.H₀ b=none
structure Inv(X:Cx)(c_:Qqz)(σ:List (Option V))(H:Hp)(s:Shared):Prop where
 ok:X.Ok
 os:s.os=X.s₀.os
 bare:AllBare s.gens
 base:Un X.fs X.ex X.H₀ H X.s₀.heap s.heap
 loc:∃m,s.heap.Ns X.env.locals m∧∀(i:Nat)(x:Str)(v:V),X.N[i]?=some x→σ[i]?=some (some v)→Xk X.env.scope x→∃u,RelV v u∧Look X.env s.heap m x u
 cell:∀x c,X.env.cells.lookup x=some c→∃v,s.heap.IsCell c v
 free:H X.env.locals=none
 mq:∀x c,X.env.cells.lookup x=some c→H c=none
 pin:∀p∈X.pn++c_,s.heap.get? p.1=some p.2∧H p.1=none∧p.1≠X.env.locals∧p.1∉X.fs∧∀v,p.2.data≠.cell v
 iL:rl X.prog X.w H s.heap
 len:σ.length=X.N.length
section
variable{X:Cx}{c_:Qqz}{σ:List (Option V)}{H H':Hp}{s:Shared}{h':Heap}
theorem Cx.Ok.Nu(ok:X.Ok){b:Addr}{o:Obj}(e:X.base.get? b=some o):b∉X.fs:=fun hb=>by
 have:=(ok.tD.mem hb).1
 rw[e] at this;cases this
theorem Inv.bs(I:Inv X c_ σ H s):∀b o,X.base.get? b=some o→s.heap.get? b=some o∧H b=none:=fun b o e=>
 ⟨I.base.keep b o (I.ok.bs b o e).1 (I.ok.bs b o e).2 (I.ok.Nu e) (I.ok.rm b o e),I.base.free b o (I.ok.bs b o e).1 (I.ok.bs b o e).2 (I.ok.rm b o e)⟩
theorem Inv.bk(I:Inv X c_ σ H s):∀b o,X.base.get? b=some o→s.heap.get? b=some o:=fun b o e=>(I.bs b o e).1
theorem Inv.mod(I:Inv X c_ σ H s):Mod X.K X.mg X.base:=I.ok.mod
theorem Inv.vy(I:Inv X c_ σ H s):X.K.In s.heap:=I.ok.mod.Nr.keeps I.bk
theorem Inv.lt(I:Inv X c_ σ H s):X.env.locals<s.heap.objs.size:=let ⟨_,hn,_⟩:=I.loc;hn.lt
theorem Inv.sz(I:Inv X c_ σ H s):X.s₀.heap.objs.size≤s.heap.objs.size:=aah I.ok.above (Nat.le_of_lt I.lt)
theorem Inv.Tc(I:Inv X c_ σ H s){a:Addr}(h:s.heap.objs.size≤a):a∉X.fs:=fun hb=>by
 obtain⟨_,o,ho,_⟩:=I.ok.tD.mem hb
 exact absurd (aaK (aaD ho) (aah I.sz h)) (aby _)
theorem Inv.Nv(I:Inv X c_ σ H s):∀x c,X.env.cells.lookup x=some c→c≠X.env.locals:=fun x c e z=>by
 obtain⟨v,o,ho,hd⟩:=I.cell x c e
 obtain⟨m,⟨o',es,ep,pN,Yr,_⟩,_⟩:=I.loc
 rw[z,pN] at ho;cases ho;rw[Yr] at hd;cases hd
theorem Inv.tD(I:Inv X c_ σ H s):s.heap.FunFrames X.base X.outer:=by
 have all:∀(l:List Env),(∀b∈tw l,b∈X.fs)→X.s₀.heap.FunFrames X.base l→s.heap.FunFrames X.base l:=by
  intro l
  induction l with
  | nil=>intro _ _;trivial
  | cons env r ih=>
   intro hs hl
   obtain⟨hk,⟨L,o,hf,hn,ho,hd⟩,hr⟩:=hl
   have hL:L∈X.fs:=hs L (by unfold tw;rw[abC,hf];exact aaz)
   obtain⟨sl,e⟩:=I.base.slot L o ho (I.ok.K3 L hL) hL fun z=>I.ok.FN L z hL
   exact⟨hk,⟨L,_,hf,hn,e,hd⟩,ih (fun b hb=>hs b (by unfold tw;rw[abC,hf];exact aap _ hb)) hr⟩
 exact all X.outer (fun _ hb=>hb) I.ok.tD
theorem Inv.stack(I:Inv X c_ σ H s):s.heap.FunFrames X.base X.stack:=by
 rcases I.ok.O5 with e|⟨e,hf⟩
 ·rw[e];exact I.tD
 ·rw[e]
  obtain⟨m,hn,_⟩:=I.loc
  refine .cons (by rw[I.ok.kind];decide) hf hn ?_ I.tD
  exact Heap.get?_none_of_le (aah I.ok.JQ I.ok.above)
theorem Inv.yr(I:Inv X c_ σ H s):∀b∈tw X.stack,b∈X.env.locals::X.fs:=fun b hb=>by
 rcases I.ok.O5 with e|⟨e,hf⟩
 ·rw[e] at hb;exact aap _ hb
 ·rw[e] at hb
  unfold tw at hb
  rw[abC,hf] at hb
  exact hb
theorem Inv.AH(I:Inv X c_ σ H s):∀b∈tw X.stack,H b=none:=fun b hb=>by
 rcases aag.mp (I.yr b hb) with e|hb
 ·rw[e];exact I.free
 ·obtain⟨_,o,ho,_⟩:=I.ok.tD.mem hb
  exact I.base.free b o ho (I.ok.K3 b hb) fun z=>I.ok.FN b z hb
theorem Inv.step{g':Array GenState}{t':Nat}{d':Drawn}{ch:List Addr}(I:Inv X c_ σ H s)
  (Nf:∀b∈ch,(b∈X.ex∨X.s₀.heap.objs.size≤b)∧b≠X.env.locals∧(∀x c,X.env.cells.lookup x=some c→c≠b)∧∀p∈X.pn++c_,p.1≠b)
  (keep:∀b o,b≠X.env.locals→b∉X.fs→b∉ch→s.heap.get? b=some o→H b=none→h'.get? b=some o)
  (slot:∀b o,b≠X.env.locals→b∈X.fs→b∉ch→s.heap.get? b=some o→H b=none→∃sl,h'.get? b=some {o with slots:=sl}) (free:∀b o,b∉ch→s.heap.get? b=some o→H b=none→H' b=none)
  (there:∀b o,b∉ch→s.heap.get? b=some o→∃o',h'.get? b=some o')
  (qm:∀b xs,H b=some (.tup xs)→H' b=some (.tup xs)) (tF:∀b o u,H b=some (.oO o u)→H' b=some (.oO o u)) (vS:∀b ps,H b=some (.Nd ps)→∃more,H' b=some (.Nd (ps++more)))
  (ns:∀m,s.heap.Ns X.env.locals m→h'.Ns X.env.locals m) (iL:rl X.prog X.w H' h') (hg:AllBare g') :
  Inv X c_ σ H' {s with heap:=h',gens:=g',drawn:=d',toks:=t'}:=by
 have neL:∀b o,X.s₀.heap.get? b=some o→b≠X.env.locals:=fun b o e=>aa1 (aaK (aaD e) I.ok.above)
 have Ws:∀b o,X.s₀.heap.get? b=some o→b∉X.ex→b∉ch:=fun b o e hx hb=>by
  rcases(Nf b hb).1 with z|z
  ·exact hx z
  ·exact absurd (aaK (aaD e) z) (aby _)
 have cellK:∀x c,X.env.cells.lookup x=some c→∀v,s.heap.IsCell c v→h'.IsCell c v:=fun x c e v ⟨o,ho,hd⟩=>by
  have UA:c∉ch:=fun z=>(Nf c z).2.2.1 x c e rfl
  by_cases hc:c∈X.fs
  ·obtain⟨sl,q⟩:=slot c o (I.Nv x c e) hc UA ho (I.mq x c e)
   exact⟨_,q,hd⟩
  ·exact⟨o,keep c o (I.Nv x c e) hc UA ho (I.mq x c e),hd⟩
 refine⟨I.ok,I.os,hg,⟨fun b o e n hb hx=>?_,fun b o e n hb hx=>?_,fun b o e n hx=>?_,fun b o e hx=>?_,fun b xs e=>qm b xs (I.base.qm b xs e),fun b o xs e=>tF b o xs (I.base.tF b o xs e),fun b ps e=>?_⟩,?_,fun x c e=>?_,?_,fun x c e=>?_,fun p hp=>?_,iL,I.len⟩
 ·exact keep b o (neL b o e) hb (Ws b o e hx) (I.base.keep b o e n hb hx) (I.base.free b o e n hx)
 ·obtain⟨sl,e1⟩:=I.base.slot b o e n hb hx
  obtain⟨Ys,e2⟩:=slot b _ (neL b o e) hb (Ws b o e hx) e1 (I.base.free b o e n hx)
  exact⟨Ys,e2⟩
 ·obtain⟨o',e1⟩:=I.base.there b o e hx
  exact free b o' (Ws b o e hx) e1 (I.base.free b o e n hx)
 ·obtain⟨o',e1⟩:=I.base.there b o e hx
  exact there b o' (Ws b o e hx) e1
 ·obtain⟨m1,e1⟩:=I.base.vS b ps e
  obtain⟨m2,e2⟩:=vS b _ e1
  exact⟨m1++m2,by rw[e2,Array.append_assoc]⟩
 ·obtain⟨m,hn,hl⟩:=I.loc
  refine⟨m,ns m hn,fun i x v e1 e2 e3=>?_⟩
  obtain⟨u,r,l⟩:=hl i x v e1 e2 e3
  refine⟨u,r,?_⟩
  rcases l with l|⟨k,c,e,z⟩
  ·exact .inl l
  ·exact .inr ⟨k,c,e,cellK x c e _ z⟩
 ·obtain⟨v,z⟩:=I.cell x c e
  exact⟨v,cellK x c e v z⟩
 ·obtain⟨m,⟨o,_,_,ho,_⟩,_⟩:=I.loc
  exact free _ o (fun z=>(Nf _ z).2.1 rfl) ho I.free
 ·obtain⟨v,o,ho,hd⟩:=I.cell x c e
  exact free c o (fun z=>(Nf c z).2.2.1 x c e rfl) ho (I.mq x c e)
 ·obtain⟨e,n,ne,nf,d⟩:=I.pin p hp
  have UA:p.1∉ch:=fun z=>(Nf p.1 z).2.2.2 p hp rfl
  exact⟨keep p.1 p.2 ne nf UA e n,free p.1 p.2 UA e n,ne,nf,d⟩
theorem Inv.un{t':Nat}(I:Inv X c_ σ H s)(u:Un X.fs [] H H' s.heap h')(iL:rl X.prog X.w H' h'):Inv X c_ σ H' {s with heap:=h',toks:=t'}:=by
 obtain⟨m,⟨o,es,ep,ho,r⟩,_⟩:=id I.loc
 obtain⟨sl,hL⟩:=u.any ho I.free (by simp)
 exact I.step (g':=s.gens) (d':=s.drawn) (ch:=[]) (fun _ z=>nomatch z) (fun b o _ hb _ e n=>u.keep b o e n hb (by simp)) (fun b o _ hb _ e n=>u.slot b o e n hb (by simp)) (fun b o _ e n=>u.free b o e n (by simp)) (fun b o _ e=>u.there b o e (by simp)) u.qm u.tF u.vS (fun m' hm=>by
  obtain⟨o',SF,Po,pN,r'⟩:=hm
  rw[ho] at pN;cases pN
  exact⟨_,SF,Po,hL,r'⟩) iL I.bare
theorem Inv.call{g':Array GenState}{t':Nat}{d':Drawn}{ch:List Addr}(I:Inv X c_ σ H s)(u:Un (tw X.stack) ch H H' s.heap h')(iL:rl X.prog X.w H' h')(hg:AllBare g')
  (Nf:∀b∈ch,(b∈X.ex∨X.s₀.heap.objs.size≤b)∧b≠X.env.locals∧(∀x c,X.env.cells.lookup x=some c→c≠b)∧∀p∈X.pn++c_,p.1≠b) :
  Inv X c_ σ H' {s with heap:=h',gens:=g',drawn:=d',toks:=t'}:=by
 obtain⟨m,⟨o,es,ep,ho,r⟩,_⟩:=id I.loc
 obtain⟨sl,hL⟩:=u.any ho I.free fun z=>(Nf _ z).2.1 rfl
 exact I.step (ch:=ch) Nf (fun b o hL hb hc e n=>u.keep b o e n (fun z=>(aag.mp (I.yr b z)).elim hL hb) hc) (fun b o _ _ hc e n=>u.any e n hc) (fun b o hc e n=>u.free b o e n hc) (fun b o hc e=>u.there b o e hc) u.qm u.tF u.vS (fun m' hm=>by
  obtain⟨o',SF,Po,pN,r'⟩:=hm
  rw[ho] at pN;cases pN
  exact⟨_,SF,Po,hL,r'⟩) iL hg
theorem Inv.turned{t':Nat}{it:Addr}(I:Inv X c_ σ H s)(k:∀b o,b≠it→s.heap.get? b=some o→h'.get? b=some o)(hn:H it=none)(hL:it≠X.env.locals)
  (h1:it∈X.ex∨X.s₀.heap.objs.size≤it) (h2:∀x c,X.env.cells.lookup x=some c→c≠it) (h3:∀p∈X.pn++c_,p.1≠it):Inv X c_ σ H {s with heap:=h',toks:=t'}:=by
 have nit:∀b u,H b=some u→b≠it:=fun b u e z=>by rw[z,hn] at e;cases e
 refine I.step (g':=s.gens) (d':=s.drawn) (ch:=[it]) (fun b hb=>?_) (fun b o _ _ hc e _=>k b o (fun z=>hc (by simp[z])) e) (fun b o _ _ hc e _=>⟨o.slots,k b o (fun z=>hc (by simp[z])) e⟩) (fun _ _ _ _ n=>n)
  (fun b o hc e=>⟨o,k b o (fun z=>hc (by simp[z])) e⟩) (fun _ _ e=>e) (fun _ _ _ e=>e) (fun b ps e=>⟨#[],by rw[e];simp⟩) (fun m hm=>?_) (fun b u e=>?_) I.bare
 ·have e:b=it:=by simpa using hb
  subst e
  exact⟨h1,hL,h2,h3⟩
 ·obtain⟨o,es,ep,ho,r⟩:=hm
  exact⟨o,es,ep,k _ o (abT hL) ho,r⟩
 ·refine(I.iL b u e).yq (fun c v hc q=>k c v ?_ q) (fun _ q=>q) fun _ _ q=>q
  rcases hc with z|z
  ·rw[z];exact nit b u e
  ·exact nit c _ z
theorem Inv.tok(I:Inv X c_ σ H s)(t:Nat):Inv X c_ σ H {s with toks:=t}:=I.un (h':=s.heap) (t':=t) Un.refl I.iL
theorem Inv.kept{t':Nat}(I:Inv X c_ σ H s)(k:∀b u,s.heap.get? b=some u→h'.get? b=some u):Inv X c_ σ H {s with heap:=h',toks:=t'}:=I.un (Un.kept k) (I.iL.kept k)
theorem Inv.laid{a:Addr}{o:HO}{t':Nat}(I:Inv X c_ σ H s)(k:∀b u,s.heap.get? b=some u→h'.get? b=some u)(hp:s.heap.objs.size≤a)(new:i4 X.prog X.w (upd H a o) h' a o) :
 Inv X c_ σ (upd H a o) {s with heap:=h',toks:=t'}:=I.un (Un.laid k hp (I.iL.fresh hp)) (I.iL.laid k hp new)
theorem Inv.write{x e:Addr}{o:HO}{t':Nat}(I:Inv X c_ σ H s)(mu:O4 (H x))(he:e=x∨H e=some (.own x))(k:∀b u,b≠e→s.heap.get? b=some u→h'.get? b=some u)(MM:∃u,h'.get? e=some u)
 (new:i4 X.prog X.w (upd H x o) h' x o):Inv X c_ σ (upd H x o) {s with heap:=h',toks:=t'}:=I.un (Un.write mu he k MM) (I.iL.write mu he k MM new)
theorem Inv.AI{Pp:Qqz}(I:Inv X c_ σ H s)(h:∀p∈Pp,s.heap.get? p.1=some p.2∧H p.1=none∧p.1≠X.env.locals∧p.1∉X.fs∧∀v,p.2.data≠.cell v):Inv X Pp σ H s:=
 ⟨I.ok,I.os,I.bare,I.base,I.loc,I.cell,I.free,I.mq,fun p hp=>(aaf.mp hp).elim (fun z=>I.pin p (aaC _ z)) (h p),I.iL,I.len⟩
theorem AZ{N:List Str}(hN:N.Nodup){i j:Nat}{x:Str}(a:N[i]?=some x)(b:N[j]?=some x):i=j:=by
 obtain⟨h1,e1⟩:=Vb.mp a
 obtain⟨h2,e2⟩:=Vb.mp b
 exact(List.getElem_inj hN).mp (e1.trans e2.symm)
theorem Di{M:Model}{A:Around}{E:Qqq}{i:Nat}{x:Str}{v:V}{u:Value}{Q:Unit→Shared→Prop}(I:Inv X c_ σ H s)(hN:X.N.Nodup)(hi:X.N[i]?=some x)(hx:Loc X.env.scope x)(r:RelV v u)
  (h:∀s',Inv X c_ (σ.set i (some v)) H s'→(∃a,Heap.SameBut a s.heap s'.heap∧(a=X.env.locals∨X.env.cells.lookup x=some a))→Q () s') (hf:X.fn x=true∨X.env.scope.names.lookup x=some .local:=by first|exact .inl rfl|exact .inr rfl|assumption):wpAny M A (storeName X.env x u) Q E s:=by
 obtain⟨m,hn,hl⟩:=id I.loc
 have RD:(X.env.scope.kind ==.class||(X.env.scope.kind ==.module&&X.env.locals != X.env.globals))=false:=by rw[I.ok.kind];rfl
 have Wt:i<σ.length:=by rw[I.len];exact(Vb.mp hi).1
 have Nv:=I.Nv
 have tracked:∀{a:Addr} {h':Heap},(∃o,s.heap.get? a=some o∧H a=none)→Heap.SameBut a s.heap h'→rl X.prog X.w H h':=fun{a h'} ha hs b ob e=>by
  obtain⟨_,_,Aj⟩:=ha
  refine(I.iL b ob e).yq (fun c w' hc q=>(hs.2 c ?_).trans q) (fun _ q=>q) fun _ _ q=>q
  rintro rfl
  rcases hc with rfl|hc
  ·rw[Aj] at e;cases e
  ·rw[Aj] at hc;cases hc
 rcases hx with hk|hk
 ·refine wpAny_storeName_local hk hn (fun h' Pq hs=>?_) RD
  obtain⟨oL,_,_,hoL,_⟩:=id hn
  refine h _ ⟨I.ok,I.os,I.bare,⟨fun b o e n hb hx=>?_,fun b o e n hb hx=>?_,I.base.free,fun b o e hx=>?_,I.base.qm,I.base.tF,I.base.vS⟩,⟨_,Pq,fun j y v' e1 e2 e3=>?_⟩,fun y c e=>?_,I.free,I.mq,fun p hp=>?_,tracked ⟨oL,hoL,I.free⟩ hs,by simpa using I.len⟩ ⟨_,hs,.inl rfl⟩
  ·exact(hs.2 b (aa1 (aaK (aaD e) I.ok.above))).trans (I.base.keep b o e n hb hx)
  ·obtain⟨sl,e1⟩:=I.base.slot b o e n hb hx
   exact⟨sl,(hs.2 b (aa1 (aaK (aaD e) I.ok.above))).trans e1⟩
  ·obtain⟨o',e1⟩:=I.base.there b o e hx
   exact⟨o',(hs.2 b (aa1 (aaK (aaD e) I.ok.above))).trans e1⟩
  ·by_cases hj:j=i
   ·subst hj
    rw[hi] at e1;cases e1
    rw[abf Wt] at e2
    cases e2
    exact⟨u,r,.inl ⟨hk,by simp⟩⟩
   ·rw[abm (abT hj)] at e2
    obtain⟨u',r',q⟩:=hl j y v' e1 e2 e3
    refine⟨u',r',?_⟩
    rcases q with⟨k,e⟩|⟨k,c,e,z⟩
    ·refine .inl ⟨k,?_⟩
     have:y≠x:=fun e=>hj (AZ hN e1 (e▸hi))
     simp[this,e]
    ·exact .inr ⟨k,c,e,z.sameBut hs (Nv y c e)⟩
  ·obtain⟨w',z⟩:=I.cell y c e
   exact⟨w',z.sameBut hs (Nv y c e)⟩
  ·obtain⟨e,n,ne,nf,d⟩:=I.pin p hp
   exact⟨(hs.2 p.1 ne).trans e,n,ne,nf,d⟩
 ·have Pr:X.fn x=true:=by
   rcases hf with z|z
   ·exact z
   ·rw[z] at hk;cases hk
  obtain⟨c,hc⟩:=I.ok.has x (.inl hk)
  obtain⟨w',z⟩:=I.cell x c hc
  refine wpAny_storeName_cell I.ok.kind hk hc z (fun h' D1 hs=>?_)
  obtain⟨oc,hoc,Yt⟩:=id z
  refine h {s with heap:=h'} ⟨I.ok,I.os,I.bare,⟨fun b o e n hb hx=>?_,fun b o e n hb hx=>?_,I.base.free,fun b o e hx=>?_,I.base.qm,I.base.tF,I.base.vS⟩,⟨m,hn.sameBut hs (abT (Nv x c hc)),fun j y v' e1 e2 e3=>?_⟩,fun y c' e=>?_,I.free,I.mq,fun p hp=>?_,tracked ⟨oc,hoc,I.mq x c hc⟩ hs,by simpa using I.len⟩ ⟨c,hs,.inr hc⟩
  ·exact(hs.2 b (aa1 (aaK (aaD e) (I.ok.Nt x c Pr hc)))).trans (I.base.keep b o e n hb hx)
  ·obtain⟨sl,e1⟩:=I.base.slot b o e n hb hx
   exact⟨sl,(hs.2 b (aa1 (aaK (aaD e) (I.ok.Nt x c Pr hc)))).trans e1⟩
  ·obtain⟨o',e1⟩:=I.base.there b o e hx
   exact⟨o',(hs.2 b (aa1 (aaK (aaD e) (I.ok.Nt x c Pr hc)))).trans e1⟩
  ·by_cases hj:j=i
   ·subst hj
    rw[hi] at e1;cases e1
    rw[abf Wt] at e2
    cases e2
    exact⟨u,r,.inr ⟨.inl hk,c,hc,D1⟩⟩
   ·rw[abm (abT hj)] at e2
    obtain⟨u',r',q⟩:=hl j y v' e1 e2 e3
    refine⟨u',r',?_⟩
    rcases q with q|⟨k,c',e,z'⟩
    ·exact .inl q
    ·refine .inr ⟨k,c',e,z'.sameBut hs ?_⟩
     rintro rfl
     exact hj (AZ hN e1 (I.ok.inj _ _ _ e hc▸hi))
  ·by_cases hcc:c'=c
   ·subst hcc;exact⟨_,D1⟩
   ·obtain⟨w2,z2⟩:=I.cell y c' e
    exact⟨w2,z2.sameBut hs hcc⟩
  ·obtain⟨e,n,ne,nf,d⟩:=I.pin p hp
   refine⟨(hs.2 p.1 ?_).trans e,n,ne,nf,d⟩
   intro q
   rw[q,hoc] at e
   have q':oc=p.2:=aaJ e
   exact d w' (by rw[←q'];exact Yt)
theorem A1{M:Model}{A:Around}{E:Qqq}{i:Nat}{x:Str}{v:V}{u:Value}{Q:Unit→Shared→Prop}(I:Inv X c_ σ H s)(hN:X.N.Nodup)(hi:X.N[i]?=some x)(hx:Loc X.env.scope x)(r:RelV v u)
  (h:∀s',Inv X c_ (σ.set i (some v)) H s'→Q () s') (hf:X.fn x=true∨X.env.scope.names.lookup x=some .local:=by first|exact .inl rfl|exact .inr rfl|assumption):wpAny M A (storeName X.env x u) Q E s:=
 Di I hN hi hx r (fun s' I' _=>h s' I') hf
theorem Inv.O6{s':Shared}{ch:List Addr}(I:Inv X c_ σ H s)(ho:s'.os=s.os)(u:Un (tw X.stack) ch H H' s.heap s'.heap)(iL:rl X.prog X.w H' s'.heap)(hg:AllBare s'.gens)
  (Nf:∀b∈ch,(b∈X.ex∨X.s₀.heap.objs.size≤b)∧b≠X.env.locals∧(∀x c,X.env.cells.lookup x=some c→c≠b)∧∀p∈X.pn++c_,p.1≠b):Inv X c_ σ H' s':=by
 obtain⟨h',g',d',t',o'⟩:=s'
 have e:o'=s.os:=ho
 subst e
 exact I.call (g':=g') (t':=t') (d':=d') u iL hg Nf
end
abbrev XK:=Value→Option Addr→Hp→Prop
abbrev St:=List (Option V)
abbrev VK:=V→Hp→Prop
abbrev TE:=St→Hp→VK→Prop
abbrev TT:=St→Hp→(Bool→Hp→Prop)→Prop
abbrev TA:=St→Hp→(List V→Hp→Prop)→Prop
structure Ends where
 nx:St→Hp→Prop
 rt:VK
 bk:St→Hp→Prop:=fun _ _=>False
 ct:St→Hp→Prop:=fun _ _=>False
abbrev TS:=Ends→St→Hp→Prop
def EP(X:Cx)(c_:Qqz)(σ:St)(Q:VK)(u:Value)(s':Shared):Prop:=∃v H',Inv X c_ σ H' s'∧RelV v u∧Q v H'
def TP(X:Cx)(c_:Qqz)(σ:St)(Q:Bool→Hp→Prop)(b:Bool)(s':Shared):Prop:=∃H',Inv X c_ σ H' s'∧Q b H'
def AP(X:Cx)(c_:Qqz)(σ:St)(Q:List V→Hp→Prop)(us:List Value)(s':Shared):Prop:=∃vs H',Inv X c_ σ H' s'∧Vals vs us∧Q vs H'
def SP(X:Cx)(c_:Qqz)(D:Ends)(f:Flow)(s':Shared):Prop:=
 match f with
 | .next=>∃σ' H',Inv X c_ σ' H' s'∧D.nx σ' H'
 | .brk=>∃σ' H',Inv X c_ σ' H' s'∧D.bk σ' H'
 | .cont=>∃σ' H',Inv X c_ σ' H' s'∧D.ct σ' H'
 | .ret u=>∃v σ' H',Inv X c_ σ' H' s'∧RelV v u∧D.rt v H'
def PE(X:Cx)(e:Expr)(t:TE):Prop:=
 ∀(c_:Qqz)(s:Shared)(σ:St)(H:Hp)(Q:VK),Inv X c_ σ H s→t σ H Q→wpAny (model X.prog X.w) X.A (eval e X.env) (EP X c_ σ Q) X.xe s
def PT(X:Cx)(e:Expr)(t:TT):Prop:=
 ∀(c_:Qqz)(s:Shared)(σ:St)(H:Hp)(Q:Bool→Hp→Prop),Inv X c_ σ H s→t σ H Q→wpAny (model X.prog X.w) X.A (isTrue e X.env (eval e X.env)) (TP X c_ σ Q) X.xe s
def PW(X:Cx)(e:Expr)(t:TT):Prop:=
 ∀(whole:Sem Value)(c_:Qqz)(s:Shared)(σ:St)(H:Hp)(Q:Bool→Hp→Prop),Inv X c_ σ H s→t σ H Q→wpAny (model X.prog X.w) X.A (isTrue e X.env whole) (TP X c_ σ Q) X.xe s
theorem PW.pt{X:Cx}{e:Expr}{t:TT}(h:PW X e t):PT X e t:=h _
def PA(X:Cx)(es:List Expr)(t:TA):Prop:=
 ∀(pos:Pos)(c_:Qqz)(s:Shared)(σ:St)(H:Hp)(Q:List V→Hp→Prop),Inv X c_ σ H s→t σ H Q→wpAny (model X.prog X.w) X.A (spliced (backTo pos (starEach es X.env))) (AP X c_ σ Q) X.xe s
def PS(X:Cx)(st:Stmt)(t:TS):Prop:=
 ∀(c_:Qqz)(s:Shared)(σ:St)(H:Hp)(D:Ends),Inv X c_ σ H s→t D σ H→wpAny (model X.prog X.w) X.A (exec st X.env) (SP X c_ D) X.xe s
def Dj(X:Cx)(st:List Stmt)(t:TS):Prop:=
 ∀(c_:Qqz)(s:Shared)(σ:St)(H:Hp)(D:Ends),Inv X c_ σ H s→t D σ H→wpAny (model X.prog X.w) X.A (execs st X.env) (SP X c_ D) X.xe s
theorem i7{α:Type}{t:Sem α}{Q Q':α→Shared→Prop}{M:Model}{A:Around}{E:Qqq}{s:Shared}(h:wpAny M A t Q E s)(hQ:∀a s,Q a s→Q' a s):wpAny M A t Q' E s:=abv h hQ fun _ _ x=>x
section
variable{X:Cx}
def Td(i:Nat):TE:=fun σ H Q=>∃v,σ[i]?=some (some v)∧Q v H
def tC(v:V):TE:=fun _ H Q=>Q v H
theorem P9{i:Nat}{x:Str}{pos:Pos}(hN:X.N[i]?=some x)(hv:Xk X.env.scope x)(hd:(x ==("__debug__":Str))=false:=by decide)(CM:(x ==("__classdict__":Str))=false:=by decide):PE X (.Name x pos) (Td i):=by
 intro c_ s σ H Q I h
 obtain⟨v,e,h⟩:=h
 obtain⟨m,hn,hl⟩:=I.loc
 obtain⟨u,r,l⟩:=hl i x v hN e hv
 have fin:EP X c_ σ Q u s:=⟨v,H,I,r,h⟩
 rcases l with⟨hk,hm⟩|⟨hk,c,hc,Pu⟩
 ·exact wpAny_Name (wpAny_loadName_local I.ok.kind hk hn hm fin) hd
 ·rcases hk with hk|hk
  ·exact wpAny_Name (wpAny_loadName_cell I.ok.kind hk hc Pu fin) hd
  ·exact wpAny_Name (wpAny_loadName_free I.ok.kind hk hc Pu fin CM) hd
theorem gi{i j pos}:PE X (.Constant (.int i) j pos) (tC (.int i)):=fun _ _ _ H _ I h=>wpAny_Constant_int ⟨.int i,H,I.tok _,⟨_,rfl⟩,h⟩
theorem nB{b j pos}:PE X (.Constant (.bool b) j pos) (tC (.bl b)):=fun _ _ _ H _ I h=>Constant_bool ⟨.bl b,H,I,rfl,h⟩
theorem tG{j pos}:PE X (.Constant .none j pos) (tC .js):=fun _ _ _ H _ I h=>Constant_none ⟨.js,H,I,rfl,h⟩
theorem i0{x j pos}:PE X (.Constant (.str x) j pos) (tC (.str x)):=fun _ _ _ H _ I h=>Calls.Constant_str ⟨.str x,H,I.tok _,⟨_,rfl⟩,h⟩
def Gl(X:Cx)(x:Str):Prop:=X.env.kindOf x=some .globalImplicit
theorem rn{E:Qqq}{c_:Qqz}{s:Shared}{σ:St}{H:Hp}{x:Str}{u:Value}{pos:Pos}{Q:Qqq}(I:Inv X c_ σ H s)(hg:Gl X x)(hm:X.mg x=some u)(h:Q u s)
  (hd:(x ==("__debug__":Str))=false:=by decide):wpAny (model X.prog X.w) X.A (eval (.Name x pos) X.env) Q E s:=
 Calls.Name_function_global I.ok.kind hg (Calls.loadGlobal_global (by rw[I.ok.glob];exact I.mod.glob.keeps I.bk) hm h) hd
theorem qo{E:Qqq}{c_:Qqz}{s:Shared}{σ:St}{H:Hp}{x:Str}{u:Value}{pos:Pos}{Q:Qqq}(I:Inv X c_ σ H s)(hg:Gl X x)(hm:X.mg x=none)(hv:bootBuiltins x=some u)(h:Q u s)
  (hn:x≠"__name__":=by decide) (hd:(x ==("__debug__":Str))=false:=by decide):wpAny (model X.prog X.w) X.A (eval (.Name x pos) X.env) Q E s:=by
 obtain⟨mb,h1,h2⟩:=I.mod.blt
 exact Calls.Name_function_global I.ok.kind hg (Calls.loadGlobal_builtin (by rw[I.ok.glob];exact I.mod.glob.keeps I.bk) hm (by rw[I.ok.blt];exact h1.keeps I.bk) ((h2 x hn).trans hv) h) hd
theorem mB{x:Str}{v:V}{u:Value}{pos:Pos}(hg:Gl X x)(hm:X.mg x=some u)(r:RelV v u)(hd:(x ==("__debug__":Str))=false:=by decide):PE X (.Name x pos) (tC v):=
 fun _ _ _ H _ I h=>rn I hg hm ⟨v,H,I,r,h⟩ hd
theorem D8{x:Str}{v:V}{u:Value}{pos:Pos}(hg:Gl X x)(hm:X.mg x=none)(hv:bootBuiltins x=some u)(r:RelV v u)(hn:x≠"__name__":=by decide)(hd:(x ==("__debug__":Str))=false:=by decide):PE X (.Name x pos) (tC v):=
 fun _ _ _ H _ I h=>qo I hg hm hv ⟨v,H,I,r,h⟩ hn hd
variable{a b:Expr}{ta tb:TE}{pos:Pos}
def PC(X:Cx)(op:CmpOp)(a b:Expr)(t:TE):Prop:=
 ∀(c_:Qqz)(s:Shared)(σ:St)(H:Hp)(Q:VK),Inv X c_ σ H s→t σ H Q→
  wpAny (model X.prog X.w) X.A (eval a X.env) (fun v s₁=>wpAny (model X.prog X.w) X.A (eval b X.env) (fun u s₂=>wpAny (model X.prog X.w) X.A (compareOp op v u) (EP X c_ σ Q) X.xe s₂) X.xe s₁) X.xe s
theorem FO(b:Expr){op:CmpOp}(h:op≠.In)(h2:op≠.NotIn):behindInMarks op b=false:=by
 have e1:(op ==CmpOp.In)=false:=by cases op<;>first|rfl|exact absurd rfl h
 have e2:(op ==CmpOp.NotIn)=false:=by cases op<;>first|rfl|exact absurd rfl h2
 cases b<;>simp[behindInMarks,e1,e2]
def Te(ta:TE):TE:=fun σ H Q=>ta σ H fun x H1=>Q (.bl (!decide (x=.js))) H1
theorem RelV.Lb{x:V}{v:Value}(r:RelV x v):(v ==Value.none)=decide (x=.js):=by
 cases x with
 | js=>cases r;rfl
 | bl _=>cases r;rfl
 | int _=>obtain⟨t,rfl⟩:=r;rfl
 | str _=>obtain⟨t,rfl⟩:=r;rfl
 | HA _=>obtain⟨t,rfl⟩:=r;rfl
 | O3 _=>obtain⟨t,rfl⟩:=r;rfl
 | ref _=>cases r;rfl
 | ty _=>cases r;rfl
theorem rq{j pos'}(ha:PE X a ta):PC X .IsNot a (.Constant .none j pos') (Te ta):=by
 intro c_ s σ H Q I h
 refine i7 (ha c_ s σ H _ I h) fun v s1 ⟨x,H1,I1,r1,q1⟩=>?_
 exact Constant_none (isnot_none_gen ⟨.bl _,H1,I1,by rw[r1.Lb];rfl,q1⟩)
def tB(t:TE):TT:=fun σ H Q=>t σ H fun x H1=>∃c,x=.bl c∧Q c H1
theorem P_{op:CmpOp}{t:TE}(h:PC X op a b t)(h1:behindInMarks op b=false:=by first|exact FO _ (by decide) (by decide)|rfl):PE X (.Compare a [op] [b] pos) t:=fun c_ s σ H Q I hw=>wpAny_Compare1 (h c_ s σ H Q I hw) h1
theorem ji{op:CmpOp}{t:TE}(h:PC X op a b t)(h1:behindInMarks op b=false:=by first|exact FO _ (by decide) (by decide)|rfl):PT X (.Compare a [op] [b] pos) (tB t):=by
 intro c_ s σ H Q I hw
 refine wpAny_isTrue_Compare1 (i7 (h c_ s σ H _ I hw) fun v s1 h1=>i7 h1 fun u s2 h2=>i7 h2 fun c s3 ⟨x,H1,I1,r1,q1⟩=>?_) h1
 obtain⟨d,rfl,q⟩:=q1
 cases r1
 exact abP ⟨H1,I1,q⟩
theorem rA{e:Expr}{t:TE}(h:PE X e t)(he:∀whole,isTrue e X.env whole=(do let v ←whole;standAt e.pos;holding [v] (truthy v)):=by intro _;rfl):PT X e (tB t):=by
 intro c_ s σ H Q I hw
 refine isTrue_plain (i7 (h c_ s σ H _ I hw) fun v s1 ⟨x,H1,I1,r1,q1⟩=>?_) (he _)
 obtain⟨d,rfl,q⟩:=q1
 cases r1
 exact abP ⟨H1,I1,q⟩
variable{tA Wu:TT}{rest:List Expr}
def Xl(t u:TT):TT:=fun σ H Q=>t σ H fun c H1=>if c=true then u σ H1 Q else Q false H1
def tOr(t u:TT):TT:=fun σ H Q=>t σ H fun c H1=>if c=true then Q true H1 else u σ H1 Q
def Xm(t:TT):TT:=fun σ H Q=>t σ H fun c H1=>Q (!c) H1
theorem pw_and1(ha:PT X a tA):PW X (.BoolOp .And [a] pos) tA:=by
 intro wh c_ s σ H Q I h
 refine isTrue_and (i7 (ha c_ s σ H Q I h) fun c s1 e=>?_)
 cases c with
 | true=>exact isTrue_and_nil e
 | false=>exact e
theorem pw_or1(ha:PT X a tA):PW X (.BoolOp .Or [a] pos) tA:=by
 intro wh c_ s σ H Q I h
 refine isTrue_or (i7 (ha c_ s σ H Q I h) fun c s1 e=>?_)
 cases c with
 | false=>exact isTrue_or_nil e
 | true=>exact e
theorem pw_and(ha:PT X a tA)(hb:PW X (.BoolOp .And (b::rest) pos) Wu):PW X (.BoolOp .And (a::b::rest) pos) (Xl tA Wu):=by
 intro wh c_ s σ H Q I h
 refine isTrue_and (i7 (ha c_ s σ H _ I h) fun c s1 ⟨H1,I1,q1⟩=>?_)
 cases c with
 | true=>exact hb wh c_ s1 σ H1 Q I1 q1
 | false=>exact⟨H1,I1,q1⟩
theorem pw_or(ha:PT X a tA)(hb:PW X (.BoolOp .Or (b::rest) pos) Wu):PW X (.BoolOp .Or (a::b::rest) pos) (tOr tA Wu):=by
 intro wh c_ s σ H Q I h
 refine isTrue_or (i7 (ha c_ s σ H _ I h) fun c s1 ⟨H1,I1,q1⟩=>?_)
 cases c with
 | true=>exact⟨H1,I1,q1⟩
 | false=>exact hb wh c_ s1 σ H1 Q I1 q1
theorem o7(ha:PT X a tA):PT X (.UnaryOp .Not a pos) (Xm tA):=by
 intro c_ s σ H Q I h
 exact isTrue_not (ha c_ s σ H (fun c H1=>Q (!c) H1) I h)
def Xn(ta tb:TE):TE:=fun σ H Q=>ta σ H fun x H1=>∃c,x=.bl c∧if c=true then Q (.bl true) H1 else tb σ H1 Q
theorem Qa{op}{t:TE}(h:PE X a t):PE X (.BoolOp op [a] pos) t:=fun c_ s σ H Q I hw=>BoolOp_one (h c_ s σ H Q I hw)
theorem Tf(ha:PE X a ta)(hb:PE X (.BoolOp .Or (b::rest) pos) tb):PE X (.BoolOp .Or (a::b::rest) pos) (Xn ta tb):=by
 intro c_ s σ H Q I h
 refine BoolOp_or (i7 (ha c_ s σ H _ I h) fun v s1 ⟨x,H1,I1,r1,q1⟩=>?_)
 obtain⟨c,rfl,q1⟩:=q1
 cases r1
 refine abP ?_
 cases c with
 | false=>exact hb c_ s1 σ H1 Q I1 q1
 | true=>exact⟨.bl true,H1,I1,rfl,q1⟩
end
def gK(K:Qqy)(H:Hp)(a:Addr)(xs:List V):Prop:=
 Rd H a (.lst xs)∨
  ∃(o:Obj)(ic:Array Value)(n:Nat),K.lookup a=some o∧o.cls=.type "list"∧o.dict=none∧o.data=.seq ic n∧ic.size≤sizeLine∧Vals xs ic.toList
def yo(K:Qqy)(H:Hp)(a:Addr)(xs:List V):Prop:=
 Rd H a (.tup xs)∨
  ∃(o:Obj)(ic:Array Value)(n:Nat),K.lookup a=some o∧o.cls=.type "tuple"∧o.data=.seq ic n∧ic.size≤sizeLine∧Vals xs ic.toList
noncomputable def Xo:Value→Option V
 | .none=>some .js
 | .bool b=>some (.bl b)
 | .int i _=>some (.int i)
 | .str x _=>some (.str x)
 | .bytes b _=>some (.HA b)
 | .float b _=>some (.O3 b)
 | .ref a=>some (.ref a)
 | .type n=>some (.ty n)
 | _=>none
theorem RelV.abs{x:V}{u:Value}(r:RelV x u):Xo u=some x:=by
 cases x with
 | js=>cases r;rfl
 | bl _=>cases r;rfl
 | int _=>obtain⟨t,rfl⟩:=r;rfl
 | str _=>obtain⟨t,rfl⟩:=r;rfl
 | HA _=>obtain⟨t,rfl⟩:=r;rfl
 | O3 _=>obtain⟨t,rfl⟩:=r;rfl
 | ref _=>cases r;rfl
 | ty _=>cases r;rfl
theorem RelV.inj{x y:V}{u:Value}(r:RelV x u)(q:RelV y u):x=y:=aaJ (r.abs.symm.trans q.abs)
theorem Vals.inj:∀{xs ys:List V} {us:List Value},Vals xs us→Vals ys us→xs=ys
 | _,_,_,.nil,.nil=>rfl
 | _,_,_,.cons r t,.cons r' t'=>by rw[r.inj r',Vals.inj t t']
section
variable{X:Cx}{c_:Qqz}{σ:St}{H:Hp}{s:Shared}{a:Addr}{xs ys:List V}
theorem gK.of{K:Qqy}(h:H a=some (.lst xs)):gK K H a xs:=.inl (.inl h)
theorem yo.of{K:Qqy}(h:H a=some (.tup xs)):yo K H a xs:=.inl (.inl h)
theorem Inv.list(I:Inv X c_ σ H s)(h:gK X.K H a xs):∃ic:List Value,Vals xs ic∧PlainL s.heap a ic.toArray∧xs.length≤sizeLine:=by
 rcases h with h|⟨o,ic,n,hk,hc,hd,hs,hz,r⟩
 ·obtain⟨z,ic,n,r,e⟩:=h.ok I.iL
  exact⟨ic,r,⟨_,n,e,rfl,rfl,rfl⟩,z⟩
 ·refine⟨ic.toList,r,⟨o,n,I.vy a o hk,hc,hd,by simpa using hs⟩,?_⟩
  have e:=r.length
  simp only [abg] at e
  omega
theorem Inv.tuple(I:Inv X c_ σ H s)(h:yo X.K H a xs):∃ic:List Value,Vals xs ic∧IsTup s.heap a ic.toArray∧xs.length≤sizeLine:=by
 rcases h with h|⟨o,ic,n,hk,hc,hs,hz,r⟩
 ·obtain⟨z,ic,r,p⟩:=h.ok I.iL
  exact⟨ic,r,p,z⟩
 ·refine⟨ic.toList,r,⟨o,I.vy a o hk,hc,n,by simpa using hs⟩,?_⟩
  have e:=r.length
  simp only [abg] at e
  omega
theorem Inv.qF(I:Inv X c_ σ H s)(h:gK X.K H a xs)(h':gK X.K H a ys):xs=ys:=by
 obtain⟨ic,r,⟨o,n,e,_,_,d⟩,_⟩:=I.list h
 obtain⟨its',r',⟨o',n',e',_,_,d'⟩,_⟩:=I.list h'
 rw[e] at e';cases e'
 rw[d] at d'
 injection d' with d1 _
 have:ic=its':=by simpa using abb Array.toList d1
 subst this
 exact r.inj r'
theorem Inv.JR(I:Inv X c_ σ H s)(h:yo X.K H a xs)(h':yo X.K H a ys):xs=ys:=by
 obtain⟨ic,r,⟨o,e,_,n,d⟩,_⟩:=I.tuple h
 obtain⟨its',r',⟨o',e',_,n',d'⟩,_⟩:=I.tuple h'
 rw[e] at e';cases e'
 rw[d] at d'
 injection d' with d1 _
 have:ic=its':=by simpa using abb Array.toList d1
 subst this
 exact r.inj r'
end
noncomputable abbrev Cx.CP(X:Cx)(E:Qqq):Cx:={X with xe:=E}
noncomputable abbrev Cx.Tg(X:Cx):Cx:=X.CP fun _ _=>False
theorem Cx.Ok.CP{X:Cx}(ok:X.Ok)(E:Qqq):(X.CP E).Ok:=
 ⟨ok.mod,ok.kind,ok.glob,ok.blt,ok.above,ok.inj,ok.has,ok.Nt,ok.hd,ok.frames,ok.O5,ok.Sq,ok.bs,ok.JQ,ok.rm,ok.FN,ok.tD,ok.K3⟩
theorem Cx.Ok.tH{X:Cx}{E:Qqq}(ok:(X.CP E).Ok):X.Ok:=
 ⟨ok.mod,ok.kind,ok.glob,ok.blt,ok.above,ok.inj,ok.has,ok.Nt,ok.hd,ok.frames,ok.O5,ok.Sq,ok.bs,ok.JQ,ok.rm,ok.FN,ok.tD,ok.K3⟩
section
variable{X:Cx}{c_:Qqz}{σ:St}{H:Hp}{s:Shared}{E:Qqq}
theorem Inv.CP(I:Inv X c_ σ H s)(E:Qqq):Inv (X.CP E) c_ σ H s:=⟨I.ok.CP E,I.os,I.bare,I.base,I.loc,I.cell,I.free,I.mq,I.pin,I.iL,I.len⟩
theorem Inv.tH(I:Inv (X.CP E) c_ σ H s):Inv X c_ σ H s:=⟨I.ok.tH,I.os,I.bare,I.base,I.loc,I.cell,I.free,I.mq,I.pin,I.iL,I.len⟩
theorem SP.tH{D:Ends}{f:Flow}{s':Shared}(h:SP (X.CP E) c_ D f s'):SP X c_ D f s':=by
 cases f with
 | next=>obtain⟨σ',H',I,q⟩:=h;exact⟨σ',H',I.tH,q⟩
 | brk=>obtain⟨σ',H',I,q⟩:=h;exact⟨σ',H',I.tH,q⟩
 | cont=>obtain⟨σ',H',I,q⟩:=h;exact⟨σ',H',I.tH,q⟩
 | ret u=>obtain⟨v,σ',H',I,r,q⟩:=h;exact⟨v,σ',H',I.tH,r,q⟩
theorem Dj.Tg{st:List Stmt}{t:TS}(h:Dj X.Tg st t):Dj X st t:=fun c_ s σ H D I hw=>
 abv (h c_ s σ H D (I.CP _) hw) (fun _ _ q=>q.tH) fun _ _ z=>False.elim z
end
section
variable{X:Cx}{st:Stmt}{rest:List Stmt}{t u:TS}{e:Expr}{te:TE}{pos:Pos}
def Th:TS:=fun D σ H=>D.nx σ H
def i3(t u:TS):TS:=fun D σ H=>t {D with nx:=u D} σ H
theorem ia:Dj X [] Th:=fun _ _ σ H _ I h=>wpAny_execs_nil ⟨σ,H,I,h⟩
theorem de(h1:PS X st t)(h2:Dj X rest u):Dj X (st::rest) (i3 t u):=by
 intro c_ s σ H D I h
 refine wpAny_execs_cons (i7 (h1 c_ s σ H {D with nx:=u D} I h) fun f s1 q=>?_)
 cases f with
 | next=>
  obtain⟨σ',H',I',q⟩:=q
  exact h2 c_ s1 σ' H' D I' q
 | ret v=>exact q
 | brk=>exact q
 | cont=>exact q
theorem f_(h1:PS X st t):Dj X [st] t:=by
 intro c_ s σ H D I h
 refine wpAny_execs_cons (i7 (h1 c_ s σ H D I h) fun f s1 q=>?_)
 cases f with
 | next=>exact wpAny_execs_nil q
 | ret v=>exact q
 | brk=>exact q
 | cont=>exact q
def Ti:TS:=fun D σ H=>D.ct σ H
theorem FP:PS X (.Continue pos) Ti:=fun _ _ σ H _ I h=>wpAny_Continue ⟨σ,H,I,h⟩
theorem Inv.quiet{c_:Qqz}{σ:St}{H:Hp}{s:Shared}(I:Inv X c_ σ H s):interactive X.env=false:=by simp[interactive,I.ok.kind]
def Tj(te:TE):TS:=fun D σ H=>te σ H fun _ H1=>D.nx σ H1
theorem ib(he:PE X e te)(hs:swapsWith e none pos.line X.env=pure false:=by rfl):PS X (.Expr e pos) (Tj te):=by
 intro c_ s σ H D I h
 exact wpAny_Expr_any (i7 (he c_ s σ H _ I h) fun v s1 ⟨x,H1,I1,r1,q1⟩=>⟨σ,H1,I1,q1⟩) I.quiet hs
def Xp(te:TE):TS:=fun D σ H=>te σ H D.rt
theorem gP(he:PE X e te):PS X (.Return (some e) pos) (Xp te):=by
 intro c_ s σ H D I h
 exact wpAny_Return_some (i7 (he c_ s σ H _ I h) fun v s1 ⟨x,H1,I1,r1,q1⟩=>⟨x,σ,H1,I1,r1,q1⟩)
def Xq(c:TT)(t u:TS):TS:=fun D σ H=>c σ H fun b H1=>if b=true then t D σ H1 else u D σ H1
theorem iz{c:Expr}{a b:List Stmt}{tc:TT}(hc:PT X c tc)(ha:Dj X a t)(hb:Dj X b u):PS X (.If c a b pos) (Xq tc t u):=by
 intro c_ s σ H D I h
 refine wpAny_If (i7 (hc c_ s σ H _ I h) fun d s1 ⟨H1,I1,q1⟩=>?_)
 cases d with
 | true=>exact ha c_ s1 σ H1 D I1 q1
 | false=>exact hb c_ s1 σ H1 D I1 q1
end
abbrev TG:=V→St→Hp→(St→Hp→Prop)→Prop
abbrev Qb:=List V→St→Hp→(St→Hp→Prop)→Prop
def PG(X:Cx)(target:Expr)(t:TG):Prop:=
 ∀(c_:Qqz)(s:Shared)(σ:St)(H:Hp)(v:V)(u:Value)(Q:St→Hp→Prop),Inv X c_ σ H s→RelV v u→t v σ H Q→
  wpAny (model X.prog X.w) X.A (assign target X.env u) (fun _ s'=>∃σ' H',Inv X c_ σ' H' s'∧Q σ' H') X.xe s
def Wj(X:Cx)(ts:List Expr)(t:Qb):Prop:=
 ∀(c_:Qqz)(s:Shared)(σ:St)(H:Hp)(vs:List V)(us:List Value)(Q:St→Hp→Prop),Inv X c_ σ H s→Vals vs us→t vs σ H Q→
  wpAny (model X.prog X.w) X.A (assignInOrder ((assignEach ts X.env).map (·.2)) us) (fun _ s'=>∃σ' H',Inv X c_ σ' H' s'∧Q σ' H') X.xe s
abbrev Qc:=V→V→V→Hp→(Hp→Prop)→Prop
def Tn(X:Cx)(t:Qc):Prop:=
 ∀(c_:Qqz)(s:Shared)(σ:St)(H:Hp)(o i v:V)(ov iv u:Value)(Q:Hp→Prop),Inv X c_ σ H s→RelV o ov→RelV i iv→RelV v u→t o i v H Q→
  wpAny (model X.prog X.w) X.A (setItem ov iv u) (fun _ s'=>∃H',Inv X c_ σ H' s'∧Q H') X.xe s
section
variable{X:Cx}{pos:Pos}
def nE(i:Nat):TG:=fun v σ H Q=>Q (σ.set i (some v)) H
theorem iy{i:Nat}{x:Str}(hN:X.N.Nodup)(hi:X.N[i]?=some x)(hx:Loc X.env.scope x)(hf:X.fn x=true∨X.env.scope.names.lookup x=some .local:=by first|exact .inl rfl|exact .inr rfl|assumption):PG X (.Name x pos) (nE i):=by
 intro c_ s σ H v u Q I r h
 exact wpAny_assign_Name (A1 I hN hi hx r (fun s' I'=>⟨_,H,I',h⟩) hf)
def Xr:Qb:=fun vs σ H Q=>vs=[]∧Q σ H
def To(t:TG)(u:Qb):Qb:=fun vs σ H Q=>∃v r,vs=v::r∧t v σ H fun σ' H'=>u r σ' H' Q
theorem IP:Wj X [] Xr:=by
 intro c_ s σ H vs us Q I r h
 obtain⟨e,h⟩:=h
 subst e
 cases r
 exact assignInOrder_nil ⟨σ,H,I,h⟩
theorem xb{e:Expr}{es:List Expr}{t:TG}{u:Qb}(h1:PG X e t)(h2:Wj X es u)
  (hs:(assignEach (e::es) X.env).map (·.2)=assign e X.env::(assignEach es X.env).map (·.2):=by rfl):Wj X (e::es) (To t u):=by
 intro c_ s σ H vs us Q I r h
 obtain⟨v,vr,e1,h⟩:=h
 subst e1
 cases r with
 | cons r rr=>
  rw[hs]
  refine assignInOrder_cons (i7 (h1 c_ s σ H _ _ _ I r h) fun _ s1 ⟨σ1,H1,I1,q1⟩=>?_)
  exact h2 c_ s1 σ1 H1 _ _ Q I1 rr q1
def Xs(K:Qqy)(n:Nat)(t:Qb):TG:=fun v σ H Q=>∃a xs,v=.ref a∧yo K H a xs∧xs.length=n∧t xs σ H Q
theorem Lc{es:List Expr}{k:Nat}{t:Qb}{n:Nat}(hc:X.calm=true)(h:Wj X es t)
  (hn:(assignEach es X.env).length=n:=by rfl) (yp:(assignEach es X.env).findIdx? (·.1)=none:=by rfl):PG X (.Tuple es k pos) (Xs X.K n t):=by
 intro c_ s σ H v u Q I r hw
 obtain⟨a,xs,e1,hq,hl,hw⟩:=hw
 subst e1
 cases r
 obtain⟨ic,rv,ht,hz⟩:=I.tuple hq
 refine assign_Tuple_tuple (I.ok.hd hc) ht (by simp[hn,←hl,rv.length]) yp fun h' hx=>?_
 have I1:Inv X c_ σ H {s with heap:=h'}:=I.kept (t':=s.toks) fun b o e=>hx b o (aa1 (aaD e)) e
 exact h c_ _ σ H xs _ Q I1 (by simpa using rv) hw
def Xt(to ti:TE)(t:Qc):TG:=fun v σ H Q=>to σ H fun o H1=>ti σ H1 fun i H2=>t o i v H2 fun H3=>Q σ H3
theorem D9{o i:Expr}{to ti:TE}{t:Qc}(ho:PE X o to)(hi:PE X i ti)(hs:Tn X t)
  (ha:∀v,assign (.Subscript o i pos) X.env v=(do
   let ov ←holding [v] (eval o X.env)
   let iv ←holding [v,ov] (eval i X.env)
   standAt pos
   holding [v,ov,iv] (setItem ov iv v)
   release [v,ov,iv] []):=by intro _;rfl):PG X (.Subscript o i pos) (Xt to ti t):=by
 intro c_ s σ H v u Q I r h
 rw[ha]
 refine XX (abX (i7 (ho c_ s σ H _ I h) fun ov s1 ⟨x,H1,I1,r1,q1⟩=>?_))
 refine XX (abX (i7 (hi c_ s1 σ H1 _ I1 q1) fun iv s2 ⟨y,H2,I2,r2,q2⟩=>?_))
 refine XX (wpAny_standAt (XX (abX (i7 (hs c_ s2 σ H2 x y v ov iv u _ I2 r1 r2 r q2) fun _ s3 ⟨H3,I3,q3⟩=>?_))))
 exact wpAny_release ⟨σ,H3,I3,q3⟩
def Ld(te:TE)(g:TG):TS:=fun D σ H=>te σ H fun x H1=>g x σ H1 D.nx
theorem D_{tg e:Expr}{te:TE}{g:TG}(he:PE X e te)(hg:PG X tg g)(hs:swapsWithSole [tg] e pos.line X.env=pure false:=by rfl)(hw:swappedStores [tg] e X.env=pure none:=by rfl)
  (h1:(assignEach [tg] X.env).map (·.2)=[assign tg X.env]:=by rfl):PS X (.Assign [tg] e pos) (Ld te g):=by
 intro c_ s σ H D I h
 refine wpAny_Assign_stores (i7 (he c_ s σ H _ I h) fun v s1 ⟨x,H1,I1,r1,q1⟩=>?_) hs hw
 rw[h1]
 exact i7 (hg c_ s1 σ H1 x v _ I1 r1 q1) fun _ s2 q=>q
theorem mD{i:Nat}{x:Str}{e:Expr}{te:TE}{pos':Pos}(hN:X.N.Nodup)(hi:X.N[i]?=some x)(hx:Loc X.env.scope x)(he:PE X e te)(hs:swapsWith e (some (.Name x pos')) pos.line X.env=pure false:=by rfl)(hf:X.fn x=true∨X.env.scope.names.lookup x=some .local:=by first|exact .inl rfl|exact .inr rfl|assumption) :
  PS X (.Assign [.Name x pos'] e pos) (Ld te (nE i)):=by
 intro c_ s σ H D I h
 refine wpAny_Assign_Name (i7 (he c_ s σ H _ I h) fun v s1 ⟨y,H1,I1,r1,q1⟩=>?_) hs
 exact A1 I1 hN hi hx r1 (fun s2 I2=>⟨_,H1,I2,q1⟩) hf
def Qd(c:TT)(tb:TS):TS:=fun D σ H=>∃W:Nat→St→Hp→Prop,(∃m,W m σ H)∧∀m σ H,W m σ H→
 c σ H fun b H1=>if b=true then ∃N:St→Hp→Prop,(∀σ' H',N σ' H'→∃m',m'<m∧W m' σ' H')∧tb {D with nx:=N,ct:=N,bk:=D.nx} σ H1 else D.nx σ H1
theorem FQ{c:Expr}{body:List Stmt}{tc:TT}{tb:TS}(hp:PassesOwn (model X.prog X.w) X.A X.env X.xe)(hc:PT X c tc)(hb:Dj X body tb):PS X (.While c body [] pos) (Qd tc tb):=by
 intro c_ s σ H D I h
 obtain⟨W,⟨m0,w0⟩,turn⟩:=h
 refine wpAny_While (codeAny_whileLoop (fun n s'=>∃σ' H',Inv X c_ σ' H' s'∧W n σ' H') ?_ m0 ⟨σ,H,I,w0⟩)
 rintro n s1 ⟨σ1,H1,I1,w1⟩
 refine ab3 hp (i7 (hc c_ s1 σ1 H1 _ I1 (turn n σ1 H1 w1)) fun b s2 ⟨H2,I2,q2⟩=>?_)
 cases b with
 | true=>
  obtain⟨N,hN,q2⟩:=q2
  rw[aax rfl]
  refine ab3 hp (i7 (hb c_ s2 σ1 H2 _ I2 q2) fun f s3 q3=>?_)
  cases f with
  | next=>
   obtain⟨σ3,H3,I3,n3⟩:=q3
   obtain⟨m',hm,w3⟩:=hN σ3 H3 n3
   exact⟨m',hm,σ3,H3,I3,w3⟩
  | cont=>
   obtain⟨σ3,H3,I3,n3⟩:=q3
   obtain⟨m',hm,w3⟩:=hN σ3 H3 n3
   exact⟨m',hm,σ3,H3,I3,w3⟩
  | brk=>exact q3
  | ret v=>exact q3
 | false=>
  rw[aau aak]
  exact wpAny_execs_nil ⟨σ1,H2,I2,q2⟩
end
structure It where
 go:Nat→Hp→Prop
 Le:Nat→Hp→V→Hp→Prop
 stop:Nat→Hp→Prop
def vT(X:Cx)(c_:Qqz)(H:Hp)(b:Addr):Prop:=
 H b=none∧b≠X.env.locals∧b∉X.fs∧(b∈X.ex∨X.s₀.heap.objs.size≤b)∧(∀x c,X.env.cells.lookup x=some c→c≠b)∧∀p∈X.pn++c_,p.1≠b
theorem Inv.A2{X:Cx}{c_:Qqz}{σ:St}{H H':Hp}{s:Shared}{b:Addr}(I:Inv X c_ σ H s)(hb:s.heap.objs.size≤b)(hn:H' b=none):vT X c_ H' b:=by
 refine⟨hn,Nat.ne_of_gt (aaK I.lt hb),I.Tc hb,.inr (aah I.sz hb),fun x c e z=>?_,fun p hp z=>?_⟩
 ·obtain⟨v,q⟩:=I.cell x c e
  exact absurd (aaK q.lt (by rw[z];exact hb)) (aby _)
 ·exact absurd (aaK (aaD (I.pin p hp).1) (by rw[z];exact hb)) (aby _)
structure Turn(P:Program)(w:World)(K:Qqy)(tg:Expr)(J:It)(fp:List Addr)(it:Addr)(tn:Nat→Heap→Prop):Prop where
 mem:it∈fp
 obj:∀i h,tn i h→∀b∈fp,∃o,h.get? b=some o∧∀v,o.data≠.cell v
 keep:∀i h h',tn i h→(∀b∈fp,∀o,h.get? b=some o→h'.get? b=some o)→tn i h'
 item:∀(X:Cx),X.prog=P→X.w=w→X.K=K→X.calm=true→∀(i:Nat)(c_:Qqz)(s:Shared)(σ:St)(H:Hp)(E:Qqq),Inv X c_ σ H s→(∀b∈fp,vT X c_ H b)→tn i s.heap→J.go i H→
  wpAny (model P w) X.A (pyNext (.ref it)) (fun r s1=>∃u,r=some u∧
   wpAny (model P w) X.A (letOwnedTupleGo tg (.ref it) u) (fun _ s2=>∃x H',Inv X c_ σ H' s2∧RelV x u∧J.Le i H x H'∧tn (i+1) s2.heap∧∀b∈fp,H' b=none) E s1) E s
 done:∀(X:Cx),X.prog=P→X.w=w→X.K=K→X.calm=true→∀(i:Nat)(c_:Qqz)(s:Shared)(σ:St)(H:Hp)(E:Qqq),Inv X c_ σ H s→(∀b∈fp,vT X c_ H b)→tn i s.heap→J.stop i H→
  wpAny (model P w) X.A (pyNext (.ref it)) (fun r s1=>r=none∧Inv X c_ σ H s1) E s
 self:∀(A:Around)(i:Nat)(s:Shared)(Q:Qqq)(E:Qqq),tn i s.heap→Q (.ref it) s→wpAny (model P w) A (pyIter (.ref it)) Q E s
abbrev TI:=St→Hp→(It→Hp→Prop)→Prop
def Xu(X:Cx)(c_:Qqz)(σ:St)(tg:Expr)(R:It→Hp→Prop)(Wv:Value)(s2:Shared):Prop:=
 ∃(it:Addr)(fp:List Addr)(tn:Nat→Heap→Prop)(J:It)(H':Hp),Wv=.ref it∧Inv X c_ σ H' s2∧Turn X.prog X.w X.K tg J fp it tn∧tn 0 s2.heap∧(∀b∈fp,vT X c_ H' b)∧R J H'
def PI(X:Cx)(tg iter:Expr)(wi:TI):Prop:=
 ∀(c_:Qqz)(s:Shared)(σ:St)(H:Hp)(R:It→Hp→Prop),Inv X c_ σ H s→wi σ H R→
  wpAny (model X.prog X.w) X.A (eval iter X.env) (fun v s1=>wpAny (model X.prog X.w) X.A (pyIter v) (Xu X c_ σ tg R) X.xe s1) X.xe s
theorem A3{M:Model}{A:Around}{E:Qqq}{s:Shared}{tg:Expr}{it:Addr}{u:Value}{o:Obj}{n:String}{vs:Array Value}{Q:Unit→Shared→Prop}(ho:s.heap.get? it=some o)(hc:o.cls=.type n)(hd:o.data=.fields vs)
  (hn:["enumerate","zip","dict_itemiterator","dict_reverseitemiterator","odict_iterator","itertools.zip_longest","itertools.pairwise"].contains n=false) (hQ:Q () s):wpAny M A (letOwnedTupleGo tg (.ref it) u) Q E s:=by
 unfold letOwnedTupleGo
 cases tg<;>first
  | exact aas hQ
  | (cases u<;>first
   | exact aas hQ
   | (
    refine XX (wpAny_load ho ?_)
    rw[hc,hd]
    show wpAny M A (if(["enumerate","zip","dict_itemiterator","dict_reverseitemiterator","odict_iterator","itertools.zip_longest","itertools.pairwise"].contains n&&vs[0]? ==some (rawInt _))=true then _ else _) Q E s
    rw[aau (by intro h;rw[hn,Bool.false_and] at h;cases h)]
    exact aas hQ))
def Sr(K:Qqy)(a:Addr):It:=
 ⟨fun i H=>∃xs x,gK K H a xs∧xs[i]?=some x,fun i H x H'=>H'=H∧∀xs,gK K H a xs→xs[i]?=some x,fun i H=>∃xs,gK K H a xs∧xs.length≤i⟩
def O7(lo:Int)(n:Nat):It:=⟨fun i _=>i<n,fun i H x H'=>H'=H∧x=.int (lo+i),fun i _=>n≤i⟩
theorem JS{P:Program}{w:World}{K:Qqy}{tg:Expr}(a it:Addr):Turn P w K tg (Sr K a) [it] it (fun i h=>h.IsListIter it a i) where
 mem:=by simp
 obj:=fun i h st b hb=>by
  have e:b=it:=by simpa using hb
  subst e
  obtain⟨o,e,c,d⟩:=st
  exact⟨o,e,fun v z=>by rw[d] at z;cases z⟩
 keep:=fun i h h' st k=>st.at fun o e=>k it (by simp) o e
 item:=by
  intro X hP hw hK hc i c_ s σ H E I hf st hg
  subst hP hw hK
  obtain⟨xs,x,hq,hx⟩:=hg
  obtain⟨ic,rv,p,hz⟩:=I.list hq
  obtain⟨u,hu,ru⟩:=rv.get hx
  obtain⟨f0,f1,f2,f3,f4,f5⟩:=hf it (by simp)
  refine wpAny_pyNext_list_item st p.isList (x:=u) (by simpa using hu) fun h' C9 sb=>?_
  have I1:Inv X c_ σ H {s with heap:=h'}:=I.turned (t':=s.toks) (fun b o hb e=>(sb.2 b hb).trans e) f0 f1 f3 f4 f5
  obtain⟨o,e,c,d⟩:=id C9
  exact⟨u,rfl,A3 (s:={s with heap:=h'}) e c d (by decide) ⟨x,H,I1,ru,⟨rfl,fun ys hy=>by rw[I.qF hy hq];exact hx⟩,C9,fun b hb=>(hf b hb).1⟩⟩
 done:=by
  intro X hP hw hK hc i c_ s σ H E I hf st hg
  subst hP hw hK
  obtain⟨xs,hq,hx⟩:=hg
  obtain⟨ic,rv,p,hz⟩:=I.list hq
  obtain⟨f0,f1,f2,f3,f4,f5⟩:=hf it (by simp)
  have hl:=rv.length
  exact wpAny_pyNext_list_end (I.ok.hd hc) st p.isList (by simp;omega) fun h' eb=>⟨rfl,I.turned (t':=s.toks) (fun b o hb e=>eb b o hb e) f0 f1 f3 f4 f5⟩
 self:=fun _ _ _ _ _ st h=>wpAny_pyIter_listiter st h
theorem HB{P:Program}{w:World}{K:PySem.W.Frag}{tg:Expr}(it:Addr)(lo:Int)(n:Nat):Turn P w K tg (O7 lo n) [it] it (fun i h=>IsRangeIter h it (lo+(i:Nat)*1) ((n:Int)-(i:Nat)) 1) where
 mem:=by simp
 obj:=fun i h st b hb=>by
  have e:b=it:=by simpa using hb
  subst e
  exact⟨_,st,fun v z=>by
   have z':Data.fields _=Data.cell v:=z
   cases z'⟩
 keep:=fun i h h' st k=>k it (by simp) _ st
 item:=by
  intro X hP hw hK hc i c_ s σ H E I hf st hg
  subst hP hw hK
  obtain⟨f0,f1,f2,f3,f4,f5⟩:=hf it (by simp)
  have W:=Walks.range (prog:=X.prog) (w:=X.w) (I.ok.hd hc) it lo 1 n
  refine W.item i s _ _ hg st fun v h' tk hv C9 kk=>?_
  obtain⟨t,rfl⟩:=hv
  have I1:Inv X c_ σ H {s with heap:=h',toks:=tk}:=I.turned (fun b o hb e=>kk b o (by simpa using hb) e) f0 f1 f3 f4 f5
  refine⟨_,rfl,A3 (s:={s with heap:=h',toks:=tk}) (n:="range_iterator") C9 rfl rfl (by decide) ⟨.int (lo+i),H,I1,⟨t,?_⟩,⟨rfl,rfl⟩,C9,fun b hb=>(hf b hb).1⟩⟩
  rw[Int.mul_one]
 done:=by
  intro X hP hw hK hc i c_ s σ H E I hf st hg
  subst hP hw hK
  obtain⟨f0,f1,f2,f3,f4,f5⟩:=hf it (by simp)
  exact wpAny_pyNext_range_end (I.ok.hd hc) st (by have:n≤i:=hg;omega) fun h' eb=>⟨rfl,I.turned (t':=s.toks) (fun b o hb e=>eb b o hb e) f0 f1 f3 f4 f5⟩
 self:=fun _ _ _ _ _ st h=>wpAny_pyIter_rangeiter st h
section
variable{X:Cx}{tg:Expr}
def Tp(K:Qqy)(tl:TE):TI:=fun σ H R=>tl σ H fun x H1=>∃a,x=.ref a∧(∃xs,gK K H1 a xs)∧R (Sr K a) H1
theorem ir{l:Expr}{tl:TE}(hl:PE X l tl):PI X tg l (Tp X.K tl):=by
 intro c_ s σ H R I h
 refine i7 (hl c_ s σ H _ I h) fun v s1 ⟨x,H1,I1,r1,q1⟩=>?_
 obtain⟨a,e,⟨xs,hq⟩,q⟩:=q1
 subst e
 cases r1
 obtain⟨ic,rv,p,hz⟩:=I1.list hq
 refine wpAny_pyIter_list p.isList ?_
 refine⟨s1.heap.objs.size,[s1.heap.objs.size],_,_,H1,rfl,I1.kept (t':=s1.toks) fun b o e=>aao _ e,JS a _,⟨_,aaI _ rfl,rfl,rfl⟩,fun b hb=>?_,q⟩
 have e:b=s1.heap.objs.size:=by simpa using hb
 subst e
 exact I1.A2 (aab _) (I1.iL.fresh (aab _))
theorem FR{c_:Qqz}{σ:St}{H:Hp}{s:Shared}{R:It→Hp→Prop}{E:Qqq}{lo hi:Int}{t u v:Tok}{tk:Nat}(I:Inv X c_ σ H s)(h1:-(2 ^ 62)≤lo)(h2:lo<2 ^ 62)(h3:-(2 ^ 62)≤hi)(h4:hi<2 ^ 62)
  (q:R (O7 lo (hi-lo).toNat) H):wpAny (model X.prog X.w) X.A (pyIter (.ref s.heap.objs.size)) (Xu X c_ σ tg R) E {s with heap:=s.heap.push {cls:=.type "range",data:=.fields #[.int lo t,.int hi u,.int 1 v]},toks:=tk}:=by
 refine wpAny_pyIter_range (IsRange.new ..) (small_one h1 h2 h3 h4) ?_
 have I1:Inv X c_ σ H {s with heap:=s.heap.push {cls:=.type "range",data:=.fields #[.int lo t,.int hi u,.int 1 v]},toks:=tk}:=I.kept fun b o e=>aao _ e
 refine⟨(s.heap.push {cls:=.type "range",data:=.fields #[.int lo t,.int hi u,.int 1 v]}).objs.size,[(s.heap.push {cls:=.type "range",data:=.fields #[.int lo t,.int hi u,.int 1 v]}).objs.size],_,_,H,rfl,
  I1.kept (t':=tk) fun b o e=>aao _ e,HB _ lo (hi-lo).toNat,?_,fun b hb=>?_,q⟩
 ·have e1:lo+((0:Nat):Int)*1=lo:=by simp
  have e2:(((hi-lo).toNat:Nat):Int)-((0:Nat):Int)=Builtin.Range.rangeSize lo hi 1:=by rw[rangeSize_one];split<;>omega
  show IsRangeIter _ _ (lo+((0:Nat):Int)*1) ((((hi-lo).toNat:Nat):Int)-((0:Nat):Int)) 1
  rw[e1,e2]
  exact aaI _ rfl
 ·have e:b=(s.heap.push {cls:=.type "range",data:=.fields #[.int lo t,.int hi u,.int 1 v]}).objs.size:=by simpa using hb
  subst e
  exact I1.A2 (aab _) (I1.iL.fresh (aab _))
def Tq(ta:TA):TI:=fun σ H R=>ta σ H fun vs H1=>∃j:Int,vs=[.int j]∧-(2 ^ 62)≤j∧j<2 ^ 62∧R (O7 0 j.toNat) H1
def Tr(ta:TA):TI:=fun σ H R=>ta σ H fun vs H1=>∃i j:Int,vs=[.int i,.int j]∧(-(2 ^ 62)≤i∧i<2 ^ 62∧-(2 ^ 62)≤j∧j<2 ^ 62)∧R (O7 i (j-i).toNat) H1
theorem lu{a:Expr}{ta:TA}{p pos:Pos}(hg:Gl X "range")(hm:X.mg "range"=none)(ha:PA X [a] ta)(hs:starEach [a] X.env=[(false,eval a X.env)]:=by rfl):PI X tg (.Call (.Name "range" p) [a] [] pos) (Tq ta):=by
 intro c_ s σ H R I h
 refine Call_ (qo I hg hm boot_range (aa7 (i7 (ha pos c_ s σ H _ I h) fun us s1 ⟨vs,H1,I1,r1,q1⟩=>?_) hs rfl))
 obtain⟨j,e,q1,q2,q⟩:=q1
 subst e
 cases r1 with
 | cons r rr=>
  cases rr
  obtain⟨t,rfl⟩:=r
  exact call_range_1 (FR I1 (by omega) (by omega) q1 q2 (by simpa using q))
theorem Dl{a b:Expr}{ta:TA}{p pos:Pos}(hg:Gl X "range")(hm:X.mg "range"=none)(ha:PA X [a,b] ta)(hs:starEach [a,b] X.env=[(false,eval a X.env),(false,eval b X.env)]:=by rfl)(K6:starEach [b] X.env=[(false,eval b X.env)]:=by rfl) :
  PI X tg (.Call (.Name "range" p) [a,b] [] pos) (Tr ta):=by
 intro c_ s σ H R I h
 refine Call_ (qo I hg hm boot_range (aa7 (i7 (ha pos c_ s σ H _ I h) fun us s1 ⟨vs,H1,I1,r1,q1⟩=>?_) (by rw[hs,K6]) (by rw[K6];rfl)))
 obtain⟨i,j,e,⟨q1,q2,q3,q4⟩,q⟩:=q1
 subst e
 cases r1 with
 | cons r rr=>
  cases rr with
  | cons r' rr=>
   cases rr
   obtain⟨t,rfl⟩:=r
   obtain⟨t',rfl⟩:=r'
   exact call_range_2 (FR I1 q1 q2 q3 q4 q)
def Qe(wi:TI)(g:TG)(tb:TS):TS:=fun D σ H=>wi σ H fun J H1=>∃W:Nat→Nat→St→Hp→Prop,(∃m,W 0 m σ H1)∧∀i m σ H,W i m σ H→
 (J.stop i H∧D.nx σ H)∨(J.go i H∧∃N:St→Hp→Prop,(∀σ' H',N σ' H'→∃m',m'<m∧W (i+1) m' σ' H')∧∀x H',J.Le i H x H'→g x σ H' fun σ2 H2=>tb {D with nx:=N,ct:=N,bk:=D.nx} σ2 H2)
noncomputable def A4(fp:List Addr)(h:Heap):Qqz:=fp.filterMap fun b=>(h.get? b).map fun o=>(b,o)
theorem rB{fp:List Addr}{h:Heap}{b:Addr}{o:Obj}(hb:b∈fp)(e:h.get? b=some o):(b,o)∈A4 fp h:=acd.mpr ⟨b,hb,by rw[e];rfl⟩
theorem JT{fp:List Addr}{h:Heap}{p:Addr×Obj}(hp:p∈A4 fp h):p.1∈fp∧h.get? p.1=some p.2:=by
 obtain⟨b,hb,e⟩:=acd.mp hp
 cases q:h.get? b with
 | none=>rw[q] at e;cases e
 | some o=>
  rw[q] at e
  have e':(b,o)=p:=aaJ e
  subst e'
  exact⟨hb,q⟩
theorem Inv.pinned{c_:Qqz}{σ:St}{H:Hp}{s:Shared}{fp:List Addr}(I:Inv X c_ σ H s)(hf:∀b∈fp,vT X c_ H b)(ho:∀b∈fp,∃o,s.heap.get? b=some o∧∀v,o.data≠.cell v):Inv X (c_++A4 fp s.heap) σ H s:=
 I.AI fun p hp=>(aaf.mp hp).elim (fun z=>I.pin p (aaS _ z)) fun z=>by
  obtain⟨hb,e⟩:=JT z
  obtain⟨f0,f1,f2,_⟩:=hf p.1 hb
  obtain⟨o,e',d⟩:=ho p.1 hb
  rw[e] at e';cases e'
  exact⟨e,f0,f1,f2,d⟩
theorem Inv.xc{c_ pl:Qqz}{σ:St}{H:Hp}{s:Shared}(I:Inv X (c_++pl) σ H s):Inv X c_ σ H s:=I.AI fun p hp=>I.pin p (aaS _ (aaC _ hp))
theorem iP{iter:Expr}{body:List Stmt}{wi:TI}{g:TG}{tb:TS}{pos:Pos}(hp:PassesOwn (model X.prog X.w) X.A X.env X.xe)(hc:X.calm=true)(hi:PI X tg iter wi)(hg:PG X tg g)(hb:Dj X body tb)
  (hs:∀x,foldedSetIterable iter X.env x=pure x:=by intro _;rfl):PS X (.For tg iter body [] pos) (Qe wi g tb):=by
 intro c_ s σ H D I h
 refine wpAny_For (i7 (hi c_ s σ H _ I h) fun v s1 h1=>i7 h1 fun Wv s2 h2=>?_) hs
 obtain⟨it,fp,tn,J,H2,e,I2,T,C_,f2,W,⟨m0,w0⟩,turn⟩:=h2
 subst e
 have RE:∀{H':Hp},(∀b∈fp,H' b=none)→∀b∈fp,vT X c_ H' b:=fun hn b hb=>⟨hn b hb,(f2 b hb).2⟩
 refine codeAny_forLoop_any (fun n s'=>∃i σ' H',Inv X c_ σ' H' s'∧tn i s'.heap∧(∀b∈fp,H' b=none)∧W i n σ' H') ?_ m0 ⟨0,σ,H2,I2,C_,fun b hb=>(f2 b hb).1,w0⟩
 rintro n s3 ⟨i,σ3,H3,I3,mz,UB,w3⟩
 rcases turn i n σ3 H3 w3 with⟨stop,qn⟩|⟨go,N,hN,step⟩
 ·refine ab3 hp (i7 (T.done X rfl rfl rfl hc i c_ s3 σ3 H3 X.xe I3 (RE UB) mz stop) fun r s4 ⟨hr,I4⟩=>?_)
  subst hr
  exact wpAny_execs_nil ⟨σ3,H3,I4,qn⟩
 ·refine ab3 hp (i7 (T.item X rfl rfl rfl hc i c_ s3 σ3 H3 X.xe I3 (RE UB) mz go) fun r s4 ⟨u,hr,h4⟩=>?_)
  subst hr
  refine ab3 hp (i7 h4 fun _ s5 ⟨x,H5,I5,r5,y5,RF,Yu⟩=>?_)
  have Yv:=I5.pinned (RE Yu) (T.obj _ _ RF)
  refine ab3 hp (i7 (hg _ s5 σ3 H5 x u _ Yv r5 (step x H5 y5)) fun _ s6 ⟨σ6,H6,I6,q6⟩=>?_)
  refine ab3 hp (i7 (hb _ s6 σ6 H6 _ I6 q6) fun f s7 q7=>?_)
  have again:∀{σ7:St} {H7:Hp},Inv X (c_++A4 fp s5.heap) σ7 H7 s7→N σ7 H7→∃m,m<n∧∃i σ' H',Inv X c_ σ' H' s7∧tn i s7.heap∧(∀b∈fp,H' b=none)∧W i m σ' H':=fun{σ7 H7} I7 n7=>by
   obtain⟨m',hm,w7⟩:=hN σ7 H7 n7
   refine⟨m',hm,i+1,σ7,H7,I7.xc,T.keep _ _ _ RF fun b hb o e=>(I7.pin (b,o) (aaS _ (aaS _ (rB hb e)))).1,fun b hb=>?_,w7⟩
   obtain⟨o,e,d⟩:=T.obj _ _ RF b hb
   exact(I7.pin (b,o) (aaS _ (aaS _ (rB hb e)))).2.1
  cases f with
  | next=>obtain⟨σ7,H7,I7,n7⟩:=q7;exact again I7 n7
  | cont=>obtain⟨σ7,H7,I7,n7⟩:=q7;exact again I7 n7
  | brk=>obtain⟨σ7,H7,I7,q7⟩:=q7;exact⟨σ7,H7,I7.xc,q7⟩
  | ret v=>obtain⟨x7,σ7,H7,I7,r7,q7⟩:=q7;exact⟨x7,σ7,H7,I7.xc,r7,q7⟩
end
theorem je{K:PySem.W.Frag}{a:Addr}{xs:List V}{g:TG}{tb:TS}{D:Ends}{σ:St}{H:Hp}(Pv:Nat→St→Hp→Prop)(h0:Pv 0 σ H)(hl:∀i σ H,i≤xs.length→Pv i σ H→gK K H a xs)
  (hs:∀i x σ H,xs[i]?=some x→Pv i σ H→g x σ H fun σ2 H2=>tb {D with nx:=Pv (i+1),ct:=Pv (i+1),bk:=D.nx} σ2 H2) (hd:∀σ H,Pv xs.length σ H→D.nx σ H) :
  ∃W:Nat→Nat→St→Hp→Prop,(∃m,W 0 m σ H)∧∀i m σ H,W i m σ H→
   ((Sr K a).stop i H∧D.nx σ H)∨((Sr K a).go i H∧∃N:St→Hp→Prop,(∀σ' H',N σ' H'→∃m',m'<m∧W (i+1) m' σ' H')∧∀x H',(Sr K a).Le i H x H'→g x σ H' fun σ2 H2=>tb {D with nx:=N,ct:=N,bk:=D.nx} σ2 H2):=by
 refine⟨fun i m σ H=>m=xs.length-i∧i≤xs.length∧Pv i σ H,⟨xs.length,by simp,aaU _,h0⟩,?_⟩
 rintro i m σ H ⟨rfl,hi,p⟩
 have q:=hl i σ H hi p
 by_cases my:i<xs.length
 ·refine .inr ⟨⟨xs,xs[i],q,by simp[my]⟩,Pv (i+1),fun σ' H' p'=>⟨xs.length-(i+1),by omega,rfl,my,p'⟩,fun x H' y=>?_⟩
  obtain⟨e,y⟩:=y
  subst e
  exact hs i x σ _ (y xs q) p
 ·have e:i=xs.length:=by omega
  subst e
  exact .inl ⟨⟨xs,q,aab _⟩,hd σ H p⟩
theorem nI{lo:Int}{n:Nat}{g:TG}{tb:TS}{D:Ends}{σ:St}{H:Hp}(Pv:Nat→St→Hp→Prop)(h0:Pv 0 σ H)
  (hs:∀i σ H,i<n→Pv i σ H→g (.int (lo+i)) σ H fun σ2 H2=>tb {D with nx:=Pv (i+1),ct:=Pv (i+1),bk:=D.nx} σ2 H2) (hd:∀σ H,Pv n σ H→D.nx σ H) :
  ∃W:Nat→Nat→St→Hp→Prop,(∃m,W 0 m σ H)∧∀i m σ H,W i m σ H→
   ((O7 lo n).stop i H∧D.nx σ H)∨((O7 lo n).go i H∧∃N:St→Hp→Prop,(∀σ' H',N σ' H'→∃m',m'<m∧W (i+1) m' σ' H')∧∀x H',(O7 lo n).Le i H x H'→g x σ H' fun σ2 H2=>tb {D with nx:=N,ct:=N,bk:=D.nx} σ2 H2):=by
 refine⟨fun i m σ H=>m=n-i∧i≤n∧Pv i σ H,⟨n,by simp,aaU _,h0⟩,?_⟩
 rintro i m σ H ⟨rfl,hi,p⟩
 by_cases my:i<n
 ·refine .inr ⟨my,Pv (i+1),fun σ' H' p'=>⟨n-(i+1),by omega,rfl,my,p'⟩,fun x H' y=>?_⟩
  obtain⟨e,y⟩:=y
  subst e y
  exact hs i σ _ my p
 ·have e:i=n:=by omega
  subst e
  exact .inl ⟨aab _,hd σ H p⟩
abbrev R2:=V→V→Hp→VK→Prop
def yt(X:Cx)(f:Value→Value→Sem Value)(r:R2):Prop:=
 ∀(c_:Qqz)(s:Shared)(σ:St)(H:Hp)(x y:V)(v u:Value)(Q:VK),Inv X c_ σ H s→RelV x v→RelV y u→r x y H Q→
  wpAny (model X.prog X.w) X.A (f v u) (EP X c_ σ Q) X.xe s
def Xv(X:Cx)(f:Value→Sem Value)(r:V→Hp→VK→Prop):Prop:=
 ∀(c_:Qqz)(s:Shared)(σ:St)(H:Hp)(x:V)(v:Value)(Q:VK),Inv X c_ σ H s→RelV x v→r x H Q→
  wpAny (model X.prog X.w) X.A (f v) (EP X c_ σ Q) X.xe s
def vz(X:Cx)(f:Value)(r:List V→Hp→VK→Prop):Prop:=
 ∀(c_:Qqz)(s:Shared)(σ:St)(H:Hp)(xs:List V)(us:List Value)(Q:VK),Inv X c_ σ H s→Vals xs us→r xs H Q→
  wpAny (model X.prog X.w) X.A (call f us) (EP X c_ σ Q) X.xe s
def Xw(X:Cx)(r:V→Hp→(Bool→Hp→Prop)→Prop):Prop:=
 ∀(c_:Qqz)(s:Shared)(σ:St)(H:Hp)(x:V)(v:Value)(Q:Bool→Hp→Prop),Inv X c_ σ H s→RelV x v→r x H Q→
  wpAny (model X.prog X.w) X.A (truthy v) (TP X c_ σ Q) X.xe s
def Ts(r:R2)(ta tb:TE):TE:=fun σ H Q=>ta σ H fun x H1=>tb σ H1 fun y H2=>r x y H2 Q
def tUn(r:V→Hp→VK→Prop)(ta:TE):TE:=fun σ H Q=>ta σ H fun x H1=>r x H1 Q
def rI(C:Int→Int→Prop)(g:Int→Int→V):R2:=fun x y H Q=>∃i j,x=.int i∧y=.int j∧C i j∧Q (g i j) H
def O8(g:Int→Int→V):R2:=fun x y H Q=>∃i j,x=.int i∧y=.int j∧Q (g i j) H
def rU(g:Int→V):V→Hp→VK→Prop:=fun x H Q=>∃i,x=.int i∧Q (g i) H
section
variable{X:Cx}{a b c:Expr}{ta tb tc:TE}{pos:Pos}
theorem Qf(ha:PE X a ta)(hb:PE X b tb){c_:Qqz}{s:Shared}{σ:St}{H:Hp}{R:V→V→Hp→Prop}(I:Inv X c_ σ H s)
  (h:ta σ H fun x H1=>tb σ H1 fun y H2=>R x y H2) {Q:Qqq} {f:Value→Value→Sem Value}
  (hf:∀v u s2 x y H2,Inv X c_ σ H2 s2→RelV x v→RelV y u→R x y H2→wpAny (model X.prog X.w) X.A (f v u) Q X.xe s2) :
  wpAny (model X.prog X.w) X.A (eval a X.env) (fun v s₁=>wpAny (model X.prog X.w) X.A (eval b X.env) (fun u s₂=>wpAny (model X.prog X.w) X.A (f v u) Q X.xe s₂) X.xe s₁) X.xe s:=by
 refine i7 (ha c_ s σ H _ I h) fun v s1 ⟨x,H1,I1,r1,q1⟩=>?_
 refine i7 (hb c_ s1 σ H1 _ I1 q1) fun u s2 ⟨y,H2,I2,r2,q2⟩=>?_
 exact hf v u s2 x y H2 I2 r1 r2 q2
theorem gz{op:Operator}{r:R2}(ho:yt X (binaryOp op) r)(ha:PE X a ta)(hb:PE X b tb):PE X (.BinOp a op b pos) (Ts r ta tb):=by
 intro c_ s σ H Q I h
 exact wpAny_BinOp (Qf ha hb I h fun v u s2 x y H2 I2 rx ry q=>ho c_ s2 σ H2 x y v u Q I2 rx ry q)
theorem zo{op:UnaryOp}{r:V→Hp→VK→Prop}(ho:Xv X (unaryOp op) r)(ha:PE X a ta):PE X (.UnaryOp op a pos) (tUn r ta):=by
 intro c_ s σ H Q I h
 exact UnaryOp_ (i7 (ha c_ s σ H _ I h) fun v s1 ⟨x,H1,I1,r1,q1⟩=>ho c_ s1 σ H1 x v Q I1 r1 q1)
theorem Xx{f:Value→Value→Sem Value}{C:Int→Int→Prop}{g:Int→Int→Int}
  (rule:∀(i j:Int)(t u:Tok)(s:Shared)(Q:Qqq)(E:Qqq),C i j→Q (.int (g i j) s.toks) {s with toks:=s.toks+1}→wpAny (model X.prog X.w) X.A (f (.int i t) (.int j u)) Q E s) :
  yt X f (rI C fun i j=>.int (g i j)):=by
 intro c_ s σ H x y v u Q I rx ry h
 obtain⟨i,j,rfl,rfl,hc,q⟩:=h
 obtain⟨t,rfl⟩:=rx
 obtain⟨t',rfl⟩:=ry
 exact rule i j t t' s _ _ hc ⟨.int (g i j),H,I.tok _,⟨_,rfl⟩,q⟩
theorem Tt{f:Value→Value→Sem Value}{g:Int→Int→Int}
  (rule:∀(i j:Int)(t u:Tok)(s:Shared)(Q:Qqq)(E:Qqq),Q (.int (g i j) s.toks) {s with toks:=s.toks+1}→wpAny (model X.prog X.w) X.A (f (.int i t) (.int j u)) Q E s) :
  yt X f (O8 fun i j=>.int (g i j)):=by
 intro c_ s σ H x y v u Q I rx ry h
 obtain⟨i,j,rfl,rfl,q⟩:=h
 obtain⟨t,rfl⟩:=rx
 obtain⟨t',rfl⟩:=ry
 exact rule i j t t' s _ _ ⟨.int (g i j),H,I.tok _,⟨_,rfl⟩,q⟩
theorem Nw{f:Value→Value→Sem Value}{g:Int→Int→Bool}
  (rule:∀(i j:Int)(t u:Tok)(s:Shared)(Q:Qqq)(E:Qqq),Q (.bool (g i j)) s→wpAny (model X.prog X.w) X.A (f (.int i t) (.int j u)) Q E s) :
  yt X f (O8 fun i j=>.bl (g i j)):=by
 intro c_ s σ H x y v u Q I rx ry h
 obtain⟨i,j,rfl,rfl,q⟩:=h
 obtain⟨t,rfl⟩:=rx
 obtain⟨t',rfl⟩:=ry
 exact rule i j t t' s _ _ ⟨.bl (g i j),H,I,rfl,q⟩
def Xy(i j:Int):Prop:=0<j∧j<1073741824
def Qg(i j:Int):Prop:=(-(2 ^ 64)<i∧i<2 ^ 64)∨(-(2 ^ 64)<j∧j<2 ^ 64)
theorem Qg.ok{i j:Int}(h:Qg i j):IntMulOk i j:=by
 rcases h with⟨h1,h2⟩|⟨h1,h2⟩
 ·exact .of_left (intBits_le_64 h1 h2)
 ·exact .of_right (intBits_le_64 h1 h2)
theorem iQ:yt X (binaryOp .Add) (O8 fun i j=>.int (i+j)):=Tt fun _ _ _ _ _ _ _ q=>add_int q
theorem Ea:yt X (binaryOp .Sub) (O8 fun i j=>.int (i-j)):=Tt fun _ _ _ _ _ _ _ q=>sub_int q
theorem tI:yt X (binaryOp .Mult) (rI Qg fun i j=>.int (i*j)):=Xx fun _ _ _ _ _ _ _ hc q=>mul_int q hc.ok
theorem jV:yt X (binaryOp .FloorDiv) (rI Xy fun i j=>.int (i/j)):=Xx fun i j _ _ _ _ _ hc q=>by
 have h1:(0:Int)<j:=hc.1
 have h2:j<1073741824:=hc.2
 exact floordiv_int (by omega) (by rw[Int.fdiv_eq_ediv_of_nonneg i (by omega)];exact q) (.inl (PyProof.noPylong_small (by omega)))
theorem iR:yt X (binaryOp .Mod) (rI (fun _ j=>0<j) fun i j=>.int (i%j)):=Xx fun i j _ _ _ _ _ hc q=>by
 have h1:(0:Int)<j:=hc
 exact mod_int' (by omega) (by rw[Int.fmod_eq_emod_of_nonneg i (by omega)];exact q)
theorem unI{f:Value→Sem Value}{g:Int→Int}
  (rule:∀(i:Int)(t:Tok)(s:Shared)(Q:Qqq)(E:Qqq),Q (.int (g i) s.toks) {s with toks:=s.toks+1}→wpAny (model X.prog X.w) X.A (f (.int i t)) Q E s) :
  Xv X f (rU fun i=>.int (g i)):=by
 intro c_ s σ H x v Q I rx h
 obtain⟨i,rfl,q⟩:=h
 obtain⟨t,rfl⟩:=rx
 exact rule i t s _ _ ⟨.int (g i),H,I.tok _,⟨_,rfl⟩,q⟩
theorem tJ:Xv X (unaryOp .USub) (rU fun i=>.int (-i)):=unI fun _ _ _ _ _ q=>neg_int q
end
noncomputable def Qh:V→V→Bool
 | .js,.js=>true|.js,.int _=>true|.int _,.js=>true|.js,.bl _=>true|.bl _,.js=>true|.js,.str _=>true|.str _,.js=>true
 | .int _,.int _=>true|.bl _,.bl _=>true|.str _,.str _=>true|.HA _,.HA _=>true
 | .int _,.str _=>true|.str _,.int _=>true|.bl _,.str _=>true|.str _,.bl _=>true
 | _,_=>false
def rEq:R2:=fun x y H Q=>Qh x y=true∧Q (.bl (decide (x=y))) H
def rNe:R2:=fun x y H Q=>Qh x y=true∧Q (.bl (!decide (x=y))) H
theorem IQ{i j:Int}:decide (V.int i=V.int j)=(i ==j):=by
 rw[abp]
 simp
theorem Lf{i j:Bool}:decide (V.bl i=V.bl j)=(i ==j):=by
 rw[abp]
 simp
theorem IS{i j:Str}:decide (V.str i=V.str j)=(i ==j):=by
 rw[abp]
 simp
theorem IT{i j:Array UInt8}:decide (V.HA i=V.HA j)=(i.toList ==j.toList):=by
 rw[abp]
 cases i
 cases j
 simp
section
variable{X:Cx}{a b c:Expr}{ta tb tc:TE}{pos:Pos}
theorem iX{c_:Qqz}{σ:St}{H:Hp}{s:Shared}{Q:VK}{k k':Bool}(I:Inv X c_ σ H s)(q:Q (.bl k) H)(e:k=k'):EP X c_ σ Q (.bool k') s:=by
 subst e
 exact⟨.bl k,H,I,rfl,q⟩
theorem mE:yt X (compareOp .Eq) rEq:=by
 intro c_ s σ H x y v u Q I rx ry h
 obtain⟨hs,q⟩:=h
 cases x with
 | js=>
  cases rx
  cases y with
  | js=>cases ry;exact PySem.EqNone.eq_none_none (iX I q (by simp))
  | bl j=>cases ry;exact PySem.EqNone.eq_none_bool (iX I q (by simp))
  | int j=>obtain⟨t',rfl⟩:=ry;exact PySem.EqNone.eq_none_int (iX I q (by simp))
  | str j=>obtain⟨t',rfl⟩:=ry;exact PySem.EqNone.eq_none_str (iX I q (by simp))
  | _=>exact absurd (show false=true from hs) aak
 | bl i=>
  cases rx
  cases y with
  | js=>cases ry;exact PySem.EqNone.eq_bool_none (iX I q (by simp))
  | bl j=>cases ry;exact eq_bool (iX I q Lf)
  | str j=>obtain⟨t',rfl⟩:=ry;exact PySem.EqMixed.eq_bool_str (iX I q (by simp))
  | _=>exact absurd (show false=true from hs) aak
 | int i=>
  obtain⟨t,rfl⟩:=rx
  cases y with
  | js=>cases ry;exact PySem.EqNone.eq_int_none (iX I q (by simp))
  | int j=>obtain⟨t',rfl⟩:=ry;exact eq_int (iX I q IQ)
  | str j=>obtain⟨t',rfl⟩:=ry;exact PySem.EqMixed.eq_int_str (iX I q (by simp))
  | _=>exact absurd (show false=true from hs) aak
 | str i=>
  obtain⟨t,rfl⟩:=rx
  cases y with
  | js=>cases ry;exact PySem.EqNone.eq_str_none (iX I q (by simp))
  | bl j=>cases ry;exact PySem.EqMixed.eq_str_bool (iX I q (by simp))
  | int j=>obtain⟨t',rfl⟩:=ry;exact PySem.EqMixed.eq_str_int (iX I q (by simp))
  | str j=>obtain⟨t',rfl⟩:=ry;exact eq_str (iX I q IS)
  | _=>exact absurd (show false=true from hs) aak
 | HA i=>
  obtain⟨t,rfl⟩:=rx
  cases y with
  | HA j=>obtain⟨t',rfl⟩:=ry;exact W.eq_bytes (iX I q IT)
  | _=>exact absurd (show false=true from hs) aak
 | _=>cases y<;>exact absurd (show false=true from hs) aak
theorem IU:yt X (compareOp .NotEq) rNe:=by
 intro c_ s σ H x y v u Q I rx ry h
 obtain⟨hs,q⟩:=h
 cases x with
 | js=>
  cases rx
  cases y with
  | js=>cases ry;exact PySem.EqNone.ne_none_none (iX I q (by simp))
  | bl j=>cases ry;exact PySem.EqNone.ne_none_bool (iX I q (by simp))
  | int j=>obtain⟨t',rfl⟩:=ry;exact PySem.EqNone.ne_none_int (iX I q (by simp))
  | str j=>obtain⟨t',rfl⟩:=ry;exact PySem.EqNone.ne_none_str (iX I q (by simp))
  | _=>exact absurd (show false=true from hs) aak
 | bl i=>
  cases rx
  cases y with
  | js=>cases ry;exact PySem.EqNone.ne_bool_none (iX I q (by simp))
  | bl j=>cases ry;exact ne_bool (iX I q (abb not Lf))
  | str j=>obtain⟨t',rfl⟩:=ry;exact PySem.EqMixed.ne_bool_str (iX I q (by simp))
  | _=>exact absurd (show false=true from hs) aak
 | int i=>
  obtain⟨t,rfl⟩:=rx
  cases y with
  | js=>cases ry;exact PySem.EqNone.ne_int_none (iX I q (by simp))
  | int j=>obtain⟨t',rfl⟩:=ry;exact ne_int (iX I q (abb not IQ))
  | str j=>obtain⟨t',rfl⟩:=ry;exact PySem.EqMixed.ne_int_str (iX I q (by simp))
  | _=>exact absurd (show false=true from hs) aak
 | str i=>
  obtain⟨t,rfl⟩:=rx
  cases y with
  | js=>cases ry;exact PySem.EqNone.ne_str_none (iX I q (by simp))
  | bl j=>cases ry;exact PySem.EqMixed.ne_str_bool (iX I q (by simp))
  | int j=>obtain⟨t',rfl⟩:=ry;exact PySem.EqMixed.ne_str_int (iX I q (by simp))
  | str j=>obtain⟨t',rfl⟩:=ry;exact ne_str (iX I q (abb not IS))
  | _=>exact absurd (show false=true from hs) aak
 | HA i=>
  obtain⟨t,rfl⟩:=rx
  cases y with
  | HA j=>obtain⟨t',rfl⟩:=ry;exact W.ne_bytes (iX I q (abb not IT))
  | _=>exact absurd (show false=true from hs) aak
 | _=>cases y<;>exact absurd (show false=true from hs) aak
theorem IV:yt X (compareOp .Lt) (O8 fun i j=>.bl (decide (i<j))):=Nw fun _ _ _ _ _ _ _ q=>lt_int q
theorem Lg:yt X (compareOp .LtE) (O8 fun i j=>.bl (decide (i≤j))):=Nw fun _ _ _ _ _ _ _ q=>le_int q
theorem Dm:yt X (compareOp .Gt) (O8 fun i j=>.bl (decide (j<i))):=Nw fun _ _ _ _ _ _ _ q=>gt_int q
theorem Tu:yt X (compareOp .GtE) (O8 fun i j=>.bl (decide (j≤i))):=Nw fun _ _ _ _ _ _ _ q=>ge_int q
theorem Eb:yt X (compareOp .NotIn) (fun x y H Q=>∃i j,x=.str i∧y=.str j∧Q (.bl (!(!(Builtin.Str.occurrences j i 0 j.length 1).isEmpty))) H):=by
 intro c_ s σ H x y v u Q I rx ry h
 obtain⟨i,j,rfl,rfl,q⟩:=h
 obtain⟨t,rfl⟩:=rx
 obtain⟨t',rfl⟩:=ry
 exact notIn_str (iX I q rfl)
theorem iu(b:Expr){op:CmpOp}(h:op≠.In:=by decide)(h2:op≠.NotIn:=by decide):behindInMarks op b=false:=by
 have e1:(op ==CmpOp.In)=false:=by cases op<;>first|rfl|exact absurd rfl h
 have e2:(op ==CmpOp.NotIn)=false:=by cases op<;>first|rfl|exact absurd rfl h2
 cases b<;>simp[behindInMarks,e1,e2]
theorem mF{op:CmpOp}{r:R2}(ho:yt X (compareOp op) r)(ha:PE X a ta)(hb:PE X b tb)(hm:behindInMarks op b=false):PE X (.Compare a [op] [b] pos) (Ts r ta tb):=by
 intro c_ s σ H Q I h
 exact wpAny_Compare1 (Qf ha hb I h fun v u s2 x y H2 I2 rx ry q=>ho c_ s2 σ H2 x y v u Q I2 rx ry q) hm
def O9(t:TE):TT:=fun σ H Q=>t σ H fun x H'=>∃k,x=.bl k∧Q k H'
theorem ie{op:CmpOp}{r:R2}(ho:yt X (compareOp op) r)(ha:PE X a ta)(hb:PE X b tb)(hm:behindInMarks op b=false):PT X (.Compare a [op] [b] pos) (O9 (Ts r ta tb)):=by
 intro c_ s σ H Q I h
 refine wpAny_isTrue_Compare1 (i7 (ha c_ s σ H _ I h) fun v s1 ⟨x,H1,I1,r1,q1⟩=>i7 (hb c_ s1 σ H1 _ I1 q1) fun u s2 ⟨y,H2,I2,r2,q2⟩=>
  i7 (ho c_ s2 σ H2 x y v u _ I2 r1 r2 q2) fun c s3 ⟨z,H3,I3,r3,k,e,q3⟩=>?_) hm
 subst e
 cases r3
 exact abP ⟨H3,I3,q3⟩
def Qi(r r':R2)(ta tb tc:TE):TE:=fun σ H Q=>ta σ H fun x H1=>tb σ H1 fun y H2=>r x y H2 fun z H3=>∃k,z=.bl k∧
 (if k=true then tc σ H3 fun w' H4=>r' y w' H4 Q else Q (.bl false) H3)
theorem FT{op Yw:CmpOp}{r r':R2}(ho:yt X (compareOp op) r)(pN:yt X (compareOp Yw) r')(ha:PE X a ta)(hb:PE X b tb)(hc:PE X c tc)
  (hm:lastMarks [op,Yw] [b,c]=false:=by with_unfolding_all rfl):PT X (.Compare a [op,Yw] [b,c] pos) (O9 (Qi r r' ta tb tc)):=by
 intro c_ s σ H Q I h
 refine isTrue_chain (i7 (ha c_ s σ H _ I h) fun v s1 ⟨x,H1,I1,r1,q1⟩=>test_link (i7 (hb c_ s1 σ H1 _ I1 q1) fun u s2 ⟨y,H2,I2,r2,q2⟩=>
  i7 (ho c_ s2 σ H2 x y v u _ I2 r1 r2 q2) fun d s3 ⟨z,H3,I3,r3,k,e,q3⟩=>?_)) hm
 subst e
 cases r3
 refine abP ?_
 cases k with
 | false=>
  obtain⟨k',e',q'⟩:=q3
  cases e'
  exact ite_ff ⟨H3,I3,q'⟩
 | true=>
  refine ite_tt (test_last (i7 (hc c_ s3 σ H3 _ I3 q3) fun w' s4 ⟨z',H4,I4,r4,q4⟩=>i7 (pN c_ s4 σ H4 y z' u w' _ I4 r2 r4 q4) fun d' s5 ⟨z2,H5,I5,r5,k2,e2,q5⟩=>?_))
  subst e2
  cases r5
  exact abP ⟨H5,I5,q5⟩
def Tv(K:Qqy)(x:V)(H:Hp)(k:Bool):Prop:=
 match x with
 | .js=>k=false
 | .bl b=>k=b
 | .int i=>k=(i != 0)
 | .str y=>y.length≤sizeLine∧k=((y.length:Int) != 0)
 | .HA y=>y.size≤sizeLine∧k=((y.size:Int) != 0)
 | .ref p=>(∃xs,gK K H p xs∧k=!xs.isEmpty)∨(∃xs,yo K H p xs∧k=!xs.isEmpty)∨∃kvs,H p=some (.dK kvs)∧k=!kvs.isEmpty
 | _=>False
theorem HC{κ:Type}{kvs:List (κ×V)}{vs:List (κ×Value)}(r:KV kvs vs):(!vs.isEmpty)=!kvs.isEmpty:=by
 cases r<;>rfl
theorem A5{xs:List V}{ic:List Value}(r:Vals xs ic):(!ic.toArray.isEmpty)=!xs.isEmpty:=by
 cases r<;>simp
theorem vU:(sizeLine:Nat)<2 ^ 63:=by rw[sizeLine_eq];decide
theorem Qj:Xw X (fun x H Q=>∃k,Tv X.K x H k∧Q k H):=by
 intro c_ s σ H x v Q I rx h
 obtain⟨k,e,q⟩:=h
 have hl:=vU
 have hs:sizeLine=16777216:=sizeLine_eq
 cases x with
 | js=>
  cases rx
  have e':k=false:=e
  subst e'
  exact truthy_none ⟨H,I,q⟩
 | bl b=>
  cases rx
  have e':k=b:=e
  subst e'
  exact abP ⟨H,I,q⟩
 | int i=>
  obtain⟨t,rfl⟩:=rx
  have e':k=(i != 0):=e
  subst e'
  exact PySem.P.truthy_int ⟨H,I,q⟩
 | str y=>
  obtain⟨t,rfl⟩:=rx
  obtain⟨hy,e'⟩:y.length≤sizeLine∧k=((y.length:Int) != 0):=e
  subst e'
  exact PySem.P.truthy_str (by omega) ⟨H,I.tok _,q⟩
 | HA y=>
  obtain⟨t,rfl⟩:=rx
  obtain⟨hy,e'⟩:y.size≤sizeLine∧k=((y.size:Int) != 0):=e
  subst e'
  exact W.truthy_bytes (by omega) ⟨H,I.tok _,q⟩
 | ref p=>
  cases rx
  have e':(∃xs,gK X.K H p xs∧k=!xs.isEmpty)∨(∃xs,yo X.K H p xs∧k=!xs.isEmpty)∨∃kvs,H p=some (.dK kvs)∧k=!kvs.isEmpty:=e
  rcases e' with⟨xs,hx,e'⟩|⟨xs,hx,e'⟩|⟨kvs,hx,e'⟩
  ·subst e'
   obtain⟨ic,r,pl,hz⟩:=I.list hx
   have hlen:=r.length
   exact wpAny_truthy_list pl.isList (by simp only [aar];omega) ⟨H,I.tok _,by rw[A5 r];exact q⟩
  ·subst e'
   obtain⟨ic,r,pl,hz⟩:=I.tuple hx
   have hlen:=r.length
   exact truthy_tuple pl (by simp only [aar];omega) ⟨H,I.tok _,by rw[A5 r];exact q⟩
  ·subst e'
   obtain⟨hz,hS,vs,r,m⟩:kvs.length≤sizeLine∧(p ==sysModules)=false∧∃vs,KV kvs vs∧s.heap.DictOf (jl X.prog X.w) p vs:=I.iL p _ hx
   have hlen:kvs.length=vs.length:=aav r
   exact wpAny_truthy_dict hS m (by omega) ⟨H,I.tok _,by rw[HC r];exact q⟩
 | _=>exact(show False from e).elim
theorem xf(ha:PE X a ta)(he:∀whole,isTrue a X.env whole=(do let v ←whole;standAt a.pos;holding [v] (truthy v))) :
  PT X a (fun σ H Q=>ta σ H fun x H'=>∃k,Tv X.K x H' k∧Q k H'):=by
 intro c_ s σ H Q I h
 exact isTrue_plain (i7 (ha c_ s σ H _ I h) fun v s1 ⟨x,H1,I1,r1,q1⟩=>Qj c_ s1 σ H1 x v Q I1 r1 q1) (he _)
theorem A6:yt X (binaryOp .Add) (fun x y H Q=>∃i j,x=.str i∧y=.str j∧i.length+j.length≤sizeLine∧Q (.str (i++j)) H):=by
 intro c_ s σ H x y v u Q I rx ry h
 obtain⟨i,j,rfl,rfl,hz,q⟩:=h
 obtain⟨t,rfl⟩:=rx
 obtain⟨t',rfl⟩:=ry
 exact add_str (fun t' tk=>⟨.str (i++j),H,I.tok _,⟨_,rfl⟩,q⟩) hz
theorem vals1{x:V}{us:List Value}(r:Vals [x] us):∃u,us=[u]∧RelV x u:=by
 cases r with
 | cons r1 r2=>cases r2;exact⟨_,rfl,r1⟩
theorem vals2{x y:V}{us:List Value}(r:Vals [x,y] us):∃u w',us=[u,w']∧RelV x u∧RelV y w':=by
 cases r with
 | cons r1 r2=>
  cases r2 with
  | cons r3 r4=>cases r4;exact⟨_,_,rfl,r1,r3⟩
theorem JU(hc:X.calm=true):vz X (.builtin "max") (fun xs H Q=>∃i j,xs=[.int i,.int j]∧Q (.int (if j>i then j else i)) H):=by
 intro c_ s σ H xs us Q I r h
 obtain⟨i,j,rfl,q⟩:=h
 obtain⟨u,w',rfl,⟨t,rfl⟩,⟨t',rfl⟩⟩:=vals2 r
 refine max_two_ints (I.ok.hd hc) fun h' tk k=>⟨_,H,I.kept k,?_,q⟩
 by_cases hj:j>i
 ·rw[aax hj,aax hj];exact⟨_,rfl⟩
 ·rw[aau hj,aau hj];exact⟨_,rfl⟩
end
structure HD(h:Heap)(x dx C:Addr)(mA:Qqx):Prop where
 obj:h.get? x=some (W.instObj C dx)
 ns:h.Ns1 dx mA
 ne:dx≠x
theorem JV{h:Heap}{dx:Addr}{mA:Qqx}(n:h.Ns1 dx mA):∃od,h.get? dx=some od∧∀name,W.lookIn name od=some (mA name):=by
 obtain⟨o,es,ep,ho,hd,hk,_,hm⟩:=n
 refine⟨o,ho,fun name=>?_⟩
 have e:=hm name
 unfold nsFind findBy at e
 rw[←Array.find?_toList] at e
 unfold W.lookIn
 rw[hd]
 dsimp only
 split
 ·rename_i y q
  rw[q] at e
  exact abb some e
 ·rename_i q
  rw[q] at e
  have a:es.toList.any (·.refKey)=false:=by
   rw[List.any_eq_false]
   intro y hy
   obtain⟨z,t,RG⟩:=hk y (Array.mem_toList_iff.mp hy)
   simp[DictEntry.refKey,RG]
  have a':¬es.toList.any (·.refKey)=true:=by rw[a];exact aak
  rw[aau a']
  exact abb some e
theorem HD.look{h:Heap}{x dx C:Addr}{mA:Qqx}(I:HD h x dx C mA):∃od,W.InstAt h x (W.instObj C dx) C (some od)∧∀name,W.lookIn name od=some (mA name):=
 let ⟨od,ho,hl⟩:=JV I.ns
 ⟨od,⟨I.obj,rfl,rfl,ho⟩,hl⟩
section
variable{prog:Program}{w:World}{A:Around}{E:Qqq}{s:Shared}{K:Qqy}{x dx C f:Addr}{mA:Qqx}{name:Str}{v:Value}
theorem get_map{expr:Bool}{Q:Qqq}(X:K.In s.heap)(I:HD s.heap x dx C mA)(hg:W.plainGet K C name=true)(hh:W.hasDictIn K C=true)
  (ha:W.findIn K (.ref C) name=some none) (hv:mA name=some v) (hv':W.handedIn v=true) (h:Q v {s with toks:=s.toks+1}) :
  wpAny (model prog w) A (getAttr (.ref x) name expr) Q E s:=by
 obtain⟨od,J,hl⟩:=I.look
 exact W.get_value X J (W.plainGet_of hg).1 (W.findObj_own hh ha rfl (by rw[hl,hv])) hv' h
theorem Lh{pl:Sem Bool}{Q:Value×List Value→Shared→Prop}(X:K.In s.heap)(I:HD s.heap x dx C mA)(hg:W.plainGet K C name=true)
  (hf:W.findIn K (.ref C) name=some (some (.ref f))) (ht:W.isFn K (.ref f)=true) (hv:mA name=none) (h:Q (.ref f,[.ref x]) s) :
  wpAny (model prog w) A (getMethod (.ref x) name pl) Q E s:=by
 obtain⟨od,J,hl⟩:=I.look
 exact W.method_fn X J (W.plainGet_of hg).1 (W.plainGet_of hg).2 hf (ab4.mp ht) (by show(W.lookIn name od).map (·.isSome)=some false;rw[hl,hv];rfl) h
theorem Nx{ns:List Str}{Q:Unit→Shared→Prop}(X:K.In s.heap)(I:HD s.heap x dx C mA)
  (hs:W.findIn K (.ref C) "__setattr__"=some (some (.builtin "object.__setattr__"))) (hp:W.plainOver K C=true) (ht:W.takerIn K C name=some none) (hh:W.hasDictIn K C=true)
  (hw:PySem.Within mA ns) (hsz:ns.length≤sizeLine)
  (h:∀h',HD h' x dx C (fun y=>if y=name then some v else mA y)→Heap.SameBut dx s.heap h'→Q () {s with heap:=h',toks:=s.toks+2}) :
  wpAny (model prog w) A (setAttr (.ref x) name v) Q E s:=by
 obtain⟨od,J,hl⟩:=I.look
 refine W.set_plain X J hs (W.osa_open (s:={s with toks:=s.toks+1}) (r:=none) X J hp ht fun b=>?_)
 obtain⟨cd,hc,Yr⟩:=W.any_some hh
 have hx:s.heap.get? x=some ⟨.ref C,some dx,.plain,#[]⟩:=I.obj
 refine XX (aas (XX (XX (wpAny_loadPart hx (XX (W.Looks.here (s:={s with toks:=s.toks+1}) (W.looks_clsIn X hc) ?_))))))
 rw[Yr]
 refine aas (a:=some dx) (XX (aas (XX ?_)))
 refine wpAny_nsSet1 (s:={s with toks:=s.toks+1}) I.ns fun h' Ng K6=>?_
 obtain⟨oD,esD,epD,hoD,hdD,UC⟩:=Ng.count (PySem.Within.cons name v hw)
 refine XX (wpAny_lookBehind hoD (by rw[hdD];exact pastItsLine_dict (aah UC (by rw[aal];omega))) ?_)
 exact aas (h _ ⟨(K6.2 _ (abT I.ne)).trans I.obj,Ng,I.ne⟩ K6)
theorem Li{R:Result→Shared→Prop}{vs:List Value}{kw:List (Str×Value)}(X:K.In s.heap)(hm:W.makesIn K C=true)
  (hi:W.findIn K (.ref C) "__init__"=some (some (.ref f))) (hf:W.typeIn K (.ref f)=some (.type "function"))
  (h:codeAny (model prog w) (A.under (.builtin "type.__call__" ⟨.ref C::vs,kw⟩)) (.call (.ref f) ⟨.ref (s.heap.objs.size+1)::vs,kw⟩) (W.InitBack (s.heap.objs.size+1) R)
   {s with heap:=(s.heap.push W.emptyDict).push (W.instObj C s.heap.objs.size)}) :
  codeAny (model prog w) A (.call (.ref C) ⟨vs,kw⟩) R s:=by
 obtain⟨hh,g,d,t,os⟩:=s
 exact W.make_core (W.makes_of X hm) (W.looks_findIn X hi) (fun self=>W.bind_fn X self hf) (.inl rfl) h
end
noncomputable def jZ(f:Str)(v:V):List (Str×V)→List (Str×V)
 | []=>[(f,v)]
 | (g,x)::r=>if g=f then(g,v)::r else(g,x)::jZ f v r
theorem zp(f g:Str)(v:V):∀fs:List (Str×V),(jZ f v fs).lookup g=if g=f then some v else fs.lookup g
 | []=>by
  show List.lookup g [(f,v)]=_
  by_cases h:g=f
  ·have hb:(g ==f)=true:=ab4.mpr h
   simp only [List.lookup,hb,aax h]
  ·have hb:(g ==f)=false:=abS.mpr h
   simp only [List.lookup,hb,aau h]
 | (k,x)::r=>by
  have ih:=zp f g v r
  rw[show jZ f v ((k,x)::r)=(if k=f then(k,v)::r else(k,x)::jZ f v r) from rfl]
  by_cases hk:k=f
  ·rw[aax hk]
   by_cases h:g=k
   ·have hb:(g ==k)=true:=ab4.mpr h
    simp only [List.lookup,hb,aax (h.trans hk)]
   ·have hb:(g ==k)=false:=abS.mpr h
    simp only [List.lookup,hb,aau (fun e:g=f=>h (e.trans hk.symm))]
  ·rw[aau hk]
   by_cases h:g=k
   ·have hb:(g ==k)=true:=ab4.mpr h
    simp only [List.lookup,hb,aau (fun e:g=f=>hk (h.symm.trans e))]
   ·have hb:(g ==k)=false:=abS.mpr h
    simp only [List.lookup,hb]
    exact ih
theorem yu(f:Str)(v:V):∀fs:List (Str×V),f∈(jZ f v fs).map (·.1)∧∀g,g∈fs.map (·.1)→g∈(jZ f v fs).map (·.1)
 | []=>⟨by simp[jZ],fun g h=>by simp at h⟩
 | (k,x)::r=>by
  obtain⟨i1,i2⟩:=yu f v r
  rw[show jZ f v ((k,x)::r)=(if k=f then(k,v)::r else(k,x)::jZ f v r) from rfl]
  by_cases hk:k=f
  ·rw[aax hk]
   subst hk
   exact⟨by simp,fun g h=>by simpa using h⟩
  ·rw[aau hk]
   refine⟨?_,fun g h=>?_⟩
   ·rw[aaB]
    exact aap _ i1
   ·rw[aaB] at h ⊢
    rcases aag.mp h with e|e
    ·exact aag.mpr (.inl e)
    ·exact aap _ (i2 g e)
theorem zq(f:Str)(v:V):∀fs:List (Str×V),(jZ f v fs).length≤fs.length+1
 | []=>by simp[jZ]
 | (k,x)::r=>by
  have ih:=zq f v r
  rw[show jZ f v ((k,x)::r)=(if k=f then(k,v)::r else(k,x)::jZ f v r) from rfl]
  by_cases hk:k=f
  ·rw[aax hk,aal,aal];omega
  ·rw[aau hk,aal,aal];omega
theorem qE.some_of{v:V}{o:Option Value}(r:qE (some v) o):∃u,o=some u∧RelV v u:=by
 cases o with
 | none=>exact(show False from r).elim
 | some u=>exact⟨u,rfl,r⟩
theorem qE.none_of{o:Option Value}(r:qE none o):o=none:=by
 cases o with
 | none=>rfl
 | some u=>exact(show False from r).elim
theorem JW{v:V}{u:Value}(r:RelV v u):W.handedIn u=true:=by
 cases v with
 | js=>cases (show u=Value.none from r);rfl
 | bl b=>cases (show u=Value.bool b from r);rfl
 | int i=>obtain⟨t,e⟩:=(show ∃t,u=Value.int i t from r);cases e;rfl
 | str x=>obtain⟨t,e⟩:=(show ∃t,u=Value.str x t from r);cases e;rfl
 | HA b=>obtain⟨t,e⟩:=(show ∃t,u=Value.bytes b t from r);cases e;rfl
 | O3 b=>obtain⟨t,e⟩:=(show ∃t,u=Value.float b t from r);cases e;rfl
 | ref a=>cases (show u=Value.ref a from r);rfl
 | ty n=>cases (show u=Value.type n from r);rfl
section
variable{P:Program}{w:World}{H H':Hp}{h h':Heap}{a C dx:Addr}{fs fs':List (Str×V)}
theorem AJ(iL:rl P w H h)(e:H a=some (.ins C dx fs)):∃mA,HD h a dx C mA∧(∀f,qE (fs.lookup f) (mA f))∧PySem.Within mA (fs.map (·.1))∧fs.length≤1000∧H dx=some (.own a):=by
 obtain⟨d,z,ne,ob,mA,n,r,q⟩:=(show i4 P w H h a (.ins C dx fs) from iL a _ e)
 exact⟨mA,⟨ob,n,ne⟩,r,q,z,d⟩
end
structure FU(K:Qqy)(C:Addr):Prop where
 pg:W.plainGet K C Str.empty=true
 hd:W.hasDictIn K C=true
 po:W.plainOver K C=true
 sa:W.findIn K (.ref C) "__setattr__"=some (some (.builtin "object.__setattr__"))
theorem FU.get{K:Qqy}{C:Addr}(c:FU K C)(f:Str):W.plainGet K C f=true:=c.pg
def kB(K:Qqy)(C:Addr)(f:Str):Prop:=W.findIn K (.ref C) f=some none
theorem kB.Tw{K:Qqy}{C:Addr}{f:Str}(n:kB K C f):W.takerIn K C f=some none:=by
 unfold W.takerIn
 rw[show W.findIn K (.ref C) f=some none from n]
 rfl
structure Meth(K:Qqy)(C:Addr)(m:Str)(f:Addr):Prop where
 at_:W.findIn K (.ref C) m=some (some (.ref f))
 fn:W.isFn K (.ref f)=true
 kp:W.keepIn K (.ref f)=true
section
variable{X:Cx}{c_:Qqz}{σ:St}{H:Hp}{s:Shared}{a C dx:Addr}{fs:List (Str×V)}{f:Str}{v:V}{A:Around}{E:Qqq}
theorem HE{b:Bool}{Q:Qqq}(I:Inv X c_ σ H s)(e:H a=some (.ins C dx fs))(c:FU X.K C)(n:kB X.K C f)(l:fs.lookup f=some v)
  (h:∀u s',Inv X c_ σ H s'→RelV v u→Q u s'):wpAny (model X.prog X.w) A (getAttr (.ref a) f b) Q E s:=by
 obtain⟨mA,O,r,_,_,_⟩:=AJ I.iL e
 obtain⟨u,hu,ru⟩:=qE.some_of (v:=v) (o:=mA f) (by rw[←l];exact r f)
 exact get_map I.vy O (c.get f) c.hd n hu (JW ru) (h u _ (I.tok _) ru)
theorem vV{m:Str}{g:Addr}{pl:Sem Bool}{Q:Value×List Value→Shared→Prop}(I:Inv X c_ σ H s)(e:H a=some (.ins C dx fs))(c:FU X.K C)(k:Meth X.K C m g)(l:fs.lookup m=none)
  (h:Q (.ref g,[.ref a]) s):wpAny (model X.prog X.w) A (getMethod (.ref a) m pl) Q E s:=by
 obtain⟨mA,O,r,_,_,_⟩:=AJ I.iL e
 have hn:mA m=none:=qE.none_of (by rw[←l];exact r m)
 exact Lh I.vy O (c.get m) k.at_ k.fn hn h
theorem HF{y:V}{u:Value}{Q:Unit→Shared→Prop}(I:Inv X c_ σ H s)(e:H a=some (.ins C dx fs))(c:FU X.K C)(n:kB X.K C f)(hl:fs.length<1000)(ry:RelV y u)
  (h:∀s',Inv X c_ σ (upd H a (.ins C dx (jZ f y fs))) s'→Q () s'):wpAny (model X.prog X.w) A (setAttr (.ref a) f u) Q E s:=by
 obtain⟨mA,O,r,wi,_,ho⟩:=AJ I.iL e
 have hz:(fs.map (·.1)).length≤sizeLine:=by rw[U8,sizeLine_eq];omega
 refine Nx I.vy O c.sa c.po n.Tw c.hd wi hz fun h' O' sb=>h _ ?_
 have hd:∃o,h'.get? dx=some o:=let ⟨o,_,_,e',_⟩:=O'.ns;⟨o,e'⟩
 refine I.write (x:=a) (e:=dx) (by rw[e];exact True.intro) (.inr ho) (fun b q hb z=>(sb.2 b hb).trans z) hd ?_
 refine⟨by rw[e_ O.ne];exact ho,?_,O.ne,O'.obj,_,O'.ns,fun g=>?_,fun g hg=>?_⟩
 ·have:=zq f y fs;omega
 ·show qE ((jZ f y fs).lookup g) (if g=f then some u else mA g)
  rw[zp]
  by_cases q:g=f
  ·rw[aax q,aax q];exact ry
  ·rw[aau q,aau q];exact r g
 ·by_cases q:g=f
  ·rw[q];exact(yu f y fs).1
  ·refine(yu f y fs).2 g (wi g fun z=>hg ?_)
   show(if g=f then some u else mA g)=none
   rw[aau q];exact z
theorem Inv.made(I:Inv X c_ σ H s):Inv X c_ σ (upd (upd H s.heap.objs.size (.own (s.heap.objs.size+1))) (s.heap.objs.size+1) (.ins C s.heap.objs.size []))
  {s with heap:=(s.heap.push W.emptyDict).push (W.instObj C s.heap.objs.size)}:=by
 have e1:(s.heap.push W.emptyDict).get? s.heap.objs.size=some W.emptyDict:=aaI s.heap rfl
 have e2:((s.heap.push W.emptyDict).push (W.instObj C s.heap.objs.size)).get? (s.heap.objs.size+1)=some (W.instObj C s.heap.objs.size):=by
  have:=aaI (s.heap.push W.emptyDict) (o:=W.instObj C s.heap.objs.size) rfl
  rwa [Heap.size_push] at this
 have e3:(s.heap.push W.emptyDict).Ns s.heap.objs.size (fun _=>none):=⟨W.emptyDict,#[],_,e1,rfl,(fun e he=>absurd he (by simp)),fun _=>rfl⟩
 have I1:=I.laid (a:=s.heap.objs.size) (o:=.own (s.heap.objs.size+1)) (h':=s.heap.push W.emptyDict) (t':=s.toks) (fun b u q=>aao _ q) (aab _) ⟨_,e1⟩
 refine I1.laid (a:=s.heap.objs.size+1) (o:=.ins C s.heap.objs.size []) (t':=s.toks) (fun b u q=>aao _ q) (acA (Heap.size_push _ _)) ?_
 have ne:s.heap.objs.size≠s.heap.objs.size+1:=aa1 (acv _)
 refine⟨by rw[e_ ne,b_],aaU _,ne,e2,fun _=>none,(Heap.Ns1.of_empty e3).at fun o q=>aao _ q,fun _=>True.intro,fun y hy=>absurd rfl hy⟩
theorem Ny{prog:Program}{w:World}{env:Env}{e:Expr}{f:Str}{pos:Pos}{s:Shared}{Q:Qqq}(hb:attributeBase e f env (eval e env)=eval e env)
  (h:wpAny (model prog w) A (eval e env) (fun o s₁=>wpAny (model prog w) A (getAttr o f true) Q E s₁) E s):wpAny (model prog w) A (eval (.Attribute e f pos) env) Q E s:=
 Attribute_any_ h (by rw[arm_eval_Attribute,hb])
end
def Xz(K:Qqy)(ta:TE)(f:Str):TE:=fun σ H Q=>ta σ H fun x H1=>∃a C dx fs v,x=.ref a∧H1 a=some (.ins C dx fs)∧FU K C∧kB K C f∧fs.lookup f=some v∧Q v H1
def XA(K:Qqy)(ta tv:TE)(f:Str):TS:=fun D σ H=>tv σ H fun y H1=>ta σ H1 fun x H2=>∃a C dx fs,x=.ref a∧H2 a=some (.ins C dx fs)∧FU K C∧kB K C f∧fs.length<1000∧
 D.nx σ (upd H2 a (.ins C dx (jZ f y fs)))
section
variable{X:Cx}{o e value:Expr}{f:Str}{pos pos' RH:Pos}{ta tv:TE}
theorem gF(he:PE X e ta)(hb:attributeBase e f X.env (eval e X.env)=eval e X.env):PE X (.Attribute e f pos) (Xz X.K ta f):=by
 intro c_ s σ H Q I h
 refine Ny hb (i7 (he c_ s σ H _ I h) fun u s1 ⟨x,H1,I1,rx,a,C,dx,fs,v,ex,ea,c,n,l,q⟩=>?_)
 subst ex
 obtain rfl:u=Value.ref a:=rx
 exact HE I1 ea c n l fun u' s2 I2 ru=>⟨v,H1,I2,ru,q⟩
theorem mG(ha:PE X o ta)(hv:PE X value tv)(hs:swapsWith value (some (.Attribute o f pos')) pos.line X.env=pure false):PS X (.Assign [.Attribute o f pos'] value pos) (XA X.K ta tv f):=by
 intro c_ s σ H D I h
 refine plainObj_wpAny_Assign_Attribute (i7 (hv c_ s σ H _ I h) fun u s1 ⟨y,H1,I1,ry,q⟩=>i7 (ha c_ s1 σ H1 _ I1 q) fun ov s2 ⟨x,H2,I2,rx,a,C,dx,fs,ex,ea,c,n,l,q2⟩=>?_) hs
 subst ex
 obtain rfl:ov=Value.ref a:=rx
 exact HF I2 ea c n l ry fun s3 I3=>⟨σ,_,I3,q2⟩
end
section
variable{X:Cx}{c_:Qqz}{σ:St}{H:Hp}{s:Shared}{A:Around}{E:Qqq}{Q:Qqq}{c:Value}{b:Bool}
inductive yv(K:Qqy)(H:Hp):V→Value→Prop where
 | js:yv K H .js (.type "NoneType")
 | bl (x:Bool):yv K H (.bl x) (.type "bool")
 | int (i:Int):yv K H (.int i) (.type "int")
 | str (x:Str):yv K H (.str x) (.type "str")
 | O3 (x:UInt64):yv K H (.O3 x) (.type "float")
 | lst {a:Addr} {xs:List V} (e:H a=some (.lst xs)):yv K H (.ref a) (.type "list")
 | oO {a:Addr} {o:Obj} {xs:List V} (e:H a=some (.oO o (.lst xs))):yv K H (.ref a) (.type "list")
 | tup {a:Addr} {xs:List V} (e:H a=some (.tup xs)):yv K H (.ref a) (.type "tuple")
 | dK {a:Addr} {kvs:List (Key×V)} (e:H a=some (.dK kvs)):yv K H (.ref a) (.type "dict")
 | dT {a:Addr} {kvs:List (List Key×V)} (e:H a=some (.dT kvs)):yv K H (.ref a) (.type "dict")
 | ins {a C dx:Addr} {fs:List (Str×V)} (e:H a=some (.ins C dx fs)) (cl:FU K C) (ha:W.findIn K (.ref C) "__class__"=some (some (.builtin "object.__class__")))
  (hn:W.specialIn K (.builtin "object.__class__") "__get__"=some (some (.builtin "getset_descriptor.__get__"))) (htk:W.takesIn K (.builtin "object.__class__")=some true)
  (hm:W.mroIn K C (.type "object")=some true):yv K H (.ref a) (.ref C)
theorem JX{x:V}{u t:Value}(I:Inv X c_ σ H s)(rx:RelV x u)(ty:yv X.K H x t)(e:W.kitOne X.K t c=some b)(h:∀tk,Q (.bool b) {s with toks:=tk}) :
  wpAny (model X.prog X.w) A (call (.builtin "isinstance") [u,c]) Q E s:=by
 cases ty with
 | js=>cases (show u=Value.none from rx);exact abq W.kitx_none I.vy True.intro e (fun z=>nomatch z) h
 | bl y=>cases (show u=Value.bool y from rx);exact abq W.kitx_bool I.vy True.intro e (fun z=>nomatch z) h
 | int i=>obtain⟨t,q⟩:=(show ∃t,u=Value.int i t from rx);cases q;exact abq W.kitx_int I.vy True.intro e (fun z=>nomatch z) h
 | str y=>obtain⟨t,q⟩:=(show ∃t,u=Value.str y t from rx);cases q;exact abq W.kitx_str I.vy True.intro e (fun z=>nomatch z) h
 | O3 y=>obtain⟨t,q⟩:=(show ∃t,u=Value.float y t from rx);cases q;exact abq W.kitx_float I.vy True.intro e (fun z=>nomatch z) h
 | @lst a xs ea=>
  cases (show u=Value.ref a from rx)
  obtain⟨_,_,n,_,h1⟩:=(show i4 X.prog X.w H s.heap a (.lst xs) from I.iL a _ ea)
  exact abq W.kitx_list I.vy ⟨_,h1,rfl⟩ e (fun z=>nomatch z) h
 | @oO a ob xs ea=>
  cases (show u=Value.ref a from rx)
  obtain⟨_,_,_,n,_,h1⟩:=(show i4 X.prog X.w H s.heap a (.oO ob (.lst xs)) from I.iL a _ ea)
  exact abq W.kitx_list I.vy ⟨_,h1,rfl⟩ e (fun z=>nomatch z) h
 | @tup a xs ea=>
  cases (show u=Value.ref a from rx)
  obtain⟨_,_,_,p⟩:=(show i4 X.prog X.w H s.heap a (.tup xs) from I.iL a _ ea)
  obtain⟨o,h1,h2,_⟩:=p
  exact abq W.kitx_tuple I.vy ⟨o,h1,h2⟩ e (fun z=>nomatch z) h
 | @dK a kvs ea=>
  cases (show u=Value.ref a from rx)
  obtain⟨_,_,vs,_,p⟩:=(show i4 X.prog X.w H s.heap a (.dK kvs) from I.iL a _ ea)
  obtain⟨o,es,ep,h1,h2,_⟩:=p
  exact abq W.kitx_dict I.vy ⟨o,h1,h2.1⟩ e (fun z=>nomatch z) h
 | @dT a kvs ea=>
  cases (show u=Value.ref a from rx)
  obtain⟨_,_,xs,_,o,es,ep,h1,h2,_⟩:=(show i4 X.prog X.w H s.heap a (.dT kvs) from I.iL a _ ea)
  exact abq W.kitx_dict I.vy ⟨o,h1,h2.1⟩ e (fun z=>nomatch z) h
 | @ins a C dx fs ea cl ha hn htk hm=>
  cases (show u=Value.ref a from rx)
  obtain⟨mA,O,_⟩:=AJ I.iL ea
  obtain⟨od,J,_⟩:=O.look
  exact abq (W.kitx_own (cl.get _) cl.hd ha hn htk hm) I.vy J e (fun z=>nomatch z) h
end
structure kT(k:Nat)(A:Around):Prop where
 hd:A.handled=none
 dp:A.depth+3*k+5<recursionLimit
 un:A.units+16*k+200<cLine
theorem kT.mono{j k:Nat}{A:Around}(r:kT k A)(h:j≤k):kT j A:=⟨r.hd,by have:=r.dp;omega,by have:=r.un;omega⟩
theorem kT.deeper{k:Nat}{A:Around}(r:kT (k+1) A)(env:Env):kT k (A.deeper env):=
 ⟨r.hd,by have:=r.dp;show A.depth+1+3*k+5<_;omega,by have:=r.un;show A.units+3+16*k+200<_;omega⟩
theorem HG{A:Around}{C:Addr}{us:List Value}{kw:List (Str×Value)}:(A.under (.builtin "type.__call__" ⟨.ref C::us,kw⟩)).depth=A.depth+1:=by
 first|rfl|simp[Around.under,Code.weight,Code.isCreation,Code.isGuard,Code.isCaller,Code.frames,Code.isFrame,guardIds]
theorem HH{A:Around}{C:Addr}{us:List Value}{kw:List (Str×Value)}:(A.under (.builtin "type.__call__" ⟨.ref C::us,kw⟩)).units=A.units+1:=by
 first|rfl|simp[Around.under,Code.cUnits,Code.frames,Code.isFrame]
theorem kT.make{k:Nat}{A:Around}(r:kT (k+1) A)(C:Addr)(us:List Value)(kw:List (Str×Value)):kT k (A.under (.builtin "type.__call__" ⟨.ref C::us,kw⟩)):=
 ⟨r.hd,by have:=r.dp;rw[HG];omega,by have:=r.un;rw[HH];omega⟩
theorem kT.depth{k:Nat}{A:Around}(r:kT k A):A.depth<recursionLimit:=by have:=r.dp;omega
theorem kT.units{k:Nat}{A:Around}(r:kT k A):A.units+64<cLine:=by have:=r.un;omega
def Qk:TA:=fun _ H Q=>Q [] H
def Tx(ta:TE)(tr:TA):TA:=fun σ H Q=>ta σ H fun x H1=>tr σ H1 fun xs H2=>Q (x::xs) H2
section
variable{X:Cx}{e:Expr}{es:List Expr}{te:TE}{t:TA}{pos:Pos}
theorem d_:PA X [] Qk:=fun _ _ _ _ H Q I h=>abD ⟨[],H,I,.nil,h⟩
theorem a_(ha:PE X e te)(hr:PA X es t)(hs:starEach (e::es) X.env=(false,eval e X.env)::starEach es X.env:=by rfl):PA X (e::es) (Tx te t):=by
 intro pos c_ s σ H Q I h
 rw[hs]
 show wpAny _ _ (spliced ((false,eval e X.env)::backTo pos (starEach es X.env))) _ _ s
 refine abn (i7 (ha c_ s σ H _ I h) fun u s1 ⟨x,H1,I1,r1,q1⟩=>?_)
 exact i7 (hr pos c_ s1 σ H1 _ I1 q1) fun us s2 ⟨xs,H2,I2,r2,q2⟩=>⟨x::xs,H2,I2,.cons r1 r2,q2⟩
def XC(t:TA):TE:=fun σ H Q=>t σ H fun xs H1=>xs.length≤sizeLine∧∀p,H1 p=none→Q (.ref p) (upd H1 p (.tup xs))
def XD(t:TA):TE:=fun σ H Q=>t σ H fun xs H1=>xs.length≤sizeLine∧∀p,H1 p=none→Q (.ref p) (upd H1 p (.lst xs))
theorem yw{x1}(h:PA X es t):PE X (.Tuple es x1 pos) (XC t):=by
 intro c_ s σ H Q I hq
 refine wpAny_Tuple_spliced (i7 (h pos c_ s σ H _ I hq) fun us s1 ⟨xs,H1,I1,r,z,q⟩=>⟨by rw[←r.length];exact z,?_⟩)
 have hf:H1 s1.heap.objs.size=none:=I1.iL.fresh (aab _)
 refine⟨.ref s1.heap.objs.size,upd H1 s1.heap.objs.size (.tup xs),I1.laid (t':=s1.toks) (fun b u e=>aao _ e) (aab _) ?_,rfl,q _ hf⟩
 exact⟨z,us,r,⟨_,aaI _ rfl,rfl,_,rfl⟩⟩
theorem iA(h:PA X es t):PE X (.List es pos) (XD t):=by
 intro c_ s σ H Q I hq
 refine wpAny_List_spliced (i7 (h pos c_ s σ H _ I hq) fun us s1 ⟨xs,H1,I1,r,z,q⟩=>⟨by rw[←r.length];exact z,?_⟩)
 have hf:H1 s1.heap.objs.size=none:=I1.iL.fresh (aab _)
 refine⟨.ref s1.heap.objs.size,upd H1 s1.heap.objs.size (.lst xs),I1.laid (t':=s1.toks) (fun b u e=>aao _ e) (aab _) ?_,rfl,q _ hf⟩
 exact⟨z,us,0,r,aaI _ rfl⟩
end
abbrev Sp:=List V→Hp→VK→XK→Prop
abbrev Hu:=List Env→Hp→Shared→XK→Qqq
structure FV(P:Program)(w:World)(K:Qqy)(mg:Qqx)(base:Heap)(A:Around)(outer:List Env)(s:Shared)(H:Hp):Prop where
 frames:A.frames=some outer
 mod:Mod K mg base
 bs:∀b o,base.get? b=some o→s.heap.get? b=some o∧H b=none
 JQ:base.objs.size≤s.heap.objs.size
 tD:s.heap.FunFrames base outer
 K3:∀b∈tw outer,H b=none
 iL:rl P w H s.heap
 bare:AllBare s.gens
def CE(outer:List Env)(P:Program)(w:World)(H:Hp)(s:Shared)(Q:VK)(u:Value)(s':Shared):Prop:=
 ∃v H',s'.os=s.os∧AllBare s'.gens∧Un (tw outer) [] H H' s.heap s'.heap∧rl P w H' s'.heap∧RelV v u∧Q v H'
def CR(CX:Hu)(outer:List Env)(P:Program)(w:World)(H:Hp)(s:Shared)(Q:VK)(E:XK)(r:Result)(s':Shared):Prop:=
 match r with
 | .ok (.ret u)=>CE outer P w H s Q u s'
 | .ok _=>False
 | .error e=>CX outer H s E e s'
structure ip(P:Program)(w:World)(K:Qqy)(mg:Qqx)(base:Heap)(CX:Hu)(k:Nat)(f:Addr)(fd:FuncData)(ps:List Str)(sp:Sp):Prop where
 len:∀vs H Q E,sp vs H Q E→vs.length=ps.length
 run:∀(A:Around)(outer:List Env)(s:Shared)(H:Hp)(args:Args)(us:List Value)(vs:List V)(Q:VK)(E:XK),kT k A→FV P w K mg base A outer s H→BindsTo s fd args (ps.zip us)→Vals vs us→sp vs H Q E→
  codeAny (model P w) A (.call (.ref f) args) (CR CX outer P w H s Q E) s
theorem ip.mono{P:Program}{w:World}{K:Qqy}{mg:Qqx}{base:Heap}{CX:Hu}{j k:Nat}{f:Addr}{fd:FuncData}{ps:List Str}{sp:Sp}(F:ip P w K mg base CX j f fd ps sp)(h:j≤k) :
 ip P w K mg base CX k f fd ps sp:=⟨F.len,fun A outer s H args us vs Q E hr=>F.run A outer s H args us vs Q E (hr.mono h)⟩
theorem ip.imp{P:Program}{w:World}{K:Qqy}{mg:Qqx}{base:Heap}{CX:Hu}{k:Nat}{f:Addr}{fd:FuncData}{ps:List Str}{sp sp':Sp}(F:ip P w K mg base CX k f fd ps sp)
  (h:∀vs H Q E,sp' vs H Q E→sp vs H Q E):ip P w K mg base CX k f fd ps sp':=
 ⟨fun vs H Q E q=>F.len vs H Q E (h _ _ _ _ q),fun A outer s H args us vs Q E hr he hb hv hs=>F.run A outer s H args us vs Q E hr he hb hv (h _ _ _ _ hs)⟩
theorem FV.make{P:Program}{w:World}{K:Qqy}{mg:Qqx}{base:Heap}{A:Around}{outer:List Env}{s:Shared}{H:Hp}(e:FV P w K mg base A outer s H)(C:Addr)(us:List Value)(kw:List (Str×Value)) :
 FV P w K mg base (A.under (.builtin "type.__call__" ⟨.ref C::us,kw⟩)) outer s H:=⟨by first|exact e.frames|(simpa[Around.under,Code.envs,Code.isFrame,pushEnvs] using e.frames),e.mod,e.bs,e.JQ,e.tD,e.K3,e.iL,e.bare⟩
section
variable{X:Cx}{c_:Qqz}{σ:St}{H:Hp}{s s':Shared}
theorem Inv.Nz(I:Inv X c_ σ H s):FV X.prog X.w X.K X.mg X.base X.A X.stack s H:=
 ⟨I.ok.frames,I.ok.mod,I.bs,aah I.ok.JQ I.sz,I.stack,I.AH,I.iL,I.bare⟩
theorem Inv.after{Q:VK}{u:Value}(I:Inv X c_ σ H s)(h:CE X.stack X.prog X.w H s Q u s'):EP X c_ σ Q u s':=by
 obtain⟨v,H',os,bare,un,iL,r,q⟩:=h
 obtain⟨hh,g,d,t,os'⟩:=s'
 obtain rfl:os'=s.os:=os
 exact⟨v,H',I.call (h':=hh) (g':=g) (d':=d) (t':=t) (ch:=[]) un iL bare (fun b z=>absurd z (by simp)),r,q⟩
end
def IW(sp:Sp)(xa:List V)(E:XK)(t:TA):TE:=fun σ H Q=>t σ H fun vs H1=>sp (vs++xa) H1 Q E
def FW(C:Addr)(m:Str)(sp:Sp)(xa:List V)(E:XK)(ta:TE)(t:TA):TE:=fun σ H Q=>ta σ H fun x H1=>∃a dx fs,x=.ref a∧H1 a=some (.ins C dx fs)∧fs.lookup m=none∧
 t σ H1 fun vs H2=>sp (x::(vs++xa)) H2 Q E
def O_(C:Addr)(sp:Sp)(xa:List V)(E:XK)(t:TA):TE:=fun σ H Q=>t σ H fun vs H1=>∀x dx,H1 x=none→H1 dx=none→dx≠x→
 sp (.ref x::(vs++xa)) (upd (upd H1 dx (.own x)) x (.ins C dx [])) (fun v H2=>v=.js∧Q (.ref x) H2) E
def Binds(K:Qqy)(fd:FuncData)(ps:List Str)(ds:List Value):Prop:=
 ∀(s:Shared)(us:List Value),K.In s.heap→(us++ds).length=ps.length→BindsTo s fd ⟨us,[]⟩ (ps.zip (us++ds))
theorem Binds.all{K:Qqy}{fd:FuncData}{ps:List Str}(h:∀us:List Value,us.length=ps.length→bindArgs fd ⟨us,[]⟩=pure (ps.zip us)):Binds K fd ps []:=fun s us _ hl=>by
 rw[aaP] at hl ⊢
 exact .of_eq (h us hl)
def Passes(CX:Hu)(X:Cx)(E:XK):Prop:=∀(c_:Qqz)(σ:St)(H:Hp)(s:Shared)(e:Value)(s':Shared),Inv X c_ σ H s→CX X.stack H s E e s'→X.xe e s'
section
variable{X:Cx}{CX:Hu}{k:Nat}{f C:Addr}{fd:FuncData}{ps:List Str}{sp:Sp}{xa:List V}{ds:List Value}{E:XK}{x m:Str}{p pos apos:Pos}{e o:Expr}{es:List Expr}{ta:TE}{t:TA}
theorem HI{c_:Qqz}{σ:St}{H:Hp}{s:Shared}{Q:VK}{us:List Value}{vs:List V}(F:ip X.prog X.w X.K X.mg X.base CX k f fd ps sp)(hr:kT k X.A)(hb:Binds X.K fd ps ds)(hd:Vals xa ds)(hx:Passes CX X E)
  (I:Inv X c_ σ H s) (r:Vals vs us) (h:sp (vs++xa) H Q E):wpAny (model X.prog X.w) X.A (call (.ref f) us) (EP X c_ σ Q) X.xe s:=by
 have r2:Vals (vs++xa) (us++ds):=r.append hd
 have hl:(us++ds).length=ps.length:=by rw[←r2.length];exact F.len _ _ _ _ h
 refine wpAny_call (codeAny_mono (F.run X.A X.stack s H ⟨us,[]⟩ (us++ds) (vs++xa) Q E hr I.Nz (hb s us I.vy hl) r2 h) fun r s' hq=>?_)
 cases r with
 | error e=>exact hx c_ σ H s e s' I hq
 | ok fl=>
  cases fl with
  | ret u=>exact I.after hq
  | next=>exact False.elim hq
  | brk=>exact False.elim hq
  | cont=>exact False.elim hq
theorem xg(F:ip X.prog X.w X.K X.mg X.base CX k f fd ps sp)(hr:kT k X.A)(hg:Gl X x)(hm:X.mg x=some (.ref f))(hk:W.keepIn X.K (.ref f)=true)(hb:Binds X.K fd ps ds)(hd:Vals xa ds)(hx:Passes CX X E)
  (ha:PA X (e::es) t) (Ff:(x ==("__debug__":Str))=false:=by decide) (he:starEach (e::es) X.env=(false,eval e X.env)::starEach es X.env:=by rfl) (ql:(backTo pos (starEach es X.env)).any (·.1)=false:=by rfl) :
  PE X (.Call (.Name x p) (e::es) [] pos) (IW sp xa E t):=by
 intro c_ s σ H Q I h
 refine abY (rn I hg hm ?_ Ff)
 refine ace (h₀:=X.base) I.ok.mod.Nr hk (i7 (ha pos c_ s σ H _ I h) fun us s1 ⟨vs,H1,I1,r,q⟩=>⟨I1.vy,?_⟩) he ql
 exact HI F hr hb hd hx I1 r q
theorem IX{pl:Sem Bool}(he:PE X o ta)(c:FU X.K C)(hm:Meth X.K C m f)(F:ip X.prog X.w X.K X.mg X.base CX k f fd ps sp)(hr:kT k X.A)(hb:Binds X.K fd ps ds)(hd:Vals xa ds)(hx:Passes CX X E)(ha:PA X (e::es) t)
  (yp:starEach (e::es) X.env=(false,eval e X.env)::starEach es X.env:=by rfl) (ql:(backTo pos (starEach es X.env)).any (·.1)=false:=by rfl)
  (ht:eval (.Call (.Attribute o m apos) (e::es) [] pos) X.env=(do
   let ov ←eval o X.env
   standAt apos.atName
   let (f,first) ←holding [ov] (getMethod ov m pl)
   callWith pos f first (backTo pos (starEach (e::es) X.env)) (backToKw pos (keywordEach [] X.env))):=by rfl) :
  PE X (.Call (.Attribute o m apos) (e::es) [] pos) (FW C m sp xa E ta t):=by
 intro c_ s σ H Q I h
 refine W.methodCall_KW (pl:=pl) (i7 (he c_ s σ H _ I h) fun u s1 ⟨x,H1,I1,rx,a,dx,fs,ex,ea,l,q⟩=>?_) ht
 subst ex
 obtain rfl:u=Value.ref a:=rx
 refine vV I1 ea c hm l ?_
 refine ace (first:=[.ref a]) (h₀:=X.base) I.ok.mod.Nr hm.kp (i7 (ha pos c_ s1 σ H1 _ I1 q) fun us s2 ⟨vs,H2,I2,r,q2⟩=>⟨I2.vy,?_⟩) yp ql
 exact HI (us:=.ref a::us) (vs:=.ref a::vs) F hr hb hd hx I2 (.cons rfl r) q2
theorem o8{pl:Sem Bool}(he:PE X o ta)(c:FU X.K C)(hm:Meth X.K C m f)(F:ip X.prog X.w X.K X.mg X.base CX k f fd ps sp)(hr:kT k X.A)(hb:Binds X.K fd ps ds)(hd:Vals xa ds)(hx:Passes CX X E)
  (ht:eval (.Call (.Attribute o m apos) [] [] pos) X.env=(do
   let ov ←eval o X.env
   standAt apos.atName
   let (f,first) ←holding [ov] (getMethod ov m pl)
   callWith pos f first (backTo pos (starEach [] X.env)) (backToKw pos (keywordEach [] X.env))):=by rfl) :
  PE X (.Call (.Attribute o m apos) [] [] pos) (FW C m sp xa E ta Qk):=by
 intro c_ s σ H Q I h
 refine W.methodCall_KW (pl:=pl) (i7 (he c_ s σ H _ I h) fun u s1 ⟨x,H1,I1,rx,a,dx,fs,ex,ea,l,q⟩=>?_) ht
 subst ex
 obtain rfl:u=Value.ref a:=rx
 refine vV I1 ea c hm l ?_
 exact W.callWith_K0 (first:=[.ref a]) I1.vy hm.kp (HI (us:=[.ref a]) (vs:=[.ref a]) F hr hb hd hx I1 (.cons rfl .nil) q)
structure Mk(K:Qqy)(C f:Addr):Prop where
 makes:W.makesIn K C=true
 init:W.findIn K (.ref C) "__init__"=some (some (.ref f))
 fn:W.isFn K (.ref f)=true
 kp:W.keepIn K (.ref C)=true
theorem FX{c_:Qqz}{σ:St}{H:Hp}{s:Shared}{Q:VK}{us:List Value}{vs:List V}(M:Mk X.K C f)(F:ip X.prog X.w X.K X.mg X.base CX k f fd ps sp)(hr:kT (k+1) X.A)(hb:Binds X.K fd ps ds)(hd:Vals xa ds)
  (hx:Passes CX X E) (I:Inv X c_ σ H s) (r:Vals vs us)
  (h:∀x dx,H x=none→H dx=none→dx≠x→sp (.ref x::(vs++xa)) (upd (upd H dx (.own x)) x (.ins C dx [])) (fun v H2=>v=.js∧Q (.ref x) H2) E) :
  wpAny (model X.prog X.w) X.A (call (.ref C) us) (EP X c_ σ Q) X.xe s:=by
 have hq:=h (s.heap.objs.size+1) s.heap.objs.size (I.iL.fresh (Nat.le_succ _)) (I.iL.fresh (aab _)) (aa1 (acv _))
 have I2:=Inv.made (C:=C) I
 have r2:Vals (V.ref (s.heap.objs.size+1)::(vs++xa)) (Value.ref (s.heap.objs.size+1)::(us++ds)):=.cons rfl (r.append hd)
 have hl:(Value.ref (s.heap.objs.size+1)::us++ds).length=ps.length:=by
  have e:=r2.length
  rw[F.len _ _ _ _ hq] at e
  exact e.symm
 refine wpAny_call (Li (f:=f) I.vy M.makes M.init (ab4.mp M.fn) (codeAny_mono (F.run _ X.stack _ _ ⟨Value.ref (s.heap.objs.size+1)::us,[]⟩ (Value.ref (s.heap.objs.size+1)::(us++ds)) _ _ E (hr.make C us [])
  (I2.Nz.make C us []) (hb _ (Value.ref (s.heap.objs.size+1)::us) I2.vy hl) r2 hq) fun r s' UD=>?_))
 cases r with
 | error e=>exact hx c_ σ _ _ e s' I2 UD
 | ok fl=>
  cases fl with
  | ret u=>
   obtain⟨v,H',I3,rv,ev,q3⟩:=I2.after UD
   subst ev
   exact⟨rv,⟨V.ref (s.heap.objs.size+1),H',I3,rfl,q3⟩⟩
  | next=>exact False.elim UD
  | brk=>exact False.elim UD
  | cont=>exact False.elim UD
theorem xh(M:Mk X.K C f)(F:ip X.prog X.w X.K X.mg X.base CX k f fd ps sp)(hr:kT (k+1) X.A)(hg:Gl X x)(hm:X.mg x=some (.ref C))(hb:Binds X.K fd ps ds)(hd:Vals xa ds)(hx:Passes CX X E)
  (ha:PA X (e::es) t) (Ff:(x ==("__debug__":Str))=false:=by decide) (he:starEach (e::es) X.env=(false,eval e X.env)::starEach es X.env:=by rfl) (ql:(backTo pos (starEach es X.env)).any (·.1)=false:=by rfl) :
  PE X (.Call (.Name x p) (e::es) [] pos) (O_ C sp xa E t):=by
 intro c_ s σ H Q I h
 refine abY (rn I hg hm ?_ Ff)
 refine ace (h₀:=X.base) I.ok.mod.Nr M.kp (i7 (ha pos c_ s σ H _ I h) fun us s1 ⟨vs,H1,I1,r,q⟩=>⟨I1.vy,?_⟩) he ql
 exact FX M F hr hb hd hx I1 r q
theorem Lj(M:Mk X.K C f)(F:ip X.prog X.w X.K X.mg X.base CX k f fd ps sp)(hr:kT (k+1) X.A)(hg:Gl X x)(hm:X.mg x=some (.ref C))(hb:Binds X.K fd ps ds)(hd:Vals xa ds)(hx:Passes CX X E)
  (Ff:(x ==("__debug__":Str))=false:=by decide):PE X (.Call (.Name x p) [] [] pos) (O_ C sp xa E Qk):=by
 intro c_ s σ H Q I h
 refine abY (rn I hg hm ?_ Ff)
 exact W.callWith_K0 I.vy M.kp (FX (us:=[]) M F hr hb hd hx I .nil h)
end
def PK(X:Cx)(kws:List Keyword)(t:TA):Prop:=
 ∀(pos:Pos)(c_:Qqz)(s:Shared)(σ:St)(H:Hp)(Q:List V→Hp→Prop),Inv X c_ σ H s→t σ H Q→wpAny (model X.prog X.w) X.A (evalAll ((backToKw pos (keywordEach kws X.env)).map (·.2))) (AP X c_ σ Q) X.xe s
section
variable{X:Cx}{CX:Hu}{k:Nat}{f C:Addr}{fd:FuncData}{ps ks:List Str}{sp:Sp}{E:XK}{x m:Str}{p pos apos kpos:Pos}{e o:Expr}{es:List Expr}{kws:List Keyword}{te ta:TE}{t tk:TA}{nm:Option Str}
variable{g:List Value→List Value→List Value}{gV:List V→List V→List V}
end
structure gA(N P:List Str)(sc:Scope):Prop where
 kind:sc.kind=.function
 co:sc.isCoroutine=false
 gen:sc.isGenerator=false
 nd:N.Nodup
 pre:N.take P.length=P
 par:∀x∈P,sc.names.lookup x=some .local∨sc.names.lookup x=some .cell
 Ql:∀y∈sc.names,y.2≠.free
theorem Dq{kindOf:Str→Option NameKind}{x:Str}:∀{binds:List (Str×Value)} {m:Qqx},(∀v,(x,v)∉binds)→bindL kindOf binds m x=m x
 | [],_,_=>rfl
 | (n,v)::r,m,h=>by
  unfold bindL
  rw[Dq fun w hw=>h w (aap _ hw)]
  split
  ·have:x≠n:=by rintro rfl;exact h v aaz
   simp[this]
  ·rfl
theorem Dr{kindOf:Str→Option NameKind}{x:Str}:∀{binds:List (Str×Value)} {m:Qqx},(∀v,(x,v)∉binds)→bindC kindOf binds m x=m x
 | [],_,_=>rfl
 | (n,v)::r,m,h=>by
  unfold bindC
  rw[Dr fun w hw=>h w (aap _ hw)]
  split
  ·rfl
  ·have:x≠n:=by rintro rfl;exact h v aaz
   simp[this]
theorem Ds{kindOf:Str→Option NameKind}{x:Str}{v:Value}:∀{P:List Str} {vs:List Value} {i:Nat} {m:Qqx},P.Nodup→P[i]?=some x→vs[i]?=some v→kindOf x=some .local→
  bindL kindOf (P.zip vs) m x=some v
 | [],_,_,_,_,h,_,_=>by simp at h
 | _::_,[],_,_,_,_,h,_=>by simp at h
 | p::P,w::vs,0,m,nd,h1,h2,hk=>by
  simp at h1 h2;subst h1;subst h2
  show bindL kindOf ((p,w)::P.zip vs) m p=_
  unfold bindL
  rw[Dq fun v hv=>(aaY.mp nd).1 (List.of_mem_zip hv).1,aax hk]
  simp
 | p::P,w::vs,i+1,m,nd,h1,h2,hk=>by
  show bindL kindOf ((p,w)::P.zip vs) m x=_
  unfold bindL
  exact Ds (i:=i) (aaY.mp nd).2 (by simpa using h1) (by simpa using h2) hk
theorem Dt{kindOf:Str→Option NameKind}{x:Str}{v:Value}:∀{P:List Str} {vs:List Value} {i:Nat} {m:Qqx},P.Nodup→P[i]?=some x→vs[i]?=some v→kindOf x≠some .local→
  bindC kindOf (P.zip vs) m x=some v
 | [],_,_,_,_,h,_,_=>by simp at h
 | _::_,[],_,_,_,_,h,_=>by simp at h
 | p::P,w::vs,0,m,nd,h1,h2,hk=>by
  simp at h1 h2;subst h1;subst h2
  show bindC kindOf ((p,w)::P.zip vs) m p=_
  unfold bindC
  rw[Dr fun v hv=>(aaY.mp nd).1 (List.of_mem_zip hv).1,aau hk]
  simp
 | p::P,w::vs,i+1,m,nd,h1,h2,hk=>by
  show bindC kindOf ((p,w)::P.zip vs) m x=_
  unfold bindC
  exact Dt (i:=i) (aaY.mp nd).2 (by simpa using h1) (by simpa using h2) hk
noncomputable def start(N:List Str)(vs:List V):St:=vs.map some++List.replicate (N.length-vs.length) none
noncomputable def vW(CX:Hu)(P:Program)(w:World)(K:Qqy)(mg:Qqx)(base:Heap)(N:List Str)(qual:Str)(scope:Scope)(f:Addr)(cd:Value)(A:Around)(outer:List Env)(s:Shared)(H:Hp)(E:XK):Cx where
 prog:=P
 w:=w
 K:=K
 mg:=mg
 base:=base
 A:=A.deeper (envOfC qual scope s.heap.objs.size f cd)
 N:=N
 s₀:=s
 H₀:=H
 env:=envOfC qual scope s.heap.objs.size f cd
 outer:=outer
 stack:=envOfC qual scope s.heap.objs.size f cd::outer
 ex:=[]
 calm:=true
 fn:=fun _=>true
 pn:=[]
 xe:=fun e s'=>wpAny (model P w) (A.deeper (envOfC qual scope s.heap.objs.size f cd)) (leaving (envOfC qual scope s.heap.objs.size f cd) e) (fun _ KP=>CX outer H s E e KP) (fun e' KP=>CX outer H s E e' KP) s'
theorem A7{sc:Scope}{n:Nat}{x:Str}(h:sc.names.lookup x=some .cell):∃c,(cellsFrom n sc.names []).lookup x=some c:=by
 have q:=W.cellsFrom_some sc.names n [] (.inl h)
 exact Option.isSome_iff_exists.mp q
theorem Du{CX:Hu}{P:Program}{w:World}{K:Qqy}{mg:Qqx}{base:Heap}{N ps:List Str}{qual:Str}{scope:Scope}{f:Addr}{cd:Value}{A:Around}{outer:List Env}{s s1:Shared}{H:Hp}{E:XK}{us:List Value}{vs:List V}
  (S:gA N ps scope) (hd:A.handled=none) (e0:FV P w K mg base A outer s H) (hl:vs.length=ps.length) (r:Vals vs us)
  (x:InCallC s s.heap.objs.size (bindL (envOfC qual scope s.heap.objs.size f cd).kindOf (ps.zip us) fun _=>none) (cellsFrom (s.heap.objs.size+1) scope.names []) (bindC (envOfC qual scope s.heap.objs.size f cd).kindOf (ps.zip us) fun _=>none) s1) :
  Inv (vW CX P w K mg base N qual scope f cd A outer s H E) [] (start N vs) H s1:=by
 have ql:ps.length≤N.length:=by have:=abb List.length S.pre;rw[aay] at this;omega
 obtain⟨h1,tk,rfl,hk⟩:=x.done
 have UE:∀b:Addr,b∉(vW CX P w K mg base N qual scope f cd A outer s H E).ex:=fun b z=>absurd (show b∈([]:List Addr) from z) (by simp)
 refine⟨⟨e0.mod,S.kind,rfl,rfl,aab _,fun y z c h1 h2=>?_,fun y hy=>?_,fun y c _ h=>?_,fun _=>hd,Around.frames_deeper e0.frames,.inr ⟨rfl,rfl⟩,fun b z=>absurd z (UE b),e0.bs,e0.JQ,fun b _ _=>UE b,fun b z=>absurd z (UE b),e0.tD,e0.K3⟩,
  rfl,e0.bare,Un.kept hk,⟨_,x.toInCall.ns,fun i y v h1 h2 h3=>?_⟩,fun y c h=>⟨_,x.cell y c h⟩,e0.iL.fresh (aab _),fun y c h=>?_,fun p hp=>absurd (show p∈([]:Qqz) from hp) (by simp),e0.iL.kept hk,?_⟩
 ·exact name_of_addr x.apart (abE h1) (abE h2)
 ·have hy:scope.names.lookup y=some .cell∨scope.names.lookup y=some .free:=hy
  rcases hy with hy|hy
  ·exact A7 hy
  ·exact absurd rfl (S.Ql _ (abE hy))
 ·exact Nat.le_of_lt (x.above y c (abE h))
 ·have hi:i<vs.length:=by
   unfold start at h2
   by_cases hi:i<vs.length
   ·exact hi
   ·rw[abl (by simpa using hi)] at h2
    rw[List.getElem?_replicate] at h2
    split at h2<;>cases h2
  have ha:vs[i]?=some v:=by
   unfold start at h2
   rw[ab0 (by simpa using hi),aan] at h2
   cases e:vs[i]? with
   | none=>rw[e] at h2;cases h2
   | some a=>rw[e] at h2;cases h2;rfl
  obtain⟨u,hu,rv⟩:=r.get ha
  have hp:ps[i]?=some y:=by
   rw[←S.pre,List.getElem?_take_of_lt (by omega)];exact h1
  have ndP:ps.Nodup:=by rw[←S.pre];exact S.nd.sublist (acr _ _)
  refine⟨u,rv,?_⟩
  rcases S.par y (Yd hp) with k|k
  ·exact .inl ⟨k,Ds ndP hp hu k⟩
  ·obtain⟨c,e⟩:=A7 (n:=s.heap.objs.size+1) k
   refine .inr ⟨.inl k,c,e,?_⟩
   have q:=x.cell y c e
   rw[Dt ndP hp hu (by show scope.names.lookup y≠_;rw[k];decide)] at q
   exact q
 ·exact e0.iL.fresh (Nat.le_of_lt (x.above y c (abE h)))
 ·unfold start
  show _=N.length
  rw[Y5,U8,List.length_replicate]
  omega
theorem Pa{CX:Hu}{P:Program}{w:World}{K:Qqy}{mg:Qqx}{base:Heap}{k:Nat}{f:Addr}{name qual:Str}{params:Arguments}{body:List Stmt}{scope:Scope}{dV kV doc pm jh ct oc:Value}{an od:Option Addr}
  {KQ:Array (Option Value)} {N ps:List Str} {sp:Sp} (lk:K.lookup f=some ⟨oc,od,.func (W.fnOf name qual params body scope dV kV doc pm an jh ct),KQ⟩) (CM:W.codeIn K jh qual=true) (S:gA N ps scope)
  (len:∀vs H Q E,sp vs H Q E→vs.length=ps.length)
  (rg:∀(A:Around)(outer:List Env)(s:Shared)(H:Hp)(vs:List V)(Q:VK)(E:XK),kT k (A.deeper (envOfC qual scope s.heap.objs.size f jh))→sp vs H Q E→
   ∃t,Dj (vW CX P w K mg base N qual scope f jh A outer s H E) body t∧t {nx:=fun _ H'=>Q .js H',rt:=Q} (start N vs) H) :
  ip P w K mg base CX (k+1) f (W.fnOf name qual params body scope dV kV doc pm an jh ct) ps sp:=by
 refine⟨len,fun A outer s H args us vs Q E hr e0 hb r KR=>?_⟩
 have hl:=len _ _ _ _ KR
 have KX:K.In s.heap:=e0.mod.Nr.keeps fun b o e=>(e0.bs b o e).1
 have lim:s.heap.NoLimit:=e0.mod.nolimit.keeps fun b o e=>(e0.bs b o e).1
 have MN:∀y∈ps.zip us,scope.names.lookup y.1=some .local∨(scope.names.lookup y.1=some .cell∧((cellsFrom (s.heap.objs.size+1) scope.names []).lookup y.1).isSome=true):=fun⟨n,v⟩ hy=>by
  rcases S.par n (List.of_mem_zip hy).1 with q|q
  ·exact .inl q
  ·exact .inr ⟨q,W.cellsFrom_some _ _ _ (.inl q)⟩
 refine codeAny_call_function hr.depth (KX _ _ lk) rfl S.co S.gen rfl (W.codeRec_of KX CM) (hb _ _ _ _ ?_)
 refine wpAny_newFunctionEnv_cells S.kind MN fun env he s1 x=>?_
 subst he
 refine⟨lim.keeps x.toInCall.keep,codeAny_func ?_⟩
 obtain⟨t,ht,hq⟩:=rg A outer s H vs Q E (hr.deeper _) KR
 have I:Inv (vW CX P w K mg base N qual scope f jh A outer s H E) [] (start N vs) H s1:=Du S hr.hd e0 hl r x
 refine abv (ht [] s1 (start N vs) H _ I hq) (fun fl s' hs=>?_) fun e s' hs=>hs
 have fin:∀{σ':St} {H':Hp} {v:V} {u:Value},Inv (vW CX P w K mg base N qual scope f jh A outer s H E) [] σ' H' s'→RelV v u→Q v H'→CE outer P w H s Q u s':=
  fun{σ' H' v u} J rv q=>⟨v,H',J.os,J.bare,J.base,J.iL,rv,q⟩
 cases fl with
 | ret u=>
  obtain⟨v,σ',H',J,rv,q⟩:=hs
  exact fin J rv q
 | next=>
  obtain⟨σ',H',J,q⟩:=hs
  exact fin (v:=V.js) (u:=Value.none) J rfl q
 | brk=>
  obtain⟨_,_,_,q⟩:=hs
  exact False.elim q
 | cont=>
  obtain⟨_,_,_,q⟩:=hs
  exact False.elim q
section
variable{X:Cx}{x:Str}{p pos:Pos}{e:Expr}{es:List Expr}{t:TA}{id T:String}{r:List V→Hp→VK→Prop}
def tCB(r:List V→Hp→VK→Prop)(t:TA):TE:=fun σ H Q=>t σ H fun vs H1=>r vs H1 Q
theorem gJ(hc:vz X (.builtin id) r)(hg:Gl X x)(hm:X.mg x=none)(hv:bootBuiltins x=some (.builtin id))(ha:PA X (e::es) t)(hn:x≠"__name__":=by decide)(Ff:(x ==("__debug__":Str))=false:=by decide)
  (he:starEach (e::es) X.env=(false,eval e X.env)::starEach es X.env:=by rfl) (ql:(backTo pos (starEach es X.env)).any (·.1)=false:=by rfl):PE X (.Call (.Name x p) (e::es) [] pos) (tCB r t):=by
 intro c_ s σ H Q I h
 refine abY (qo I hg hm hv ?_ hn Ff)
 exact PyProof.Rows.callWith_builtin1 (i7 (ha pos c_ s σ H _ I h) fun us s1 ⟨vs,H1,I1,r1,q1⟩=>hc c_ s1 σ H1 vs us Q I1 r1 q1) he ql
theorem uV(hc:vz X (.type T) r)(hg:Gl X x)(hm:X.mg x=none)(hv:bootBuiltins x=some (.type T))(ha:PA X (e::es) t)(hn:x≠"__name__":=by decide)(Ff:(x ==("__debug__":Str))=false:=by decide)
  (he:starEach (e::es) X.env=(false,eval e X.env)::starEach es X.env:=by rfl) (ql:(backTo pos (starEach es X.env)).any (·.1)=false:=by rfl):PE X (.Call (.Name x p) (e::es) [] pos) (tCB r t):=by
 intro c_ s σ H Q I h
 refine abY (qo I hg hm hv ?_ hn Ff)
 exact aa7 (i7 (ha pos c_ s σ H _ I h) fun us s1 ⟨vs,H1,I1,r1,q1⟩=>hc c_ s1 σ H1 vs us Q I1 r1 q1) he ql
end
end L2
namespace HT
open PySem PyProof.Rows
section
open PySem.SeqAt
open PySem.AutoSeq1 (wpAny_loadPart')
open PySem.MeetsSeq PySem.MeetsSeq2 PySem.MeetsSeq3
end
section
variable{prog:Program}{w:World}{A:Around}{E:Qqq}{s:Shared}
noncomputable def FY(n d:Nat):Option Int→Nat
 | none=>d
 | some v=>if v<0 then(v+(n:Int)).toNat else min v.toNat n
theorem FZ(n d:Nat):FY n d none=d:=rfl
theorem IY(n d k:Nat):FY n d (some (k:Int))=min k n:=by
 show(if(k:Int)<0 then((k:Int)+(n:Int)).toNat else min (k:Int).toNat n)=min k n
 rw[aau (by omega),ab5]
end
end HT
namespace L2
open PySem PySem.Spec PyProof.Rows
abbrev TO:=St→Hp→(Option Int→Hp→Prop)→Prop
def PO(X:Cx)(e:Option Expr)(t:TO):Prop:=
 ∀(c_:Qqz)(s:Shared)(σ:St)(H:Hp)(Q:Option Int→Hp→Prop),Inv X c_ σ H s→t σ H Q→
  wpAny (model X.prog X.w) X.A (evalPart e X.env) (fun u s'=>∃o H',Inv X c_ σ H' s'∧IsPart u o∧Q o H') X.xe s
def NA:TO:=fun _ H Q=>Q none H
def Tz(t:TE):TO:=fun σ H Q=>t σ H fun x H1=>∃i,x=.int i∧Q (some i) H1
section
variable{X:Cx}{e:Expr}{te:TE}{lo hi:Option Expr}{tl th:TO}{pos p2:Pos}
theorem pO:PO X none NA:=by
 intro c_ s σ H Q I h
 rw[evalPart_none]
 exact aas ⟨none,H,I,.none,h⟩
theorem pP(h:PE X e te):PO X (some e) (Tz te):=by
 intro c_ s σ H Q I hw
 rw[evalPart_some]
 refine i7 (h c_ s σ H _ I hw) fun u s1 ⟨x,H1,I1,r1,q1⟩=>?_
 obtain⟨i,rfl,q⟩:=q1
 obtain⟨t,rfl⟩:=r1
 exact⟨some i,H1,I1,.int i t,q⟩
def SlR(X:Cx)(r:V→Option Int→Option Int→Hp→VK→Prop):Prop:=
 ∀(c_:Qqz)(s:Shared)(σ:St)(H:Hp)(x:V)(v vl vu:Value)(lo hi:Option Int)(sl:Addr)(Q:VK),Inv X c_ σ H s→RelV x v→s.heap.IsSliceOf sl vl vu .none→IsPart vl lo→IsPart vu hi→r x lo hi H Q→
  ∃T id,typeLookup (.type T) "__getitem__"=pure (some (.builtin id))∧s.TypeIs v T∧wpAny (model X.prog X.w) X.A (getItem v (.ref sl)) (EP X c_ σ Q) X.xe s
def tSl(r:V→Option Int→Option Int→Hp→VK→Prop)(te:TE)(tl th:TO):TE:=fun σ H Q=>te σ H fun x H1=>tl σ H1 fun l H2=>th σ H2 fun u H3=>r x l u H3 Q
theorem og{r:V→Option Int→Option Int→Hp→VK→Prop}(hr:SlR X r)(he:PE X e te)(hl:PO X lo tl)(hu:PO X hi th):PE X (.Subscript e (.Slice lo hi none p2) pos) (tSl r te tl th):=by
 intro c_ s σ H Q I h
 refine Subscript_ (i7 (he c_ s σ H _ I h) fun v s1 ⟨x,H1,I1,r1,q1⟩=>?_)
 refine wpAny_Slice (i7 (hl c_ s1 σ H1 _ I1 q1) fun vl s2 ⟨l,H2,I2,pl,q2⟩=>i7 (hu c_ s2 σ H2 _ I2 q2) fun vu s3 ⟨u,H3,I3,pu,q3⟩=>?_)
 rw[evalPart_none]
 refine aas ?_
 have I4:Inv X c_ σ H3 {s3 with heap:=s3.heap.push {cls:=.type "slice",data:=.fields #[vl,vu,.none]}}:=I3.kept (t':=s3.toks) fun b ob q=>aao _ q
 obtain⟨T,id,hT,ht,hg⟩:=hr c_ {s3 with heap:=s3.heap.push {cls:=.type "slice",data:=.fields #[vl,vu,.none]}} σ H3 x v vl vu l u s3.heap.objs.size Q I4 r1 (Heap.IsSliceOf.new ..) pl pu q3
 show wpAny (model X.prog X.w) X.A (subscriptTail e (.Slice lo hi none p2) v (.ref s3.heap.objs.size)) (EP X c_ σ Q) X.xe {s3 with heap:=s3.heap.push {cls:=.type "slice",data:=.fields #[vl,vu,.none]}}
 exact tail_any (ops:=[.ref s3.heap.objs.size,v]) ht hT hg (by with_unfolding_all rfl)
noncomputable def xi(xs:List V)(lo hi:Option Int):List V:=(xs.drop (HT.FY xs.length 0 lo)).take (HT.FY xs.length xs.length hi-HT.FY xs.length 0 lo)
theorem F_(xs:List V)(lo hi:Option Int):(xi xs lo hi).length≤xs.length:=by
 unfold xi
 rw[aay,List.length_drop]
 omega
end
noncomputable def Lk(n:Nat)(i:Int):Option Nat:=if 0≤i then(if i<n then some i.toNat else none) else if -(n:Int)≤i then some (i+n).toNat else none
noncomputable def HJ{α:Type}(xs:List α)(i:Int):Option α:=(Lk xs.length i).bind fun j=>xs[j]?
theorem IZ{n:Nat}{i:Int}{j:Nat}(h:Lk n i=some j):seqIndex? i n=some j∧j<n∧-(n:Int)≤i∧i<n:=by
 unfold Lk at h
 by_cases h0:0≤i
 ·rw[aax h0] at h
  by_cases h1:i<n
  ·rw[aax h1] at h
   have e:i.toNat=j:=aaJ h
   exact⟨by rw[seqIndex_of h0 h1,e],by omega,by omega,h1⟩
  ·rw[aau h1] at h;cases h
 ·rw[aau h0] at h
  by_cases h1:-(n:Int)≤i
  ·rw[aax h1] at h
   have e:(i+n).toNat=j:=aaJ h
   exact⟨by rw[seqIndex_neg (by omega) h1,e],by omega,h1,by omega⟩
  ·rw[aau h1] at h;cases h
theorem Ec{α:Type}{xs:List α}{i:Int}{v:α}(h:HJ xs i=some v):∃j,seqIndex? i xs.length=some j∧xs[j]?=some v∧j<xs.length∧-(xs.length:Int)≤i∧i<xs.length:=by
 unfold HJ at h
 cases e:Lk xs.length i with
 | none=>rw[e] at h;cases h
 | some j=>
  rw[e] at h
  obtain⟨h1,h2,h3,h4⟩:=IZ e
  exact⟨j,h1,h,h2,h3,h4⟩
theorem NC{α:Type}{xs:List α}{j:Nat}{v:α}(h:xs[j]?=some v):HJ xs (j:Int)=some v:=by
 have hj:j<xs.length:=(Vb.mp h).1
 have e:Lk xs.length (j:Int)=some j:=by
  unfold Lk
  rw[aax (by omega),aax (by omega)];simp
 unfold HJ;rw[e];exact h
theorem Ga{α:Type}(xs:List α)(v:α):HJ (xs++[v]) (-1)=some v:=by
 have hl:(xs++[v]).length=xs.length+1:=by simp
 have e:Lk (xs++[v]).length (-1)=some xs.length:=by
  unfold Lk
  rw[hl,aau (by decide),aax (by omega)]
  congr 1
  omega
 unfold HJ
 rw[e]
 show(xs++[v])[xs.length]?=some v
 simp
def I_(b:Expr):Prop:=∀o i,subscripted b false o i=operate [o,i] (getItem o i)
def Wk(X:Cx)(r:R2):Prop:=
 ∀(value slice:Expr)(c_:Qqz)(s:Shared)(σ:St)(H:Hp)(x y:V)(v u:Value)(Q:VK),Inv X c_ σ H s→RelV x v→RelV y u→r x y H Q→
  subscripted slice false v u=operate [v,u] (getItem v u)→wpAny (model X.prog X.w) X.A (subscriptTail value slice v u) (EP X c_ σ Q) X.xe s
def XE(X:Cx)(id:String)(r:V→List V→Hp→VK→Prop):Prop:=
 ∀(c_:Qqz)(s:Shared)(σ:St)(H:Hp)(x:V)(xs:List V)(v:Value)(us:List Value)(Q:VK),Inv X c_ σ H s→RelV x v→Vals xs us→r x xs H Q→
  wpAny (model X.prog X.w) X.A (call (.builtin id) (v::us)) (EP X c_ σ Q) X.xe s
section
variable{X:Cx}{a b:Expr}{ta tb:TE}{pos:Pos}
theorem l0{r:R2}(hr:Wk X r)(ha:PE X a ta)(hb:PE X b tb)(hs:I_ b):PE X (.Subscript a b pos) (Ts r ta tb):=by
 intro c_ s σ H Q I h
 exact Subscript_ (Qf ha hb I h fun v u s2 x y H2 I2 rx ry q=>hr a b c_ s2 σ H2 x y v u Q I2 rx ry q (hs _ _))
def TB(K:Qqy):R2:=fun x y H Q=>∃p xs i v,x=.ref p∧y=.int i∧gK K H p xs∧HJ xs i=some v∧Q v H
def XF(K:Qqy):R2:=fun x y H Q=>∃p xs i v,x=.ref p∧y=.int i∧yo K H p xs∧HJ xs i=some v∧Q v H
def XG:R2:=fun x y H Q=>∃z i c,x=.str z∧y=.int i∧z.length≤sizeLine∧HJ z.cps.toList i=some c∧Q (.str ⟨#[c]⟩) H
theorem lQ:Wk X (TB X.K):=by
 intro value slice c_ s σ H x y v u Q I rx ry h hs
 obtain⟨p,xs,i,z,rfl,rfl,hq,he,q⟩:=h
 cases rx
 obtain⟨t,rfl⟩:=ry
 obtain⟨ic,r,pl,hz⟩:=I.list hq
 obtain⟨j,h1,h2,h3,h4,h5⟩:=Ec he
 obtain⟨w,ew,Dc⟩:=r.get h2
 have hl:=r.length
 have hn:=vU
 have fin:EP X c_ σ Q w s:=⟨z,H,I,Dc,q⟩
 by_cases h0:0≤i
 ·have hj:i.toNat=j:=by
   rw[seqIndex_of h0 h5] at h1
   exact aaJ h1
  exact item_listR pl.isList h0 (by omega) (by rw[hj];simpa using ew) fin hs
 ·have hj:(i+(ic.toArray.size:Int)).toNat=j:=by
   rw[seqIndex_neg (by omega) h4] at h1
   rw[aar,←hl]
   exact aaJ h1
  exact subscriptTail_builtinR (x:=w) pl.isList.typeIs slot_list_getitem.lookup
   (wpAny_getItem_list_neg (Q:=fun r s'=>r=w∧EP X c_ σ Q r s') pl.isList (by omega) (by rw[aar]<;>omega) (by omega) (by rw[hj];simpa using ew) ⟨rfl,fin⟩) hs
theorem A8:Wk X (XF X.K):=by
 intro value slice c_ s σ H x y v u Q I rx ry h hs
 obtain⟨p,xs,i,z,rfl,rfl,hq,he,q⟩:=h
 cases rx
 obtain⟨t,rfl⟩:=ry
 obtain⟨ic,r,pl,hz⟩:=I.tuple hq
 obtain⟨j,h1,h2,h3,h4,h5⟩:=Ec he
 obtain⟨w,ew,Dc⟩:=r.get h2
 have hl:=r.length
 have hn:=vU
 have fin:EP X c_ σ Q w s:=⟨z,H,I,Dc,q⟩
 exact subscriptTail_builtinR (x:=w) pl.typeIs slot_tuple_getitem.lookup
  (getItem_tuple (j:=j) (Q:=fun r s'=>r=w∧EP X c_ σ Q r s') pl (by omega) (by omega) (by rw[aar,←hl];exact h1) (by simpa using ew) ⟨rfl,fin⟩) hs
theorem HK:Wk X XG:=by
 intro value slice c_ s σ H x y v u Q I rx ry h hs
 obtain⟨z,i,c,rfl,rfl,hz,he,q⟩:=h
 obtain⟨t,rfl⟩:=rx
 obtain⟨t',rfl⟩:=ry
 obtain⟨j,h1,h2,h3,h4,h5⟩:=Ec he
 have hl:z.cps.toList.length=z.length:=by simp[Str.length]
 rw[hl] at h1 h4 h5
 have hn:=vU
 exact tail_any (typeIs_str s z t) slot_str_getitem.lookup (getItem_str (c:=c) (by
  have e1:decide (i < -(2 ^ 63:Int))=false:=aac (by omega)
  have e2:decide (i≥2 ^ 63)=false:=aac (by omega)
  rw[e1,e2,Bool.or_false]) (by rw[h1];simpa using h2) ⟨.str ⟨#[c]⟩,H,I.tok _,⟨_,rfl⟩,q⟩) hs
theorem HL(ic:List Value)(n j:Nat)(u:Value):Obj.mapSeq (·.setIfInBounds j u) {cls:=.type "list",data:=.seq ic.toArray n}={cls:=.type "list",data:=.seq (ic.set j u).toArray n}:=by
 simp[Obj.mapSeq]
theorem Inv.lst{c_:Qqz}{σ:St}{H:Hp}{s:Shared}{p:Addr}{xs:List V}(I:Inv X c_ σ H s)(h:H p=some (.lst xs)) :
  ∃(ic:List Value)(n:Nat),Vals xs ic∧s.heap.get? p=some {cls:=.type "list",data:=.seq ic.toArray n}∧xs.length≤sizeLine:=by
 obtain⟨z,ic,n,r,e⟩:=I.iL p _ h
 exact⟨ic,n,r,e,z⟩
theorem Inv.Qm{c_:Qqz}{σ:St}{H:Hp}{s:Shared}{p:Addr}{xs ys:List V}{ic its':List Value}{n n':Nat}{f:Obj→Obj}(I:Inv X c_ σ H s)(h:H p=some (.lst xs))
  (ho:s.heap.get? p=some {cls:=.type "list",data:=.seq ic.toArray n}) (hf:f {cls:=.type "list",data:=.seq ic.toArray n}={cls:=.type "list",data:=.seq its'.toArray n'}) (r:Vals ys its') (hz:ys.length≤sizeLine) (t:Nat) :
  Inv X c_ σ (upd H p (.lst ys)) {s with heap:=s.heap.update p f,toks:=t}:=by
 have e:(s.heap.update p f).get? p=some {cls:=.type "list",data:=.seq its'.toArray n'}:=by
  rw[abh f ho (by rw[hf]<;>rfl),hf]
 refine I.write (x:=p) (e:=p) (by rw[h];trivial) (.inl rfl) (fun b u hb q=>(abU _ _ (abT hb)).trans q) ⟨_,e⟩ ?_
 exact⟨hz,its',n',r,e⟩
def TC:V→V→V→Hp→(Hp→Prop)→Prop:=fun o i v H Q=>∃p xs k j,o=.ref p∧i=.int k∧H p=some (.lst xs)∧Lk xs.length k=some j∧Q (upd H p (.lst (xs.set j v)))
theorem set_list:Tn X TC:=by
 intro c_ s σ H o i v ov iv u Q I ro ri rv h
 obtain⟨p,xs,k,j,rfl,rfl,hp,hj,q⟩:=h
 cases ro
 obtain⟨t,rfl⟩:=ri
 obtain⟨ic,n,r,ho,hz⟩:=I.lst hp
 obtain⟨h1,h2,h3,h4⟩:=IZ hj
 have hl:=r.length
 have hn:=vU
 have I':Inv X c_ σ (upd H p (.lst (xs.set j v))) {s with heap:=s.heap.update p (Obj.mapSeq (·.setIfInBounds j u))}:=
  I.Qm hp ho (HL ic n j u) (r.set rv j) (by rw[acz];exact hz) s.toks
 by_cases h0:0≤k
 ·have hk:k.toNat=j:=by
   rw[seqIndex_of h0 h4] at h1
   exact aaJ h1
  exact W.ki_setAt ho h0 (by omega) (by rw[aar,←hl];exact h4) (by rw[hk];exact⟨_,I',q⟩)
 ·have hk:(k+(ic.toArray.size:Int)).toNat=j:=by
   rw[seqIndex_neg (by omega) h3] at h1
   rw[aar,←hl]
   exact aaJ h1
  exact W.ki_setBack ho (by omega) (by rw[aar,←hl];exact h3) (by omega) (by rw[hk];exact⟨_,I',q⟩)
theorem Ed(lo hi:Option Int)(n:Nat):(sliceBounds lo hi none n).1=((HT.FY n 0 lo:Nat):Int)∧(sliceBounds lo hi none n).2.1=((HT.FY n n hi:Nat):Int)∧(sliceBounds lo hi none n).2.2=1:=by
 refine⟨?_,?_,rfl⟩
 ·cases lo with
  | none=>simp[sliceBounds,HT.FY]
  | some i=>
   simp only [sliceBounds,HT.FY,Option.getD_none,show(1:Int)>0 by decide,if_true]
   by_cases h:i<0
   ·simp only [h,if_true]<;>omega
   ·simp only [h,acf]<;>omega
 ·cases hi with
  | none=>simp[sliceBounds,HT.FY]
  | some i=>
   simp only [sliceBounds,HT.FY,Option.getD_none,show(1:Int)>0 by decide,if_true]
   by_cases h:i<0
   ·simp only [h,if_true]<;>omega
   ·simp only [h,acf]<;>omega
theorem CQ(ic:List Value)(lo hi:Option Int):slicePick ic.toArray lo hi none=((ic.drop (HT.FY ic.length 0 lo)).take (HT.FY ic.length ic.length hi-HT.FY ic.length 0 lo)).toArray:=by
 obtain⟨h1,h2,h3⟩:=Ed lo hi ic.toArray.size
 unfold slicePick
 rw[h1,h2,h3]
 simp only [sliceRange_one,pick_run,aar]<;>rfl
def XH(K:Qqy):V→Option Int→Option Int→Hp→VK→Prop:=fun x lo hi H Q=>∃a xs,x=.ref a∧gK K H a xs∧∀p,H p=none→Q (.ref p) (upd H p (.lst (xi xs lo hi)))
theorem pQ:SlR X (XH X.K):=by
 intro c_ s σ H x v vl vu lo hi sl Q I rx hs pl pu h
 obtain⟨a,xs,rfl,hx,q⟩:=h
 cases rx
 obtain⟨ic,r,ht,hz⟩:=I.list hx
 have hlen:=r.length
 refine⟨"list",_,slot_list_getitem.lookup,ht.isList.typeIs,?_⟩
 refine wpAny_getItem_list_slice ht.isList hs pl pu .none (by simp) ?_ (by rw[aar]<;>omega)
 rw[CQ,←hlen]
 refine⟨.ref s.heap.objs.size,_,I.laid (t':=s.toks) (o:=.lst (xi xs lo hi)) (fun b ob q=>aao _ q) (aab _) ?_,rfl,q _ (I.iL.fresh (aab _))⟩
 exact⟨aah (F_ xs lo hi) hz,_,0,(r.drop (HT.FY xs.length 0 lo)).take (HT.FY xs.length xs.length hi-HT.FY xs.length 0 lo),aaI _ rfl⟩
noncomputable def kS:V→Bool
 | .js=>true
 | .bl _=>true
 | .int _=>true
 | .str _=>true
 | _=>false
noncomputable def Ja:V→V→Bool
 | .js,.js=>true
 | .bl a,.bl b=>a ==b
 | .bl a,.int b=>(if a then 1 else 0) ==b
 | .int a,.bl b=>a ==(if b then 1 else 0)
 | .int a,.int b=>a ==b
 | .str a,.str b=>a ==b
 | _,_=>false
theorem Ll{A:Around}{s:Shared}{y x:V}{u v:Value}(ry:RelV y u)(rx:RelV x v)(fy:kS y=true)(fx:kS x=true):SeqAt.EqAt A s u v (Ja y x):=by
 cases y with
 | js=>
  cases ry
  cases x with
  | js=>cases rx;exact SeqAt.EqAt.same _
  | bl b=>cases rx;exact SeqAt.EqAt.none_bool b
  | int b=>obtain⟨t,rfl⟩:=rx;exact SeqAt.EqAt.none_int b t
  | str b=>obtain⟨t,rfl⟩:=rx;exact SeqAt.EqAt.none_str b t
  | _=>exact absurd (show false=true from fx) aak
 | bl a=>
  cases ry
  cases x with
  | js=>cases rx;exact SeqAt.EqAt.bool_none a
  | bl b=>cases rx;exact SeqAt.EqAt.bool_bool a b
  | int b=>obtain⟨t,rfl⟩:=rx;exact SeqAt.EqAt.bool_int a b t
  | str b=>obtain⟨t,rfl⟩:=rx;exact SeqAt.EqAt.bool_str a b t
  | _=>exact absurd (show false=true from fx) aak
 | int a=>
  obtain⟨t',rfl⟩:=ry
  cases x with
  | js=>cases rx;exact SeqAt.EqAt.int_none a t'
  | bl b=>cases rx;exact SeqAt.EqAt.int_bool a t' b
  | int b=>obtain⟨t,rfl⟩:=rx;exact SeqAt.EqAt.int_int a t' b t
  | str b=>obtain⟨t,rfl⟩:=rx;exact SeqAt.EqAt.int_str a t' b t
  | _=>exact absurd (show false=true from fx) aak
 | str a=>
  obtain⟨t',rfl⟩:=ry
  cases x with
  | js=>cases rx;exact SeqAt.EqAt.str_none a t'
  | bl b=>cases rx;exact SeqAt.EqAt.str_bool a t' b
  | int b=>obtain⟨t,rfl⟩:=rx;exact SeqAt.EqAt.str_int a t' b t
  | str b=>obtain⟨t,rfl⟩:=rx;exact SeqAt.EqAt.str_str a t' b t
  | _=>exact absurd (show false=true from fx) aak
 | _=>exact absurd (show false=true from fy) aak
noncomputable def HM(x:V)(u:Value):Bool:=match u with
 | .none=>Ja .js x
 | .bool b=>Ja (.bl b) x
 | .int i _=>Ja (.int i) x
 | .str z _=>Ja (.str z) x
 | _=>false
theorem Lm{x y:V}{u:Value}(r:RelV y u)(f:kS y=true):HM x u=Ja y x:=by
 cases y with
 | js=>cases r;rfl
 | bl b=>cases r;rfl
 | int i=>obtain⟨t,rfl⟩:=r;rfl
 | str z=>obtain⟨t,rfl⟩:=r;rfl
 | _=>exact absurd (show false=true from f) aak
theorem xj{x:V}:∀{xs:List V} {us:List Value},Vals xs us→xs.all kS=true→us.any (HM x)=xs.any fun y=>Ja y x
 | _,_,.nil,_=>rfl
 | y::xs,u::us,.cons r t,f=>by
  rw[List.all_cons,abc] at f
  rw[List.any_cons,List.any_cons,Lm r f.1,xj t f.2]
theorem tK{A:Around}{s:Shared}{x:V}{v:Value}(rx:RelV x v)(fx:kS x=true):∀{xs:List V} {us:List Value},Vals xs us→xs.all kS=true→∀u∈us,SeqAt.EqAt A s u v (HM x u)
 | _,_,.nil,_=>fun u hu=>by cases hu
 | y::xs,u::us,.cons r t,f=>fun u' hu=>by
  rw[List.all_cons,abc] at f
  rcases aag.mp hu with rfl|hu
  ·rw[Lm r f.1];exact Ll r rx f.1 fx
  ·exact tK rx fx t f.2 u' hu
noncomputable def Dw(x:V)(xs:List V):Bool:=xs.any fun y=>Ja y x
def rIn(K:Qqy)(neg:Bool):R2:=fun x y H Q=>∃p xs,y=.ref p∧(gK K H p xs∨yo K H p xs)∧kS x=true∧xs.all kS=true∧Q (.bl (if neg then !Dw x xs else Dw x xs)) H
theorem qG:yt X (compareOp .In) (rIn X.K false):=by
 intro c_ s σ H x y v u Q I rx ry h
 obtain⟨p,xs,rfl,hq,fx,fs,q⟩:=h
 cases ry
 rcases hq with hq|hq
 ·obtain⟨ic,r,pl,hz⟩:=I.list hq
  refine SeqAt.in_listAt (HM x) pl.isList (fun w hw=>tK rx fx r fs w (by simpa using hw)) ⟨.bl _,H,I,rfl,?_⟩
  rw[show ic.toArray.any (HM x)=ic.any (HM x) by simp,xj r fs]
  exact q
 ·obtain⟨ic,r,pl,hz⟩:=I.tuple hq
  refine SeqAt.in_tupleAt (HM x) pl (fun w hw=>tK rx fx r fs w (by simpa using hw)) ⟨.bl _,H,I,rfl,?_⟩
  rw[show ic.toArray.any (HM x)=ic.any (HM x) by simp,xj r fs]
  exact q
theorem rC:yt X (compareOp .NotIn) (rIn X.K true):=by
 intro c_ s σ H x y v u Q I rx ry h
 obtain⟨p,xs,rfl,hq,fx,fs,q⟩:=h
 cases ry
 rcases hq with hq|hq
 ·obtain⟨ic,r,pl,hz⟩:=I.list hq
  refine SeqAt.notIn_listAt (HM x) pl.isList (fun w hw=>tK rx fx r fs w (by simpa using hw)) ⟨.bl _,H,I,rfl,?_⟩
  rw[show ic.toArray.any (HM x)=ic.any (HM x) by simp,xj r fs]
  exact q
 ·obtain⟨ic,r,pl,hz⟩:=I.tuple hq
  refine SeqAt.notIn_tupleAt (HM x) pl (fun w hw=>tK rx fx r fs w (by simpa using hw)) ⟨.bl _,H,I,rfl,?_⟩
  rw[show ic.toArray.any (HM x)=ic.any (HM x) by simp,xj r fs]
  exact q
theorem gD:vz X (.builtin "len") (fun xs H Q=>∃p ys,xs=[.ref p]∧(gK X.K H p ys∨yo X.K H p ys)∧Q (.int ys.length) H):=by
 intro c_ s σ H xs us Q I r h
 obtain⟨p,ys,rfl,hq,q⟩:=h
 obtain⟨u,rfl,rx⟩:=vals1 r
 cases rx
 have hn:=vU
 rcases hq with hq|hq
 ·obtain⟨ic,r',pl,hz⟩:=I.list hq
  have hlen:=r'.length
  exact Calls.call_len_list pl.isList (by simp only [aar]<;>omega) ⟨.int ys.length,H,I.tok _,⟨s.toks+1,by rw[aar,hlen]⟩,q⟩
 ·obtain⟨ic,r',pl,hz⟩:=I.tuple hq
  have hlen:=r'.length
  exact len_tuple pl (by simp only [aar]<;>omega) ⟨.int ys.length,H,I.tok _,⟨s.toks+1,by rw[aar,hlen]⟩,q⟩
theorem xl:vz X (.builtin "len") (fun xs H Q=>∃z,xs=[.str z]∧z.length≤sizeLine∧Q (.int z.length) H):=by
 intro c_ s σ H xs us Q I r h
 obtain⟨z,rfl,hz,q⟩:=h
 obtain⟨u,rfl,t,rfl⟩:=vals1 r
 have hn:=vU
 exact len_str (by omega) ⟨.int z.length,H,I.tok _,⟨_,rfl⟩,q⟩
theorem xm:vz X (.type "list") (fun xs H Q=>∃p ys,xs=[.ref p]∧(gK X.K H p ys∨yo X.K H p ys)∧∀l,H l=none→Q (.ref l) (upd H l (.lst ys))):=by
 intro c_ s σ H xs us Q I r h
 obtain⟨p,ys,rfl,hq,q⟩:=h
 obtain⟨u,rfl,rx⟩:=vals1 r
 cases rx
 have fin:∀(ic:List Value),Vals ys ic→ys.length≤sizeLine→∀(h':Heap)(c':Nat),(∀b o',s.heap.get? b=some o'→h'.get? b=some o')→
   h'.get? s.heap.objs.size=some {cls:=.type "list",dict:=none,data:=.seq ic.toArray c',slots:=#[]}→EP X c_ σ Q (.ref s.heap.objs.size) {s with heap:=h'}:=fun ic r' hz h' c' kp e=>
  ⟨.ref s.heap.objs.size,_,I.laid (t':=s.toks) kp (aab _) (show i4 X.prog X.w _ h' _ (.lst ys) from ⟨hz,ic,c',r',e⟩),rfl,q _ (I.iL.fresh (aab _))⟩
 rcases hq with hq|hq
 ·obtain⟨ic,r',pl,hz⟩:=I.list hq
  have hlen:=r'.length
  obtain⟨o,ho,hc,n,hd⟩:=pl.isList
  exact call_list_seq p (.inl rfl) ho hc hd (fun h' c' kp e=>fin ic r' hz h' c' kp e) (by simp only [aar]<;>omega)
 ·obtain⟨ic,r',pl,hz⟩:=I.tuple hq
  have hlen:=r'.length
  obtain⟨o,ho,hc,n,hd⟩:=pl
  exact call_list_seq p (.inr rfl) ho hc hd (fun h' c' kp e=>fin ic r' hz h' c' kp e) (by simp only [aar]<;>omega)
def XI(K:Qqy)(T:String)(x:V)(H:Hp):Prop:=match x with
 | .str _=>T="str"
 | .int _=>T="int"
 | .ref p=>(T="list"∧∃xs,gK K H p xs)∨(T="tuple"∧∃o,K.lookup p=some o∧o.cls=.type "tuple"∧o.dict=none)∨
  (T="dict"∧((∃kvs,H p=some (.dK kvs))∨∃kvs,H p=some (.dT kvs)))∨(T="set"∧∃S n,H p=some (.set S n))
 | _=>False
theorem Lo{c_:Qqz}{σ:St}{H:Hp}{s:Shared}{T:String}{x:V}{v:Value}(I:Inv X c_ σ H s)(r:RelV x v)(ty:XI X.K T x H) :
  s.TypeIs v T∧∀a,v=.ref a→∃ob,s.heap.get? a=some ob∧ob.dict=none:=by
 cases x with
 | str z=>
  obtain⟨t,rfl⟩:=r
  cases (show T="str" from ty)
  exact⟨typeIs_str s z t,fun _ e=>nomatch e⟩
 | int i=>
  obtain⟨t,rfl⟩:=r
  cases (show T="int" from ty)
  exact⟨typeIs_int s i t,fun _ e=>nomatch e⟩
 | ref p=>
  cases r
  rcases ty with⟨rfl,xs,hq⟩|⟨rfl,o,hk,hc,hd⟩|⟨rfl,hk⟩|⟨rfl,S,n,hk⟩
  ·obtain⟨ic,_,pl,_⟩:=I.list hq
   refine⟨pl.isList.typeIs,fun a e=>?_⟩
   cases e
   obtain⟨o,n,e,c,hd,_⟩:=pl
   exact⟨o,e,hd⟩
  ·refine⟨⟨o,I.vy p o hk,hc⟩,fun a e=>?_⟩
   cases e
   exact⟨o,I.vy _ o hk,hd⟩
  ·have z:∃o,s.heap.get? p=some o∧o.ExactDict:=by
    rcases hk with⟨kvs,hk⟩|⟨kvs,hk⟩
    ·obtain⟨_,_,_,_,o,_,_,e,ex,_⟩:=I.iL p _ hk
     exact⟨o,e,ex⟩
    ·obtain⟨_,_,_,_,o,_,_,e,ex,_⟩:=I.iL p _ hk
     exact⟨o,e,ex⟩
   obtain⟨o,e,ex⟩:=z
   refine⟨⟨o,e,ex.1⟩,fun a e2=>?_⟩
   cases e2
   exact⟨o,e,ex.2.1⟩
  ·obtain⟨o,_,_,_,e,ex,_⟩:=I.iL p _ hk
   refine⟨⟨o,e,ex.1⟩,fun a e2=>?_⟩
   cases e2
   exact⟨o,e,ex.2.1⟩
 | _=>exact False.elim ty
def XJ(K:Qqy)(T:String)(r:V→List V→Hp→VK→Prop)(to:TE):TE:=fun σ H Q=>to σ H fun x H1=>XI K T x H1∧r x [] H1 Q
def tBM(K:Qqy)(T:String)(r:V→List V→Hp→VK→Prop)(to:TE)(t:TA):TE:=fun σ H Q=>to σ H fun x H1=>XI K T x H1∧t σ H1 fun xs H2=>r x xs H2 Q
variable{o e:Expr}{es:List Expr}{to:TE}{t:TA}{name:Str}{apos lY:Pos}{T id:String}{r:V→List V→Hp→VK→Prop}
theorem Qn(pa:PlainAttrs T)(slot:Slot T name id)(UG:typeOf (.builtin id)=pure (.type "method_descriptor"))(hm:XE X id r)(ho:PE X o to)
  (MO:attributeBase o name X.env (eval o X.env)=eval o X.env:=by rfl) (MP:(apos.endLine ==lY.line)=true:=by rfl):PE X (.Call (.Attribute o name apos) [] [] lY) (XJ X.K T r to):=by
 intro c_ s σ H Q I h
 refine wpAny_Call_method0_late MO MP (i7 (ho c_ s σ H _ I h) fun v s1 ⟨x,H1,I1,r1,ty,q1⟩=>?_)
 obtain⟨h1,h2⟩:=Lo I1 r1 ty
 exact⟨T,id,pa,slot,UG,h1,h2,abo rfl (PySem.evalArgs_none (hm c_ s1 σ H1 x [] v [] Q I1 r1 .nil q1))⟩
theorem qH(pa:PlainAttrs T)(slot:Slot T name id)(UG:typeOf (.builtin id)=pure (.type "method_descriptor"))(hm:XE X id r)(ho:PE X o to)(ha:PA X (e::es) t)
  (MO:attributeBase o name X.env (eval o X.env)=eval o X.env:=by rfl)
  (Yx:((backTo lY (starEach (e::es) X.env)).all (fun x=>!x.1)&&(backToKw lY (keywordEach [] X.env)).all (fun x=>x.1.isSome)
   &&decide ((e::es).length+([]:List Keyword).length+(if([]:List Keyword).isEmpty then 0 else 1)<30))=true:=by rfl)
  (MP:(apos.endLine ==lY.line)=true:=by rfl) (hs:starEach (e::es) X.env=(false,eval e X.env)::starEach es X.env:=by rfl) (RI:(backTo lY (starEach es X.env)).any (·.1)=false:=by rfl) :
  PE X (.Call (.Attribute o name apos) (e::es) [] lY) (tBM X.K T r to t):=by
 intro c_ s σ H Q I h
 refine wpAny_Call_method_late MO Yx MP rfl (i7 (ho c_ s σ H _ I h) fun v s1 ⟨x,H1,I1,r1,ty,q1⟩=>?_)
 obtain⟨h1,h2⟩:=Lo I1 r1 ty
 refine⟨T,id,pa,slot,UG,h1,h2,?_⟩
 have hA:=ha lY c_ s1 σ H1 _ I1 q1
 rw[hs] at hA ⊢
 refine abo (by show(false||(backTo lY (starEach es X.env)).any (·.1))=false;rw[RI]<;>rfl) (abA ?_)
 exact i7 hA fun us s2 ⟨vs,H2,I2,r2,q2⟩=>hm c_ s2 σ H2 x vs v us Q I2 r1 r2 q2
end
def XM(X:Cx)(id:String)(r:V→List V→Hp→VK→Prop):Prop:=
 ∀(c_:Qqz)(s:Shared)(σ:St)(H:Hp)(x:V)(xs:List V)(v:Value)(us:List Value)(Q:VK),Inv X c_ σ H s→RelV x v→Vals xs us→r x xs H Q→
  wpAny (model X.prog X.w) X.A (call (.builtin id) (v::us)) (EP X c_ σ Q) X.xe s
theorem Vals.one:∀{x:V} {us:List Value},Vals [x] us→∃u,us=[u]∧RelV x u
 | _,_,.cons r .nil=>⟨_,rfl,r⟩
theorem Vals.zero:∀{us:List Value},Vals [] us→us=[]
 | _,.nil=>rfl
theorem Vals.dropLast{xs:List V}{us:List Value}(h:Vals xs us):Vals xs.dropLast us.dropLast:=by
 induction h with
 | nil=>exact .nil
 | cons r t ih=>
  cases t with
  | nil=>exact .nil
  | cons q t'=>exact .cons r ih
theorem Vals.rep{xs:List V}{us:List Value}(h:Vals xs us):∀k:Nat,Vals (List.replicate k xs).flatten (List.replicate k us).flatten
 | 0=>.nil
 | k+1=>by
  rw[abi,abi,ab6,ab6]
  exact Vals.append h (Vals.rep h k)
theorem HN{α:Type}(l:List α):l.eraseIdx (l.length-1)=l.dropLast:=by
 induction l with
 | nil=>rfl
 | cons a r ih=>
  cases r with
  | nil=>rfl
  | cons b r=>
   have e:(a::b::r).length-1=((b::r).length-1)+1:=by
    have h1:(a::b::r).length=r.length+2:=rfl
    have h2:(b::r).length=r.length+1:=rfl
    omega
   rw[e,List.eraseIdx_cons_succ,ih]
   all_goals rfl
theorem foldl_rep(ic:List Value):∀(k:Nat)(acc:List Value),
  List.foldl (fun x1 x2=>x1++x2) acc.toArray (List.replicate k ic.toArray)=(acc++(List.replicate k ic).flatten).toArray
 | 0,acc=>by simp
 | k+1,acc=>by
  have e:acc.toArray++ic.toArray=(acc++ic).toArray:=by simp
  have e2:(acc++ic)++(List.replicate k ic).flatten=acc++(List.replicate (k+1) ic).flatten:=by
   rw[abi,ab6,aaZ]
  rw[←e2,←foldl_rep ic k (acc++ic),←e,abi,List.foldl_cons]
section
variable{X:Cx}{c_:Qqz}{σ:St}{H:Hp}{s:Shared}{l b:Addr}{xs ys zs:List V}
theorem Inv.Qo{ic its':List Value}{n:Nat}{f:Array Value→Array Value}{t':Nat}(I:Inv X c_ σ H s)(hH:H l=some (.lst xs))
  (e:s.heap.get? l=some {cls:=.type "list",data:=.seq ic.toArray n}) (hf:f ic.toArray=its'.toArray) (hv:Vals ys its') (hz:ys.length≤sizeLine) :
  Inv X c_ σ (upd H l (.lst ys)) {s with heap:=s.heap.update l (Obj.mapSeq f),toks:=t'}:=by
 have q:=PySem.IsL.update e f
 rw[hf] at q
 refine I.write (x:=l) (e:=l) (by rw[hH];exact trivial) (.inl rfl) (fun b' u hb hu=>(abU s.heap (Obj.mapSeq f) (abT hb)).trans hu) ⟨_,q⟩ ?_
 exact⟨hz,its',_,hv,q⟩
theorem Inv.ND{ic:List Value}{t':Nat}(I:Inv X c_ σ H s)(hv:Vals ys ic)(hz:ys.length≤sizeLine) :
  Inv X c_ σ (upd H s.heap.objs.size (.lst ys)) {s with heap:=s.heap.push {cls:=.type "list",data:=.seq ic.toArray},toks:=t'}:=
 I.laid (fun _ _ q=>aao _ q) (aab _) ⟨hz,ic,0,hv,aaI _ rfl⟩
theorem Inv.fresh(I:Inv X c_ σ H s):H s.heap.objs.size=none:=I.iL.fresh (aab _)
theorem Inv.HP(I:Inv X c_ σ H s)(hH:H l=some (.lst xs)):xs.length≤sizeLine∧∃(ic:List Value)(n:Nat),Vals xs ic∧xs.length=ic.length∧s.heap.get? l=some {cls:=.type "list",data:=.seq ic.toArray n}:=by
 obtain⟨z,ic,n,r,e⟩:=I.iL l _ hH
 exact⟨z,ic,n,r,r.length,e⟩
theorem Gb{n:Nat}(h:n≤sizeLine):Builtin.List.listTooLong n=false:=by
 unfold Builtin.List.listTooLong
 exact aac (by omega)
end
section
variable{X:Cx}
def NF:V→List V→Hp→VK→Prop:=fun x vs H Q=>∃l xs y,x=.ref l∧vs=[y]∧H l=some (.lst xs)∧xs.length<sizeLine∧Q .js (upd H l (.lst (xs++[y])))
theorem lx:XM X "list.append" NF:=by
 intro c_ s σ H x vs v us Q I rx rv h
 obtain⟨l,xs,y,rfl,rfl,hH,hz,q⟩:=h
 cases rx
 obtain⟨u,rfl,ru⟩:=rv.one
 obtain⟨z,ic,n,r,hl,e⟩:=I.HP hH
 refine call_meets F.slot_list_append ⟨_,e,rfl⟩ F.entry_list_append (F.args_list_append_2 _ _) (PySem.list_append l ic.toArray n u (by rw[aar];omega)) ⟨e,?_⟩
 refine⟨.js,_,I.Qo (its':=ic++[u]) hH e (by simp) (r.append (.cons ru .nil)) ?_,rfl,q⟩
 rw[Y5,List.length_singleton]
 omega
def NG:V→List V→Hp→VK→Prop:=fun x vs H Q=>∃l b xs zs,x=.ref l∧vs=[.ref b]∧H l=some (.lst xs)∧H b=some (.lst zs)∧xs.length+zs.length≤sizeLine∧Q .js (upd H l (.lst (xs++zs)))
theorem Dx:XM X "list.extend" NG:=by
 intro c_ s σ H x vs v us Q I rx rv h
 obtain⟨l,b,xs,zs,rfl,rfl,hH,hB,hz,q⟩:=h
 cases rx
 obtain⟨u,rfl,ru⟩:=rv.one
 cases ru
 obtain⟨z,ic,n,r,hl,e⟩:=I.HP hH
 obtain⟨z2,nj,n2,r2,Hv,e2⟩:=I.HP hB
 have hsz:ic.toArray.size+nj.toArray.size≤sizeLine:=by rw[aar,aar];omega
 have MQ:¬(!ic.toArray.isEmpty&&Builtin.List.listTooLong (ic.toArray.size+nj.toArray.size))=true:=by
  rw[Gb hsz,Bool.and_false]
  exact aak
 refine call_meets F.slot_list_extend ⟨_,e,rfl⟩ F.entry_list_extend (F.args_list_extend_2 _ _)
  (AutoSeq1.list_extend_list_list_0 l ic.toArray n b nj.toArray n2 MQ (by rw[aar];omega) (by omega)) ⟨e,e2,?_⟩
 refine⟨.js,_,I.Qo (its':=ic++nj) hH e (by simp) (r.append r2) ?_,rfl,q⟩
 rw[Y5]
 omega
def XN:V→List V→Hp→VK→Prop:=fun x vs H Q=>∃l xs y,x=.ref l∧vs=[]∧H l=some (.lst xs)∧xs[xs.length-1]?=some y∧Q y (upd H l (.lst xs.dropLast))
theorem Qp:XM X "list.pop" XN:=by
 intro c_ s σ H x vs v us Q I rx rv h
 obtain⟨l,xs,y,rfl,rfl,hH,hy,q⟩:=h
 cases rx
 have hus:=rv.zero
 subst hus
 obtain⟨z,ic,n,r,hl,e⟩:=I.HP hH
 obtain⟨u,hu,ru⟩:=r.get hy
 have Ww:ic.toArray[ic.toArray.size-1]?=some u:=by
  show ic.toArray[ic.length-1]?=some u
  rw[←abe,←hl]
  exact hu
 refine call_meets F.slot_list_pop ⟨_,e,rfl⟩ F.entry_list_pop (F.args_list_pop_1 _) (MeetsSeq.list_pop_last l ic.toArray n u Ww (by rw[aar];omega)) ⟨e,?_⟩
 refine⟨y,_,I.Qo (its':=ic.dropLast) hH e ?_ r.dropLast ?_,ru,q⟩
 ·show ic.toArray.eraseIdxIfInBounds (ic.toArray.size-1)=ic.dropLast.toArray
  rw[aar,List.eraseIdxIfInBounds_toArray,HN]
 ·rw[List.length_dropLast]
  omega
def XO:R2:=fun x y H Q=>∃l b xs zs,x=.ref l∧y=.ref b∧H l=some (.lst xs)∧H b=some (.lst zs)∧xs.length+zs.length≤sizeLine∧∀p,H p=none→Q (.ref p) (upd H p (.lst (xs++zs)))
theorem lG:yt X (binaryOp .Add) XO:=by
 intro c_ s σ H x y v u Q I rx ry h
 obtain⟨l,b,xs,zs,rfl,rfl,hH,hB,hz,q⟩:=h
 cases rx
 cases ry
 obtain⟨z,ic,n,r,hl,e⟩:=I.HP hH
 obtain⟨z2,nj,n2,r2,Hv,e2⟩:=I.HP hB
 refine PySem.P.add_list e e2 ?_ (by rw[aar,aar];omega)
 have ea:ic.toArray++nj.toArray=(ic++nj).toArray:=by simp
 rw[ea]
 exact⟨.ref _,_,I.ND (t':=s.toks) (r.append r2) (by rw[Y5];omega),rfl,q _ I.fresh⟩
def XQ:R2:=fun x y H Q=>∃l k xs,x=.ref l∧y=.int k∧H l=some (.lst xs)∧-(2 ^ 63)≤k∧k<2 ^ 63∧xs.length*k.toNat≤sizeLine∧
 ∀p,H p=none→Q (.ref p) (upd H p (.lst (List.replicate k.toNat xs).flatten))
theorem len_rep{α:Type}(xs:List α)(k:Nat):(List.replicate k xs).flatten.length=k*xs.length:=by
 induction k with
 | zero=>simp
 | succ k ih=>rw[abi,ab6,Y5,ih,Nat.succ_mul,Nat.add_comm]
theorem HQ:yt X (binaryOp .Mult) XQ:=by
 intro c_ s σ H x y v u Q I rx ry h
 obtain⟨l,k,xs,rfl,rfl,hH,h1,h2,hz,q⟩:=h
 cases rx
 obtain⟨t,rfl⟩:=ry
 obtain⟨z,ic,n,r,hl,e⟩:=I.HP hH
 have hlen:ic.toArray.size*k.toNat≤sizeLine:=by rw[aar,←hl];exact hz
 have Yy:¬ic.toArray.size*k.toNat>(2 ^ 63-1)/8:=by
  have:(sizeLine:Nat)≤(2 ^ 63-1)/8:=by decide
  omega
 have Yz:¬(!Builtin.List.listFitsIndex k)=true:=by
  rw[fitsIndex_both h1 h2]
  exact aak
 have MQ:¬Builtin.List.listTooLong (ic.toArray.size*k.toNat)=true:=by
  rw[Gb hlen]
  exact aak
 have RJ:List.foldl (fun x1 x2=>x1++x2) #[] (List.replicate (if ic.toArray.isEmpty=true then 0 else k.toNat) ic.toArray)=(List.replicate k.toNat ic).flatten.toArray:=by
  have f0:∀m:Nat,List.foldl (fun x1 x2=>x1++x2) #[] (List.replicate m ic.toArray)=(List.replicate m ic).flatten.toArray:=fun m=>by
   have:=foldl_rep ic m []
   rw[List.nil_append] at this
   exact this
  rw[f0]
  cases ic with
  | nil=>simp
  | cons a r'=>rw[aau (by simp)]
 refine wpAny_binaryOp_repeat_ref (T:="list") (U:="int") (by decide) ⟨_,e,rfl⟩ (fun s'=>typeIs_int s' k t) noFill_list_mul F.fills_int_mul F.slot_int_rmul repeat_list F.slot_int_index.lookup
  (call_meets F.slot_int_rmul (typeIs_int s k t) F.entry_int_rmul (F.args_int_rmul_2 _ _) (int___rmul___int_list k t l ic.toArray n)
   ⟨e,rfl,⟨_,e,rfl⟩,call_meets F.slot_list_mul ⟨_,e,rfl⟩ F.entry_list_mul (F.args_list_mul_2 _ _) (AutoListH.list___mul___list_int_3 l ic.toArray n k t Yz Yy MQ) ⟨e,?_⟩⟩)
 rw[RJ]
 exact⟨.ref _,_,I.ND (t':=s.toks) (r.rep k.toNat) (by rw[len_rep,Nat.mul_comm];exact hz),rfl,q _ I.fresh⟩
end
section
variable{prog:Program}{w:World}{A:Around}{E:Qqq}{s:Shared}
end
section
variable{X:Cx}
end
section
variable{κ:Type}[DecidableEq κ]
def iV(kvs:List (κ×V))(k:κ):Option V:=(kvs.find? fun kv=>decide (kv.1=k)).map (·.2)
def putK(kvs:List (κ×V))(k:κ)(v:V):List (κ×V):=
 if(kvs.any fun kv=>decide (kv.1=k))=true then kvs.map (fun kv=>if kv.1=k then(kv.1,v) else kv) else kvs++[(k,v)]
def kC(kvs:List (κ×V))(k:κ):List (κ×V):=kvs.filter fun kv=>decide (kv.1≠k)
theorem jv{p:κ×V}{r:List (κ×V)}{k:κ}(e:p.1=k):iV (p::r) k=some p.2:=by simp[iV,aci,e]
theorem jr{p:κ×V}{r:List (κ×V)}{k:κ}(e:¬p.1=k):iV (p::r) k=iV r k:=by simp[iV,aci,e]
theorem tL(k:κ):∀kvs:List (κ×V),(kvs.any fun kv=>decide (kv.1=k))=(iV kvs k).isSome
 | []=>rfl
 | p::r=>by
  rw[List.any_cons]
  by_cases e:p.1=k
  ·simp only [jv e,XZ e,Bool.true_or,Option.isSome_some]
  ·rw[jr e,aac e,Bool.false_or];exact tL k r
theorem Gd(k j:κ)(y:V):∀kvs:List (κ×V),iV (kvs.map fun kv=>if kv.1=k then(kv.1,y) else kv) j=(iV kvs j).map fun x=>if j=k then y else x
 | []=>rfl
 | p::r=>by
  have ih:=Gd k j y r
  rw[aaB]
  by_cases h:p.1=k
  ·rw[aax h]
   by_cases e:p.1=j
   ·rw[jv (p:=(p.1,y)) e,jv e,acj,aax (e.symm.trans h)]
   ·rw[jr (p:=(p.1,y)) e,jr e,ih]
  ·rw[aau h]
   by_cases e:p.1=j
   ·rw[jv (p:=p) e,jv e,acj,aau (fun z=>h (e.trans z))]
   ·rw[jr (p:=p) e,jr e,ih]
theorem Dy(k j:κ)(y:V):∀kvs:List (κ×V),iV kvs k=none→iV (kvs++[(k,y)]) j=if j=k then some y else iV kvs j
 | [],_=>by
  by_cases e:k=j
  ·rw[aax e.symm];exact jv (p:=(k,y)) e
  ·rw[aau (fun z=>e z.symm)];exact jr (p:=(k,y)) e
 | p::r,hn=>by
  rw[List.cons_append]
  have hk:¬p.1=k:=fun z=>by rw[jv z] at hn;cases hn
  rw[jr hk] at hn
  have ih:=Dy k j y r hn
  by_cases e:p.1=j
  ·rw[jv e,jv e,aau (fun z=>hk (e.trans z))]
  ·rw[jr e,jr e,ih]
theorem j0(kvs:List (κ×V))(k j:κ)(y:V):iV (putK kvs k y) j=if j=k then some y else iV kvs j:=by
 unfold putK
 by_cases a:(kvs.any fun kv=>decide (kv.1=k))=true
 ·rw[aax a,Gd]
  rw[tL] at a
  by_cases e:j=k
  ·obtain⟨x,hx⟩:=Option.isSome_iff_exists.mp a
   rw[aax e,e,hx,acj,aax rfl]
  ·rw[aau e]
   cases iV kvs j with
   | none=>rfl
   | some x=>rw[acj,aau e]
 ·rw[aau a]
  refine Dy k j y kvs ?_
  rw[tL] at a
  cases q:iV kvs k with
  | none=>rfl
  | some x=>rw[q] at a;exact(a rfl).elim
theorem jL(kvs:List (κ×V))(k:κ)(v:V):(putK kvs k v).length≤kvs.length+1:=by
 unfold putK
 split
 ·rw[U8];omega
 ·rw[Y5,aal,List.length_nil];omega
theorem Ge{kvs:List (κ×V)}{k:κ}(v:V)(h:iV kvs k=none):putK kvs k v=kvs++[(k,v)]:=by
 unfold putK
 rw[tL,h]
 exact aau (by decide)
theorem qE.qI{o:Option V}{u:Option Value}(r:qE o u):o.isSome=u.isSome:=by
 cases o with
 | none=>cases u with
  | none=>rfl
  | some _=>exact(show False from r).elim
 | some _=>cases u with
  | none=>exact(show False from r).elim
  | some _=>rfl
theorem qE.getD{o:Option V}{u:Option Value}{d:V}{d':Value}(r:qE o u)(rd:RelV d d'):RelV (o.getD d) (u.getD d'):=by
 cases o with
 | none=>cases u with
  | none=>exact rd
  | some _=>exact(show False from r).elim
 | some _=>cases u with
  | none=>exact(show False from r).elim
  | some _=>exact r
theorem KV.val{kvs:List (κ×V)}{vs:List (κ×Value)}(r:KV kvs vs)(k:κ):qE (iV kvs k) (valueAt vs k):=by
 unfold KV at r
 induction r with
 | nil=>exact True.intro
 | @cons p q ps qs h t ih=>
  obtain⟨h1,h2⟩:=h
  by_cases e:p.1=k
  ·have e':q.1=k:=h1.symm.trans e
   have b:valueAt (q::qs) k=some q.2:=by simp[valueAt,aci,e']
   rw[jv e,b];exact h2
  ·have e':¬q.1=k:=fun z=>e (h1.trans z)
   have b:valueAt (q::qs) k=valueAt qs k:=by simp[valueAt,aci,e']
   rw[jr e,b];exact ih
theorem KV.any{kvs:List (κ×V)}{vs:List (κ×Value)}(r:KV kvs vs)(k:κ):(kvs.any fun kv=>decide (kv.1=k))=vs.any fun kv=>decide (kv.1=k):=by
 unfold KV at r
 induction r with
 | nil=>rfl
 | cons h t ih=>rw[List.any_cons,List.any_cons,ih,h.1]
theorem KV.Qq{kvs:List (κ×V)}{vs:List (κ×Value)}(r:KV kvs vs)(k:κ){y:V}{u:Value}(ry:RelV y u) :
  KV (kvs.map fun kv=>if kv.1=k then(kv.1,y) else kv) (vs.map fun kv=>if kv.1=k then(kv.1,u) else kv):=by
 unfold KV at r ⊢
 induction r with
 | nil=>exact .nil
 | @cons p q ps qs h t ih=>
  rw[aaB,aaB]
  refine .cons ?_ ih
  obtain⟨h1,h2⟩:=h
  by_cases e:p.1=k
  ·rw[aax e,aax (h1.symm.trans e)];exact⟨h1,ry⟩
  ·rw[aau e,aau (fun z=>e (h1.trans z))];exact⟨h1,h2⟩
theorem KV.put{kvs:List (κ×V)}{vs:List (κ×Value)}(r:KV kvs vs)(k:κ){y:V}{u:Value}(ry:RelV y u):KV (putK kvs k y) (stored vs k u):=by
 unfold putK stored
 rw[r.any k]
 by_cases e:(vs.any fun kv=>decide (kv.1=k))=true
 ·rw[aax e,aax e];exact r.Qq k ry
 ·rw[aau e,aau e];exact Paired.snoc r ⟨rfl,ry⟩
theorem KV.drop{kvs:List (κ×V)}{vs:List (κ×Value)}(r:KV kvs vs)(k:κ):KV (kC kvs k) (without vs k):=by
 unfold KV at r ⊢
 unfold kC without
 induction r with
 | nil=>exact .nil
 | @cons p q ps qs h t ih=>
  obtain⟨h1,h2⟩:=h
  rw[List.filter_cons,List.filter_cons]
  by_cases e:p.1=k
  ·have a:¬decide (p.1≠k)=true:=by simp[e]
   have b:¬decide (q.1≠k)=true:=by simp[h1.symm.trans e]
   rw[aau a,aau b];exact ih
  ·have e':¬q.1=k:=fun z=>e (h1.trans z)
   have a:decide (p.1≠k)=true:=by simp[e]
   have b:decide (q.1≠k)=true:=by simp[e']
   rw[aax a,aax b];exact .cons ⟨h1,h2⟩ ih
theorem KV.length{kvs:List (κ×V)}{vs:List (κ×Value)}(r:KV kvs vs):kvs.length=vs.length:=aav r
theorem Gf(kvs:List (κ×V))(k:κ):(kC kvs k).length≤kvs.length:=aaH _ _
end
theorem A9{P:Program}{w:World}{k:Key}{u:Value}(r:RelV (kV k) u):(jl P w).is k u=true:=by
 cases k with
 | inl i=>obtain⟨t,e⟩:=(show ∃t,u=Value.int i t from r);subst e;exact FK P w i t
 | inr x=>obtain⟨t,e⟩:=(show ∃t,u=Value.str x t from r);subst e;exact FL P w x t
theorem Dz{P:Program}{w:World}:∀{ks:List Key} {us:List Value},Vals (ks.map kV) us→ItemsAre (jl P w) ks us
 | [],_,r=>by rw[List.map_nil] at r;cases r;exact .nil
 | k::ks,_,r=>by
  rw[aaB] at r
  cases r with
  | cons h t=>exact .cons (A9 h) (Dz t)
abbrev KT(H:Hp):List (List Key×V)→List (List Key×Addr×Value)→Prop:=Paired fun p q=>p.1=q.1∧H q.2.1=some (.tup (p.1.map kV))∧RelV p.2 q.2.2
theorem KT.val{H:Hp}{kvs:List (List Key×V)}{xs:List (List Key×Addr×Value)}(r:KT H kvs xs)(k:List Key):qE (iV kvs k) ((atKey xs k).map (·.2)):=by
 induction r with
 | nil=>exact True.intro
 | @cons p q ps qs h t ih=>
  obtain⟨h1,_,h2⟩:=h
  by_cases e:p.1=k
  ·have e':q.1=k:=h1.symm.trans e
   have b:atKey (q::qs) k=some q.2:=by simp[atKey,aci,e']
   rw[jv e,b];exact h2
  ·have e':¬q.1=k:=fun z=>e (h1.trans z)
   have b:atKey (q::qs) k=atKey qs k:=by simp[atKey,aci,e']
   rw[jr e,b];exact ih
theorem KT.Qq{H:Hp}{kvs:List (List Key×V)}{xs:List (List Key×Addr×Value)}(r:KT H kvs xs)(k:List Key){y:V}{u:Value}(ry:RelV y u) :
  KT H (kvs.map fun kv=>if kv.1=k then(kv.1,y) else kv) (xs.map (putAt k u)):=by
 induction r with
 | nil=>exact .nil
 | @cons p q ps qs h t ih=>
  rw[aaB,aaB]
  refine .cons ?_ ih
  obtain⟨h1,h2,h3⟩:=h
  unfold putAt
  by_cases e:p.1=k
  ·rw[aax e,aax (h1.symm.trans e)];exact⟨h1,h2,ry⟩
  ·rw[aau e,aau (fun z=>e (h1.trans z))];exact⟨h1,h2,h3⟩
theorem KT.put{H:Hp}{kvs:List (List Key×V)}{xs:List (List Key×Addr×Value)}(r:KT H kvs xs)(k:List Key){b:Addr}{y:V}{u:Value}(hb:H b=some (.tup (k.map kV)))(ry:RelV y u) :
  KT H (putK kvs k y) (storedH xs k b u):=by
 have e:(kvs.any fun kv=>decide (kv.1=k))=(atKey xs k).isSome:=by
  rw[tL,(r.val k).qI,Option.isSome_map]
 unfold putK storedH
 rw[e]
 by_cases q:(atKey xs k).isSome=true
 ·rw[aax q,aax q];exact r.Qq k ry
 ·rw[aau q,aau q];exact Paired.snoc r ⟨rfl,hb,ry⟩
theorem KT.keeps{H H':Hp}{kvs:List (List Key×V)}{xs:List (List Key×Addr×Value)}(r:KT H kvs xs)(ht:∀b ys,H b=some (.tup ys)→H' b=some (.tup ys)):KT H' kvs xs:=
 Paired.lA r fun _ _ z=>⟨z.1,ht _ _ z.2.1,z.2.2⟩
section
variable{P:Program}{w:World}{H:Hp}{h:Heap}{a:Addr}
theorem Pb{u:HO}(ok:rl P w H h)(e:Rd H a u):i4 P w H h a u:=e.ok ok
theorem zr{kvs:List (Key×V)}(ok:rl P w H h)(e:Rd H a (.dK kvs)):kvs.length≤sizeLine∧(a ==sysModules)=false∧∃vs,KV kvs vs∧h.DictOf (jl P w) a vs:=
 show i4 P w H h a (.dK kvs) from Pb ok e
theorem Lp{kvs:List (Key×V)}(ok:rl P w H h)(e:H a=some (.dK kvs)):kvs.length≤sizeLine∧(a ==sysModules)=false∧∃vs,KV kvs vs∧h.DictOf (jl P w) a vs:=zr ok (.inl e)
theorem vX{ks:List Key}(ok:rl P w H h)(e:H a=some (.tup (ks.map kV))):(tupleKind (jl P w)).is h ks a:=by
 obtain⟨_,ic,r,o,h1,h2,n,h3⟩:=(show i4 P w H h a (.tup (ks.map kV)) from ok a _ e)
 exact⟨o,ic.toArray,n,h1,h2,h3,by simpa using Dz r⟩
theorem zt{kvs:List (List Key×V)}(ok:rl P w H h)(e:Rd H a (.dT kvs)):kvs.length≤sizeLine∧(a ==sysModules)=false∧
  ∃xs,KT H kvs xs∧h.DictOfH (tupleKind (jl P w)) a xs:=by
 obtain⟨z,y,xs,r,o,es,ep,h1,h2,h3,h4,h5⟩:=(show i4 P w H h a (.dT kvs) from Pb ok e)
 refine⟨z,y,xs,r,o,es,ep,h1,h2,h3,h4,fun x hx=>?_,h5⟩
 have all:∀{l:List (List Key×V)} {m:List (List Key×Addr×Value)},KT H l m→∀x∈m,(tupleKind (jl P w)).is h x.1 x.2.1:=by
  intro l m q
  induction q with
  | nil=>intro x hx;exact nomatch hx
  | @cons p q ps qs hq t ih=>
   intro x hx
   rcases aag.mp hx with e|hx
   ·subst e
    exact vX ok (by rw[←hq.1];exact hq.2.1)
   ·exact ih x hx
 exact all r x hx
theorem Lq{kvs:List (List Key×V)}(ok:rl P w H h)(e:H a=some (.dT kvs)):kvs.length≤sizeLine∧(a ==sysModules)=false∧
 ∃xs,KT H kvs xs∧h.DictOfH (tupleKind (jl P w)) a xs:=zt ok (.inl e)
end
def iY(H:Hp)(a:Addr)(y:V)(r:Option V):Prop:=
 (∃kvs k,Rd H a (.dK kvs)∧y=kV k∧r=iV kvs k)∨∃kvs k b,Rd H a (.dT kvs)∧y=.ref b∧H b=some (.tup (k.map kV))∧r=iV kvs k
def nJ(H:Hp)(a:Addr)(y v:V)(H':Hp):Prop:=
 (∃kvs k,H a=some (.dK kvs)∧y=kV k∧kvs.length<sizeLine∧H'=upd H a (.dK (putK kvs k v)))∨
 ∃kvs k b,H a=some (.dT kvs)∧y=.ref b∧H b=some (.tup (k.map kV))∧kvs.length<sizeLine∧H'=upd H a (.dT (putK kvs k v))
theorem iY.k{H:Hp}{a:Addr}{kvs:List (Key×V)}{k:Key}(e:H a=some (.dK kvs)):iY H a (kV k) (iV kvs k):=.inl ⟨kvs,k,.inl e,rfl,rfl⟩
theorem iY.t{H:Hp}{a b:Addr}{kvs:List (List Key×V)}{k:List Key}(e:H a=some (.dT kvs))(eb:H b=some (.tup (k.map kV))):iY H a (.ref b) (iV kvs k):=.inr ⟨kvs,k,b,.inl e,rfl,eb,rfl⟩
theorem nJ.k{H:Hp}{a:Addr}{kvs:List (Key×V)}{k:Key}{v:V}(e:H a=some (.dK kvs))(hl:kvs.length<sizeLine):nJ H a (kV k) v (upd H a (.dK (putK kvs k v))):=.inl ⟨kvs,k,e,rfl,hl,rfl⟩
theorem nJ.t{H:Hp}{a b:Addr}{kvs:List (List Key×V)}{k:List Key}{v:V}(e:H a=some (.dT kvs))(eb:H b=some (.tup (k.map kV)))(hl:kvs.length<sizeLine) :
 nJ H a (.ref b) v (upd H a (.dT (putK kvs k v))):=.inr ⟨kvs,k,b,e,rfl,eb,hl,rfl⟩
section
variable{X:Cx}{c_:Qqz}{σ:St}{H:Hp}{s:Shared}{a:Addr}{y v:V}{u r:Value}{o:Option V}{A:Around}{E:Qqq}
theorem Inv.big(I:Inv X c_ σ H s):sysModules<s.heap.objs.size:=by
 have h:mainGlobals<s.heap.objs.size:=(I.mod.glob.keeps I.bk).lt
 exact Nat.lt_trans (by decide) h
theorem JY{Q:Qqq}(hu:A.units+1<cLine)(I:Inv X c_ σ H s)(g:iY H a y (some v))(ry:RelV y u)(h:∀w' s',Inv X c_ σ H s'→RelV v w'→Q w' s') :
  wpAny (model X.prog X.w) A (getItem (.ref a) u) Q E s:=by
 rcases g with⟨kvs,k,e,ey,l⟩|⟨kvs,k,b,e,ey,eb,l⟩
 ·subst ey
  obtain⟨z,hd,vs,rel,dd⟩:=zr I.iL e
  obtain⟨w',hw,Dc⟩:=qE.some_of (v:=v) (o:=valueAt vs k) (by rw[l];exact rel.val k)
  exact wpAny_getItem_of (A9 ry) dd.mapOf hw (h w' _ (I.tok _) Dc)
 ·subst ey
  cases (show u=Value.ref b from ry)
  obtain⟨z,hd,xs,rel,dd⟩:=zt I.iL e
  obtain⟨w',hw,Dc⟩:=qE.some_of (v:=v) (o:=(atKey xs k).map (·.2)) (by rw[l];exact rel.val k)
  obtain⟨p,hp,AX⟩:=aaL.mp hw
  refine wpAny_getItem_heap (abI hu) (vX I.iL eb) dd hp ?_
  rw[AX]
  exact h w' _ (I.tok _) Dc
theorem XR{Q:Qqq}(hu:A.units+1<cLine)(I:Inv X c_ σ H s)(g:iY H a y o)(ry:RelV y u)(h:∀s',Inv X c_ σ H s'→Q (.bool o.isSome) s') :
  wpAny (model X.prog X.w) A (compareOp .In u (.ref a)) Q E s:=by
 rcases g with⟨kvs,k,e,ey,l⟩|⟨kvs,k,b,e,ey,eb,l⟩
 ·subst ey
  obtain⟨z,hd,vs,rel,dd⟩:=zr I.iL e
  refine wpAny_in_of (A9 ry) hd dd.mapOf ?_
  rw[←(rel.val k).qI,←l]
  exact h _ (I.tok _)
 ·subst ey
  cases (show u=Value.ref b from ry)
  obtain⟨z,hd,xs,rel,dd⟩:=zt I.iL e
  refine wpAny_in_heap (abI hu) (vX I.iL eb) hd dd ?_
  have q:=(rel.val k).qI
  rw[Option.isSome_map] at q
  rw[←q,←l]
  exact h _ (I.tok _)
theorem NH{Q:Qqq}(hu:A.units+1<cLine)(I:Inv X c_ σ H s)(g:iY H a y o)(ry:RelV y u)(h:∀s',Inv X c_ σ H s'→Q (.bool (!o.isSome)) s') :
  wpAny (model X.prog X.w) A (compareOp .NotIn u (.ref a)) Q E s:=by
 rcases g with⟨kvs,k,e,ey,l⟩|⟨kvs,k,b,e,ey,eb,l⟩
 ·subst ey
  obtain⟨z,hd,vs,rel,dd⟩:=zr I.iL e
  refine wpAny_notIn_of (A9 ry) hd dd.mapOf ?_
  rw[←(rel.val k).qI,←l]
  exact h _ (I.tok _)
 ·subst ey
  cases (show u=Value.ref b from ry)
  obtain⟨z,hd,xs,rel,dd⟩:=zt I.iL e
  refine wpAny_notIn_heap (abI hu) (vX I.iL eb) hd dd ?_
  have q:=(rel.val k).qI
  rw[Option.isSome_map] at q
  rw[←q,←l]
  exact h _ (I.tok _)
theorem uW{h':Heap}{t':Nat}{ob:HO}(I:Inv X c_ σ H s)(mu:O4 (H a))(hs:Heap.SameBut a s.heap h')(he:∃q,h'.get? a=some q)(new:i4 X.prog X.w (upd H a ob) h' a ob) :
  Inv X c_ σ (upd H a ob) {s with heap:=h',toks:=t'}:=
 I.write (x:=a) (e:=a) mu (.inl rfl) (fun b q hb z=>(hs.2 b hb).trans z) he new
theorem HR{P:Program}{w:World}{H':Hp}{h':Heap}{kvs:List (Key×V)}{vs:List (Key×Value)}(z:kvs.length≤sizeLine)(hd:(a ==sysModules)=false)(rel:KV kvs vs)(dd:h'.DictOf (jl P w) a vs) :
 i4 P w H' h' a (.dK kvs):=⟨z,hd,vs,rel,dd⟩
theorem JZ{H':Hp}{Q:Unit→Shared→Prop}(hu:A.units+1<cLine)(I:Inv X c_ σ H s)(g:nJ H a y v H')(ry:RelV y u)(rv:RelV v r)(h:∀s',Inv X c_ σ H' s'→Q () s') :
  wpAny (model X.prog X.w) A (setItem (.ref a) u r) Q E s:=by
 rcases g with⟨kvs,k,e,ey,l,eH⟩|⟨kvs,k,b,e,ey,eb,l,eH⟩
 ·subst ey eH
  obtain⟨z,hd,vs,rel,dd⟩:=Lp I.iL e
  have hz:vs.length≤sizeLine:=by rw[←rel.length];exact z
  have hl:(putK kvs k v).length≤sizeLine:=by have:=jL kvs k v;omega
  refine wpAny_setItem_pairs (hsz:=hz) (A9 ry) dd fun h' Nh hs=>h _ ?_
  have he:∃q,h'.get? a=some q:=let ⟨q,_,_,hq,_⟩:=Nh;⟨q,hq⟩
  exact uW I (by rw[e];exact True.intro) hs he (HR hl hd (rel.put k rv) Nh)
 ·subst ey eH
  cases (show u=Value.ref b from ry)
  obtain⟨z,hd,xs,rel,dd⟩:=Lq I.iL e
  have hz:xs.length≤sizeLine:=by rw[←aav rel];exact z
  have hl:(putK kvs k v).length≤sizeLine:=by have:=jL kvs k v;omega
  refine wpAny_setItem_heap (hsz:=hz) (abI hu) (vX I.iL eb) dd fun h' Nh hs=>h _ ?_
  obtain⟨q,es,ep,hq,h2,h3,h4,_,h5⟩:=Nh
  refine uW I (by rw[e];exact True.intro) hs ⟨q,hq⟩ ⟨hl,hd,_,(rel.put k eb rv).keeps fun c ys ec=>?_,q,es,ep,hq,h2,h3,h4,h5⟩
  rw[e_ (jd ec e (fun z=>nomatch z))]
  exact ec
end
section
variable{X:Cx}{c_:Qqz}{σ:St}{H:Hp}{s:Shared}{a:Addr}{kvs:List (Key×V)}{k:Key}{u:Value}{A:Around}{E:Qqq}
theorem TF{v:V}{more:List Value}{Q:Qqq}(I:Inv X c_ σ H s)(e:H a=some (.dK kvs))(ry:RelV (kV k) u)(l:iV kvs k=some v)(hm:more=[]∨∃x,more=[x])
  (h:∀w' s',Inv X c_ σ (upd H a (.dK (kC kvs k))) s'→RelV v w'→Q w' s'):wpAny (model X.prog X.w) A (call (.builtin "dict.pop") (.ref a::u::more)) Q E s:=by
 obtain⟨z,hd,vs,rel,dd⟩:=Lp I.iL e
 obtain⟨w',hw,Dc⟩:=qE.some_of (v:=v) (o:=valueAt vs k) (by rw[←l];exact rel.val k)
 have hp:(keyPart u).isSome=true:=by
  cases k with
  | inl i=>obtain⟨t,q⟩:=(show ∃t,u=Value.int i t from ry);subst q;rfl
  | inr x=>obtain⟨t,q⟩:=(show ∃t,u=Value.str x t from ry);subst q;rfl
 have ha:argsOk "dict.pop" ⟨.ref a::u::more,[]⟩:=by
  rcases hm with q|⟨x,q⟩
  ·subst q;exact PySem.F.args_dict_pop_2 _ _
  ·subst q;exact PySem.F.args_dict_pop_3 _ _ _
 refine call_meetsIn ack dd.typeIs PySem.F.entry_dict_pop ha (meets_dict_pop_there (jl X.prog X.w) a (A9 ry) more hm hp)
  ⟨vs,w',dd,by rw[←rel.length];exact z,hw,fun h' Nh hs=>h w' _ ?_ Dc⟩
 have he:∃q,h'.get? a=some q:=let ⟨q,_,_,hq,_⟩:=Nh;⟨q,hq⟩
 exact uW I (by rw[e];exact True.intro) hs he (HR (aah (Gf kvs k) z) hd (rel.drop k) Nh)
end
def Qr(i:Expr):Prop:=∀ov iv,subscripted i false ov iv=operate [ov,iv] (getItem ov iv)
theorem NI{prog:Program}{w:World}{A:Around}{E:Qqq}{s:Shared}{env:Env}{value slice:Expr}{pos:Pos}{T id:String}{Q:Qqq}
  (hl:typeLookup (.type T) "__getitem__"=pure (some (.builtin id))) (hs:Qr slice)
  (h:wpAny (model prog w) A (eval value env) (fun o s₁=>wpAny (model prog w) A (eval slice env) (fun i s₂=>s₂.TypeIs o T∧wpAny (model prog w) A (getItem o i) Q E s₂) E s₁) E s) :
  wpAny (model prog w) A (eval (.Subscript value slice pos) env) Q E s:=by
 refine Subscript_ (abv h (fun o s₁ h₁=>abv h₁ (fun i s₂ h₂=>?_) fun _ _ x=>x) fun _ _ x=>x)
 obtain⟨hT,h₂⟩:=h₂
 unfold subscriptTail
 refine XX ?_
 rw[getitemInPython_of_ne hT.not_modules]
 refine XX (acm hT hl ?_)
 have fin:wpAny (model prog w) A (subscripted slice false o i) (fun r s₃=>wpAny (model prog w) A (letTemporaryGo value o r >>= fun _=>pure r) Q E s₃) E s₂:=by
  rw[hs o i]
  exact wpAny_operating (abv h₂ (fun r s₃ h₃=>XX (wpAny_letTemporaryGo (aas h₃))) fun _ _ x=>x)
 first
  | exact aas (XX fin)
  | exact XX (aas (XX fin))
  | exact XX fin
theorem Gg{X:Cx}{c_:Qqz}{σ:St}{H:Hp}{s:Shared}{a:Addr}{y:V}{o:Option V}(I:Inv X c_ σ H s)(g:iY H a y o):s.TypeIs (.ref a) "dict":=by
 rcases g with⟨kvs,k,e,_,_⟩|⟨kvs,k,b,e,_,_,_⟩
 ·obtain⟨_,_,vs,_,dd⟩:=zr I.iL e
  exact dd.typeIs
 ·obtain⟨_,_,xs,_,dd⟩:=zt I.iL e
  exact dd.typeIs
def Pc(td ty:TE):TE:=fun σ H Q=>td σ H fun x H1=>ty σ H1 fun y H2=>∃a v,x=.ref a∧iY H2 a y (some v)∧Q v H2
def XS(ty td:TE):TE:=fun σ H Q=>ty σ H fun y H1=>td σ H1 fun x H2=>∃a o,x=.ref a∧iY H2 a y o∧Q (.bl o.isSome) H2
def NJ(ty td:TE):TE:=fun σ H Q=>ty σ H fun y H1=>td σ H1 fun x H2=>∃a o,x=.ref a∧iY H2 a y o∧Q (.bl (!o.isSome)) H2
def TH(td ty tv:TE):TS:=fun D σ H=>tv σ H fun v H1=>td σ H1 fun x H2=>ty σ H2 fun y H3=>∃a H4,x=.ref a∧nJ H3 a y v H4∧D.nx σ H4
section
variable{X:Cx}{o i e value:Expr}{pos pos' RH:Pos}{td ty tv:TE}
theorem NK(hu:X.A.units+1<cLine)(ho:PE X o td)(hi:PE X i ty)(hs:Qr i):PE X (.Subscript o i pos) (Pc td ty):=by
 intro c_ s σ H Q I h
 refine NI PySem.F.slot_dict_getitem.lookup hs (i7 (ho c_ s σ H _ I h) fun u s1 ⟨x,H1,I1,rx,q1⟩=>i7 (hi c_ s1 σ H1 _ I1 q1) fun iv s2 ⟨y,H2,I2,ry,a,v,ex,g,q2⟩=>?_)
 subst ex
 obtain rfl:u=Value.ref a:=rx
 exact⟨Gg I2 g,JY hu I2 g ry fun w' s3 I3 Dc=>⟨v,H2,I3,Dc,q2⟩⟩
theorem qp(hu:X.A.units+1<cLine)(hi:PE X i ty)(ho:PE X o td):PC X .In i o (XS ty td):=by
 intro c_ s σ H Q I h
 refine i7 (hi c_ s σ H _ I h) fun iv s1 ⟨y,H1,I1,ry,q1⟩=>i7 (ho c_ s1 σ H1 _ I1 q1) fun u s2 ⟨x,H2,I2,rx,a,ov,ex,g,q2⟩=>?_
 subst ex
 obtain rfl:u=Value.ref a:=rx
 exact XR hu I2 g ry fun s3 I3=>⟨.bl ov.isSome,H2,I3,rfl,q2⟩
theorem kD(hu:X.A.units+1<cLine)(hi:PE X i ty)(ho:PE X o td):PC X .NotIn i o (NJ ty td):=by
 intro c_ s σ H Q I h
 refine i7 (hi c_ s σ H _ I h) fun iv s1 ⟨y,H1,I1,ry,q1⟩=>i7 (ho c_ s1 σ H1 _ I1 q1) fun u s2 ⟨x,H2,I2,rx,a,ov,ex,g,q2⟩=>?_
 subst ex
 obtain rfl:u=Value.ref a:=rx
 exact NH hu I2 g ry fun s3 I3=>⟨.bl (!ov.isSome),H2,I3,rfl,q2⟩
theorem jm(hu:X.A.units+1<cLine)(ho:PE X o td)(hi:PE X i ty)(hv:PE X value tv)(hs:swapsWith value (some (.Subscript o i pos')) pos.line X.env=pure false) :
  PS X (.Assign [.Subscript o i pos'] value pos) (TH td ty tv):=by
 intro c_ s σ H D I h
 refine wpAny_Assign_Subscript (i7 (hv c_ s σ H _ I h) fun r s1 ⟨v,H1,I1,rv,q1⟩=>i7 (ho c_ s1 σ H1 _ I1 q1) fun u s2 ⟨x,H2,I2,rx,q2⟩=>i7 (hi c_ s2 σ H2 _ I2 q2) fun iv s3 ⟨y,H3,I3,ry,a,H4,ex,g,q3⟩=>?_) hs
 subst ex
 obtain rfl:u=Value.ref a:=rx
 exact JZ hu I3 g ry rv fun s4 I4=>⟨σ,H4,I4,q3⟩
end
theorem Lr{P:Program}{w:World}{H:Hp}(h:Heap)(hb:sysModules<h.objs.size):i4 P w H (h.push {cls:=.type "dict",data:=.dict #[]}) h.objs.size (.dK []):=
 ⟨aaU _,abS.mpr (abT (aa1 hb)),[],.nil,Heap.DictOf.new h⟩
theorem Ls{P:Program}{w:World}{H:Hp}(h:Heap)(hb:sysModules<h.objs.size):i4 P w H (h.push {cls:=.type "dict",data:=.dict #[]}) h.objs.size (.dT []):=
 ⟨aaU _,abS.mpr (abT (aa1 hb)),[],.nil,_,#[],0,aaI _ rfl,⟨rfl,rfl,rfl⟩,rfl,rfl,abr⟩
def Qs:TE:=fun _ H Q=>∀p,H p=none→Q (.ref p) (upd H p (.dK []))
def Qt:TE:=fun _ H Q=>∀p,H p=none→Q (.ref p) (upd H p (.dT []))
section
variable{X:Cx}{pos:Pos}
theorem oh:PE X (.Dict [] [] pos) Qs:=fun c_ s σ H Q I h=>
 wpAny_Dict_empty ⟨.ref s.heap.objs.size,_,I.laid (a:=s.heap.objs.size) (o:=.dK []) (t':=s.toks) (fun _ _ q=>aao _ q) (aab _) (Lr s.heap I.big),rfl,h _ (I.iL.fresh (aab _))⟩
theorem oj:PE X (.Dict [] [] pos) Qt:=fun c_ s σ H Q I h=>
 wpAny_Dict_empty ⟨.ref s.heap.objs.size,_,I.laid (a:=s.heap.objs.size) (o:=.dT []) (t':=s.toks) (fun _ _ q=>aao _ q) (aab _) (Ls s.heap I.big),rfl,h _ (I.iL.fresh (aab _))⟩
end
structure M1(X:Cx)(o:Expr)(m:Str)(apos:Pos)(e:Expr)(lY:Pos):Prop where
 base:attributeBase o m X.env (eval o X.env)=eval o X.env
 jc:((backTo lY (starEach [e] X.env)).all (fun x=>!x.1)&&(backToKw lY (keywordEach [] X.env)).all (fun x=>x.1.isSome)
  &&decide (([e]:List Expr).length+([]:List Keyword).length+(if([]:List Keyword).isEmpty then 0 else 1)<30))=true
 line:(apos.endLine ==lY.line)=true
 trees:backTo lY (starEach [e] X.env)=[(false,eval e X.env)]
structure M2(X:Cx)(o:Expr)(m:Str)(apos:Pos)(e f:Expr)(lY:Pos):Prop where
 base:attributeBase o m X.env (eval o X.env)=eval o X.env
 jc:((backTo lY (starEach [e,f] X.env)).all (fun x=>!x.1)&&(backToKw lY (keywordEach [] X.env)).all (fun x=>x.1.isSome)
  &&decide (([e,f]:List Expr).length+([]:List Keyword).length+(if([]:List Keyword).isEmpty then 0 else 1)<30))=true
 line:(apos.endLine ==lY.line)=true
 trees:backTo lY (starEach [e,f] X.env)=[(false,eval e X.env),(false,eval f X.env)]
def Ss(H:Hp)(a:Addr):Prop:=(∃kvs,Rd H a (.dK kvs))∨∃kvs,Rd H a (.dT kvs)
theorem A_{X:Cx}{c_:Qqz}{σ:St}{H:Hp}{s:Shared}{a:Addr}(I:Inv X c_ σ H s)(d:Ss H a) :
  s.TypeIs (.ref a) "dict"∧(∀b,Value.ref a=.ref b→∃ob,s.heap.get? b=some ob∧ob.dict=none)∧(a ==sysModules)=false:=by
 rcases d with⟨kvs,e⟩|⟨kvs,e⟩
 ·obtain⟨_,hd,vs,_,dd⟩:=zr I.iL e
  refine⟨dd.typeIs,fun b q=>?_,hd⟩
  cases q
  obtain⟨ob,_,_,h1,h2,_⟩:=dd
  exact⟨ob,h1,h2.2.1⟩
 ·obtain⟨_,hd,xs,_,dd⟩:=zt I.iL e
  refine⟨dd.typeIs,fun b q=>?_,hd⟩
  cases q
  obtain⟨ob,_,_,h1,h2,_⟩:=dd
  exact⟨ob,h1,h2.2.1⟩
section
variable{X:Cx}{c_:Qqz}{σ:St}{H:Hp}{s:Shared}{a:Addr}{y d:V}{u r:Value}{o:Option V}{A:Around}{E:Qqq}
theorem Qu{Q:Qqq}(hu:A.units+1<cLine)(I:Inv X c_ σ H s)(g:iY H a y o)(ry:RelV y u)(rd:RelV d r)(h:∀w' s',Inv X c_ σ H s'→RelV (o.getD d) w'→Q w' s') :
  wpAny (model X.prog X.w) A (call (.builtin "dict.get") [.ref a,u,r]) Q E s:=by
 rcases g with⟨kvs,k,e,ey,l⟩|⟨kvs,k,b,e,ey,eb,l⟩
 ·subst ey
  obtain⟨z,hd,vs,rel,dd⟩:=zr I.iL e
  refine call_meetsIn PySem.F.slot_dict_get dd.typeIs PySem.F.entry_dict_get (PySem.F.args_dict_get_3 _ _ _) (meets_dict_get_default (jl X.prog X.w) a (A9 ry) hd r) ⟨_,dd.mapOf,h _ _ (I.tok _) ?_⟩
  rw[l]
  exact(rel.val k).getD rd
 ·subst ey
  cases (show u=Value.ref b from ry)
  obtain⟨z,hd,xs,rel,dd⟩:=zt I.iL e
  refine call_meetsIn PySem.F.slot_dict_get dd.typeIs PySem.F.entry_dict_get (PySem.F.args_dict_get_3 _ _ _) (meetsH_dict_get_default (tupleKind (jl X.prog X.w)) a b hd r) ⟨abI hu,k,xs,vX I.iL eb,dd,h _ _ (I.tok _) ?_⟩
  rw[l]
  exact(rel.val k).getD rd
end
def Qv(td ty tx:TE):TE:=fun σ H Q=>td σ H fun x H1=>∃a,x=.ref a∧Ss H1 a∧ty σ H1 fun y H2=>tx σ H2 fun z H3=>∃o,iY H3 a y o∧Q (o.getD z) H3
def Qw(td ty:TE):TE:=fun σ H Q=>td σ H fun x H1=>∃a,x=.ref a∧Ss H1 a∧ty σ H1 fun y H2=>∃kvs k v,H2 a=some (.dK kvs)∧y=kV k∧iV kvs k=some v∧Q v (upd H2 a (.dK (kC kvs k)))
section
variable{X:Cx}{o e f:Expr}{apos lY:Pos}{td ty tx:TE}
theorem Lu(hu:X.A.units+1<cLine)(ho:PE X o td)(he:PE X e ty)(hf:PE X f tx)(m:M2 X o "get" apos e f lY):PE X (.Call (.Attribute o "get" apos) [e,f] [] lY) (Qv td ty tx):=by
 intro c_ s σ H Q I h
 refine wpAny_Call_method m.base m.jc m.line abO PySem.F.slot_dict_get PySem.F.type_dict_get (i7 (ho c_ s σ H _ I h) fun u s1 ⟨x,H1,I1,rx,a,ex,d,q1⟩=>?_)
 subst ex
 obtain rfl:u=Value.ref a:=rx
 obtain⟨t1,t2,_⟩:=A_ I1 d
 refine⟨t1,t2,?_⟩
 rw[m.trees]
 refine abo rfl (abA (abn (i7 (he c_ s1 σ H1 _ I1 q1) fun iv s2 ⟨y,H2,I2,ry,q2⟩=>
  abn (i7 (hf c_ s2 σ H2 _ I2 q2) fun fv s3 ⟨z,H3,I3,rz,ov,g,q3⟩=>abD ?_))))
 exact Qu hu I3 g ry rz fun w' s4 I4 Dc=>⟨_,H3,I4,Dc,q3⟩
theorem Lv(ho:PE X o td)(he:PE X e ty)(m:M1 X o "pop" apos e lY):PE X (.Call (.Attribute o "pop" apos) [e] [] lY) (Qw td ty):=by
 intro c_ s σ H Q I h
 refine wpAny_Call_method m.base m.jc m.line abO ack PySem.F.type_dict_pop (i7 (ho c_ s σ H _ I h) fun u s1 ⟨x,H1,I1,rx,a,ex,d,q1⟩=>?_)
 subst ex
 obtain rfl:u=Value.ref a:=rx
 obtain⟨t1,t2,_⟩:=A_ I1 d
 refine⟨t1,t2,?_⟩
 rw[m.trees]
 refine abo rfl (abA (abn (i7 (he c_ s1 σ H1 _ I1 q1) fun iv s2 ⟨y,H2,I2,ry,kvs,k,v,ea,ey,l,q2⟩=>abD ?_)))
 subst ey
 exact TF I2 ea ry l (.inl rfl) fun w' s3 I3 Dc=>⟨v,_,I3,Dc,q2⟩
end
section
variable{X:Cx}{c_:Qqz}{σ:St}{H:Hp}{s:Shared}{a:Addr}{kvs:List (Key×V)}{A:Around}{E:Qqq}
end
section
variable{X:Cx}{c_:Qqz}{σ:St}{H:Hp}{s:Shared}{a:Addr}{y:V}{u:Value}{A:Around}{E:Qqq}
end
end L2
namespace Att
open PySem PySem.W PySem.Calls PyProof.Rows
theorem Am{P:Params}{h:Heap}:∀(ns:List Int)(vs:List Value),WellAll P h vs (ns.map WData.int)→IntsAre vs ns:=by
 intro ns
 induction ns with
 | nil=>
  intro vs w
  rw[List.map_nil] at w
  cases w
  exact .nil
 | cons n ns ih=>
  intro vs w
  rw[aaB] at w
  cases w with
  | cons a b=>
   cases a
   exact .cons _ _ (ih _ b)
theorem J0{l:OpenLaw}{n:Nat}(hn:l.most=some n){P:Params}{h:Heap}{args:List WData}{vals:List Value}
  (KS:l.row.toRowW.claim.pre args=true) (Pw:WellAll P h vals args) :
  ∃a vs ns,vals=[Value.ref a]∧args=[WData.list (ns.map WData.int)]∧h.get? a=some {cls:=.type "list",data:=.seq vs.toArray}∧IntsAre vs ns∧ns.length≤n:=by
 have hsh:WShape.hasAll [] args [.list .int]=true:=(pre_splitW KS).1
 have hc:l.pre.holds [] {args:=args}=true:=(pre_splitW KS).2
 obtain⟨d,r,rfl,h1,h2⟩:=hasAllW_cons hsh
 obtain rfl:=hasAllW_nil h2
 obtain⟨xs,rfl,h3⟩:=hasW_list h1
 obtain⟨ns,rfl⟩:=items_int h3
 have hlen:ns.length≤n:=by
  unfold OpenLaw.pre at hc
  have h4:(WTm.not (.lt (.lit (.int (n:Int))) (.len (.arg 0)))).holds [] {args:=[.list (ns.map .int)]}=true:=by
   have h4:=(holds_andW hc).1
   rw[hn] at h4
   exact h4
  have h5:=condW_of h4 (w_not (w_lt w_lit (w_len_list (w_arg rfl))))
  rw[U8] at h5
  refine Nat.le_of_not_lt fun q=>?_
  have q':(n:Int)<((ns.length:Nat):Int):=by omega
  first
   | (rw[XZ q'] at h5;exact absurd h5 (by decide))
   | (simp at h5;omega)
 cases Pw with
 | cons w1 w2=>
  cases w2
  cases w1 with
  | list ho Fg=>exact⟨_,_,ns,rfl,rfl,ho,Am ns _ Fg,hlen⟩
theorem J2(l:OpenLaw)(args:List WData):l.row.toRowW.claim.post args (.bool true) args=true:=
 postW_of (r:=l.row.toRowW) (X:=(true ==true))
  (show WShape.has [] (.bool true) .bool=true by first|rfl|decide|simp[WShape.has,WShape.arms,WShape.armsAll])
  (show(WTm.eq .res (.lit (.bool true))).value [] {args:=args,res:=some (.bool true),after:=args}=some (.bool (true ==true)) from w_eq_bool (w_res rfl) w_lit) rfl
theorem Gh{l:OpenLaw}{n:Nat}{q:Program}{loose:List Str}{XP:(Qqx)→Heap→Prop}{YP:World→Heap→Prop}{d:DefRec}
  (hn:l.most=some n) (UH:d.params.defaults=[])
  (call:∀(w:World)(s₀ s₁:Shared)(mg mb:Qqx)(fa:Addr)(o:Obj)(pm cd doc:Value)(a:Addr)(vs:List Value)(ns:List Int),
   Ground q loose [] XP w s₀ mg mb s₁.heap→YP w s₁.heap→
   s₁.heap.get? fa=some o→o.data=.func (docDef d.name d.params d.body d.scope pm cd doc)→s₁.heap.CodeRec cd d.name→mg d.name=some (.ref fa)→
   s₁.heap.get? a=some {cls:=.type "list",data:=.seq vs.toArray}→IntsAre vs ns→ns.length≤n→s₁.gens=#[]→
   codeAny (model l.prog w) callerA (.call (.ref fa) ⟨[.ref a],[]⟩) (fun r s'=>r=.ok (.ret (.bool true))∧OldK s₁.heap s'.heap∧s'.os=s₁.os∧AllBare s'.gens) s₁) :
  WalkO q loose XP YP l.row.toRowW d [] (fun f vs=>PySem.call f vs):=by
 intro w s₀ s₁ mg mb G Y fa o pm cd doc dV kV ho hd CM hD UI hg args vals as KS hlay hrd Pw YA
 obtain rfl:dV=.none:=Dflts.none hD UH
 obtain rfl:kV=.none:=Dflts.noKw hD
 obtain⟨a,vs,ns,rfl,rfl,RK,hints,hlen⟩:=J0 hn KS Pw
 refine enter_call (codeAny_mono (call w s₀ s₁ mg mb fa o pm cd doc a vs ns G Y ho (fd_plain hd) CM UI RK hints hlen hg) fun r s' hq=>?_)
 obtain⟨rfl,h2,h3,h4⟩:=hq
 exact⟨.inl ⟨.bool true,.bool true,[],rfl,fun _=>rfl,.bool true,J2 l _,fun _=>⟨List.Pairwise.nil,fun _ hm=>(nomatch hm)⟩⟩,h2,h3,h4⟩
section
variable{prog:Program}{w:World}{A:Around}{E:Qqq}{s:Shared}{K:Frag}
def ledger(h:Heap)(L d:Addr):Qqz:=(List.range h.objs.size).filterMap fun a=>if a=L∨a=d then none else(h.get? a).map fun o=>(a,o)
end
end Att
namespace L2
open PySem PySem.Spec PyProof.Rows
theorem DA:∀{vs:List Value} {ns:List Int},IntsAre vs ns→Vals (ns.map V.int) vs
 | _,_,.nil=>.nil
 | _,_,.cons n t h=>.cons ⟨t,rfl⟩ (DA h)
def Qx(H:Hp):Prop:=∀b,H b=none∨∃o xs,H b=some (.oO o (.lst xs))
theorem Lw{P:Program}{w:World}{K:Qqy}{mg mb:Qqx}{CX:Hu}{k:Nat}{fa a:Addr}{fd:FuncData}{x:Str}{sp:Sp}{s₁:Shared}{vs:List Value}{ns:List Int}
  (KX:K.In s₁.heap) (hns:s₁.heap.Ns mainGlobals mg) (hb:s₁.heap.Ns builtinsNs mb) (hbb:∀x:Str,x≠"__name__"→mb x=bootBuiltins x) (YB:s₁.heap.NoLimit) (hg:s₁.gens=#[])
  (ha:s₁.heap.get? a=some {cls:=.type "list",data:=.seq vs.toArray}) (hi:IntsAre vs ns) (hl:ns.length≤sizeLine) (hr:kT k callerA)
  (F:∀base:Heap,K.In base→base.Ns mainGlobals mg→ip P w K mg base CX k fa fd [x] sp) (UJ:∀(s:Shared)(u:Value),BindsTo s fd ⟨[u],[]⟩ [(x,u)])
  (KR:∀H:Hp,Qx H→gK K H a (ns.map V.int)→sp [.ref a] H (fun v _=>v=.bl true) fun _ _ _=>False)
  (YC:∀H e s',CX [] H s₁ (fun _ _ _=>False) e s'→False) :
  codeAny (model P w) callerA (.call (.ref fa) ⟨[.ref a],[]⟩) (fun r s'=>r=.ok (.ret (.bool true))∧OldK s₁.heap s'.heap∧s'.os=s₁.os∧AllBare s'.gens) s₁:=by
 have rv:=DA hi
 have YD:=hi.length
 have core:∀H:Hp,Qx H→gK K H a (ns.map V.int)→rl P w H s₁.heap→(∀b,H b≠none→b=a)→(H a≠none→K.lookup a=none)→
   codeAny (model P w) callerA (.call (.ref fa) ⟨[.ref a],[]⟩) (fun r s'=>r=.ok (.ret (.bool true))∧OldK s₁.heap s'.heap∧s'.os=s₁.os∧AllBare s'.gens) s₁:=by
  intro H hO hS iL hA hK
  have JH:∀{b:Addr} {o:Obj},s₁.heap.get? b=some o→H b=none→(D7 s₁.heap H).get? b=some o:=fun e n=>La e n
  have UE:∀{b:Addr} {o:Obj} {es:Array DictEntry} {ep:Nat},s₁.heap.get? b=some o→o.data=.dict es ep→H b=none:=fun{b o es ep} e d=>by
   cases q:H b with
   | none=>rfl
   | some u=>
    have e':b=a:=hA b (by rw[q];simp)
    subst e'
    rw[ha] at e;cases e
    have d':Data.seq vs.toArray _=Data.dict es ep:=d
    cases d'
  have Wx:∀{b:Addr} {m:Qqx},s₁.heap.Ns b m→(D7 s₁.heap H).Ns b m:=fun{b m} ⟨o,es,ep,e,d,r⟩=>⟨o,es,ep,JH e (UE e d),d,r⟩
  have hKb:K.In (D7 s₁.heap H):=fun b o e=>JH (KX b o e) (by
   cases q:H b with
   | none=>rfl
   | some u=>
    have e':b=a:=hA b (by rw[q];simp)
    subst e'
    rw[hK (by rw[q];simp)] at e;cases e)
  have hM:Mod K mg (D7 s₁.heap H):=⟨hKb,Wx hns,⟨mb,Wx hb,hbb⟩,let ⟨mc,h1,h2⟩:=YB;⟨mc,Wx h1,h2⟩⟩
  have e0:FV P w K mg (D7 s₁.heap H) callerA [] s₁ H:=⟨rfl,hM,fun b o e=>Np e,acA (JP _ _),trivial,fun b hb=>absurd (show b∈([]:List Addr) from hb) (by simp),iL,.of_eq hg⟩
  refine codeAny_mono ((F _ hKb (Wx hns)).run callerA [] s₁ H ⟨[.ref a],[]⟩ [.ref a] [.ref a] _ _ hr e0 (UJ s₁ (.ref a)) (.cons rfl .nil) (KR H hO hS)) fun r s' h=>?_
  cases r with
  | error e=>exact(YC H e s' h).elim
  | ok fl=>
   cases fl with
   | next=>exact False.elim h
   | brk=>exact False.elim h
   | cont=>exact False.elim h
   | ret u=>
    obtain⟨v,H',os,bare,un,YE,r',q⟩:=h
    have q':v=.bl true:=q
    subst q'
    obtain rfl:u=Value.bool true:=r'
    refine⟨rfl,OldK.of_keep fun b o e=>?_,os,bare⟩
    cases q:H b with
    | none=>exact un.keep b o e q (by intro z;exact absurd (show b∈([]:List Addr) from z) (by simp)) (by simp)
    | some u=>
     rcases hO b with z|⟨ob,xs,z⟩
     ·rw[q] at z;cases z
     ·have z2:=un.tF b ob _ z
      obtain⟨e1,_⟩:=iL b _ z
      obtain⟨e2,_⟩:=YE b _ z2
      rw[e] at e1;cases e1
      exact e2
 cases hk:K.lookup a with
 | some o=>
  have e:=KX a o hk
  rw[ha] at e
  cases e
  refine core (fun _=>none) (fun _=>.inl rfl) (.inr ⟨_,vs.toArray,_,hk,rfl,rfl,rfl,by rw[aar,YD];exact hl,by simpa using rv⟩) (fun b u z=>by have z':(none:Option HO)=some u:=z;cases z') (fun b z=>absurd rfl z) fun z=>absurd rfl z
 | none=>
  refine core (fun b=>if b=a then some (.oO {cls:=.type "list",data:=.seq vs.toArray} (.lst (ns.map V.int))) else none) (fun b=>?_) (.inl (.inr ⟨{cls:=.type "list",data:=.seq vs.toArray},aax rfl⟩)) (fun b u z=>?_) (fun b z=>?_) fun _=>hk
  ·by_cases hb:b=a
   ·exact .inr ⟨_,_,aax hb⟩
   ·exact .inl (aau hb)
  ·by_cases hb:b=a
   ·have z':=(aax hb).symm.trans z
    cases z'
    subst hb
    exact⟨ha,by rw[U8];exact hl,vs,_,rv,ha⟩
   ·have z':=(aau hb).symm.trans z
    cases z'
  ·by_cases hb:b=a
   ·exact hb
   ·exact absurd (aau hb) z
theorem NL{l:W.OpenLaw}{n k:Nat}{q:Program}{loose:List Str}{XP:(Qqx)→Heap→Prop}{YP:World→Heap→Prop}{d:DefRec}{K:Params→Qqy}{CX:World→Hu}{sp:World→Sp}{x:Str}
  (hn:l.most=some n) (Ng:n≤sizeLine) (UH:d.params.defaults=[]) (hr:kT k callerA)
  (hY:∀(w:World)(h:Heap),YP w h→(K w.params).In h)
  (F:∀(w:World)(mg:Qqx)(fa:Addr)(h:Heap),(K w.params).In h→h.Ns mainGlobals mg→mg d.name=some (.ref fa)→
   ∃fd:FuncData,(∀(s:Shared)(u:Value),BindsTo s fd ⟨[u],[]⟩ [(x,u)])∧
    ∀base:Heap,(K w.params).In base→base.Ns mainGlobals mg→ip l.prog w (K w.params) mg base (CX w) k fa fd [x] (sp w))
  (KR:∀(w:World)(H:Hp)(a:Addr)(ns:List Int),ns.length≤n→Qx H→gK (K w.params) H a (ns.map V.int)→sp w [.ref a] H (fun v _=>v=.bl true) fun _ _ _=>False)
  (YC:∀(w:World)(H:Hp)(s:Shared)(e:Value)(s':Shared),CX w [] H s (fun _ _ _=>False) e s'→False) :
  W.WalkO q loose XP YP l.row.toRowW d [] (fun f vs=>PySem.call f vs):=by
 refine Att.Gh hn UH fun w s₀ s₁ mg mb fa o pm cd doc a vs ns G Y ho hd CM UI RK hints hlen hg=>?_
 have KX:=hY w _ Y
 obtain⟨fd,hb,hF⟩:=F w mg fa _ KX G.T.g UI
 exact Lw KX G.T.g G.T.b G.T.builtins G.T.nolimit hg RK hints (aah hlen Ng) hr hF hb (fun H hO hS=>KR w H a ns hlen hO hS) fun H e s'=>YC w H s₁ e s'
noncomputable def inClass(s:Stmt)(j:Nat):Stmt:=match s with
 | .ClassDef _ _ _ body _ _ _ _ _ _ _=>body.getD j (.Pass ⟨0,0,0,0⟩)
 | _=>.Pass ⟨0,0,0,0⟩
noncomputable def pR(s:Stmt):Arguments:=match s with
 | .FunctionDef _ a _ _ _ _ _ _ _ _=>a
 | _=>{posonlyargs:=[],args:=[],vararg:=none,kwonlyargs:=[],kw_defaults:=[],kwarg:=none,defaults:=[]}
noncomputable def lC(s:Stmt):List Stmt:=match s with
 | .FunctionDef _ _ b _ _ _ _ _ _ _=>b
 | _=>[]
noncomputable def gc(s:Stmt):Scope:=match s with
 | .FunctionDef _ _ _ _ _ _ sc _ _ _=>sc
 | _=>{kind:=.function,names:=[],isGenerator:=false,isCoroutine:=false}
abbrev nu:Hu:=fun _ _ _ _ _ _=>False
abbrev E0:XK:=fun _ _ _=>False
theorem nF{X:Cx}:Passes nu X E0:=fun _ _ _ _ _ _ _ h=>h.elim
structure w_(K:Qqy)(x qual:Str)(st:Stmt)(f:Addr)(fd:FuncData):Prop where
 ex:∃(oc:Value)(od:Option Addr)(kV doc pm:Value)(an:Option Addr)(jh ct:Value)(KQ:Array (Option Value)),
  fd=W.fnOf x qual (pR st) (lC st) (gc st) .none kV doc pm an jh ct∧K.lookup f=some ⟨oc,od,.func fd,KQ⟩∧W.codeIn K jh qual=true
 kp:W.keepIn K (.ref f)=true
section
variable{P:Program}{w:World}{K:Qqy}{mg:Qqx}{base:Heap}
theorem w_.ok{x qual:Str}{st:Stmt}{f:Addr}{fd:FuncData}{N ps:List Str}{k:Nat}{sp:Sp}(F:w_ K x qual st f fd)(S:gA N ps (gc st))(len:∀vs H Q E,sp vs H Q E→vs.length=ps.length)
  (rg:∀(jh:Value)(A:Around)(outer:List Env)(s:Shared)(H:Hp)(vs:List V)(Q:VK)(E:XK),kT k (A.deeper (envOfC qual (gc st) s.heap.objs.size f jh))→sp vs H Q E→
   ∃t,Dj (vW nu P w K mg base N qual (gc st) f jh A outer s H E).Tg (lC st) t∧t {nx:=fun _ H'=>Q .js H',rt:=Q} (start N vs) H):ip P w K mg base nu (k+1) f fd ps sp:=by
 obtain⟨oc,od,kV,doc,pm,an,jh,ct,KQ,rfl,lk,CM⟩:=F.ex
 refine Pa lk CM S len fun A outer s H vs Q E hr KR=>?_
 obtain⟨t,h,q⟩:=rg jh A outer s H vs Q E hr KR
 exact⟨t,h.Tg,q⟩
theorem w_.binds{x qual:Str}{st:Stmt}{f:Addr}{fd:FuncData}{ps:List Str}(F:w_ K x qual st f fd)
  (h:∀(kV doc pm:Value)(an:Option Addr)(jh ct:Value)(us:List Value),us.length=ps.length→bindArgs (W.fnOf x qual (pR st) (lC st) (gc st) .none kV doc pm an jh ct) ⟨us,[]⟩=pure (ps.zip us)):Binds K fd ps []:=by
 obtain⟨oc,od,kV,doc,pm,an,jh,ct,KQ,rfl,lk,CM⟩:=F.ex
 exact .all (h kV doc pm an jh ct)
theorem Lx{x qual:Str}{st:Stmt}{f:Addr}{oc:Value}{od an:Option Addr}{KQ:Array (Option Value)}{kV doc pm jh ct:Value}(l:K.lookup f=some ⟨oc,od,.func (W.fnOf x qual (pR st) (lC st) (gc st) .none kV doc pm an jh ct),KQ⟩)
 (c:W.codeIn K jh qual=true) (k:W.keepIn K (.ref f)=true):w_ K x qual st f (W.fnOf x qual (pR st) (lC st) (gc st) .none kV doc pm an jh ct):=⟨⟨oc,od,kV,doc,pm,an,jh,ct,KQ,rfl,l,c⟩,k⟩
end
theorem iO{A:Around}{k:Nat}(hr:kT k A):A.units+1<cLine:=abz (Nat.add_le_add_left (by decide:1≤64) _) hr.units
section
variable{X:Cx}
theorem pv(i:Nat){x:Str}{pos:Pos}(hN:X.N[i]?=some x:=by rfl)(hv:Xk X.env.scope x:=by first|exact Or.inl rfl|exact Or.inr (Or.inl rfl)|exact Or.inr (Or.inr rfl))(hd:(x ==("__debug__":Str))=false:=by decide)
 (CM:(x ==("__classdict__":Str))=false:=by decide):PE X (.Name x pos) (Td i):=P9 hN hv hd CM
end
theorem jY{A B:Prop}(h:B):if false=true then A else B:=by
 rw[aau aak]
 exact h
theorem mx{A B:Prop}(h:A):if true=true then A else B:=by
 rw[aax rfl]
 exact h
theorem kU{c A B:Prop}[Decidable c](h1:c→A)(h2:¬c→B):if c then A else B:=by
 by_cases h:c
 ·rw[aax h]
  exact h1 h
 ·rw[aau h]
  exact h2 h
def gk(H H':Hp):Prop:=∀b o,H b=some o→H' b=some o
theorem gk.refl(H:Hp):gk H H:=fun _ _ h=>h
theorem gk.trans{H H1 H2:Hp}(a:gk H H1)(b:gk H1 H2):gk H H2:=fun c o h=>b c o (a c o h)
theorem gk.free{H H':Hp}(e:gk H H'){l:Addr}(h:H' l=Option.none):H l=Option.none:=by
 cases q:H l with
 | none=>rfl
 | some o=>
  rw[e l o q] at h
  cases h
section
variable{κ:Type}[DecidableEq κ]
theorem yx{p:κ×V}{r:List (κ×V)}{k:κ}(e:p.1=k):kC (p::r) k=kC r k:=by
 unfold kC
 rw[List.filter_cons,aau (by simp[e])]
theorem yy{p:κ×V}{r:List (κ×V)}{k:κ}(e:¬p.1=k):kC (p::r) k=p::kC r k:=by
 unfold kC
 rw[List.filter_cons,aax (by simp[e])]
end
section
variable{prog:Program}{w:World}{A:Around}{R:Result→Shared→Prop}{s:Shared}
abbrev NM:Qqq:=fun _ _=>False
theorem Ee{elt target iter:Expr}{ifs:List Expr}{scope:Scope}{pos:Pos}{it acc:Value}{env:Env}(I:Nat→Shared→Prop)
  (turn:∀n s,I n s→wpAny (model prog w) A (pyNext it) (fun r s1=>match r with
   | none=>R (.ok .next) s1
   | some v=>wpAny (model prog w) A (letOwnedTupleGo target it v) (fun _ s1'=>wpAny (model prog w) A (assign target env v) (fun _ s2=>
    wpAny (model prog w) A (forIn ifs true fun c r=>if r=true then do let ok ←isTrue c env (eval c env);pure (ForInStep.yield ok) else pure (ForInStep.yield r)) (fun ok s3=>
     if ok=true then wpAny (model prog w) A (eval elt env) (fun x s4=>wpAny (model prog w) A (call (.builtin "list.append") [acc,x]) (fun _ s5=>∃m,m<n∧I m s5) NM s4) NM s3
     else ∃m,m<n∧I m s3) NM s2) NM s1') NM s1) NM s)
  (n:Nat) (h:I n s):codeAny (model prog w) A (.compLoop (.ListComp elt [⟨target,iter,ifs,0⟩] scope pos) 0 it acc env) R s:=by
 refine codeAny_loop rfl I (fun n s hI=>?_) n h
 show wpAny _ A ((compTurn (.ListComp elt [⟨target,iter,ifs,0⟩] scope pos) 0 it acc env).onRaise (fun x=>do noteFrame x env;theTreesLotGoes x)) _ _ s
 refine wpAny_noted ?_
 rw[compTurn_list]
 refine XX (wpAny_standAt (XX (abv (turn n s hI) (fun r s1 h1=>?_) fun _ _ h'=>h'.elim)))
 cases r with
 | none=>exact aas h1
 | some v=>
  refine XX (abv h1 (fun _ s1' OM=>?_) fun _ _ h'=>h'.elim)
  refine XX (abv OM (fun _ s2 h2=>XX (abv h2 (fun ok s3 h3=>?_) fun _ _ h'=>h'.elim)) fun _ _ h'=>h'.elim)
  cases ok with
  | false=>exact aas ⟨rfl,h3⟩
  | true=>
   exact XX (XX (abv h3 (fun x s4 h4=>XX (abv h4 (fun _ s5 h5=>aas (aas ⟨rfl,h5⟩)) fun _ _ h'=>h'.elim)) fun _ _ h'=>h'.elim))
end
noncomputable def jP(cells:List (Str×Addr)):List (Str×NameKind)→List (Str×Addr)→List (Str×Addr)
 | [],cs=>cs
 | (n,k)::r,cs=>jP cells r (if k ==.free then(n,(cells.lookup n).getD 0)::cs else cs)
theorem DB{cells:List (Str×Addr)}:∀{names:List (Str×NameKind)} {cs:List (Str×Addr)} {x:Str} {c:Addr},(∀y∈names,y.2=.free→∃c,cells.lookup y.1=some c)→
  (jP cells names cs).lookup x=some c→cs.lookup x=some c∨cells.lookup x=some c
 | [],_,_,_,_,h=>.inl h
 | (n,k)::r,cs,x,c,hf,h=>by
  rcases DB (fun y hy=>hf y (aap _ hy)) (show(jP cells r (if k ==.free then(n,(cells.lookup n).getD 0)::cs else cs)).lookup x=some c from h) with q|q
  ·by_cases hk:(k ==NameKind.free)=true
   ·rw[aax hk] at q
    by_cases hx:(x ==n)=true
    ·rw[aca,hx] at q
     obtain⟨c',e⟩:=hf (n,k) aaz (eq_of_beq hk)
     have e:cells.lookup n=some c':=e
     rw[e] at q
     have q:some c'=some c:=q
     rw[eq_of_beq hx,e,q]
     exact .inr rfl
    ·rw[aca,aa8.mpr hx] at q
     exact .inl q
   ·rw[aau hk] at q
    exact .inl q
  ·exact .inr q
theorem Ba{cells:List (Str×Addr)}:∀{names:List (Str×NameKind)} {cs:List (Str×Addr)} {x:Str},(∃c,cs.lookup x=some c)→∃c,(jP cells names cs).lookup x=some c
 | [],_,_,h=>h
 | (n,k)::r,cs,x,h=>by
  refine Ba (names:=r) ?_
  by_cases hk:(k ==NameKind.free)=true
  ·rw[aax hk,aca]
   cases x ==n with
   | true=>exact⟨_,rfl⟩
   | false=>exact h
  ·rw[aau hk];exact h
theorem yz{cells:List (Str×Addr)}:∀{names:List (Str×NameKind)} {cs:List (Str×Addr)} {x:Str},(x,NameKind.free)∈names→∃c,(jP cells names cs).lookup x=some c
 | [],_,_,h=>nomatch h
 | (n,k)::r,cs,x,h=>by
  rcases aag.mp h with e|h2
  ·cases e
   refine Ba (names:=r) ⟨(cells.lookup n).getD 0,?_⟩
   rw[aax (by rfl),aca,beq_self_eq_true]
  ·exact yz (names:=r) h2
theorem vA{scope:Scope}{env:Env}(hf:∀y∈scope.names,y.2=.free→∃c,env.cells.lookup y.1=some c):closureFor scope env=pure (jP env.cells scope.names []):=by
 have key:∀(names:List (Str×NameKind))(cs:List (Str×Addr)),(∀y∈names,y.2=.free→∃c,env.cells.lookup y.1=some c)→
   (forIn names cs fun(x:Str×NameKind) (r:List (Str×Addr))=>(match x with
    | (name,kind)=>if(kind ==NameKind.free)=true then(do let a ←cellOf env name;pure (ForInStep.yield ((name,a)::r))) else pure (ForInStep.yield r):Sem (ForInStep (List (Str×Addr)))))=(pure (jP env.cells names cs):Sem (List (Str×Addr))):=by
  intro names
  induction names with
  | nil=>intro cs _;rfl
  | cons y r ih=>
   intro cs h
   obtain⟨n,k⟩:=y
   rw[List.forIn_cons]
   by_cases hk:(k ==NameKind.free)=true
   ·obtain⟨c,e⟩:=h (n,k) aaz (eq_of_beq hk)
    have e:env.cells.lookup n=some c:=e
    have ec:cellOf env n=pure c:=by unfold cellOf;rw[e]
    simp only [hk,if_true,ec,pure_bind]
    rw[ih _ fun y hy=>h y (aap _ hy)]
    simp only [jP,hk,if_true,e,Option.getD_some]
   ·simp only [hk,acf,pure_bind,aa9]
    rw[ih _ fun y hy=>h y (aap _ hy)]
    simp only [jP,hk,acf,aa9]
 have q:=key scope.names [] hf
 simp only [closureFor]
 first
  | (rw[q];rfl)
  | (simp only [q,pure_bind])
  | exact(abb (fun t=>t >>= pure) q).trans (pure_bind _ _)
theorem sR{f:Str→NameKind→NameKind}:∀{names:List (Str×NameKind)} {x:Str},(names.map fun y=>(y.1,f y.1 y.2)).lookup x=(names.lookup x).map (f x)
 | [],_=>rfl
 | (n,k)::r,x=>by
  show List.lookup x ((n,f n k)::_)=_
  rw[aca,aca]
  cases h:x ==n with
  | true=>rw[eq_of_beq h];rfl
  | false=>exact sR (names:=r)
theorem mH{scope:Scope}{env:Env}{x:Str}:(relabel scope env).names.lookup x=(scope.names.lookup x).map fun k=>if(k ==.free&&env.scope.kind ==.function&&env.kindOf x ==some .cell)=true then .cell else k:=by
 have e:(relabel scope env).names=scope.names.map fun y=>(y.1,(fun(n:Str) (k:NameKind)=>if(k ==.free&&env.scope.kind ==.function&&env.kindOf n ==some .cell)=true then NameKind.cell else k) y.1 y.2):=by
  show(scope.names.map _)=_
  refine ab_ fun y _=>?_
  obtain⟨n,k⟩:=y
  show(if(k ==.free&&env.scope.kind ==.function&&env.kindOf n ==some .cell)=true then(n,NameKind.cell) else(n,k))=(n,if(k ==.free&&env.scope.kind ==.function&&env.kindOf n ==some .cell)=true then NameKind.cell else k)
  split<;>rfl
 rw[e]
 exact sR (f:=fun(n:Str) (k:NameKind)=>if(k ==.free&&env.scope.kind ==.function&&env.kindOf n ==some .cell)=true then NameKind.cell else k)
noncomputable def blank:List Nat→St→St
 | [],σ=>σ
 | i::r,σ=>blank r (σ.set i none)
theorem DC:∀{is:List Nat} {σ:St},(blank is σ).length=σ.length
 | [],_=>rfl
 | i::r,σ=>by
  show(blank r (σ.set i none)).length=_
  rw[DC,acz]
theorem Ef{σ:St}{i j:Nat}{v:V}(h:(σ.set i none)[j]?=some (some v)):σ[j]?=some (some v)∧j≠i:=by
 by_cases e:j=i
 ·subst e
  by_cases hl:j<σ.length
  ·rw[abf hl] at h;cases h
  ·rw[abG.mpr (by rw[acz];omega)] at h;cases h
 ·rw[abm (abT e)] at h
  exact⟨h,e⟩
theorem DD:∀{is:List Nat} {σ:St} {j:Nat} {v:V},(blank is σ)[j]?=some (some v)→σ[j]?=some (some v)∧j∉is
 | [],_,_,_,h=>⟨h,by simp⟩
 | i::r,σ,j,v,h=>by
  obtain⟨h1,h2⟩:=DD (is:=r) (σ:=σ.set i none) h
  obtain⟨h3,h4⟩:=Ef h1
  exact⟨h3,fun m=>(aag.mp m).elim h4 h2⟩
noncomputable def J3(N:List Str)(out:List (Str×NameKind))(is:List Nat)(names:List (Str×NameKind)):Bool:=
 (names.all fun y=>y.2 != .cell&&(y.2 != .free||out.lookup y.1 ==some .cell||out.lookup y.1 ==some .free)&&(y.2 != .local||names.lookup y.1 ==some .local))&&
 (N.zipIdx.all fun p=>names.lookup p.1 != some .local||is.contains p.2)
structure Eg(N:List Str)(out:List (Str×NameKind))(is:List Nat)(names:List (Str×NameKind)):Prop where
 HS:∀y∈names,y.2≠.cell
 free:∀y∈names,y.2=.free→out.lookup y.1=some .cell∨out.lookup y.1=some .free
 loc:∀y∈names,y.2=.local→names.lookup y.1=some .local
 own:∀(i:Nat)(x:Str),N[i]?=some x→names.lookup x=some .local→i∈is
theorem Eg.of{N:List Str}{out:List (Str×NameKind)}{is:List Nat}{names:List (Str×NameKind)}(h:J3 N out is names=true):Eg N out is names:=by
 unfold J3 at h
 rw[abc] at h
 obtain⟨h1,h2⟩:=h
 have a:=abL.mp h1
 have b:=abL.mp h2
 refine⟨fun y hy e=>?_,fun y hy e=>?_,fun y hy e=>?_,fun i x hi e=>?_⟩
 ·have q:=a y hy
  rw[e] at q
  simp at q
 ·have q:=a y hy
  simp only [e,abc,acn,bne_self_eq_false,aa9,false_or,ab4] at q
  rcases q.1.2 with z|z
  ·exact .inl z
  ·exact .inr z
 ·have q:=a y hy
  simp only [e,abc,acn,bne_self_eq_false,aa9,false_or,ab4] at q
  exact q.2
 ·have hm:(x,i)∈N.zipIdx:=by
   rw[aaT]
   exact⟨i,by rw[List.getElem?_zipIdx,hi];simp⟩
  have q:=b (x,i) hm
  simp only [e,acn,bne_self_eq_false,aa9,false_or] at q
  exact List.contains_iff_mem.mp q
noncomputable def Cx.block(X:Cx)(scope:Scope)(cl:List (Str×Addr))(C:Addr)(s:Shared)(H:Hp)(ex:List Addr):Cx:=
 {X with env:=compEnvC scope cl C X.env,s₀:=s,H₀:=H,outer:=X.stack,ex:=ex,fn:=fun _=>false,pn:=[],xe:=NM}
section
variable{X:Cx}{c_:Qqz}{σ:St}{H:Hp}{s:Shared}{scope:Scope}{is:List Nat}{ex:List Addr}{C:Addr}
theorem Bb(I:Inv X c_ σ H s)(hs:Eg X.N X.env.scope.names is scope.names):∀y∈scope.names,y.2=.free→∃c,X.env.cells.lookup y.1=some c:=fun y hy e=>I.ok.has y.1 (hs.free y hy e)
theorem om(I:Inv X c_ σ H s)(hs:Eg X.N X.env.scope.names is scope.names){x:Str}{c:Addr}(h:(jP X.env.cells scope.names []).lookup x=some c):X.env.cells.lookup x=some c:=
 (DB (Bb I hs) h).resolve_left fun z=>nomatch z
theorem Ly(I:Inv X c_ σ H s)(hs:Eg X.N X.env.scope.names is scope.names)(hk:scope.kind=.function)(hC:s.heap.objs.size≤C)(hf:∀b∈ex,vT X c_ H b)(ho:∀b∈ex,∃o,s.heap.get? b=some o) :
  (X.block scope (jP X.env.cells scope.names []) C s H ex).Ok where
 mod:=I.ok.mod
 kind:=hk
 glob:=I.ok.glob
 blt:=I.ok.blt
 above:=hC
 inj:=fun x y c h1 h2=>I.ok.inj x y c (om I hs h1) (om I hs h2)
 has:=fun x hx=>by
  have hx:(relabel scope X.env).names.lookup x=some .cell∨(relabel scope X.env).names.lookup x=some .free:=hx
  rw[mH] at hx
  cases e:scope.names.lookup x with
  | none=>
   rw[e] at hx
   rcases hx with z|z<;>cases z
  | some k=>
   have hm:(x,k)∈scope.names:=abE e
   have hk:k=.free:=by
    rw[e] at hx
    cases k with
    | free=>rfl
    | cell=>exact absurd rfl (hs.HS _ hm)
    | _=>rcases hx with z|z<;>simp at z
   subst hk
   exact yz hm
 Nt:=fun _ _ h=>Bool.noConfusion h
 hd:=I.ok.hd
 frames:=I.ok.frames
 O5:=.inl rfl
 Sq:=fun b hb=>by
  obtain⟨o,e⟩:=ho b hb
  exact⟨aa1 (aaK (aaD e) hC),fun x c h=>(hf b hb).2.2.2.2.1 x c (om I hs h)⟩
 bs:=I.bs
 JQ:=aah I.ok.JQ I.sz
 rm:=fun b o e hb=>by
  rcases(hf b hb).2.2.2.1 with z|z
  ·exact I.ok.rm b o e z
  ·exact absurd (aaK (aaD (I.ok.bs b o e).1) z) (aby _)
 FN:=fun b hb hm=>by
  rcases aag.mp (I.yr b hm) with z|z
  ·exact(hf b hb).2.1 z
  ·exact(hf b hb).2.2.1 z
 tD:=I.stack
 K3:=I.AH
theorem J4{h':Heap}{t':Nat}{pl:Qqz}(I:Inv X c_ σ H s)(hs:Eg X.N X.env.scope.names is scope.names)(hk:scope.kind=.function)(hC:s.heap.objs.size≤C)(hf:∀b∈ex,vT X c_ H b)(ho:∀b∈ex,∃o,s.heap.get? b=some o)
  (old:∀b o,s.heap.get? b=some o→h'.get? b=some o) {m:Qqx} (hn:h'.Ns C m)
  (hp:∀p∈pl,h'.get? p.1=some p.2∧s.heap.objs.size≤p.1∧p.1≠C∧∀v,p.2.data≠.cell v) :
  Inv (X.block scope (jP X.env.cells scope.names []) C s H ex) pl (blank is σ) H {s with heap:=h',toks:=t'} where
 ok:=Ly I hs hk hC hf ho
 os:=rfl
 bare:=I.bare
 base:=Un.kept old
 loc:=⟨m,hn,fun i x v h1 h2 h3=>by
  have h3:(relabel scope X.env).names.lookup x=some .local∨(relabel scope X.env).names.lookup x=some .cell∨(relabel scope X.env).names.lookup x=some .free:=h3
  obtain⟨h2,hi⟩:=DD h2
  have h1:X.N[i]?=some x:=h1
  cases e:scope.names.lookup x with
  | none=>
   rw[mH,e] at h3
   rcases h3 with z|z|z<;>cases z
  | some k=>
   have hm:(x,k)∈scope.names:=abE e
   have hk:k=.free:=by
    rw[mH,e] at h3
    cases k with
    | free=>rfl
    | cell=>exact absurd rfl (hs.HS _ hm)
    | «local»=>exact absurd (hs.own i x h1 e) hi
    | _=>rcases h3 with z|z|z<;>simp at z
   subst hk
   have hv:X.env.scope.names.lookup x=some .cell∨X.env.scope.names.lookup x=some .free:=hs.free _ hm rfl
   obtain⟨m0,_,hl⟩:=I.loc
   obtain⟨u,r,q⟩:=hl i x v h1 h2 (.inr hv)
   refine⟨u,r,.inr ⟨?_,?_⟩⟩
   ·show(relabel scope X.env).names.lookup x=some .cell∨(relabel scope X.env).names.lookup x=some .free
    rw[mH,e]
    show some (if _ then NameKind.cell else NameKind.free)=_∨some (if _ then NameKind.cell else NameKind.free)=_
    split
    ·exact .inl rfl
    ·exact .inr rfl
   ·rcases q with⟨z,_⟩|⟨_,c,ec,cc⟩
    ·have z:X.env.scope.names.lookup x=some .local:=z
     rcases hv with hv|hv<;>rw[hv] at z<;>cases z
    ·obtain⟨c',e'⟩:=yz (cells:=X.env.cells) (cs:=[]) hm
     have e2:=om I hs e'
     rw[ec] at e2
     cases e2
     obtain⟨o,ho,hd⟩:=cc
     exact⟨c,e',o,old _ _ ho,hd⟩⟩
 cell:=fun x c h=>by
  obtain⟨v,o,ho,hd⟩:=I.cell x c (om I hs h)
  exact⟨v,o,old _ _ ho,hd⟩
 free:=I.iL.fresh hC
 mq:=fun x c h=>I.mq x c (om I hs h)
 pin:=fun p hp'=>by
  obtain⟨h1,h2,h3,h4⟩:=hp p (by simpa[Cx.block] using hp')
  refine⟨h1,I.iL.fresh h2,h3,fun hm=>?_,h4⟩
  rcases aag.mp (I.yr p.1 hm) with z|z
  ·exact absurd (aaK I.lt (by rw[←z];exact h2)) (aby _)
  ·exact I.Tc h2 z
 iL:=I.iL.kept old
 len:=by rw[DC];exact I.len
end
theorem kW{X:Cx}{scope:Scope}{cl:List (Str×Addr)}{C:Addr}{s:Shared}{H:Hp}{ex:List Addr}:(X.block scope cl C s H ex).K=X.K:=rfl
theorem PE.eqv{X:Cx}{e:Expr}{t t':TE}(h:PE X e t')(q:t'=t):PE X e t:=q▸h
def Qy(X:Cx)(ifs:List Expr)(t:TT):Prop:=
 ∀(c_:Qqz)(s:Shared)(σ:St)(H:Hp)(Q:Bool→Hp→Prop),Inv X c_ σ H s→t σ H Q→
  wpAny (model X.prog X.w) X.A (forIn ifs true fun c r=>if r=true then do let ok ←isTrue c X.env (eval c X.env);pure (ForInStep.yield ok) else pure (ForInStep.yield r)) (TP X c_ σ Q) X.xe s
def XT:TT:=fun _ H Q=>Q true H
theorem mI{X:Cx}:Qy X [] XT:=fun _ _ _ H _ I h=>wpAny_tests_nil ⟨H,I,h⟩
theorem nK{X:Cx}{c:Expr}{t:TT}(h:PT X c t):Qy X [c] t:=fun c_ s σ H Q I hw=>wpAny_tests_one (h c_ s σ H Q I hw)
def J6(g:TG)(tt:TT)(te:TE)(J:It)(Q:List V→Hp→Prop)(σ:St)(H:Hp):Prop:=
 ∃W:Nat→Nat→List V→St→Hp→Prop,(∃m,W 0 m [] σ H)∧∀i m ys σ H,W i m ys σ H→
  (J.stop i H∧ys.length≤sizeLine∧Q ys H)∨
  (J.go i H∧ys.length≤sizeLine∧∃N:List V→St→Hp→Prop,(∀SG σ' H',N SG σ' H'→∃m',m'<m∧W (i+1) m' SG σ' H')∧
   ∀x H',J.Le i H x H'→g x σ H' fun σ2 H2=>tt σ2 H2 fun b H3=>if b=true then te σ2 H3 fun v H4=>N (ys++[v]) σ2 H4 else N ys σ2 H3)
def Wl(is:List Nat)(wi:TI)(g:TG)(tt:TT)(te:TE):TE:=fun σ H Q=>wi σ H fun J H1=>J6 g tt te J (fun ys H2=>∀p,H2 p=none→Q (.ref p) (upd H2 p (.lst ys))) (blank is σ) H1
section
variable{P:Program}{w:World}
theorem rl.Jb{H:Hp}{h:Heap}{a:Addr}{o:HO}(x:rl P w H h)(hn:H a=none)(new:i4 P w (upd H a o) h a o):rl P w (upd H a o) h:=fun b u q=>by
 by_cases hb:b=a
 ·subst hb;rw[b_] at q;cases q;exact new
 ·rw[e_ hb] at q
  exact(x b u q).yq (fun _ _ _ r=>r) (fun c r=>by rw[e_ (gn r hn)];exact r) fun c xs r=>by rw[e_ (gn r hn)];exact r
end
noncomputable abbrev Eh(ys:List Value)(n:Nat):Obj:={cls:=.type "list",data:=.seq ys.toArray n}
section
variable{X:Cx}{c_:Qqz}{σ:St}{H:Hp}{s:Shared}{scope:Scope}{is:List Nat}
theorem DE{E:Qqq}{elt tg iter:Expr}{ifs:List Expr}{pos:Pos}{it:Addr}{fp:List Addr}{tn:Nat→Heap→Prop}{J:It}{g:TG}{tt:TT}{te:TE}{Fin:List V→Hp→Prop}{RR:Value→Addr→Result→Shared→Prop}
  (I:Inv X c_ σ H s) (hc:X.calm=true) (hs:Eg X.N X.env.scope.names is scope.names) (hk:scope.kind=.function)
  (hg:∀C s H ex,PG (X.block scope (jP X.env.cells scope.names []) C s H ex) tg g) (ht:∀C s H ex,Qy (X.block scope (jP X.env.cells scope.names []) C s H ex) ifs tt)
  (he:∀C s H ex,PE (X.block scope (jP X.env.cells scope.names []) C s H ex) elt te)
  (T:Turn X.prog X.w X.K tg J fp it tn) (st:tn 0 s.heap) (hf:∀b∈fp,vT X c_ H b) (h:J6 g tt te J Fin (blank is σ) H)
  (hRR:∀(D C:Addr)(ys:List V)(ic:List Value)(n:Nat)(H':Hp)(s':Shared)(m:Qqx),s.heap.objs.size≤D→s.heap.objs.size≤C→D≠C→s'.heap.Ns C m→s'.heap.get? D=some (Eh ic n)→Vals ys ic→ys.length≤sizeLine→
   H' D=none→H' C=none→s'.os=s.os→AllBare s'.gens→Un (tw X.stack) fp H H' s.heap s'.heap→rl X.prog X.w H' s'.heap→Fin ys H'→RR (.ref D) C (.ok .next) s') :
  wpAny (model X.prog X.w) X.A (newList []) (fun acc s3=>wpAny (model X.prog X.w) X.A (newFunctionEnv scope X.env.globals (jP X.env.cells scope.names []) [] X.env.qual none .none (some X.env)) (fun UK s4=>
   codeAny (model X.prog X.w) X.A (.compStart (.ListComp elt [⟨tg,iter,ifs,0⟩] scope pos) 0 (.ref it) acc {UK with scope:=relabel scope X.env}) (RR acc UK.locals) s4) E s3) E s:=by
 refine wpAny_newObj_type (wpAny_newFunctionEnv hs.HS (by intro y hy;simp at hy) (fun h1 RL ON=>?_) hk)
 dsimp only at RL ON ⊢
 generalize YF:s.heap.push {cls:=.type "list",dict:=none,data:=.seq ([]:List Value).toArray}=H2 at RL ON ⊢
 have hC:H2.objs.size=s.heap.objs.size+1:=by rw[←YF,Heap.size_push]
 have OO:s.heap.objs.size≠H2.objs.size:=by rw[hC];exact aa1 (acv _)
 have UL:s.heap.objs.size≤H2.objs.size:=by rw[hC];exact Nat.le_succ _
 have below:∀b,b<s.heap.objs.size→b≠H2.objs.size∧b≠s.heap.objs.size:=fun b hb=>⟨by rw[hC];exact aa1 (Nat.lt_succ_of_lt hb),aa1 hb⟩
 have old:∀b o,s.heap.get? b=some o→h1.get? b=some o:=fun b o e=>ON.extBut b o (below b (aaD e)).1 (aao _ (YF▸aao _ e))
 have yj:h1.get? s.heap.objs.size=some (Eh [] 0):=ON.extBut _ _ OO (aao _ (YF▸aaI _ rfl))
 have UM:∀b∈fp,∃o,s.heap.get? b=some o:=fun b hb=>let ⟨o,e,_⟩:=T.obj 0 _ st b hb;⟨o,e⟩
 have hfD:∀b∈fp,b≠s.heap.objs.size:=fun b hb=>let ⟨o,e⟩:=UM b hb;(below b (aaD e)).2
 have hfC:∀b∈fp,b≠H2.objs.size:=fun b hb=>let ⟨o,e⟩:=UM b hb;(below b (aaD e)).1
 generalize hD:s.heap.objs.size=D at *
 generalize hCC:H2.objs.size=C at *
 have UN:∀x c,(jP X.env.cells scope.names []).lookup x=some c→c≠D:=fun x c e z=>by
  obtain⟨v,q⟩:=I.cell x c (om I hs e)
  exact absurd q.lt (by rw[z,hD];exact aby _)
 let XB:=X.block scope (jP X.env.cells scope.names []) C s H fp
 have I1:Inv XB [(D,Eh [] 0)] (blank is σ) H {s with heap:=h1,toks:=s.toks+([]:List (Str×Value)).length}:=
  J4 I hs hk (by rw[hD];exact UL) hf UM old RL fun p hp=>by
   rw[Yc.mp hp]
   exact⟨yj,acA hD,OO,fun v z=>nomatch z⟩
 have YG:∀{pl:Qqz} {H':Hp},(∀p∈pl,p.1=D)→(∀b∈fp,H' b=none)→∀b∈fp,vT XB pl H' b:=fun{pl H'} ql hn b hb=>
  ⟨hn b hb,hfC b hb,fun hm=>by
   rcases aag.mp (I.yr b hm) with z|z
   ·exact(hf b hb).2.1 z
   ·exact(hf b hb).2.2.1 z,.inl hb,fun x c e=>(hf b hb).2.2.2.2.1 x c (om I hs e),fun p hp=>by
   have hp:p∈pl:=by simpa[XB,Cx.block] using hp
   rw[ql p hp]
   exact abT (hfD b hb)⟩
 obtain⟨W,⟨m0,w0⟩,turn⟩:=h
 have KU:tn 0 h1:=T.keep _ _ _ st fun b _ o e=>old b o e
 have loop:codeAny (model X.prog X.w) X.A (.compLoop (.ListComp elt [⟨tg,iter,ifs,0⟩] scope pos) 0 (.ref it) (.ref D) (compEnvC scope (jP X.env.cells scope.names []) C X.env)) (RR (.ref D) C) {s with heap:=h1,toks:=s.toks+([]:List (Str×Value)).length}:=by
  refine Ee (fun k s'=>∃i ys ic n σ' H',Inv XB [(D,Eh ic n)] σ' H' s'∧Vals ys ic∧tn i s'.heap∧(∀b∈fp,H' b=none)∧W i k ys σ' H') ?_ m0 ⟨0,[],[],0,_,_,I1,.nil,KU,fun b hb=>(hf b hb).1,w0⟩
  rintro k s3 ⟨i,ys,ic,n,σ3,H3,I3,vs,mz,UB,w3⟩
  have ql:∀p∈[(D,Eh ic n)],p.1=D:=fun p hp=>by rw[Yc.mp hp]
  rcases turn i k ys σ3 H3 w3 with⟨stop,hz,qn⟩|⟨go,hz,N,hN,step⟩
  ·refine i7 (T.done XB rfl rfl rfl hc i _ s3 σ3 H3 NM I3 (YG ql UB) mz stop) fun r s4 ⟨hr,I4⟩=>?_
   subst hr
   obtain⟨m',Pq,_⟩:=I4.loc
   have pD:=I4.pin (D,Eh ic n) (by simp[XB,Cx.block])
   exact hRR D C ys ic n H3 s4 m' (aab _) UL OO Pq pD.1 vs hz pD.2.1 I4.free I4.os I4.bare I4.base I4.iL qn
  ·refine i7 (T.item XB rfl rfl rfl hc i _ s3 σ3 H3 NM I3 (YG ql UB) mz go) fun r s4 ⟨u,hr,h4⟩=>?_
   subst hr
   refine i7 h4 fun _ s5 ⟨x,H5,I5,r5,y5,RF,Yu⟩=>?_
   have Yv:=I5.pinned (YG ql Yu) (T.obj _ _ RF)
   refine i7 (hg C s H fp _ s5 σ3 H5 x u _ Yv r5 (step x H5 y5)) fun _ s6 ⟨σ6,H6,I6,q6⟩=>?_
   have yk:∀{σ7:St} {H7:Hp} {s7:Shared},Inv XB ([(D,Eh ic n)]++A4 fp s5.heap) σ7 H7 s7→tn (i+1) s7.heap∧∀b∈fp,H7 b=none:=fun{σ7 H7 s7} I7=>
    ⟨T.keep _ _ _ RF fun b hb o e=>(I7.pin (b,o) (aaS _ (aaS _ (rB hb e)))).1,fun b hb=>by
     obtain⟨o,e,d⟩:=T.obj _ _ RF b hb
     exact(I7.pin (b,o) (aaS _ (aaS _ (rB hb e)))).2.1⟩
   refine i7 (ht C s H fp _ s6 σ6 H6 _ I6 q6) fun ok s7 ⟨H7,I7,q7⟩=>?_
   cases ok with
   | false=>
    rw[aau aak] at q7 ⊢
    obtain⟨m',hm,w7⟩:=hN _ _ _ q7
    exact⟨m',hm,i+1,ys,ic,n,σ6,H7,I7.xc,vs,(yk I7).1,(yk I7).2,w7⟩
   | true=>
    rw[aax rfl] at q7 ⊢
    refine i7 (he C s H fp _ s7 σ6 H7 _ I7 q7) fun y s8 ⟨v,H8,I8,r8,n8⟩=>?_
    obtain⟨m',hm,w8⟩:=hN _ _ _ n8
    obtain⟨st8,fr8⟩:=yk I8
    have pD:=I8.pin (D,Eh ic n) (by simp)
    have hl:=vs.length
    refine append_at (hsz:=by show ic.toArray.size≤sizeLine;rw[aar,←hl];exact hz) pD.1 fun h9 sb9 e9=>?_
    have I9:Inv XB [] σ6 H8 {s8 with heap:=h9}:=by
     have J8:Inv XB [] σ6 H8 s8:=I8.AI fun p hp=>nomatch hp
     exact J8.turned (t':=s8.toks) (it:=D) (fun b o hb e=>sb9.extBut b o hb e) pD.2.1 OO (.inr (acA hD)) (fun x c e=>UN x c e) fun p hp=>by simp[XB,Cx.block] at hp
    refine⟨m',hm,i+1,ys++[v],ic++[y],n+1,σ6,H8,I9.AI fun p hp=>?_,vs.append (.cons r8 .nil),T.keep _ _ _ st8 fun b hb o e=>sb9.extBut b o (hfD b hb) e,fr8,w8⟩
    rw[Yc.mp hp]
    refine⟨?_,pD.2.1,OO,fun hm=>?_,fun v z=>nomatch z⟩
    ·rw[e9]
     show some _=some _
     rw[List.push_toArray]
    ·exact pD.2.2.2.1 hm
 exact codeAny_compStart_list loop (T.self _ 0 _ _ _ KU loop)
variable{elt tg iter:Expr}{ifs:List Expr}{pos MR py:Pos}{wi:TI}{g:TG}{tt:TT}{te:TE}
theorem zu{D:Addr}{ys:List V}{ic:List Value}{n:Nat}{H':Hp}{s':Shared}{fp:List Addr}(I:Inv X c_ σ H s)(hf:∀b∈fp,vT X c_ H b)(hD:s.heap.objs.size≤D)(e:s'.heap.get? D=some (Eh ic n))(vs:Vals ys ic)(hz:ys.length≤sizeLine)
  (nD:H' D=none) (os:s'.os=s.os) (bare:AllBare s'.gens) (un:Un (tw X.stack) fp H H' s.heap s'.heap) (iL:rl X.prog X.w H' s'.heap):Inv X c_ σ (upd H' D (.lst ys)) s':=by
 have neD:∀b o,s.heap.get? b=some o→b≠D:=fun b o q=>aa1 (aaK (aaD q) hD)
 refine I.O6 (ch:=fp) os ⟨un.keep,un.slot,fun b o q nn hx=>by rw[e_ (neD b o q)];exact un.free b o q nn hx,un.there,fun b xs q=>?_,fun b o u q=>?_,fun b ps q=>?_⟩ (iL.Jb nD ⟨hz,ic,n,vs,e⟩) bare fun b hb=>?_
 ·have q':=un.qm b xs q
  rw[e_ (gn q' nD)];exact q'
 ·have q':=un.tF b o u q
  rw[e_ (gn q' nD)];exact q'
 ·obtain⟨more,q'⟩:=un.vS b ps q
  exact⟨more,by rw[e_ (gn q' nD)];exact q'⟩
 ·obtain⟨f0,f1,f2,f3,f4,f5⟩:=hf b hb
  exact⟨f3,f1,f4,f5⟩
theorem Bc{C:Addr}{h':Heap}{s0:Shared}(I:Inv X c_ σ H s)(hC:s0.heap.objs.size≤C)(nC:H C=none)(UO:Heap.SameBut C s.heap h')(I0:∃σ0 H0,Inv X c_ σ0 H0 s0):Inv X c_ σ H {s with heap:=h'}:=by
 obtain⟨σ0,H0,I0⟩:=I0
 obtain⟨_,f1,_,f3,f4,f5⟩:=I0.A2 (H':=fun _=>none) hC rfl
 exact I.turned (t':=s.toks) (fun b o hb e=>UO.extBut b o hb e) nC f1 f3 f4 f5
theorem xn(N:List Str)(out:List (Str×NameKind))(is:List Nat)(hc:X.calm=true)(hi:PI X tg iter wi)(hk:scope.kind=.function)(hs:J3 N out is scope.names=true)
  (hg:∀C s H ex,PG (X.block scope (jP X.env.cells scope.names []) C s H ex) tg g) (ht:∀C s H ex,Qy (X.block scope (jP X.env.cells scope.names []) C s H ex) ifs tt)
  (he:∀C s H ex,∃t,PE (X.block scope (jP X.env.cells scope.names []) C s H ex) elt t∧t=te) (Cc:∀x,foldedSetIterable iter X.env x=pure x:=by intro _;rfl) (eN:X.N=N:=by rfl) (eo:X.env.scope.names=out:=by rfl) :
  PE X (.ListComp elt [⟨tg,iter,ifs,0⟩] scope pos) (Wl is wi g tt te):=by
 intro c_ s σ H Q I h
 subst eN eo
 have S:=Eg.of hs
 rw[eval_ListComp]
 refine wpAny_comprehension_free (use:=none) rfl Cc (vA (Bb I S)) hk S.loc (i7 (hi c_ s σ H _ I h) fun v s1 h1=>i7 h1 fun Wv s2 h2=>?_)
 obtain⟨it,fp,tn,J,H2,rfl,I2,T,C_,f2,h2⟩:=h2
 refine DE (RR:=fun acc C=>compPost (model X.prog X.w) X.A X.xe none (EP X c_ σ Q) acc C) I2 hc S hk hg ht (fun C s H ex=>let ⟨_,h,e⟩:=he C s H ex;PE.eqv h e) T C_ f2 h2 ?_
 intro D C ys ic n H' s' m hD hC OO hn e vs hz nD nC os bare un iL q
 have J1:Inv X c_ σ (upd H' D (.lst ys)) s':=zu I2 f2 hD e vs hz nD os bare un iL
 refine⟨m,hn,fun h' UO=>⟨.ref D,_,Bc J1 hC (by rw[e_ (abT OO)];exact nC) UO ⟨_,_,I2⟩,rfl,q D nD⟩⟩
theorem Be{y:Str}{j:Nat}(N:List Str)(out:List (Str×NameKind))(is:List Nat)(hN:X.N.Nodup)(hj:X.N[j]?=some y)(hy:X.env.scope.names.lookup y=some .local)(hc:X.calm=true)(hi:PI X tg iter wi)(hk:scope.kind=.function)(hs:J3 N out is scope.names=true)
  (hg:∀C s H ex,PG (X.block scope (jP X.env.cells scope.names []) C s H ex) tg g) (ht:∀C s H ex,Qy (X.block scope (jP X.env.cells scope.names []) C s H ex) ifs tt)
  (he:∀C s H ex,∃t,PE (X.block scope (jP X.env.cells scope.names []) C s H ex) elt t∧t=te)
  (YH:swapsWith (.ListComp elt [⟨tg,iter,ifs,0⟩] scope pos) (some (.Name y py)) MR.line X.env=pure true:=by rfl) (Cc:∀x,foldedSetIterable iter X.env x=pure x:=by intro _;rfl) (eN:X.N=N:=by rfl) (eo:X.env.scope.names=out:=by rfl) :
  PS X (.Assign [.Name y py] (.ListComp elt [⟨tg,iter,ifs,0⟩] scope pos) MR) (Ld (Wl is wi g tt te) (nE j)):=by
 intro c_ s σ H Dn I h
 subst eN eo
 have S:=Eg.of hs
 rw[exec_Assign_Name_used _ _ _ _ YH]
 refine XX (wpAny_standAt (XX ?_))
 show wpAny _ _ (do let _ ←comprehension (.ListComp elt [⟨tg,iter,ifs,0⟩] scope pos) scope X.env _ (newList []) false (eval iter X.env) (some (assign (.Name y py) X.env))) _ _ s
 refine XX (abv (wpAny_comprehension_free (use:=some (assign (.Name y py) X.env)) (Q:=fun _ s'=>SP X c_ Dn .next s') rfl Cc (vA (Bb I S)) hk S.loc
  (i7 (hi c_ s σ H _ I h) fun v s1 h1=>i7 h1 fun Wv s2 h2=>?_)) (fun _ s' hq=>aas (aas hq)) fun _ _ e=>e)
 obtain⟨it,fp,tn,J,H2,rfl,I2,T,C_,f2,h2⟩:=h2
 refine DE (RR:=fun acc C=>compPost (model X.prog X.w) X.A X.xe (some (assign (.Name y py) X.env)) (fun _ s'=>SP X c_ Dn .next s') acc C) I2 hc S hk hg ht (fun C s H ex=>let ⟨_,h,e⟩:=he C s H ex;PE.eqv h e) T C_ f2 h2 ?_
 intro D C ys ic n H' s' m hD hC OO hn e vs hz nD nC os bare un iL q
 have J1:Inv X c_ σ (upd H' D (.lst ys)) s':=zu I2 f2 hD e vs hz nD os bare un iL
 show wpAny _ _ (assign (.Name y py) X.env (.ref D)) _ _ _
 refine wpAny_assign_Name (Di J1 hN hj (.inl hy) (v:=.ref D) rfl (fun s5 J5 ⟨a,sb,ha⟩=>?_) (.inr hy))
 have hCa:C≠a:=by
  obtain⟨_,f1,_,f3,f4,f5⟩:=I2.A2 (H':=fun _=>none) hC rfl
  rcases ha with z|z
  ·rw[z];exact f1
  ·exact fun q=>f4 _ _ z q.symm
 exact⟨m,hn.sameBut sb hCa,fun h' UO=>⟨_,_,Bc J5 hC (by rw[e_ (abT OO)];exact nC) UO ⟨_,_,I2⟩,q D nD⟩⟩
end
section
variable{X:Cx}{elt tg iter:Expr}{ifs:List Expr}{scope:Scope}{pos:Pos}{wi:TI}{g:TG}{tt:TT}{te:TE}{py MR:Pos}
theorem tM(N:List Str)(out:List (Str×NameKind))(is:List Nat)(hc:X.calm=true)(hi:PI X tg iter wi)(hk:scope.kind=.function)(hs:J3 N out is scope.names=true)
 (hg:∀C s H ex,PG (X.block scope (jP X.env.cells scope.names []) C s H ex) tg g) (ht:∀C s H ex,∃t,Qy (X.block scope (jP X.env.cells scope.names []) C s H ex) ifs t∧t=tt)
 (he:∀C s H ex,∃t,PE (X.block scope (jP X.env.cells scope.names []) C s H ex) elt t∧t=te) (Cc:∀x,foldedSetIterable iter X.env x=pure x:=by intro _;rfl) (eN:X.N=N:=by rfl) (eo:X.env.scope.names=out:=by rfl) :
 PE X (.ListComp elt [⟨tg,iter,ifs,0⟩] scope pos) (Wl is wi g tt te):=xn N out is hc hi hk hs hg (fun C s H ex=>let ⟨_,h,e⟩:=ht C s H ex;e▸h) he Cc eN eo
theorem Bf{y:Str}{j:Nat}(N:List Str)(out:List (Str×NameKind))(is:List Nat)(hN:X.N.Nodup)(hj:X.N[j]?=some y)(hy:X.env.scope.names.lookup y=some .local)(hc:X.calm=true)(hi:PI X tg iter wi)(hk:scope.kind=.function)(hs:J3 N out is scope.names=true)
 (hg:∀C s H ex,PG (X.block scope (jP X.env.cells scope.names []) C s H ex) tg g) (ht:∀C s H ex,∃t,Qy (X.block scope (jP X.env.cells scope.names []) C s H ex) ifs t∧t=tt)
 (he:∀C s H ex,∃t,PE (X.block scope (jP X.env.cells scope.names []) C s H ex) elt t∧t=te)
 (YH:swapsWith (.ListComp elt [⟨tg,iter,ifs,0⟩] scope pos) (some (.Name y py)) MR.line X.env=pure true:=by rfl) (Cc:∀x,foldedSetIterable iter X.env x=pure x:=by intro _;rfl) (eN:X.N=N:=by rfl) (eo:X.env.scope.names=out:=by rfl) :
 PS X (.Assign [.Name y py] (.ListComp elt [⟨tg,iter,ifs,0⟩] scope pos) MR) (Ld (Wl is wi g tt te) (nE j)):=Be N out is hN hj hy hc hi hk hs hg (fun C s H ex=>let ⟨_,h,e⟩:=ht C s H ex;e▸h) he YH Cc eN eo
end
theorem tN{lo:Int}{n:Nat}{g:TG}{tt:TT}{te:TE}{Q:List V→Hp→Prop}{σ:St}{H:Hp}(hn:n≤sizeLine)(Pv:Nat→List V→St→Hp→Prop)(h0:Pv 0 [] σ H)(hlen:∀i ys σ H,Pv i ys σ H→ys.length≤i)
  (hs:∀i ys σ H,i<n→Pv i ys σ H→g (.int (lo+i)) σ H fun σ2 H2=>tt σ2 H2 fun b H3=>if b=true then te σ2 H3 fun v H4=>Pv (i+1) (ys++[v]) σ2 H4 else Pv (i+1) ys σ2 H3)
  (hd:∀ys σ H,Pv n ys σ H→Q ys H):J6 g tt te (O7 lo n) Q σ H:=by
 refine⟨fun i m ys σ H=>m=n-i∧i≤n∧Pv i ys σ H,⟨n,by simp,aaU _,h0⟩,?_⟩
 rintro i m ys σ H ⟨rfl,hi,p⟩
 have hl:=hlen i ys σ H p
 by_cases my:i<n
 ·refine .inr ⟨my,by omega,Pv (i+1),fun SG σ' H' p'=>⟨n-(i+1),by omega,rfl,my,p'⟩,fun x H' y=>?_⟩
  obtain⟨rfl,rfl⟩:=y
  exact hs i ys σ _ my p
 ·have e:i=n:=by omega
  subst e
  exact .inl ⟨aab _,by omega,hd ys σ H p⟩
theorem jE{K:Qqy}{a:Addr}{xs:List V}{g:TG}{tt:TT}{te:TE}{Q:List V→Hp→Prop}{σ:St}{H:Hp}(hn:xs.length≤sizeLine)(Pv:Nat→List V→St→Hp→Prop)(h0:Pv 0 [] σ H)(hl:∀i ys σ H,i≤xs.length→Pv i ys σ H→gK K H a xs∧ys.length≤i)
  (hs:∀i x ys σ H,xs[i]?=some x→Pv i ys σ H→g x σ H fun σ2 H2=>tt σ2 H2 fun b H3=>if b=true then te σ2 H3 fun v H4=>Pv (i+1) (ys++[v]) σ2 H4 else Pv (i+1) ys σ2 H3)
  (hd:∀ys σ H,Pv xs.length ys σ H→Q ys H):J6 g tt te (Sr K a) Q σ H:=by
 refine⟨fun i m ys σ H=>m=xs.length-i∧i≤xs.length∧Pv i ys σ H,⟨xs.length,by simp,aaU _,h0⟩,?_⟩
 rintro i m ys σ H ⟨rfl,hi,p⟩
 obtain⟨q,hy⟩:=hl i ys σ H hi p
 by_cases my:i<xs.length
 ·refine .inr ⟨⟨xs,xs[i],q,by simp[my]⟩,by omega,Pv (i+1),fun SG σ' H' p'=>⟨xs.length-(i+1),by omega,rfl,my,p'⟩,fun x H' y=>?_⟩
  obtain⟨rfl,y⟩:=y
  exact hs i x ys σ _ (y xs q) p
 ·have e:i=xs.length:=by omega
  subst e
  exact .inl ⟨⟨xs,q,aab _⟩,by omega,hd ys σ H p⟩
end L2
namespace PySem
section
variable{prog:Program}{w:World}{A:Around}{E:Qqq}{s:Shared}
end
end PySem
namespace L2
open PySem PySem.Spec PyProof.Rows
def TJ(lo st:Int)(n:Nat):It:=⟨fun i _=>i<n,fun i H x H'=>H'=H∧x=.int (lo+i*st),fun i _=>n≤i⟩
theorem Gi{P:Program}{w:World}{K:PySem.W.Frag}{tg:Expr}(it:Addr)(lo st:Int)(n:Nat):Turn P w K tg (TJ lo st n) [it] it (fun i h=>IsRangeIter h it (lo+(i:Nat)*st) ((n:Int)-(i:Nat)) st) where
 mem:=by simp
 obj:=fun i h st b hb=>by
  have e:b=it:=by simpa using hb
  subst e
  exact⟨_,st,fun v z=>by
   have z':Data.fields _=Data.cell v:=z
   cases z'⟩
 keep:=fun i h h' st k=>k it (by simp) _ st
 item:=by
  intro X hP hw hK hc i c_ s σ H E I hf stt hg
  subst hP hw hK
  obtain⟨f0,f1,f2,f3,f4,f5⟩:=hf it (by simp)
  have W:=Walks.range (prog:=X.prog) (w:=X.w) (I.ok.hd hc) it lo st n
  refine W.item i s _ _ hg stt fun v h' tk hv C9 kk=>?_
  obtain⟨t,rfl⟩:=hv
  have I1:Inv X c_ σ H {s with heap:=h',toks:=tk}:=I.turned (fun b o hb e=>kk b o (by simpa using hb) e) f0 f1 f3 f4 f5
  exact⟨_,rfl,A3 (s:={s with heap:=h',toks:=tk}) (n:="range_iterator") C9 rfl rfl (by decide) ⟨.int (lo+i*st),H,I1,⟨t,rfl⟩,⟨rfl,rfl⟩,C9,fun b hb=>(hf b hb).1⟩⟩
 done:=by
  intro X hP hw hK hc i c_ s σ H E I hf st hg
  subst hP hw hK
  obtain⟨f0,f1,f2,f3,f4,f5⟩:=hf it (by simp)
  exact wpAny_pyNext_range_end (I.ok.hd hc) st (by have:n≤i:=hg;omega) fun h' eb=>⟨rfl,I.turned (t':=s.toks) (fun b o hb e=>eb b o hb e) f0 f1 f3 f4 f5⟩
 self:=fun _ _ _ _ _ st h=>wpAny_pyIter_rangeiter st h
theorem rangeSize_down(a b:Int):Builtin.Range.rangeSize a b (-1)=((a-b).toNat:Int):=by
 unfold Builtin.Range.rangeSize
 simp only [show ¬((-1:Int)>0) by decide,acf]
 have e:(- -1:Int)=1:=by decide
 rw[e,Int.ediv_one]
 split<;>omega
theorem small_down{a b:Int}(ha:-(2 ^ 61)≤a)(ha':a<2 ^ 61)(hb:-(2 ^ 61)≤b)(SH:b<2 ^ 61):Builtin.Range.small a b (-1)=true:=by
 unfold Builtin.Range.small
 rw[rangeSize_down]
 simp only [Builtin.Range.rangeFitsLong,abc,acn,ab7,ab4,show ¬((-1:Int)>0) by decide,acf]
 omega
section
variable{X:Cx}{tg:Expr}
def TK(ta:TA):TI:=fun σ H R=>ta σ H fun vs H1=>∃i j:Int,vs=[.int i,.int j,.int (-1)]∧(-(2 ^ 61)≤i∧i<2 ^ 61∧-(2 ^ 61)≤j∧j<2 ^ 61)∧R (TJ i (-1) (i-j).toNat) H1
theorem yA{a b c:Expr}{ta:TA}{p pos:Pos}(hg:Gl X "range")(hm:X.mg "range"=none)(ha:PA X [a,b,c] ta)(hs:starEach [a,b,c] X.env=[(false,eval a X.env),(false,eval b X.env),(false,eval c X.env)]:=by rfl)
  (K6:starEach [b,c] X.env=[(false,eval b X.env),(false,eval c X.env)]:=by rfl):PI X tg (.Call (.Name "range" p) [a,b,c] [] pos) (TK ta):=by
 intro c_ s σ H R I h
 refine Call_ (qo I hg hm boot_range (aa7 (i7 (ha pos c_ s σ H _ I h) fun us s1 ⟨vs,H1,I1,r1,q1⟩=>?_) (by rw[hs,K6]) (by rw[K6];rfl)))
 obtain⟨i,j,e,⟨q1,q2,q3,q4⟩,q⟩:=q1
 subst e
 cases r1 with
 | cons r rr=>
  cases rr with
  | cons r' rr=>
   cases rr with
   | cons r'' rr=>
    cases rr
    obtain⟨t,rfl⟩:=r
    obtain⟨t',rfl⟩:=r'
    obtain⟨t'',rfl⟩:=r''
    refine call_range_3 (by decide) ?_ (Or.inl (PyProof.noPylong_small (by decide)))
    refine wpAny_pyIter_range (IsRange.new ..) (small_down q1 q2 q3 q4) ?_
    generalize ho:({cls:=.type "range",data:=.fields #[.int i t,.int j t',.int (-1) t'']}:Obj)=o
    have I2:Inv X c_ σ H1 {s1 with heap:=s1.heap.push o,toks:=s1.toks}:=I1.kept fun b o e=>aao _ e
    refine⟨(s1.heap.push o).objs.size,[(s1.heap.push o).objs.size],_,_,H1,rfl,I2.kept (t':=s1.toks) fun b o e=>aao _ e,Gi _ i (-1) (i-j).toNat,?_,fun b hb=>?_,q⟩
    ·show IsRangeIter _ _ (i+((0:Nat):Int)*(-1)) ((((i-j).toNat:Nat):Int)-((0:Nat):Int)) (-1)
     have e1:i+((0:Nat):Int)*(-1)=i:=by simp
     have e2:(((i-j).toNat:Nat):Int)-((0:Nat):Int)=Builtin.Range.rangeSize i j (-1):=by rw[rangeSize_down];simp
     rw[e1,e2]
     exact aaI _ rfl
    ·have e:b=(s1.heap.push o).objs.size:=by simpa using hb
     subst e
     exact I2.A2 (aab _) (I2.iL.fresh (aab _))
end
theorem vY{lo st:Int}{n:Nat}{g:TG}{tb:TS}{D:Ends}{σ:St}{H:Hp}(Pv:Nat→St→Hp→Prop)(h0:Pv 0 σ H)
  (hs:∀i σ H,i<n→Pv i σ H→g (.int (lo+i*st)) σ H fun σ2 H2=>tb {D with nx:=Pv (i+1),ct:=Pv (i+1),bk:=D.nx} σ2 H2) (hd:∀σ H,Pv n σ H→D.nx σ H) :
  ∃W:Nat→Nat→St→Hp→Prop,(∃m,W 0 m σ H)∧∀i m σ H,W i m σ H→
   ((TJ lo st n).stop i H∧D.nx σ H)∨((TJ lo st n).go i H∧∃N:St→Hp→Prop,(∀σ' H',N σ' H'→∃m',m'<m∧W (i+1) m' σ' H')∧∀x H',(TJ lo st n).Le i H x H'→g x σ H' fun σ2 H2=>tb {D with nx:=N,ct:=N,bk:=D.nx} σ2 H2):=by
 refine⟨fun i m σ H=>m=n-i∧i≤n∧Pv i σ H,⟨n,by simp,aaU _,h0⟩,?_⟩
 rintro i m σ H ⟨rfl,hi,p⟩
 by_cases my:i<n
 ·refine .inr ⟨my,Pv (i+1),fun σ' H' p'=>⟨n-(i+1),by omega,rfl,my,p'⟩,fun x H' y=>?_⟩
  obtain⟨e,y⟩:=y
  subst e y
  exact hs i σ _ my p
 ·have e:i=n:=by omega
  subst e
  exact .inl ⟨aab _,hd σ H p⟩
section
variable{X:Cx}
theorem zv:vz X (.builtin "isinstance") (fun xs H Q=>∃x T t b,xs=[x,.ty T]∧yv X.K H x t∧W.kitOne X.K t (.type T)=some b∧Q (.bl b) H):=by
 intro c_ s σ H xs us Q I r h
 obtain⟨x,T,t,b,rfl,ty,e,q⟩:=h
 obtain⟨u,u',rfl,ru,YI⟩:=vals2 r
 cases (show u'=Value.type T from YI)
 exact JX I ru ty e fun tk=>⟨.bl b,H,I.tok tk,rfl,q⟩
theorem Bg:∀{xs:List Str} {us:List Value},Vals (xs.map V.str) us→StrsAre us xs
 | [],_,h=>by cases h;exact .nil
 | x::r,_,h=>by
  cases h with
  | cons a t=>
   obtain⟨tk,rfl⟩:=a
   exact .cons x tk (Bg t)
def rJoin(K:Qqy):V→List V→Hp→VK→Prop:=fun x vs H Q=>∃z l xs,x=.str z∧vs=[.ref l]∧gK K H l (xs.map V.str)∧(xs.map (·.length)).sum+xs.length*z.length≤16777216∧Q (.str (Txt.join z xs)) H
theorem NN:XE X "str.join" (rJoin X.K):=by
 intro c_ s σ H x xs v us Q I rx r h
 obtain⟨z,l,ys,rfl,rfl,hl,hz,q⟩:=h
 obtain⟨u,rfl,ru⟩:=vals1 r
 cases ru
 obtain⟨t,rfl⟩:=rx
 obtain⟨ic,rv,p,_⟩:=I.list hl
 exact join_list p.isList (by simpa using Bg rv) hz fun t' k=>⟨.str _,H,I.tok k,⟨t',rfl⟩,q⟩
end
inductive o3(K:Qqy)(H:Hp):Nat→V→V→Bool→Prop
 | flat {n x y} (fx:kS x=true) (fy:kS y=true):o3 K H n x y (Ja x y)
 | lists {n a c xs ys} {e:Nat→Bool} (h1:gK K H a xs) (h2:gK K H c ys) (hl:xs.length=ys.length) (he:∀(j:Nat) u v,xs[j]?=some u→ys[j]?=some v→o3 K H n u v (e j)):o3 K H (n+1) (.ref a) (.ref c) ((List.range xs.length).all e)
 | NO {n a c xs ys} (h1:gK K H a xs) (h2:gK K H c ys) (hl:xs.length≠ys.length):o3 K H n (.ref a) (.ref c) false
 | qm {n a c xs ys} {e:Nat→Bool} (h1:yo K H a xs) (h2:yo K H c ys) (he:∀(j:Nat) u v,xs[j]?=some u→ys[j]?=some v→o3 K H n u v (e j)):o3 K H (n+1) (.ref a) (.ref c) ((List.range (min xs.length ys.length)).all e&&xs.length ==ys.length)
 | yB {n a xs y} (h1:gK K H a xs) (fy:kS y=true):o3 K H n (.ref a) y false
 | yC {n a xs y} (h1:gK K H a xs) (fy:kS y=true):o3 K H n y (.ref a) false
 | Bh {n a xs y} (h1:yo K H a xs) (fy:kS y=true):o3 K H n (.ref a) y false
 | Bi {n a xs y} (h1:yo K H a xs) (fy:kS y=true):o3 K H n y (.ref a) false
 | Bj {n a c xs ys} (h1:gK K H a xs) (h2:yo K H c ys):o3 K H n (.ref a) (.ref c) false
 | Bk {n a c xs ys} (h1:yo K H a xs) (h2:gK K H c ys):o3 K H n (.ref a) (.ref c) false
theorem Lz:∀{x:V},kS x=true→Ja x x=true:=by
 intro x h
 cases x<;>simp[kS,Ja] at *
section
variable{X:Cx}{c_:Qqz}{σ:St}{H:Hp}{s:Shared}
theorem Inv.Pd{a c:Addr}{xs ys:List V}(I:Inv X c_ σ H s)(h1:gK X.K H a xs)(h2:yo X.K H c ys):a≠c:=by
 obtain⟨ic,_,p,_⟩:=I.list h1
 obtain⟨nj,_,p2,_⟩:=I.tuple h2
 exact SeqAt.ne_of_list_tuple p.isList (show s.heap.IsTuple c nj.toArray from p2)
theorem o3.self{n:Nat}{x y:V}{b:Bool}(I:Inv X c_ σ H s)(h:o3 X.K H n x y b):x=y→b=true:=by
 induction h with
 | flat fx fy=>intro e;subst e;exact Lz fx
 | lists h1 h2 hl he ih=>
  intro e
  cases e
  have:=I.qF h1 h2
  subst this
  refine abL.mpr fun j hj=>?_
  have hj:=acu.mp hj
  exact ih j _ _ (Y0 hj) (Y0 hj) rfl
 | NO h1 h2 hl=>intro e;cases e;exact absurd (abb List.length (I.qF h1 h2)) hl
 | qm h1 h2 he ih=>
  intro e
  cases e
  have:=I.JR h1 h2
  subst this
  rw[abc]
  refine⟨abL.mpr fun j hj=>?_,by simp⟩
  have hj:=acu.mp hj
  rw[Nat.min_self] at hj
  exact ih j _ _ (Y0 hj) (Y0 hj) rfl
 | yB h1 fy=>intro e;subst e;exact absurd (show false=true from fy) aak
 | yC h1 fy=>intro e;subst e;exact absurd (show false=true from fy) aak
 | Bh h1 fy=>intro e;subst e;exact absurd (show false=true from fy) aak
 | Bi h1 fy=>intro e;subst e;exact absurd (show false=true from fy) aak
 | Bj h1 h2=>intro e;cases e;exact absurd rfl (I.Pd h1 h2)
 | Bk h1 h2=>intro e;cases e;exact absurd rfl (I.Pd h2 h1)
theorem rD{y:V}{v:Value}(r:RelV y v)(f:kS y=true):v=.none∨(∃b,v=.bool b)∨(∃i t,v=.int i t)∨∃x t,v=.str x t:=by
 cases y with
 | js=>exact .inl r
 | bl b=>exact .inr (.inl ⟨b,r⟩)
 | int i=>obtain⟨t,e⟩:=r;exact .inr (.inr (.inl ⟨i,t,e⟩))
 | str x=>obtain⟨t,e⟩:=r;exact .inr (.inr (.inr ⟨x,t,e⟩))
 | _=>exact absurd (show false=true from f) aak
theorem pS{xs:List V}{ic:List Value}(rv:Vals xs ic){j:Nat}(h:j<ic.toArray.size):∃x,xs[j]?=some x∧RelV x ic.toArray[j]:=by
 have hl:=rv.length
 have hj:j<ic.length:=by simpa using h
 have hx:j<xs.length:=by omega
 obtain⟨u,hu,ru⟩:=rv.get (Y0 hx)
 refine⟨xs[j],Y0 hx,?_⟩
 rw[Y0 hj] at hu
 cases hu
 simpa using ru
theorem o3.at{n:Nat}{x y:V}{b:Bool}(I:Inv X c_ σ H s)(h:o3 X.K H n x y b):∀(A:Around)(u v:Value),RelV x u→RelV y v→A.units+n<cLine→SeqAt.EqAt A s u v b:=by
 induction h with
 | flat fx fy=>intro A u v ru rv _;exact Ll ru rv fx fy
 | @lists n a c xs ys e h1 h2 hl he ih=>
  intro A u v ru rv hu
  cases ru;cases rv
  by_cases UP:a=c
  ·subst UP
   have hb:=o3.self I (o3.lists h1 h2 hl he) rfl
   rw[hb]
   exact SeqAt.EqAt.same _
  ·obtain⟨ic,r1,p1,_⟩:=I.list h1
   obtain⟨nj,r2,p2,_⟩:=I.list h2
   have l1:=r1.length
   have l2:=r2.length
   refine SeqAt.EqAt.of_refs UP ?_
   have q:=SeqAt.RcAt.lists (A:=A) (e:=e) p1.isList p2.isList (by simp;omega) (by omega) fun j g1 g2=>by
    obtain⟨x,ex,rx⟩:=pS r1 g1
    obtain⟨y,ey,ry⟩:=pS r2 g2
    exact ih j x y ex ey A.in1 _ _ rx ry (by show A.units+1+n<cLine;omega)
   rw[aar,←l1] at q
   exact q
 | @NO n a c xs ys h1 h2 hl=>
  intro A u v ru rv hu
  cases ru;cases rv
  obtain⟨ic,r1,p1,_⟩:=I.list h1
  obtain⟨nj,r2,p2,_⟩:=I.list h2
  have l1:=r1.length
  have l2:=r2.length
  refine SeqAt.EqAt.of_refs (fun e=>?_) (SeqAt.RcAt.lists_lengths p1.isList p2.isList (by simp;omega) (by omega))
  subst e
  exact hl (abb List.length (I.qF h1 h2))
 | @qm n a c xs ys e h1 h2 he ih=>
  intro A u v ru rv hu
  cases ru;cases rv
  by_cases UP:a=c
  ·subst UP
   have hb:=o3.self I (o3.qm h1 h2 he) rfl
   rw[hb]
   exact SeqAt.EqAt.same _
  ·obtain⟨ic,r1,p1,_⟩:=I.tuple h1
   obtain⟨nj,r2,p2,_⟩:=I.tuple h2
   have l1:=r1.length
   have l2:=r2.length
   refine SeqAt.EqAt.of_refs UP ?_
   have q:=SeqAt.RcAt.tuples (A:=A) (e:=e) (show s.heap.IsTuple a ic.toArray from p1) (show s.heap.IsTuple c nj.toArray from p2) (by omega) fun j g1 g2=>by
    obtain⟨x,ex,rx⟩:=pS r1 g1
    obtain⟨y,ey,ry⟩:=pS r2 g2
    exact ih j x y ex ey A.in1 _ _ rx ry (by show A.units+1+n<cLine;omega)
   rw[aar,aar,←l1,←l2] at q
   exact q
 | @yB n a xs y h1 fy=>
  intro A u v ru rv hu
  cases ru
  obtain⟨ic,r1,p1,_⟩:=I.list h1
  rcases rD rv fy with rfl|⟨b,rfl⟩|⟨i,t,rfl⟩|⟨x,t,rfl⟩
  ·exact .list_none p1.isList (by omega)
  ·exact .list_bool b p1.isList (by omega)
  ·exact .list_int i t p1.isList (by omega)
  ·exact .list_str x t p1.isList (by omega)
 | @yC n a xs y h1 fy=>
  intro A u v ru rv hu
  cases rv
  obtain⟨ic,r1,p1,_⟩:=I.list h1
  rcases rD ru fy with rfl|⟨b,rfl⟩|⟨i,t,rfl⟩|⟨x,t,rfl⟩
  ·exact .none_list p1.isList (by omega)
  ·exact .bool_list b p1.isList (by omega)
  ·exact .int_list i t p1.isList (by omega)
  ·exact .str_list x t p1.isList (by omega)
 | @Bh n a xs y h1 fy=>
  intro A u v ru rv hu
  cases ru
  obtain⟨ic,r1,p1,_⟩:=I.tuple h1
  have p1:s.heap.IsTuple a ic.toArray:=p1
  rcases rD rv fy with rfl|⟨b,rfl⟩|⟨i,t,rfl⟩|⟨x,t,rfl⟩
  ·exact .tuple_none p1 (by omega)
  ·exact .tuple_bool b p1 (by omega)
  ·exact .tuple_int i t p1 (by omega)
  ·exact .tuple_str x t p1 (by omega)
 | @Bi n a xs y h1 fy=>
  intro A u v ru rv hu
  cases rv
  obtain⟨ic,r1,p1,_⟩:=I.tuple h1
  have p1:s.heap.IsTuple a ic.toArray:=p1
  rcases rD ru fy with rfl|⟨b,rfl⟩|⟨i,t,rfl⟩|⟨x,t,rfl⟩
  ·exact .none_tuple p1 (by omega)
  ·exact .bool_tuple b p1 (by omega)
  ·exact .int_tuple i t p1 (by omega)
  ·exact .str_tuple x t p1 (by omega)
 | @Bj n a c xs ys h1 h2=>
  intro A u v ru rv hu
  cases ru;cases rv
  obtain⟨ic,r1,p1,_⟩:=I.list h1
  obtain⟨nj,r2,p2,_⟩:=I.tuple h2
  exact .list_tuple p1.isList (show s.heap.IsTuple c nj.toArray from p2) (by omega)
 | @Bk n a c xs ys h1 h2=>
  intro A u v ru rv hu
  cases ru;cases rv
  obtain⟨ic,r1,p1,_⟩:=I.tuple h1
  obtain⟨nj,r2,p2,_⟩:=I.list h2
  exact .tuple_list (show s.heap.IsTuple a ic.toArray from p1) p2.isList (by omega)
def Qz(x y:V):Prop:=∃a c,x=.ref a∧y=.ref c
theorem o3.rc{n:Nat}{x y:V}{b:Bool}{A:Around}{u v:Value}(I:Inv X c_ σ H s)(h:o3 X.K H n x y b)(sq:Qz x y)(ru:RelV x u)(rv:RelV y v)(hu:A.units+n+1<cLine):SeqAt.RcAt A s u v b∧SeqAt.RcNeAt A s u v (!b):=by
 obtain⟨a0,c0,rfl,rfl⟩:=sq
 cases ru;cases rv
 cases h with
 | flat fx fy=>exact absurd (show false=true from fx) aak
 | @lists n a c xs ys e h1 h2 hl he=>
  obtain⟨ic,r1,p1,_⟩:=I.list h1
  obtain⟨nj,r2,p2,_⟩:=I.list h2
  have l1:=r1.length
  have l2:=r2.length
  have el:∀j (g1:j<ic.toArray.size) (g2:j<nj.toArray.size),SeqAt.EqAt A.in1 s ic.toArray[j] nj.toArray[j] (e j):=fun j g1 g2=>by
   obtain⟨x,ex,rx⟩:=pS r1 g1
   obtain⟨y,ey,ry⟩:=pS r2 g2
   exact(he j x y ex ey).at I A.in1 _ _ rx ry (by show A.units+1+n<cLine;omega)
  have q:=SeqAt.RcAt.lists (A:=A) (e:=e) p1.isList p2.isList (by simp;omega) (by omega) el
  have q':=SeqAt.RcNeAt.lists (A:=A) (e:=e) p1.isList p2.isList (by simp;omega) (by omega) el
  rw[aar,←l1] at q q'
  exact⟨q,q'⟩
 | @NO n a c xs ys h1 h2 hl=>
  obtain⟨ic,r1,p1,_⟩:=I.list h1
  obtain⟨nj,r2,p2,_⟩:=I.list h2
  have l1:=r1.length
  have l2:=r2.length
  exact⟨SeqAt.RcAt.lists_lengths p1.isList p2.isList (by simp;omega) (by omega),SeqAt.RcNeAt.lists_lengths p1.isList p2.isList (by simp;omega) (by omega)⟩
 | @qm n a c xs ys e h1 h2 he=>
  obtain⟨ic,r1,p1,_⟩:=I.tuple h1
  obtain⟨nj,r2,p2,_⟩:=I.tuple h2
  have l1:=r1.length
  have l2:=r2.length
  have el:∀j (g1:j<ic.toArray.size) (g2:j<nj.toArray.size),SeqAt.EqAt A.in1 s ic.toArray[j] nj.toArray[j] (e j):=fun j g1 g2=>by
   obtain⟨x,ex,rx⟩:=pS r1 g1
   obtain⟨y,ey,ry⟩:=pS r2 g2
   exact(he j x y ex ey).at I A.in1 _ _ rx ry (by show A.units+1+n<cLine;omega)
  have q:=SeqAt.RcAt.tuples (A:=A) (e:=e) (show s.heap.IsTuple a0 ic.toArray from p1) (show s.heap.IsTuple c0 nj.toArray from p2) (by omega) el
  have q':=SeqAt.RcNeAt.tuples (A:=A) (e:=e) (show s.heap.IsTuple a0 ic.toArray from p1) (show s.heap.IsTuple c0 nj.toArray from p2) (by omega) el
  rw[aar,aar,←l1,←l2] at q q'
  exact⟨q,q'⟩
 | yB h1 fy=>exact absurd (show false=true from fy) aak
 | yC h1 fy=>exact absurd (show false=true from fy) aak
 | Bh h1 fy=>exact absurd (show false=true from fy) aak
 | Bi h1 fy=>exact absurd (show false=true from fy) aak
 | @Bj n a c xs ys h1 h2=>
  obtain⟨ic,r1,p1,_⟩:=I.list h1
  obtain⟨nj,r2,p2,_⟩:=I.tuple h2
  exact⟨.list_tuple p1.isList (show s.heap.IsTuple c0 nj.toArray from p2) (by omega),.list_tuple p1.isList (show s.heap.IsTuple c0 nj.toArray from p2) (by omega)⟩
 | @Bk n a c xs ys h1 h2=>
  obtain⟨ic,r1,p1,_⟩:=I.tuple h1
  obtain⟨nj,r2,p2,_⟩:=I.list h2
  exact⟨.tuple_list (show s.heap.IsTuple a0 ic.toArray from p1) p2.isList (by omega),.tuple_list (show s.heap.IsTuple a0 ic.toArray from p1) p2.isList (by omega)⟩
end
section
variable{X:Cx}
def XU(K:Qqy)(n:Nat):R2:=fun x y H Q=>∃b,Qz x y∧o3 K H n x y b∧Q (.bl b) H
def XW(K:Qqy)(n:Nat):R2:=fun x y H Q=>∃b,Qz x y∧o3 K H n x y b∧Q (.bl (!b)) H
theorem qr(n:Nat)(hu:X.A.units+n+1<cLine):yt X (compareOp .Eq) (XU X.K n):=by
 intro c_ s σ H x y u v Q I rx ry h
 obtain⟨b,sq,e,q⟩:=h
 exact(e.rc I sq rx ry hu).1 X.prog X.w X.xe _ ⟨.bl b,H,I,rfl,q⟩
theorem LA(n:Nat)(hu:X.A.units+n+1<cLine):yt X (compareOp .NotEq) (XW X.K n):=by
 intro c_ s σ H x y u v Q I rx ry h
 obtain⟨b,sq,e,q⟩:=h
 exact(e.rc I sq rx ry hu).2 X.prog X.w X.xe _ ⟨.bl (!b),H,I,rfl,q⟩
end
theorem o3.Jc{K:Qqy}{H:Hp}{n:Nat}{β:Type}[DecidableEq β]{F:β→V→Prop}(hF:∀p q u v,F p u→F q v→o3 K H n u v (decide (p=q))){a c:Addr}{xs ys:List V}{ps qs:List β}
  (h1:gK K H a xs) (h2:gK K H c ys) (r1:Paired F ps xs) (r2:Paired F qs ys):o3 K H (n+1) (.ref a) (.ref c) (decide (ps=qs)):=by
 have l1:=r1.length
 have l2:=r2.length
 have UQ:∀{ps:List β} {xs:List V},Paired F ps xs→∀(j:Nat) u,xs[j]?=some u→∃p,ps[j]?=some p∧F p u:=by
  intro ps xs r
  induction r with
  | nil=>intro j u h;simp at h
  | cons f t ih=>
   intro j u h
   cases j with
   | zero=>simp at h;subst h;exact⟨_,rfl,f⟩
   | succ j=>simpa using ih j u (by simpa using h)
 by_cases hl:xs.length=ys.length
 ·have e:o3 K H (n+1) (.ref a) (.ref c) ((List.range xs.length).all fun j=>decide (ps[j]?=qs[j]?)):=.lists h1 h2 hl fun j u v hu hv=>by
   obtain⟨p,ep,fp⟩:=UQ r1 j u hu
   obtain⟨q,eq,fq⟩:=UQ r2 j v hv
   have:=hF p q u v fp fq
   rw[ep,eq]
   have e:decide (some p=some q)=decide (p=q):=by simp
   rw[e]
   exact this
  have e2:((List.range xs.length).all fun j=>decide (ps[j]?=qs[j]?))=decide (ps=qs):=by
   by_cases h:ps=qs
   ·subst h;simp
   ·rw[aac h,aa8]
    intro z
    refine h (List.ext_getElem? fun j=>?_)
    by_cases hj:j<xs.length
    ·simpa using abL.mp z j (acu.mpr hj)
    ·rw[abG.mpr (by omega),abG.mpr (by omega)]
  rw[←e2]
  exact e
 ·rw[aac fun z=>hl (by rw[←l1,←l2,z])]
  exact .NO h1 h2 hl
theorem o3.LB{K:Qqy}{H:Hp}{n:Nat}(p q:Str):o3 K H n (.str p) (.str q) (decide (p=q)):=by
 have:Ja (.str p) (.str q)=decide (p=q):=(Bool.beq_eq_decide_eq p q)
 rw[←this]
 exact .flat rfl rfl
theorem o3.QA{K:Qqy}{H:Hp}{n:Nat}(p q:Int):o3 K H n (.int p) (.int q) (decide (p=q)):=by
 have:Ja (.int p) (.int q)=decide (p=q):=(Bool.beq_eq_decide_eq p q)
 rw[←this]
 exact .flat rfl rfl
structure Su(P:Program)(w:World)(outer:List Env)(H H':Hp)(s s':Shared)(e C:Addr):Prop where
 os:s'.os=s.os
 bare:AllBare s'.gens
 un:Un (tw outer) [] H H' s.heap s'.heap
 iL:rl P w H' s'.heap
 fl:∃B t,Heap.FlyingW B outer e (.ref C) (.ref t) s'.heap∧∀b o,s'.heap.get? b=some o→b∉tw outer→((∃u,H' b=some u)∨∃o',s.heap.get? b=some o')→B.get? b=some o
 new:s.heap.get? e=none
 free:H' e=none
def tE(P:Program)(w:World):Hu:=fun outer H s E ev s'=>∃e C H',ev=.ref e∧Su P w outer H H' s s' e C∧E (.ref C) none H'
theorem i4.ex{P:Program}{w:World}{H:Hp}{h:Heap}{a:Addr}{o:HO}(x:i4 P w H h a o):∃ob,h.get? a=some ob:=by
 cases o with
 | lst xs=>obtain⟨_,_,_,_,e⟩:=x;exact⟨_,e⟩
 | tup xs=>obtain⟨_,_,_,o,e,_⟩:=x;exact⟨_,e⟩
 | dK kvs=>obtain⟨_,_,_,_,o,_,_,e,_⟩:=x;exact⟨_,e⟩
 | dT kvs=>obtain⟨_,_,_,_,o,_,_,e,_⟩:=x;exact⟨_,e⟩
 | set S n=>obtain⟨o,_,_,_,e,_⟩:=x;exact⟨_,e⟩
 | ins C dx fs=>obtain⟨_,_,_,e,_⟩:=x;exact⟨_,e⟩
 | own y=>obtain⟨_,e⟩:=x;exact⟨_,e⟩
 | xd fs=>obtain⟨_,⟨_,_,_,e,_⟩,_⟩:=x;exact⟨_,e⟩
 | Wg lo hi=>obtain⟨_,_,_,e⟩:=x;exact⟨_,e⟩
 | oO ob u=>obtain⟨e,_⟩:=x;exact⟨_,e⟩
 | Nd ps=>exact⟨_,(show h.get? a=some _ from x)⟩
 | met f y=>exact⟨_,(show h.get? a=some _ from x)⟩
 | ext φ=>obtain⟨_,⟨_,e⟩,_⟩:=x;exact⟨_,e⟩
section
variable{X:Cx}{c_:Qqz}{σ:St}{H H':Hp}{s s':Shared}{e C:Addr}{M:Model}{E:Qqq}
structure Bd(X:Cx):Prop where
 stack:X.stack=X.env::X.outer
 frame:X.env.frame=some X.env.locals
 ex:X.ex=[]
theorem Inv.Nu(I:Inv X c_ σ H s){b:Addr}{o:Obj}(h:X.s₀.heap.get? b=some o)(nf:b∉X.fs):b∉tw X.stack:=fun hb=>by
 rcases aag.mp (I.yr b hb) with z|z
 ·rw[z] at h
  exact absurd (aaK (aaD h) I.ok.above) (aby _)
 ·exact nf z
theorem LC(I:Inv X c_ σ H s)(bd:Bd X)(un:Un (tw X.stack) [] H H' s.heap s'.heap)(hos:s'.os=s.os)(UR:AllBare s'.gens)(iL:rl X.prog X.w H' s'.heap){B RM:Heap}{t:Addr}
  (hB:∀b o,s'.heap.get? b=some o→b∉tw X.stack→((∃u,H' b=some u)∨∃o',s.heap.get? b=some o')→B.get? b=some o)
  (hF:s'.heap.FunFrames B X.stack) (AK:Heap.FlyingW B X.outer e (.ref C) (.ref t) RM) (up:s'.heap.UpToSlots RM) (new:s.heap.get? e=none) (YJ:H' e=none) :
  Su X.prog X.w X.outer X.H₀ H' X.s₀ {s' with heap:=RM} e C:=by
 have hex:=bd.ex
 have US:∀b∈tw X.stack,H' b=none:=fun b hb=>by
  obtain⟨_,o,ho,_⟩:=I.stack.mem hb
  exact un.free b o ho (I.AH b hb) (by simp)
 have JI:∀b u,H' b=some u→b∉tw X.stack:=fun b u hu hb=>by rw[US b hb] at hu;cases hu
 have yk:∀b o u,s'.heap.get? b=some o→H' b=some u→RM.get? b=some o:=fun b o u ho hu=>
  AK.1 b o (hB b o ho (JI b u hu) (.inl ⟨u,hu⟩))
 have rm:∀b,b∉X.ex:=fun b z=>by rw[hex] at z;cases z
 have outS:∀b,b∈tw X.outer→b∈tw X.stack:=fun b hb=>by
  rw[bd.stack];unfold tw;rw[abC,bd.frame];exact aap _ hb
 refine⟨hos.trans I.os,UR,⟨fun b o q n hb hx=>?_,fun b o q n hb hx=>?_,fun b o q n hx=>?_,fun b o q hx=>?_,fun b xs q=>un.qm b xs (I.base.qm b xs q),fun b o u q=>un.tF b o u (I.base.tF b o u q),fun b ps q=>?_⟩,fun a u ha=>?_,⟨B,t,AK,fun b o hb nb hc=>?_⟩,?_,YJ⟩
 ·have q1:=I.base.keep b o q n hb (rm b)
  have nf:=I.Nu q hb
  exact AK.1 b o (hB b o (un.keep b o q1 (I.base.free b o q n (rm b)) nf (by simp)) nf (.inr ⟨o,q1⟩))
 ·obtain⟨sl,q1⟩:=I.base.slot b o q n hb (rm b)
  obtain⟨K4,q2⟩:=un.any q1 (I.base.free b o q n (rm b)) (by simp)
  obtain⟨_,o',pN,hd⟩:=I.ok.tD.mem hb
  rw[q] at pN;cases pN
  obtain⟨Ei,q3⟩:=up b _ q2 hd
  exact⟨Ei,q3⟩
 ·obtain⟨o',q1⟩:=I.base.there b o q (rm b)
  exact un.free b o' q1 (I.base.free b o q n (rm b)) (by simp)
 ·obtain⟨o1,q1⟩:=I.base.there b o q (rm b)
  obtain⟨o2,q2⟩:=un.there b o1 q1 (by simp)
  by_cases hb:b∈tw X.stack
  ·obtain⟨_,o',pN,hd⟩:=hF.mem hb
   rw[q2] at pN;cases pN
   obtain⟨Ei,q3⟩:=up b _ q2 hd
   exact⟨_,q3⟩
  ·exact⟨o2,AK.1 b o2 (hB b o2 q2 hb (.inr ⟨o1,q1⟩))⟩
 ·obtain⟨m1,e1⟩:=I.base.vS b ps q
  obtain⟨m2,e2⟩:=un.vS b _ e1
  exact⟨m1++m2,by rw[e2,Array.append_assoc]⟩
 ·refine(iL a u ha).yq (fun b v hb q=>?_) (fun _ z=>z) fun _ _ z=>z
  rcases hb with z|z
  ·rw[z] at q ⊢;exact yk a v u q ha
  ·exact yk b v _ q z
 ·have all:∀o1,s'.heap.get? b=some o1→b∉tw X.stack→((∃u,H' b=some u)∨∃o',s.heap.get? b=some o')→B.get? b=some o:=fun o1 q1 nf c=>by
   have z:=hB b o1 q1 nf c
   have z2:=AK.1 b o1 z
   have hb:RM.get? b=some o:=hb
   rw[hb] at z2;cases z2
   exact z
  rcases hc with⟨u,hu⟩|⟨o',pN⟩
  ·obtain⟨o1,q1⟩:=(iL b u hu).ex
   exact all o1 q1 (JI b u hu) (.inl ⟨u,hu⟩)
  ·obtain⟨o1,q1⟩:=I.base.there b o' pN (rm b)
   obtain⟨o2,q2⟩:=un.there b o1 q1 (by simp)
   exact all o2 q2 (I.Nu pN nb) (.inr ⟨o1,q1⟩)
 ·cases q:X.s₀.heap.get? e with
  | none=>rfl
  | some o=>
   obtain⟨o1,q1⟩:=I.base.there e o q (rm e)
   rw[new] at q1;cases q1
theorem LD(I:Inv X c_ σ H s)(bd:Bd X)(F:Su X.prog X.w X.stack H H' s s' e C) :
  wpAny M X.A (leaving X.env (.ref e)) (fun _ KP=>Su X.prog X.w X.outer X.H₀ H' X.s₀ KP e C) E s':=by
 obtain⟨B,t,fl,hB⟩:=F.fl
 have UT:=fl
 rw[bd.stack] at UT
 refine wpAny_leaves_onW (by rw[I.ok.frames,bd.stack]) bd.frame UT fun RM AK up=>?_
 exact LC I bd F.un F.os F.bare F.iL hB fl.2.2.1 AK up F.new F.free
theorem HU{vs:List Value}{h':Heap}(I:Inv X c_ σ H s)(bd:Bd X)(hx:Heap.MadeExcOf s.heap h' e (.ref C) vs) :
  wpAny M X.A (leaving X.env (.ref e)) (fun _ KP=>Su X.prog X.w X.outer X.H₀ H X.s₀ KP e C) E {s with heap:=h'}:=by
 have MS:∀env∈X.stack,∀b,env.frame=some b→b∈tw X.stack:=fun env he b hb=>acd.mpr ⟨env,he,hb⟩
 have hF:=W.funFrames_hide I.stack MS
 have YJ:H e=none:=by
  cases q:H e with
  | none=>rfl
  | some u=>
   obtain⟨o,ho⟩:=(I.iL e u q).ex
   rw[hx.new] at ho;cases ho
 have un:Un (tw X.stack) [] H H s.heap h':=Un.kept hx.keeps
 have hB:∀b o,h'.get? b=some o→b∉tw X.stack→((∃u,H b=some u)∨∃o',s.heap.get? b=some o')→(W.hideAll s.heap (tw X.stack)).get? b=some o:=fun b o hb nf c=>by
  have:∃o',s.heap.get? b=some o':=by
   rcases c with⟨u,hu⟩|c
   ·exact(I.iL b u hu).ex
   ·exact c
  obtain⟨o',pN⟩:=this
  have z:=hx.keeps b o' pN
  rw[hb] at z;cases z
  exact W.hideAll_get _ pN nf
 have hF2:h'.FunFrames (W.hideAll s.heap (tw X.stack)) X.stack:=hF.of_keeps fun b o ho _=>⟨o,hx.keeps b o ho,rfl⟩
 refine wpAny_leaves_madeW (base:=W.hideAll s.heap (tw X.stack)) (h:=s.heap) (by rw[I.ok.frames,bd.stack]) bd.frame (fun b o q=>W.of_hideAll _ q) (by rw[←bd.stack];exact hF) hx fun RM t AK tup nt up=>?_
 exact LC (s':={s with heap:=h'}) I bd un rfl I.bare (I.iL.kept hx.keeps) hB hF2 AK up hx.new YJ
structure Bx(X:Cx)(E:XK):Prop where
 bd:Bd X
 calm:X.calm=true
 xe:∀ev s',wpAny (model X.prog X.w) X.A (leaving X.env ev) (fun _ KP=>tE X.prog X.w X.outer X.H₀ X.s₀ E ev KP) (fun e' KP=>tE X.prog X.w X.outer X.H₀ X.s₀ E e' KP) s'→X.xe ev s'
theorem bx{P:Program}{w:World}{K:Qqy}{mg:Qqx}{base:Heap}{N:List Str}{qual:Str}{scope:Scope}{f:Addr}{cd:Value}{A:Around}{outer:List Env}{s:Shared}{H:Hp}{E:XK} :
 Bx (vW (tE P w) P w K mg base N qual scope f cd A outer s H E) E:=⟨⟨rfl,rfl,rfl⟩,rfl,fun _ _ h=>h⟩
theorem Pe{EX:XK}(b:Bx X EX):Passes (tE X.prog X.w) X EX:=fun c_ σ H s ev s' I ⟨e,C,H',he,F,q⟩=>by
 subst he
 exact b.xe _ _ (i7 (LD I b.bd F) fun _ KP F'=>⟨e,C,H',rfl,F',q⟩)
theorem LF{P:Program}{w:World}{K:Qqy}{mg:Qqx}{base:Heap}{N:List Str}{qual:Str}{scope:Scope}{f:Addr}{cd:Value}{A:Around}{outer:List Env}{s:Shared}{H:Hp}{E:XK} :
 PassesOwn (model P w) (vW (tE P w) P w K mg base N qual scope f cd A outer s H E).A (vW (tE P w) P w K mg base N qual scope f cd A outer s H E).env (vW (tE P w) P w K mg base N qual scope f cd A outer s H E).xe:=PassesOwn.leaving
structure Exc(K:Qqy)(mg:Qqx)(x:Str)(C:Addr):Prop where
 m:mg x=some (.ref C)
 q:W.excIn K C [.type "ValueError",.type "Exception",.type "BaseException",.type "object"] "ValueError.__new__"=true
def QB(C:Addr)(EX:XK)(ta:TE):TS:=fun _ σ H=>ta σ H fun _ H1=>EX (.ref C) none H1
theorem Ej{K:Qqy}{h:Heap}{C:Addr}{bmB:List Value}{newId:String}(X:K.In h)(q:W.excIn K C bmB newId=true):∃bm N nm q bs hdct sn sub ab col dd k0 k1 k2 k3 k5 mN,h.get? C=some (excClassObj nm q C N bs bm hdct sn sub ab col dd k0 k1 k2 k3 k5 newId)∧h.Ns N mN∧mN "__init__"=none∧OwnTail h bmB bm:=by
 unfold W.excIn at q
 split at q
 ·rename_i dd cd sl ho
  split at q
  ·rename_i C' bm k0 k1 k2 k3 n k5 hm hs
   simp only [abc,ab4,Bool.not_eq_true'] at q
   obtain⟨⟨⟨⟨⟨rfl,rfl⟩,UU⟩,ht⟩,iL⟩,UW⟩:=q
   obtain⟨nm,bs,mro,ns,qn,hd,sn,sub,ab,col,del⟩:=cd
   dsimp only at hm UU iL UW
   subst hm UU
   have Wy:sl=#[k0,k1,k2,k3,some (.builtin n),k5]:=by
    obtain⟨l⟩:=sl
    simp only at hs
    rw[hs]
   subst Wy
   exact⟨bm,ns,nm,qn,bs,hd,sn,sub,ab,col,dd,k0,k1,k2,k3,k5,_,X _ _ ho,.of_isNs (W.isNs_of_in X iL),W.nsMap_none_of_in X iL UW,W.tail_of_in X ht⟩
  ·cases q
 ·cases q
theorem k_{EX:XK}{x:Str}{a:Expr}{ta:TE}{np lY pos:Pos}(b:Bx X EX)(O:Exc X.K X.mg x C)(hg:Gl X x)(ha:PE X a ta)
  (Ff:(x ==("__debug__":Str))=false:=by decide) (hs:starEach [a] X.env=[(false,eval a X.env)]:=by rfl):PS X (.Raise (some (.Call (.Name x np) [a] [] lY)) none pos) (QB C EX ta):=by
 intro c_ s σ H D I h
 obtain⟨bm,N,nm,q,bs,hdct,sn,sub,ab,col,dd,k0,k1,k2,k3,k5,mN,hC,hN,UW,T⟩:=Ej I.ok.mod.Nr O.q
 refine wpAny_Raise_call_subT (C:=C) (nm:=nm) (q:=q) (N:=N) (bs:=bs) (bm:=bm) (hdct:=hdct) (sn:=sn) (sub:=sub) (ab:=ab) (col:=col) (dd:=dd) (k0:=k0) (k1:=k1) (k2:=k2) (k3:=k3) (k5:=k5)
  PySem.F.excBase_ValueError (mN:=mN) (T.hasType (by decide)) (I.ok.hd b.calm) (by rw[hs];rfl) UW (rn I hg O.m ⟨rfl,?_⟩ Ff)
 rw[hs]
 refine abA ?_
 refine abn (i7 (ha c_ s σ H _ I h) fun u s1 ⟨y,H1,I1,r1,q1⟩=>abD ?_)
 have hk:=I1.bk
 refine⟨rfl,by show 1≤sizeLine;decide,hk _ _ hC,hN.keeps hk,T.keeps hk,fun h' e hm=>?_⟩
 exact b.xe _ _ (i7 (HU I1 b.bd hm) fun _ KP F=>⟨e,C,H1,rfl,F,q1⟩)
end
section
variable{P:Program}{w:World}{K:Qqy}{mg:Qqx}{base:Heap}
theorem w_.ok1{x qual:Str}{st:Stmt}{f:Addr}{fd:FuncData}{N ps:List Str}{k:Nat}{sp:Sp}(F:w_ K x qual st f fd)(S:gA N ps (gc st))(len:∀vs H Q E,sp vs H Q E→vs.length=ps.length)
  (rg:∀(jh:Value)(A:Around)(outer:List Env)(s:Shared)(H:Hp)(vs:List V)(Q:VK)(E:XK),kT k (A.deeper (envOfC qual (gc st) s.heap.objs.size f jh))→sp vs H Q E→
   ∃t,Dj (vW (tE P w) P w K mg base N qual (gc st) f jh A outer s H E) (lC st) t∧t {nx:=fun _ H'=>Q .js H',rt:=Q} (start N vs) H):ip P w K mg base (tE P w) (k+1) f fd ps sp:=by
 obtain⟨oc,od,kV,doc,pm,an,jh,ct,KQ,rfl,lk,CM⟩:=F.ex
 exact Pa lk CM S len fun A outer s H vs Q E hr KR=>rg jh A outer s H vs Q E hr KR
theorem ip.Jd{k:Nat}{f:Addr}{fd:FuncData}{ps:List Str}{sp:Sp}(F:ip P w K mg base (tE P w) k f fd ps sp):ip P w K mg base nu k f fd ps (fun vs H Q _=>sp vs H Q E0):=
 ⟨fun vs H Q E h=>F.len vs H Q E0 h,fun A outer s H args us vs Q E hr e0 hb hv hs=>codeAny_mono (F.run A outer s H args us vs Q E0 hr e0 hb hv hs) fun r s' h=>by
  cases r with
  | error e=>obtain⟨_,_,_,_,_,z⟩:=h;exact z
  | ok fl=>cases fl<;>exact h⟩
end
section
variable{X:Cx}
def PF(X:Cx)(k:Nat)(es:List Expr)(t:TE):Prop:=
 ∀(acc:Str)(c_:Qqz)(s:Shared)(σ:St)(H:Hp)(Q:VK),acc.length≤k*1048576→Inv X c_ σ H s→t σ H Q→wpAny (model X.prog X.w) X.A (joinParts acc (evalEach es X.env)) (EP X c_ σ Q) X.xe s
def tFn:TE:=fun _ H Q=>∀x,Q (.str x) H
def tFc(te t:TE):TE:=fun σ H Q=>te σ H fun v H1=>∃y,v=.str y∧y.length≤1048576∧t σ H1 Q
theorem o9{k:Nat}(hk:k≤8:=by decide):PF X k [] tFn:=fun acc c_ s σ H Q hl I h=>
 joinParts_nil (hsz:=by have:sizeLine=16777216:=rfl;omega) ⟨.str acc,H,I.tok _,⟨_,rfl⟩,h acc⟩
theorem iD{k:Nat}{e:Expr}{es:List Expr}{te t:TE}(he:PE X e te)(hr:PF X (k+1) es t)(hk:k≤7:=by decide)(hs:evalEach (e::es) X.env=eval e X.env::evalEach es X.env:=by rfl):PF X k (e::es) (tFc te t):=by
 intro acc c_ s σ H Q hl I h
 rw[hs]
 refine joinParts_cons (i7 (he c_ s σ H _ I h) fun u s1 ⟨v,H1,I1,r1,y,ev,hy,q⟩=>?_)
 subst ev
 obtain⟨t',rfl⟩:=r1
 have e1:(acc++y).length=acc.length+y.length:=strLen_append ..
 exact⟨by rw[e1];have:sizeLine=16777216:=rfl;omega,hr (acc++y) c_ s1 σ H1 Q (by rw[e1];omega) I1 q⟩
theorem mJ{e1 e2:Expr}{es:List Expr}{t:TE}{pos:Pos}(h:PF X 0 (e1::e2::es) t):PE X (.JoinedStr (e1::e2::es) pos) t:=fun c_ s σ H Q I hq=>by
 rw[arm_eval_JoinedStr]
 exact h Str.empty c_ s σ H Q (by decide) I hq
def tFr(te:TE):TE:=fun σ H Q=>te σ H fun v H1=>∃x,v=.str x∧(reprText x).length≤1048576∧Q (.str (reprText x)) H1
theorem oB{e:Expr}{te:TE}{pos:Pos}(he:PE X e te):PE X (.FormattedValue e 114 none pos) (tFr te):=by
 intro c_ s σ H Q I h
 refine wpAny_FormattedValue_repr (i7 (he c_ s σ H _ I h) fun u s1 ⟨v,H1,I1,r1,x,ev,hy,q⟩=>?_)
 subst ev
 obtain⟨t',rfl⟩:=r1
 have hz:(reprText x).length≤sizeLine:=aah hy (by decide)
 refine wpAny_pyReprObj_str (hsz:=hz) ?_
 exact formatField_str (fun t'' tk=>⟨.str (reprText x),H1,I1.tok _,⟨_,rfl⟩,q⟩) hz
end
section
variable{X:Cx}{c_:Qqz}{σ:St}{H:Hp}{s:Shared}{tg:Expr}
def Bl(X:Cx)(d:Addr):Prop:=∀o u,X.H₀ d≠some (.oO o u)
theorem LG{u:HO}(mu:O4 (some u)):(∀xs,u≠.tup xs)∧(∀o v,u≠.oO o v)∧(∀ps,u≠.Nd ps)∧∀x,u≠.own x:=by
 cases u<;>first|exact False.elim mu|exact⟨(fun _ z=>nomatch z),(fun _ _ z=>nomatch z),(fun _ z=>nomatch z),(fun _ z=>nomatch z)⟩
theorem Inv.QC{d:Addr}{u:HO}(I:Inv X c_ σ H s)(hd:H d=some u)(mu:O4 (some u)):Bl X d:=fun o v z=>by
 have:=I.base.tF d o v z
 rw[hd] at this
 exact(LG mu).2.1 o v (aaJ this)
theorem Inv.LH{d:Addr}{u v:HO}(I:Inv X c_ σ H s)(hd:H d=some u)(nt:∀xs,u≠.tup xs)(nb:∀ps,u≠.Nd ps)(no:∀x,u≠.own x)(nf:Bl X d)(new:i4 X.prog X.w (upd H d v) s.heap d v):Inv X c_ σ (upd H d v) s:=by
 have ne:∀b,H b=none→b≠d:=fun b e z=>by rw[z,hd] at e;cases e
 refine⟨I.ok,I.os,I.bare,⟨I.base.keep,I.base.slot,fun b o q n hx=>by rw[e_ (ne b (I.base.free b o q n hx))];exact I.base.free b o q n hx,I.base.there,fun b xs q=>?_,fun b o w q=>?_,fun b ps q=>?_⟩,I.loc,I.cell,by rw[e_ (ne _ I.free)];exact I.free,fun x c e=>by rw[e_ (ne _ (I.mq x c e))];exact I.mq x c e,fun p hp=>?_,fun b o e=>?_,I.len⟩
 ·have z:=I.base.qm b xs q
  have:b≠d:=fun y=>by rw[y,hd] at z;exact nt xs (aaJ z)
  rw[e_ this];exact z
 ·have z:=I.base.tF b o w q
  have:b≠d:=fun y=>by rw[y] at q;exact nf o w q
  rw[e_ this];exact z
 ·obtain⟨m,z⟩:=I.base.vS b ps q
  have:b≠d:=fun y=>by rw[y,hd] at z;exact nb _ (aaJ z)
  exact⟨m,by rw[e_ this];exact z⟩
 ·obtain⟨e1,e2,e3⟩:=I.pin p hp
  exact⟨e1,by rw[e_ (ne _ e2)];exact e2,e3⟩
 ·by_cases hb:b=d
  ·subst hb;rw[b_] at e;cases e;exact new
  ·rw[e_ hb] at e
   refine(I.iL b o e).yq (fun _ _ _ q=>q) (fun c q=>?_) fun c xs q=>?_
   ·have:c≠d:=fun y=>by rw[y,hd] at q;exact no _ (aaJ q)
    rw[e_ this];exact q
   ·have:c≠d:=fun y=>by rw[y,hd] at q;exact nt _ (aaJ q)
    rw[e_ this];exact q
theorem Inv.frozen{d:Addr}{u:HO}(I:Inv X c_ σ H s)(hd:H d=some u)(mu:O4 (some u)):∃o,s.heap.get? d=some o∧Inv X c_ σ (upd H d (.oO o u)) s:=by
 obtain⟨o,ho⟩:=(I.iL d u hd).ex
 obtain⟨m1,m2,m3,m4⟩:=LG mu
 refine⟨o,ho,I.LH hd m1 m3 m4 (I.QC hd mu) ⟨ho,?_⟩⟩
 refine(I.iL d u hd).yq (fun _ _ _ q=>q) (fun c q=>?_) fun c xs q=>?_
 ·have:c≠d:=fun y=>by rw[y,hd] at q;exact m4 _ (aaJ q)
  rw[e_ this];exact q
 ·have:c≠d:=fun y=>by rw[y,hd] at q;exact m1 _ (aaJ q)
  rw[e_ this];exact q
theorem Inv.yD{d:Addr}{o:Obj}{u:HO}(I:Inv X c_ σ H s)(hd:H d=some (.oO o u))(nf:Bl X d):Inv X c_ σ (upd H d u) s:=by
 refine I.LH hd (fun _ z=>by cases z) (fun _ z=>by cases z) (fun _ z=>by cases z) nf ?_
 obtain⟨_,q⟩:=(show i4 X.prog X.w H s.heap d (.oO o u) from I.iL d _ hd)
 refine q.yq (fun _ _ _ q=>q) (fun c q=>?_) fun c xs q=>?_
 ·have:c≠d:=fun y=>by rw[y,hd] at q;cases q
  rw[e_ this];exact q
 ·have:c≠d:=fun y=>by rw[y,hd] at q;cases q
  rw[e_ this];exact q
def TL(X:Cx)(t:TE):TE:=fun σ H Q=>t σ H fun v H2=>∃d o u,H2 d=some (.oO o u)∧Bl X d∧Q v (upd H2 d u)
theorem Je{e:Expr}{t:TE}(h:PE X e t):PE X e (TL X t):=fun c_ s σ H Q I hq=>
 i7 (h c_ s σ H _ I hq) fun v s' ⟨x,H',I',r,d,o,u,hd,nf,q⟩=>⟨x,_,I'.yD hd nf,r,q⟩
noncomputable def Ends.XY(X:Cx)(D:Ends):Ends where
 nx:=fun σ H2=>∃d o u,H2 d=some (.oO o u)∧Bl X d∧D.nx σ (upd H2 d u)
 rt:=fun v H2=>∃d o u,H2 d=some (.oO o u)∧Bl X d∧D.rt v (upd H2 d u)
 bk:=fun σ H2=>∃d o u,H2 d=some (.oO o u)∧Bl X d∧D.bk σ (upd H2 d u)
 ct:=fun σ H2=>∃d o u,H2 d=some (.oO o u)∧Bl X d∧D.ct σ (upd H2 d u)
theorem AL{st:Stmt}{t:TS}(h:PS X st t):PS X st (fun D σ H=>t (D.XY X) σ H):=fun c_ s σ H D I hq=>i7 (h c_ s σ H _ I hq) fun f s' q=>by
 cases f with
 | next=>obtain⟨σ',H',I',d,o,u,hd,nf,q⟩:=q;exact⟨σ',_,I'.yD hd nf,q⟩
 | brk=>obtain⟨σ',H',I',d,o,u,hd,nf,q⟩:=q;exact⟨σ',_,I'.yD hd nf,q⟩
 | cont=>obtain⟨σ',H',I',d,o,u,hd,nf,q⟩:=q;exact⟨σ',_,I'.yD hd nf,q⟩
 | ret v=>obtain⟨x,σ',H',I',r,d,o,u,hd,nf,q⟩:=q;exact⟨x,σ',_,I'.yD hd nf,r,q⟩
theorem Ek{H:Hp}{d p:Addr}{u f o:HO}(hd:H d=some u)(hp:p≠d):upd (upd (upd H d f) p o) d u=upd H p o:=by
 funext b
 by_cases h1:b=d
 ·subst h1;rw[b_,e_ (abT hp),hd]
 ·rw[e_ h1]
  by_cases h2:b=p
  ·subst h2;rw[b_,b_]
  ·rw[e_ h2,e_ h2,e_ h1]
theorem yE{H:Hp}{d:Addr}{u f:HO}(hd:H d=some u):upd (upd H d f) d u=H:=by
 rw[Nn]
 funext b
 by_cases h1:b=d
 ·subst h1;rw[b_,hd]
 ·rw[e_ h1]
noncomputable def Sv(d:Addr)(o:Obj)(kvs:List (Key×V)):It:=
 ⟨fun i H=>H d=some (.oO o (.dK kvs))∧i<kvs.length,fun i H x H'=>H'=H∧∃k v,kvs[i]?=some (k,v)∧x=kV k,fun i H=>H d=some (.oO o (.dK kvs))∧kvs.length≤i⟩
theorem Jf{P:Program}{w:World}{k:Key}{u:Value}(h:(jl P w).is k u=true):RelV (kV k) u:=by
 rcases jK (show AY k u=true from h) with⟨i,t,rfl,rfl⟩|⟨x,t,rfl,rfl⟩
 ·exact⟨t,rfl⟩
 ·exact⟨t,rfl⟩
theorem LI{P:Program}{w:World}{h:Heap}{d:Addr}{o:Obj}{kvs:List (Key×V)}{es:Array DictEntry}{ep:Nat}(hd:o.data=.dict es ep)(q:i4 P w H h d (.oO o (.dK kvs))):(d ==sysModules)=false∧kvs.length≤sizeLine∧∃vs,KV kvs vs∧h.DictAt (jl P w) d vs ep:=by
 obtain⟨ho,hz,hs,vs,kv,o',SF,Po,pN,h1,h2,h3⟩:=q
 rw[ho] at pN;cases pN
 rw[hd] at h2;cases h2
 exact⟨hs,hz,vs,kv,o,es,ho,h1,hd,h3⟩
theorem KV.at{κ:Type}{kvs:List (κ×V)}{vs:List (κ×Value)}(r:KV kvs vs):∀{i:Nat} {k:κ} {u:Value},vs[i]?=some (k,u)→∃v,kvs[i]?=some (k,v)∧RelV v u:=by
 induction r with
 | nil=>intro i k u e;simp at e
 | cons f t ih=>
  intro i k u e
  cases i with
  | zero=>
   simp at e
   subst e
   exact⟨_,abb some (Prod.ext f.1 rfl),f.2⟩
  | succ i=>
   obtain⟨v,h1,h2⟩:=ih (by simpa using e)
   exact⟨v,by simpa using h1,h2⟩
theorem J7{P:Program}{w:World}{K:Qqy}(d it:Addr)(o:Obj)(es:Array DictEntry)(ep:Nat)(kvs:List (Key×V))(MT:o.data=.dict es ep):Turn P w K tg (Sv d o kvs) [it] it (fun i h=>h.IsKeyIter it d i kvs.length ep) where
 mem:=by simp
 obj:=fun i h st b hb=>by
  have e:b=it:=by simpa using hb
  subst e
  obtain⟨o,e,c,d⟩:=st
  exact⟨o,e,fun v z=>by rw[d] at z;cases z⟩
 keep:=fun i h h' st k=>st.at fun o e=>k it (by simp) o e
 item:=by
  intro X hP hw hK hc i c_ s σ H E I hf st hg
  subst hP hw hK
  obtain⟨hd,hi⟩:=hg
  obtain⟨_,_,vs,kv,da⟩:=LI MT (I.iL d _ hd)
  have hl:kvs.length=vs.length:=kv.length
  have Cd:i<vs.length:=by omega
  obtain⟨⟨k,u⟩,hx⟩:∃p,vs[i]?=some p:=⟨vs[i],by simp[Cd]⟩
  obtain⟨v,hv,_⟩:=kv.at hx
  obtain⟨f0,f1,f2,f3,f4,f5⟩:=hf it (by simp)
  rw[hl] at st
  refine wpAny_pyNext_dict_item st da hx fun key h' RG C9 sb=>?_
  have I1:Inv X c_ σ H {s with heap:=h'}:=I.turned (t':=s.toks) (fun b o hb e=>(sb.2 b hb).trans e) f0 f1 f3 f4 f5
  obtain⟨o',e,c,dd⟩:=id C9
  exact⟨key,rfl,A3 (s:={s with heap:=h'}) e c dd (by decide) ⟨kV k,H,I1,Jf RG,⟨rfl,k,v,hv,rfl⟩,by rw[hl];exact C9,fun b hb=>(hf b hb).1⟩⟩
 done:=by
  intro X hP hw hK hc i c_ s σ H E I hf st hg
  subst hP hw hK
  obtain⟨hd,hi⟩:=hg
  obtain⟨_,_,vs,kv,da⟩:=LI MT (I.iL d _ hd)
  have hl:kvs.length=vs.length:=kv.length
  obtain⟨f0,f1,f2,f3,f4,f5⟩:=hf it (by simp)
  rw[hl] at st
  exact wpAny_pyNext_dict_end (I.ok.hd hc) st da (by simp;omega) fun h' eb=>⟨rfl,I.turned (t':=s.toks) (fun b o hb e=>eb b o hb e) f0 f1 f3 f4 f5⟩
 self:=fun _ _ _ _ _ st h=>wpAny_pyIter_keyiter st h
def TM(X:Cx)(td:TE):TI:=fun σ H R=>td σ H fun x H1=>∃d kvs,x=.ref d∧H1 d=some (.dK kvs)∧∀o,Bl X d→R (Sv d o kvs) (upd H1 d (.oO o (.dK kvs)))
theorem El{l:Expr}{td:TE}(hl:PE X l td):PI X tg l (TM X td):=by
 intro c_ s σ H R I h
 refine i7 (hl c_ s σ H _ I h) fun v s1 ⟨x,H1,I1,r1,q1⟩=>?_
 obtain⟨d,kvs,e,hd,q⟩:=q1
 subst e
 cases r1
 have nf:=I1.QC hd True.intro
 obtain⟨o,ho,I2⟩:=I1.frozen hd True.intro
 obtain⟨_,hs,vs,kv,o',es,ep,pN,h1,h2,h3⟩:=(show i4 X.prog X.w H1 s1.heap d (.dK kvs) from I1.iL d _ hd)
 rw[ho] at pN;cases pN
 refine wpAny_pyIter_dict (kvs:=vs) (ep:=ep) hs ⟨o,es,ho,h1,h2,h3⟩ ?_
 refine⟨s1.heap.objs.size,[s1.heap.objs.size],_,_,_,rfl,I2.kept (t':=s1.toks) fun b o e=>aao _ e,J7 d _ o es ep kvs h2,⟨_,aaI _ rfl,rfl,by rw[kv.length];rfl⟩,fun b hb=>?_,q o nf⟩
 have e:b=s1.heap.objs.size:=by simpa using hb
 subst e
 exact I2.A2 (aab _) (I2.iL.fresh (aab _))
theorem LJ{d:Addr}{o:Obj}{kvs:List (Key×V)}{g:TG}{tb:TS}{D:Ends}{σ:St}{H:Hp}(Pv:Nat→St→Hp→Prop)(h0:Pv 0 σ H)(hl:∀i σ H,Pv i σ H→H d=some (.oO o (.dK kvs)))
  (hs:∀i k v σ H,kvs[i]?=some (k,v)→Pv i σ H→g (kV k) σ H fun σ2 H2=>tb {D with nx:=Pv (i+1),ct:=Pv (i+1),bk:=D.nx} σ2 H2) (hd:∀σ H,Pv kvs.length σ H→D.nx σ H) :
  ∃W:Nat→Nat→St→Hp→Prop,(∃m,W 0 m σ H)∧∀i m σ H,W i m σ H→
   ((Sv d o kvs).stop i H∧D.nx σ H)∨((Sv d o kvs).go i H∧∃N:St→Hp→Prop,(∀σ' H',N σ' H'→∃m',m'<m∧W (i+1) m' σ' H')∧∀x H',(Sv d o kvs).Le i H x H'→g x σ H' fun σ2 H2=>tb {D with nx:=N,ct:=N,bk:=D.nx} σ2 H2):=by
 refine⟨fun i m σ H=>m=kvs.length-i∧i≤kvs.length∧Pv i σ H,⟨kvs.length,by simp,aaU _,h0⟩,?_⟩
 rintro i m σ H ⟨rfl,hi,p⟩
 have q:=hl i σ H p
 by_cases my:i<kvs.length
 ·refine .inr ⟨⟨q,my⟩,Pv (i+1),fun σ' H' p'=>⟨kvs.length-(i+1),by omega,rfl,my,p'⟩,fun x H' y=>?_⟩
  obtain⟨e,k,v,y,rfl⟩:=y
  subst e
  exact hs i k v σ _ y p
 ·have e:i=kvs.length:=by omega
  subst e
  exact .inl ⟨⟨q,aab _⟩,hd σ H p⟩
theorem Jg{d:Addr}{o:Obj}{kvs:List (Key×V)}{g:TG}{tt:TT}{te:TE}{Q:List V→Hp→Prop}{σ:St}{H:Hp}(hn:kvs.length≤sizeLine)(Pv:Nat→List V→St→Hp→Prop)(h0:Pv 0 [] σ H)(hl:∀i ys σ H,Pv i ys σ H→H d=some (.oO o (.dK kvs))∧ys.length≤i)
  (hs:∀i k v ys σ H,kvs[i]?=some (k,v)→Pv i ys σ H→g (kV k) σ H fun σ2 H2=>tt σ2 H2 fun b H3=>if b=true then te σ2 H3 fun v H4=>Pv (i+1) (ys++[v]) σ2 H4 else Pv (i+1) ys σ2 H3)
  (hd:∀ys σ H,Pv kvs.length ys σ H→Q ys H):J6 g tt te (Sv d o kvs) Q σ H:=by
 refine⟨fun i m ys σ H=>m=kvs.length-i∧i≤kvs.length∧Pv i ys σ H,⟨kvs.length,by simp,aaU _,h0⟩,?_⟩
 rintro i m ys σ H ⟨rfl,hi,p⟩
 obtain⟨q,hy⟩:=hl i ys σ H p
 by_cases my:i<kvs.length
 ·refine .inr ⟨⟨q,my⟩,by omega,Pv (i+1),fun SG σ' H' p'=>⟨kvs.length-(i+1),by omega,rfl,my,p'⟩,fun x H' y=>?_⟩
  obtain⟨e,k,v,y,rfl⟩:=y
  subst e
  exact hs i k v ys σ _ y p
 ·have e:i=kvs.length:=by omega
  subst e
  exact .inl ⟨⟨q,aab _⟩,by omega,hd ys σ H p⟩
theorem qJ{α β:Type}{F:α→β→Prop}:∀{xs:List α} {ys:List β},xs.length=ys.length→(∀(i:Nat) a b,xs[i]?=some a→ys[i]?=some b→F a b)→Paired F xs ys
 | [],[],_,_=>.nil
 | [],_::_,e,_=>by simp at e
 | _::_,[],e,_=>by simp at e
 | x::xs,y::ys,e,h=>.cons (h 0 x y rfl rfl) (qJ (by simpa using e) fun i a b ha hb=>h (i+1) a b (by simpa using ha) (by simpa using hb))
theorem Bm(hc:X.calm=true):vz X (.type "list") (fun xs H Q=>∃d kvs,xs=[V.ref d]∧H d=some (.dK kvs)∧∀p,H p=none→Q (.ref p) (upd H p (.lst (kvs.map fun kv=>kV kv.1)))):=by
 intro c_ s σ H xs us Q I r h
 obtain⟨d,kvs,rfl,hd,q⟩:=h
 obtain⟨u,rfl,ru⟩:=vals1 r
 cases (show u=Value.ref d from ru)
 obtain⟨hz,hs,vs,kv,o,es,ep,ho,h1,h2,h3⟩:=(show i4 X.prog X.w H s.heap d (.dK kvs) from I.iL d _ hd)
 have hl:kvs.length=vs.length:=kv.length
 refine W.kdl_call (W.kdl_dict (knd:=jl X.prog X.w) (kvs:=vs) (ep:=ep) hs) (I.ok.hd hc) ⟨o,es,ho,h1,h2,h3⟩ (by omega) fun h' tk acc c hk hS yj=>?_
 have hf:H s.heap.objs.size=none:=I.iL.fresh (aab _)
 have rel:Vals (kvs.map fun kv=>kV kv.1) acc.toList:=by
  refine qJ (by rw[U8];have:acc.toList.length=acc.size:=abg;rw[this,yj.1];exact hl) fun i a b ha hb=>?_
  obtain⟨k,x,UX,hi⟩:=yj.2 i b (by rw[←abe];exact hb)
  obtain⟨v,hv,_⟩:=kv.at UX
  rw[aan,hv] at ha
  cases ha
  exact Jf hi
 refine⟨.ref s.heap.objs.size,upd H s.heap.objs.size (.lst (kvs.map fun kv=>kV kv.1)),I.laid (t':=tk) hk (aab _) ?_,rfl,q _ hf⟩
 exact⟨by rw[U8];exact hz,acc.toList,c,rel,by rw[Array.toArray_toList];exact hS⟩
end
def Bn(CX:Hu)(X:Cx)(σ₀:St)(E:XK):Prop:=∀(c_:Qqz)(H:Hp)(s:Shared)(e:Value)(s':Shared),Inv X c_ σ₀ H s→CX X.stack H s E e s'→X.xe e s'
def tAt(σ₀:St)(t:TE):TE:=fun σ H Q=>σ=σ₀∧t σ H Q
section
variable{X:Cx}{CX:Hu}{k:Nat}{f C:Addr}{fd:FuncData}{ps:List Str}{sp:Sp}{xa:List V}{ds:List Value}{E:XK}{x m:Str}{p pos apos:Pos}{e o:Expr}{es:List Expr}{ta:TE}{t:TA}{σ₀:St}
theorem QD{c_:Qqz}{H:Hp}{s:Shared}{Q:VK}{us:List Value}{vs:List V}(F:ip X.prog X.w X.K X.mg X.base CX k f fd ps sp)(hr:kT k X.A)(hb:Binds X.K fd ps ds)(hd:Vals xa ds)(hx:Bn CX X σ₀ E)
  (I:Inv X c_ σ₀ H s) (r:Vals vs us) (h:sp (vs++xa) H Q E):wpAny (model X.prog X.w) X.A (call (.ref f) us) (EP X c_ σ₀ Q) X.xe s:=by
 have r2:Vals (vs++xa) (us++ds):=r.append hd
 have hl:(us++ds).length=ps.length:=by rw[←r2.length];exact F.len _ _ _ _ h
 refine wpAny_call (codeAny_mono (F.run X.A X.stack s H ⟨us,[]⟩ (us++ds) (vs++xa) Q E hr I.Nz (hb s us I.vy hl) r2 h) fun r s' hq=>?_)
 cases r with
 | error e=>exact hx c_ H s e s' I hq
 | ok fl=>
  cases fl with
  | ret u=>exact I.after hq
  | next=>exact False.elim hq
  | brk=>exact False.elim hq
  | cont=>exact False.elim hq
theorem Bo{pl:Sem Bool}(he:PE X o ta)(c:FU X.K C)(hm:Meth X.K C m f)(F:ip X.prog X.w X.K X.mg X.base CX k f fd ps sp)(hr:kT k X.A)(hb:Binds X.K fd ps ds)(hd:Vals xa ds)(hx:Bn CX X σ₀ E)(ha:PA X (e::es) t)
  (yp:starEach (e::es) X.env=(false,eval e X.env)::starEach es X.env:=by rfl) (ql:(backTo pos (starEach es X.env)).any (·.1)=false:=by rfl)
  (ht:eval (.Call (.Attribute o m apos) (e::es) [] pos) X.env=(do
   let ov ←eval o X.env
   standAt apos.atName
   let (f,first) ←holding [ov] (getMethod ov m pl)
   callWith pos f first (backTo pos (starEach (e::es) X.env)) (backToKw pos (keywordEach [] X.env))):=by rfl) :
  PE X (.Call (.Attribute o m apos) (e::es) [] pos) (tAt σ₀ (FW C m sp xa E ta t)):=by
 intro c_ s σ H Q I h
 obtain⟨rfl,h⟩:=h
 refine W.methodCall_KW (pl:=pl) (i7 (he c_ s σ H _ I h) fun u s1 ⟨x,H1,I1,rx,a,dx,fs,ex,ea,l,q⟩=>?_) ht
 subst ex
 obtain rfl:u=Value.ref a:=rx
 refine vV I1 ea c hm l ?_
 refine ace (first:=[.ref a]) (h₀:=X.base) I.ok.mod.Nr hm.kp (i7 (ha pos c_ s1 σ H1 _ I1 q) fun us s2 ⟨vs,H2,I2,r,q2⟩=>⟨I2.vy,?_⟩) yp ql
 exact QD (us:=.ref a::us) (vs:=.ref a::vs) F hr hb hd hx I2 (.cons rfl r) q2
end
noncomputable abbrev Cx.vB(X:Cx)(pn:Qqz)(E':Qqq):Cx:={X with pn:=pn,xe:=E'}
noncomputable abbrev Cx.hand(X:Cx)(e:Addr):Cx:={X with A:=X.A.mark (some (.ref e)),calm:=false,xe:=fun _ _=>False}
theorem Cx.Ok.vB{X:Cx}(ok:X.Ok)(pn:Qqz)(E:Qqq):(X.vB pn E).Ok:=
 ⟨ok.mod,ok.kind,ok.glob,ok.blt,ok.above,ok.inj,ok.has,ok.Nt,ok.hd,ok.frames,ok.O5,ok.Sq,ok.bs,ok.JQ,ok.rm,ok.FN,ok.tD,ok.K3⟩
theorem Cx.Ok.hand{X:Cx}(ok:X.Ok)(e:Addr):(X.hand e).Ok:=
 ⟨ok.mod,ok.kind,ok.glob,ok.blt,ok.above,ok.inj,ok.has,ok.Nt,(fun z=>nomatch z),ok.frames,ok.O5,ok.Sq,ok.bs,ok.JQ,ok.rm,ok.FN,ok.tD,ok.K3⟩
section
variable{X:Cx}{c_ pn:Qqz}{σ:St}{H:Hp}{s:Shared}{E:Qqq}{e:Addr}
theorem Inv.vB(I:Inv X c_ σ H s)(E:Qqq):Inv (X.vB (X.pn++c_) E) [] σ H s:=
 ⟨I.ok.vB _ E,I.os,I.bare,I.base,I.loc,I.cell,I.free,I.mq,fun p hp=>I.pin p (by simpa using hp),I.iL,I.len⟩
theorem Inv.rE{pl:Qqz}(ok:X.Ok)(I:Inv (X.vB (X.pn++c_) E) pl σ H s):Inv X c_ σ H s:=
 ⟨ok,I.os,I.bare,I.base,I.loc,I.cell,I.free,I.mq,fun p hp=>I.pin p (aaC _ hp),I.iL,I.len⟩
theorem Inv.hand(I:Inv X c_ σ H s)(e:Addr):Inv (X.hand e) c_ σ H s:=
 ⟨I.ok.hand e,I.os,I.bare,I.base,I.loc,I.cell,I.free,I.mq,I.pin,I.iL,I.len⟩
theorem Inv.yF(ok:X.Ok)(I:Inv (X.hand e) c_ σ H s):Inv X c_ σ H s:=
 ⟨ok,I.os,I.bare,I.base,I.loc,I.cell,I.free,I.mq,I.pin,I.iL,I.len⟩
theorem SP.rE{D:Ends}{f:Flow}{s':Shared}{pl:Qqz}(ok:X.Ok)(h:SP (X.vB (X.pn++c_) E) pl D f s'):SP X c_ D f s':=by
 cases f with
 | next=>obtain⟨σ',H',I,q⟩:=h;exact⟨σ',H',I.rE ok,q⟩
 | brk=>obtain⟨σ',H',I,q⟩:=h;exact⟨σ',H',I.rE ok,q⟩
 | cont=>obtain⟨σ',H',I,q⟩:=h;exact⟨σ',H',I.rE ok,q⟩
 | ret u=>obtain⟨v,σ',H',I,r,q⟩:=h;exact⟨v,σ',H',I.rE ok,r,q⟩
theorem SP.yF{D:Ends}{f:Flow}{s':Shared}(ok:X.Ok)(h:SP (X.hand e) c_ D f s'):SP X c_ D f s':=by
 cases f with
 | next=>obtain⟨σ',H',I,q⟩:=h;exact⟨σ',H',I.yF ok,q⟩
 | brk=>obtain⟨σ',H',I,q⟩:=h;exact⟨σ',H',I.yF ok,q⟩
 | cont=>obtain⟨σ',H',I,q⟩:=h;exact⟨σ',H',I.yF ok,q⟩
 | ret u=>obtain⟨v,σ',H',I,r,q⟩:=h;exact⟨v,σ',H',I.yF ok,r,q⟩
end
theorem QE{P:Program}{w:World}{st:List Env}{H H':Hp}{s s':Shared}{e C:Addr}(F:Su P w st H H' s s' e C)(UY:∀b∈tw st,H b=none∧∃o,s.heap.get? b=some o){B h6:Heap}{t:Addr}(fl:Heap.FlyingW B st e (.ref C) (.ref t) s'.heap)
  (hB:∀b o,s'.heap.get? b=some o→b∉tw st→((∃u,H' b=some u)∨∃o',s.heap.get? b=some o')→B.get? b=some o) (UZ:B.StaysIn h6) (up:s'.heap.UpToSlots h6) :
  Un (tw st) [] H H' s.heap h6∧rl P w H' h6:=by
 have JI:∀b u,H' b=some u→b∉tw st:=fun b u hu hb=>by
  obtain⟨n,o,ho⟩:=UY b hb
  rw[F.un.free b o ho n (by simp)] at hu;cases hu
 have yk:∀b o u,s'.heap.get? b=some o→H' b=some u→h6.get? b=some o:=fun b o u ho hu=>UZ b o (hB b o ho (JI b u hu) (.inl ⟨u,hu⟩))
 refine⟨⟨fun b o q n hb hx=>UZ b o (hB b o (F.un.keep b o q n hb hx) hb (.inr ⟨o,q⟩)),fun b o q n hb hx=>?_,F.un.free,fun b o q hx=>?_,F.un.qm,F.un.tF,F.un.vS⟩,fun a u ha=>?_⟩
 ·obtain⟨sl,q1⟩:=F.un.slot b o q n hb hx
  obtain⟨_,o',pN,hd⟩:=fl.2.2.1.mem hb
  rw[q1] at pN;cases pN
  obtain⟨K4,q2⟩:=up b _ q1 hd
  exact⟨K4,q2⟩
 ·obtain⟨o2,q2⟩:=F.un.there b o q hx
  by_cases hb:b∈tw st
  ·obtain⟨_,o',pN,hd⟩:=fl.2.2.1.mem hb
   rw[q2] at pN;cases pN
   obtain⟨Ei,q3⟩:=up b _ q2 hd
   exact⟨_,q3⟩
  ·exact⟨o2,UZ b o2 (hB b o2 q2 hb (.inr ⟨o,q⟩))⟩
 ·refine(F.iL a u ha).yq (fun b v hb q=>?_) (fun _ z=>z) fun _ _ z=>z
  rcases hb with z|z
  ·rw[z] at q ⊢;exact yk a v u q ha
  ·exact yk b v _ q z
noncomputable def rF(K:Qqy)(C D:Addr):Bool:=W.excIn K C [.type "ValueError",.type "Exception",.type "BaseException",.type "object"] "ValueError.__new__"&&W.excIn K D [.type "ValueError",.type "Exception",.type "BaseException",.type "object"] "ValueError.__new__"&&
 match K.lookup C with
 | some ⟨_,_,.cls cd,_⟩=>cd.mro.contains (.ref D)
 | _=>false
theorem Gj{M:Model}{A:Around}{E:Qqq}{K:Qqy}{s:Shared}{e C D:Addr}{oe:Obj}{Q:Bool→Shared→Prop}(X:K.In s.heap)(q:rF K C D=true)(he:s.heap.get? e=some oe)(hc:oe.cls=.ref C)(h:Q true s) :
  wpAny M A (excMatches (.ref e) (.ref D)) Q E s:=by
 unfold rF at q
 rw[abc,abc] at q
 obtain⟨⟨q1,q2⟩,q3⟩:=q
 obtain⟨bm,N,nm,qn,bs,hdct,sn,sub,ab,col,dd,k0,k1,k2,k3,k5,mN,hC,hN,UW,T⟩:=Ej X q1
 obtain⟨bm2,N2,nm2,qn2,bs2,hdct2,sn2,sub2,ab2,col2,Wz,k02,k12,k22,k32,k52,mN2,hD,hN2,hni2,T2⟩:=Ej X q2
 have hm:(Value.ref C::bm).contains (.ref D)=true:=by
  split at q3
  ·rename_i c d cd sl ho
   have z:=X _ _ ho
   rw[hC] at z
   cases z
   exact q3
  ·cases q3
 have hcB:(Value.ref D::bm2).contains (.type "BaseException")=true:=by rw[List.contains_cons,T2.hasType (b:=true) (by decide),Bool.or_true]
 have f:=tc_notTuple
 obtain⟨hh,g,d,tk,os⟩:=s
 unfold excMatches
 repeat (first|(with_reducible refine wpAny_loadPart_at he ?_;rw[hc])|with_reducible refine wpAny_loadPart_at hD ?_|(with_reducible refine wpAny_isSubtype_exc hD ?_;rw[hcB])|(with_reducible refine wpAny_isSubtype_exc hC ?_;rw[hm])|wp_step)
 exact h
def J9(e C:Addr):HO:=.ext fun h=>∃o,h.get? e=some o∧o.cls=.ref C∧∃vs,o.data=.fields vs
section
variable{X:Cx}{c_:Qqz}{σ:St}{H:Hp}{s:Shared}{M:Model}{A:Around}{E:Qqq}
theorem Inv.Jb{a:Addr}{o:HO}(I:Inv X c_ σ H s)(hn:H a=none)(h0:X.s₀.heap.get? a=none)(hL:a≠X.env.locals)(hC:∀x c,X.env.cells.lookup x=some c→c≠a)(hp:∀p∈X.pn++c_,p.1≠a)
  (new:i4 X.prog X.w (upd H a o) s.heap a o):Inv X c_ σ (upd H a o) s:=by
 have ne:∀b u,H b=some u→b≠a:=fun b u e z=>by rw[z,hn] at e;cases e
 have ne0:∀b u,X.s₀.heap.get? b=some u→b≠a:=fun b u e z=>by rw[z,h0] at e;cases e
 refine⟨I.ok,I.os,I.bare,⟨I.base.keep,I.base.slot,fun b u q n hx=>by rw[e_ (ne0 b u q)];exact I.base.free b u q n hx,I.base.there,fun b xs q=>?_,fun b u v q=>?_,fun b ps q=>?_⟩,I.loc,I.cell,by rw[e_ (abT hL)];exact I.free,fun x c e=>by rw[e_ (hC x c e)];exact I.mq x c e,fun p z=>?_,rl.Jb I.iL hn new,I.len⟩
 ·have:=I.base.qm b xs q
  rw[e_ (ne b _ this)];exact this
 ·have:=I.base.tF b u v q
  rw[e_ (ne b _ this)];exact this
 ·obtain⟨m,e⟩:=I.base.vS b ps q
  exact⟨m,by rw[e_ (ne b _ e)];exact e⟩
 ·obtain⟨e1,e2,e3⟩:=I.pin p z
  exact⟨e1,by rw[e_ (hp p z)];exact e2,e3⟩
theorem AM{j:Nat}{n:Str}{pos:Pos}{Q:Unit→Shared→Prop}(I:Inv X c_ σ H s)(hN:X.N.Nodup)(hi:X.N[j]?=some n)(hk:X.env.scope.names.lookup n=some .local)
  (h:∀s',Inv X c_ (σ.set j none) H s'→Q () s'):wpAny M A (do bindName X.env n .none;unbindBehindTheSuite X.env n pos) Q E s:=by
 obtain⟨m,hn,hl⟩:=id I.loc
 have RD:(X.env.scope.kind ==.class||(X.env.scope.kind ==.module&&X.env.locals != X.env.globals))=false:=by rw[I.ok.kind];rfl
 have Wt:j<σ.length:=by rw[I.len];exact(Vb.mp hi).1
 refine wpAny_nameGoes_keeps hk hn RD fun h' v Pq hs=>?_
 have MU:∀b o,X.s₀.heap.get? b=some o→b≠X.env.locals:=fun b o e=>aa1 (aaK (aaD e) I.ok.above)
 refine h _ ⟨I.ok,I.os,I.bare,⟨fun b o e n hb hx=>?_,fun b o e n hb hx=>?_,I.base.free,fun b o e hx=>?_,I.base.qm,I.base.tF,I.base.vS⟩,⟨_,Pq,fun i y v' e1 e2 e3=>?_⟩,fun y c e=>?_,I.free,I.mq,fun p hp=>?_,fun b ob e=>?_,by simpa using I.len⟩
 ·exact(hs.2 b (MU b o e)).trans (I.base.keep b o e n hb hx)
 ·obtain⟨sl,e1⟩:=I.base.slot b o e n hb hx
  exact⟨sl,(hs.2 b (MU b o e)).trans e1⟩
 ·obtain⟨o',e1⟩:=I.base.there b o e hx
  exact⟨o',(hs.2 b (MU b o e)).trans e1⟩
 ·by_cases hj:i=j
  ·subst hj
   rw[abf Wt] at e2
   cases e2
  ·rw[abm (abT hj)] at e2
   obtain⟨u',r',q⟩:=hl i y v' e1 e2 e3
   refine⟨u',r',?_⟩
   rcases q with⟨k,e⟩|⟨k,c,e,z⟩
   ·refine .inl ⟨k,?_⟩
    have:y≠n:=fun e=>hj (AZ hN e1 (e▸hi))
    simp[this,e]
   ·exact .inr ⟨k,c,e,z.sameBut hs (I.Nv y c e)⟩
 ·obtain⟨w',z⟩:=I.cell y c e
  exact⟨w',z.sameBut hs (I.Nv y c e)⟩
 ·obtain⟨e,n,ne,nf,d⟩:=I.pin p hp
  exact⟨(hs.2 p.1 ne).trans e,n,ne,nf,d⟩
 ·refine(I.iL b ob e).yq (fun c w' hc q=>(hs.2 c ?_).trans q) (fun _ q=>q) fun _ _ q=>q
  rintro rfl
  rcases hc with rfl|hc
  ·rw[I.free] at e;cases e
  ·rw[I.free] at hc;cases hc
end
def Ends.gone(D:Ends)(j:Nat):Ends:={nx:=fun σ H=>D.nx (σ.set j none) H,rt:=D.rt,bk:=fun σ H=>D.bk (σ.set j none) H,ct:=fun σ H=>D.ct (σ.set j none) H}
def TN(K:Qqy)(D0:Addr)(j:Nat)(tb:St→XK→TS)(ts:TS):TS:=fun D σ H=>
 tb σ (fun cls _ H'=>∃C,cls=.ref C∧rF K C D0=true∧∀e,H' e=none→ts (D.gone j) (σ.set j (some (.ref e))) (upd H' e (J9 e C))) D σ H
theorem Em{X:Cx}{D0:Addr}{x n:Str}{j:Nat}{body Px:List Stmt}{b₀:Stmt}{np RN pos:Pos}{tb:St→XK→TS}{ts:TS}(bd:Bd X)(hN:X.N.Nodup)(hj:X.N[j]?=some n)(hk:X.env.scope.names.lookup n=some .local)(hm:X.mg x=some (.ref D0))(hg:Gl X x)
  (hb:∀(σ₀:St)(pn:Qqz)(E':Qqq)(EX:XK),Bn (tE X.prog X.w) (X.vB pn E') σ₀ EX→Dj (X.vB pn E') body (tb σ₀ EX))
  (hs:∀e,Dj (X.hand e) (b₀::Px) ts) (Ff:(x ==("__debug__":Str))=false:=by decide) :
  PS X (.Try body [.ExceptHandler (some (.Name x np)) (some n) (b₀::Px) RN] [] [] pos) (TN X.K D0 j tb ts):=by
 intro c_ s σ H D I h
 refine wpAny_Try_except ?_
 refine i7 (hb σ (X.pn++c_) _ _ ?_ [] s σ H D (I.vB _) h) fun f s1 q=>?_
 ·intro pl H1 s1 ev s' I1 hcx
  obtain⟨e,C,H',he,F,C',hC',AA,hts⟩:=hcx
  subst he
  cases hC'
  obtain⟨B,t,fl,hB⟩:=F.fl
  have UT:Heap.FlyingW B X.stack e (.ref C) (.ref t) s'.heap:=fl
  rw[bd.stack] at UT
  have UY:∀b∈tw X.stack,H1 b=none∧∃o,s1.heap.get? b=some o:=fun b hb=>by
   obtain⟨_,o,ho,_⟩:=I1.stack.mem hb
   exact⟨I1.AH b hb,o,ho⟩
  refine wpAny_looks_onW (by rw[I.ok.frames,bd.stack]) bd.frame UT fun h4 U0 up4=>?_
  refine wpAny_landsW U0 fun h5 YK up5=>?_
  have go:∀h6,B.StaysIn h6→s'.heap.UpToSlots h6→Inv X c_ σ H' {s' with heap:=h6}:=fun h6 UZ YL=>by
   obtain⟨un6,YM⟩:=QE F UY fl hB UZ YL
   exact(I1.O6 (s':={s' with heap:=h6}) (ch:=[]) F.os un6 YM F.bare (fun _ z=>nomatch z)).rE I.ok
  have I5:=go h5 YK.1 (up4.trans up5)
  obtain⟨ob,UM,YN⟩:=YK.there
  refine wpAny_handleBy_cons (codeAny_handlers_test (rn (I5.hand e) hg hm ?_ Ff)) (by intro q;cases q)
  refine Gj I5.vy AA UM YN (codeAny_handlers_suite_as ?_)
  refine lands_againW YK fun h6 fl6 YL=>?_
  have I6:=go h6 fl6.1 ((up4.trans up5).trans YL)
  obtain⟨oe,ws,hoe,YO,YQ,hoe0⟩:=fl6.first
  have RJ:X.s₀.heap.get? e=none:=by
   cases q:X.s₀.heap.get? e with
   | none=>rfl
   | some o=>
    obtain⟨o1,q1⟩:=I1.base.there e o q (by show e∉X.ex;rw[bd.ex];simp)
    rw[F.new] at q1;cases q1
  have eL:e≠X.env.locals:=fun z=>by
   obtain⟨m,⟨o,_,_,ho,_⟩,_⟩:=I1.loc
   have ho:s1.heap.get? X.env.locals=some o:=ho
   rw[←z,F.new] at ho;cases ho
  have I7:=(I6.hand e).Jb (o:=J9 e C) F.free RJ eL (fun y c ec z=>by
    obtain⟨v,o,ho,_⟩:=I1.cell y c ec
    rw[z,F.new] at ho;cases ho) (fun p hp z=>by
    obtain⟨e1,_⟩:=I1.pin p (aaC _ hp)
    rw[z,F.new] at e1;cases e1)
   ⟨⟨oe,hoe,YO,ws,YQ⟩,⟨oe,hoe⟩,fun h1 h2 ⟨o,e1,e2⟩ k=>⟨o,k o e1,e2⟩⟩
  refine A1 (X:=X.hand e) I7 hN hj (.inl hk) (v:=.ref e) rfl (fun s7 I8=>?_) (.inr hk)
  refine abv (hs e c_ _ _ _ (D.gone j) I8 (hts e F.free)) (fun f s8 q=>?_) fun _ _ z=>z.elim
  have q:=q.yF I.ok
  cases f with
  | next=>obtain⟨σ',H2,I9,q⟩:=q;exact AM I9 hN hj hk fun s9 RO=>⟨_,H2,RO,q⟩
  | brk=>obtain⟨σ',H2,I9,q⟩:=q;exact AM I9 hN hj hk fun s9 RO=>⟨_,H2,RO,q⟩
  | cont=>obtain⟨σ',H2,I9,q⟩:=q;exact AM I9 hN hj hk fun s9 RO=>⟨_,H2,RO,q⟩
  | ret u=>obtain⟨v,σ',H2,I9,r,q⟩:=q;exact AM I9 hN hj hk fun s9 RO=>⟨v,_,H2,RO,r,q⟩
 ·have q:=q.rE I.ok
  cases f with
  | next=>exact wpAny_execs_nil q
  | ret v=>exact q
  | brk=>exact q
  | cont=>exact q
structure Gk(k:Nat)(A:Around):Prop where
 dp:A.depth+3*k+5<recursionLimit
 un:A.units+16*k+200<cLine
theorem kT.hand{k:Nat}{A:Around}(r:kT k A)(e:Option Value):Gk k (A.mark e):=⟨r.dp,r.un⟩
structure Jh(P:Program)(w:World)(K:Qqy)(mg:Qqx)(base:Heap)(k:Nat)(f:Addr)(fd:FuncData)(ps:List Str)(sp:Sp):Prop where
 len:∀vs H Q E,sp vs H Q E→vs.length=ps.length
 run:∀(A:Around)(outer:List Env)(s:Shared)(H:Hp)(args:Args)(us:List Value)(vs:List V)(Q:VK)(E:XK),Gk k A→FV P w K mg base A outer s H→BindsTo s fd args (ps.zip us)→Vals vs us→sp vs H Q E→
  codeAny (model P w) A (.call (.ref f) args) (CR nu outer P w H s Q E) s
noncomputable def Ji(P:Program)(w:World)(K:Qqy)(mg:Qqx)(base:Heap)(N:List Str)(qual:Str)(scope:Scope)(f:Addr)(cd:Value)(A:Around)(outer:List Env)(s:Shared)(H:Hp):Cx:=
 {vW nu P w K mg base N qual scope f cd A outer s H E0 with calm:=false,xe:=fun _ _=>False}
section
variable{P:Program}{w:World}{K:Qqy}{mg:Qqx}{base:Heap}
theorem w_.okH{x qual:Str}{st:Stmt}{f:Addr}{fd:FuncData}{N ps:List Str}{k:Nat}{sp:Sp}(F:w_ K x qual st f fd)(S:gA N ps (gc st))(len:∀vs H Q E,sp vs H Q E→vs.length=ps.length)
  (rg:∀(jh:Value)(A:Around)(outer:List Env)(s:Shared)(H:Hp)(vs:List V)(Q:VK)(E:XK),Gk k (A.deeper (envOfC qual (gc st) s.heap.objs.size f jh))→sp vs H Q E→
   ∃t,Dj (Ji P w K mg base N qual (gc st) f jh A outer s H) (lC st) t∧t {nx:=fun _ H'=>Q .js H',rt:=Q} (start N vs) H):Jh P w K mg base (k+1) f fd ps sp:=by
 obtain⟨oc,od,kV,doc,pm,an,jh,ct,KQ,rfl,lk,CM⟩:=F.ex
 refine⟨len,fun A outer s H args us vs Q E hr e0 hb r KR=>?_⟩
 have hl:=len _ _ _ _ KR
 have KX:K.In s.heap:=e0.mod.Nr.keeps fun b o e=>(e0.bs b o e).1
 have lim:s.heap.NoLimit:=e0.mod.nolimit.keeps fun b o e=>(e0.bs b o e).1
 have MN:∀y∈ps.zip us,(gc st).names.lookup y.1=some .local∨((gc st).names.lookup y.1=some .cell∧((cellsFrom (s.heap.objs.size+1) (gc st).names []).lookup y.1).isSome=true):=fun⟨n,v⟩ hy=>by
  rcases S.par n (List.of_mem_zip hy).1 with e|e
  ·exact .inl e
  ·obtain⟨c,hc⟩:=A7 (n:=s.heap.objs.size+1) e
   exact .inr ⟨e,by rw[hc];rfl⟩
 refine codeAny_call_function (by have:=hr.dp;omega) (KX _ _ lk) rfl S.co S.gen rfl (W.codeRec_of KX CM) (hb _ _ _ _ ?_)
 refine wpAny_newFunctionEnv_cells S.kind MN fun env he s1 x=>?_
 subst he
 refine⟨lim.keeps x.toInCall.keep,codeAny_func ?_⟩
 obtain⟨t,ht,hq⟩:=rg jh A outer s H vs Q E ⟨by have:=hr.dp;show A.depth+1+3*k+5<_;omega,by have:=hr.un;show A.units+3+16*k+200<_;omega⟩ KR
 have I0:Inv (vW nu P w K mg base N qual (gc st) f jh {A with handled:=none} outer s H E0) [] (start N vs) H s1:=Du S rfl ⟨e0.frames,e0.mod,e0.bs,e0.JQ,e0.tD,e0.K3,e0.iL,e0.bare⟩ hl r x
 have I:Inv (Ji P w K mg base N qual (gc st) f jh A outer s H) [] (start N vs) H s1:=
  ⟨⟨I0.ok.mod,I0.ok.kind,I0.ok.glob,I0.ok.blt,I0.ok.above,I0.ok.inj,I0.ok.has,I0.ok.Nt,(fun z=>nomatch z),Around.frames_deeper e0.frames,I0.ok.O5,I0.ok.Sq,I0.ok.bs,I0.ok.JQ,I0.ok.rm,I0.ok.FN,I0.ok.tD,I0.ok.K3⟩,I0.os,I0.bare,I0.base,I0.loc,I0.cell,I0.free,I0.mq,I0.pin,I0.iL,I0.len⟩
 refine abv (ht [] s1 (start N vs) H _ I hq) (fun fl s' hs=>?_) fun e s' hs=>hs.elim
 have fin:∀{σ':St} {H':Hp} {v:V} {u:Value},Inv (Ji P w K mg base N qual (gc st) f jh A outer s H) [] σ' H' s'→RelV v u→Q v H'→CE outer P w H s Q u s':=
  fun{σ' H' v u} J rv q=>⟨v,H',J.os,J.bare,J.base,J.iL,rv,q⟩
 cases fl with
 | ret u=>obtain⟨v,σ',H',J,rv,q⟩:=hs;exact fin J rv q
 | next=>obtain⟨σ',H',J,q⟩:=hs;exact fin (v:=.js) J rfl q
 | brk=>obtain⟨σ',H',J,q⟩:=hs;exact q.elim
 | cont=>obtain⟨σ',H',J,q⟩:=hs;exact q.elim
end
section
variable{X:Cx}{k:Nat}{f:Addr}{fd:FuncData}{ps:List Str}{sp:Sp}{x:Str}{p pos:Pos}{e:Expr}{es:List Expr}{t:TA}
theorem Bp(F:Jh X.prog X.w X.K X.mg X.base k f fd ps sp)(hr:Gk k X.A)(hg:Gl X x)(hm:X.mg x=some (.ref f))(hk:W.keepIn X.K (.ref f)=true)(hb:Binds X.K fd ps [])
  (ha:PA X (e::es) t) (Ff:(x ==("__debug__":Str))=false:=by decide) (he:starEach (e::es) X.env=(false,eval e X.env)::starEach es X.env:=by rfl) (ql:(backTo pos (starEach es X.env)).any (·.1)=false:=by rfl) :
  PE X (.Call (.Name x p) (e::es) [] pos) (IW sp [] E0 t):=by
 intro c_ s σ H Q I h
 refine abY (rn I hg hm ?_ Ff)
 refine ace (h₀:=X.base) I.ok.mod.Nr hk (i7 (ha pos c_ s σ H _ I h) fun us s1 ⟨vs,H1,I1,r,q⟩=>⟨I1.vy,?_⟩) he ql
 have q:sp (vs++[]) H1 Q E0:=q
 rw[aaP] at q
 have hl:(us++[]).length=ps.length:=by rw[aaP,←r.length];exact F.len _ _ _ _ q
 have SH:=hb s1 us I1.vy hl
 rw[aaP] at SH
 refine wpAny_call (codeAny_mono (F.run X.A X.stack s1 H1 ⟨us,[]⟩ us vs Q E0 hr I1.Nz SH r q) fun r s' hq=>?_)
 cases r with
 | error e=>exact False.elim hq
 | ok fl=>
  cases fl with
  | ret u=>exact I1.after hq
  | next=>exact False.elim hq
  | brk=>exact False.elim hq
  | cont=>exact False.elim hq
end
open PySem PySem.Spec PyProof.Rows PySem.W PySem.Builtin PySem.Builtin.ObjectAttr PySem.Builtin.Getset_descriptor
structure Bq(K:Qqy)(C:Addr):Prop where
 ga:W.findIn K (.ref C) "__getattribute__"=some (some (.builtin "BaseException.__getattribute__"))
 gt:W.findIn K (.ref C) "__getattr__"=some none
 cl:W.findIn K (.ref C) "__class__"=some (some (.builtin "object.__class__"))
 ob:W.mroIn K C (.type "object")=some true
 be:W.mroIn K C (.type "BaseException")=some true
 cs:(W.clsIn K C).isSome=true
def Br(e C:Addr)(h:Heap):Prop:=∃o,h.get? e=some o∧o.cls=.ref C∧∃vs,o.data=.fields vs
section
variable{K:Qqy}{e C:Addr}{prog:Program}{w:World}{A:Around}{E:Qqq}{h:Heap}{g:Array GenState}{d:Drawn}{t:Nat}{os:OsState}
theorem qK{M:Model}(p:Br e C h):Looks M h (typeOf (.ref e)) (.ref C):=by
 obtain⟨o,ho,hc,_⟩:=p
 exact hc▸(Looks.ld ho).andThen .now
theorem LK{M:Model}{Py:Value}{Q:Unit→Shared→Prop}(X:K.In h)(x:Bq K C)(p:Br e C h)(hq:Q () ⟨h,g,d,t,os⟩):wpAny M A (checkBuiltinCall "BaseException.__getattribute__" ⟨[.ref e,Py],[]⟩) Q E ⟨h,g,d,t,os⟩:=by
 have hk:builtinKind "BaseException.__getattribute__"=some .slot:=by decide+kernel
 have RP:splitId "BaseException.__getattribute__"=some ("BaseException","__getattribute__"):=by decide+kernel
 have ha:=F.args_bexc_ga (.ref e) Py
 have L0:=qK (M:=M) p
 have L1:=looks_mroIn (M:=M) X x.be
 simp only [checkBuiltinCall,hk,RP]
 refine XX ?_
 unfold isInstance
 repeat (first|(with_reducible refine XX (L0.at ?_))|(with_reducible refine L1.at ?_)|wp_step)
 exact hq
theorem QF{R:Result→Shared→Prop}{tp:Value}(X:K.In h)(x:Bq K C)(p:Br e C h)(hq:R (.ok (.ret (.ref C))) ⟨h,g,d,t,os⟩) :
  codeAny (model prog w) A (.call (.builtin "getset_descriptor.__get__") ⟨[.builtin "object.__class__",.ref e,tp],[]⟩) R ⟨h,g,d,t,os⟩:=by
 have L0:=qK (M:=model prog w) p
 have L1:=looks_mroIn (M:=model prog w) X x.ob
 refine codeAny_call_builtin KF.slot_gs.plain KF.entry_gs (KF.slot_gs.check _ _ _ _ _ _ _ _ KF.type_class (KF.args_gs _ _ _) ?_)
 unfold Builtin.«getset_descriptor.__get__» descrGet
 rw[dga_obj]
 refine XX (aas ?_)
 unfold descrGetter descrCheckInstance descrNameAndClass isInstance
 simp only [KF.owner_class]
 repeat lk
 refine⟨Code.quiet_builtin _ (by decide+kernel),codeAny_builtin KF.entry_class ?_⟩
 unfold Builtin.«object.__class__» shownTypeOf
 repeat lk
 exact hq
theorem QG{tk:Tok}{Q:Fin→Shared→Prop}(X:K.In h)(x:Bq K C)(p:Br e C h)(hq:Q (.done (.ret (.ref C))) ⟨h,g,d,t,os⟩) :
  wpAny (model prog w) A (Builtin.«object.__getattribute__» ⟨[.ref e,.str "__class__" tk],[]⟩) Q E ⟨h,g,d,t,os⟩:=by
 have L0:=qK (M:=model prog w) p
 have L1:=looks_findIn (M:=model prog w) X x.cl
 have f5:=F.typeOf_object_class
 have f6:=F.slot_gs_get.lookup
 have f7:=F.slot_gs_set.lookup
 have hT5:(⟨h,g,d,t,os⟩:Shared).TypeIs (.builtin "object.__class__") "getset_descriptor":=F.typeOf_object_class
 repeat (any_goals (first|assumption|with_reducible refine XX (L0.at ?_)|with_reducible refine L0.at ?_|with_reducible refine XX (L1.at ?_)|with_reducible refine L1.at ?_|wp_step))
 refine QF X x p ?_
 repeat (any_goals (first|assumption|wp_step))
theorem TQ{Q:Option Value→Shared→Prop}(X:K.In h)(x:Bq K C)(p:Br e C h)(hq:Q (some (.ref C)) ⟨h,g,d,t+1,os⟩) :
  wpAny (model prog w) A (getAttr? (.ref e) "__class__") Q E ⟨h,g,d,t,os⟩:=by
 have L0:=qK (M:=model prog w) p
 have L1:=looks_findIn (M:=model prog w) X x.ga
 have L2:=looks_findIn (M:=model prog w) X x.gt
 have f3:=F.attr_ValueError.ga.bind (.ref e)
 have hx2:(Value.builtin "BaseException.__getattribute__" ==Value.builtin "object.__getattribute__")=false:=by decide+kernel
 have hx1:(onTheHeap (Value.ref C)&&Value.builtin "BaseException.__getattribute__" ==Value.builtin "object.__getattribute__")=false:=by rw[hx2];rfl
 unfold getAttr? getAttrBy? getAttrBy
 repeat (any_goals (first|assumption|with_reducible refine XX (L0.at ?_)|with_reducible refine L0.at ?_|with_reducible refine XX (L1.at ?_)|with_reducible refine L1.at ?_|with_reducible refine XX (L2.at ?_)|with_reducible refine L2.at ?_|wp_step))
 refine codeAny_call_builtin F.attr_ValueError.ga.plain F.entry_bexc_ga (LK X x p (QG X x p ?_))
 repeat (any_goals (first|assumption|wp_step))
end
theorem LL{K:Qqy}{e C:Addr}(x:Bq K C):KitX K (.ref e) (.ref C) (Br e C) where
 ty:=fun _ _ _ p=>qK p
 it:=fun _ _ X _=>by
  have z:=x.cs
  unfold clsIn at z
  split at z
  ·rename_i c' d' cd' Ys ho
   intro A' Q' E' s' k q
   unfold isType loadHead
   exact XX (wpAny_loadPart (k _ _ (X _ _ ho)) (aas q))
  ·cases z
 ne:=fun h tp dd ic n sl X YR=>by
  refine aa8.mpr fun q=>?_
  have e:C=tp:=Value.ref.inj (ab4.mp q)
  subst e
  have z:=x.cs
  unfold clsIn at z
  split at z
  ·rename_i c' d' cd' Ys ho
   have z:=(X _ _ ho).symm.trans YR
   cases z
  ·cases z
 ca:=fun{_ _ _ _ _ s} X p k=>by
  obtain⟨h,g,d,t,os⟩:=s
  exact TQ X x p k
theorem lR{X:Cx}:vz X (.builtin "isinstance") (fun xs H Q=>∃e C c cv b,xs=[.ref e,c]∧RelV c cv∧(∀u,RelV c u→u=cv)∧H e=some (J9 e C)∧Bq X.K C∧W.kitOne X.K (.ref C) cv=some b∧Q (.bl b) H):=by
 intro c_ s σ H xs us Q I r h
 obtain⟨e,C,c,cv,b,rfl,rc,hu,he,xk,hk,q⟩:=h
 obtain⟨u,u',rfl,ru,YI⟩:=vals2 r
 cases (show u=Value.ref e from ru)
 obtain rfl:=hu u' YI
 have p:Br e C s.heap:=(show i4 X.prog X.w H s.heap e (J9 e C) from I.iL e _ he).1
 exact kia_one (LL xk) I.vy p hk (fun z=>nomatch z) fun tk=>⟨.bl b,H,I.tok tk,rfl,q⟩
theorem jc{xs:List V}(h:xs.length≤15:=by simp):xs.length≤sizeLine:=aah h (by decide)
theorem iE{α:Type}{xs:List α}{i:Int}{j:Nat}{v:α}(e:i=(j:Int))(h:xs[j]?=some v):HJ xs i=some v:=by subst e;exact NC h
theorem En{n:Nat}{i:Int}{j:Nat}(e:i=(j:Int))(h:j<n):Lk n i=some j:=by
 subst e
 unfold Lk
 rw[aax (by omega),aax (by omega)]
 simp
theorem gk.upd{H H':Hp}{p:Addr}{o:HO}(s:gk H H')(h:H p=none):gk H (L2.upd H' p o):=fun b u e=>by rw[e_ (gn e h)];exact s b u e
theorem gk.new{H H':Hp}{p:Addr}{o:HO}(s:gk H H')(h:H' p=none):gk H (L2.upd H' p o):=s.upd (s.free h)
def X0(t:TS):TS:=fun D σ H=>∃J:St→Hp→Prop,t {D with nx:=J} σ H∧∀σ' H',J σ' H'→D.nx σ' H'
theorem SP.nx{X:Cx}{c_:Qqz}{D:Ends}{J:St→Hp→Prop}{f:Flow}{s:Shared}(hJ:∀σ' H',J σ' H'→D.nx σ' H')(h:SP X c_ {D with nx:=J} f s):SP X c_ D f s:=by
 cases f with
 | next=>obtain⟨σ,H,I,q⟩:=h;exact⟨σ,H,I,hJ _ _ q⟩
 | brk=>exact h
 | cont=>exact h
 | ret u=>exact h
theorem tO{X:Cx}{st:Stmt}{t:TS}(h:PS X st t):PS X st (X0 t):=fun c_ s σ H D I ⟨J,h1,h2⟩=>i7 (h c_ s σ H _ I h1) fun f s' q=>SP.nx h2 q
theorem tP{α:Type}{xs:List α}{i:Int}(h0:0≤i)(h:i<(xs.length:Int)):∃v,HJ xs i=some v∧xs[i.toNat]?=some v:=by
 have hi:i.toNat<xs.length:=by omega
 exact⟨xs[i.toNat],iE (j:=i.toNat) (by omega) (Y0 hi),Y0 hi⟩
theorem Jj{b:Bool}{A B:Prop}(e:b=false)(h:B):if b=true then A else B:=by subst e;exact jY h
theorem DG{b:Bool}{A B:Prop}(e:b=true)(h:A):if b=true then A else B:=by subst e;exact mx h
theorem mod_lt(a b:Int)(h:0<b):0≤a%b∧a%b<b:=⟨Int.emod_nonneg a (by omega),Int.emod_lt_of_pos a h⟩
noncomputable abbrev gh(l:List Str):List V:=l.map V.str
theorem iK(xs:List Str)(x:Str):gh xs++[V.str x]=gh (xs++[x]):=by unfold gh;rw[aaA];rfl
theorem o_(x y:List Str):gh x++gh y=gh (x++y):=by unfold gh;rw[aaA]
theorem pT{l:List Str}{j:Nat}{x:Str}(h:l[j]?=some x):(gh l)[j]?=some (V.str x):=by rw[aan,h];rfl
theorem jW{l:List Str}{j:Nat}{v:V}(h:(gh l)[j]?=some v):∃x,l[j]?=some x∧v=V.str x:=by
 rw[aan] at h
 cases e:l[j]? with
 | none=>rw[e] at h;cases h
 | some x=>rw[e] at h;cases h;exact⟨x,rfl,rfl⟩
theorem K5{A:Around}{k:Nat}(hr:kT k A){n:Nat}(h:n≤60:=by decide):A.units+n+1<cLine:=by have:=hr.units;omega
theorem g_{H:Hp}{a q:Addr}{o u:HO}(hq:H q=none)(h:H a=some o):upd H q u a=some o:=by rw[e_ (gn h hq)];exact h
theorem K4{t0 t1:TS}{D:Ends}{σ:St}{H:Hp}(h:let v1:=t1;i3 t0 v1 D σ H):i3 t0 t1 D σ H:=h
theorem Ei{t0 t1 t2:TS}{D:Ends}{σ:St}{H:Hp}(h:let v2:=t2;let v1:=i3 t1 v2;i3 t0 v1 D σ H):i3 t0 (i3 t1 t2) D σ H:=h
theorem NP{t0 t1 t2 t3:TS}{D:Ends}{σ:St}{H:Hp}(h:let v3:=t3;let v2:=i3 t2 v3;let v1:=i3 t1 v2;i3 t0 v1 D σ H):i3 t0 (i3 t1 (i3 t2 t3)) D σ H:=h
theorem Sw{t0 t1 t2 t3 t4:TS}{D:Ends}{σ:St}{H:Hp}(h:let v4:=t4;let v3:=i3 t3 v4;let v2:=i3 t2 v3;let v1:=i3 t1 v2;i3 t0 v1 D σ H):i3 t0 (i3 t1 (i3 t2 (i3 t3 t4))) D σ H:=h
theorem Sx{t0 t1 t2 t3 t4 t5:TS}{D:Ends}{σ:St}{H:Hp}(h:let v5:=t5;let v4:=i3 t4 v5;let v3:=i3 t3 v4;let v2:=i3 t2 v3;let v1:=i3 t1 v2;i3 t0 v1 D σ H):i3 t0 (i3 t1 (i3 t2 (i3 t3 (i3 t4 t5)))) D σ H:=h
theorem X8{t0 t1 t2 t3 t4 t5 t6:TS}{D:Ends}{σ:St}{H:Hp}(h:let v6:=t6;let v5:=i3 t5 v6;let v4:=i3 t4 v5;let v3:=i3 t3 v4;let v2:=i3 t2 v3;let v1:=i3 t1 v2;i3 t0 v1 D σ H):i3 t0 (i3 t1 (i3 t2 (i3 t3 (i3 t4 (i3 t5 t6))))) D σ H:=h
theorem X_{t0 t1 t2 t3 t4 t5 t6 t7 t8:TS}{D:Ends}{σ:St}{H:Hp}(h:let v8:=t8;let v7:=i3 t7 v8;let v6:=i3 t6 v7;let v5:=i3 t5 v6;let v4:=i3 t4 v5;let v3:=i3 t3 v4;let v2:=i3 t2 v3;let v1:=i3 t1 v2;i3 t0 v1 D σ H):i3 t0 (i3 t1 (i3 t2 (i3 t3 (i3 t4 (i3 t5 (i3 t6 (i3 t7 t8))))))) D σ H:=h
theorem LM{w:TI}{g:TG}{b u:TS}{D:Ends}{σ:St}{H:Hp}(h:let v:=b;i3 (Qe w g v) u D σ H):i3 (Qe w g b) u D σ H:=h
abbrev rr(a:Addr):Option V:=some (.ref a)
abbrev rs(x:Str):Option V:=some (.str x)
abbrev ri(i:Int):Option V:=some (.int i)
section
variable{X:Cx}{tg:Expr}
def Sy(x:Str):It:=⟨fun i _=>i<x.length,fun i H v H'=>H'=H∧∃c,x.cps[i]?=some c∧v=.str ⟨#[c]⟩,fun i _=>i=x.length⟩
theorem DH{P:Program}{w:World}{K:PySem.W.Frag}(it:Addr)(ty:String)(x:Str)(t:Tok)(UG:["enumerate","zip","dict_itemiterator","dict_reverseitemiterator","odict_iterator","itertools.zip_longest","itertools.pairwise"].contains ty=false)
  (W:∀A:Around,A.handled=none→Walks P w A it [it] [it] x.cps.size (SignAt x) (fun i h=>h.IsStrIter it ty x t i))
  (self:∀(A:Around)(i:Nat)(s:Shared)(Q:Qqq)(E:Qqq),s.heap.IsStrIter it ty x t i→Q (.ref it) s→wpAny (model P w) A (pyIter (.ref it)) Q E s):Turn P w K tg (Sy x) [it] it (fun i h=>h.IsStrIter it ty x t i) where
 mem:=by simp
 obj:=fun i h st b hb=>by
  have e:b=it:=by simpa using hb
  subst e
  obtain⟨o,e,c,d⟩:=st
  exact⟨o,e,fun v z=>by rw[d] at z;cases z⟩
 keep:=fun i h h' ⟨o,ho,r⟩ k=>⟨o,k it (by simp) o ho,r⟩
 item:=by
  intro X hP hw hK hc i c_ s σ H E I hf st hg
  subst hP hw hK
  obtain⟨f0,f1,f2,f3,f4,f5⟩:=hf it (by simp)
  refine(W X.A (I.ok.hd hc)).item i s _ _ hg st fun v h' tk hv C9 kk=>?_
  obtain⟨c,t',D1,rfl⟩:=hv
  have I1:Inv X c_ σ H {s with heap:=h',toks:=tk}:=I.turned (fun b o hb e=>kk b o (by simpa using hb) e) f0 f1 f3 f4 f5
  obtain⟨o',e,cc,dd⟩:=id C9
  exact⟨_,rfl,A3 (s:={s with heap:=h',toks:=tk}) e cc dd UG ⟨.str ⟨#[c]⟩,H,I1,⟨t',rfl⟩,⟨rfl,c,D1,rfl⟩,C9,fun b hb=>(hf b hb).1⟩⟩
 done:=by
  intro X hP hw hK hc i c_ s σ H E I hf st hg
  subst hP hw hK
  obtain⟨f0,f1,f2,f3,f4,f5⟩:=hf it (by simp)
  have e:i=x.cps.size:=hg
  subst e
  exact(W X.A (I.ok.hd hc)).done s _ _ st fun h' tk kk=>⟨rfl,I.turned (fun b o hb e=>kk b o (by simpa using hb) e) f0 f1 f3 f4 f5⟩
 self:=self
def TR(te:TE):TI:=fun σ H R=>te σ H fun v H1=>∃x,v=.str x∧R (Sy x) H1
theorem QH{l:Expr}{te:TE}(hl:PE X l te):PI X tg l (TR te):=by
 intro c_ s σ H R I h
 refine i7 (hl c_ s σ H _ I h) fun v s1 ⟨y,H1,I1,r1,x,e,q⟩=>?_
 subst e
 obtain⟨t,rfl⟩:=r1
 have fin:∀(ty:String)(T:Turn X.prog X.w X.K tg (Sy x) [s1.heap.objs.size] s1.heap.objs.size (fun i h=>h.IsStrIter s1.heap.objs.size ty x t i)),
   Xu X c_ σ tg R (.ref s1.heap.objs.size) {s1 with heap:=s1.heap.push {cls:=.type ty,data:=.fields #[.str x t,.int 0 0]}}:=fun ty T=>by
  refine⟨s1.heap.objs.size,[s1.heap.objs.size],_,_,H1,rfl,I1.kept (t':=s1.toks) fun b o e=>aao _ e,T,⟨_,aaI _ rfl,rfl,rfl⟩,fun b hb=>?_,q⟩
  have e:b=s1.heap.objs.size:=by simpa using hb
  subst e
  exact I1.A2 (aab _) (I1.iL.fresh (aab _))
 cases ha:x.cps.all (·<128)
 ·exact wpAny_pyIter_wide ha (fin _ (DH _ _ x t (by decide) (fun A hh=>Walks.strWide hh _ x t) fun _ _ _ _ _ st h=>wpAny_pyIter_striter_wide st h))
 ·exact wpAny_pyIter_ascii ha (fin _ (DH _ _ x t (by decide) (fun A hh=>Walks.strAscii hh _ x t) fun _ _ _ _ _ st h=>wpAny_pyIter_striter_ascii st h))
theorem LN{x:Str}{g:TG}{tb:TS}{D:Ends}{σ:St}{H:Hp}(Pv:Nat→St→Hp→Prop)(h0:Pv 0 σ H)
  (hs:∀i c σ H,x.cps[i]?=some c→Pv i σ H→g (.str ⟨#[c]⟩) σ H fun σ2 H2=>tb {D with nx:=Pv (i+1),ct:=Pv (i+1),bk:=D.nx} σ2 H2) (hd:∀σ H,Pv x.length σ H→D.nx σ H) :
  ∃W:Nat→Nat→St→Hp→Prop,(∃m,W 0 m σ H)∧∀i m σ H,W i m σ H→
   ((Sy x).stop i H∧D.nx σ H)∨((Sy x).go i H∧∃N:St→Hp→Prop,(∀σ' H',N σ' H'→∃m',m'<m∧W (i+1) m' σ' H')∧∀v H',(Sy x).Le i H v H'→g v σ H' fun σ2 H2=>tb {D with nx:=N,ct:=N,bk:=D.nx} σ2 H2):=by
 refine⟨fun i m σ H=>m=x.length-i∧i≤x.length∧Pv i σ H,⟨x.length,by simp,aaU _,h0⟩,?_⟩
 rintro i m σ H ⟨rfl,hi,p⟩
 by_cases my:i<x.length
 ·refine .inr ⟨my,Pv (i+1),fun σ' H' p'=>⟨x.length-(i+1),by omega,rfl,my,p'⟩,fun v H' y=>?_⟩
  obtain⟨e,c,hc,rfl⟩:=y
  subst e
  exact hs i c σ _ hc p
 ·have e:i=x.length:=by omega
  subst e
  exact .inl ⟨rfl,hd σ H p⟩
def tFi(te:TE):TE:=fun σ H Q=>te σ H fun v H1=>∃i:Int,v=.int i∧i.natAbs.log2<1920∧Q (.str (toString i)) H1
theorem LO{e:Expr}{te:TE}{pos:Pos}(he:PE X e te):PE X (.FormattedValue e (-1) none pos) (tFi te):=by
 intro c_ s σ H Q I h
 refine FormattedValue_plain (i7 (he c_ s σ H _ I h) fun u s1 ⟨v,H1,I1,r1,i,ev,hy,q⟩=>?_)
 subst ev
 obtain⟨t',rfl⟩:=r1
 exact formatField_int_small hy ⟨.str (toString i),H1,I1.tok _,⟨_,rfl⟩,q⟩
end
theorem o3.TU{K:Qqy}{H:Hp}{n:Nat}(p q:Bool):o3 K H n (.bl p) (.bl q) (decide (p=q)):=by
 have:Ja (.bl p) (.bl q)=decide (p=q):=by cases p<;>cases q<;>rfl
 rw[←this]
 exact .flat rfl rfl
section
variable{X:Cx}{tg:Expr}
def LP(K:Qqy)(a:Addr)(n:Nat):It:=
 ⟨fun i H=>i<n∧∃xs,gK K H a xs∧xs.length=n,fun i H x H'=>H'=H∧∀xs,gK K H a xs→xs[n-1-i]?=some x,fun i _=>i=n⟩
theorem LQ{P:Program}{w:World}{K:Qqy}(a it:Addr)(n:Nat):Turn P w K tg (LP K a n) [it] it (fun i h=>h.IsRevIter it a ((n:Int)-1-(i:Nat))) where
 mem:=by simp
 obj:=fun i h st b hb=>by
  have e:b=it:=by simpa using hb
  subst e
  obtain⟨o,e,c,d⟩:=st
  exact⟨o,e,fun v z=>by rw[d] at z;cases z⟩
 keep:=fun i h h' st k=>st.at fun o e=>k it (by simp) o e
 item:=by
  intro X hP hw hK hc i c_ s σ H E I hf st hg
  subst hP hw hK
  obtain⟨hi,xs,hq,hl⟩:=hg
  obtain⟨ic,rv,p,hz⟩:=I.list hq
  have hx:xs[n-1-i]?=some xs[n-1-i]:=Y0 (by omega)
  obtain⟨u,hu,ru⟩:=rv.get hx
  obtain⟨f0,f1,f2,f3,f4,f5⟩:=hf it (by simp)
  have e1:(n:Int)-1-(i:Nat)=((n-1-i:Nat):Int):=by omega
  rw[e1] at st
  refine wpAny_pyNext_rev_item st p.isList (x:=u) (by simpa using hu) fun h' C9 sb=>?_
  have e2:((n-1-i:Nat):Int)-1=(n:Int)-1-((i+1:Nat):Int):=by omega
  rw[e2] at C9
  have I1:Inv X c_ σ H {s with heap:=h'}:=I.turned (t':=s.toks) (fun b o hb e=>(sb.2 b hb).trans e) f0 f1 f3 f4 f5
  obtain⟨o,e,c,d⟩:=id C9
  exact⟨u,rfl,A3 (s:={s with heap:=h'}) e c d (by decide) ⟨_,H,I1,ru,⟨rfl,fun ys hy=>by rw[I.qF hy hq];exact hx⟩,C9,fun b hb=>(hf b hb).1⟩⟩
 done:=by
  intro X hP hw hK hc i c_ s σ H E I hf st hg
  subst hP hw hK
  have hg:i=n:=hg
  subst hg
  obtain⟨f0,f1,f2,f3,f4,f5⟩:=hf it (by simp)
  have e1:(i:Int)-1-(i:Nat)=-1:=by omega
  rw[e1] at st
  exact wpAny_pyNext_rev_end (I.ok.hd hc) st fun h' eb=>⟨rfl,I.turned (t':=s.toks) (fun b o hb e=>eb b o hb e) f0 f1 f3 f4 f5⟩
 self:=fun _ _ _ _ _ st h=>wpAny_pyIter_revIter st h
def TV(K:Qqy)(ta:TA):TI:=fun σ H R=>ta σ H fun vs H1=>∃a xs,vs=[.ref a]∧gK K H1 a xs∧R (LP K a xs.length) H1
theorem NQ{a:Expr}{ta:TA}{p pos:Pos}(hg:Gl X "reversed")(hm:X.mg "reversed"=none)(ha:PA X [a] ta)(hs:starEach [a] X.env=[(false,eval a X.env)]:=by rfl):PI X tg (.Call (.Name "reversed" p) [a] [] pos) (TV X.K ta):=by
 intro c_ s σ H R I h
 refine Call_ (qo I hg hm boot_reversed (aa7 (i7 (ha pos c_ s σ H _ I h) fun us s1 ⟨vs,H1,I1,r1,q1⟩=>?_) hs rfl))
 obtain⟨l,xs,rfl,hq,q⟩:=q1
 obtain⟨u,rfl,ru⟩:=vals1 r1
 cases (show u=Value.ref l from ru)
 obtain⟨ic,rv,pp,hz⟩:=I1.list hq
 have hl:=rv.length
 refine call_reversed_list pp.isList ?_
 have I2:Inv X c_ σ H1 {s1 with heap:=s1.heap.push (revObj l ((ic.toArray.size:Int)-1))}:=I1.kept (t':=s1.toks) fun b o e=>aao _ e
 have st:(s1.heap.push (revObj l ((ic.toArray.size:Int)-1))).IsRevIter s1.heap.objs.size l ((xs.length:Int)-1-((0:Nat):Int)):=by
  have e1:(xs.length:Int)-1-((0:Nat):Int)=(ic.toArray.size:Int)-1:=by rw[hl];simp
  rw[e1]
  exact⟨_,aaI _ rfl,rfl,rfl⟩
 refine wpAny_pyIter_revIter st ?_
 refine⟨s1.heap.objs.size,[s1.heap.objs.size],_,_,H1,rfl,I2,LQ l _ xs.length,st,fun b hb=>?_,q⟩
 have e:b=s1.heap.objs.size:=by simpa using hb
 subst e
 exact I1.A2 (aab _) (I1.iL.fresh (aab _))
theorem NR{K:PySem.W.Frag}{a:Addr}{xs:List V}{g:TG}{tb:TS}{D:Ends}{σ:St}{H:Hp}(Pv:Nat→St→Hp→Prop)(h0:Pv 0 σ H)(hl:∀i σ H,i≤xs.length→Pv i σ H→gK K H a xs)
  (hs:∀i x σ H,xs.reverse[i]?=some x→Pv i σ H→g x σ H fun σ2 H2=>tb {D with nx:=Pv (i+1),ct:=Pv (i+1),bk:=D.nx} σ2 H2) (hd:∀σ H,Pv xs.length σ H→D.nx σ H) :
  ∃W:Nat→Nat→St→Hp→Prop,(∃m,W 0 m σ H)∧∀i m σ H,W i m σ H→
   ((LP K a xs.length).stop i H∧D.nx σ H)∨((LP K a xs.length).go i H∧∃N:St→Hp→Prop,(∀σ' H',N σ' H'→∃m',m'<m∧W (i+1) m' σ' H')∧∀x H',(LP K a xs.length).Le i H x H'→g x σ H' fun σ2 H2=>tb {D with nx:=N,ct:=N,bk:=D.nx} σ2 H2):=by
 refine⟨fun i m σ H=>m=xs.length-i∧i≤xs.length∧Pv i σ H,⟨xs.length,by simp,aaU _,h0⟩,?_⟩
 rintro i m σ H ⟨rfl,hi,p⟩
 have q:=hl i σ H hi p
 by_cases my:i<xs.length
 ·refine .inr ⟨⟨my,xs,q,rfl⟩,Pv (i+1),fun σ' H' p'=>⟨xs.length-(i+1),by omega,rfl,my,p'⟩,fun x H' y=>?_⟩
  obtain⟨e,y⟩:=y
  subst e
  refine hs i x σ _ ?_ p
  rw[List.getElem?_reverse my]
  exact y xs q
 ·have e:i=xs.length:=by omega
  subst e
  exact .inl ⟨rfl,hd σ H p⟩
theorem LR{prog:Program}{w:World}{A:Around}{E:Qqq}{s:Shared}{r:Addr}{Q:Bool→Shared→Prop}(hT:s.TypeIs (.ref r) "list_reverseiterator")(h:Q false s):wpAny (model prog w) A (Builtin.List.listLengthHint (.ref r)) Q E s:=by
 have f1:typeLookup (.type "list_reverseiterator") "__len__"=pure none:=by rw[typeLookup_type,builtinLookup_eq_fast];kernel_rfl
 have f2:typeLookup (.type "list_reverseiterator") "__length_hint__"=pure (some (.builtin "list_reverseiterator.__length_hint__")):=by rw[typeLookup_type,builtinLookup_eq_fast];kernel_rfl
 unfold Builtin.List.listLengthHint
 refine XX (acm hT f1 ?_)
 wp_delta
 refine aco (fun JJ=>absurd JJ (by decide)) (fun _=>?_)
 refine aco (fun JJ=>absurd JJ (by decide)) (fun _=>?_)
 refine XX (acm hT f2 ?_)
 generalize WA:("list_reverseiterator.__length_hint__":String)=id0
 wp_delta
 rw[show splitId id0=some ("list_reverseiterator","__length_hint__") from by subst WA;decide+kernel]
 subst WA
 refine XX (wpAny_isInstance (T:="list_reverseiterator") (b:=true) hT (by rw[isSubtype_type];kernel_rfl) ?_)
 refine aco (fun JJ=>absurd JJ (by decide)) (fun _=>?_)
 refine aco (fun _=>?_) (fun JJ=>absurd (by decide+kernel) JJ)
 refine aco (fun JJ=>absurd JJ (by decide)) (fun _=>?_)
 exact aas h
theorem J_{prog:Program}{w:World}{A:Around}{E:Qqq}{s:Shared}{T:String}{r d:Addr}{n:Nat}{P:Nat→Value→Prop}{St:Nat→Heap→Prop}{Q:Qqq}
  (W:Walks prog w A.in1.in1 r [r,d] [r] n P St) (hT:∀h:Heap,St 0 h→∃o,h.get? r=some o∧o.cls=.type T) (hl:(Value.type T ==Value.type "list")=false) (ht:(Value.type T ==Value.type "tuple")=false)
  (hint:∀(A:Around)(E:Qqq)(s:Shared)(Q:Bool→Shared→Prop),St 0 s.heap→Q false s→wpAny (model prog w) A (Builtin.List.listLengthHint (.ref r)) Q E s)
  (self:∀(A:Around)(E:Qqq)(s:Shared)(Q:Qqq),St 0 s.heap→Q (.ref r) s→wpAny (model prog w) A (pyIter (.ref r)) Q E s)
  (hd:d<s.heap.objs.size) (st:St 0 s.heap) (hn:n≤sizeLine)
  (hQ:∀h' tk OP c',(∀b o,b≠r→s.heap.get? b=some o→h'.get? b=some o)→h'.get? s.heap.objs.size=some {cls:=.type "list",dict:=none,data:=.seq OP c',slots:=#[]}→ItemsOf P OP n→Q (.ref s.heap.objs.size) {s with heap:=h',toks:=tk}) :
  wpAny (model prog w) A (call (.type "list") [.ref r]) Q E s:=by
 obtain⟨or,hor,hcr⟩:=hT _ st
 have Hw:r<s.heap.objs.size:=aaD hor
 refine callType_codes (Q₁:=fun obj s₁=>obj=.ref s.heap.objs.size∧s₁={s with heap:=s.heap.push {cls:=.type "list",data:=.seq #[]}}) PySem.F.called_list (PySem.F.typeCall_list_1 _) PySem.F.entry_list_init
  (code_list_new _ ⟨rfl,rfl⟩) fun obj s₁ h₁=>?_
 obtain⟨rfl,rfl⟩:=h₁
 have hS:(s.heap.push {cls:=.type "list",data:=.seq #[]}).get? s.heap.objs.size=some {cls:=.type "list",data:=.seq #[]}:=aaI _ rfl
 have YS:s.heap.objs.size≠r:=Nat.ne_of_gt Hw
 have hSd:s.heap.objs.size≠d:=Nat.ne_of_gt hd
 refine⟨⟨_,hS,rfl⟩,PySem.F.args_list_init_2 _ _,?_⟩
 show wpAny _ _ (do let old ←Builtin.List.listItems (.ref s.heap.objs.size);Builtin.List.listUpdate (.ref s.heap.objs.size) (fun _=>#[]);letGo old.toList.reverse;Builtin.List.listExtendWith (.ref s.heap.objs.size) (.ref r) .none) _ _ _
 refine XX ?_
 unfold Builtin.List.listItems
 refine XX (wpAny_seqItems hS rfl (aas ?_))
 show wpAny _ _ (updateSeq s.heap.objs.size (fun _=>#[]) >>= fun _=>letGo (#[]:Array Value).toList.reverse >>= fun _=>Builtin.List.listExtendWith (.ref s.heap.objs.size) (.ref r) .none) _ _ _
 refine XX (wpAny_updateSeq hS rfl ?_)
 have WB:=abh (Obj.mapSeq (fun _=>(#[]:Array Value))) hS rfl
 have WC:∀b o,s.heap.get? b=some o→((s.heap.push {cls:=.type "list",data:=.seq #[]}).update s.heap.objs.size (Obj.mapSeq (fun _=>(#[]:Array Value)))).get? b=some o:=
  fun b o e=>(abU _ _ (Nat.ne_of_gt (aaD e))).trans (aao _ e)
 refine XX (wpAny_letGo ?_)
 generalize (s.heap.push {cls:=.type "list",data:=.seq #[]}).update s.heap.objs.size (Obj.mapSeq (fun _=>(#[]:Array Value)))=h2 at WB WC
 have C_:St 0 h2:=W.frame 0 _ _ st fun b _ o e=>WC b o e
 have key:∀(h:Heap)(c₁ tk:Nat),St 0 h→(∀b o,s.heap.get? b=some o→h.get? b=some o)→
   h.get? s.heap.objs.size=some {cls:=.type "list",data:=.seq #[] c₁}→codeAny (model prog w) A.in1 (.builtin "list.extend.loop" ⟨[.ref s.heap.objs.size,.ref r,.none],[]⟩)
    (fun r s'=>match r with|.ok (.ret v)=>v=.none∧Q (.ref s.heap.objs.size) s'|.ok _=>False|.error e=>E e s') {s with heap:=h,toks:=tk}:=by
  intro h c₁ tk yp hk hS₁
  refine codeAny_extend_loopS W.toS hn s.heap.objs.size (by simp only [aag,acw,or_false,not_or];exact⟨YS,hSd⟩) .none n 0 _ #[] c₁ rfl (aaU _) yp hS₁ (ItemsOf.nil _) fun s' OP c' hm hS' yj=>?_
  rw[Moved.eq_with hm]
  refine⟨rfl,hQ s'.heap s'.toks OP c' (fun b o hb e=>hm.heap b o (fun Dd=>?_) (hk b o e)) hS' yj⟩
  rcases aag.mp Dd with e'|Dd
  ·exact absurd (aaD e) (by rw[e'];exact aby _)
  ·exact hb (Yc.mp Dd)
 unfold Builtin.List.listExtendWith
 refine XX (wpAny_typeOf (T:=T) (hT _ C_) ?_)
 have h1:Builtin.List.listSameRef (.ref s.heap.objs.size) (.ref r)=false:=by simp[Builtin.List.listSameRef,YS]
 simp only [h1,hl,ht,Bool.or_false,aa9,acf]
 refine XX (self _ _ _ _ C_ ?_)
 refine XX (abX (hint _ _ _ _ C_ ?_))
 refine aco (fun _=>?_) (fun _=>aas ⟨plainId_quiet PySem.F.plain_extend_loop _,key _ _ _ C_ WC WB⟩)
 refine XX (wpAny_rule ?_)
 refine XX ?_
 show wpAny _ _ (updateSeq s.heap.objs.size (·.push .none) >>= fun _=>updateSeq s.heap.objs.size (·.pop)) _ _ _
 refine XX (wpAny_updateSeq WB rfl ?_)
 have hS₃:=abh (Obj.mapSeq (·.push Value.none)) WB rfl
 refine wpAny_updateSeq (hz:=by seq_fits) hS₃ rfl ?_
 have hS₄:=abh (Obj.mapSeq (·.pop)) hS₃ rfl
 have U1:∀b o,b≠s.heap.objs.size→h2.get? b=some o→((h2.update s.heap.objs.size (Obj.mapSeq (·.push Value.none))).update s.heap.objs.size (Obj.mapSeq (·.pop))).get? b=some o:=fun b o hb e=>
  (abU _ _ (abT hb)).trans ((abU _ _ (abT hb)).trans e)
 refine aas ⟨plainId_quiet PySem.F.plain_extend_loop _,key _ _ _ (W.frame 0 _ _ C_ fun b hb o e=>U1 b o (fun z=>?_) e) (fun b o e=>U1 b o (aa1 (aaD e)) (WC b o e)) hS₄⟩
 subst z
 simp only [aag,acw,or_false] at hb
 rcases hb with z|z
 ·exact YS z
 ·exact hSd z
def LS(K:Qqy)(ta:TA):TE:=fun σ H Q=>ta σ H fun vs H1=>∃a xs,vs=[.ref a]∧gK K H1 a xs∧∀p,H1 p=none→Q (.ref p) (upd H1 p (.lst xs.reverse))
theorem HV{a:Expr}{ta:TA}{p1 p2 YT OQ:Pos}(hc:X.calm=true)(SI:Gl X "list")(YU:X.mg "list"=none)(hg:Gl X "reversed")(hm:X.mg "reversed"=none)(ha:PA X [a] ta)(hs:starEach [a] X.env=[(false,eval a X.env)]:=by rfl)
  (YV:starEach [.Call (.Name "reversed" p2) [a] [] OQ] X.env=[(false,eval (.Call (.Name "reversed" p2) [a] [] OQ) X.env)]:=by rfl):PE X (.Call (.Name "list" p1) [.Call (.Name "reversed" p2) [a] [] OQ] [] YT) (LS X.K ta):=by
 intro c_ s σ H Q I h
 refine Call_ (qo I SI YU boot_list (aa7 ?_ YV rfl))
 rw[YV]
 refine abn ?_
 refine Call_ (qo I hg hm boot_reversed (aa7 (i7 (ha OQ c_ s σ H _ I h) fun us s1 ⟨vs,H1,I1,r1,q1⟩=>?_) hs rfl))
 obtain⟨l,xs,rfl,hq,q⟩:=q1
 obtain⟨u,rfl,ru⟩:=vals1 r1
 cases (show u=Value.ref l from ru)
 obtain⟨ic,rv,pp,hz⟩:=I1.list hq
 have hl:=rv.length
 refine call_reversed_list pp.isList (abD ?_)
 have my:l<s1.heap.objs.size:=let ⟨o,ho,_⟩:=pp.isList;aaD ho
 have hL:(s1.heap.push (revObj l ((ic.toArray.size:Int)-1))).IsList l ic.toArray:=pp.isList.at fun o e=>aao _ e
 refine J_ (s:={s1 with heap:=s1.heap.push (revObj l ((ic.toArray.size:Int)-1))}) (T:="list_reverseiterator") (d:=l) (n:=ic.toArray.size) (Walks.listRev (prog:=X.prog) (w:=X.w) (A:=X.A.in1.in1) (show X.A.in1.in1.handled=none from I.ok.hd hc) s1.heap.objs.size l (aa1 my) ic.toArray) (fun h ⟨_,⟨o,ho,D1,_⟩,_⟩=>⟨o,ho,D1⟩) (by decide) (by decide)
  (fun A E s Q ⟨_,⟨o,ho,D1,_⟩,_⟩ hq=>LR ⟨o,ho,D1⟩ hq) (fun A E s Q ⟨_,x,_⟩ hq=>wpAny_pyIter_revIter x hq) (aaK my (by show s1.heap.objs.size≤(s1.heap.push _).objs.size;rw[Heap.size_push];exact Nat.le_succ _))
  ⟨aaU _,by
   have e:(ic.toArray.size:Int)-1-((0:Nat):Int)=(ic.toArray.size:Int)-1:=by omega
   rw[e];exact⟨_,aaI _ rfl,rfl,rfl⟩,hL⟩ (by rw[aar,←hl];exact hz) fun h' tk acc c hk hS yj=>?_
 have hf:H1 (s1.heap.push (revObj l ((ic.toArray.size:Int)-1))).objs.size=none:=I1.iL.fresh (by rw[Heap.size_push];omega)
 have rel:Vals xs.reverse acc.toList:=by
  have hsz:acc.toList.length=acc.size:=abg
  refine qJ (by rw[abt,hsz,yj.1,aar,hl]) fun i x y hx hy=>?_
  have hi:i<xs.length:=by have:=(Vb.mp hx).1;rwa [abt] at this
  have z:=yj.2 i y (by rw[←abe];exact hy)
  rw[List.getElem?_reverse hi] at hx
  obtain⟨w,hw,Dc⟩:=rv.get hx
  rw[aar,←hl] at z
  have z2:ic[xs.length-1-i]?=some y:=by simpa using z
  rw[hw] at z2
  cases z2
  exact Dc
 refine⟨.ref _,upd H1 _ (.lst xs.reverse),I1.laid (t':=tk) (h':=h') (fun b o e=>hk b o (aa1 (aaD e)) (aao _ e)) (by rw[Heap.size_push];omega) ?_,rfl,q _ hf⟩
 exact⟨by rw[abt];exact hz,acc.toList,c,rel,by rw[Array.toArray_toList];exact hS⟩
end
open PySem PySem.Builtin.Str
theorem subAt_one(s:Str)(c i:Nat):subAt s ⟨#[c]⟩ i=decide (s.cps[i]?=some c):=by
 unfold subAt
 show(s.cps.extract i (i+1) ==#[c])=_
 rw[abp]
 simp only [ab4,ab7]
 by_cases h:i<s.cps.size
 ·have e:s.cps.extract i (i+1)=#[s.cps[i]]:=by
   apply Array.ext
   ·simp;omega
   ·intro j h1 h2
    simp at h2
    subst h2
    simp
  rw[e,aa5 h]
  constructor
  ·intro z;simpa using z
  ·intro z;simpa using z
 ·have e:s.cps.extract i (i+1)=#[]:=by
   apply Array.ext
   ·simp;omega
   ·intro j h1 h2;simp at h2
  rw[e,Array.getElem?_eq_none (by omega)]
  simp
noncomputable def pU(s sub:Str)(hi:Nat)(p:Array Nat×Nat)(i:Nat):Array Nat×Nat:=
 if(decide (p.1.size<1)&&decide (p.2≤i)&&decide (i+sub.length≤hi)&&subAt s sub i)=true then(p.1.push i,i+sub.length) else p
theorem LU(s sub:Str)(lo hi:Nat):occurrences s sub lo hi 1=((List.range' lo (hi+1-lo)).foldl (pU s sub hi) (#[],lo)).1.toList:=by
 unfold occurrences
 simp only [Std.Legacy.Range.forIn_eq_forIn_range',Std.Legacy.Range.size]
 rw[show(hi+1-lo+1-1)/1=hi+1-lo by omega]
 generalize List.range' lo (hi+1-lo)=l
 generalize ((#[],lo):Array Nat×Nat)=p
 show Id.run (forIn l p _ >>= _)=_
 have go:∀(l:List Nat)(p:Array Nat×Nat),(forIn l p (fun(i:Nat) (q:Array Nat×Nat)=>(if(decide (q.fst.size<1)&&decide (q.snd≤i)&&decide (i+sub.length≤hi)&&subAt s sub i)=true then
   pure (ForInStep.yield (q.fst.push i,i+sub.length)) else pure (ForInStep.yield (q.fst,q.snd)):Id (ForInStep (Array Nat×Nat)))):Id (Array Nat×Nat))=l.foldl (pU s sub hi) p:=by
  intro l
  induction l with
  | nil=>intro p;rfl
  | cons a r ih=>
   intro p
   rw[List.forIn_cons,List.foldl_cons]
   unfold pU
   split
   ·exact ih _
   ·exact ih _
 rw[go]
 rfl
theorem NT(s:Str)(c:Nat):(occurrences s ⟨#[c]⟩ 0 s.length 1).isEmpty=decide (c∉s.cps.toList):=by
 rw[LU]
 have inv:∀(l:List Nat)(p:Array Nat×Nat),(p.1=#[]→p.2=0)→((l.foldl (pU s ⟨#[c]⟩ s.length) p).1=#[]↔p.1=#[]∧∀i∈l,¬(i+1≤s.length∧s.cps[i]?=some c)):=by
  intro l
  induction l with
  | nil=>intro p _;simp
  | cons a r ih=>
   intro p hp
   rw[List.foldl_cons]
   by_cases hc:(decide (p.1.size<1)&&decide (p.2≤a)&&decide (a+(⟨#[c]⟩:Str).length≤s.length)&&subAt s ⟨#[c]⟩ a)=true
   ·have e:pU s ⟨#[c]⟩ s.length p a=(p.1.push a,a+(⟨#[c]⟩:Str).length):=aax hc
    rw[e,ih _ (fun z=>by simp at z)]
    simp only [abc,ab7,subAt_one] at hc
    constructor
    ·rintro⟨z,_⟩;simp at z
    ·rintro⟨z,h⟩
     exact absurd ⟨hc.1.2,hc.2⟩ (h a aaz)
   ·have e:pU s ⟨#[c]⟩ s.length p a=p:=aau hc
    rw[e,ih _ hp]
    constructor
    ·rintro⟨z,h⟩
     refine⟨z,fun i hi=>?_⟩
     rcases aag.mp hi with rfl|hi
     ·intro ⟨h1,h2⟩
      apply hc
      simp only [abc,ab7,subAt_one]
      exact⟨⟨⟨by rw[z];decide,by rw[hp z];exact aaU _⟩,h1⟩,h2⟩
     ·exact h i hi
    ·rintro⟨z,h⟩
     exact⟨z,fun i hi=>h i (aap _ hi)⟩
 have h:=inv (List.range' 0 (s.length+1-0)) (#[],0) (fun _=>rfl)
 rw[abp,ab7,List.isEmpty_iff]
 rw[show(List.foldl (pU s ⟨#[c]⟩ s.length) (#[],0) (List.range' 0 (s.length+1-0))).1.toList=[]↔(List.foldl (pU s ⟨#[c]⟩ s.length) (#[],0) (List.range' 0 (s.length+1-0))).1=#[] from ⟨fun z=>by simpa using z,fun z=>by rw[z]⟩,h]
 constructor
 ·rintro⟨_,h⟩ hm
  obtain⟨i,hi,e⟩:=List.mem_iff_getElem.mp hm
  have Cd:i<s.cps.size:=by simpa using hi
  refine h i (by rw[List.mem_range'_1];show 0≤i∧i<0+(s.cps.size+1-0);omega) ⟨Cd,?_⟩
  rw[aa5 Cd]
  simpa using e
 ·intro hn
  refine⟨rfl,fun i _ ⟨_,h2⟩=>hn ?_⟩
  exact Yd (i:=i) (by rw[abe];exact h2)
section
variable{prog:Program}{w:World}{A:Around}{E:Qqq}{s:Shared}
end
section
variable{X:Cx}
end
def yG(h:Heap)(d:Addr)(es:Array DictEntry)(ep:Nat):Prop:=∃o,h.get? d=some o∧o.ExactDict∧o.data=.dict es ep
section
variable{P:Program}{w:World}{A:Around}{E:Qqq}{s:Shared}{d it:Addr}{es:Array DictEntry}{ep i:Nat}
theorem yG.ty(x:yG s.heap d es ep):s.TypeIs (.ref d) "dict":=by obtain⟨o,e,c,_⟩:=x;exact⟨o,e,c.1⟩
theorem yG.at{h h':Heap}(x:yG h d es ep)(k:∀o,h.get? d=some o→h'.get? d=some o):yG h' d es ep:=by obtain⟨o,e,r⟩:=x;exact⟨o,k o e,r⟩
theorem Gm{Q:Qqq}(lo:(d ==sysModules)=false)(x:yG s.heap d es ep)
  (k:Q (.ref s.heap.objs.size) {s with heap:=s.heap.push {cls:=.type "dict_keyiterator",data:=.fields #[.ref d,.int 0 0,.int es.size 0,.int ep 0]}}):wpAny (model P w) A (pyIter (.ref d)) Q E s:=by
 have ty:=x.ty
 obtain⟨o,e,c,dt⟩:=x
 refine wpAny_pyIter_slot ty F.slot_dict_iter (acb F.slot_dict_iter ty F.entry_dict_iter ?z (F.args_dict_iter_1 _))
 case z=>
  unfold Builtin.«dict.__iter__» Builtin.Dict.dictSlotNone
  refine XX (XX (wpAny_notOrdered_dict ty (show wpAny _ _ (pure (Value.ref d)) _ _ s from aas ?z)))
  case z=>
   show wpAny _ _ (Builtin.Dict.showsAll d >>= _) _ _ s
   unfold Builtin.Dict.showsAll
   rw[lo,aau (fun z=>by cases z)]
   refine XX (aas (XX (abk e dt (XX (wpAny_dictEpoch e dt (XX (wpAny_newObj_type (aas ?z))))))))
   case z=>exact⟨_,rfl,"dict_keyiterator",_,⟨_,aaI _ rfl,rfl⟩,abx.lookup,by simpa[rawInt] using k⟩
theorem Gn{Q:Option Value→Shared→Prop}{y:DictEntry}(x:s.heap.IsKeyIter it d i es.size ep)(r:yG s.heap d es ep)(hy:es[i]?=some y)
  (k:∀h',h'.IsKeyIter it d (i+1) es.size ep→Heap.SameBut it s.heap h'→Q (some y.key) {s with heap:=h'}):wpAny (model P w) A (pyNext (.ref it)) Q E s:=by
 have ty:=x.typeIs
 obtain⟨o,e,c,dt⟩:=id x
 obtain⟨o2,e2,c2,U2⟩:=r
 have RQ:Builtin.Dict_items.ownsTuple "dict_keyiterator"=false:=by decide
 unfold pyNext
 refine XX (wpAny_attempt (wpAny_callSpecial?_slot (name:=Str.ofString "__next__") ty abx (acb abx ty F.entry_dict_keyiterator_next ?z (F.args_dict_keyiterator_next_1 _))))
 case z=>
  refine XX (aas (XX (XX ?z)))
  case z=>
   first|refine XX (abM ty (aas (XX (wpAny_fieldsOf e dt ?z))))|refine XX (wpAny_typeNameOf_keyiter ty (aas (XX (wpAny_fieldsOf e dt ?z))))
   case z=>
    simp only [RQ,aa9,acf]
    show wpAny _ _ (if(Value.ref d ==Value.none)=true then _ else _) _ _ s
    rw[aau (fun z=>by cases z)]
    refine XX (aas (XX (abk e2 U2 ?z)))
    case z=>
     rw[aau (by simp)]
     refine XX (aas (XX (wpAny_dictEpoch e2 U2 ?z)))
     case z=>
      rw[aau (by simp)]
      refine aas ?z
      case z=>
       simp only [show ¬((i:Int)<0) by omega,acf,ab5,hy]
       refine XX ?z
       case z=>
        first|refine XX (abM ty (aas (XX (wpAny_isOneOf_keyiter ty ?z))))|refine XX (wpAny_typeNameOf_keyiter ty (aas (XX (wpAny_isOneOf_keyiter ty ?z))))
        case z=>
         show wpAny _ _ (setField (.ref it) 1 (rawInt ((i:Int)+1)) >>= _) _ _ s
         have n:(s.heap.update it (Obj.mapFields (·.setIfInBounds 1 (rawInt ((i:Int)+1))))).IsKeyIter it d (i+1) es.size ep:=
          ⟨_,abh _ e (Obj.isFreed_of_fields (Obj.data_mapFields dt _)),(Obj.cls_mapFields ..).trans c,by rw[Obj.data_mapFields dt];simp[rawInt]⟩
         refine XX (wpAny_setField e dt (by simp) (XX (abX (XX (wpAny_isOneOf_keyiter (s:={s with heap:=s.heap.update it (Obj.mapFields (·.setIfInBounds 1 (rawInt ((i:Int)+1))))}) n.typeIs ?z)))))
         case z=>
          show wpAny _ _ (pure y.key) _ _ _
          exact aas (aas ⟨_,rfl,aas (k _ n (abu ..))⟩)
theorem Gp{Q:Option Value→Shared→Prop}(hh:A.handled=none)(x:s.heap.IsKeyIter it d i es.size ep)(r:yG s.heap d es ep)(hy:es.size≤i)
  (k:∀h',Heap.ExtBut it s.heap h'→Q none {s with heap:=h'}):wpAny (model P w) A (pyNext (.ref it)) Q E s:=by
 have ty:=x.typeIs
 obtain⟨o,e,c,dt⟩:=id x
 obtain⟨o2,e2,c2,U2⟩:=r
 have RQ:Builtin.Dict_items.ownsTuple "dict_keyiterator"=false:=by decide
 unfold pyNext
 refine XX (wpAny_attempt (wpAny_callSpecial?_slot (name:=Str.ofString "__next__") ty abx (acb abx ty F.entry_dict_keyiterator_next ?z (F.args_dict_keyiterator_next_1 _))))
 case z=>
  refine XX (aas (XX (XX ?z)))
  case z=>
   first|refine XX (abM ty (aas (XX (wpAny_fieldsOf e dt ?z))))|refine XX (wpAny_typeNameOf_keyiter ty (aas (XX (wpAny_fieldsOf e dt ?z))))
   case z=>
    simp only [RQ,aa9,acf]
    show wpAny _ _ (if(Value.ref d ==Value.none)=true then _ else _) _ _ s
    rw[aau (fun z=>by cases z)]
    refine XX (aas (XX (abk e2 U2 ?z)))
    case z=>
     rw[aau (by simp)]
     refine XX (aas (XX (wpAny_dictEpoch e2 U2 ?z)))
     case z=>
      rw[aau (by simp)]
      refine aas ?z
      case z=>
       simp only [show ¬((i:Int)<0) by omega,acf,ab5,Array.getElem?_eq_none hy]
       refine XX ?z
       case z=>
        first|refine XX (abM ty (aas ?z))|refine XX (wpAny_typeNameOf_keyiter ty (aas ?z))
        case z=>
         show wpAny _ _ (setField (.ref it) 0 .none >>= _) _ _ s
         refine XX (wpAny_setField e dt (by simp) ?z)
         case z=>
          show wpAny _ _ (newExc (.type "StopIteration") [] >>= _) _ _ _
          refine XX ?z
          case z=>
           simp only [newExc,newTuple]
           refine XX (wpAny_newObj_type (XX (m:=firstArgMember _ _) (wpAny_of_eq (a:=Value.none) (by first|rfl|(simp only [firstArgMember];rfl)) (wpAny_newObj_type ?z (by size_fits)))) (by size_fits))
           case z=>
            simp only [raiseNew]
            refine XX (wpAny_handled ?z)
            case z=>
             rw[show A.in1.handled=none from hh]
             refine XX (aas (wpAny_throw ?z))
             case z=>exact XX (wpAny_isInstance (T:="StopIteration") (b:=true) ⟨_,aaI _ rfl,rfl⟩ isSubtype_stop <| aas (k _ (((abu ..).extBut.push _).push _)))
end
section
variable{X:Cx}{c_:Qqz}{σ:St}{H:Hp}{s:Shared}{tg:Expr}
noncomputable def Ka(d:Addr)(o:Obj)(kvs:List (List Key×V)):It:=
 ⟨fun i H=>H d=some (.oO o (.dT kvs))∧i<kvs.length,fun i H x H'=>H'=H∧∃k v b,kvs[i]?=some (k,v)∧x=.ref b∧H b=some (.tup (k.map kV)),fun i H=>H d=some (.oO o (.dT kvs))∧kvs.length≤i⟩
theorem kt_at{kvs:List (List Key×V)}{xs:List (List Key×Addr×Value)}(r:KT H kvs xs):∀{i:Nat} {k:List Key} {b:Addr} {u:Value},xs[i]?=some (k,b,u)→∃v,kvs[i]?=some (k,v)∧H b=some (.tup (k.map kV))∧RelV v u:=by
 induction r with
 | nil=>intro i k b u e;simp at e
 | @cons p q ps qs f t ih=>
  intro i k b u e
  cases i with
  | zero=>
   simp at e
   subst e
   exact⟨p.2,abb some (Prod.ext f.1 rfl),by rw[←show p.1=k from f.1];exact f.2.1,f.2.2⟩
  | succ i=>
   obtain⟨v,h1,h2⟩:=ih (by simpa using e)
   exact⟨v,by simpa using h1,h2⟩
theorem Bs{P:Program}{w:World}{h:Heap}{d:Addr}{kvs:List (List Key×V)}(q:i4 P w H h d (.dT kvs)):(d ==sysModules)=false∧kvs.length≤sizeLine∧∃(es:Array DictEntry)(ep:Nat),yG h d es ep∧es.size=kvs.length∧
  (∀(i:Nat)(y:DictEntry),es[i]?=some y→∃k v b,kvs[i]?=some (k,v)∧y.key=.ref b∧H b=some (.tup (k.map kV))∧RelV v y.val):=by
 obtain⟨hz,hs,xs,r,o,es,ep,ho,hc,hd,he,hn⟩:=q
 have sz:=acp he
 refine⟨hs,hz,es,ep,⟨o,ho,hc,hd⟩,by rw[sz];exact(aav r).symm,fun i y hy=>?_⟩
 rw[entry_at he i] at hy
 obtain⟨⟨k,b,u⟩,hx,e⟩:=aaL.mp hy
 obtain⟨v,h1,h2,h3⟩:=kt_at r hx
 subst e
 exact⟨k,v,b,h1,rfl,h2,h3⟩
theorem HW{P:Program}{w:World}{K:Qqy}(d it:Addr)(o:Obj)(es:Array DictEntry)(ep:Nat)(kvs:List (List Key×V))(MT:o.data=.dict es ep)(hsz:es.size=kvs.length):Turn P w K tg (Ka d o kvs) [it] it (fun i h=>h.IsKeyIter it d i es.size ep) where
 mem:=by simp
 obj:=fun i h st b hb=>by
  have e:b=it:=by simpa using hb
  subst e
  obtain⟨o,e,c,d⟩:=st
  exact⟨o,e,fun v z=>by rw[d] at z;cases z⟩
 keep:=fun i h h' st k=>st.at fun o e=>k it (by simp) o e
 item:=by
  intro X hP hw hK hc i c_ s σ H E I hf st hg
  subst hP hw hK
  obtain⟨hd,hi⟩:=hg
  obtain⟨ho,q⟩:=(show i4 X.prog X.w H s.heap d (.oO o (.dT kvs)) from I.iL d _ hd)
  obtain⟨_,_,SF,Po,raw,sz,SJ⟩:=Bs q
  obtain⟨o',pN,h2,h3⟩:=id raw
  rw[ho] at pN;cases pN
  rw[MT] at h3;cases h3
  have Cd:i<es.size:=by omega
  obtain⟨k,v,b,e1,e2,e3,_⟩:=SJ i es[i] (aa5 Cd)
  obtain⟨f0,f1,f2,f3,f4,f5⟩:=hf it (by simp)
  refine Gn st raw (aa5 Cd) fun h' C9 sb=>?_
  have I1:Inv X c_ σ H {s with heap:=h'}:=I.turned (t':=s.toks) (fun b o hb e=>(sb.2 b hb).trans e) f0 f1 f3 f4 f5
  obtain⟨o',e,c,dd⟩:=id C9
  exact⟨_,rfl,A3 (s:={s with heap:=h'}) e c dd (by decide) ⟨.ref b,H,I1,e2,⟨rfl,k,v,b,e1,rfl,e3⟩,C9,fun b hb=>(hf b hb).1⟩⟩
 done:=by
  intro X hP hw hK hc i c_ s σ H E I hf st hg
  subst hP hw hK
  obtain⟨hd,hi⟩:=hg
  obtain⟨ho,q⟩:=(show i4 X.prog X.w H s.heap d (.oO o (.dT kvs)) from I.iL d _ hd)
  obtain⟨_,_,SF,Po,raw,sz,SJ⟩:=Bs q
  obtain⟨o',pN,h2,h3⟩:=id raw
  rw[ho] at pN;cases pN
  rw[MT] at h3;cases h3
  obtain⟨f0,f1,f2,f3,f4,f5⟩:=hf it (by simp)
  exact Gp (I.ok.hd hc) st raw (by omega) fun h' eb=>⟨rfl,I.turned (t':=s.toks) (fun b o hb e=>eb b o hb e) f0 f1 f3 f4 f5⟩
 self:=fun _ _ _ _ _ st h=>wpAny_pyIter_keyiter st h
def QI(X:Cx)(td:TE):TI:=fun σ H R=>td σ H fun x H1=>∃d kvs,x=.ref d∧H1 d=some (.dT kvs)∧∀o,Bl X d→R (Ka d o kvs) (upd H1 d (.oO o (.dT kvs)))
theorem Bt{l:Expr}{td:TE}(hl:PE X l td):PI X tg l (QI X td):=by
 intro c_ s σ H R I h
 refine i7 (hl c_ s σ H _ I h) fun v s1 ⟨x,H1,I1,r1,q1⟩=>?_
 obtain⟨d,kvs,e,hd,q⟩:=q1
 subst e
 cases r1
 have nf:=I1.QC hd True.intro
 obtain⟨o,ho,I2⟩:=I1.frozen hd True.intro
 obtain⟨hs,_,es,ep,raw,sz,_⟩:=Bs (I1.iL d _ hd)
 obtain⟨o',pN,h2,h3⟩:=id raw
 rw[ho] at pN;cases pN
 refine Gm hs raw ?_
 refine⟨s1.heap.objs.size,[s1.heap.objs.size],_,_,_,rfl,I2.kept (t':=s1.toks) fun b o e=>aao _ e,HW d _ o es ep kvs h3 sz,⟨_,aaI _ rfl,rfl,rfl⟩,fun b hb=>?_,q o nf⟩
 have e:b=s1.heap.objs.size:=by simpa using hb
 subst e
 exact I2.A2 (aab _) (I2.iL.fresh (aab _))
theorem DI{d:Addr}{o:Obj}{kvs:List (List Key×V)}{g:TG}{tb:TS}{D:Ends}{σ:St}{H:Hp}(Pv:Nat→St→Hp→Prop)(h0:Pv 0 σ H)(hl:∀i σ H,Pv i σ H→H d=some (.oO o (.dT kvs)))
  (hs:∀i k v b σ H,kvs[i]?=some (k,v)→H b=some (.tup (k.map kV))→Pv i σ H→g (.ref b) σ H fun σ2 H2=>tb {D with nx:=Pv (i+1),ct:=Pv (i+1),bk:=D.nx} σ2 H2) (hd:∀σ H,Pv kvs.length σ H→D.nx σ H) :
  ∃W:Nat→Nat→St→Hp→Prop,(∃m,W 0 m σ H)∧∀i m σ H,W i m σ H→
   ((Ka d o kvs).stop i H∧D.nx σ H)∨((Ka d o kvs).go i H∧∃N:St→Hp→Prop,(∀σ' H',N σ' H'→∃m',m'<m∧W (i+1) m' σ' H')∧∀x H',(Ka d o kvs).Le i H x H'→g x σ H' fun σ2 H2=>tb {D with nx:=N,ct:=N,bk:=D.nx} σ2 H2):=by
 refine⟨fun i m σ H=>m=kvs.length-i∧i≤kvs.length∧Pv i σ H,⟨kvs.length,by simp,aaU _,h0⟩,?_⟩
 rintro i m σ H ⟨rfl,hi,p⟩
 have q:=hl i σ H p
 by_cases my:i<kvs.length
 ·refine .inr ⟨⟨q,my⟩,Pv (i+1),fun σ' H' p'=>⟨kvs.length-(i+1),by omega,rfl,my,p'⟩,fun x H' y=>?_⟩
  obtain⟨e,k,v,b,y,rfl,hb⟩:=y
  subst e
  exact hs i k v b σ _ y hb p
 ·have e:i=kvs.length:=by omega
  subst e
  exact .inl ⟨⟨q,aab _⟩,hd σ H p⟩
theorem LV{d:Addr}{o:Obj}{kvs:List (List Key×V)}{g:TG}{tt:TT}{te:TE}{Q:List V→Hp→Prop}{σ:St}{H:Hp}(hn:kvs.length≤sizeLine)(Pv:Nat→List V→St→Hp→Prop)(h0:Pv 0 [] σ H)(hl:∀i ys σ H,Pv i ys σ H→H d=some (.oO o (.dT kvs))∧ys.length≤i)
  (hs:∀i k v b ys σ H,kvs[i]?=some (k,v)→H b=some (.tup (k.map kV))→Pv i ys σ H→g (.ref b) σ H fun σ2 H2=>tt σ2 H2 fun c H3=>if c=true then te σ2 H3 fun v H4=>Pv (i+1) (ys++[v]) σ2 H4 else Pv (i+1) ys σ2 H3)
  (hd:∀ys σ H,Pv kvs.length ys σ H→Q ys H):J6 g tt te (Ka d o kvs) Q σ H:=by
 refine⟨fun i m ys σ H=>m=kvs.length-i∧i≤kvs.length∧Pv i ys σ H,⟨kvs.length,by simp,aaU _,h0⟩,?_⟩
 rintro i m ys σ H ⟨rfl,hi,p⟩
 obtain⟨q,hy⟩:=hl i ys σ H p
 by_cases my:i<kvs.length
 ·refine .inr ⟨⟨q,my⟩,by omega,Pv (i+1),fun SG σ' H' p'=>⟨kvs.length-(i+1),by omega,rfl,my,p'⟩,fun x H' y=>?_⟩
  obtain⟨e,k,v,b,y,rfl,hb⟩:=y
  subst e
  exact hs i k v b ys σ _ y hb p
 ·have e:i=kvs.length:=by omega
  subst e
  exact .inl ⟨⟨q,aab _⟩,by omega,hd ys σ H p⟩
end
section
variable{P:Program}{w:World}{d it:Addr}{es:Array DictEntry}{ep:Nat}
theorem Kb{A:Around}(hh:A.handled=none)(tm:d≠it):Walks P w A it [it,d] [it] es.size (fun i v=>∃y,es[i]?=some y∧v=y.key) (fun i h=>h.IsKeyIter it d i es.size ep∧yG h d es ep) where
 sub:=fun b hb=>by rw[Yc.mp hb];exact aaz
 frame:=fun i h h' ⟨a,b⟩ hk=>⟨a.at fun o e=>hk it aaz o e,b.at fun o e=>hk d (by simp) o e⟩
 item:=fun i s Q E hi ⟨a,b⟩ hQ=>Gn a b (aa5 hi) fun h' a' sb=>hQ _ h' s.toks ⟨_,aa5 hi,rfl⟩ ⟨a',b.at fun o e=>sb.extBut d o tm e⟩ fun b o hb e=>sb.extBut b o (fun z=>hb (by rw[z];exact Yc.mpr rfl)) e
 done:=fun s Q E ⟨a,b⟩ hQ=>Gp hh a b (aab _) fun h' eb=>hQ h' s.toks fun b o hb e=>eb b o (fun z=>hb (by rw[z];exact Yc.mpr rfl)) e
 self:=fun i s Q E ⟨a,_⟩ hQ=>wpAny_pyIter_keyiter a hQ
theorem NU(lo:(d ==sysModules)=false):W.KdlSrc P w "dict" d d es.size (fun i v=>∃y,es[i]?=some y∧v=y.key) (fun h=>yG h d es ep) where
 type:=fun s r=>r.ty
 there:=fun h ⟨o,e,_⟩=>⟨aaD e,aaD e⟩
 keep:=fun h h' r hk=>r.at fun o e=>hk d (.inl rfl) o e
 notList:=by decide
 notTuple:=by decide
 hint:=fun A E s Q r hq=>W.kdl_hint_dict r.ty hq
 iter:=fun A s hh r=>⟨_,_,(fun E Q hq=>Gm lo r hq),Kb hh (by obtain⟨o,e,_⟩:=r;exact aa1 (aaD e)),⟨⟨_,aaI _ rfl,rfl,rfl⟩,r.at fun o e=>aao _ e⟩⟩
end
section
variable{X:Cx}{c_:Qqz}{σ:St}{H:Hp}{s:Shared}
theorem An(hc:X.calm=true):vz X (.type "list") (fun xs H Q=>∃d kvs,xs=[V.ref d]∧H d=some (.dT kvs)∧∀p bs,H p=none→Paired (fun(kv:List Key×V) (b:Addr)=>H b=some (.tup (kv.1.map kV))) kvs bs→Q (.ref p) (upd H p (.lst (bs.map V.ref)))):=by
 intro c_ s σ H xs us Q I r h
 obtain⟨d,kvs,rfl,hd,q⟩:=h
 obtain⟨u,rfl,ru⟩:=vals1 r
 cases (show u=Value.ref d from ru)
 obtain⟨hs,hz,es,ep,raw,sz,SJ⟩:=Bs (I.iL d _ hd)
 refine W.kdl_call (NU hs) (I.ok.hd hc) raw (by omega) fun h' tk acc c hk hS yj=>?_
 have hf:H s.heap.objs.size=none:=I.iL.fresh (aab _)
 have hb:∀i:Nat,i<kvs.length→∃k v b,kvs[i]?=some (k,v)∧(es[i]?.map DictEntry.key)=some (Value.ref b)∧H b=some (.tup (k.map kV)):=fun i hi=>by
  have Cd:i<es.size:=by omega
  obtain⟨k,v,b,e1,e2,e3,_⟩:=SJ i es[i] (aa5 Cd)
  exact⟨k,v,b,e1,by rw[aa5 Cd,acj,e2],e3⟩
 let adr:Value→Addr:=fun v=>match v with|.ref b=>b|_=>0
 let bs:List Addr:=es.toList.map fun y=>adr y.key
 have Pz:bs.length=kvs.length:=by show(es.toList.map _).length=_;rw[U8,abg];exact sz
 have hbs:∀(i:Nat)(b:Addr),bs[i]?=some b→∃k v,kvs[i]?=some (k,v)∧es[i]?.map DictEntry.key=some (Value.ref b)∧H b=some (.tup (k.map kV)):=fun i b e=>by
  have hi:i<kvs.length:=by rw[←Pz];exact(Vb.mp e).1
  obtain⟨k,v,b',e1,e2,e3⟩:=hb i hi
  have:bs[i]?=some b':=by
   show(es.toList.map _)[i]?=_
   rw[aan,abe]
   obtain⟨y,ey,e4⟩:=aaL.mp e2
   rw[ey]
   show some (adr y.key)=_
   rw[e4]
  rw[this] at e
  cases e
  exact⟨k,v,e1,e2,e3⟩
 have rel:Vals (bs.map V.ref) acc.toList:=by
  refine qJ (by have e1:=yj.1;have e2:acc.toList.length=acc.size:=abg;rw[U8,Pz];omega) fun i a b ha hb=>?_
  rw[aan] at ha
  obtain⟨b',e,rfl⟩:=aaL.mp ha
  obtain⟨k,v,_,e2,_⟩:=hbs i b' e
  obtain⟨y,hy,hv⟩:=yj.2 i b (by rw[←abe];exact hb)
  rw[hy,acj] at e2
  show b=.ref b'
  rw[hv,aaJ e2]
 refine⟨.ref s.heap.objs.size,upd H s.heap.objs.size (.lst (bs.map V.ref)),I.laid (t':=tk) hk (aab _) ?_,rfl,q _ bs hf (qJ Pz.symm fun i a b ha hb=>?_)⟩
 ·exact⟨by rw[U8,Pz];exact hz,acc.toList,c,rel,by rw[Array.toArray_toList];exact hS⟩
 ·obtain⟨k,v,e1,_,e3⟩:=hbs i b hb
  rw[e1] at ha
  cases ha
  exact e3
end
section
variable{P:Program}{w:World}{κ:Type}[DecidableEq κ]{knd:HeapKind P w κ}{A:Around}{E:Qqq}{s:Shared}{d a:Addr}{xs:List (κ×Addr×Value)}{k:κ}
theorem LW{v:Value}{Q:Unit→Shared→Prop}(hu:knd.room A)(hk:knd.is s.heap k a)(m:s.heap.DictOfH knd d xs)(hz:xs.length≤sizeLine)
  (q:∀h',h'.DictOfH knd d (storedH xs k a v)→Heap.SameBut d s.heap h'→Q () {s with heap:=h'}):wpAny (model P w) A (dictSetHashed d (.ref a) (knd.hash k) v) Q E s:=by
 obtain⟨o,es,ep,ho,hc,hd,he,SK,hn⟩:=m
 have sz:=acp he
 unfold dictSetHashed
 try with_reducible refine abX ?_
 refine XX (wpAny_dictFind_heap hu hk ho hd he SK hn (fun no=>?_) fun j p hj=>?_)
 ·have at0:=atKey_none_of_get no
  refine XX (wpAny_rule (wpAny_updateDictKeys (hz:=by omega) ho hd (q _ ?_ (abu ..))))
  rw[storedH_new at0]
  refine⟨_,_,ep+1,abh _ ho (Obj.isFreed_of_dict (Obj.data_mapDictKeys hd _)),hc.mapDictKeys _,Obj.data_mapDictKeys hd _,by simp[he,entryOfKey],fun x hx=>?_,?_⟩
  ·refine knd.keeps ?_ ho hd (abu ..)
   rcases aaf.mp hx with hx|hx
   ·exact SK x hx
   ·rw[Yc.mp hx];exact hk
  ·rw[aaA,aa6]
   exact⟨hn,by simp,fun x hx y hy z=>not_mem_keys_of_get no (by rw[Yc.mp hy] at z;have z:x=k:=z;exact z▸hx)⟩
 ·have at1:=atKey_of_get hn hj
  refine XX (wpAny_rule (XX (wpAny_updateDict ho hd (wpAny_point (q _ ?_ (abu ..))))))
  rw[storedH_old at1]
  refine⟨_,_,ep,abh _ ho (Obj.isFreed_of_dict (Obj.data_mapDict hd _)),hc.mapDict _,Obj.data_mapDict hd _,?_,fun x hx=>?_,by rw[keys_map_putAt];exact hn⟩
  ·have z:=modify_map_putAt (entryOfKey knd) (fun e:DictEntry=>{e with val:=v}) k v (fun _ _=>rfl) hn hj
   rw[←he] at z
   obtain⟨l⟩:=es
   simpa using z
  ·obtain⟨y,hy,rfl⟩:=aaO.mp hx
   unfold putAt
   split<;>exact knd.keeps (SK y hy) ho hd (abu ..)
def Gq(xs:List (κ×Addr×Value))(k:κ):List (κ×Addr×Value):=xs.filter fun x=>decide (x.1≠k)
theorem HX{β:Type}(f:κ×Addr×Value→β):∀{xs:List (κ×Addr×Value)} {j:Nat} {p:Addr×Value},(xs.map (·.1)).Nodup→xs[j]?=some (k,p)→(xs.map f).eraseIdx j=(Gq xs k).map f:=by
 intro xs
 induction xs with
 | nil=>intro j p _ hj;simp at hj
 | cons x r ih=>
  intro j p hn hj
  rw[aaB,aaY] at hn
  unfold Gq
  cases j with
  | zero=>
   simp at hj
   have e:r.filter (fun x=>decide (x.1≠k))=r:=List.filter_eq_self.mpr fun y hy=>XZ fun z=>hn.1 (by rw[hj];show k∈_;rw[←z];exact aai hy)
   rw[aaj (by rw[hj];simp),e]
   rfl
  | succ j=>
   have hj:r[j]?=some (k,p):=by simpa using hj
   have ne:x.1≠k:=fun z=>hn.1 (by rw[z];exact aaO.mpr ⟨_,Yd hj,rfl⟩)
   rw[aae (by simpa using ne),aaB,aaB,List.eraseIdx_cons_succ,ih hn.2 hj]
   rfl
theorem LX{p:Addr×Value}{Q:Option DictEntry→Shared→Prop}(hu:knd.room A)(hk:knd.is s.heap k a)(m:s.heap.DictOfH knd d xs)(hz:xs.length≤sizeLine)(hp:atKey xs k=some p)
  (q:∀h',h'.DictOfH knd d (Gq xs k)→Heap.SameBut d s.heap h'→Q (some ⟨knd.hash k,.ref p.1,p.2⟩) {s with heap:=h',toks:=s.toks+knd.draws k}):wpAny (model P w) A (Builtin.Dict.takeOut d (.ref a)) Q E s:=by
 obtain⟨o,es,ep,ho,hc,hd,he,SK,hn⟩:=m
 have sz:=acp he
 unfold Builtin.Dict.takeOut
 try with_reducible refine abX ?_
 refine XX (knd.pyHash hu hk (XX (wpAny_dictFind_heap (s:={s with toks:=s.toks+knd.draws k}) hu hk ho hd he SK hn (fun no=>?_) fun j p' hj=>?_)))
 ·rw[atKey_none_of_get no] at hp;cases hp
 ·have e:=atKey_of_get hn hj
  rw[hp] at e
  cases e
  refine XX (abk (s:={s with toks:=s.toks+knd.draws k}) ho hd ?_)
  rw[entry_at he j,hj]
  refine XX (wpAny_updateDictKeys (hz:=by omega) (s:={s with toks:=s.toks+knd.draws k}) ho hd (aas (q _ ?_ (abu ..))))
  refine⟨_,_,ep+1,abh _ ho (Obj.isFreed_of_dict (Obj.data_mapDictKeys hd _)),hc.mapDictKeys _,Obj.data_mapDictKeys hd _,?_,fun x hx=>knd.keeps (SK x (aat.mp hx).1) ho hd (abu ..),(aa0.map _).nodup hn⟩
  have z:=HX (k:=k) (entryOfKey knd) hn hj
  rw[←he] at z
  rw[←z]
  obtain⟨l⟩:=es
  simp
def lS(xs more:List (κ×Addr×Value)):List (κ×Addr×Value):=more.foldl (fun acc x=>storedH acc x.1 x.2.1 x.2.2) xs
theorem Gr{xs more:List (κ×Addr×Value)}{i:Nat}{x:κ×Addr×Value}(h:more[i]?=some x):lS xs (more.take (i+1))=storedH (lS xs (more.take i)) x.1 x.2.1 x.2.2:=by
 unfold lS
 rw[List.take_add_one,h,List.foldl_append]
 rfl
theorem Gs(xs:List (κ×Addr×Value))(k:κ)(a:Addr)(v:Value):(storedH xs k a v).length≤xs.length+1:=by
 unfold storedH
 split
 ·rw[U8];omega
 ·rw[Y5];exact aab _
theorem HY(xs:List (κ×Addr×Value)):∀more:List (κ×Addr×Value),(lS xs more).length≤xs.length+more.length:=by
 intro more
 unfold lS
 induction more generalizing xs with
 | nil=>exact aab _
 | cons x r ih=>
  have h1:=ih (storedH xs x.1 x.2.1 x.2.2)
  have h2:=Gs xs x.1 x.2.1 x.2.2
  rw[List.foldl_cons,aal]
  omega
theorem HZ{nm:String}{o:Addr}{more:List (κ×Addr×Value)}{Q:Unit→Shared→Prop}(hu:knd.room A)(ne:d≠o)(lo:(o ==sysModules)=false)(tm:xs≠[])(md:s.heap.DictOfH knd d xs)(mo:s.heap.DictOfH knd o more)(hz:xs.length+more.length≤sizeLine)
  (q:∀h',h'.DictOfH knd d (lS xs more)→Heap.SameBut d s.heap h'→Q () {s with heap:=h'}):wpAny (model P w) A (Builtin.Dict.mergeDict nm d o) Q E s:=by
 obtain⟨od,WD,epd,WE,CM,SM,U3,WA,RS⟩:=id md
 obtain⟨oo,KW,epo,WG,hco,MT,MM,hio,WH⟩:=id mo
 have szo:=acp MM
 have szd:=acp U3
 unfold Builtin.Dict.mergeDict Builtin.Dict.showsAll
 rw[aau (by simpa using ne),lo,aau (fun z=>by cases z)]
 refine XX (aas (XX (abk WG MT ?_)))
 dsimp only
 have loop:wpAny (model P w) A (do
   let U4 ←dictEpoch o
   let l ←dictEntries o
   forIn [:l.size] PUnit.unit fun i (_:PUnit)=>(do
     let l' ←dictEntries o
     match l'[i]? with
      | some e=>do
       holding [e.key,e.val] (dictSetHashed d e.key e.hash e.val)
       let Po ←dictEpoch o
       if(Po != U4)=true then do (unsupported (toString nm++toString ":source-changed-during-callback"):Sem PUnit);pure (ForInStep.yield PUnit.unit)
        else pure (ForInStep.yield PUnit.unit)
      | _=>do (unsupported "internal:dict-merge":Sem PUnit);pure (ForInStep.yield PUnit.unit):Sem (ForInStep PUnit))
   pure ()) Q E s:=by
  refine XX (wpAny_dictEpoch WG MT (XX (abk WG MT (XX ?_))))
  rw[Std.Legacy.Range.forIn_eq_forIn_range']
  simp only [Std.Legacy.Range.size,Nat.sub_zero,Nat.add_sub_cancel,Nat.div_one]
  refine wpAny_forIn_list _ (fun rest _ s'=>∃h' i,s'={s with heap:=h'}∧rest=List.range' i (KW.size-i)∧i≤KW.size∧h'.DictOfH knd d (lS xs (more.take i))∧Heap.SameBut d s.heap h') _ ?_ ?_ _ _ ⟨s.heap,0,rfl,by simp,aaU _,by simpa[lS] using md,Heap.SameBut.refl _ _⟩
  ·rintro x rest b s' ⟨h',i,rfl,hr,hi,hm,hs⟩
   have my:i<KW.size:=by
    rcases Nat.lt_or_ge i KW.size with z|z
    ·exact z
    ·rw[Nat.sub_eq_zero_of_le z] at hr;simp at hr
   obtain⟨ex,er⟩:x=i∧rest=List.range' (i+1) (KW.size-(i+1)):=by
    rw[show KW.size-i=(KW.size-(i+1))+1 by omega,acx] at hr
    exact List.cons.inj hr
   subst ex
   have U5:h'.get? o=some oo:=(hs.2 o (abT ne)).trans WG
   refine XX (abk U5 MT ?_)
   obtain⟨⟨k,b2,v⟩,hx⟩:∃y,more[x]?=some y:=⟨more[x]'(by omega),Y0 _⟩
   rw[entry_at MM x,hx]
   show wpAny _ _ (holding [Value.ref b2,v] (dictSetHashed d (.ref b2) (knd.hash k) v) >>= _) _ _ _
   have hl:(lS xs (more.take x)).length≤sizeLine:=by
    have:=HY xs (more.take x)
    rw[aay] at this
    omega
   have hib:knd.is h' k b2:=knd.keeps (hio _ (Yd hx)) WE SM hs
   refine XX (abX (LW (s:={s with heap:=h'}) hu hib hm hl fun h2 m2 s2=>?_))
   refine XX (wpAny_dictEpoch ((s2.2 o (abT ne)).trans U5) MT ?_)
   rw[aau (by simp)]
   exact aas ⟨h2,x+1,rfl,er,my,by rw[Gr hx];exact m2,hs.trans s2⟩
  ·rintro b s' ⟨h',i,rfl,hr,hi,hm,hs⟩
   have e:i=KW.size:=by
    rcases Nat.lt_or_ge i KW.size with z|z
    ·rw[show KW.size-i=(KW.size-(i+1))+1 by omega,acx] at hr;cases hr
    ·omega
   refine aas (q h' ?_ hs)
   rw[e,szo,aam] at hm
   exact hm
 split
 ·refine XX (abk WE SM ?_)
  rw[aau (fun z=>?_)]
  ·exact loop
  ·have:WD=#[]:=Array.isEmpty_iff.mp z
   rw[this] at szd
   exact tm (aaV.mp szd.symm)
 ·exact loop
theorem LY{o:Addr}{more:List (κ×Addr×Value)}{Q:Qqq}(hu:knd.room A.in1)(ne:d≠o)(lo:(o ==sysModules)=false)(tm:xs≠[])(md:s.heap.DictOfH knd d xs)(mo:s.heap.DictOfH knd o more)(hz:xs.length+more.length≤sizeLine)
  (q:∀h',h'.DictOfH knd d (lS xs more)→Heap.SameBut d s.heap h'→Q .none {s with heap:=h'}):wpAny (model P w) A (call (.builtin "dict.update") [.ref d,.ref o]) Q E s:=by
 refine acb ab8 md.typeIs PySem.F.entry_dict_update ?_ (PySem.F.args_dict_update_2 _ _)
 unfold Builtin.«dict.update» Builtin.Dict.selfAndRest
 refine XX (XX (wpAny_notOrdered_dict md.typeIs (show wpAny _ _ (pure (d,[Value.ref o])) _ _ s from aas ?_)))
 show wpAny _ _ (Builtin.Dict.updateFrom "dict.update" d (.ref o) [] .none) _ _ s
 unfold Builtin.Dict.updateFrom
 refine XX (wpAny_typeOf mo.typeIs ?_)
 rw[aau (by decide)]
 unfold Builtin.Dict.merge Builtin.Dict.readDirectly
 refine XX (XX (XX (wpAny_isInstance mo.typeIs isSubtype_dict_dict ?_)))
 simp only [Bool.not_true,aa9,acf]
 refine XX (acm mo.typeIs F.slot_dict_iter.lookup (aas ?_))
 simp only [beq_self_eq_true,if_true]
 refine XX (aas (HZ hu ne lo tm md mo hz fun h' m s'=>?_))
 show wpAny _ _ (Builtin.Dict.addKeywords d [] >>= _) _ _ _
 exact XX (aas (aas ⟨.none,rfl,q h' m s'⟩))
end
def putAll{κ:Type}[DecidableEq κ](kvs more:List (κ×V)):List (κ×V):=more.foldl (fun acc kv=>putK acc kv.1 kv.2) kvs
section
variable{κ:Type}[DecidableEq κ]
theorem tQ(kvs:List (κ×V))(p:κ×V)(r:List (κ×V)):putAll kvs (p::r)=putAll (putK kvs p.1 p.2) r:=rfl
theorem rG:∀(more kvs:List (κ×V)),(putAll kvs more).length≤kvs.length+more.length
 | [],kvs=>aab _
 | p::r,kvs=>by
  have h1:=rG r (putK kvs p.1 p.2)
  have h2:=jL kvs p.1 p.2
  rw[tQ,aal]
  omega
theorem kt_merged{H:Hp}{more:List (List Key×V)}{ys:List (List Key×Addr×Value)}(r:KT H more ys):∀{kvs:List (List Key×V)} {xs:List (List Key×Addr×Value)},KT H kvs xs→KT H (putAll kvs more) (lS xs ys):=by
 induction r with
 | nil=>intro kvs xs r;exact r
 | @cons p q ps qs f t ih=>
  intro kvs xs r
  have z:=r.put p.1 (b:=q.2.1) f.2.1 f.2.2
  have z2:=ih z
  rw[show lS xs (q::qs)=lS (storedH xs q.1 q.2.1 q.2.2) qs from rfl,←show p.1=q.1 from f.1]
  exact z2
theorem Kc{more:List (κ×V)}{ys:List (κ×Value)}(r:KV more ys):∀{kvs:List (κ×V)} {xs:List (κ×Value)},KV kvs xs→KV (putAll kvs more) (merged xs ys):=by
 induction r with
 | nil=>intro kvs xs r;exact r
 | @cons p q ps qs f t ih=>
  intro kvs xs r
  have z:=ih (KV.put r p.1 f.2)
  rw[show merged xs (q::qs)=merged (stored xs q.1 q.2) qs from rfl,←show p.1=q.1 from f.1]
  exact z
end
section
variable{X:Cx}{c_:Qqz}{σ:St}{H:Hp}{s:Shared}{a b:Addr}{A:Around}{E:Qqq}
theorem NV{kvs:List (List Key×V)}{xs:List (List Key×Addr×Value)}(r:KT H kvs xs)(k:List Key):KT H (kC kvs k) (Gq xs k):=by
 induction r with
 | nil=>exact .nil
 | @cons p q ps qs f t ih=>
  unfold kC Gq
  by_cases e:p.1=k
  ·have e':q.1=k:=f.1.symm.trans e
   rw[aaj (by simp[e]),aaj (by simp[e'])]
   exact ih
  ·have e':¬q.1=k:=fun z=>e (f.1.trans z)
   rw[aae (by simp[e]),aae (by simp[e'])]
   exact .cons f ih
theorem QJ{kvs more:List (List Key×V)}{Q:Qqq}(hu:A.units+1<cLine)(I:Inv X c_ σ H s)(ha:H a=some (.dT kvs))(hb:Rd H b (.dT more))(ne:a≠b)(h0:kvs≠[])(hz:kvs.length+more.length≤sizeLine)
  (h:∀s',Inv X c_ σ (upd H a (.dT (putAll kvs more))) s'→Q .none s'):wpAny (model X.prog X.w) A (call (.builtin "dict.update") [.ref a,.ref b]) Q E s:=by
 obtain⟨z,lo,xs,rel,dd⟩:=Lq I.iL ha
 obtain⟨z2,YW,ys,MV,Wz⟩:=zt I.iL hb
 have l1:=aav rel
 have l2:=aav MV
 have x0:xs≠[]:=fun e=>h0 (aaV.mp (by rw[l1,e];rfl))
 refine LY (abI hu) ne YW x0 dd Wz (by omega) fun h' m hs=>h _ ?_
 obtain⟨q,es,ep,hq,h2,h3,h4,_,h5⟩:=m
 refine uW (t':=s.toks) I (by rw[ha];exact True.intro) hs ⟨q,hq⟩ ⟨aah (rG _ _) hz,lo,_,(kt_merged MV rel).keeps fun c ys ec=>?_,q,es,ep,hq,h2,h3,h4,h5⟩
 rw[e_ (jd ec ha (fun z=>nomatch z))]
 exact ec
theorem QK{kvs more:List (Key×V)}{Q:Qqq}(I:Inv X c_ σ H s)(ha:H a=some (.dK kvs))(hb:Rd H b (.dK more))(ne:a≠b)(hz:kvs.length+more.length≤sizeLine)
  (h:∀s',Inv X c_ σ (upd H a (.dK (putAll kvs more))) s'→Q .none s'):wpAny (model X.prog X.w) A (call (.builtin "dict.update") [.ref a,.ref b]) Q E s:=by
 obtain⟨z,lo,xs,rel,dd⟩:=Lp I.iL ha
 obtain⟨z2,YW,ys,MV,Wz⟩:=zr I.iL hb
 have l1:=rel.length
 have l2:=MV.length
 refine call_meetsIn ab8 dd.typeIs PySem.F.entry_dict_update (PySem.F.args_dict_update_2 _ _) (meets_dict_update (jl X.prog X.w) a b ne YW) ⟨xs,ys,dd,Wz,by omega,fun h' Nh _ hs=>h _ ?_⟩
 have he:∃q,h'.get? a=some q:=let ⟨q,_,_,hq,_⟩:=Nh;⟨q,hq⟩
 exact uW (t':=s.toks) I (by rw[ha];exact True.intro) hs he (HR (aah (rG _ _) hz) lo (Kc MV rel) Nh)
theorem QL{kvs:List (List Key×V)}{k:List Key}{v:V}{Q:Qqq}(hu:A.units+1<cLine)(I:Inv X c_ σ H s)(ha:H a=some (.dT kvs))(hb:H b=some (.tup (k.map kV)))(l:iV kvs k=some v)
  (h:∀w' s',Inv X c_ σ (upd H a (.dT (kC kvs k))) s'→RelV v w'→Q w' s'):wpAny (model X.prog X.w) A (call (.builtin "dict.pop") [.ref a,.ref b]) Q E s:=by
 obtain⟨z,lo,xs,rel,dd⟩:=Lq I.iL ha
 have l1:=aav rel
 obtain⟨w',hw,Dc⟩:=qE.some_of (v:=v) (o:=(atKey xs k).map (·.2)) (by rw[←l];exact rel.val k)
 obtain⟨p,hp,AX⟩:=aaL.mp hw
 obtain⟨od,WD,epd,WE,CM,SM,U3,WA,RS⟩:=id dd
 refine acb ack dd.typeIs PySem.F.entry_dict_pop ?_ (PySem.F.args_dict_pop_2 _ _)
 unfold Builtin.«dict.pop» Builtin.Dict.keyAndDefault
 refine XX (XX (wpAny_notOrdered_dict dd.typeIs (show wpAny _ _ (pure (a,Value.ref b,none)) _ _ s from aas ?_)))
 have part:(keyPart (Value.ref b)).isSome=false:=rfl
 simp only [part,aa9,acf]
 refine XX (abk WE SM (XX (aas ?_)))
 have ne:WD.isEmpty=false:=by
  rw[aa8]
  intro e
  have e:WD=#[]:=Array.isEmpty_iff.mp e
  have sz:=acp U3
  rw[e] at sz
  have:xs=[]:=aaV.mp sz.symm
  rw[this] at hp
  cases hp
 simp only [ne,aa9,acf]
 refine XX (LX (abI hu) (vX I.iL hb) dd (by omega) hp fun h' m hs=>?_)
 simp only [Option.isNone_some,aa9,acf]
 refine XX (wpAny_letGo (aas ⟨p.2,rfl,?_⟩))
 rw[AX]
 refine h w' _ ?_ Dc
 obtain⟨q,es,ep,hq,h2,h3,h4,_,h5⟩:=m
 refine uW I (by rw[ha];exact True.intro) hs ⟨q,hq⟩ ⟨aah (Gf _ _) z,lo,_,(NV rel k).keeps fun c ys ec=>?_,q,es,ep,hq,h2,h3,h4,h5⟩
 rw[e_ (jd ec ha (fun z=>nomatch z))]
 exact ec
theorem NW{d:Addr}{es:Array DictEntry}{ep:Nat}{Q:Qqq}{P:Program}{w:World}(lo:(d ==sysModules)=false)(r:yG s.heap d es ep)(fit:(es.size:Int)<2 ^ 63)
  (h:Q (.int es.size (s.toks+1)) {s with toks:=s.toks+1+1}):wpAny (model P w) A (Builtin.«len» ⟨[.ref d],[]⟩) (fun fin s'=>∃r,fin=.done (.ret r)∧Q r s') E s:=by
 obtain⟨o,ho,hc,hd⟩:=id r
 unfold Builtin.«len»
 refine XX (m:=oneArg "len" _) (aas (XX (m:=callSpecial? (.ref d) (Str.ofString "__len__")) (wpAny_callSpecial?_slot (name:=Str.ofString "__len__") r.ty F.slot_dict_len (acb F.slot_dict_len r.ty F.entry_dict_len ?_ (F.args_dict_len_1 _)))))
 show wpAny _ _ (dictSize d >>= _) _ _ s
 unfold dictSize
 refine XX (XX (abk ho hd (aas ?_)))
 show wpAny _ _ (Builtin.Dict.pendingCount d >>= _) _ _ s
 refine XX (wpAny_pendingCount_other lo (wpAny_ret_mkInt ?_))
 show wpAny _ _ _ _ _ {s with toks:=s.toks+1}
 refine XX (abX (aas (XX (wpAny_letGo ?_))))
 show wpAny _ _ (if((es.size+0:Nat):Int)<0 then _ else _) _ _ _
 rw[aau (by omega),Nat.add_zero]
 show wpAny _ _ (if((es.size:Nat):Int)≥2 ^ 63 then _ else _) _ _ _
 rw[aau (by omega)]
 exact XX (wpAny_mkInt (aas ⟨_,rfl,h⟩))
theorem H_{d:Addr}{es:Array DictEntry}{ep:Nat}{Q:Bool→Shared→Prop}{P:Program}{w:World}(lo:(d ==sysModules)=false)(r:yG s.heap d es ep)(fit:(es.size:Int)<2 ^ 63)
  (h:Q ((es.size:Int) != 0) {s with toks:=s.toks+1+1}):wpAny (model P w) A (truthy (.ref d)) Q E s:=by
 have key:wpAny (model P w) A (runValue (.builtin "len" ⟨[.ref d],[]⟩)) (fun r s'=>r=.int es.size (s.toks+1)∧Q ((es.size:Int) != 0) s') E s:=by
  refine wpAny_runValue (codeAny_builtin entry_len ?_)
  rw[Around.under_plainId plain_len _]
  refine abv (NW (Q:=fun r s'=>r=.int es.size (s.toks+1)∧Q ((es.size:Int) != 0) s') lo r fit ⟨rfl,h⟩) (fun fin s' h'=>?_) fun _ _ e=>e
  obtain⟨r,rfl,hq⟩:=h'
  exact hq
 unfold truthy
 first
  | refine XX (wpAny_callSpecial?_none (name:=Str.ofString "__bool__") r.ty noBool_dict ?_)
  | refine XX (aas (XX (wpAny_callSpecial?_none (name:=Str.ofString "__bool__") r.ty noBool_dict ?_)))
 first
  | refine XX (acm (name:=Str.ofString "__len__") r.ty F.slot_dict_len.lookup ?_)
  | refine XX (aas (XX (acm (name:=Str.ofString "__len__") r.ty F.slot_dict_len.lookup ?_)))
 first
  | exact XX (abv key (fun r s' h'=>by obtain⟨rfl,hq⟩:=h';exact aas hq) fun _ _ e=>e)
  | exact XX (aas (XX (abv key (fun r s' h'=>by obtain⟨rfl,hq⟩:=h';exact aas hq) fun _ _ e=>e)))
end
def QM(td ty:TE):TE:=fun σ H Q=>td σ H fun x H1=>∃a,x=.ref a∧Ss H1 a∧ty σ H1 fun y H2=>∃b kvs more,y=.ref b∧H2 a=some (.dT kvs)∧Rd H2 b (.dT more)∧a≠b∧kvs≠[]∧kvs.length+more.length≤sizeLine∧Q .js (upd H2 a (.dT (putAll kvs more)))
def QN(td ty:TE):TE:=fun σ H Q=>td σ H fun x H1=>∃a,x=.ref a∧Ss H1 a∧ty σ H1 fun y H2=>∃b kvs more,y=.ref b∧H2 a=some (.dK kvs)∧Rd H2 b (.dK more)∧a≠b∧kvs.length+more.length≤sizeLine∧Q .js (upd H2 a (.dK (putAll kvs more)))
def QO(td ty:TE):TE:=fun σ H Q=>td σ H fun x H1=>∃a,x=.ref a∧Ss H1 a∧ty σ H1 fun y H2=>∃b kvs k v,y=.ref b∧H2 a=some (.dT kvs)∧H2 b=some (.tup (k.map kV))∧iV kvs k=some v∧Q v (upd H2 a (.dT (kC kvs k)))
section
variable{X:Cx}{o e f:Expr}{apos lY:Pos}{td ty tx:TE}
theorem LZ(hu:X.A.units+1<cLine)(ho:PE X o td)(he:PE X e ty)(m:M1 X o "update" apos e lY):PE X (.Call (.Attribute o "update" apos) [e] [] lY) (QM td ty):=by
 intro c_ s σ H Q I h
 refine wpAny_Call_method m.base m.jc m.line abO ab8 PySem.F.type_dict_update (i7 (ho c_ s σ H _ I h) fun u s1 ⟨x,H1,I1,rx,a,ex,d,q1⟩=>?_)
 subst ex
 obtain rfl:u=Value.ref a:=rx
 obtain⟨t1,t2,_⟩:=A_ I1 d
 refine⟨t1,t2,?_⟩
 rw[m.trees]
 refine abo rfl (abA (abn (i7 (he c_ s1 σ H1 _ I1 q1) fun iv s2 ⟨y,H2,I2,ry,b,kvs,more,ey,ha,hb,ne,h0,hz,q2⟩=>abD ?_)))
 subst ey
 obtain rfl:iv=Value.ref b:=ry
 exact QJ hu I2 ha hb ne h0 hz fun s3 I3=>⟨.js,_,I3,rfl,q2⟩
theorem L3(ho:PE X o td)(he:PE X e ty)(m:M1 X o "update" apos e lY):PE X (.Call (.Attribute o "update" apos) [e] [] lY) (QN td ty):=by
 intro c_ s σ H Q I h
 refine wpAny_Call_method m.base m.jc m.line abO ab8 PySem.F.type_dict_update (i7 (ho c_ s σ H _ I h) fun u s1 ⟨x,H1,I1,rx,a,ex,d,q1⟩=>?_)
 subst ex
 obtain rfl:u=Value.ref a:=rx
 obtain⟨t1,t2,_⟩:=A_ I1 d
 refine⟨t1,t2,?_⟩
 rw[m.trees]
 refine abo rfl (abA (abn (i7 (he c_ s1 σ H1 _ I1 q1) fun iv s2 ⟨y,H2,I2,ry,b,kvs,more,ey,ha,hb,ne,hz,q2⟩=>abD ?_)))
 subst ey
 obtain rfl:iv=Value.ref b:=ry
 exact QK I2 ha hb ne hz fun s3 I3=>⟨.js,_,I3,rfl,q2⟩
theorem L4(hu:X.A.units+1<cLine)(ho:PE X o td)(he:PE X e ty)(m:M1 X o "pop" apos e lY):PE X (.Call (.Attribute o "pop" apos) [e] [] lY) (QO td ty):=by
 intro c_ s σ H Q I h
 refine wpAny_Call_method m.base m.jc m.line abO ack PySem.F.type_dict_pop (i7 (ho c_ s σ H _ I h) fun u s1 ⟨x,H1,I1,rx,a,ex,d,q1⟩=>?_)
 subst ex
 obtain rfl:u=Value.ref a:=rx
 obtain⟨t1,t2,_⟩:=A_ I1 d
 refine⟨t1,t2,?_⟩
 rw[m.trees]
 refine abo rfl (abA (abn (i7 (he c_ s1 σ H1 _ I1 q1) fun iv s2 ⟨y,H2,I2,ry,b,kvs,k,v,ey,ha,hb,l,q2⟩=>abD ?_)))
 subst ey
 obtain rfl:iv=Value.ref b:=ry
 exact QL hu I2 ha hb l fun w' s3 I3 Dc=>⟨v,_,I3,Dc,q2⟩
theorem Kd{a:Expr}{ta:TE}(ha:PE X a ta)(he:∀whole,isTrue a X.env whole=(do let v ←whole;standAt a.pos;holding [v] (truthy v))) :
  PT X a (fun σ H Q=>ta σ H fun x H'=>∃p kvs,x=.ref p∧H' p=some (.dT kvs)∧Q (!kvs.isEmpty) H'):=by
 intro c_ s σ H Q I h
 refine isTrue_plain (i7 (ha c_ s σ H _ I h) fun v s1 ⟨x,H1,I1,r1,p,kvs,ex,hp,q⟩=>?_) (he _)
 subst ex
 obtain rfl:v=Value.ref p:=r1
 obtain⟨lo,hz,es,ep,raw,sz,_⟩:=Bs (I1.iL p _ hp)
 have hs:sizeLine=16777216:=sizeLine_eq
 refine H_ lo raw (by omega) ?_
 have e:((es.size:Int) != 0)=!kvs.isEmpty:=by rw[sz];cases kvs<;>simp<;>omega
 rw[e]
 exact⟨H1,I1.tok _,q⟩
end
theorem Ke:bootBuiltins "enumerate"=some (.type "enumerate"):=by decide+kernel
section
variable{X:Cx}{c_:Qqz}{σ:St}{H:Hp}{s:Shared}{h':Heap}
theorem Inv.NX{t':Nat}{a b:Addr}(I:Inv X c_ σ H s)(k:∀c o,c≠a→c≠b→s.heap.get? c=some o→h'.get? c=some o)(fa:vT X c_ H a)(fb:vT X c_ H b)
  (ha:∃o,h'.get? a=some o) (hb:∃o,h'.get? b=some o):Inv X c_ σ H {s with heap:=h',toks:=t'}:=by
 obtain⟨a0,a1,a2,a3,a4,a5⟩:=fa
 obtain⟨b0,b1,b2,b3,b4,b5⟩:=fb
 have na:∀c u,H c=some u→c≠a:=fun c u e z=>by rw[z,a0] at e;cases e
 have nb:∀c u,H c=some u→c≠b:=fun c u e z=>by rw[z,b0] at e;cases e
 have out:∀c,c∉[a,b]→c≠a∧c≠b:=fun c hc=>⟨fun z=>hc (by simp[z]),fun z=>hc (by simp[z])⟩
 refine I.step (g':=s.gens) (d':=s.drawn) (ch:=[a,b]) (fun c hc=>?_) (fun c o _ _ hc e _=>k c o (out c hc).1 (out c hc).2 e) (fun c o _ _ hc e _=>⟨o.slots,k c o (out c hc).1 (out c hc).2 e⟩) (fun _ _ _ _ n=>n)
  (fun c o hc e=>⟨o,k c o (out c hc).1 (out c hc).2 e⟩) (fun _ _ e=>e) (fun _ _ _ e=>e) (fun c ps e=>⟨#[],by rw[e];simp⟩) (fun m hm=>?_) (fun c u e=>?_) I.bare
 ·rcases aag.mp hc with z|z
  ·rw[z];exact⟨a3,a1,a4,a5⟩
  ·rw[Yc.mp z];exact⟨b3,b1,b4,b5⟩
 ·obtain⟨o,es,ep,ho,r⟩:=hm
  exact⟨o,es,ep,k _ o (abT a1) (abT b1) ho,r⟩
 ·refine(I.iL c u e).yq (fun d v hd q=>k d v ?_ ?_ q) (fun _ q=>q) fun _ _ q=>q
  ·rcases hd with z|z
   ·rw[z];exact na c u e
   ·exact na d _ z
  ·rcases hd with z|z
   ·rw[z];exact nb c u e
   ·exact nb d _ z
end
def TX(t:TT):TT:=fun σ H Q=>∃M:Bool→Hp→Prop,t σ H M∧∀b H',M b H'→Q b H'
theorem L5{X:Cx}{e:Expr}{t:TT}(h:PT X e t):PT X e (TX t):=fun c_ s σ H Q I ⟨M,h1,h2⟩=>i7 (h c_ s σ H M I h1) fun b s' ⟨H',I',q⟩=>⟨H',I',h2 b H' q⟩
noncomputable def TY(K:Qqy)(a:Addr):It:=
 ⟨fun i H=>∃xs x,gK K H a xs∧xs[i]?=some x,fun i H x H'=>∃t y,H t=none∧x=.ref t∧H'=upd H t (.tup [.int i,y])∧∀xs,gK K H a xs→xs[i]?=some y,fun i H=>∃xs,gK K H a xs∧xs.length≤i⟩
theorem Kf{P:Program}{w:World}{K:Qqy}{elts:List Expr}{x1}{pos:Pos}(a e it:Addr)(tm:e≠it):Turn P w K (.Tuple elts x1 pos) (TY K a) [e,it] e (fun i h=>(∃old,IsEnum h e it ((i:Nat):Int) old)∧h.IsListIter it a i) where
 mem:=by simp
 obj:=fun i h ⟨⟨old,KU⟩,C_⟩ b hb=>by
  rcases aag.mp hb with z|z
  ·subst z;exact⟨_,KU,fun v z=>by have z':Data.fields _=Data.cell v:=z;cases z'⟩
  ·rw[Yc.mp z]
   obtain⟨o,ho,c,d⟩:=C_
   exact⟨o,ho,fun v z=>by rw[d] at z;cases z⟩
 keep:=fun i h h' ⟨⟨old,KU⟩,C_⟩ k=>⟨⟨old,k e (by simp) _ KU⟩,C_.at fun o ho=>k it (by simp) o ho⟩
 item:=by
  intro X hP hw hK hc i c_ s σ H E I hf ⟨⟨old,KU⟩,C_⟩ hg
  subst hP hw hK
  obtain⟨xs,x,hq,hx⟩:=hg
  obtain⟨ic,rv,p,hz⟩:=I.list hq
  obtain⟨u,hu,ru⟩:=rv.get hx
  have fe:=hf e (by simp)
  have fi:=hf it (by simp)
  have YX:e<s.heap.objs.size:=aaD KU
  refine wpAny_pyNext_enum_item KU C_ p.isList (x:=u) (by simpa using hu) tm fun h₁ MM YY ht₁ hz₁ hk₁=>?_
  refine⟨_,rfl,?_⟩
  refine wpAny_letOwnedTupleGo_enum MM fun h₂ he₂ U6=>?_
  replace U6:Heap.SameBut e h₁ h₂:=U6
  have ht₂:h₂.get? s.heap.objs.size=some {cls:=.type "tuple",data:=.seq #[.int i s.toks,u]}:=(U6.2 _ (Nat.ne_of_gt YX)).trans ht₁
  have U7:h₂.IsListIter it a (i+1):=YY.extBut U6.extBut (abT tm)
  have UY:H s.heap.objs.size=none:=I.iL.fresh (aab _)
  have rT:Vals [.int i,x] [.int i s.toks,u]:=.cons ⟨s.toks,rfl⟩ (.cons ru .nil)
  have I1:Inv X c_ σ (upd H s.heap.objs.size (.tup [.int i,x])) {s with heap:=s.heap.push {cls:=.type "tuple",data:=.seq #[.int i s.toks,u]},toks:=s.toks}:=
   I.laid (t':=s.toks) (fun b u e=>aao _ e) (aab _) ⟨L2.jc,_,rT,⟨_,aaI _ rfl,rfl,_,rfl⟩⟩
  have up:∀b,vT X c_ H b→b<s.heap.objs.size→vT X c_ (upd H s.heap.objs.size (.tup [.int i,x])) b:=fun b f hb=>by
   obtain⟨f0,r⟩:=f
   exact⟨by rw[e_ (aa1 hb)];exact f0,r⟩
  have SN:it<s.heap.objs.size:=by obtain⟨o,ho,_⟩:=id C_;exact aaD ho
  obtain⟨oi,WI,_⟩:=id U7
  have I2:=I1.NX (h':=h₂) (t':=s.toks+1) (a:=e) (b:=it) (fun c o h1 h2 hc=>?_) (up e fe YX) (up it fi SN) ⟨_,he₂⟩ ⟨oi,WI⟩
  ·refine⟨.ref s.heap.objs.size,_,I2,rfl,⟨_,x,UY,rfl,rfl,fun ys hy=>by rw[I.qF hy hq];exact hx⟩,⟨⟨u,?_⟩,U7⟩,fun b hb=>?_⟩
   ·have:((i+1:Nat):Int)=(i:Int)+1:=by push_cast;rfl
    rw[this];exact he₂
   ·rcases aag.mp hb with z|z
    ·subst z;exact(up _ fe YX).1
    ·rw[Yc.mp z];exact(up it fi SN).1
  ·by_cases hcs:c=s.heap.objs.size
   ·subst hcs
    have:(s.heap.push {cls:=.type "tuple",data:=.seq #[.int i s.toks,u]}).get? s.heap.objs.size=some {cls:=.type "tuple",data:=.seq #[.int i s.toks,u]}:=aaI _ rfl
    rw[this] at hc;cases hc
    exact ht₂
   ·have D1:s.heap.get? c=some o:=(Heap.get?_push_cases hc).elim (fun z=>absurd z.1 hcs) id
    exact(U6.2 c h1).trans (hk₁ c o h1 h2 D1)
 done:=by
  intro X hP hw hK hc i c_ s σ H E I hf ⟨⟨old,KU⟩,C_⟩ hg
  subst hP hw hK
  obtain⟨xs,hq,hx⟩:=hg
  obtain⟨ic,rv,p,hz⟩:=I.list hq
  obtain⟨f0,f1,f2,f3,f4,f5⟩:=hf it (by simp)
  have hl:=rv.length
  exact wpAny_pyNext_enum_end (I.ok.hd hc) KU C_ p.isList (Array.getElem?_eq_none (by simp;omega)) fun h' eb=>⟨rfl,I.turned (t':=s.toks) (fun b o hb e=>eb b o hb e) f0 f1 f3 f4 f5⟩
 self:=fun _ _ _ _ _ ⟨⟨old,KU⟩,C_⟩ h=>wpAny_pyIter_enum KU h
def TZ(K:Qqy)(ta:TA):TI:=fun σ H R=>ta σ H fun vs H1=>∃a,vs=[.ref a]∧(∃xs,gK K H1 a xs)∧R (TY K a) H1
section
variable{X:Cx}
theorem NY{a:Expr}{ta:TA}{p pos:Pos}{elts:List Expr}{x1}{RH:Pos}(hg:Gl X "enumerate")(hm:X.mg "enumerate"=none)(ha:PA X [a] ta)(hs:starEach [a] X.env=[(false,eval a X.env)]:=by rfl):PI X (.Tuple elts x1 RH) (.Call (.Name "enumerate" p) [a] [] pos) (TZ X.K ta):=by
 intro c_ s σ H R I h
 refine Call_ (qo I hg hm Ke (aa7 (i7 (ha pos c_ s σ H _ I h) fun us s1 ⟨vs,H1,I1,r1,q1⟩=>?_) hs rfl))
 obtain⟨l,rfl,⟨xs,hq⟩,q⟩:=q1
 obtain⟨u,rfl,ru⟩:=vals1 r1
 cases (show u=Value.ref l from ru)
 obtain⟨ic,rv,pp,hz⟩:=I1.list hq
 refine call_enumerate_list pp.isList fun h' he hit hsz hk=>?_
 have I2:Inv X c_ σ H1 {s1 with heap:=h'}:=I1.kept (t':=s1.toks) hk
 refine wpAny_pyIter_enum he ?_
 refine⟨s1.heap.objs.size+1,[s1.heap.objs.size+1,s1.heap.objs.size],_,_,H1,rfl,I2,Kf l (s1.heap.objs.size+1) s1.heap.objs.size (Nat.succ_ne_self _),⟨⟨_,he⟩,hit⟩,fun b hb=>?_,q⟩
 rcases aag.mp hb with z|z
 ·subst z;exact I1.A2 (by omega) (I1.iL.fresh (by omega))
 ·rw[Yc.mp z];exact I1.A2 (aab _) (I1.iL.fresh (aab _))
theorem L6{K:PySem.W.Frag}{a:Addr}{xs:List V}{g:TG}{tb:TS}{D:Ends}{σ:St}{H:Hp}(Pv:Nat→St→Hp→Prop)(h0:Pv 0 σ H)(hl:∀i σ H,i≤xs.length→Pv i σ H→gK K H a xs)
  (hs:∀i x t σ H,xs[i]?=some x→Pv i σ H→H t=none→g (.ref t) σ (upd H t (.tup [.int i,x])) fun σ2 H2=>tb {D with nx:=Pv (i+1),ct:=Pv (i+1),bk:=D.nx} σ2 H2) (hd:∀σ H,Pv xs.length σ H→D.nx σ H) :
  ∃W:Nat→Nat→St→Hp→Prop,(∃m,W 0 m σ H)∧∀i m σ H,W i m σ H→
   ((TY K a).stop i H∧D.nx σ H)∨((TY K a).go i H∧∃N:St→Hp→Prop,(∀σ' H',N σ' H'→∃m',m'<m∧W (i+1) m' σ' H')∧∀x H',(TY K a).Le i H x H'→g x σ H' fun σ2 H2=>tb {D with nx:=N,ct:=N,bk:=D.nx} σ2 H2):=by
 refine⟨fun i m σ H=>m=xs.length-i∧i≤xs.length∧Pv i σ H,⟨xs.length,by simp,aaU _,h0⟩,?_⟩
 rintro i m σ H ⟨rfl,hi,p⟩
 have q:=hl i σ H hi p
 by_cases my:i<xs.length
 ·refine .inr ⟨⟨xs,xs[i],q,Y0 my⟩,Pv (i+1),fun σ' H' p'=>⟨xs.length-(i+1),by omega,rfl,my,p'⟩,fun x H' y=>?_⟩
  obtain⟨t,z,ht,rfl,rfl,y⟩:=y
  exact hs i z t σ _ (y xs q) p ht
 ·have e:i=xs.length:=by omega
  subst e
  exact .inl ⟨⟨xs,q,aab _⟩,hd σ H p⟩
end
structure DF(K:Qqy)(mg:Qqx)(x:Str)(st:Stmt)(a:Addr)(d:FuncData)(ps:List Str):Prop where
 f:w_ K x x st a d
 b:Binds K d ps []
 m:mg x=some (.ref a)
structure DM(K:Qqy)(C:Addr)(x q:Str)(st:Stmt)(a:Addr)(d:FuncData)(ps:List Str):Prop where
 f:w_ K x q st a d
 b:Binds K d ps []
 t:Meth K C x a
def FI(K:Qqy)(x:Str)(st:Stmt)(f:Addr):Prop:=W.nsIn K mainGlobals x=some (some (.ref f))∧∃d,w_ K x x st f d
def MI(K:Qqy)(C:Addr)(x q:Str)(st:Stmt)(f:Addr):Prop:=Meth K C x f∧∃d,w_ K x q st f d
section
variable{K:Qqy}{x q:Str}{st:Stmt}{f C:Addr}{oc kV doc pm jh ct:Value}{od an:Option Addr}{KQ:Array (Option Value)}
theorem T1(a:W.nsIn K mainGlobals x=some (some (.ref f)))(l:K.lookup f=some ⟨oc,od,.func (W.fnOf x x (pR st) (lC st) (gc st) .none kV doc pm an jh ct),KQ⟩)(c:W.codeIn K jh x=true)(k:W.keepIn K (.ref f)=true):FI K x st f:=⟨a,_,Lx l c k⟩
theorem T3(a:W.findIn K (.ref C) x=some (some (.ref f)))(i:W.isFn K (.ref f)=true)(l:K.lookup f=some ⟨oc,od,.func (W.fnOf x q (pR st) (lC st) (gc st) .none kV doc pm an jh ct),KQ⟩)(c:W.codeIn K jh q=true)(k:W.keepIn K (.ref f)=true):MI K C x q st f:=⟨⟨a,i,k⟩,_,Lx l c k⟩
end
theorem L7{X:Cx}{st:Stmt}{t:TS}(h:PS X st t):PS X st (fun D σ H=>∃d o u,H d=some (.oO o u)∧Bl X d∧t D σ (upd H d u)):=fun c_ s σ H D I ⟨d,o,u,hd,nf,q⟩=>h c_ s σ _ D (I.yD hd nf) q
noncomputable def scT(N P:List Str)(sc:Scope):Bool:=decide (sc.kind=.function)&&!sc.isCoroutine&&!sc.isGenerator&&decide N.Nodup&&decide (N.take P.length=P)&&P.all (fun x=>decide (sc.names.lookup x=some .local)||decide (sc.names.lookup x=some .cell))&&sc.names.all (fun y=>decide (y.2≠.free))
theorem nG{N P:List Str}{sc:Scope}(h:scT N P sc=true:=by decide+kernel):gA N P sc:=by
 unfold scT at h
 simp only [abc,ab7,Bool.not_eq_true',abL,acn] at h
 obtain⟨⟨⟨⟨⟨⟨a,b⟩,c⟩,d⟩,e⟩,f⟩,g⟩:=h
 exact⟨a,b,c,d,e,f,g⟩
section
variable{X:Cx}{x q m:Str}{st:Stmt}{f C:Addr}{fd:FuncData}{ps:List Str}{sp:Sp}{k j:Nat}{e o:Expr}{es:List Expr}{t:TA}{ta:TE}{p pos apos:Pos}{E:XK}
theorem pJ(D:DF X.K X.mg x st f fd ps)(F:ip X.prog X.w X.K X.mg X.base nu k f fd ps sp)(hr:kT j X.A)(ha:PA X (e::es) t)(hk:k≤j:=by decide)(hg:Gl X x:=by rfl)(Ff:(x ==("__debug__":Str))=false:=by decide)(he:starEach (e::es) X.env=(false,eval e X.env)::starEach es X.env:=by rfl)(ql:(backTo pos (starEach es X.env)).any (·.1)=false:=by rfl):PE X (.Call (.Name x p) (e::es) [] pos) (IW sp [] E0 t):=xg F (hr.mono hk) hg D.m D.f.kp D.b .nil nF ha Ff he ql
theorem Ya(b:Bx X E)(D:DF X.K X.mg x st f fd ps)(F:ip X.prog X.w X.K X.mg X.base (tE X.prog X.w) k f fd ps sp)(hr:kT j X.A)(ha:PA X (e::es) t)(hk:k≤j:=by decide)(hg:Gl X x:=by rfl)(Ff:(x ==("__debug__":Str))=false:=by decide)(he:starEach (e::es) X.env=(false,eval e X.env)::starEach es X.env:=by rfl)(ql:(backTo pos (starEach es X.env)).any (·.1)=false:=by rfl):PE X (.Call (.Name x p) (e::es) [] pos) (IW sp [] E t):=xg F (hr.mono hk) hg D.m D.f.kp D.b .nil (Pe b) ha Ff he ql
theorem zw{pl:Sem Bool}(h:PE X o ta)(c:FU X.K C)(D:DM X.K C m q st f fd ps)(F:ip X.prog X.w X.K X.mg X.base nu k f fd ps sp)(hr:kT j X.A)(ha:PA X (e::es) t)(hk:k≤j:=by decide)(yp:starEach (e::es) X.env=(false,eval e X.env)::starEach es X.env:=by rfl)(ql:(backTo pos (starEach es X.env)).any (·.1)=false:=by rfl)
 (ht:eval (.Call (.Attribute o m apos) (e::es) [] pos) X.env=(do
  let ov ←eval o X.env
  standAt apos.atName
  let (f,first) ←holding [ov] (getMethod ov m pl)
  callWith pos f first (backTo pos (starEach (e::es) X.env)) (backToKw pos (keywordEach [] X.env))):=by rfl):PE X (.Call (.Attribute o m apos) (e::es) [] pos) (FW C m sp [] E0 ta t):=IX h c D.t F (hr.mono hk) D.b .nil nF ha yp ql ht
theorem CL(b:Bx X E){pl:Sem Bool}(h:PE X o ta)(c:FU X.K C)(D:DM X.K C m q st f fd ps)(F:ip X.prog X.w X.K X.mg X.base (tE X.prog X.w) k f fd ps sp)(hr:kT j X.A)(ha:PA X (e::es) t)(hk:k≤j:=by decide)(yp:starEach (e::es) X.env=(false,eval e X.env)::starEach es X.env:=by rfl)(ql:(backTo pos (starEach es X.env)).any (·.1)=false:=by rfl)
 (ht:eval (.Call (.Attribute o m apos) (e::es) [] pos) X.env=(do
  let ov ←eval o X.env
  standAt apos.atName
  let (f,first) ←holding [ov] (getMethod ov m pl)
  callWith pos f first (backTo pos (starEach (e::es) X.env)) (backToKw pos (keywordEach [] X.env))):=by rfl):PE X (.Call (.Attribute o m apos) (e::es) [] pos) (FW C m sp [] E ta t):=IX h c D.t F (hr.mono hk) D.b .nil (Pe b) ha yp ql ht
end
section
variable{P:Program}{w:World}{K:Qqy}{mg:Qqx}{base:Heap}
theorem w_.rh{x qual:Str}{st:Stmt}{f:Addr}{fd:FuncData}{N ps:List Str}{k:Nat}{sp:Sp}(F:w_ K x qual st f fd)(S:gA N ps (gc st))(rg:∀(jh:Value)(A:Around)(outer:List Env)(s:Shared)(H:Hp)(vs:List V)(Q:VK)(E:XK),kT k (A.deeper (envOfC qual (gc st) s.heap.objs.size f jh))→sp vs H Q E→∃t,Dj (vW nu P w K mg base N qual (gc st) f jh A outer s H E).Tg (lC st) t∧t {nx:=fun _ H'=>Q .js H',rt:=Q} (start N vs) H)(len:∀vs H Q E,sp vs H Q E→vs.length=ps.length:=by intro _ _ _ _ h;repeat (first|(obtain⟨rfl,_⟩:=h;rfl)|obtain⟨_,h⟩:=h)):ip P w K mg base nu (k+1) f fd ps sp:=F.ok S len rg
theorem w_.rH{x qual:Str}{st:Stmt}{f:Addr}{fd:FuncData}{N ps:List Str}{k:Nat}{sp:Sp}(F:w_ K x qual st f fd)(S:gA N ps (gc st))(rg:∀(jh:Value)(A:Around)(outer:List Env)(s:Shared)(H:Hp)(vs:List V)(Q:VK)(E:XK),kT k (A.deeper (envOfC qual (gc st) s.heap.objs.size f jh))→sp vs H Q E→∃t,Dj (vW (tE P w) P w K mg base N qual (gc st) f jh A outer s H E) (lC st) t∧t {nx:=fun _ H'=>Q .js H',rt:=Q} (start N vs) H)(len:∀vs H Q E,sp vs H Q E→vs.length=ps.length:=by intro _ _ _ _ h;repeat (first|(obtain⟨rfl,_⟩:=h;rfl)|obtain⟨_,h⟩:=h)):ip P w K mg base (tE P w) (k+1) f fd ps sp:=F.ok1 S len rg
theorem w_.Yb{x qual:Str}{st:Stmt}{f:Addr}{fd:FuncData}{N ps:List Str}{k:Nat}{sp:Sp}(F:w_ K x qual st f fd)(S:gA N ps (gc st))(rg:∀(jh:Value)(A:Around)(outer:List Env)(s:Shared)(H:Hp)(vs:List V)(Q:VK)(E:XK),Gk k (A.deeper (envOfC qual (gc st) s.heap.objs.size f jh))→sp vs H Q E→∃t,Dj (Ji P w K mg base N qual (gc st) f jh A outer s H) (lC st) t∧t {nx:=fun _ H'=>Q .js H',rt:=Q} (start N vs) H)(len:∀vs H Q E,sp vs H Q E→vs.length=ps.length:=by intro _ _ _ _ h;repeat (first|(obtain⟨rfl,_⟩:=h;rfl)|obtain⟨_,h⟩:=h)):Jh P w K mg base (k+1) f fd ps sp:=F.okH S len rg
end
section
variable{X:Cx}{pos:Pos}
theorem lB(i:Nat){x:Str}{e:Expr}{te:TE}{pos':Pos}{N ps:List Str}{sc:Scope}(S:gA N ps sc)(he:PE X e te)(hN:X.N=N:=by rfl)(hi:X.N[i]?=some x:=by rfl)(hx:X.env.scope.names.lookup x=some .local:=by rfl)(hs:swapsWith e (some (.Name x pos')) pos.line X.env=pure false:=by rfl):PS X (.Assign [.Name x pos'] e pos) (Ld te (nE i)):=mD (hN▸S.nd) hi (.inl hx) he hs (.inr hx)
theorem vZ(i:Nat){x:Str}{N ps:List Str}{sc:Scope}(S:gA N ps sc)(hN:X.N=N:=by rfl)(hi:X.N[i]?=some x:=by rfl)(hx:X.env.scope.names.lookup x=some .local:=by rfl):PG X (.Name x pos) (nE i):=iy (hN▸S.nd) hi (.inl hx) (.inr hx)
end
section
variable{K:Qqy}
theorem w_.bd{x qual:Str}{st:Stmt}{f:Addr}{fd:FuncData}{ps:List Str}(F:w_ K x qual st f fd)(h:∀(kV doc pm:Value)(an:Option Addr)(jh ct:Value)(us:List Value),us.length=ps.length→bindArgs (W.fnOf x qual (pR st) (lC st) (gc st) .none kV doc pm an jh ct) ⟨us,[]⟩=pure (ps.zip us):=by intro _ _ _ _ _ _ us hl;(repeat (rcases us with _|⟨_,us⟩<;>first|(simp at hl;done)|skip));rfl):Binds K fd ps []:=F.binds h
end
section
variable{X:Cx}{a b:Expr}{ta tb:TE}{pos:Pos}{k:Nat}
theorem uX(ha:PE X a ta)(hb:PE X b tb)(hs:I_ b:=by exact fun _ _=>rfl):PE X (.Subscript a b pos) (Ts (TB X.K) ta tb):=l0 lQ ha hb hs
theorem v_(hr:kT k X.A)(ha:PE X a ta)(hb:PE X b tb)(hs:Qr b:=by exact fun _ _=>rfl):PE X (.Subscript a b pos) (Pc ta tb):=NK (iO hr) ha hb hs
theorem zx(h:PE X a ta)(e:ta=tb:=by(try simp only [kW]);rfl):∃t,PE X a t∧t=tb:=⟨_,h,e⟩
end
end L2
namespace K01
section
variable{α:Type}[DecidableEq α]
def lcs:List α→List α→Nat
 | [],_=>0
 | _::_,[]=>0
 | a::as,b::bs=>if b=a then lcs as bs+1 else max (lcs as (b::bs)) (lcs (a::as) bs)
termination_by x y=>x.length+y.length
def pd(x y:List α)(n:Nat):Prop:=(∀s:List α,s.Sublist x→s.Sublist y→s.length≤n)∧∃s:List α,s.Sublist x∧s.Sublist y∧s.length=n
theorem pd.uniq{x y:List α}{n m:Nat}(h:pd x y n)(g:pd x y m):n=m:=by
 obtain⟨h1,s,a,b,e⟩:=h
 obtain⟨g1,t,c,d,f⟩:=g
 have:=g1 s a b
 have:=h1 t c d
 omega
theorem pd.Gu(y:List α):pd [] y 0:=⟨fun s a _=>by have:=a.length_le;simpa using this,[],aaM _,List.nil_sublist _,rfl⟩
theorem pd.DJ(x:List α):pd x [] 0:=⟨fun s _ b=>by have:=b.length_le;simpa using this,[],List.nil_sublist _,aaM _,rfl⟩
theorem mK{s as:List α}{a:α}(h:s.Sublist (a::as)):s.Sublist as∨∃t,s=a::t∧t.Sublist as:=by
 cases h with
 | cons _ h=>exact .inl h
 | cons_cons _ h=>exact .inr ⟨_,rfl,h⟩
theorem pd.eq{as bs:List α}{a:α}{n:Nat}(h:pd as bs n):pd (a::as) (a::bs) (n+1):=by
 obtain⟨h1,s,x,y,e⟩:=h
 refine⟨fun t c d=>?_,a::s,x.cons_cons a,y.cons_cons a,by rw[aal,e]⟩
 rcases mK c with c2|⟨u,e2,c2⟩
 ·rcases mK d with d2|⟨v,e3,d2⟩
  ·have:=h1 t c2 d2;omega
  ·subst e3
   have:=h1 v ((abB a v).trans c2) d2
   rw[aal];omega
 ·have d':u.Sublist bs:=by
   subst e2
   rcases mK d with d2|⟨v,e',d2⟩
   ·exact(abB a u).trans d2
   ·cases e';exact d2
  have:=h1 u c2 d'
  subst e2
  rw[aal];omega
theorem pd.ne{as bs:List α}{a b:α}{n m:Nat}(JJ:a≠b)(h:pd as (b::bs) n)(g:pd (a::as) bs m):pd (a::as) (b::bs) (max n m):=by
 obtain⟨h1,s,x,y,e⟩:=h
 obtain⟨g1,s',x',y',e'⟩:=g
 refine⟨fun t c d=>?_,?_⟩
 ·rcases mK c with c'|⟨u,rfl,_⟩
  ·have:=h1 t c' d;omega
  ·rcases mK d with d'|⟨v,e,_⟩
   ·have:=g1 _ c d';omega
   ·cases e;exact absurd rfl JJ
 ·by_cases SO:m≤n
  ·exact⟨s,x.cons a,y,by omega⟩
  ·exact⟨s',x',y'.cons b,by omega⟩
theorem kX:∀x y:List α,pd x y (lcs x y)
 | [],y=>by rw[lcs];exact .Gu y
 | a::as,[]=>by rw[lcs];exact .DJ _
 | a::as,b::bs=>by
  rw[lcs]
  by_cases h:b=a
  ·rw[aax h];subst h;exact(kX as bs).eq
  ·rw[aau h];exact .ne (fun e=>h e.symm) (kX as (b::bs)) (kX (a::as) bs)
termination_by x y=>x.length+y.length
theorem NZ(x:List α):lcs x []=0:=(kX x []).uniq (.DJ x)
theorem Jk(y:List α):lcs [] y=0:=(kX [] y).uniq (.Gu y)
theorem Bu{x x' y y':List α}(h:x.Sublist x')(g:y.Sublist y'):lcs x y≤lcs x' y':=by
 obtain⟨_,s,a,b,e⟩:=kX x y
 rw[←e]
 exact(kX x' y').1 s (a.trans h) (b.trans g)
theorem Gv(x y:List α):lcs x y≤x.length:=by
 obtain⟨_,s,a,b,e⟩:=kX x y
 rw[←e];exact a.length_le
def jj(a:α)(new:List α)(j:Nat):Option Nat:=((new.drop j).findIdx? (·=a)).map (j+·)
def qL(new:List α):Nat→List α→Nat→List (Nat×Nat)
 | _,[],_=>[]
 | i,a::as,j=>match jj a new j with
  | none=>qL new (i+1) as j
  | some k=>if lcs as (new.drop (k+1))+1=lcs (a::as) (new.drop j) then(i,k)::qL new (i+1) as (k+1) else qL new (i+1) as j
def kept(old new:List α):List (Nat×Nat):=qL new 0 old 0
theorem lH{a:α}{new:List α}{j k:Nat}(h:jj a new j=some k):j≤k∧new[k]?=some a∧∀l,j≤l→l<k→new[l]?≠some a:=by
 unfold jj at h
 cases e:(new.drop j).findIdx? (·=a) with
 | none=>rw[e] at h;cases h
 | some d=>
  rw[e] at h
  have h:j+d=k:=aaJ h
  subst h
  obtain⟨hd,h1,h2⟩:=List.findIdx?_eq_some_iff_getElem.mp e
  have h1:(new.drop j)[d]=a:=by simpa using h1
  refine⟨Nat.le_add_right _ _,?_,fun l hl hk q=>?_⟩
  ·rw[←acg,Y0 hd,h1]
  ·have:=h2 (l-j) (by omega)
   have hq:(new.drop j)[l-j]?=some a:=by rw[acg,show j+(l-j)=l by omega];exact q
   obtain⟨hh,he⟩:=Vb.mp hq
   simp[he] at this
theorem pe{a:α}{new:List α}{j:Nat}(h:jj a new j=none):∀l,j≤l→new[l]?≠some a:=by
 unfold jj at h
 cases e:(new.drop j).findIdx? (·=a) with
 | some d=>rw[e] at h;cases h
 | none=>
  intro l hl q
  have hq:(new.drop j)[l-j]?=some a:=by rw[acg,show j+(l-j)=l by omega];exact q
  have:=List.findIdx?_eq_none_iff.mp e a (Yd hq)
  simp at this
theorem L8{a:α}{as y:List α}(h:a∉y):lcs (a::as) y=lcs as y:=by
 refine(kX (a::as) y).uniq ⟨fun s c d=>?_,?_⟩
 ·rcases mK c with c|⟨t,rfl,c⟩
  ·exact(kX as y).1 s c d
  ·exact absurd (d.subset aaz) h
 ·obtain⟨_,s,c,d,e⟩:=kX as y
  exact⟨s,c.cons a,d,e⟩
theorem rJ{new:List α}{k:Nat}{a:α}(h:new[k]?=some a):new.drop k=a::new.drop (k+1):=by
 obtain⟨hk,e⟩:=Vb.mp h
 rw[aaX hk,e]
theorem Bv{new:List α}{j k:Nat}(h:j≤k):(new.drop k).Sublist (new.drop j):=by
 have:new.drop k=(new.drop j).drop (k-j):=by rw[List.drop_drop];congr 1;omega
 rw[this];exact List.drop_sublist _ _
theorem Eo{a:α}{as new:List α}{j l:Nat}(hl:j≤l)(h:new[l]?=some a):lcs as (new.drop (l+1))+1≤lcs (a::as) (new.drop j):=by
 have:lcs (a::as) (new.drop l)≤lcs (a::as) (new.drop j):=Bu (aaM _) (Bv hl)
 rw[rJ h,lcs,aax rfl] at this
 exact this
theorem Bw{a:α}{as new:List α}{j k:Nat}(h:jj a new j=some k)(tm:lcs as (new.drop (k+1))+1≠lcs (a::as) (new.drop j)):lcs (a::as) (new.drop j)=lcs as (new.drop j):=by
 obtain⟨U9,hk,OR⟩:=lH h
 have h1:=Eo (as:=as) U9 hk
 have h2:lcs as (new.drop j)≤lcs (a::as) (new.drop j):=Bu (abB a as) (aaM _)
 obtain⟨hs,s,c,d,e⟩:=kX (a::as) (new.drop j)
 rcases mK c with c2|⟨t,es,c2⟩
 ·have:=(kX as (new.drop j)).1 s c2 d;omega
 ·exfalso
  subst es
  have key:∀(n:Nat)(j:Nat),k-j=n→j≤k→(∀l,j≤l→l<k→new[l]?≠some a)→(a::t).Sublist (new.drop j)→t.Sublist (new.drop (k+1)):=by
   intro n
   induction n with
   | zero=>
    intro j e1 e2 _ d
    have:j=k:=by omega
    subst this
    rw[rJ hk] at d
    rcases mK d with d|⟨u,e,d⟩
    ·exact(abB a t).trans d
    ·cases e;exact d
   | succ n ih=>
    intro j e1 e2 hm d
    have hj:j<new.length:=by
     have:=(Vb.mp hk).1;omega
    rw[aaX hj] at d
    rcases mK d with d|⟨u,e,_⟩
    ·exact ih (j+1) (by omega) (by omega) (fun l hl=>hm l (by omega)) d
    ·exfalso
     have e0:a=new[j]:=(List.cons.inj e).1
     exact hm j (aab _) (by omega) (by rw[Y0 hj,←e0])
  have ht:=key _ j rfl U9 OR d
  have:=(kX as (new.drop (k+1))).1 t c2 ht
  rw[aal] at e
  omega
theorem Kg{a:α}{as new:List α}{j:Nat}(h:jj a new j=none):lcs (a::as) (new.drop j)=lcs as (new.drop j):=by
 refine L8 fun m=>?_
 obtain⟨l,hl⟩:=aaT.mp m
 rw[acg] at hl
 exact pe h (j+l) (Nat.le_add_right _ _) hl
theorem mL(new:List α):∀(old:List α)(i j:Nat),(qL new i old j).length=lcs old (new.drop j)
 | [],i,j=>by rw[qL,Jk];rfl
 | a::as,i,j=>by
  unfold qL
  cases h:jj a new j with
  | none=>simp only;rw[mL new as,Kg h]
  | some k=>
   simp only
   by_cases hc:lcs as (new.drop (k+1))+1=lcs (a::as) (new.drop j)
   ·rw[aax hc,aal,mL new as];exact hc
   ·rw[aau hc,mL new as,Bw h hc]
inductive Good(old new:List α):Nat→Nat→List (Nat×Nat)→Prop
 | nil (i j):Good old new i j []
 | cons {i j p q r} (h1:i≤p) (h2:j≤q) (a:α) (e1:old[p]?=some a) (e2:new[q]?=some a)
  (h3:∀l m,i≤l→l≤p→j≤m→(l<p∨m<q)→∀b,old[l]?=some b→new[m]?=some b→¬r.length≤lcs (old.drop (l+1)) (new.drop (m+1)))
  (t:Good old new (p+1) (q+1) r):Good old new i j ((p,q)::r)
theorem Good.back{old new:List α}{i j:Nat}{a:α}{r:List (Nat×Nat)}(ha:old[i]?=some a)(hl:r.length=lcs (old.drop (i+1)) (new.drop j))(hn:∀m,j≤m→new[m]?=some a→lcs (old.drop (i+1)) (new.drop (m+1))+1≠r.length∧lcs (old.drop (i+1)) (new.drop (m+1))+1≤r.length)
  (h:Good old new (i+1) j r):Good old new i j r:=by
 cases h with
 | nil=>exact .nil _ _
 | @cons _ _ p q r h1 h2 b e1 e2 h3 t=>
  refine .cons (by omega) h2 b e1 e2 (fun l m RT Hv hm my c c1 c2 hle=>?_) t
  by_cases e:l=i
  ·subst e
   rw[ha] at c1
   cases c1
   have z:=hn m hm c2
   rw[aal] at z
   omega
  ·exact h3 l m (by omega) Hv hm my c c1 c2 hle
theorem rK{old new:List α}:∀(rest:List α)(i j:Nat),old.drop i=rest→Good old new i j (qL new i rest j)
 | [],i,j,_=>by rw[qL];exact .nil _ _
 | a::as,i,j,e=>by
  have ha:old[i]?=some a:=by
   have:(old.drop i)[0]?=some a:=by rw[e];rfl
   rwa [acg,Nat.add_zero] at this
  have e':old.drop (i+1)=as:=by
   have:=rJ ha;rw[e] at this;exact(List.cons.inj this).2.symm
  have L:=mL new as (i+1) j
  unfold qL
  cases h:jj a new j with
  | none=>
   simp only
   refine Good.back ha (by rw[L,e']) (fun m hm q=>absurd q (pe h m hm)) (rK as (i+1) j e')
  | some k=>
   obtain⟨U9,hk,OR⟩:=lH h
   simp only
   by_cases hc:lcs as (new.drop (k+1))+1=lcs (a::as) (new.drop j)
   ·rw[aax hc]
    refine .cons (aab _) U9 a ha hk (fun l m RT Hv hm my b c1 c2 _=>?_) (rK as (i+1) (k+1) e')
    have:l=i:=by omega
    subst this
    rw[ha] at c1
    cases c1
    exact OR m hm (by omega) c2
   ·rw[aau hc]
    have S:=Bw h hc
    refine Good.back ha (by rw[L,e']) (fun m hm q=>?_) (rK as (i+1) j e')
    rw[L,e',←S]
    have h1:=Eo (as:=as) hm q
    refine⟨fun z=>?_,h1⟩
    have hkm:k≤m:=by
     rcases Nat.lt_or_ge m k with z'|z'
     ·exact absurd q (OR m hm z')
     ·exact z'
    have h2:lcs as (new.drop (m+1))≤lcs as (new.drop (k+1)):=Bu (aaM _) (Bv (by omega))
    have h3:=Eo (as:=as) U9 hk
    omega
theorem Kh(old new:List α):Good old new 0 0 (kept old new):=rK old 0 0 rfl
theorem zy(old new:List α):(kept old new).length=lcs old new:=mL new old 0 0
def pre(old new:List α)(i k:Nat):Nat:=lcs (old.take i) (new.take k)
noncomputable def yH(old new:List α)(i j:Nat):Nat:=lcs (old.drop i) (new.drop j)
theorem AN{old new:List α}{i j:Nat}(h:old.length≤i∨new.length≤j):yH old new i j=0:=by
 unfold yH
 rcases h with h|h
 ·rw[List.drop_eq_nil_of_le h,Jk]
 ·rw[List.drop_eq_nil_of_le h,NZ]
theorem N0{old new:List α}{i j:Nat}{a b:α}(ha:old[i]?=some a)(hb:new[j]?=some b) :
  yH old new i j=if b=a then yH old new (i+1) (j+1)+1 else max (yH old new (i+1) j) (yH old new i (j+1)):=by
 unfold yH
 rw[rJ ha,rJ hb,lcs,←rJ ha,←rJ hb]
end
end K01
namespace PM
open PySem
abbrev Nm:=Str×Nat
structure Ln where
 nm:Nm
 tx:Str
 up:Option Nm
 lo:Option Nm
 deriving DecidableEq
structure Pt where
 nm:Str
 file:Option Str
 iJ:List Ln
 kR:List Nm
 other:Option Str
 deriving DecidableEq
noncomputable def sS:List Pt→List Str→List Pt
 | [],_=>[]
 | p::r,t=>if p.nm∈t then sS r t else p::sS r (match p.other with|some o=>o::t|none=>t)
noncomputable def live(ps:List Pt):List Pt:=(sS ps.reverse []).reverse
noncomputable def h_(ps:List Pt)(f:Str):List Ln:=(ps.filter fun p=>p.file=some f).flatMap (·.iJ)
noncomputable def gone(ps:List Pt):List Nm:=ps.flatMap (·.kR)
noncomputable def pf(ps:List Pt)(f:Str):List Ln:=(h_ (live ps) f).filter fun l=>l.nm∉gone (live ps)
theorem yI:∀(ps:List Pt)(t:List Str),(sS ps t).Sublist ps
 | [],_=>aaM _
 | p::r,t=>by
  unfold sS
  split
  ·exact(yI r t).cons p
  ·exact(yI r _).cons_cons p
theorem Gw(ps:List Pt):(live ps).Sublist ps:=by
 have:=(yI ps.reverse []).reverse
 rwa [List.reverse_reverse] at this
theorem Ep{ps qs:List Pt}(h:ps.Sublist qs)(f:Str):(h_ ps f).Sublist (h_ qs f):=by
 unfold h_
 have h:=h.filter (fun p=>decide (p.file=some f))
 generalize ps.filter _=a at h
 generalize qs.filter _=b at h
 induction h with
 | slnil=>exact aaM _
 | cons x _ ih=>rw[aaN];exact ih.trans (aa_ _ _)
 | cons_cons x _ ih=>rw[aaN,aaN];exact(aaM _).append ih
theorem mO(ps:List Pt)(f:Str):(pf ps f).Sublist (h_ ps f):=
 aa0.trans (Ep (Gw ps) f)
def Sa(ls:List Ln)(m n:Nm):Prop:=∃l∈ls,(l.nm=n∧l.up=some m)∨(l.nm=m∧l.lo=some n)
inductive Ah(ls:List Ln):Nm→Nm→Prop
 | one {m n}:Sa ls m n→Ah ls m n
 | Wm {m k n}:Ah ls m k→Sa ls k n→Ah ls m n
theorem Ah.last{ls:List Ln}{m n:Nm}:Ah ls m n↔Sa ls m n∨∃k,Ah ls m k∧Sa ls k n:=by
 constructor
 ·intro h
  cases h with
  | one x=>exact .inl x
  | Wm a x=>exact .inr ⟨_,a,x⟩
 ·rintro(x|⟨k,a,x⟩)
  ·exact .one x
  ·exact .Wm a x
def Rk(ls:List Ln)(rk:Nm→Nat):Prop:=∀l∈ls,(∀m,l.up=some m→rk m<rk l.nm)∧(∀m,l.lo=some m→rk l.nm<rk m)
def L9(ls:List Ln):Prop:=∃rk,Rk ls rk
theorem Rk.sa{ls:List Ln}{rk:Nm→Nat}(r:Rk ls rk){m n:Nm}(h:Sa ls m n):rk m<rk n:=by
 obtain⟨l,hl,⟨rfl,e⟩|⟨rfl,e⟩⟩:=h
 ·exact(r l hl).1 m e
 ·exact(r l hl).2 n e
theorem Rk.ah{ls:List Ln}{rk:Nm→Nat}(r:Rk ls rk){m n:Nm}(h:Ah ls m n):rk m<rk n:=by
 induction h with
 | one x=>exact r.sa x
 | Wm _ x ih=>exact Nat.lt_trans ih (r.sa x)
def rL(ls:List Ln):Prop:=∀l∈ls,(∀m,l.up=some m→m∈ls.map (·.nm))∧(∀m,l.lo=some m→m∈ls.map (·.nm))
theorem rL.sa{ls:List Ln}(c:rL ls){m n:Nm}(h:Sa ls m n):m∈ls.map (·.nm)∧n∈ls.map (·.nm):=by
 obtain⟨l,hl,⟨rfl,e⟩|⟨rfl,e⟩⟩:=h
 ·exact⟨(c l hl).1 m e,aai hl⟩
 ·exact⟨aai hl,(c l hl).2 n e⟩
theorem rL.ah{ls:List Ln}(c:rL ls){m n:Nm}(h:Ah ls m n):m∈ls.map (·.nm)∧n∈ls.map (·.nm):=by
 induction h with
 | one x=>exact c.sa x
 | Wm _ x ih=>exact⟨ih.1,(c.sa x).2⟩
section
open Classical
variable(lt:Nm→Nm→Prop)
noncomputable def free(ls:List Ln)(l:Ln):Bool:=decide (∀o∈ls,¬lt o.nm l.nm)
noncomputable def vC:Nat→List Ln→List Ln
 | 0,_=>[]
 | n+1,ls=>match ls.find? (free lt ls) with
  | none=>[]
  | some l=>l::vC n (ls.filter fun o=>o.nm≠l.nm)
noncomputable def rowOf(ls:List Ln):List Ln:=vC lt ls.length ls
def ltAt(row:List Ln)(i j:Nat):Prop:=∃a b,row[i]?=some a∧row[j]?=some b∧lt a.nm b.nm
noncomputable def l6(row:List Ln):List (Nat×Nat):=
 (List.range row.length).flatMap fun i=>((List.range' (i+1) (row.length-(i+1))).filter fun j=>decide (¬ltAt lt row i j)).map fun j=>(i,j)
variable{lt}
theorem zz{rk:Nm→Nat}(hr:∀m n,lt m n→rk m<rk n):∀(ls:List Ln),ls≠[]→∃l,ls.find? (free lt ls)=some l:=by
 intro ls hn
 have least:∀(xs:List Ln),xs≠[]→∃l∈xs,∀o∈xs,rk l.nm≤rk o.nm:=by
  intro xs
  induction xs with
  | nil=>intro h;exact absurd rfl h
  | cons x r ih=>
   intro _
   by_cases h:r=[]
   ·subst h;exact⟨x,by simp,fun o ho=>by simp at ho;rw[ho];exact aab _⟩
   ·obtain⟨l,hl,hm⟩:=ih h
    by_cases hx:rk x.nm≤rk l.nm
    ·refine⟨x,by simp,fun o ho=>?_⟩
     rcases aag.mp ho with rfl|ho
     ·exact aab _
     ·exact aah hx (hm o ho)
    ·refine⟨l,aap _ hl,fun o ho=>?_⟩
     rcases aag.mp ho with rfl|ho
     ·omega
     ·exact hm o ho
 obtain⟨l,hl,hm⟩:=least ls hn
 have hf:free lt ls l=true:=XZ fun o ho my=>by have:=hr _ _ my;have:=hm o ho;omega
 cases e:ls.find? (free lt ls) with
 | some x=>exact⟨x,rfl⟩
 | none=>exact absurd hf (by have:=List.find?_eq_none.mp e l hl;simpa using this)
theorem qM{ls:List Ln}(nd:(ls.map (·.nm)).Nodup){l:Ln}(hl:l∈ls):(ls.filter fun o=>o.nm≠l.nm).length+1=ls.length:=by
 induction ls with
 | nil=>cases hl
 | cons x r ih=>
  rw[aaB,aaY] at nd
  rcases aag.mp hl with rfl|hl
  ·have e:r.filter (fun o=>decide (o.nm≠l.nm))=r:=List.filter_eq_self.mpr fun o ho=>XZ fun z=>nd.1 (z▸aai ho)
   rw[aaj (by simp),e,aal]
  ·have hx:x.nm≠l.nm:=fun z=>nd.1 (z▸aai hl)
   rw[aae (by simpa using hx),aal,aal,ih nd.2 hl]
theorem Ao{ls:List Ln}(nd:(ls.map (·.nm)).Nodup)(p:Ln→Bool):((ls.filter p).map (·.nm)).Nodup:=(aa0.map _).nodup nd
theorem By{rk:Nm→Nat}(hr:∀m n,lt m n→rk m<rk n):∀(n:Nat)(ls:List Ln),n=ls.length→(ls.map (·.nm)).Nodup→(vC lt n ls).Perm ls
 | 0,ls,e,_=>by
  have:ls=[]:=aaV.mp e.symm
  subst this;exact List.Perm.refl _
 | n+1,ls,e,nd=>by
  have hn:ls≠[]:=fun z=>by subst z;cases e
  obtain⟨l,hf⟩:=zz hr ls hn
  have hl:l∈ls:=List.mem_of_find?_eq_some hf
  unfold vC
  rw[hf]
  have hlen:=qM nd hl
  have ih:=By hr n (ls.filter fun o=>o.nm≠l.nm) (by omega) (Ao nd _)
  refine(ih.cons l).trans ?_
  clear ih hf hlen e hn
  induction ls with
  | nil=>cases hl
  | cons x r ih=>
   rw[aaB,aaY] at nd
   rcases aag.mp hl with rfl|hl
   ·have e:r.filter (fun o=>decide (o.nm≠l.nm))=r:=List.filter_eq_self.mpr fun o ho=>XZ fun z=>nd.1 (z▸aai ho)
    rw[aaj (by simp),e]
   ·have hx:x.nm≠l.nm:=fun z=>nd.1 (z▸aai hl)
    rw[aae (by simpa using hx)]
    exact(List.Perm.swap _ _ _).trans ((ih nd.2 hl).cons x)
theorem Ia{rk:Nm→Nat}(hr:∀m n,lt m n→rk m<rk n){ls:List Ln}(nd:(ls.map (·.nm)).Nodup):(rowOf lt ls).Perm ls:=By hr _ ls rfl nd
end
noncomputable def Gx(sf:Nm→List Nm)(S:List Nm)(x:Nm):List Nm:=(sf x).filter fun y=>y∉S
inductive Run(sf:Nm→List Nm)(B:Nat):Nat→List Nm→List Nm→Prop
 | nil {S}:Run sf B 0 [] S
 | skip {n x st S}:x∈S→(x::st).length≤B→Run sf B n st S→Run sf B (n+1) (x::st) S
 | fin {n x st S}:x∉S→Gx sf S x=[]→(x::st).length≤B→Run sf B n st (S++[x])→Run sf B (n+1) (x::st) S
 | push {n x st S}:x∉S→Gx sf S x≠[]→(x::st).length≤B→Run sf B n ((Gx sf S x).reverse++x::st) S→Run sf B (n+1) (x::st) S
theorem Er{sf:Nm→List Nm}{S:List Nm}{x:Nm}:Gx sf S x=[]↔∀y∈sf x,y∈S:=by
 unfold Gx
 rw[abV]
 exact⟨fun h y hy=>by simpa using h y hy,fun h y hy=>by simpa using h y hy⟩
theorem N1{sf:Nm→List Nm}{B N:Nat}(cr:Nm→Nat)(hN:∀x,(sf x).length≤N)(hc:∀x y,y∈sf x→cr y<cr x):∀(k:Nat)(x:Nm),cr x≤k→∀(st S:List Nm),st.length+1+N*cr x≤B→
  (∀S',(∀y∈S,y∈S')→x∈S'→∃n,Run sf B n st S')→∃n,Run sf B n (x::st) S:=by
 intro k
 induction k with
 | zero=>
  intro x hx st S hB go
  by_cases hm:x∈S
  ·obtain⟨n,r⟩:=go S (fun _ h=>h) hm
   exact⟨n+1,.skip hm (by rw[aal];omega) r⟩
  ·have e:Gx sf S x=[]:=Er.mpr fun y hy=>by have:=hc x y hy;omega
   obtain⟨n,r⟩:=go (S++[x]) (fun _ h=>aaC _ h) (by simp)
   exact⟨n+1,.fin hm e (by rw[aal];omega) r⟩
 | succ k ih=>
  intro x hx st S hB go
  have hlen:(x::st).length≤B:=by rw[aal];omega
  by_cases hm:x∈S
  ·obtain⟨n,r⟩:=go S (fun _ h=>h) hm
   exact⟨n+1,.skip hm hlen r⟩
  ·by_cases e:Gx sf S x=[]
   ·obtain⟨n,r⟩:=go (S++[x]) (fun _ h=>aaC _ h) (by simp)
    exact⟨n+1,.fin hm e hlen r⟩
   ·
    have many:∀(ms:List Nm)(S0:List Nm),(∀y∈ms,y∈sf x)→ms.length≤N→(∀S',(∀y∈S0,y∈S')→(∀y∈ms,y∈S')→∃n,Run sf B n (x::st) S')→∃n,Run sf B n (ms++x::st) S0:=by
     intro ms
     induction ms with
     | nil=>intro S0 _ _ h;exact h S0 (fun _ z=>z) (fun y hy=>by cases hy)
     | cons m r ihm=>
      intro S0 hs hl h
      have SQ:=hc x m (hs m aaz)
      rw[aal] at hl
      refine ih m (by omega) (r++x::st) S0 ?_ fun S1 h1 YU=>ihm S1 (fun y hy=>hs y (aap _ hy)) (by omega) fun S2 h2 h3=>h S2 (fun y hy=>h2 y (h1 y hy)) fun y hy=>?_
      ·rw[Y5,aal]
       have:N*cr m+N≤N*cr x:=by rw[←Nat.mul_succ];exact Nat.mul_le_mul_left N SQ
       omega
      ·rcases aag.mp hy with z|z
       ·rw[z];exact h2 m YU
       ·exact h3 y z
    have AA:(Gx sf S x).length≤N:=aah (aaH _ _) (hN x)
    have cont:∀S',(∀y∈S,y∈S')→(∀y∈(Gx sf S x).reverse,y∈S')→∃n,Run sf B n (x::st) S':=fun S' h1 h2=>by
     by_cases RU:x∈S'
     ·obtain⟨n,r⟩:=go S' h1 RU
      exact⟨n+1,.skip RU hlen r⟩
     ·have e':Gx sf S' x=[]:=Er.mpr fun y hy=>by
       by_cases Ww:y∈S
       ·exact h1 y Ww
       ·exact h2 y (List.mem_reverse.mpr (aat.mpr ⟨hy,by simpa using Ww⟩))
      obtain⟨n,r⟩:=go (S'++[x]) (fun y hy=>aaC _ (h1 y hy)) (by simp)
      exact⟨n+1,.fin RU e' hlen r⟩
    obtain⟨n,r⟩:=many (Gx sf S x).reverse S (fun y hy=>(aat.mp (List.mem_reverse.mp hy)).1) (by rw[abt];exact AA) cont
    exact⟨n+1,.push hm e hlen r⟩
noncomputable def SA(ls:List Ln)(rk:Nm→Nat)(n:Nm):Nat:=(ls.filter fun l=>rk l.nm<rk n).length
theorem QP(ls:List Ln)(rk:Nm→Nat)(n:Nm):SA ls rk n≤ls.length:=aaH _ _
theorem QQ{ls:List Ln}{rk:Nm→Nat}{m n:Nm}(hm:m∈ls.map (·.nm))(h:rk m<rk n):SA ls rk m<SA ls rk n:=by
 unfold SA
 have mono:∀{a b:Ln→Bool} {xs:List Ln},(∀x∈xs,a x=true→b x=true)→(xs.filter a).length≤(xs.filter b).length:=by
  intro a b xs JJ
  induction xs with
  | nil=>exact aab _
  | cons x r ih=>
   have ih:=ih fun y hy=>JJ y (aap _ hy)
   by_cases ha:a x=true
   ·rw[aae ha,aae (JJ x aaz ha),aal,aal];omega
   ·rw[aaj ha]
    by_cases hb:b x=true
    ·rw[aae hb,aal];omega
    ·rw[aaj hb];exact ih
 obtain⟨l,hl,rfl⟩:=aaO.mp hm
 obtain⟨a,b,rfl⟩:=List.append_of_mem hl
 rw[aaQ,aaQ,Y5,Y5]
 rw[aaj (by simp),aae (by simpa using h),aal]
 have h1:=mono (a:=fun x:Ln=>decide (rk x.nm<rk l.nm)) (b:=fun x=>decide (rk x.nm<rk n)) (xs:=a) fun x _ hx=>by simp at hx ⊢;omega
 have h2:=mono (a:=fun x:Ln=>decide (rk x.nm<rk l.nm)) (b:=fun x=>decide (rk x.nm<rk n)) (xs:=b) fun x _ hx=>by simp at hx ⊢;omega
 omega
theorem len_sub{xs ys:List Nm}(nd:xs.Nodup)(h:∀x∈xs,x∈ys):xs.length≤ys.length:=by
 induction xs generalizing ys with
 | nil=>exact aaU _
 | cons a r ih=>
  rw[aaY] at nd
  obtain⟨p,q,rfl⟩:=List.append_of_mem (h a aaz)
  have:=ih (ys:=p++q) nd.2 fun z hz=>by
   have:=h z (aap _ hz)
   rcases aaf.mp this with w|w
   ·exact aaC _ w
   ·rcases aag.mp w with w|w
    ·exact absurd (w▸hz) nd.1
    ·exact aaS _ w
  rw[Y5] at this
  rw[aal,Y5,aal]
  omega
theorem L_{ls:List Ln}(cl:rL ls)(tp:L9 ls){sf:Nm→List Nm}(hs:∀n,(sf n).Nodup∧∀m,m∈sf n↔Sa ls m n)(x:Nm)(S:List Nm):∃n,Run sf (1+ls.length*ls.length) n [x] S:=by
 obtain⟨rk,hr⟩:=tp
 have YZ:∀n,(sf n).length≤ls.length:=fun n=>by
  have:=len_sub (ys:=ls.map (·.nm)) (hs n).1 fun y hy=>(cl.sa (((hs n).2 y).mp hy)).1
  rw[U8] at this
  exact this
 refine N1 (N:=ls.length) (SA ls rk) YZ (fun x y hy=>?_) _ x (aab _) [] S ?_ fun S' _ _=>⟨0,.nil⟩
 ·have h:=((hs x).2 y).mp hy
  exact QQ (cl.sa h).1 (hr.sa h)
 ·have:=Nat.mul_le_mul_left ls.length (QP ls rk x)
  show 0+1+ls.length*SA ls rk x≤1+ls.length*ls.length
  omega
def Ki(n m:Nat)(qs:List (Nat×Nat)):Prop:=qs.Pairwise (fun a b=>a.1<b.1∧a.2<b.2)∧∀q∈qs,q.1<n∧q.2<m
theorem Kj{α:Type}[DecidableEq α]{old new:List α}{i j:Nat}{qs:List (Nat×Nat)}(g:K01.Good old new i j qs):Ki old.length new.length qs∧∀q∈qs,i≤q.1∧j≤q.2:=by
 induction g with
 | nil=>exact⟨⟨List.Pairwise.nil,fun q hq=>by cases hq⟩,fun q hq=>by cases hq⟩
 | @cons i j p q r h1 h2 a e1 e2 h3 t ih=>
  obtain⟨⟨h4,h5⟩,h6⟩:=ih
  refine⟨⟨List.Pairwise.cons (fun b hb=>?_) h4,fun b hb=>?_⟩,fun b hb=>?_⟩
  ·have:=h6 b hb
   exact⟨by show p<b.1;omega,by show q<b.2;omega⟩
  ·rcases aag.mp hb with rfl|hb
   ·exact⟨(Vb.mp e1).1,(Vb.mp e2).1⟩
   ·exact h5 b hb
  ·rcases aag.mp hb with rfl|hb
   ·exact⟨h1,h2⟩
   ·have:=h6 b hb
    omega
theorem uY{α:Type}[DecidableEq α](old new:List α):Ki old.length new.length (K01.kept old new):=(Kj (K01.Kh old new)).1
noncomputable def oC(row:List Ln):List (Nat×Nat)→Nat→Option Nm
 | [],_=>none
 | q::r,s=>if q.2=s then(row[q.1]?).map (·.nm) else oC row r s
noncomputable def wa(row:List Ln)(qs:List (Nat×Nat)):List Nm:=qs.filterMap fun q=>(row[q.1]?).map (·.nm)
theorem Es{row:List Ln}{qs:List (Nat×Nat)}{s:Nat}{m:Nm}(h:oC row qs s=some m):∃q∈qs,q.2=s∧∃l,row[q.1]?=some l∧l.nm=m:=by
 induction qs with
 | nil=>cases h
 | cons q r ih=>
  unfold oC at h
  by_cases e:q.2=s
  ·rw[aax e] at h
   obtain⟨l,hl,e2⟩:=aaL.mp h
   exact⟨q,aaz,e,l,hl,e2⟩
  ·rw[aau e] at h
   obtain⟨q',hq,z⟩:=ih h
   exact⟨q',aap _ hq,z⟩
theorem Et{row:List Ln}{m:Nat}:∀{qs:List (Nat×Nat)},Ki row.length m qs→∀s,(oC row qs s).isSome=decide (s∈qs.map (·.2))
 | [],_,s=>rfl
 | q::r,h,s=>by
  have hr:Ki row.length m r:=⟨(List.pairwise_cons.mp h.1).2,fun x hx=>h.2 x (aap _ hx)⟩
  unfold oC
  by_cases e:q.2=s
  ·rw[aax e,Y0 (h.2 q aaz).1,XZ (by rw[aaB,e];exact aaz)];rfl
  ·rw[aau e,Et hr s,aaB]
   by_cases z:s∈r.map (·.2)
   ·rw[XZ z,XZ (aap _ z)]
   ·rw[aac z,aac (fun w=>(aag.mp w).elim (fun w=>e w.symm) z)]
theorem N3{row:List Ln}{qs:List (Nat×Nat)}{m:Nat}{rk:Nm→Nat}(h:Ki row.length m qs)(hr:row.Pairwise fun a b=>rk a.nm<rk b.nm){s t:Nat}{a b:Nm}(hs:oC row qs s=some a)(ht:oC row qs t=some b)(yp:s<t):rk a<rk b:=by
 obtain⟨q1,h1,e1,l1,r1,rfl⟩:=Es hs
 obtain⟨q2,h2,e2,l2,r2,rfl⟩:=Es ht
 have my:q1.1<q2.1:=by
  obtain⟨i,hi,ei⟩:=List.mem_iff_getElem.mp h1
  obtain⟨j,hj,ej⟩:=List.mem_iff_getElem.mp h2
  have hp:=ab1.mp h.1
  rcases Nat.lt_trichotomy i j with z|z|z
  ·have:=hp i j hi hj z;rw[ei,ej] at this;exact this.1
  ·subst z;rw[ei] at ej;subst ej;omega
  ·have:=hp j i hj hi z;rw[ei,ej] at this;omega
 obtain⟨g1,w1⟩:=Vb.mp r1
 obtain⟨g2,w2⟩:=Vb.mp r2
 have:=ab1.mp hr _ _ g1 g2 my
 rw[w1,w2] at this
 exact this
noncomputable def N4(kn:Nat→Option Nm):Nat→Nat→Option Nm
 | 0,_=>none
 | k+1,i=>match kn (i+1) with|some m=>some m|none=>N4 kn k (i+1)
noncomputable def vj(p:Str)(kn:Nat→Option Nm):Nat→Nat→Option Nm→List Str→List Ln
 | _,_,_,[]=>[]
 | i,j,u,t::r=>match kn i with
  | some m=>vj p kn (i+1) j (some m) r
  | none=>⟨(p,j),t,u,N4 kn r.length i⟩::vj p kn (i+1) (j+1) (some (p,j)) r
noncomputable def lI(p:Str)(texts:List Str)(kn:Nat→Option Nm):List Ln:=vj p kn 0 0 none texts
noncomputable def oq(p f:Str)(row:List Ln)(texts:List Str):Pt:=
 ⟨p,some f,lI p texts (oC row (K01.kept (row.map (·.tx)) texts)),(row.filter fun l=>l.nm∉wa row (K01.kept (row.map (·.tx)) texts)).map (·.nm),none⟩
theorem xo(p:Str)(kn:Nat→Option Nm):∀(r:List Str)(i j:Nat)(u:Option Nm),(vj p kn i j u r).map (·.nm)=(List.range' j (vj p kn i j u r).length).map fun k=>(p,k)
 | [],_,_,_=>rfl
 | t::r,i,j,u=>by
  unfold vj
  cases h:kn i with
  | some m=>exact xo p kn r (i+1) j (some m)
  | none=>
   simp only [aaB,aal,acx]
   rw[xo p kn r (i+1) (j+1) (some (p,j))]
theorem Bz(p:Str)(kn:Nat→Option Nm):∀(r:List Str)(i j:Nat)(u:Option Nm),(vj p kn i j u r).length=((List.range' i r.length).filter fun k=>(kn k).isNone).length
 | [],_,_,_=>rfl
 | t::r,i,j,u=>by
  unfold vj
  rw[aal,acx]
  cases h:kn i with
  | some m=>rw[aaj (by simp[h])];exact Bz p kn r (i+1) j (some m)
  | none=>rw[aae (by simp[h]),aal];simp only [aal];rw[Bz p kn r (i+1) (j+1) (some (p,j))]
theorem Eu{kn:Nat→Option Nm}{m:Nm}:∀{k i:Nat},N4 kn k i=some m→∃t,i<t∧t≤i+k∧kn t=some m
 | 0,_,h=>by cases h
 | k+1,i,h=>by
  unfold N4 at h
  cases e:kn (i+1) with
  | some m'=>
   rw[e] at h
   cases h
   exact⟨i+1,by omega,by omega,e⟩
  | none=>
   rw[e] at h
   obtain⟨t,h1,h2,h3⟩:=Eu (k:=k) (i:=i+1) h
   exact⟨t,by omega,by omega,h3⟩
theorem AO{p:Str}{kn:Nat→Option Nm}:∀(r:List Str)(i j:Nat)(u:Option Nm),∀l∈vj p kn i j u r,∀m,l.up=some m∨l.lo=some m→(u=some m∨∃t,kn t=some m)∨m∈(vj p kn i j u r).map (·.nm)
 | [],_,_,_,l,hl,_,_=>by cases hl
 | t::r,i,j,u,l,hl,m,hm=>by
  unfold vj at hl ⊢
  cases h:kn i with
  | some m'=>
   rw[h] at hl
   rcases AO r (i+1) j (some m') l hl m hm with(z|z)|z
   ·exact .inl (.inr ⟨i,by rw[h];exact z⟩)
   ·exact .inl (.inr z)
   ·exact .inr z
  | none=>
   rw[h] at hl
   rcases aag.mp hl with rfl|hl
   ·rcases hm with hm|hm
    ·exact .inl (.inl hm)
    ·obtain⟨t,_,_,e⟩:=Eu hm
     exact .inl (.inr ⟨t,e⟩)
   ·rcases AO r (i+1) (j+1) (some (p,j)) l hl m hm with(z|z)|z
    ·cases z
     exact .inr (by rw[aaB];exact aaz)
    ·exact .inl (.inr z)
    ·exact .inr (aap _ z)
noncomputable def Ma(rk:Nm→Nat)(kn:Nat→Option Nm):Nat→Nat
 | 0=>0
 | i+1=>match kn i with|some m=>rk m+1|none=>Ma rk kn i
noncomputable def Ye(kn:Nat→Option Nm)(n j:Nat):Nat:=(((List.range n).filter fun k=>(kn k).isNone)[j]?).getD 0
noncomputable def Ib(rk:Nm→Nat)(kn:Nat→Option Nm)(p:Str)(n:Nat)(x:Nm):Nat:=if x.1=p then Ma rk kn (Ye kn n x.2)*(n+1)+x.2+1 else(rk x+1)*(n+1)
theorem Mb{rk:Nm→Nat}{kn:Nat→Option Nm}(hk:∀s t a b,kn s=some a→kn t=some b→s<t→rk a<rk b):∀i t b,kn t=some b→i≤t→Ma rk kn i≤rk b
 | 0,_,_,_,_=>aaU _
 | i+1,t,b,h,hi=>by
  unfold Ma
  cases e:kn i with
  | some m=>exact hk i t m b e h (by omega)
  | none=>exact Mb hk i t b h (by omega)
theorem QR{kn:Nat→Option Nm}{n i:Nat}(hi:i<n)(h:kn i=none):Ye kn n ((List.range i).filter fun k=>(kn k).isNone).length=i:=by
 unfold Ye
 have e:List.range n=List.range i++i::List.range' (i+1) (n-(i+1)):=by
  have h1:List.range n=List.range i++(List.range' i (n-i)):=by
   have:=List.range'_append_1 (s:=0) (m:=i) (n:=n-i)
   rw[Nat.zero_add,show i+(n-i)=n by omega] at this
   rw[List.range_eq_range',List.range_eq_range',this]
  rw[h1,show n-i=(n-(i+1))+1 by omega,acx]
 rw[e,aaQ,aae (by simp[h]),abl (aab _),Nat.sub_self]
 rfl
theorem Ew{rk:Nm→Nat}{kn:Nat→Option Nm}{p:Str}{n:Nat}(hk:∀s t a b,kn s=some a→kn t=some b→s<t→rk a<rk b)(hp:∀s a,kn s=some a→a.1≠p) :
  ∀(r:List Str)(i j:Nat)(u:Option Nm),i+r.length=n→j=((List.range i).filter fun k=>(kn k).isNone).length→(∀m,u=some m→Ib rk kn p n m≤Ma rk kn i*(n+1)+j)→
   Rk (vj p kn i j u r) (Ib rk kn p n)
 | [],_,_,_,_,_,_=>fun l hl=>by cases hl
 | t::r,i,j,u,hn,hj,hu=>by
  rw[aal] at hn
  have MS:i<n:=by omega
  have IB:j≤i:=by rw[hj];exact aah (aaH _ _) (by rw[acs];exact aab _)
  have e1:(List.range (i+1)).filter (fun k=>(kn k).isNone)=(List.range i).filter (fun k=>(kn k).isNone)++if(kn i).isNone then[i] else[]:=by
   rw[acq,aaQ]
   congr 1
   cases h:(kn i).isNone<;>simp[h]
  unfold vj
  cases h:kn i with
  | some m=>
   refine Ew hk hp r (i+1) j (some m) (by omega) (by rw[e1,h];simpa using hj) fun m' e=>?_
   cases e
   unfold Ib
   rw[aau (hp i m h),Ma.eq_2,h]
   show(rk m+1)*(n+1)≤(rk m+1)*(n+1)+j
   omega
  | none=>
   have RV:Ib rk kn p n (p,j)=Ma rk kn i*(n+1)+j+1:=by
    unfold Ib
    rw[aax rfl,hj,QR MS h]
   have hb:Ma rk kn (i+1)=Ma rk kn i:=by rw[Ma.eq_2,h]
   intro l hl
   rcases aag.mp hl with rfl|hl
   ·refine⟨fun m hm=>?_,fun m hm=>?_⟩
    ·have:=hu m hm
     show Ib rk kn p n m<Ib rk kn p n (p,j)
     omega
    ·obtain⟨t',ht1,Y1,e⟩:=Eu hm
     show Ib rk kn p n (p,j)<Ib rk kn p n m
     have hle:=Mb hk i t' m e (by omega)
     rw[RV]
     unfold Ib
     rw[aau (hp t' m e)]
     have h1:Ma rk kn i*(n+1)≤rk m*(n+1):=Nat.mul_le_mul_right _ hle
     have h2:(rk m+1)*(n+1)=rk m*(n+1)+(n+1):=Nat.succ_mul _ _
     omega
   ·refine Ew hk hp r (i+1) (j+1) (some (p,j)) (by omega) (by rw[e1,h,hj];simp) (fun m' e=>?_) l hl
    cases e
    rw[RV,hb]
    omega
theorem Mc{rk:Nm→Nat}{kn:Nat→Option Nm}{p:Str}(hk:∀s t a b,kn s=some a→kn t=some b→s<t→rk a<rk b)(hp:∀s a,kn s=some a→a.1≠p)(texts:List Str):Rk (lI p texts kn) (Ib rk kn p texts.length):=
 Ew hk hp texts 0 0 none (by omega) rfl fun m e=>by cases e
theorem Md{rk:Nm→Nat}{kn:Nat→Option Nm}{p:Str}{n:Nat}{ls:List Ln}(r:Rk ls rk)(h:∀l∈ls,l.nm.1≠p∧∀m,l.up=some m∨l.lo=some m→m.1≠p):Rk ls (Ib rk kn p n):=by
 intro l hl
 obtain⟨h1,h2⟩:=h l hl
 have e:∀x:Nm,x.1≠p→Ib rk kn p n x=(rk x+1)*(n+1):=fun x hx=>by unfold Ib;rw[aau hx]
 refine⟨fun m hm=>?_,fun m hm=>?_⟩
 ·rw[e _ h1,e _ (h2 m (.inl hm))]
  exact Nat.mul_lt_mul_of_pos_right (Nat.succ_lt_succ ((r l hl).1 m hm)) (Nat.succ_pos _)
 ·rw[e _ h1,e _ (h2 m (.inr hm))]
  exact Nat.mul_lt_mul_of_pos_right (Nat.succ_lt_succ ((r l hl).2 m hm)) (Nat.succ_pos _)
theorem Gy{xs ys:List Nat}(nd:xs.Nodup)(h:∀x∈xs,x∈ys):xs.length≤ys.length:=by
 have:=len_sub (xs:=xs.map fun k=>((Str.empty,k):Nm)) (ys:=ys.map fun k=>(Str.empty,k)) (List.pairwise_map.mpr (nd.imp fun h z=>h (abb Prod.snd z))) fun x hx=>by
  obtain⟨k,hk,rfl⟩:=aaO.mp hx
  exact aai (h k hk)
 rwa [U8,U8] at this
theorem BA{α:Type}(p:α→Bool):∀xs:List α,(xs.filter p).length+(xs.filter fun x=>!p x).length=xs.length
 | []=>rfl
 | x::r=>by
  have:=BA p r
  cases h:p x<;>simp[h]<;>omega
theorem Jl{row:List Ln}{texts:List Str}{qs:List (Nat×Nat)}(h:Ki row.length texts.length qs)(p:Str):(lI p texts (oC row qs)).length+qs.length=texts.length:=by
 unfold lI
 rw[Bz,←List.range_eq_range']
 have h2:=BA (fun k=>(oC row qs k).isNone) (List.range texts.length)
 rw[acs] at h2
 have h3:((List.range texts.length).filter fun x=>!(oC row qs x).isNone).length=qs.length:=by
  have nd:(qs.map (·.2)).Nodup:=List.pairwise_map.mpr (h.1.imp fun z e=>by omega)
  refine Nat.le_antisymm ?_ ?_
  ·have:=Gy (xs:=(List.range texts.length).filter fun x=>!(oC row qs x).isNone) (ys:=qs.map (·.2)) (List.nodup_range.sublist aa0) fun x hx=>by
    have h4:=(aat.mp hx).2
    have h5:(oC row qs x).isSome=true:=by cases e:oC row qs x<;>simp[e] at h4 ⊢
    rw[Et h] at h5
    exact aaw h5
   rwa [U8] at this
  ·have:=Gy (xs:=qs.map (·.2)) (ys:=(List.range texts.length).filter fun x=>!(oC row qs x).isNone) nd fun x hx=>by
    refine aat.mpr ⟨acu.mpr ?_,?_⟩
    ·obtain⟨q,hq,rfl⟩:=aaO.mp hx
     exact(h.2 q hq).2
    ·have h5:=Et h x
     rw[XZ hx] at h5
     cases e:oC row qs x<;>simp[e] at h5 ⊢
   rwa [U8] at this
 omega
structure Dk where
 made:List Pt
 iq:Str→List Str
 stores:List Str
 held:Str→List Str
noncomputable def named(p:Pt):List Nm:=p.kR++p.iJ.flatMap fun l=>l.up.toList++l.lo.toList
noncomputable def iT(p:Pt):List Str:=((named p).filter fun n=>n.1≠p.nm).map (·.1)++p.other.toList
noncomputable def uZ(nd:Str→List Str)(p:Pt):List Str:=(iT p).flatMap fun y=>y::nd y
namespace Dk
noncomputable def names(D:Dk):List Str:=D.made.map (·.nm)
noncomputable def keep(D:Dk)(s:Str)(p:Pt):Dk:=⟨D.made++[p],fun x=>if x=p.nm then uZ D.iq p else D.iq x,D.stores,fun t=>if t=s then D.held s++[p.nm] else D.held t⟩
noncomputable def begin(D:Dk)(s:Str):Dk:=⟨D.made,D.iq,D.stores++[s],fun t=>if t=s then[] else D.held t⟩
noncomputable def sT(D:Dk)(s:Str):List Pt:=D.made.filter fun p=>p.nm∈D.held s
noncomputable def has(D:Dk)(s:Str):List Str:=D.names.filter fun x=>x∈D.held s
noncomputable def il(D:Dk)(x:Str):List Str:=D.names.filter fun y=>y∈D.iq x
noncomputable def lJ(D:Dk)(s x:Str):List Str:=(D.il x++[x]).filter fun y=>y∉D.held s
noncomputable def take(D:Dk)(s x:Str):Dk:=⟨D.made,D.iq,D.stores,fun t=>if t=s then D.held s++D.lJ s x else D.held t⟩
noncomputable def drop(D:Dk)(s x:Str):Dk:=⟨D.made,D.iq,D.stores,fun t=>if t=s then(D.held s).filter (fun y=>y≠x) else D.held t⟩
noncomputable def row(D:Dk)(s f:Str):List Ln:=rowOf (Ah (h_ (D.sT s) f)) (pf (D.sT s) f)
noncomputable def Gz(D:Dk)(s f:Str):List (Nat×Nat):=l6 (Ah (h_ (D.sT s) f)) (D.row s f)
theorem Jm(D:Dk)(s:Str):D.has s=(D.sT s).map (·.nm):=by
 unfold has sT names
 rw[List.filter_map];rfl
end Dk
structure Inv(D:Dk):Prop where
 nd:D.names.Nodup
 Kk:∀p∈D.made,p.iJ.map (·.nm)=(List.range p.iJ.length).map fun j=>(p.nm,j)
 refs:∀p∈D.made,∀l∈p.iJ,∀m,l.up=some m∨l.lo=some m→∃q∈D.made,q.file=p.file∧m∈q.iJ.map (·.nm)∧(q.nm=p.nm∨q.nm∈D.iq p.nm)
 rank:∃rk,∀p∈D.made,Rk p.iJ rk
 before:∀i p,D.made[i]?=some p→∀x∈D.iq p.nm,x∈(D.made.take i).map (·.nm)
 trans:∀x∈D.names,∀y∈D.iq x,∀z∈D.iq y,z∈D.iq x
 stN:D.stores.Nodup
 l8:∀s∈D.stores,∀x∈D.held s,x∈D.names∧∀y∈D.iq x,y∈D.held s
 xp:∀s∈D.stores,(D.held s).Nodup
theorem tR{p:Pt}(h:p.iJ.map (·.nm)=(List.range p.iJ.length).map fun j=>(p.nm,j)){m:Nm}(hm:m∈p.iJ.map (·.nm)):m.1=p.nm:=by
 rw[h] at hm
 obtain⟨j,_,rfl⟩:=aaO.mp hm
 rfl
theorem Jn{ps:List Pt}(nd:(ps.map (·.nm)).Nodup){p q:Pt}(hp:p∈ps)(hq:q∈ps)(e:p.nm=q.nm):p=q:=by
 induction ps with
 | nil=>cases hp
 | cons x r ih=>
  rw[aaB,aaY] at nd
  rcases aag.mp hp with h1|h1
  ·rcases aag.mp hq with h2|h2
   ·rw[h1,h2]
   ·exact absurd (by rw[←h1,e];exact aai h2) nd.1
  ·rcases aag.mp hq with h2|h2
   ·exact absurd (by rw[←h2,←e];exact aai h1) nd.1
   ·exact ih nd.2 h1 h2
theorem Ic{ps:List Pt}(nd:(ps.map (·.nm)).Nodup)(h:∀p∈ps,p.iJ.map (·.nm)=(List.range p.iJ.length).map fun j=>(p.nm,j)):((ps.flatMap (·.iJ)).map (·.nm)).Nodup:=by
 induction ps with
 | nil=>exact abr
 | cons x r ih=>
  rw[aaB,aaY] at nd
  rw[aaN,aaA,aa6]
  refine⟨?_,ih nd.2 fun p hp=>h p (aap _ hp),fun a ha b hb e=>?_⟩
  ·rw[h x aaz]
   exact List.pairwise_map.mpr (List.nodup_range.imp fun z e=>z (abb Prod.snd e))
  ·have e1:=tR (h x aaz) ha
   obtain⟨l,hl,rfl⟩:=aaO.mp hb
   obtain⟨q,hq,hlq⟩:=abj.mp hl
   have e2:=tR (h q (aap _ hq)) (aai hlq)
   exact nd.1 (by rw[←e1,e,e2];exact aai hq)
theorem mQ{ps:List Pt}{f:Str}{l:Ln}:l∈h_ ps f↔∃p∈ps,p.file=some f∧l∈p.iJ:=by
 unfold h_
 rw[abj]
 constructor
 ·rintro⟨p,hp,hl⟩
  obtain⟨h1,h2⟩:=aat.mp hp
  exact⟨p,h1,aaw h2,hl⟩
 ·rintro⟨p,h1,h2,hl⟩
  exact⟨p,aat.mpr ⟨h1,XZ h2⟩,hl⟩
theorem xq(ps:List Pt)(f:Str):(h_ ps f).Sublist (ps.flatMap (·.iJ)):=by
 unfold h_
 have h:=aa0 (p:=fun p:Pt=>decide (p.file=some f)) (l:=ps)
 generalize ps.filter _=qs at h
 induction h with
 | slnil=>exact aaM _
 | cons x _ ih=>rw[aaN];exact ih.trans (aa_ _ _)
 | cons_cons x _ ih=>rw[aaN,aaN];exact(aaM _).append ih
namespace Inv
variable{D:Dk}
theorem n6{s:Str}{p:Pt}:p∈D.sT s↔p∈D.made∧p.nm∈D.held s:=by
 unfold Dk.sT
 rw[aat,abJ]
theorem AQ(s:Str):(D.sT s).Sublist D.made:=aa0
theorem nodup(I:Inv D)(s f:Str):((h_ (D.sT s) f).map (·.nm)).Nodup:=
 ((xq _ f).map _).nodup (Ic (((AQ s).map _).nodup I.nd) fun p hp=>I.Kk p (AQ s |>.subset hp))
theorem QS(I:Inv D)(s f:Str):((pf (D.sT s) f).map (·.nm)).Nodup:=((mO _ f).map _).nodup (I.nodup s f)
theorem closed(I:Inv D){s:Str}(hs:s∈D.stores)(f:Str):rL (h_ (D.sT s) f):=by
 have key:∀l∈h_ (D.sT s) f,∀m,l.up=some m∨l.lo=some m→m∈(h_ (D.sT s) f).map (·.nm):=fun l hl m hm=>by
  obtain⟨p,hp,hf,hl⟩:=mQ.mp hl
  obtain⟨hp,hh⟩:=n6.mp hp
  obtain⟨q,hq,e,Y2,hn⟩:=I.refs p hp l hl m hm
  obtain⟨l',KY,rfl⟩:=aaO.mp Y2
  refine aai (mQ.mpr ⟨q,n6.mpr ⟨hq,?_⟩,by rw[e];exact hf,KY⟩)
  rcases hn with hn|hn
  ·rw[hn];exact hh
  ·exact(I.l8 s hs _ hh).2 _ hn
 exact fun l hl=>⟨fun m hm=>key l hl m (.inl hm),fun m hm=>key l hl m (.inr hm)⟩
theorem T4(I:Inv D)(s f:Str):L9 (h_ (D.sT s) f):=by
 obtain⟨rk,h⟩:=I.rank
 refine⟨rk,fun l hl=>?_⟩
 obtain⟨p,hp,_,hl⟩:=mQ.mp hl
 exact h p (n6.mp hp).1 l hl
theorem BB(I:Inv D)(s f:Str):(D.row s f).Perm (pf (D.sT s) f):=by
 obtain⟨rk,r⟩:=I.T4 s f
 exact Ia (rk:=rk) (fun m n z=>r.ah z) (I.QS s f)
theorem xr(I:Inv D){s f:Str}{l:Ln}(h:l∈D.row s f):∃p∈D.sT s,p.file=some f∧l∈p.iJ:=
 mQ.mp ((mO _ f).subset ((I.BB s f).subset h))
theorem xt(I:Inv D)(s f:Str):(D.row s f).length≤(D.made.flatMap (·.iJ)).length:=by
 rw[(I.BB s f).length_eq]
 refine aah (mO _ f).length_le (aah (xq _ f).length_le ?_)
 have h:=AQ (D:=D) s
 generalize D.sT s=qs at h
 generalize D.made=ms at h
 clear I
 induction h with
 | slnil=>exact aab _
 | cons x _ ih=>rw[aaN,Y5];omega
 | cons_cons x _ ih=>rw[aaN,aaN,Y5,Y5];omega
open Classical in
theorem chain{lt:Nm→Nm→Prop}{row:List Ln}(hq:l6 lt row=[]):row.Pairwise fun a b=>lt a.nm b.nm:=by
 rw[ab1]
 intro i j hi hj Y3
 by_cases c:ltAt lt row i j
 ·obtain⟨a,b,ha,hb,z⟩:=c
  rw[Y0 hi] at ha
  rw[Y0 hj] at hb
  cases ha;cases hb
  exact z
 ·exfalso
  have:(i,j)∈l6 lt row:=by
   unfold l6
   refine abj.mpr ⟨i,acu.mpr hi,aaO.mpr ⟨j,aat.mpr ⟨List.mem_range'.mpr ⟨j-(i+1),by omega,by omega⟩,XZ c⟩,rfl⟩⟩
  rw[hq] at this
  cases this
theorem keep(I:Inv D){s:Str}{p:Pt}(hs:s∈D.stores)(fresh:p.nm∉D.names)(Kk:p.iJ.map (·.nm)=(List.range p.iJ.length).map fun j=>(p.nm,j))
  (refs:∀l∈p.iJ,∀m,l.up=some m∨l.lo=some m→m∈p.iJ.map (·.nm)∨∃q∈D.sT s,q.file=p.file∧m∈q.iJ.map (·.nm))
  (kR:∀m∈p.kR,∃q∈D.sT s,m∈q.iJ.map (·.nm)) (other:∀o,p.other=some o→o∈D.held s)
  (rank:∃rk,(∀q∈D.made,Rk q.iJ rk)∧Rk p.iJ rk):Inv (D.keep s p):=by
 have tm:∀x∈D.names,x≠p.nm:=fun x hx e=>fresh (e▸hx)
 have SO:∀q∈D.made,q.nm∈D.names:=fun q hq=>aai hq
 have SR:∀x,x≠p.nm→(D.keep s p).iq x=D.iq x:=fun x hx=>aau hx
 have WJ:(D.keep s p).iq p.nm=uZ D.iq p:=aax rfl
 have Y4:∀x∈iT p,x∈D.held s:=fun x hx=>by
  unfold iT at hx
  rcases aaf.mp hx with hx|hx
  ·obtain⟨m,hm,rfl⟩:=aaO.mp hx
   obtain⟨hm,hn⟩:=aat.mp hm
   have hn:m.1≠p.nm:=aaw hn
   have fin:(∃q∈D.sT s,m∈q.iJ.map (·.nm))→m.1∈D.held s:=fun⟨q,hq,Y2⟩=>by
    obtain⟨h1,h2⟩:=n6.mp hq
    rw[tR (I.Kk q h1) Y2];exact h2
   rcases aaf.mp hm with hm|hm
   ·exact fin (kR m hm)
   ·obtain⟨l,hl,hm⟩:=abj.mp hm
    have RU:l.up=some m∨l.lo=some m:=by
     rcases aaf.mp hm with hm|hm
     ·exact .inl (by simpa using hm)
     ·exact .inr (by simpa using hm)
    rcases refs l hl m RU with z|⟨q,hq,_,z⟩
    ·exact absurd (tR Kk z) hn
    ·exact fin ⟨q,hq,z⟩
  ·exact other x (by simpa using hx)
 have nh:∀x∈uZ D.iq p,x∈D.held s:=fun x hx=>by
  obtain⟨y,hy,hx⟩:=abj.mp hx
  rcases aag.mp hx with rfl|hx
  ·exact Y4 _ hy
  ·exact(I.l8 s hs y (Y4 y hy)).2 x hx
 have nn:∀x∈uZ D.iq p,x∈D.names:=fun x hx=>(I.l8 s hs x (nh x hx)).1
 have U_:∀x∈D.names,∀y∈D.iq x,y∈D.names:=fun x hx y hy=>by
  obtain⟨q,hq,rfl⟩:=aaO.mp hx
  obtain⟨i,hi⟩:=aaT.mp hq
  have:=I.before i q hi y hy
  exact(acr i D.made).map _ |>.subset this
 refine⟨?_,fun q hq=>?_,fun q hq l hl m hm=>?_,?_,fun i q hq x hx=>?_,fun x hx y hy z hz=>?_,I.stN,fun t ht x hx=>?_,fun t ht=>?_⟩
 ·show((D.made++[p]).map (·.nm)).Nodup
  rw[aaA,aa6]
  exact⟨I.nd,by simp,fun a ha b hb e=>fresh (by simp at hb;rw[←hb,←e];exact ha)⟩
 ·rcases aaf.mp hq with hq|hq
  ·exact I.Kk q hq
  ·rw[Yc.mp hq];exact Kk
 ·rcases aaf.mp hq with hq|hq
  ·obtain⟨q',h1,h2,h3,h4⟩:=I.refs q hq l hl m hm
   refine⟨q',aaC _ h1,h2,h3,h4.imp id fun z=>?_⟩
   rw[SR _ (tm _ (SO q hq))];exact z
  ·rw[Yc.mp hq] at hl ⊢
   rcases refs l hl m hm with z|⟨q',h1,h2,h3⟩
   ·exact⟨p,by show p∈D.made++[p];simp,rfl,z,.inl rfl⟩
   ·obtain⟨h4,h5⟩:=n6.mp h1
    refine⟨q',aaC _ h4,h2,h3,.inr ?_⟩
    rw[WJ]
    have e:=tR (I.Kk q' h4) h3
    refine abj.mpr ⟨q'.nm,?_,aaz⟩
    unfold iT
    refine aaC _ (aaO.mpr ⟨m,aat.mpr ⟨?_,XZ ?_⟩,e⟩)
    ·unfold named
     refine aaS _ (abj.mpr ⟨l,hl,?_⟩)
     rcases hm with hm|hm
     ·exact aaC _ (by rw[hm];simp)
     ·exact aaS _ (by rw[hm];simp)
    ·rw[e];exact tm _ (SO q' h4)
 ·obtain⟨rk,h1,h2⟩:=rank
  refine⟨rk,fun q hq=>?_⟩
  rcases aaf.mp hq with hq|hq
  ·exact h1 q hq
  ·rw[Yc.mp hq];exact h2
 ·show x∈((D.made++[p]).take i).map (·.nm)
  have hq:(D.made++[p])[i]?=some q:=hq
  by_cases hi:i<D.made.length
  ·rw[ab0 hi] at hq
   rw[List.take_append_of_le_length (by omega)]
   rw[SR _ (tm _ (SO q (Yd hq)))] at hx
   exact I.before i q hq x hx
  ·have hl:=(Vb.mp hq).1
   rw[Y5] at hl
   have hi:i=D.made.length:=by have:[p].length=1:=rfl;omega
   subst hi
   rw[abl (aab _),Nat.sub_self] at hq
   cases hq
   rw[List.take_append_of_le_length (aab _),aam]
   rw[WJ] at hx
   exact nn x hx
 ·have hx:x∈(D.made++[p]).map (·.nm):=hx
  rw[aaA] at hx
  rcases aaf.mp hx with hx|hx
  ·rw[SR _ (tm x hx)] at hy ⊢
   rw[SR _ (tm y (U_ x hx y hy))] at hz
   exact I.trans x hx y hy z hz
  ·have hx:x=p.nm:=by simpa using hx
   rw[hx,WJ] at hy ⊢
   rw[SR _ (tm y (nn y hy))] at hz
   obtain⟨w,hw,hy⟩:=abj.mp hy
   refine abj.mpr ⟨w,hw,aap _ ?_⟩
   rcases aag.mp hy with rfl|hy
   ·exact hz
   ·exact I.trans w (I.l8 s hs w (Y4 w hw)).1 y hy z hz
 ·have old:∀u∈D.stores,∀x∈D.held u,x∈(D.keep s p).names∧∀y∈(D.keep s p).iq x,y∈D.held u:=fun u hu x hx=>by
   obtain⟨h1,h2⟩:=I.l8 u hu x hx
   refine⟨?_,fun y hy=>?_⟩
   ·show x∈(D.made++[p]).map (·.nm)
    rw[aaA];exact aaC _ h1
   ·rw[SR _ (tm x h1)] at hy
    exact h2 y hy
  have hx:x∈(if t=s then D.held s++[p.nm] else D.held t):=hx
  show x∈(D.keep s p).names∧∀y∈(D.keep s p).iq x,y∈(if t=s then D.held s++[p.nm] else D.held t)
  by_cases e:t=s
  ·rw[aax e] at hx ⊢
   rcases aaf.mp hx with hx|hx
   ·obtain⟨h1,h2⟩:=old s hs x hx
    exact⟨h1,fun y hy=>aaC _ (h2 y hy)⟩
   ·have hx:x=p.nm:=by simpa using hx
    rw[hx]
    refine⟨?_,fun y hy=>?_⟩
    ·show p.nm∈(D.made++[p]).map (·.nm)
     simp
    ·rw[WJ] at hy
     exact aaC _ (nh y hy)
  ·rw[aau e] at hx ⊢
   exact old t ht x hx
 ·show(if t=s then D.held s++[p.nm] else D.held t).Nodup
  by_cases e:t=s
  ·rw[aax e,aa6]
   exact⟨I.xp s hs,by simp,fun a ha b hb z=>fresh (by simp at hb;rw[←hb,←z];exact(I.l8 s hs a ha).1)⟩
  ·rw[aau e];exact I.xp t ht
theorem record(I:Inv D){s f x:Str}(hs:s∈D.stores)(fresh:x∉D.names)(hq:D.Gz s f=[])(texts:List Str):Inv (D.keep s (oq x f (D.row s f) texts)):=by
 obtain⟨rk,RV⟩:=I.rank
 have rise:=uY ((D.row s f).map (·.tx)) texts
 rw[U8] at rise
 have Va:∀t m,oC (D.row s f) (K01.kept ((D.row s f).map (·.tx)) texts) t=some m→∃q∈D.sT s,q.file=some f∧m∈q.iJ.map (·.nm):=fun t m h=>by
  obtain⟨q,_,_,l,hl,rfl⟩:=Es h
  obtain⟨p,h1,h2,h3⟩:=I.xr (Yd hl)
  exact⟨p,h1,h2,aai h3⟩
 have own:∀q∈D.made,∀m∈q.iJ.map (·.nm),m.1≠x:=fun q hq m hm e=>fresh (by rw[←e,tR (I.Kk q hq) hm];exact aai hq)
 have ch:(D.row s f).Pairwise fun a b=>rk a.nm<rk b.nm:=by
  have tr:Rk (h_ (D.sT s) f) rk:=fun l hl=>by
   obtain⟨p,hp,_,hl⟩:=mQ.mp hl
   exact RV p (n6.mp hp).1 l hl
  exact(chain hq).imp fun z=>tr.ah z
 refine I.keep hs fresh ?_ (fun l hl m hm=>?_) (fun m hm=>?_) (fun o ho=>by cases ho) ⟨Ib rk (oC (D.row s f) (K01.kept ((D.row s f).map (·.tx)) texts)) x texts.length,fun q hq=>?_,?_⟩
 ·show(lI x texts _).map (·.nm)=(List.range (lI x texts _).length).map fun j=>(x,j)
  unfold lI
  rw[xo,←List.range_eq_range']
 ·rcases AO texts 0 0 none l hl m hm with(z|⟨t,z⟩)|z
  ·cases z
  ·exact .inr (Va t m z)
  ·exact .inl z
 ·obtain⟨l,hl,rfl⟩:=aaO.mp hm
  obtain⟨p,h1,_,h3⟩:=I.xr (aat.mp hl).1
  exact⟨p,h1,aai h3⟩
 ·refine Md (RV q hq) fun l hl=>⟨own q hq _ (aai hl),fun m hm=>?_⟩
  obtain⟨q',h1,_,h3,_⟩:=I.refs q hq l hl m hm
  exact own q' h1 m h3
 ·refine Mc (fun a b c d h1 h2 h3=>N3 rise ch h1 h2 h3) (fun t m h=>?_) texts
  obtain⟨q,h1,_,h3⟩:=Va t m h
  exact own q (n6.mp h1).1 m h3
theorem cut(I:Inv D){s f x:Str}(hs:s∈D.stores)(fresh:x∉D.names){ms:List Nm}(hm:∀m∈ms,m∈(D.row s f).map (·.nm)):Inv (D.keep s ⟨x,some f,[],ms,none⟩):=by
 refine I.keep hs fresh rfl (fun l hl=>by cases hl) (fun m h=>?_) (fun o ho=>by cases ho) ?_
 ·obtain⟨l,hl,rfl⟩:=aaO.mp (hm m h)
  obtain⟨p,h1,_,h3⟩:=I.xr hl
  exact⟨p,h1,aai h3⟩
 ·obtain⟨rk,h⟩:=I.rank
  exact⟨rk,h,fun l hl=>by cases hl⟩
theorem back(I:Inv D){s x o:Str}(hs:s∈D.stores)(fresh:x∉D.names)(ho:o∈D.held s):Inv (D.keep s ⟨x,none,[],[],some o⟩):=by
 refine I.keep hs fresh rfl (fun l hl=>by cases hl) (fun m h=>by cases h) (fun o' h=>by cases h;exact ho) ?_
 obtain⟨rk,h⟩:=I.rank
 exact⟨rk,h,fun l hl=>by cases hl⟩
theorem yJ(I:Inv D){x:Str}(hx:x∈D.names):x∉D.iq x:=fun h=>by
 obtain⟨q,hq,rfl⟩:=aaO.mp hx
 obtain⟨i,hi⟩:=aaT.mp hq
 have h1:=I.before i q hi _ h
 rw[List.map_take] at h1
 obtain⟨j,hj⟩:=aaT.mp h1
 have IB:j<i:=by have:=(Vb.mp hj).1;rw[aay] at this;omega
 rw[abK,aax IB] at hj
 have e3:(D.made.map (·.nm))[i]?=some q.nm:=by rw[aan,hi];rfl
 have:=(abQ (Vb.mp hj).1 I.nd).mp (hj.trans e3.symm)
 omega
theorem AR(I:Inv D){x y:Str}(hx:x∈D.names)(hy:y∈D.iq x):y∈D.names:=by
 obtain⟨q,hq,rfl⟩:=aaO.mp hx
 obtain⟨i,hi⟩:=aaT.mp hq
 exact(acr i D.made).map _ |>.subset (I.before i q hi y hy)
theorem take(I:Inv D){s x:Str}(hs:s∈D.stores)(hx:x∈D.names):Inv (D.take s x):=by
 have cm:∀y∈D.lJ s x,(y=x∨y∈D.iq x)∧y∉D.held s:=fun y hy=>by
  obtain⟨h1,h2⟩:=aat.mp hy
  refine⟨?_,aaw h2⟩
  rcases aaf.mp h1 with h|h
  ·exact .inr (aaw (aat.mp h).2)
  ·exact .inl (by simpa using h)
 have inn:∀y,y=x∨y∈D.iq x→y∈D.held s++D.lJ s x:=fun y hy=>by
  by_cases h:y∈D.held s
  ·exact aaC _ h
  ·refine aaS _ (aat.mpr ⟨?_,XZ h⟩)
   rcases hy with rfl|hy
   ·simp
   ·exact aaC _ (aat.mpr ⟨I.AR hx hy,XZ hy⟩)
 refine⟨I.nd,I.Kk,I.refs,I.rank,I.before,I.trans,I.stN,fun t ht z hz=>?_,fun t ht=>?_⟩
 ·have hz:z∈(if t=s then D.held s++D.lJ s x else D.held t):=hz
  show z∈D.names∧∀y∈D.iq z,y∈(if t=s then D.held s++D.lJ s x else D.held t)
  by_cases e:t=s
  ·rw[aax e] at hz ⊢
   rcases aaf.mp hz with hz|hz
   ·obtain⟨h1,h2⟩:=I.l8 s hs z hz
    exact⟨h1,fun y hy=>aaC _ (h2 y hy)⟩
   ·obtain⟨h1,_⟩:=cm z hz
    rcases h1 with rfl|h1
    ·exact⟨hx,fun y hy=>inn y (.inr hy)⟩
    ·exact⟨I.AR hx h1,fun y hy=>inn y (.inr (I.trans x hx z h1 y hy))⟩
  ·rw[aau e] at hz ⊢
   exact I.l8 t ht z hz
 ·show(if t=s then D.held s++D.lJ s x else D.held t).Nodup
  by_cases e:t=s
  ·rw[aax e,aa6]
   refine⟨I.xp s hs,?_,fun a ha b hb z=>(cm b hb).2 (z▸ha)⟩
   refine ach aa0 ?_
   rw[aa6]
   refine⟨ach aa0 I.nd,by simp,fun a ha b hb z=>?_⟩
   rw[Yc.mp hb] at z
   subst z
   exact I.yJ hx (aaw (aat.mp ha).2)
  ·rw[aau e];exact I.xp t ht
theorem drop(I:Inv D){s x:Str}(hs:s∈D.stores)(hx:∀z∈D.held s,x∉D.iq z):Inv (D.drop s x):=by
 refine⟨I.nd,I.Kk,I.refs,I.rank,I.before,I.trans,I.stN,fun t ht z hz=>?_,fun t ht=>?_⟩
 ·have hz:z∈(if t=s then(D.held s).filter (fun y=>y≠x) else D.held t):=hz
  show z∈D.names∧∀y∈D.iq z,y∈(if t=s then(D.held s).filter (fun y=>y≠x) else D.held t)
  by_cases e:t=s
  ·rw[aax e] at hz ⊢
   have hz:=(aat.mp hz).1
   obtain⟨h1,h2⟩:=I.l8 s hs z hz
   exact⟨h1,fun y hy=>aat.mpr ⟨h2 y hy,XZ fun e=>hx z hz (e▸hy)⟩⟩
  ·rw[aau e] at hz ⊢
   exact I.l8 t ht z hz
 ·show(if t=s then(D.held s).filter (fun y=>y≠x) else D.held t).Nodup
  by_cases e:t=s
  ·rw[aax e];exact ach aa0 (I.xp s hs)
  ·rw[aau e];exact I.xp t ht
theorem begin(I:Inv D){s:Str}(hs:s∉D.stores):Inv (D.begin s):=by
 refine⟨I.nd,I.Kk,I.refs,I.rank,I.before,I.trans,?_,fun t ht z hz=>?_,fun t ht=>?_⟩
 ·show(D.stores++[s]).Nodup
  rw[aa6]
  exact⟨I.stN,by simp,fun a ha b hb e=>hs (by rw[←Yc.mp hb,←e];exact ha)⟩
 ·have hz:z∈(if t=s then[] else D.held t):=hz
  show z∈D.names∧∀y∈D.iq z,y∈(if t=s then[] else D.held t)
  by_cases e:t=s
  ·rw[aax e] at hz;cases hz
  ·rw[aau e] at hz ⊢
   rcases aaf.mp ht with ht|ht
   ·exact I.l8 t ht z hz
   ·exact absurd (Yc.mp ht) e
 ·show(if t=s then[] else D.held t).Nodup
  by_cases e:t=s
  ·rw[aax e];exact abr
  ·rw[aau e]
   rcases aaf.mp ht with ht|ht
   ·exact I.xp t ht
   ·exact absurd (Yc.mp ht) e
theorem DK(I:Inv D){s x:Str}{xs:List Str}(hs:s∈D.stores)(h:D.has s=xs++[x]):∀z∈D.held s,x∉D.iq z:=by
 intro z hz hx
 obtain⟨WK,_⟩:=I.l8 s hs z hz
 obtain⟨q,hq,rfl⟩:=aaO.mp WK
 obtain⟨i,hi⟩:=aaT.mp hq
 have h1:=I.before i q hi x hx
 have e:D.names=(D.made.take i).map (·.nm)++q.nm::(D.made.drop (i+1)).map (·.nm):=by
  have Cd:=(Vb.mp hi).1
  unfold Dk.names
  conv=>lhs;rw[←abw i D.made,aaX Cd,(Vb.mp hi).2]
  rw[aaA,aaB]
 have hn:=I.nd
 rw[e,aa6,aaY] at hn
 unfold Dk.has at h
 rw[e,aaQ,aae (p:=fun y=>decide (y∈D.held s)) (XZ hz)] at h
 have hl:x∈q.nm::((D.made.drop (i+1)).map (·.nm)).filter fun y=>decide (y∈D.held s):=by
  have h2:=abb List.getLast? h
  rw[List.getLast?_append,List.getLast?_append] at h2
  have h3:(q.nm::((D.made.drop (i+1)).map (·.nm)).filter fun y=>decide (y∈D.held s)).getLast?=some x:=by
   cases e4:(q.nm::((D.made.drop (i+1)).map (·.nm)).filter fun y=>decide (y∈D.held s)).getLast? with
   | none=>simp at e4
   | some y=>rw[e4] at h2;simpa using h2
  exact List.mem_of_getLast? h3
 have KY:x∈q.nm::(D.made.drop (i+1)).map (·.nm):=by
  rcases aag.mp hl with z|z
  ·rw[z];exact aaz
  ·exact aap _ (aat.mp z).1
 exact hn.2.2 x h1 x KY rfl
end Inv
end PM
namespace PK
open PySem L2
set_option genInjectivity false
set_option genSizeOf false
set_option genSizeOfSpec false
noncomputable def top(i:Nat):Stmt:=PySem.Challenge.pw_patchkin_k07_taken_and_dropped.main.body.getD i (.Pass ⟨0,0,0,0⟩)
noncomputable section
noncomputable abbrev nL(l:List Str):List Str:=l
abbrev qt:=top 2
abbrev rM:=top 3
abbrev rN:=top 4
abbrev Ie:=top 5
abbrev oE:=inClass (top 17) 0
abbrev nM:=inClass (top 18) 0
abbrev lT:=top 19
abbrev kA:=top 20
abbrev ph:=top 21
abbrev tS:=top 22
abbrev lU:=top 23
abbrev pj:=top 24
abbrev nN:=top 25
abbrev BC:=top 26
abbrev pV:=top 27
abbrev rO:=top 28
abbrev xu:=top 29
abbrev nO:=inClass (top 30) 0
abbrev nP:=inClass (top 30) 1
abbrev lV:=inClass (top 30) 2
abbrev rP:=top 34
abbrev pk:=top 35
abbrev qu:=top 36
abbrev tT:=top 37
abbrev kE:=top 38
abbrev oF:=inClass (top 39) 0
abbrev rQ:=inClass (top 39) 1
abbrev vD:=inClass (top 39) 2
abbrev pq:=inClass (top 39) 3
abbrev rR:=inClass (top 39) 4
abbrev n_:=inClass (top 39) 5
abbrev rS:=inClass (top 39) 6
abbrev tU:=inClass (top 39) 7
abbrev pW:=inClass (top 39) 8
abbrev tV:=inClass (top 39) 9
abbrev oV:=inClass (top 39) 10
abbrev pX:=inClass (top 39) 11
abbrev xv:=inClass (top 39) 12
abbrev rV:=inClass (top 39) 13
abbrev oG:=inClass (top 39) 14
abbrev lD:=inClass (top 39) 16
abbrev oH:=inClass (top 39) 17
abbrev ml:=inClass (top 39) 18
abbrev mR:=inClass (top 39) 19
abbrev mS:=inClass (top 39) 20
abbrev nQ:=inClass (top 39) 21
abbrev tW:=inClass (top 39) 22
abbrev pw:=top 41
abbrev tX:=top 42
abbrev tY:=top 43
abbrev pY:=top 44
abbrev tZ:=top 45
abbrev pZ:=top 46
abbrev ou:=top 47
abbrev nR:=top 48
abbrev rW:=top 49
abbrev rX:=top 50
abbrev rY:=top 51
abbrev pz:=top 52
abbrev j1:=top 53
abbrev j2:=top 54
abbrev rZ:=top 55
abbrev GA:=top 56
abbrev Ap:=nL ["self","name","text","upper_name","lower_name"]
theorem yK:gA Ap ["self","name","text","upper_name","lower_name"] (gc oE):=nG
abbrev yL:=nL ["self","name","file","puts","cuts","other"]
theorem xw:gA yL ["self","name","file","puts","cuts","other"] (gc nM):=nG
abbrev qN:=nL ["patch","names","line","name"]
theorem lE:gA qN ["patch"] (gc lT):=nG
abbrev oP:=nL ["patch","leant","name"]
theorem lK:gA oP ["patch"] (gc kA):=nG
abbrev BD:=nL ["patches","taken_back","live","patch"]
theorem mf:gA BD ["patches"] (gc ph):=nG
abbrev GB:=nL ["patches","file","lines","patch"]
theorem r9:gA GB ["patches","file"] (gc tS):=nG
abbrev qO:=nL ["patches","file","live","gone","patch","name","line"]
theorem jt:gA qO ["patches","file"] (gc lU):=nG
abbrev yM:=nL ["lines","straight","line"]
theorem lF:gA yM ["lines"] (gc nN):=nG
abbrev Me:=nL ["names","ahead","found","name"]
theorem yN:gA Me ["names","ahead"] (gc BC):=nG
abbrev zA:=nL ["lines","straight","ahead","line","climb","name","missing","other"]
theorem j3:gA zA ["lines"] (gc pV):=nG
abbrev Ex:=nL ["waiting","name"]
theorem vE:gA Ex ["waiting"] (gc rO):=nG
abbrev GD:=nL ["lines","ahead","by_name","waiting","line","row","name","other"]
theorem mr:gA GD ["lines","ahead"] (gc xu):=nG
abbrev yO:=nL ["self","patches","file"]
theorem xx:gA yO ["self","patches","file"] (gc nO):=nG
abbrev yP:=nL ["self","first","second"]
theorem xy:gA yP ["self","first","second"] (gc nP):=nG
abbrev vk:=nL ["self","pairs","first","second"]
theorem j4:gA vk ["self"] (gc lV):=nG
abbrev Ey:=nL ["name","sign"]
theorem vF:gA Ey ["name"] (gc rP):=nG
abbrev BE:=nL ["places","size","least","place"]
theorem mi:gA BE ["places","size"] (gc pk):=nG
abbrev CS:=nL ["kept_names","size","behind","place"]
theorem pA:gA CS ["kept_names","size"] (gc qu):=nG
abbrev GF:=nL ["patch","texts","kept_names","behind","lines","upper_name","place","text"]
theorem j5:gA GF ["patch","texts","kept_names"] (gc tT):=nG
abbrev nS:=nL ["patch","file","row","texts","kept_names","left","first","second","cuts","line"]
theorem iU:gA nS ["patch","file","row","texts"] (gc kE):=nG
abbrev Aq:=nL ["self"]
theorem yQ:gA Aq ["self"] (gc oF):=nG
abbrev Ez:=nL ["self","store"]
theorem CT:gA Ez ["self","store"] (gc rQ):=nG
abbrev BF:=nL ["self"]
theorem Ar:gA BF ["self"] (gc pq):=nG
abbrev BG:=nL ["self","store","name"]
theorem zB:gA BG ["self","store"] (gc rR):=nG
abbrev vG:=nL ["self","store","patch","file","texts","sight","line"]
theorem pB:gA vG ["self","store","patch","file","texts"] (gc n_):=nG
abbrev BH:=nL ["self","store","patch","file","places","row","place"]
theorem t9:gA BH ["self","store","patch","file","places"] (gc rS):=nG
abbrev GG:=nL ["self","store","patch","other"]
theorem EA:gA GG ["self","store","patch","other"] (gc tU):=nG
abbrev zC:=nL ["self","store","source","patch","wanted","came","name"]
theorem mT:gA zC ["self","store","source","patch"] (gc pW):=nG
abbrev GH:=nL ["self","store","patch","name"]
theorem xA:gA GH ["self","store","patch"] (gc tV):=nG
abbrev xB:=nL ["self","patch","name"]
theorem vH:gA xB ["self","patch"] (gc oV):=nG
abbrev zD:=nL ["self","patch","made","puts","line"]
theorem oW:gA zD ["self","patch"] (gc pX):=nG
abbrev BI:=nL ["self","store","file","line"]
theorem zE:gA BI ["self","store","file"] (gc rV):=nG
abbrev As:=nL ["self","store","file"]
theorem yR:gA As ["self","store","file"] (gc oG):=nG
abbrev p0:=nL ["self","store","name"]
theorem pC:gA p0 ["self","store"] (gc lD):=nG
abbrev Au:=nL ["self","store","file"]
theorem yS:gA Au ["self","store","file"] (gc oH):=nG
abbrev wb:=nL ["self","store"]
theorem vp:gA wb ["self","store"] (gc ml):=nG
abbrev xC:=nL ["self","patch"]
theorem wc:gA xC ["self","patch"] (gc mR):=nG
abbrev xD:=nL ["self","store","patch"]
theorem wd:gA xD ["self","store","patch"] (gc mS):=nG
abbrev yT:=nL ["self","patch","files","name"]
theorem p6:gA yT ["self","patch","files"] (gc nQ):=nG
abbrev GI:=nL ["self","store","patch","needs","name"]
theorem r_:gA GI ["self","store","patch"] (gc tW):=nG
abbrev BJ:=nL ["script","k"]
theorem Av:gA BJ ["script","k"] (gc pw):=nG
abbrev GJ:=nL ["cell","k","bound","stir"]
theorem sd:gA GJ ["cell","k","bound"] (gc tX):=nG
abbrev GK:=nL ["cell","k","signs","size","base","far","found","j"]
theorem jF:gA GK ["cell","k"] (gc tY):=nG
abbrev zF:=nL ["cell","signs","size","j"]
theorem mU:gA zF ["cell"] (gc pY):=nG
abbrev GL:=nL ["texts","cell","at","line","more","way","out","turned"]
theorem kY:gA GL ["texts","cell"] (gc tZ):=nG
abbrev zG:=nL ["desk","stores","files","cell","name","backs","store","file","way","more","row","source","names","line"]
theorem jG:gA zG ["desk","stores","files","cell","name","backs"] (gc pZ):=nG
abbrev t_:=nL ["script","first","most","backs","desk","stores","files","store","k","cell"]
theorem jn:gA t_ ["script","first","most","backs"] (gc ou):=nG
abbrev yU:=nL ["found","due","name"]
theorem p7:gA yU ["found","due"] (gc nR):=nG
abbrev EB:=nL ["e","some"]
theorem qv:gA EB ["e"] (gc rW):=nG
abbrev BK:=nL ["place","k"]
theorem zH:gA BK ["place"] (gc rX):=nG
abbrev EC:=nL ["desk","store","source","name","came","which","e"]
theorem ly:gA EC ["desk","store","source","name"] (gc rY):=nG
abbrev BL:=nL ["desk","store","name","which","e"]
theorem lb:gA BL ["desk","store","name"] (gc pz):=nG
abbrev mV:=nL ["desk","having","store","source","name","found","wanted","due","one"]
theorem jk:gA mV ["desk","having","store","source","name"] (gc j1):=nG
abbrev mW:=nL ["desk","having","store","name","which","one"]
theorem kZ:gA mW ["desk","having","store","name"] (gc j2):=nG
abbrev ED:=nL ["desk","store","name","which","e"]
theorem oa:gA ED ["desk","store","name"] (gc rZ):=nG
abbrev Mf:=nL ["script","built","desk","having","store","made","papers","stores","k","cell","names","name","one"]
theorem lW:gA Mf ["script"] (gc GA):=nG
structure Txt(mg:Qqx):Prop where
 jX:mg "len"=none
 mX:mg "range"=none
 T5:mg "max"=none
 i8:mg "isinstance"=none
 yV:mg "list"=none
 T6:mg "str"=none
 BM:mg "reversed"=none
 T7:mg "sorted"=none
 aba:mg "set"=none
 GN:mg "enumerate"=none
 EE:mg "ValueError"=none
structure Ad where
 CU:Addr
 CV:FuncData
 EF:Addr
 EG:FuncData
 EH:Addr
 EI:FuncData
 Mg:Addr
 Mh:FuncData
 oI:Addr
 sU:FuncData
 nU:Addr
 qP:FuncData
 qQ:Addr
 qR:FuncData
 oQ:Addr
 oR:FuncData
 ua:Addr
 ub:FuncData
 zI:Addr
 zJ:FuncData
 qS:Addr
 qT:FuncData
 we:Addr
 wg:FuncData
 qU:Addr
 qV:FuncData
 GO:Addr
 GQ:FuncData
 zK:Addr
 zL:FuncData
 xE:Addr
 xF:FuncData
 GR:Addr
 GS:FuncData
 nV:Addr
 qW:FuncData
 qX:Addr
 qY:FuncData
 oS:Addr
 oT:FuncData
 xG:Addr
 xH:FuncData
 uc:Addr
 ud:FuncData
 vI:Addr
 vJ:FuncData
 zM:Addr
 zN:FuncData
 qZ:Addr
 q0:FuncData
 oJ:Addr
 sV:FuncData
 xI:Addr
 xJ:FuncData
 CW:Addr
 CY:FuncData
 ue:Addr
 uf:FuncData
 BN:Addr
 BO:FuncData
 vK:Addr
 vL:FuncData
 BP:Addr
 BQ:FuncData
 zO:Addr
 zP:FuncData
 ug:Addr
 uh:FuncData
 ui:Addr
 uj:FuncData
 xK:Addr
 xM:FuncData
 zQ:Addr
 zR:FuncData
 EJ:Addr
 EK:FuncData
 BR:Addr
 BS:FuncData
 sW:Addr
 sX:FuncData
 p8:Addr
 p9:FuncData
 sY:Addr
 sZ:FuncData
 pE:Addr
 pF:FuncData
 p_:Addr
 qa:FuncData
 qb:Addr
 qc:FuncData
 q8:Addr
 q9:FuncData
 zS:Addr
 zT:FuncData
 uk:Addr
 um:FuncData
 zU:Addr
 zV:FuncData
 zW:Addr
 zX:FuncData
 zY:Addr
 zZ:FuncData
 z8:Addr
 z_:FuncData
 Aa:Addr
 Ab:FuncData
 Ac:Addr
 Ae:FuncData
 q_:Addr
 ra:FuncData
 xN:Addr
 xO:FuncData
 BU:Addr
 BV:FuncData
 xP:Addr
 xQ:FuncData
 uo:Addr
 uq:FuncData
 qd:Addr
 qf:FuncData
 qg:Addr
 qh:FuncData
 xR:Addr
 xS:FuncData
 gQ:Addr
 gL:Addr
 ij:Addr
 gw:Addr
 ig:Addr
 iI:Addr
 gp:Addr
 gq:Addr
 gr:Addr
 jw:Addr
 iM:Addr
 lX:Addr
 gS:Addr
 oX:Tok
 mY:Tok
 z:Unit
structure Ok(K:Qqy)(mg:Qqx)(A:Ad):Prop where
 ur:DF K mg "counts_with" qt A.CU A.CV ["text","new","below"]
 wj:DF K mg "most_pairs" rM A.EF A.EG ["old","new"]
 wk:DF K mg "place_from" rN A.EH A.EI ["texts","text","start"]
 kept:DF K mg "kept" Ie A.Mg A.Mh ["old","new"]
 vM:DM K A.gQ "__init__" "Line.__init__" oE A.oI A.sU ["self","name","text","upper_name","lower_name"]
 mZ:DM K A.gL "__init__" "Patch.__init__" nM A.nU A.qP ["self","name","file","puts","cuts","other"]
 uu:DF K mg "lines_named_by" lT A.qQ A.qR ["patch"]
 qi:DF K mg "leans_straight_on" kA A.oQ A.oR ["patch"]
 xT:DF K mg "live_patches" ph A.ua A.ub ["patches"]
 yW:DF K mg "lines_put" tS A.zI A.zJ ["patches","file"]
 uv:DF K mg "standing_lines" lU A.qS A.qT ["patches","file"]
 Kl:DF K mg "files_with_lines" pj A.we A.wg ["patches"]
 uw:DF K mg "straight_ahead" nN A.qU A.qV ["lines"]
 joined:DF K mg "joined" BC A.GO A.GQ ["names","ahead"]
 DL:DF K mg "all_ahead" pV A.zK A.zL ["lines"]
 BW:DF K mg "first_free" rO A.xE A.xF ["waiting"]
 Mi:DF K mg "row_of" xu A.GR A.GS ["lines","ahead"]
 ux:DM K A.ij "__init__" "Sight.__init__" nO A.nV A.qW ["self","patches","file"]
 uy:DM K A.ij "is_ahead" "Sight.is_ahead" nP A.qX A.qY ["self","first","second"]
 j6:DM K A.ij "quarrelling" "Sight.quarrelling" lV A.oS A.oT ["self"]
 wo:DF K mg "check_name" rP A.xG A.xH ["name"]
 xU:DF K mg "check_places" pk A.uc A.ud ["places","size"]
 Af:DF K mg "kept_behind" qu A.vI A.vJ ["kept_names","size"]
 DN:DF K mg "new_lines" tT A.zM A.zN ["patch","texts","kept_names"]
 uA:DF K mg "changing_patch" kE A.qZ A.q0 ["patch","file","row","texts"]
 vN:DM K A.gw "__init__" "Desk.__init__" oF A.oJ A.sV ["self"]
 BX:DM K A.gw "begin" "Desk.begin" rQ A.xI A.xJ ["self","store"]
 Pg:DM K A.gw "stores" "Desk.stores" vD A.CW A.CY ["self"]
 i9:DM K A.gw "patches" "Desk.patches" pq A.ue A.uf ["self"]
 l9:DM K A.gw "has" "Desk.has" rR A.BN A.BO ["self","store"]
 Ag:DM K A.gw "record" "Desk.record" n_ A.vK A.vL ["self","store","patch","file","texts"]
 GU:DM K A.gw "cut" "Desk.cut" rS A.BP A.BQ ["self","store","patch","file","places"]
 u0:DM K A.gw "back" "Desk.back" tU A.zO A.zP ["self","store","patch","other"]
 u2:DM K A.gw "take" "Desk.take" pW A.ug A.uh ["self","store","source","patch"]
 u9:DM K A.gw "drop" "Desk.drop" tV A.ui A.uj ["self","store","patch"]
 nX:DM K A.gw "leans" "Desk.leans" oV A.xK A.xM ["self","patch"]
 yX:DM K A.gw "told" "Desk.told" pX A.zQ A.zR ["self","patch"]
 QT:DM K A.gw "files" "Desk.files" xv A.EJ A.EK ["self","store"]
 GV:DM K A.gw "row" "Desk.row" rV A.BR A.BS ["self","store","file"]
 vO:DM K A.gw "quarrels" "Desk.quarrels" oG A.sW A.sX ["self","store","file"]
 s_:DM K A.gw "patches_of" "Desk.patches_of" lD A.p8 A.p9 ["self","store"]
 l_:DM K A.gw "sight_of" "Desk.sight_of" oH A.sY A.sZ ["self","store","file"]
 iZ:DM K A.gw "check_store" "Desk.check_store" ml A.pE A.pF ["self","store"]
 oK:DM K A.gw "check_made" "Desk.check_made" mR A.p_ A.qa ["self","patch"]
 mj:DM K A.gw "check_held" "Desk.check_held" mS A.qb A.qc ["self","store","patch"]
 m_:DM K A.gw "check_new" "Desk.check_new" nQ A.q8 A.q9 ["self","patch","files"]
 u_:DM K A.gw "keep" "Desk.keep" tW A.zS A.zT ["self","store","patch"]
 jH:DF K mg "_law_cell_at" pw A.uk A.um ["script","k"]
 DO:DF K mg "_law_draw" tX A.zU A.zV ["cell","k","bound"]
 va:DF K mg "_law_name" tY A.zW A.zX ["cell","k"]
 yY:DF K mg "_law_text" pY A.zY A.zZ ["cell"]
 DP:DF K mg "_law_edit" tZ A.z8 A.z_ ["texts","cell"]
 DQ:DF K mg "_law_deed" pZ A.Aa A.Ab ["desk","stores","files","cell","name","backs"]
 DR:DF K mg "_law_desk" ou A.Ac A.Ae ["script","first","most","backs"]
 pG:DF K mg "_law_names_are" nR A.q_ A.ra ["found","due"]
 kx:DF K mg "_law_which" rW A.xN A.xO ["e"]
 pH:DF K mg "_law_due" rX A.BU A.BV ["place"]
 BY:DF K mg "_law_taken" rY A.xP A.xQ ["desk","store","source","name"]
 xV:DF K mg "_law_dropped" pz A.uo A.uq ["desk","store","name"]
 tf:DF K mg "_law_take_right" j1 A.qd A.qf ["desk","having","store","source","name"]
 tj:DF K mg "_law_drop_right" j2 A.qg A.qh ["desk","having","store","name"]
 BZ:DF K mg "_law_named" rZ A.xR A.xS ["desk","store","name"]
 iN:FU K A.gQ
 QU:Mk K A.gQ A.oI
 QV:mg "Line"=some (.ref A.gQ)
 gT:kB K A.gQ "name"
 jI:kB K A.gQ "text"
 iF:kB K A.gQ "upper_name"
 iG:kB K A.gQ "lower_name"
 i_:FU K A.gL
 EL:Mk K A.gL A.nU
 EM:mg "Patch"=some (.ref A.gL)
 i6:kB K A.gL "name"
 ky:kB K A.gL "file"
 jM:kB K A.gL "puts"
 jN:kB K A.gL "cuts"
 iW:kB K A.gL "other"
 k7:FU K A.ij
 N5:Mk K A.ij A.nV
 N6:mg "Sight"=some (.ref A.ij)
 jQ:kB K A.ij "ahead"
 iB:kB K A.ij "lines"
 gH:FU K A.gw
 QW:Mk K A.gw A.oJ
 QX:mg "Desk"=some (.ref A.gw)
 iS:kB K A.gw "made"
 jo:kB K A.gw "needs"
 iH:kB K A.gw "held"
 se:Exc K mg "PatchError" A.ig
 yZ:Exc K mg "BadName" A.iI
 uB:Exc K mg "NameTaken" A.gp
 DS:Exc K mg "NoStore" A.gq
 y0:Exc K mg "NoPatch" A.gr
 GW:Exc K mg "NoLine" A.jw
 Ai:Exc K mg "Unsettled" A.iM
 Ig:Exc K mg "Same" A.lX
 Jo:Exc K mg "Leant" A.gS
 EN:mg "NAME_SIGNS"=some (.str (Str.ofString "abcdefghijklmnopqrstuvwxyz0123456789") A.oX)
 uC:mg "LONGEST_NAME"=some (.int 12 A.mY)
 Km:Bq K A.gq
 j7:W.kitOne K (.ref A.gq) (.ref A.ig)=some true
 j8:W.kitOne K (.ref A.gq) (.ref A.iI)=some false
 jx:W.kitOne K (.ref A.gq) (.ref A.gp)=some false
 j9:W.kitOne K (.ref A.gq) (.ref A.gq)=some true
 j_:W.kitOne K (.ref A.gq) (.ref A.gr)=some false
 kF:W.kitOne K (.ref A.gq) (.ref A.jw)=some false
 jy:W.kitOne K (.ref A.gq) (.ref A.iM)=some false
 lL:W.kitOne K (.ref A.gq) (.ref A.lX)=some false
 lg:W.kitOne K (.ref A.gq) (.ref A.gS)=some false
 uD:W.kitOne K (.ref A.gq) (.type "ValueError")=some true
 nY:rF K A.gq A.ig=true
 sh:rF K A.gq A.gq=true
 Kn:Bq K A.gr
 kc:W.kitOne K (.ref A.gr) (.ref A.ig)=some true
 ke:W.kitOne K (.ref A.gr) (.ref A.iI)=some false
 jz:W.kitOne K (.ref A.gr) (.ref A.gp)=some false
 ki:W.kitOne K (.ref A.gr) (.ref A.gq)=some false
 kj:W.kitOne K (.ref A.gr) (.ref A.gr)=some true
 kG:W.kitOne K (.ref A.gr) (.ref A.jw)=some false
 jA:W.kitOne K (.ref A.gr) (.ref A.iM)=some false
 lM:W.kitOne K (.ref A.gr) (.ref A.lX)=some false
 lh:W.kitOne K (.ref A.gr) (.ref A.gS)=some false
 uE:W.kitOne K (.ref A.gr) (.type "ValueError")=some true
 o4:rF K A.gr A.ig=true
 si:rF K A.gr A.gr=true
 GX:Bq K A.gp
 jJ:W.kitOne K (.ref A.gp) (.ref A.ig)=some true
 jB:W.kitOne K (.ref A.gp) (.ref A.iI)=some false
 jf:W.kitOne K (.ref A.gp) (.ref A.gp)=some true
 jC:W.kitOne K (.ref A.gp) (.ref A.gq)=some false
 jD:W.kitOne K (.ref A.gp) (.ref A.gr)=some false
 jR:W.kitOne K (.ref A.gp) (.ref A.jw)=some false
 jg:W.kitOne K (.ref A.gp) (.ref A.iM)=some false
 kI:W.kitOne K (.ref A.gp) (.ref A.lX)=some false
 kl:W.kitOne K (.ref A.gp) (.ref A.gS)=some false
 sj:W.kitOne K (.ref A.gp) (.type "ValueError")=some true
 ow:rF K A.gp A.ig=true
 oY:rF K A.gp A.gp=true
 N7:Bq K A.gS
 k8:W.kitOne K (.ref A.gS) (.ref A.ig)=some true
 lj:W.kitOne K (.ref A.gS) (.ref A.iI)=some false
 ko:W.kitOne K (.ref A.gS) (.ref A.gp)=some false
 ll:W.kitOne K (.ref A.gS) (.ref A.gq)=some false
 lq:W.kitOne K (.ref A.gS) (.ref A.gr)=some false
 lN:W.kitOne K (.ref A.gS) (.ref A.jw)=some false
 kq:W.kitOne K (.ref A.gS) (.ref A.iM)=some false
 nc:W.kitOne K (.ref A.gS) (.ref A.lX)=some false
 ma:W.kitOne K (.ref A.gS) (.ref A.gS)=some true
 wq:W.kitOne K (.ref A.gS) (.type "ValueError")=some true
 xW:rF K A.gS A.ig=true
 xX:rF K A.gS A.gS=true
 z:True
end
open PySem L2 PM
noncomputable def nk(n:Nm):List Key:=[Sum.inr n.1,Sum.inl (n.2:Int)]
theorem qw{a b:Nm}(h:nk a=nk b):a=b:=by
 unfold nk at h
 injection h with h1 h2
 injection h2 with h2 _
 exact Prod.ext (ab9 h1) (by have:=Sum.inl.inj h2;omega)
noncomputable abbrev nT(n:Nm):HO:=.tup ((nk n).map kV)
def lr(H:Hp)(v:V)(n:Nm):Prop:=∃t,v=.ref t∧H t=some (nT n)
def DT(H:Hp)(v:V):Option Nm→Prop
 | none=>v=.js
 | some n=>lr H v n
def SD(v:V):Option Str→Prop
 | none=>v=.js
 | some x=>v=.str x
noncomputable def N8(a b c d:V):List (Str×V):=[("name",a),("text",b),("upper_name",c),("lower_name",d)]
theorem ja{a b c d:V}:(N8 a b c d).lookup ("name":Str)=some a:=by kernel_rfl
theorem xY{a b c d:V}:(N8 a b c d).lookup ("text":Str)=some b:=by kernel_rfl
theorem EO{a b c d:V}:(N8 a b c d).lookup ("upper_name":Str)=some c:=by kernel_rfl
theorem ER{a b c d:V}:(N8 a b c d).lookup ("lower_name":Str)=some d:=by kernel_rfl
noncomputable def N9(a b c d e:V):List (Str×V):=[("name",a),("file",b),("puts",c),("cuts",d),("other",e)]
theorem uF{a b c d e:V}:(N9 a b c d e).lookup ("name":Str)=some a:=by kernel_rfl
theorem GY{a b c d e:V}:(N9 a b c d e).lookup ("file":Str)=some b:=by kernel_rfl
theorem B0{a b c d e:V}:(N9 a b c d e).lookup ("puts":Str)=some c:=by kernel_rfl
theorem B1{a b c d e:V}:(N9 a b c d e).lookup ("cuts":Str)=some d:=by kernel_rfl
theorem rb{a b c d e:V}:(N9 a b c d e).lookup ("other":Str)=some e:=by kernel_rfl
def nv(A:Ad)(H:Hp)(a:Addr)(l:Ln):Prop:=∃dx vn vu vl,H a=some (.ins A.gQ dx (N8 vn (.str l.tx) vu vl))∧lr H vn l.nm∧DT H vu l.up∧DT H vl l.lo
def pK(A:Ad)(H:Hp)(a:Addr)(ls:List Ln):Prop:=∃as:List Addr,H a=some (.lst (as.map V.ref))∧Paired (nv A H) as ls
def xZ(H:Hp)(a:Addr)(ns:List Nm):Prop:=∃vs,H a=some (.lst vs)∧Paired (lr H) vs ns
def oM(A:Ad)(H:Hp)(a:Addr)(p:Pt):Prop:=∃dx vf pu cu vo,H a=some (.ins A.gL dx (N9 (.str p.nm) vf (.ref pu) (.ref cu) vo))∧SD vf p.file∧pK A H pu p.iJ∧xZ H cu p.kR∧SD vo p.other
def Aw(A:Ad)(H:Hp)(a:Addr)(ps:List Pt):Prop:=∃as:List Addr,H a=some (.lst (as.map V.ref))∧Paired (oM A H) as ps
section
variable{A:Ad}{H H':Hp}{a:Addr}
theorem lr.same{v:V}{n:Nm}(x:lr H v n)(s:gk H H'):lr H' v n:=by obtain⟨t,e,h⟩:=x;exact⟨t,e,s _ _ h⟩
theorem DT.same{v:V}{o:Option Nm}(x:DT H v o)(s:gk H H'):DT H' v o:=by
 cases o with
 | none=>exact x
 | some n=>exact lr.same x s
theorem nv.same{l:Ln}(x:nv A H a l)(s:gk H H'):nv A H' a l:=by
 obtain⟨dx,vn,vu,vl,h,h1,h2,h3⟩:=x
 exact⟨dx,vn,vu,vl,s _ _ h,h1.same s,h2.same s,h3.same s⟩
theorem pK.same{ls:List Ln}(x:pK A H a ls)(s:gk H H'):pK A H' a ls:=by
 obtain⟨as,h,p⟩:=x
 exact⟨as,s _ _ h,Paired.lA p fun _ _ z=>z.same s⟩
theorem xZ.same{ns:List Nm}(x:xZ H a ns)(s:gk H H'):xZ H' a ns:=by
 obtain⟨vs,h,p⟩:=x
 exact⟨vs,s _ _ h,Paired.lA p fun _ _ z=>z.same s⟩
theorem oM.same{p:Pt}(x:oM A H a p)(s:gk H H'):oM A H' a p:=by
 obtain⟨dx,vf,pu,cu,vo,h,h1,h2,h3,h4⟩:=x
 exact⟨dx,vf,pu,cu,vo,s _ _ h,h1,h2.same s,h3.same s,h4⟩
theorem Aw.same{ps:List Pt}(x:Aw A H a ps)(s:gk H H'):Aw A H' a ps:=by
 obtain⟨as,h,p⟩:=x
 exact⟨as,s _ _ h,Paired.lA p fun _ _ z=>z.same s⟩
end
theorem iC{α β:Type}{F:α→β→Prop}{xs:List α}{ys:List β}(p:Paired F xs ys):∀{i:Nat} {x:α},xs[i]?=some x→∃y,ys[i]?=some y∧F x y:=by
 induction p with
 | nil=>intro i x h;simp at h
 | cons f t ih=>
  intro i x h
  cases i with
  | zero=>simp at h;subst h;exact⟨_,rfl,f⟩
  | succ i=>simpa using ih (by simpa using h)
theorem ox{α β:Type}{F:α→β→Prop}{xs:List α}{ys:List β}(p:Paired F xs ys):∀{i:Nat} {y:β},ys[i]?=some y→∃x,xs[i]?=some x∧F x y:=by
 induction p with
 | nil=>intro i x h;simp at h
 | cons f t ih=>
  intro i x h
  cases i with
  | zero=>simp at h;subst h;exact⟨_,rfl,f⟩
  | succ i=>simpa using ih (by simpa using h)
theorem wu{α β:Type}{F:α→β→Prop}{xs zs:List α}{ys ws:List β}(p:Paired F xs ys)(q:Paired F zs ws):Paired F (xs++zs) (ys++ws):=by
 induction p with
 | nil=>exact q
 | cons f t ih=>exact .cons f ih
theorem ix{α β:Type}{F:α→β→Prop}{xs:List α}{ys:List β}{x:α}{y:β}(p:Paired F xs ys)(h:F x y):Paired F (xs++[x]) (ys++[y]):=wu p (.cons h .nil)
theorem B2{α β:Type}{F:α→β→Prop}{xs:List α}{ys:List β}(p:Paired F xs ys):Paired F xs.reverse ys.reverse:=by
 induction p with
 | nil=>exact .nil
 | cons f t ih=>rw[List.reverse_cons,List.reverse_cons];exact ix ih f
theorem k9{as:List Addr}{i:Nat}{v:V}(h:(as.map V.ref)[i]?=some v):∃b,as[i]?=some b∧v=.ref b:=by
 rw[aan] at h
 obtain⟨b,e,rfl⟩:=aaL.mp h
 exact⟨b,e,rfl⟩
theorem SD.eq{v:V}{o:Option Str}(h:SD v o)(f:Str):decide (v=.str f)=decide (o=some f):=by
 cases o with
 | none=>rw[show v=.js from h,aac (fun z=>by cases z),aac (fun z=>by cases z)]
 | some x=>
  rw[show v=.str x from h]
  by_cases e:x=f
  ·subst e;rw[XZ rfl,XZ rfl]
  ·rw[aac (fun z=>e (V.str.inj z)),aac (fun z=>e (aaJ z))]
theorem Ph{α:Type}{xs:List α}{x:α}{i:Nat}(h:xs.length≤i:=by assumption):(xs++[x]).length≤i+1:=by rw[Y5];exact Nat.succ_le_succ h
def rj(n:Nat):Prop:=n≤4000
theorem rj.sz{n:Nat}(h:rj n):n≤sizeLine:=aah h (by decide)
section
variable{P:Program}{w:World}{K:Qqy}{mg:Qqx}{base:Heap}{A:Ad}
def QY(A:Ad):Sp:=fun vs H Q _=>∃(a:Addr)(ps:List Pt),vs=[.ref a]∧Aw A H a ps∧rj ps.length∧∀p H',gk H H'→H p=none→Aw A H' p (live ps)→Q (.ref p) H'
def Tb(kvs:List (Key×V))(t:List Str):Prop:=∀x,(iV kvs (Sum.inr x)).isSome=decide (x∈t)
theorem Tb.put{kvs:List (Key×V)}{t:List Str}(h:Tb kvs t)(y:Str)(v:V):Tb (putK kvs (Sum.inr y) v) (y::t):=fun x=>by
 rw[j0]
 by_cases e:x=y
 ·subst e;rw[aax rfl,XZ aaz];rfl
 ·rw[aau (fun z=>e (ab9 z)),h x]
  by_cases m:x∈t
  ·rw[XZ m,XZ (aap _ m)]
  ·rw[aac m,aac (fun z=>(aag.mp z).elim e m)]
theorem Ih(p:Pt)(r:List Pt)(t:List Str):sS (p::r) t=if p.nm∈t then sS r t else p::sS r (match p.other with|some o=>o::t|none=>t):=rfl
theorem Ax(T:Txt mg)(O:Ok K mg A):ip P w K mg base nu 1 A.ua A.ub ["patches"] (QY A):=by
 refine O.xT.f.rh mf fun jh A0 outer s H vs Q E hr h=>?_
 obtain⟨a,ps,rfl,⟨as,ha,pa⟩,jc,q⟩:=h
 have hlen:=aav pa
 refine⟨_,(de (lB 1 mf oh)
   (de (lB 2 mf (iA d_))
   (de (iP aaG rfl (NQ rfl T.BM (a_ (pv 0) d_)) (vZ 3 mf) (f_ (iz (ji (kD (by exact iO hr) (gF (pv 3) rfl) (pv 1))) (de (ib (qH aaW aa3 aa4 lx (pv 2) (a_ (pv 3) d_)))
   (f_ (iz (ji (rq (gF (pv 3) rfl))) (f_ (jm (by exact iO hr) (pv 1) (gF (pv 3) rfl) nB rfl)) ia))) ia)))
   (f_ (gP (HV rfl (by rfl) T.yV (by rfl) T.BM (a_ (pv 2) d_))))))),?_⟩
 refine NP ?_;intro _ _ _
 intro t ht
 have s1:gk H (upd H t (.dK [])):=(gk.refl H).new ht
 refine⟨L2.jc,fun l hl=>?_⟩
 have s2:gk H (upd (upd H t (.dK [])) l (.lst [])):=s1.new hl
 have RW:t≠l:=fun z=>by rw[z] at hl;rw[b_] at hl;cases hl
 refine⟨_,rfl,a,_,rfl,gK.of (s2 a _ ha),NR (K:=K) (a:=a) (xs:=as.map V.ref) (fun i σ H2=>∃(v:Option V)(kvs:List (Key×V))(tb:List Str)(ls:List Addr)(lp:List Pt),σ=[rr a,rr t,rr l,v]∧gk H H2∧H2 t=some (.dK kvs)∧Tb kvs tb∧kvs.length≤i∧H2 l=some (.lst (ls.map V.ref))∧ls.length≤i∧Paired (oM A H) ls lp∧lp++sS (ps.reverse.drop i) tb=sS ps.reverse [])
  ⟨none,[],[],[],[],rfl,s2,by rw[e_ RW];exact b_,(fun x=>rfl),aab _,b_,aab _,.nil,rfl⟩ (by rintro _ _ _ _ ⟨_,_,_,_,_,_,s3,_⟩;exact gK.of (s3 a _ ha)) ?_ ?_⟩
 ·rintro i v σ H2 hx ⟨v0,kvs,tb,ls,lp,rfl,s3,h1,h2,h3,h4,h5,h6,h7⟩
  rw[←List.map_reverse] at hx
  obtain⟨b,hb,rfl⟩:=k9 hx
  obtain⟨p,hp,dx,vf,pu,cu,vo,g1,g2,g3,g4,g5⟩:=iC (B2 pa) hb
  have hi:i<ps.reverse.length:=(Vb.mp hp).1
  have Cd:i<4000:=by rw[abt] at hi;exact aaK hi jc
  have hd:ps.reverse.drop i=p::ps.reverse.drop (i+1):=by rw[aaX hi];congr 1;exact(Vb.mp hp).2
  rw[hd] at h7
  refine⟨_,rfl,b,A.gL,dx,_,_,rfl,s3 _ _ g1,O.i_,O.i6,uF,_,rfl,t,_,rfl,iY.k (k:=Sum.inr p.nm) h1,_,rfl,?_⟩
  rw[h2 p.nm]
  rw[Ih] at h7
  by_cases hm:p.nm∈tb
  ·rw[aax hm] at h7
   rw[XZ hm]
   exact jY ⟨_,kvs,tb,ls,lp,rfl,s3,h1,h2,by omega,h4,by omega,h6,h7⟩
  ·rw[aau hm] at h7
   rw[aac hm]
   refine mx ?_
   refine⟨_,rfl,.inl ⟨rfl,_,gK.of h4⟩,_,rfl,l,_,_,rfl,rfl,h4,by rw[U8];exact abz h5 (Nat.lt_trans Cd (by decide)),?_⟩
   have Y6:H l=none:=s1.free hl
   have s4:gk H (upd H2 l (.lst (ls.map V.ref++[V.ref b]))):=s3.upd Y6
   have OM:upd H2 l (.lst (ls.map V.ref++[V.ref b])) t=some (.dK kvs):=by rw[e_ RW];exact h1
   have e4:upd H2 l (.lst (ls.map V.ref++[V.ref b])) l=some (.lst ((ls++[b]).map V.ref)):=by rw[b_,aaA];rfl
   have pp:Paired (oM A H) (ls++[b]) (lp++[p]):=ix h6 ⟨dx,vf,pu,cu,vo,g1,g2,g3,g4,g5⟩
   have Vc:(ls++[b]).length≤i+1:=Ph
   refine⟨_,rfl,b,A.gL,dx,_,_,rfl,s4 _ _ g1,O.i_,O.iW,rb,_,rfl,?_⟩
   cases ho:p.other with
   | none=>
    rw[ho] at g5 h7
    rw[show vo=V.js from g5]
    exact⟨_,kvs,tb,_,_,rfl,s4,OM,h2,by omega,e4,Vc,pp,by rw[aaZ];exact h7⟩
   | some x=>
    rw[ho] at g5 h7
    rw[show vo=V.str x from g5] at g1 ⊢
    refine⟨_,rfl,_,rfl,b,A.gL,dx,_,_,rfl,s4 _ _ g1,O.i_,O.iW,rb,t,_,rfl,nJ.k (k:=Sum.inr x) OM (abz h3 (Nat.lt_trans Cd (by decide))),?_⟩
    have hlk:=jL kvs (Sum.inr x:Key) (V.bl true)
    have htH:H t=none:=ht
    exact⟨_,_,x::tb,_,_,rfl,s4.upd htH,b_,h2.put x _,by omega,by rw[e_ RW.symm];exact e4,Vc,pp,by rw[aaZ];exact h7⟩
 ·rintro σ H2 ⟨v0,kvs,tb,ls,lp,rfl,s3,h1,h2,h3,h4,h5,h6,h7⟩
  rw[U8] at h3 h5 h7
  rw[hlen,←abt,acy] at h7
  have h7:lp=sS ps.reverse []:=by rw[show sS [] tb=[] from rfl,aaP] at h7;exact h7
  refine⟨_,rfl,l,_,rfl,gK.of h4,fun p hp=>?_⟩
  have s4:=s3.new (o:=.lst (ls.map V.ref).reverse) hp
  refine q p _ s4 (s3.free hp) ⟨ls.reverse,by rw[b_,List.map_reverse],?_⟩
  unfold live
  rw[←h7]
  exact Paired.lA (B2 h6) fun _ _ z=>z.same s4
theorem uG{α β:Type}{f:α→List β}{ps qs:List α}(h:ps.Sublist qs):(ps.flatMap f).Sublist (qs.flatMap f):=by
 induction h with
 | slnil=>exact aaM _
 | cons x _ ih=>rw[aaN];exact ih.trans (aa_ _ _)
 | cons_cons x _ ih=>rw[aaN,aaN];exact(aaM _).append ih
structure Small(ps:List Pt):Prop where
 many:rj ps.length
 iJ:rj (ps.flatMap (·.iJ)).length
 kR:rj (ps.flatMap (·.kR)).length
theorem Small.sub{ps qs:List Pt}(h:ps.Sublist qs)(s:Small qs):Small ps:=⟨aah h.length_le s.many,aah (uG h).length_le s.iJ,aah (uG h).length_le s.kR⟩
theorem sr(ps:List Pt)(f:Str):(h_ ps f).length≤(ps.flatMap (·.iJ)).length:=(uG aa0).length_le
theorem CZ(ps:List Pt)(p:Pt)(f:Str):h_ (ps++[p]) f=h_ ps f++if p.file=some f then p.iJ else[]:=by
 unfold h_
 rw[aaQ,abF]
 by_cases h:p.file=some f
 ·rw[aax h,aae (by simpa using h),aa2,aaN,abN,aaP]
 ·rw[aau h,aaj (by simpa using h),aa2,abN]
theorem take_snoc{α:Type}{xs:List α}{i:Nat}{x:α}(h:xs[i]?=some x):xs.take (i+1)=xs.take i++[x]:=by rw[List.take_add_one,h];rfl
def SE(kvs:List (List Key×V))(ns:List Nm):Prop:=∀n,(iV kvs (nk n)).isSome=decide (n∈ns)
theorem SE.put{kvs:List (List Key×V)}{ns:List Nm}(h:SE kvs ns)(y:Nm)(v:V):SE (putK kvs (nk y) v) (ns++[y]):=fun x=>by
 rw[j0]
 by_cases e:x=y
 ·subst e;rw[aax rfl,XZ (by simp)];rfl
 ·rw[aau (fun z=>e (qw z)),h x]
  by_cases m:x∈ns
  ·rw[XZ m,XZ (aaC _ m)]
  ·rw[aac m,aac (fun z=>(aaf.mp z).elim m fun z=>e (Yc.mp z))]
def T8(A:Ad):Sp:=fun vs H Q _=>∃(a:Addr)(ps:List Pt)(f:Str),vs=[.ref a,.str f]∧Aw A H a ps∧Small ps∧∀p H',gk H H'→H p=none→pK A H' p (h_ ps f)→Q (.ref p) H'
theorem x5(T:Txt mg)(O:Ok K mg A):ip P w K mg base nu 1 A.zI A.zJ ["patches","file"] (T8 A):=by
 refine O.yW.f.rh r9 fun jh A0 outer s H vs Q E hr h=>?_
 obtain⟨a,ps,f,rfl,⟨as,ha,pa⟩,sm,q⟩:=h
 have hlen:=aav pa
 refine⟨_,(de (lB 2 r9 (iA d_))
   (de (iP aaG rfl (ir (pv 0)) (vZ 3 r9) (f_ (iz (ie mE (gF (pv 3) rfl) (pv 1) (iu _)) (f_ (ib (qH aaW PySem.F.slot_list_extend PySem.F.type_list_extend Dx (pv 2) (a_ (gF (pv 3) rfl) d_)))) ia)))
   (f_ (gP (pv 2))))),?_⟩
 refine Ei ?_;intro _ _
 refine⟨L2.jc,fun l hl=>?_⟩
 have s1:gk H (upd H l (.lst [])):=(gk.refl H).new hl
 dsimp only [nE];refine LM ?_;intro _
 let Jv:=fun(i:Nat) (σ:St) (H2:Hp)=>∃(v:Option V)(ls:List Addr),σ=[rr a,rs f,rr l,v]∧gk H H2∧H2 l=some (.lst (ls.map V.ref))∧Paired (nv A H) ls (h_ (ps.take i) f)
 refine⟨_,rfl,a,rfl,⟨_,gK.of (s1 a _ ha)⟩,je (K:=K) (a:=a) (xs:=as.map V.ref) Jv
  ⟨none,[],rfl,s1,b_,.nil⟩ (by rintro _ _ _ _ ⟨_,_,_,s3,_⟩;exact gK.of (s3 a _ ha)) ?_ ?_⟩
 ·rintro i v σ H2 hx ⟨v0,ls,rfl,s3,h4,h6⟩
  obtain⟨b,hb,rfl⟩:=k9 hx
  obtain⟨p,hp,dx,vf,pu,cu,vo,g1,g2,⟨as2,g3,Vd⟩,g4,g5⟩:=iC pa hb
  have e:h_ (ps.take (i+1)) f=h_ (ps.take i) f++if p.file=some f then p.iJ else[]:=by rw[take_snoc hp,CZ]
  refine⟨_,rfl,b,A.gL,dx,_,_,rfl,s3 _ _ g1,O.i_,O.ky,GY,_,rfl,?_⟩
  have hf:Qh vf (V.str f)=true:=by
   cases hq:p.file with
   | none=>rw[hq] at g2;rw[show vf=V.js from g2];rfl
   | some x=>rw[hq] at g2;rw[show vf=V.str x from g2];rfl
  refine⟨hf,_,rfl,?_⟩
  rw[g2.eq f]
  by_cases hm:p.file=some f
  ·rw[aax hm] at e
   rw[XZ hm]
   refine mx ?_
   refine⟨_,rfl,.inl ⟨rfl,_,gK.of h4⟩,_,rfl,b,A.gL,dx,_,_,rfl,s3 _ _ g1,O.i_,O.jM,B0,l,pu,_,_,rfl,rfl,h4,s3 _ _ g3,?_,?_⟩
   ·rw[U8,U8,aav h6,aav Vd,←Y5,←e]
    exact aah (sr _ f) (Small.sub (acr _ _) sm).iJ.sz
   ·refine⟨_,ls++as2,rfl,s3.upd hl,by rw[b_,aaA],?_⟩
    rw[e]
    exact wu h6 Vd
  ·rw[aau hm,aaP] at e
   rw[aac hm]
   exact jY ⟨_,ls,rfl,s3,h4,by rw[e];exact h6⟩
 ·rintro σ H2 ⟨v0,ls,rfl,s3,h4,h6⟩
  rw[U8,hlen,aam] at h6
  exact⟨_,rfl,q l _ s3 hl ⟨ls,h4,Paired.lA h6 fun _ _ z=>z.same s3⟩⟩
theorem Ko(ps:List Pt)(p:Pt):gone (ps++[p])=gone ps++p.kR:=by
 unfold gone
 rw[abF,aaN,abN,aaP]
def N_(A:Ad):Sp:=fun vs H Q _=>∃(a:Addr)(ps:List Pt)(f:Str),vs=[.ref a,.str f]∧Aw A H a ps∧Small ps∧∀p H',gk H H'→H p=none→pK A H' p (pf ps f)→Q (.ref p) H'
theorem x8(T:Txt mg)(O:Ok K mg A):ip P w K mg base nu 2 A.qS A.qT ["patches","file"] (N_ A):=by
 have Ce:=@Ax P w K mg base A T O
 have uP:=@x5 P w K mg base A T O
 refine O.uv.f.rh jt fun jh A0 outer s H vs Q E hr h=>?_
 obtain⟨a,ps,f,rfl,pa,sm,q⟩:=h
 refine⟨_,(de (lB 2 jt (pJ O.xT Ce hr (a_ (pv 0) d_)))
   (de (mD (i:=3) jt.nd rfl (Or.inr rfl) oj)
   (de (iP aaG rfl (ir (pv 2)) (vZ 4 jt) (f_ (iP aaG rfl (ir (gF (pv 4) rfl)) (vZ 5 jt) (f_ (jm (by exact iO hr) (pv 3) (pv 5) nB rfl)))))
   (f_ (gP (tM qO (gc lU).names [6] rfl (ir (pJ O.yW uP hr (a_ (pv 2) (a_ (pv 1) d_)))) rfl (by decide+kernel) (fun _ _ _ _=>(iy (i:=6) jt.nd rfl (Or.inl rfl))) (fun _ _ _ _=>⟨_,nK (ji (kD (by exact iO hr) (gF (pv 6) rfl) (pv 3))),by(try simp only [kW]);rfl⟩) (fun _ _ _ _=>zx (pv 6)))))))),?_⟩
 refine NP ?_;intro _ _ _
 refine⟨_,rfl,a,ps,rfl,pa,sm.many,fun l H1 s1 SS tq=>?_⟩
 have Y7:Small (live ps):=sm.sub (Gw ps)
 obtain⟨as,ha,pl⟩:=id tq
 have hlen:=aav pl
 intro g hg
 have s2:gk H1 (upd H1 g (.dT [])):=(gk.refl H1).new hg
 dsimp only [nE];refine LM ?_;intro _
 let Jv:=fun(i:Nat) (σ:St) (H2:Hp)=>∃(v4 v5:Option V)(kvs:List (List Key×V)),σ=[rr a,rs f,rr l,rr g,v4,v5,none]∧gk H1 H2∧H2 g=some (.dT kvs)∧SE kvs (gone ((live ps).take i))∧kvs.length≤(gone ((live ps).take i)).length
 refine⟨_,rfl,l,rfl,⟨_,gK.of (s2 l _ ha)⟩,je (K:=K) (a:=l) (xs:=as.map V.ref) Jv
  ⟨none,none,[],rfl,s2,b_,(fun x=>rfl),aab _⟩ (by rintro _ _ _ _ ⟨_,_,_,_,s3,_⟩;exact gK.of (s3 l _ ha)) ?_ ?_⟩
 ·rintro i v σ H2 hx ⟨v4,v5,kvs,rfl,s3,h1,h2,h3⟩
  obtain⟨b,hb,rfl⟩:=k9 hx
  obtain⟨p,hp,dx,vf,pu,cu,vo,g1,g2,g3,⟨cs,g4,SU⟩,g5⟩:=iC pl hb
  have e:gone ((live ps).take (i+1))=gone ((live ps).take i)++p.kR:=by rw[take_snoc hp,Ko]
  have hsz:(gone ((live ps).take i)++p.kR).length≤4000:=by rw[←e];exact(Y7.sub (acr _ _)).kR
  rw[Y5] at hsz
  have PB:=aav SU
  let Jv:=fun(j:Nat) (σ:St) (H3:Hp)=>∃(v5:Option V)(kvs:List (List Key×V)),σ=[rr a,rs f,rr l,rr g,rr b,v5,none]∧gk H1 H3∧H3 g=some (.dT kvs)∧SE kvs (gone ((live ps).take i)++p.kR.take j)∧kvs.length≤(gone ((live ps).take i)).length+j
  refine⟨_,rfl,b,A.gL,dx,_,_,rfl,s3 _ _ g1,O.i_,O.jN,B1,cu,rfl,⟨_,gK.of (s3 _ _ g4)⟩,je (K:=K) (a:=cu) (xs:=cs) Jv
   ⟨v5,kvs,rfl,s3,h1,by rw[abH,aaP];exact h2,by omega⟩ (by rintro _ _ _ _ ⟨_,_,_,s4,_⟩;exact gK.of (s4 cu _ g4)) ?_ ?_⟩
  ·rintro j v σ H3 hx ⟨v5,kvs,rfl,s4,h1,h2,h3⟩
   obtain⟨n,hn,t,rfl,ht⟩:=iC SU hx
   have hj:j<cs.length:=(Vb.mp hx).1
   refine⟨_,rfl,_,rfl,g,_,rfl,nJ.t (k:=nk n) h1 (s4 _ _ ht) (abz (m:=4000) (by omega) (by decide)),?_⟩
   have hlk:=jL kvs (nk n) (V.bl true)
   refine⟨_,_,rfl,s4.upd hg,b_,?_,by omega⟩
   rw[take_snoc hn,←aaZ]
   exact h2.put n _
  ·rintro σ H3 ⟨v5,kvs,rfl,s4,h1,h2,h3⟩
   rw[PB,aam] at h2
   rw[PB] at h3
   exact⟨_,v5,kvs,rfl,s4,h1,by rw[e];exact h2,by rw[e,Y5];exact h3⟩
 ·rintro σ H2 ⟨v4,v5,kvs,rfl,s3,h1,h2,h3⟩
  rw[U8,hlen,aam] at h2
  refine⟨_,rfl,_,rfl,l,live ps,f,rfl,tq.same s3,Y7,fun p H3 s4 oA ⟨Y8,h3a,h3p⟩=>?_⟩
  have hlp:Y8.length=(h_ (live ps) f).length:=aav h3p
  have hbound:Y8.length≤4000:=by rw[hlp];exact aah (sr _ _) Y7.iJ
  refine⟨p,rfl,⟨_,gK.of h3a⟩,jE (K:=K) (a:=p) (xs:=Y8.map V.ref) (by rw[U8];exact aah hbound (by decide)) (fun i ys σ H4=>∃(v6:Option V)(ls:List Addr),σ=[rr a,rs f,rr l,rr g,v4,v5,v6]∧H4=H3∧ys=ls.map V.ref∧ls.length≤i∧Paired (nv A H3) ls (((h_ (live ps) f).take i).filter fun l=>l.nm∉gone (live ps)))
   ⟨none,[],rfl,rfl,rfl,aab _,.nil⟩ (by rintro _ _ _ _ _ ⟨_,ls,_,e,e2,e3,_⟩;subst e e2;exact⟨gK.of h3a,by rw[U8];exact e3⟩) ?_ ?_⟩
  ·rintro i v ys σ H4 hx ⟨v6,ls,rfl,rfl,rfl,e3,h6⟩
   obtain⟨b,hb,rfl⟩:=k9 hx
   obtain⟨ln,AB,dx,vn,vu,vl,k1,⟨t,rfl,k2⟩,k3,k4⟩:=iC h3p hb
   refine⟨_,rfl,b,A.gQ,dx,_,_,rfl,k1,O.iN,O.gT,ja,_,rfl,g,_,rfl,iY.t (k:=nk ln.nm) (s4 _ _ h1) k2,_,rfl,?_⟩
   rw[h2 ln.nm,take_snoc AB,aaQ]
   by_cases hm:ln.nm∈gone (live ps)
   ·rw[XZ hm]
    refine jY ⟨_,ls,rfl,rfl,rfl,by omega,?_⟩
    rw[aaj (by simpa using hm),aa2,aaP]
    exact h6
   ·rw[aac hm]
    refine mx ⟨_,rfl,_,ls++[b],rfl,rfl,by rw[aaA];rfl,Ph,?_⟩
    rw[aae (by simpa using hm),aa2]
    exact ix h6 ⟨dx,.ref t,vu,vl,k1,⟨t,rfl,k2⟩,k3,k4⟩
  ·rintro ys σ H4 ⟨v6,ls,rfl,rfl,rfl,e3,h6⟩ p2 AX
   rw[U8,hlp,aam] at h6
   have s5:=((s1.trans s3).trans s4).new (o:=.lst (ls.map V.ref)) AX
   refine q p2 _ s5 (((s1.trans s3).trans s4).free AX) ⟨ls,b_,?_⟩
   exact Paired.lA h6 fun _ _ z=>z.same ((gk.refl H4).new AX)
theorem o5{κ:Type}[DecidableEq κ](kvs:List (κ×V))(k:κ)(v:V):(putK kvs k v).map (·.1)=if k∈kvs.map (·.1) then kvs.map (·.1) else kvs.map (·.1)++[k]:=by
 unfold putK
 by_cases h:k∈kvs.map (·.1)
 ·have h':(kvs.any fun kv=>decide (kv.1=k))=true:=by
   obtain⟨p,hp,e⟩:=aaO.mp h
   exact List.any_eq_true.mpr ⟨p,hp,XZ e⟩
  rw[aax h',aax h,List.map_map]
  refine ab_ fun p _=>?_
  show(if p.1=k then(p.1,v) else p).1=p.1
  split<;>rfl
 ·have h':¬(kvs.any fun kv=>decide (kv.1=k))=true:=fun z=>by
   obtain⟨p,hp,e⟩:=List.any_eq_true.mp z
   exact h (aaO.mpr ⟨p,hp,aaw e⟩)
  rw[aau h',aau h,aaA]
  rfl
theorem vb{κ:Type}[DecidableEq κ]{kvs:List (κ×V)}{k:κ}:(iV kvs k).isSome=true↔k∈kvs.map (·.1):=by
 induction kvs with
 | nil=>exact⟨(fun z=>by cases z),(fun z=>by cases z)⟩
 | cons p r ih=>
  by_cases e:p.1=k
  ·rw[jv e,aaB,e];exact⟨fun _=>aaz,fun _=>rfl⟩
  ·rw[jr e,ih,aaB]
   exact⟨fun m=>aap _ m,fun z=>(aag.mp z).elim (fun z=>absurd z.symm e) id⟩
theorem GZ{κ:Type}[DecidableEq κ]{kvs:List (κ×V)}{k:κ}(h:k∉kvs.map (·.1)):iV kvs k=none:=by
 cases e:iV kvs k with
 | none=>rfl
 | some v=>exact absurd (vb.mp (by rw[e];rfl)) h
theorem uH{n:Nm}{l:List Nm}:nk n∈l.map nk↔n∈l:=by
 constructor
 ·intro h
  obtain⟨m,hm,e⟩:=aaO.mp h
  rw[←qw e];exact hm
 ·exact fun h=>aai h
def C0(H:Hp)(a:Addr)(l:List Nm):Prop:=∃dk,H a=some (.dT dk)∧dk.map (·.1)=l.map nk
noncomputable def pL(l:List Nm)(m:Nm):List Nm:=if m∈l then l else l++[m]
theorem uI{l:List Nm}{m x:Nm}:x∈pL l m↔x∈l∨x=m:=by
 unfold pL
 split
 ·rename_i h
  exact⟨.inl,fun z=>z.elim id fun z=>z▸h⟩
 ·simp
theorem AS{l:List Nm}{m:Nm}(h:l.Nodup):(pL l m).Nodup:=by
 unfold pL
 split
 ·exact h
 ·rename_i hm
  rw[aa6]
  exact⟨h,by simp,fun a ha b hb z=>hm (by rw[Yc.mp hb] at z;exact z▸ha)⟩
theorem G0{l:List Nm}{m:Nm}:(pL l m).length≤l.length+1:=by
 unfold pL
 split
 ·omega
 ·rw[Y5];exact aab _
theorem x9{dk:List (List Key×V)}{l:List Nm}(h:dk.map (·.1)=l.map nk)(m:Nm)(v:V):(putK dk (nk m) v).map (·.1)=(pL l m).map nk:=by
 rw[o5,h]
 unfold pL
 by_cases e:m∈l
 ·rw[aax (uH.mpr e),aax e]
 ·rw[aau (fun z=>e (uH.mp z)),aau e,aaA];rfl
noncomputable def zk(ns:List Nm)(ds:List Addr):List (List Key×V):=List.zipWith (fun n d=>(nk n,V.ref d)) ns ds
theorem Jp:∀{ns:List Nm} {ds:List Addr} (n:Nm) (d:Addr),ns.length=ds.length→zk (ns++[n]) (ds++[d])=zk ns ds++[(nk n,V.ref d)]
 | [],[],_,_,_=>rfl
 | [],_::_,_,_,h=>by simp at h
 | _::_,[],_,_,h=>by simp at h
 | x::r,y::t,n,d,h=>by
  show(nk x,V.ref y)::zk (r++[n]) (t++[d])=_
  rw[Jp n d (by simpa using h)]
  rfl
theorem ES:∀{ns:List Nm} {ds:List Addr},ns.length=ds.length→(zk ns ds).map (·.1)=ns.map nk
 | [],[],_=>rfl
 | [],_::_,h=>by simp at h
 | _::_,[],h=>by simp at h
 | x::r,y::t,h=>by
  show nk x::(zk r t).map (·.1)=nk x::r.map nk
  rw[ES (by simpa using h)]
noncomputable def vq:List Nm→List Addr→Nm→Addr
 | x::r,d::t,n=>if x=n then d else vq r t n
 | _,_,_=>0
theorem Mj:∀{ns:List Nm} {ds:List Addr} {n:Nm},ns.length=ds.length→n∈ns→iV (zk ns ds) (nk n)=some (.ref (vq ns ds n))
 | [],_,_,_,hn=>by cases hn
 | _::_,[],_,h,_=>by simp at h
 | x::r,y::t,n,h,hn=>by
  show iV ((nk x,V.ref y)::zk r t) (nk n)=some (.ref (if x=n then y else vq r t n))
  by_cases e:x=n
  ·subst e
   rw[jv rfl,aax rfl]
  ·have hr:n∈r:=(aag.mp hn).elim (fun z=>absurd z.symm e) id
   rw[jr (fun z=>e (qw z)),Mj (by simpa using h) hr,aau e]
theorem ET:∀{ns:List Nm} {ds:List Addr} {n:Nm},ns.length=ds.length→n∈ns→vq ns ds n∈ds
 | [],_,_,_,hn=>by cases hn
 | _::_,[],_,h,_=>by simp at h
 | x::r,y::t,n,h,hn=>by
  show(if x=n then y else vq r t n)∈y::t
  by_cases e:x=n
  ·rw[aax e];exact aaz
  ·rw[aau e]
   exact aap _ (ET (by simpa using h) ((aag.mp hn).elim (fun z=>absurd z.symm e) id))
theorem Ml:∀{ns:List Nm} {ds:List Addr} {n m:Nm},ns.length=ds.length→ds.Nodup→n∈ns→m∈ns→vq ns ds n=vq ns ds m→n=m
 | [],_,_,_,_,_,hn,_,_=>by cases hn
 | _::_,[],_,_,h,_,_,_,_=>by simp at h
 | x::r,y::t,n,m,h,nd,hn,hm,e=>by
  have hl:r.length=t.length:=by simpa using h
  rw[aaY] at nd
  have e:(if x=n then y else vq r t n)=(if x=m then y else vq r t m):=e
  by_cases e1:x=n
  ·by_cases e2:x=m
   ·exact e1.symm.trans e2
   ·rw[aax e1,aau e2] at e
    exact absurd (e▸ET hl ((aag.mp hm).elim (fun z=>absurd z.symm e2) id)) nd.1
  ·have Pq:=(aag.mp hn).elim (fun z=>absurd z.symm e1) id
   by_cases e2:x=m
   ·rw[aau e1,aax e2] at e
    exact absurd (e▸ET hl Pq) nd.1
   ·rw[aau e1,aau e2] at e
    exact Ml hl nd.2 Pq ((aag.mp hm).elim (fun z=>absurd z.symm e2) id) e
structure Yf(H:Hp)(p:Addr)(ns:List Nm)(ad:Nm→Addr)(sf:Nm→List Nm):Prop where
 at_:∃kvs,H p=some (.dT kvs)∧(∀n∈ns,iV kvs (nk n)=some (.ref (ad n)))∧kvs.map (·.1)=ns.map nk
 inj:∀n∈ns,∀m∈ns,ad n=ad m→n=m
 ks:∀n∈ns,C0 H (ad n) (sf n)
theorem Oa{ls:List Ln}{l:Ln}{m n:Nm}:Sa (ls++[l]) m n↔Sa ls m n∨(l.nm=n∧l.up=some m)∨(l.nm=m∧l.lo=some n):=by
 unfold Sa
 constructor
 ·rintro⟨x,hx,q⟩
  rcases aaf.mp hx with h|h
  ·exact .inl ⟨x,h,q⟩
  ·rw[Yc.mp h] at q;exact .inr q
 ·rintro(⟨x,hx,q⟩|q)
  ·exact⟨x,aaC _ hx,q⟩
  ·exact⟨l,by simp,q⟩
def T9(A:Ad):Sp:=fun vs H Q _=>∃(a:Addr)(ls:List Ln),vs=[.ref a]∧pK A H a ls∧rj ls.length∧(ls.map (·.nm)).Nodup∧rL ls∧
 ∀p H' ad sf,gk H H'→H p=none→(∀n∈ls.map (·.nm),H (ad n)=none)→Yf H' p (ls.map (·.nm)) ad sf→(∀n,(sf n).Nodup∧∀m,m∈sf n↔Sa ls m n)→Q (.ref p) H'
theorem x_(T:Txt mg)(O:Ok K mg A):ip P w K mg base nu 1 A.qU A.qV ["lines"] (T9 A):=by
 refine O.uw.f.rh lF fun jh A0 outer s H vs Q E hr h=>?_
 obtain⟨a,ls,rfl,⟨as,ha,pa⟩,jc,nd,cl,q⟩:=h
 have hlen:=aav pa
 refine⟨_,(de (lB 1 lF oj)
   (de (iP aaG rfl (ir (pv 0)) (vZ 2 lF) (f_ (jm (by exact iO hr) (pv 1) (gF (pv 2) rfl) oj rfl)))
   (de (iP aaG rfl (ir (pv 0)) (vZ 2 lF) (de (tO (iz (ji (rq (gF (pv 2) rfl))) (f_ (jm (by exact iO hr) (v_ hr (pv 1) (gF (pv 2) rfl)) (gF (pv 2) rfl) nB rfl)) ia))
   (f_ (iz (ji (rq (gF (pv 2) rfl))) (f_ (jm (by exact iO hr) (v_ hr (pv 1) (gF (pv 2) rfl)) (gF (pv 2) rfl) nB rfl)) ia))))
   (f_ (gP (pv 1)))))),?_⟩
 refine NP ?_;intro _ _ _
 intro p hp
 have s1:gk H (upd H p (.dT [])):=(gk.refl H).new hp
 dsimp only [nE];refine LM ?_;intro _
 let Jv:=fun(i:Nat) (σ:St) (H2:Hp)=>∃(v:Option V)(ds:List Addr),σ=[rr a,rr p,v]∧gk H H2∧H2 p=some (.dT (zk ((ls.take i).map (·.nm)) ds))∧ds.length=((ls.take i).map (·.nm)).length∧ds.Nodup∧(∀d∈ds,H d=none∧d≠p∧H2 d=some (.dT []))
 refine⟨_,rfl,a,rfl,⟨_,gK.of (s1 a _ ha)⟩,je (K:=K) (a:=a) (xs:=as.map V.ref) Jv
  ⟨none,[],rfl,s1,b_,rfl,abr,fun d hd=>by cases hd⟩ (by rintro _ _ _ _ ⟨_,_,_,s3,_⟩;exact gK.of (s3 a _ ha)) ?_ ?_⟩
 ·rintro i v σ H2 hx ⟨v0,ds,rfl,s3,h1,h2,h3,h4⟩
  obtain⟨b,hb,rfl⟩:=k9 hx
  obtain⟨l,hl,dx,vn,vu,vl,g1,⟨t,rfl,g2⟩,g3,g4⟩:=iC pa hb
  have hi:i<ls.length:=(Vb.mp hl).1
  intro d hd
  have s4:gk H (upd H2 d (.dT [])):=s3.new hd
  have Y9:d≠p:=fun z=>by rw[z,h1] at hd;cases hd
  have Ni:d∉ds:=fun z=>by rw[(h4 d z).2.2] at hd;cases hd
  have OM:upd H2 d (.dT []) p=some (.dT (zk ((ls.take i).map (·.nm)) ds)):=by rw[e_ Y9.symm];exact h1
  have Cf:l.nm∉(ls.take i).map (·.nm):=fun z=>by
   have e2:(ls.map (·.nm)).take i=(ls.take i).map (·.nm):=List.map_take.symm
   rw[←e2] at z
   obtain⟨j,hj,e⟩:=aaT.mp z |>.imp fun j h=>(⟨(Vb.mp h).1,h⟩:j<((ls.map (·.nm)).take i).length∧((ls.map (·.nm)).take i)[j]?=some l.nm)
   have IB:j<i:=by rw[aay] at hj;omega
   rw[abK,aax IB] at e
   have e3:(ls.map (·.nm))[i]?=some l.nm:=by rw[aan,hl];rfl
   have:=(abQ (Vb.mp e).1 nd).mp (e.trans e3.symm)
   omega
  refine⟨_,rfl,_,rfl,b,A.gQ,dx,_,_,rfl,s4 _ _ g1,O.iN,O.gT,ja,p,_,rfl,nJ.t (k:=nk l.nm) OM (s4 _ _ g2) ?_,?_⟩
  ·have:(zk ((ls.take i).map (·.nm)) ds).length≤ds.length:=by unfold zk;rw[List.length_zipWith];exact Nat.min_le_right _ _
   rw[h2,U8,aay] at this
   exact abz (m:=4000) (by have:rj ls.length:=jc;unfold rj at this;omega) (by decide)
  ·have e:putK (zk ((ls.take i).map (·.nm)) ds) (nk l.nm) (V.ref d)=zk ((ls.take (i+1)).map (·.nm)) (ds++[d]):=by
    rw[take_snoc hl,aaA]
    show _=zk (_++[l.nm]) _
    rw[Jp _ _ h2.symm]
    refine Ge _ ?_
    exact GZ (by rw[ES h2.symm];exact fun z=>Cf (uH.mp z))
   rw[e]
   refine⟨_,ds++[d],rfl,s4.upd hp,b_,?_,?_,?_⟩
   ·rw[take_snoc hl,aaA,Y5,Y5,h2];rfl
   ·rw[aa6]
    exact⟨h3,by simp,fun x hx y hy z=>Ni (by rw[Yc.mp hy] at z;exact z▸hx)⟩
   ·intro x hx
    rcases aaf.mp hx with hx|hx
    ·obtain⟨k1,k2,k3⟩:=h4 x hx
     refine⟨k1,k2,?_⟩
     rw[e_ k2,e_ (fun z=>by rw[z] at hx;exact Ni hx)]
     exact k3
    ·rw[Yc.mp hx]
     exact⟨s3.free hd,Y9,by rw[e_ Y9];exact b_⟩
 ·rintro σ H2 ⟨v0,ds,rfl,s3,h1,h2,h3,h4⟩
  have el:(as.map V.ref).length=ls.length:=by rw[U8];exact hlen
  rw[el,aam] at h1 h2
  have WL:=h2.symm
  have Fh:∀n∈ls.map (·.nm),iV (zk (ls.map (·.nm)) ds) (nk n)=some (.ref (vq (ls.map (·.nm)) ds n)):=fun n hn=>Mj WL hn
  have OS:∀n∈ls.map (·.nm),∀m∈ls.map (·.nm),vq (ls.map (·.nm)) ds n=vq (ls.map (·.nm)) ds m→n=m:=fun n hn m hm e=>Ml WL h3 hn hm e
  have Aj:∀n∈ls.map (·.nm),H (vq (ls.map (·.nm)) ds n)=none∧vq (ls.map (·.nm)) ds n≠p∧H2 (vq (ls.map (·.nm)) ds n)=some (.dT []):=fun n hn=>h4 _ (ET WL hn)
  generalize vq (ls.map (·.nm)) ds=ad at Fh OS Aj
  have PD:=ES WL
  generalize zk (ls.map (·.nm)) ds=kvs at h1 Fh PD
  dsimp only [nE];refine LM ?_;intro _
  let Jv:=fun(i:Nat) (σ:St) (H3:Hp)=>∃(v:Option V)(sf:Nm→List Nm),σ=[rr a,rr p,v]∧gk H H3∧H3 p=some (.dT kvs)∧(∀n∈ls.map (·.nm),C0 H3 (ad n) (sf n))∧∀n,(sf n).Nodup∧(sf n).length≤2*i∧∀m,m∈sf n↔Sa (ls.take i) m n
  refine⟨_,rfl,a,rfl,⟨_,gK.of (s3 a _ ha)⟩,je (K:=K) (a:=a) (xs:=as.map V.ref) Jv
   ⟨v0,fun _=>[],rfl,s3,h1,fun n hn=>⟨[],(Aj n hn).2.2,rfl⟩,fun n=>⟨abr,aaU _,fun m=>⟨(fun z=>by cases z),fun⟨x,hx,_⟩=>by rw[abH] at hx;cases hx⟩⟩⟩ (by rintro _ _ _ _ ⟨_,_,_,s3,_⟩;exact gK.of (s3 a _ ha)) ?_ ?_⟩
  ·rintro i v σ H3 hx ⟨v1,sf,rfl,s4,k1,k2,k3⟩
   obtain⟨b,hb,rfl⟩:=k9 hx
   obtain⟨l,hl,dx,vn,vu,vl,g1,⟨t,rfl,g2⟩,g3,g4⟩:=iC pa hb
   have hi:i<ls.length:=(Vb.mp hl).1
   have hi4:i<4000:=aaK hi jc
   have AB:l.nm∈ls.map (·.nm):=aai (Yd hl)
   have step:∀{H3:Hp} {sf:Nm→List Nm} {n m:Nm},gk H H3→H3 p=some (.dT kvs)→(∀n∈ls.map (·.nm),C0 H3 (ad n) (sf n))→n∈ls.map (·.nm)→∀dk,H3 (ad n)=some (.dT dk)→dk.map (·.1)=(sf n).map nk→
     gk H (upd H3 (ad n) (.dT (putK dk (nk m) (V.bl true))))∧upd H3 (ad n) (.dT (putK dk (nk m) (V.bl true))) p=some (.dT kvs)∧(∀x∈ls.map (·.nm),C0 (upd H3 (ad n) (.dT (putK dk (nk m) (V.bl true)))) (ad x) (if x=n then pL (sf n) m else sf x)):=fun{H3 sf n m} s4 k1 k2 hn dk hdk Y_=>by
    refine⟨s4.upd (Aj n hn).1,by rw[e_ (Aj n hn).2.1.symm];exact k1,fun x hx=>?_⟩
    by_cases e:x=n
    ·subst e
     rw[aax rfl]
     exact⟨_,b_,x9 Y_ m _⟩
    ·rw[aau e]
     obtain⟨RX,e1,e2⟩:=k2 x hx
     exact⟨RX,by rw[e_ (fun z=>e (OS x hx n hn z))];exact e1,e2⟩
   have WM:∀m n,Sa (ls.take (i+1)) m n↔Sa (ls.take i) m n∨(l.nm=n∧l.up=some m)∨(l.nm=m∧l.lo=some n):=fun m n=>by rw[take_snoc hl];exact Oa
   refine⟨fun σ H4=>∃sf:Nm→List Nm,σ=[rr a,rr p,rr b]∧gk H H4∧H4 p=some (.dT kvs)∧(∀n∈ls.map (·.nm),C0 H4 (ad n) (sf n))∧∀n,(sf n).Nodup∧(sf n).length≤2*i+1∧∀m,m∈sf n↔Sa (ls.take i) m n∨(l.nm=n∧l.up=some m),?_,?_⟩
   ·refine⟨_,rfl,b,A.gQ,dx,_,_,rfl,s4 _ _ g1,O.iN,O.iF,EO,_,rfl,?_⟩
    cases hu:l.up with
    | none=>
     rw[hu] at g3
     rw[show vu=V.js from g3]
     exact⟨sf,rfl,s4,k1,k2,fun n=>⟨(k3 n).1,by have:=(k3 n).2.1;omega,fun m=>by rw[(k3 n).2.2 m];exact⟨.inl,fun z=>z.elim id fun z=>by cases z.2⟩⟩⟩
    | some u=>
     rw[hu] at g3
     obtain⟨tu,rfl,gu⟩:=(show lr H vu u from g3)
     obtain⟨dk,e1,e2⟩:=k2 l.nm AB
     have hdl:dk.length=(sf l.nm).length:=by have:=abb List.length e2;rwa [U8,U8] at this
     refine⟨_,rfl,_,rfl,b,A.gQ,dx,_,_,rfl,s4 _ _ g1,O.iN,O.gT,ja,p,.ref (ad l.nm),rfl,?_,_,rfl,b,A.gQ,dx,_,_,rfl,s4 _ _ g1,O.iN,O.iF,EO,ad l.nm,_,rfl,nJ.t (k:=nk u) e1 (s4 _ _ gu) (abz (m:=8000) (by have:=(k3 l.nm).2.1;omega) (by decide)),?_⟩
     ·have:=iY.t (k:=nk l.nm) k1 (s4 _ _ g2)
      rw[Fh _ AB] at this
      exact this
     ·obtain⟨z1,z2,z3⟩:=step (m:=u) s4 k1 k2 AB dk e1 e2
      refine⟨fun x=>if x=l.nm then pL (sf l.nm) u else sf x,rfl,z1,z2,z3,fun n=>?_⟩
      obtain⟨y1,y2,y3⟩:=k3 n
      show(if n=l.nm then pL (sf l.nm) u else sf n).Nodup∧(if n=l.nm then pL (sf l.nm) u else sf n).length≤_∧∀m,m∈(if n=l.nm then pL (sf l.nm) u else sf n)↔_
      by_cases e:n=l.nm
      ·subst e
       rw[aax rfl]
       have:=G0 (l:=sf l.nm) (m:=u)
       refine⟨AS y1,by omega,fun m=>?_⟩
       rw[uI,y3 m]
       exact⟨fun z=>z.elim .inl fun z=>.inr ⟨rfl,by rw[z]⟩,fun z=>z.elim .inl fun z=>.inr (aaJ z.2).symm⟩
      ·rw[aau e]
       refine⟨y1,by omega,fun m=>?_⟩
       rw[y3 m]
       exact⟨.inl,fun z=>z.elim id fun z=>absurd z.1.symm e⟩
   ·rintro σ H4 ⟨JK,rfl,s5,k4,k5,k6⟩
    have fin:∀(RY:Nm→List Nm)(n:Nm),((RY n).Nodup∧(RY n).length≤2*i+2∧∀m,m∈RY n↔(Sa (ls.take i) m n∨(l.nm=n∧l.up=some m))∨(l.nm=m∧l.lo=some n))→(RY n).Nodup∧(RY n).length≤2*(i+1)∧∀m,m∈RY n↔Sa (ls.take (i+1)) m n:=fun RY n ⟨z1,z2,z3⟩=>
     ⟨z1,by omega,fun m=>by rw[z3 m,WM m n,or_assoc]⟩
    refine⟨_,rfl,b,A.gQ,dx,_,_,rfl,s5 _ _ g1,O.iN,O.iG,ER,_,rfl,?_⟩
    cases hu:l.lo with
    | none=>
     rw[hu] at g4
     rw[show vl=V.js from g4]
     refine⟨_,JK,rfl,s5,k4,k5,fun n=>fin JK n ⟨(k6 n).1,by have:=(k6 n).2.1;omega,fun m=>?_⟩⟩
     rw[(k6 n).2.2 m,hu]
     exact⟨.inl,fun z=>z.elim id fun z=>by cases z.2⟩
    | some d=>
     have Ni:d∈ls.map (·.nm):=(cl l (Yd hl)).2 d hu
     rw[hu] at g4
     obtain⟨td,rfl,gd⟩:=(show lr H vl d from g4)
     obtain⟨dk,e1,e2⟩:=k5 d Ni
     have hdl:dk.length=(JK d).length:=by have:=abb List.length e2;rwa [U8,U8] at this
     refine⟨_,rfl,_,rfl,b,A.gQ,dx,_,_,rfl,s5 _ _ g1,O.iN,O.iG,ER,p,.ref (ad d),rfl,?_,_,rfl,b,A.gQ,dx,_,_,rfl,s5 _ _ g1,O.iN,O.gT,ja,ad d,_,rfl,nJ.t (k:=nk l.nm) e1 (s5 _ _ g2) (abz (m:=8001) (by have:=(k6 d).2.1;omega) (by decide)),?_⟩
     ·have:=iY.t (k:=nk d) k4 (s5 _ _ gd)
      rw[Fh _ Ni] at this
      exact this
     ·obtain⟨z1,z2,z3⟩:=step (m:=l.nm) s5 k4 k5 Ni dk e1 e2
      refine⟨_,fun x=>if x=d then pL (JK d) l.nm else JK x,rfl,z1,z2,z3,fun n=>fin (fun x=>if x=d then pL (JK d) l.nm else JK x) n ?_⟩
      obtain⟨y1,y2,y3⟩:=k6 n
      show(if n=d then pL (JK d) l.nm else JK n).Nodup∧(if n=d then pL (JK d) l.nm else JK n).length≤_∧∀m,m∈(if n=d then pL (JK d) l.nm else JK n)↔_
      by_cases e:n=d
      ·subst e
       rw[aax rfl]
       have:=G0 (l:=JK n) (m:=l.nm)
       refine⟨AS y1,by omega,fun m=>?_⟩
       rw[uI,y3 m,hu]
       exact⟨fun z=>z.elim .inl fun z=>.inr ⟨z.symm,rfl⟩,fun z=>z.elim .inl fun z=>.inr z.1.symm⟩
      ·rw[aau e]
       refine⟨y1,by omega,fun m=>?_⟩
       rw[y3 m,hu]
       exact⟨.inl,fun z=>z.elim id fun z=>absurd (aaJ z.2).symm e⟩
  ·rintro σ H3 ⟨v1,sf,rfl,s4,k1,k2,k3⟩
   rw[U8,hlen] at k3
   exact⟨_,rfl,q p _ ad sf s4 hp (fun n hn=>(Aj n hn).1) ⟨⟨kvs,k1,Fh,PD⟩,OS,k2⟩ fun n=>⟨(k3 n).1,fun m=>by rw[(k3 n).2.2 m,aam]⟩⟩
theorem lr.upd{H:Hp}{v:V}{n:Nm}{x:Addr}{o o':HO}(h:lr H v n)(hx:H x=some o')(ht:∀xs,o'≠.tup xs):lr (L2.upd H x o) v n:=by
 obtain⟨t,e,Y1⟩:=h
 exact⟨t,e,by rw[e_ (jd Y1 hx (fun z=>ht _ z.symm))];exact Y1⟩
theorem uJ{dk:List (List Key×V)}{l:List Nm}(h:dk.map (·.1)=l.map nk):dk.length=l.length:=by
 have:=abb List.length h
 rwa [U8,U8] at this
theorem G1{dk:List (List Key×V)}{l:List Nm}(h:dk.map (·.1)=l.map nk){i:Nat}{k:List Key}{v:V}(hi:dk[i]?=some (k,v)):∃n,l[i]?=some n∧k=nk n:=by
 have h1:(dk.map (·.1))[i]?=some k:=by rw[aan,hi];rfl
 rw[h,aan] at h1
 obtain⟨n,e,e2⟩:=aaL.mp h1
 exact⟨n,e,e2.symm⟩
theorem keys_has{dk:List (List Key×V)}{l:List Nm}(h:dk.map (·.1)=l.map nk)(n:Nm):(iV dk (nk n)).isSome=decide (n∈l):=by
 by_cases m:n∈l
 ·rw[XZ m];exact vb.mpr (by rw[h];exact uH.mpr m)
 ·rw[aac m,aa8];exact fun z=>m (uH.mp (by rw[←h];exact vb.mp z))
theorem G2:∀(more:List (List Key×V))(dk:List (List Key×V))(l r:List Nm),dk.map (·.1)=l.map nk→more.map (·.1)=r.map nk→l.Nodup→∃l':List Nm,(putAll dk more).map (·.1)=l'.map nk∧l'.Nodup∧∀m,m∈l'↔m∈l∨m∈r
 | [],dk,l,r,h1,h2,nd=>by
  have:r=[]:=by cases r with|nil=>rfl|cons _ _=>cases h2
  subst this
  exact⟨l,h1,nd,fun m=>by simp⟩
 | p::t,dk,l,r,h1,h2,nd=>by
  cases r with
  | nil=>cases h2
  | cons x r=>
   rw[aaB,aaB] at h2
   injection h2 with e1 e2
   rw[tQ,e1]
   obtain⟨l',z1,z2,z3⟩:=G2 t (putK dk (nk x) p.2) (pL l x) r (x9 h1 x _) e2 (AS nd)
   refine⟨l',z1,z2,fun m=>?_⟩
   rw[z3 m,uI,aag,or_assoc]
def QZ:Sp:=fun vs H Q _=>∃(d a:Addr)(xs:List Nm)(ka:List (List Key×V))(af:Nm→List Nm),vs=[.ref d,.ref a]∧C0 H d xs∧d≠a∧H a=some (.dT ka)∧(∀x∈xs,∃b,iV ka (nk x)=some (.ref b)∧b≠d∧C0 H b (af x))∧xs.length≤4000∧(∀x∈xs,(af x).length≤4000)∧
 ∀p H' rs,gk H H'→H p=none→C0 H' p rs→rs.Nodup→(∀m,m∈rs↔∃x∈xs,m=x∨m∈af x)→Q (.ref p) H'
theorem Kq(T:Txt mg)(O:Ok K mg A):ip P w K mg base nu 1 A.GO A.GQ ["names","ahead"] QZ:=by
 refine O.joined.f.rh yN fun jh A0 outer s H vs Q E hr h=>?_
 obtain⟨d,a,xs,ka,af,rfl,⟨kd,hd,hk⟩,hda,ha,hb,hx4,haf,q⟩:=h
 refine⟨_,(de (lB 2 yN oj)
   (de (AL (iP aaG rfl (Bt (pv 0)) (vZ 3 yN) (de (jm (by exact iO hr) (pv 2) (pv 3) nB rfl)
   (f_ (ib (LZ (by exact iO hr) (pv 2) (v_ hr (pv 1) (pv 3)) ⟨rfl,rfl,rfl,rfl⟩))))))
   (f_ (gP (pv 2))))),?_⟩
 refine Ei ?_;intro _ _
 intro p hp
 have Ve:p≠d:=(gn hd hp).symm
 have Vf:p≠a:=(gn ha hp).symm
 refine⟨_,rfl,d,kd,rfl,by rw[e_ Ve.symm];exact hd,fun o uz=>?_⟩
 have Hx:=uJ hk
 let Jv:=fun(i:Nat) (σ:St) (H2:Hp)=>∃(v:Option V)(kf:List (List Key×V))(rs:List Nm),σ=[rr d,rr a,rr p,v]∧(∀b o,H b=some o→b≠d→H2 b=some o)∧H2 d=some (.oO o (.dT kd))∧H2 p=some (.dT kf)∧kf.map (·.1)=rs.map nk∧rs.Nodup∧kf.length≤i*4001∧∀m,m∈rs↔∃x∈xs.take i,m=x∨m∈af x
 refine DI (d:=d) (o:=o) (kvs:=kd) Jv
  ⟨none,[],[],rfl,fun b o e nb=>by rw[e_ nb,e_ (gn e hp)];exact e,b_,by rw[e_ Ve];exact b_,rfl,abr,by simp,fun m=>by simp⟩ (by rintro _ _ _ ⟨_,_,_,_,_,e,_⟩;exact e) ?_ ?_
 ·rintro i k v t σ H2 hi ht ⟨v0,kf,rs,rfl,h1,h2,h3,h4,h5,h6,h7⟩
  obtain⟨x,hx,rfl⟩:=G1 hk hi
  have hxm:x∈xs:=Yd hx
  have Cd:i<xs.length:=(Vb.mp hx).1
  obtain⟨b,e1,e2,kb,e3,e4⟩:=hb x hxm
  have WN:b≠p:=gn e3 hp
  have Pz:=uJ e4
  have hb4:=haf x hxm
  have YR:t≠p:=fun z=>by rw[z,h3] at ht;cases ht
  have hl:=jL kf (nk x) (V.bl true)
  have sz:sizeLine=16777216:=aaF
  have hmul:i*4001≤4000*4001:=Nat.mul_le_mul_right _ (by omega)
  refine⟨_,rfl,_,rfl,p,_,rfl,nJ.t (k:=nk x) h3 ht (by omega),?_⟩
  have tm:putK kf (nk x) (V.bl true)≠[]:=fun z=>by
   have:=x9 h4 x (V.bl true)
   rw[z] at this
   have hm:x∈pL rs x:=uI.mpr (.inr rfl)
   cases hq:pL rs x with
   | nil=>rw[hq] at hm;cases hm
   | cons _ _=>rw[hq] at this;cases this
  refine⟨_,rfl,p,rfl,.inr ⟨_,.inl b_⟩,_,rfl,_,rfl,a,.ref b,rfl,?_,b,_,kb,rfl,b_,.inl (by rw[e_ WN];exact h1 _ _ e3 e2),WN.symm,tm,by omega,?_⟩
  ·have:=iY.t (H:=L2.upd H2 p (.dT (putK kf (nk x) (V.bl true)))) (k:=nk x) (by rw[e_ Vf.symm];exact h1 a _ ha hda.symm) (b:=t) (by rw[e_ YR];exact ht)
   rw[e1] at this
   exact this
  ·obtain⟨l',z1,z2,z3⟩:=G2 kb _ (pL rs x) (af x) (x9 h4 x (V.bl true)) e4 (AS h5)
   refine⟨_,_,l',rfl,fun b o e nb=>?_,?_,b_,z1,z2,?_,fun m=>?_⟩
   ·rw[e_ (gn e hp),e_ (gn e hp)];exact h1 b o e nb
   ·rw[e_ Ve.symm,e_ Ve.symm];exact h2
   ·have:=rG kb (putK kf (nk x) (V.bl true))
    have:(i+1)*4001=i*4001+4001:=Nat.succ_mul _ _
    omega
   ·rw[z3 m,uI,h7 m,take_snoc hx]
    constructor
    ·rintro((⟨y,hy,z⟩|z)|z)
     ·exact⟨y,aaC _ hy,z⟩
     ·exact⟨x,by simp,.inl z⟩
     ·exact⟨x,by simp,.inr z⟩
    ·rintro⟨y,hy,z⟩
     rcases aaf.mp hy with hy|hy
     ·exact .inl (.inl ⟨y,hy,z⟩)
     ·rw[Yc.mp hy] at z
      exact z.elim (fun z=>.inl (.inr z)) .inr
 ·rintro σ H2 ⟨v0,kf,rs,rfl,h1,h2,h3,h4,h5,h6,h7⟩
  rw[Hx,aam] at h7
  refine⟨d,o,_,h2,uz,_,rfl,q p _ rs (fun b u e=>?_) hp ⟨kf,by rw[e_ Ve];exact h3,h4⟩ h5 h7⟩
  by_cases Za:b=d
  ·subst Za;rw[b_];rw[hd] at e;exact e
  ·rw[e_ Za];exact h1 b u e Za
structure qx(ls:List Ln)(H1 H:Hp)(h:Addr)(S:List Nm)(af:Nm→List Nm):Prop where
 ex:∃kvs,H h=some (.dT kvs)∧kvs.map (·.1)=S.map nk∧∀n∈S,∃b,iV kvs (nk n)=some (.ref b)∧b≠h∧H1 b=none∧C0 H b (af n)
 nd:S.Nodup
 good:∀n∈S,n∈ls.map (·.nm)∧(af n).Nodup∧∀m,m∈af n↔Ah ls m n
theorem qx.same{ls:List Ln}{H1 H H':Hp}{h:Addr}{S:List Nm}{af:Nm→List Nm}(x:qx ls H1 H h S af)(s:gk H H'):qx ls H1 H' h S af:=by
 obtain⟨⟨kvs,e1,e2,e3⟩,nd,g⟩:=x
 refine⟨⟨kvs,s _ _ e1,e2,fun n hn=>?_⟩,nd,g⟩
 obtain⟨b,z1,z2,z3,dk,z4,z5⟩:=e3 n hn
 exact⟨b,z1,z2,z3,dk,s _ _ z4,z5⟩
theorem qx.lst{ls:List Ln}{H1 H:Hp}{h c:Addr}{S:List Nm}{af:Nm→List Nm}{xs:List V}{o:HO}(x:qx ls H1 H h S af)(hc:H c=some (.lst xs)):qx ls H1 (L2.upd H c o) h S af:=by
 obtain⟨⟨kvs,e1,e2,e3⟩,nd,g⟩:=x
 refine⟨⟨kvs,by rw[e_ (jd e1 hc (fun z=>by cases z))];exact e1,e2,fun n hn=>?_⟩,nd,g⟩
 obtain⟨b,z1,z2,z3,dk,z4,z5⟩:=e3 n hn
 exact⟨b,z1,z2,z3,dk,by rw[e_ (jd z4 hc (fun z=>by cases z))];exact z4,z5⟩
theorem Jq{sf:Nm→List Nm}{B n:Nat}{st S:List Nm}(r:Run sf B n st S):st.length≤B:=by
 cases r with
 | nil=>exact aaU _
 | skip _ h _=>exact h
 | fin _ _ h _=>exact h
 | push _ _ h _=>exact h
theorem G3{α β:Type}{F:α→β→Prop}{vs:List α}{xs:List β}{x:β}(p:Paired F vs (xs++[x])):∃WO v,vs=WO++[v]∧Paired F WO xs∧F v x:=by
 induction xs generalizing vs with
 | nil=>
  cases p with
  | cons f t=>cases t;exact⟨[],_,rfl,.nil,f⟩
 | cons y r ih=>
  cases p with
  | cons f t=>
   obtain⟨WO,v,rfl,h1,h2⟩:=ih t
   exact⟨_::WO,v,rfl,.cons f h1,h2⟩
def EU(H:Hp)(p:Addr)(ls:List Ln):Prop:=∃kvs,H p=some (.dT kvs)∧∀n∈ls.map (·.nm),∃b dk,iV kvs (nk n)=some (.ref b)∧H b=some (.dT dk)∧∀m,(iV dk (nk m)).isSome=true↔Ah ls m n
theorem EU.same{H H':Hp}{p:Addr}{ls:List Ln}(x:EU H p ls)(s:gk H H'):EU H' p ls:=by
 obtain⟨kvs,e1,e2⟩:=x
 refine⟨kvs,s _ _ e1,fun n hn=>?_⟩
 obtain⟨b,dk,z1,z2,z3⟩:=e2 n hn
 exact⟨b,dk,z1,s _ _ z2,z3⟩
def T_(A:Ad):Sp:=fun vs H Q _=>∃(a:Addr)(ls:List Ln),vs=[.ref a]∧pK A H a ls∧rj ls.length∧(ls.map (·.nm)).Nodup∧rL ls∧L9 ls∧∀p H',gk H H'→H p=none→EU H' p ls→Q (.ref p) H'
theorem EV(T:Txt mg)(O:Ok K mg A):ip P w K mg base nu 2 A.zK A.zL ["lines"] (T_ A):=by
 have zd:=@x_ P w K mg base A T O
 have MW:=@Kq P w K mg base A T O
 refine O.DL.f.rh j3 fun jh A0 outer s H vs Q E hr h=>?_
 obtain⟨a,ls,rfl,la,jc,nd,cl,tp,q⟩:=h
 obtain⟨as,ha,pa⟩:=id la
 have hlen:=aav pa
 have AD:ls.length≤4000:=jc
 refine⟨_,(de (lB 1 j3 (pJ O.uw zd hr (a_ (pv 0) d_)))
   (de (mD (i:=2) j3.nd rfl (Or.inr rfl) oj)
   (de (iP aaG rfl (ir (pv 0)) (vZ 3 j3) (de (lB 4 j3 (iA (a_ (gF (pv 3) rfl) d_)))
   (f_ (FQ aaG (xf (pv 4) (fun _=>rfl)) (de (lB 5 j3 (Qn aaW PySem.F.slot_list_pop PySem.F.type_list_pop Qp (pv 4)))
   (de (iz (ji (qp (by exact iO hr) (pv 5) (pv 2))) (f_ (FP)) ia)
   (de (AL (Bf (j:=6) zA (gc pV).names [7] j3.nd rfl rfl rfl (Bt (v_ hr (pv 1) (pv 5))) rfl (by decide+kernel) (fun _ _ _ _=>(iy (i:=7) j3.nd rfl (Or.inl rfl))) (fun _ _ _ _=>⟨_,nK (ji (kD (by exact iO hr) (pv 7) (pv 2))),by(try simp only [kW]);rfl⟩) (fun _ _ _ _=>zx (pv 7))))
   (f_ (iz (xf (pv 6) (fun _=>rfl)) (de (ib (qH aaW aa3 aa4 lx (pv 4) (a_ (pv 5) d_)))
   (f_ (ib (qH aaW PySem.F.slot_list_extend PySem.F.type_list_extend Dx (pv 4) (a_ (pv 6) d_))))) (f_ (jm (by exact iO hr) (pv 2) (pv 5) (pJ O.joined MW hr (a_ (v_ hr (pv 1) (pv 5)) (a_ (pv 2) d_))) rfl)))))))))))
   (f_ (gP (pv 2)))))),?_⟩
 refine NP ?_;intro _ _ _
 refine⟨_,rfl,a,ls,rfl,la,jc,nd,cl,fun st H1 ad sf s1 hst0 had0 yp RZ=>?_⟩
 obtain⟨⟨kst,OT,Vg,Zb⟩,OS,Y_⟩:=yp
 have hN:(1+ls.length*ls.length)≤16000001:=by have:=Nat.mul_le_mul AD AD;omega
 have sz:sizeLine=16777216:=aaF
 have Vh:∀n,(sf n).length≤4000:=fun n=>by
  have:=len_sub (ys:=ls.map (·.nm)) (RZ n).1 fun y hy=>(cl.sa (((RZ n).2 y).mp hy)).1
  rw[U8] at this;omega
 intro h hh
 have s2:gk H1 (L2.upd H1 h (.dT [])):=(gk.refl H1).new hh
 dsimp only [nE];refine LM ?_;intro _
 let Jv:=fun(i:Nat) (σ:St) (H2:Hp)=>∃(v3 v4 v5 v6:Option V)(S:List Nm)(af:Nm→List Nm),σ=[rr a,rr st,rr h,v3,v4,v5,v6,none]∧gk H1 H2∧qx ls H1 H2 h S af∧∀l∈ls.take i,l.nm∈S
 refine⟨_,rfl,a,rfl,⟨_,gK.of (s2 _ _ (s1 _ _ ha))⟩,je (K:=K) (a:=a) (xs:=as.map V.ref) Jv
  ⟨none,none,none,none,[],fun _=>[],rfl,s2,⟨⟨[],b_,rfl,fun n hn=>by cases hn⟩,abr,fun n hn=>by cases hn⟩,fun l hl=>by rw[abH] at hl;cases hl⟩ (by rintro _ _ _ _ ⟨_,_,_,_,_,_,_,s3,_⟩;exact gK.of (s3 _ _ (s1 _ _ ha))) ?_ ?_⟩
 ·rintro i v σ H2 hx ⟨v3,v4,v5,v6,S0,af0,rfl,s3,D0,hS0⟩
  obtain⟨b,hb,rfl⟩:=k9 hx
  obtain⟨l,hl,dx,vn,vu,vl,g1,⟨t0,rfl,g2⟩,g3,g4⟩:=iC pa hb
  have AB:l.nm∈ls.map (·.nm):=aai (Yd hl)
  refine⟨_,rfl,b,A.gQ,dx,_,_,rfl,s3 _ _ (s1 _ _ g1),O.iN,O.gT,ja,L2.jc,fun c hc=>?_⟩
  have Zc:H1 c=none:=s3.free hc
  have s4:gk H1 (L2.upd H2 c (.lst [.ref t0])):=s3.new hc
  obtain⟨n0,r0⟩:=L_ cl tp RZ l.nm S0
  refine⟨fun m σ H3=>∃(v5 v6:Option V)(sk S:List Nm)(af:Nm→List Nm)(cv:List V),σ=[rr a,rr st,rr h,rr b,rr c,v5,v6,none]∧Run sf (1+ls.length*ls.length) m sk S∧gk H1 H3∧H3 c=some (.lst cv)∧Paired (lr H3) cv sk.reverse∧qx ls H1 H3 h S af∧(∀y∈sk,y∈ls.map (·.nm))∧(l.nm∈sk∨l.nm∈S)∧(∀y∈S0,y∈S),
   ⟨n0,v5,v6,[l.nm],S0,af0,[.ref t0],rfl,r0,s4,b_,.cons ⟨t0,rfl,s4 _ _ (s1 _ _ g2)⟩ .nil,D0.same ((gk.refl H2).new hc),fun y hy=>by rw[Yc.mp hy];exact AB,.inl (by simp),fun _ z=>z⟩,?_⟩
  rintro m σ H3 ⟨v5,v6,sk,S,af,cv,rfl,run,s5,R0,Zd,D,Ze,MS,hS⟩
  cases sk with
  | nil=>
   have:cv=[]:=by cases Zd;rfl
   subst this
   refine⟨_,rfl,false,.inl ⟨_,gK.of R0,rfl⟩,jY ?_⟩
   refine⟨_,_,_,_,S,af,rfl,s5,D,fun y hy=>?_⟩
   rw[take_snoc hl] at hy
   rcases aaf.mp hy with hy|hy
   ·exact hS _ (hS0 y hy)
   ·rw[Yc.mp hy]
    exact MS.elim (fun z=>by cases z) id
  | cons x sk=>
   rw[List.reverse_cons] at Zd
   obtain⟨K7,vx,rfl,Vi,t,rfl,ht⟩:=G3 Zd
   have CN:x∈ls.map (·.nm):=Ze x aaz
   have Vj:∀y∈sk,y∈ls.map (·.nm):=fun y hy=>Ze y (aap _ hy)
   have PB:K7.length=sk.length:=by have:=aav Vi;rwa [abt] at this
   refine⟨_,rfl,true,.inl ⟨_,gK.of R0,by simp⟩,mx ?_⟩
   obtain⟨n,hn,run'⟩:∃n,m=n+1∧(x∈S∧Run sf (1+ls.length*ls.length) n sk S∨x∉S∧Gx sf S x=[]∧Run sf (1+ls.length*ls.length) n sk (S++[x])∨x∉S∧Gx sf S x≠[]∧Run sf (1+ls.length*ls.length) n ((Gx sf S x).reverse++x::sk) S):=by
    cases run with
    | skip z1 _ z2=>exact⟨_,rfl,.inl ⟨z1,z2⟩⟩
    | fin z1 z2 _ z3=>exact⟨_,rfl,.inr (.inl ⟨z1,z2,z3⟩)⟩
    | push z1 z2 _ z3=>exact⟨_,rfl,.inr (.inr ⟨z1,z2,z3⟩)⟩
   have Wy:sk.length+1≤16000001:=by have:=Jq run;rw[aal] at this;omega
   subst hn
   refine⟨fun σ H4=>∃(v5 v6:Option V)(sk S:List Nm)(af:Nm→List Nm)(cv:List V),σ=[rr a,rr st,rr h,rr b,rr c,v5,v6,none]∧Run sf (1+ls.length*ls.length) n sk S∧gk H1 H4∧H4 c=some (.lst cv)∧Paired (lr H4) cv sk.reverse∧qx ls H1 H4 h S af∧(∀y∈sk,y∈ls.map (·.nm))∧(l.nm∈sk∨l.nm∈S)∧(∀y∈S0,y∈S),fun σ' H' z=>⟨n,acv n,z⟩,?_⟩
   refine⟨_,rfl,.inl ⟨rfl,_,gK.of R0⟩,c,_,.ref t,rfl,rfl,R0,by simp,?_⟩
   rw[List.dropLast_concat]
   have D4:qx ls H1 (L2.upd H3 c (.lst K7)) h S af:=D.lst R0
   have s6:gk H1 (L2.upd H3 c (.lst K7)):=s5.upd Zc
   have p4:Paired (lr (L2.upd H3 c (.lst K7))) K7 sk.reverse:=Paired.lA Vi fun _ _ z=>z.upd R0 (fun _ z=>by cases z)
   have SV:L2.upd H3 c (.lst K7) t=some (nT x):=by rw[e_ (jd ht R0 (fun z=>by cases z))];exact ht
   have SW:L2.upd H3 c (.lst K7) c=some (.lst K7):=b_
   generalize L2.upd H3 c (.lst K7)=H4 at D4 s6 p4 SV SW ⊢
   obtain⟨⟨kvs,e1,e2,e3⟩,Zf,good⟩:=id D4
   refine⟨_,rfl,_,rfl,h,_,rfl,iY.t (k:=nk x) e1 SV,_,rfl,?_⟩
   rw[keys_has e2 x]
   rcases run' with⟨SX,r⟩|PH
   ·rw[XZ SX]
    refine mx ⟨_,_,sk,S,af,K7,rfl,r,s6,SW,p4,D4,Vj,?_,hS⟩
    exact MS.elim (fun z=>(aag.mp z).elim (fun z=>.inr (z▸SX)) .inl) .inr
   ·have SX:x∉S:=PH.elim (·.1) (·.1)
    rw[aac SX]
    refine jY ?_
    obtain⟨dk,Zg,hd2⟩:=Y_ x CN
    have Zh:=s6 _ _ Zg
    have Vk:ad x≠h:=gn Zg hh
    refine⟨_,rfl,_,rfl,st,.ref (ad x),rfl,?_,ad x,dk,rfl,Zh,fun o uz=>?_⟩
    ·have:=iY.t (k:=nk x) (s6 _ _ OT) SV
     rw[Vg x CN] at this
     exact this
    have Zi:∀{y:Addr} {u:HO},y≠ad x→H4 y=some u→L2.upd H4 (ad x) (.oO o (.dT dk)) y=some u:=fun ny e=>by rw[e_ ny];exact e
    refine LV (d:=ad x) (o:=o) (kvs:=dk) (by rw[uJ hd2];exact aah (Vh x) (by decide)) (fun i ys σ H5=>∃(v7:Option V),σ=[rr a,rr st,rr h,rr b,rr c,rr t,v6,v7]∧H5=L2.upd H4 (ad x) (.oO o (.dT dk))∧ys.length≤i∧Paired (lr (L2.upd H4 (ad x) (.oO o (.dT dk)))) ys (((sf x).take i).filter fun y=>y∉S))
     ⟨none,rfl,rfl,aab _,.nil⟩ (by rintro _ _ _ _ ⟨_,_,e,e4,_⟩;subst e;exact⟨b_,e4⟩) ?_ ?_
    ·rintro i k v tb ys σ H5 hi Zj ⟨v7,rfl,rfl,e4,e5⟩
     obtain⟨y,hy,rfl⟩:=G1 hd2 hi
     refine⟨_,rfl,_,rfl,h,_,rfl,iY.t (k:=nk y) (Zi Vk.symm e1) Zj,_,rfl,?_⟩
     rw[keys_has e2 y,take_snoc hy,aaQ]
     by_cases hm:y∈S
     ·rw[XZ hm]
      refine jY ⟨_,rfl,rfl,by omega,?_⟩
      rw[aaj (by simpa using hm),aa2,aaP]
      exact e5
     ·rw[aac hm]
      refine mx ⟨_,rfl,_,rfl,rfl,Ph,?_⟩
      rw[aae (by simpa using hm),aa2]
      exact ix e5 ⟨tb,rfl,Zj⟩
    ·rintro ys σ H5 ⟨v7,rfl,rfl,e4,e5⟩ p hp
     rw[uJ hd2,aam] at e5
     have Vf:p≠ad x:=fun z=>by rw[z,b_] at hp;cases hp
     have OU:H4 p=none:=by rw[e_ Vf] at hp;exact hp
     refine⟨ad x,o,_,by rw[e_ Vf.symm];exact b_,uz,?_⟩
     rw[Ek Zh Vf]
     have pm:Paired (lr H4) ys (Gx sf S x):=Paired.lA e5 fun v y ⟨tb,e,z⟩=>⟨tb,e,by
      have:tb≠ad x:=fun w=>by rw[w,b_] at z;cases z
      rwa [e_ this] at z⟩
     have s7:gk H4 (L2.upd H4 p (.lst ys)):=(gk.refl H4).new OU
     have hyl:ys.length=(Gx sf S x).length:=aav pm
     refine⟨_,rfl,!ys.isEmpty,.inl ⟨_,gK.of b_,rfl⟩,?_⟩
     rcases PH with⟨_,WQ,r⟩|⟨_,WQ,r⟩
     ·
      have:ys=[]:=aaV.mp (by rw[hyl,WQ];rfl)
      subst this
      refine jY ?_
      have Fg:=Er.mp WQ
      refine⟨_,rfl,_,rfl,st,.ref (ad x),rfl,?_,_,rfl,ad x,h,sf x,kvs,af,rfl,⟨dk,s7 _ _ Zh,hd2⟩,Vk,s7 _ _ e1,fun y hy=>?_,Vh x,fun y hy=>?_,fun p2 H6 rs s8 AX UX nd2 hm2=>?_⟩
      ·have:=iY.t (k:=nk x) (s7 _ _ (s6 _ _ OT)) (s7 _ _ SV)
       rw[Vg x CN] at this
       exact this
      ·obtain⟨bb,z1,z2,z3,RX,z4,z5⟩:=e3 y (Fg y hy)
       exact⟨bb,z1,(gn Zg z3).symm,RX,s7 _ _ z4,z5⟩
      ·obtain⟨z1,z2,z3⟩:=good y (Fg y hy)
       have:=len_sub (ys:=ls.map (·.nm)) z2 fun m hm=>(cl.ah ((z3 m).mp hm)).1
       rw[U8] at this;omega
      ·have s9:=s7.trans s8
       have hSl:S.length≤4000:=by
        have:=len_sub (ys:=ls.map (·.nm)) Zf fun m hm=>(good m hm).1
        rw[U8] at this;omega
       have e6:H6 h=some (.dT kvs):=s9 _ _ e1
       refine⟨_,rfl,_,rfl,h,_,rfl,nJ.t (k:=nk x) e6 (s9 _ _ SV) (by rw[uJ e2];omega),?_⟩
       have Vl:p2≠h:=(gn (s7 _ _ e1) AX).symm
       have Zk:H1 p2=none:=(s6.trans s7).free AX
       have key:putK kvs (nk x) (V.ref p2)=kvs++[(nk x,V.ref p2)]:=Ge _ (GZ (by rw[e2];exact fun z=>SX (uH.mp z)))
       have hhT:H1 h=none:=hh
       refine⟨_,_,sk,S++[x],fun y=>if y=x then rs else af y,K7,rfl,r,(s6.trans s9).upd hhT,?_,?_,⟨⟨_,b_,?_,fun y hy=>?_⟩,?_,fun y hy=>?_⟩,Vj,?_,fun y hy=>aaC _ (hS y hy)⟩
       ·rw[e_ (jd (s9 _ _ SW) e6 (fun z=>by cases z))];exact s9 _ _ SW
       ·exact Paired.lA p4 fun _ _ z=>(z.same s9).upd e6 (fun _ z=>by cases z)
       ·rw[key,aaA,e2,aaA];rfl
       ·show ∃bb,iV (putK kvs (nk x) (V.ref p2)) (nk y)=some (V.ref bb)∧bb≠h∧H1 bb=none∧C0 _ bb (if y=x then rs else af y)
        rw[j0]
        by_cases e:y=x
        ·subst e
         rw[aax rfl,aax rfl]
         obtain⟨RX,w1,w2⟩:=UX
         exact⟨p2,rfl,Vl,Zk,RX,by rw[e_ Vl];exact w1,w2⟩
        ·rw[aau (fun z=>e (qw z)),aau e]
         have hyS:y∈S:=(aaf.mp hy).elim id fun z=>absurd (Yc.mp z) e
         obtain⟨bb,z1,z2,z3,RX,z4,z5⟩:=e3 y hyS
         exact⟨bb,z1,z2,z3,RX,by rw[e_ z2];exact s9 _ _ z4,z5⟩
       ·rw[aa6]
        exact⟨Zf,by simp,fun u hu w hw z=>SX (by rw[Yc.mp hw] at z;have z:u=x:=z;exact z▸hu)⟩
       ·show y∈ls.map (·.nm)∧(if y=x then rs else af y).Nodup∧∀m,m∈(if y=x then rs else af y)↔Ah ls m y
        by_cases e:y=x
        ·subst e
         rw[aax rfl]
         refine⟨CN,nd2,fun m=>?_⟩
         rw[hm2 m,Ah.last]
         constructor
         ·rintro⟨u,hu,z⟩
          have WM:=((RZ y).2 u).mp hu
          rcases z with z|z
          ·exact .inl (z▸WM)
          ·exact .inr ⟨u,((good u (Fg u hu)).2.2 m).mp z,WM⟩
         ·rintro(z|⟨u,z1,z2⟩)
          ·exact⟨m,((RZ y).2 m).mpr z,.inl rfl⟩
          ·have hu:=((RZ y).2 u).mpr z2
           exact⟨u,hu,.inr (((good u (Fg u hu)).2.2 m).mpr z1)⟩
        ·rw[aau e]
         exact good y ((aaf.mp hy).elim id fun z=>absurd (Yc.mp z) e)
       ·exact MS.elim (fun z=>(aag.mp z).elim (fun z=>.inr (by rw[z];simp)) .inl) fun z=>.inr (aaC _ z)
     ·
      have hys:(!ys.isEmpty)=true:=by
       cases ys with
       | nil=>exact absurd (aaV.mp hyl.symm) WQ
       | cons _ _=>rfl
      refine DG hys ?_
      have Hw:=Jq r
      rw[Y5,abt,aal] at Hw
      have WR:=s7 _ _ SW
      refine⟨_,rfl,.inl ⟨rfl,_,gK.of WR⟩,_,rfl,c,_,_,rfl,rfl,WR,by omega,?_⟩
      have hpc:p≠c:=(gn SW OU).symm
      refine⟨_,rfl,.inl ⟨rfl,_,gK.of b_⟩,_,rfl,c,p,_,_,rfl,rfl,b_,by rw[e_ hpc];exact b_,by rw[Y5];show K7.length+1+ys.length≤_;omega,?_⟩
      refine⟨_,_,(Gx sf S x).reverse++x::sk,S,af,_,rfl,r,((s6.trans s7).upd Zc).upd Zc,b_,?_,((D4.same s7).lst WR).lst b_,fun y hy=>?_,?_,hS⟩
      ·rw[List.reverse_append,List.reverse_reverse,List.reverse_cons]
       refine Paired.lA (F:=lr (L2.upd H4 p (.lst ys))) (wu (ix (Paired.lA p4 fun _ _ z=>z.same s7) ⟨t,rfl,s7 _ _ SV⟩) (Paired.lA pm fun _ _ z=>z.same s7)) fun _ _ z=>?_
       exact(z.upd WR (fun _ z=>by cases z)).upd b_ (fun _ z=>by cases z)
      ·rcases aaf.mp hy with hy|hy
       ·have hy:=(aat.mp (List.mem_reverse.mp hy)).1
        exact(cl.sa (((RZ x).2 y).mp hy)).1
       ·exact Ze y hy
      ·exact MS.elim (fun z=>.inl (aaS _ z)) .inr
 ·rintro σ H2 ⟨v3,v4,v5,v6,S,af,rfl,s3,⟨⟨kvs,e1,e2,e3⟩,Zf,good⟩,hS⟩
  rw[U8,hlen,aam] at hS
  refine⟨_,rfl,q h _ (s1.trans s3) (s1.free hh) ⟨kvs,e1,fun n hn=>?_⟩⟩
  obtain⟨l,hl,rfl⟩:=aaO.mp hn
  obtain⟨bb,z1,z2,z3,dk,z4,z5⟩:=e3 _ (hS l hl)
  exact⟨bb,dk,z1,z4,fun m=>by rw[vb,z5,uH];exact(good _ (hS l hl)).2.2 m⟩
theorem Mm{κ:Type}[DecidableEq κ]:∀{kvs:List (κ×V)} {i:Nat} {k:κ} {v:V},(kvs.map (·.1)).Nodup→kvs[i]?=some (k,v)→iV kvs k=some v
 | [],_,_,_,_,h=>by simp at h
 | p::r,i,k,v,nd,h=>by
  rw[aaB,aaY] at nd
  cases i with
  | zero=>simp at h;subst h;exact jv rfl
  | succ i=>
   have h:r[i]?=some (k,v):=by simpa using h
   have hm:k∈r.map (·.1):=aaO.mpr ⟨_,Yd h,rfl⟩
   rw[jr (fun z=>nd.1 (by rw[z];exact hm))]
   exact Mm nd.2 h
theorem Mn{κ:Type}[DecidableEq κ](kvs:List (κ×V))(k j:κ)(h:j≠k):iV (kC kvs k) j=iV kvs j:=by
 induction kvs with
 | nil=>rfl
 | cons p r ih=>
  by_cases e:p.1=k
  ·rw[yx e,ih,jr (fun z=>h (z.symm.trans e))]
  ·rw[yy e]
   by_cases e2:p.1=j
   ·rw[jv e2,jv e2]
   ·rw[jr e2,jr e2,ih]
theorem Kr{kvs:List (List Key×V)}{rem:List Ln}{n:Nm}(h:kvs.map (·.1)=rem.map fun l=>nk l.nm):(kC kvs (nk n)).map (·.1)=(rem.filter fun o=>o.nm≠n).map fun l=>nk l.nm:=by
 induction kvs generalizing rem with
 | nil=>cases rem with|nil=>rfl|cons _ _=>cases h
 | cons p r ih=>
  cases rem with
  | nil=>cases h
  | cons x t=>
   rw[aaB,aaB] at h
   injection h with h1 h2
   by_cases e:x.nm=n
   ·rw[yx (by rw[h1,e]),aaj (by simpa using e)]
    exact ih h2
   ·rw[yy (fun z=>e (qw (h1.symm.trans z))),aae (by simpa using e),aaB,aaB,ih h2,h1]
structure Wait(kw:List (List Key×V))(rem:List Ln)(f:Ln→Nat):Prop where
 keys:kw.map (·.1)=rem.map fun l=>nk l.nm
 val:∀o∈rem,iV kw (nk o.nm)=some (.int (f o:Nat))
theorem Wait.len{kw:List (List Key×V)}{rem:List Ln}{f:Ln→Nat}(w:Wait kw rem f):kw.length=rem.length:=by
 have:=abb List.length w.keys
 rwa [U8,U8] at this
theorem Q0{rem:List Ln}:(rem.map fun l=>nk l.nm)=(rem.map (·.nm)).map nk:=by rw[List.map_map];rfl
theorem Ua{xs:List Nm}(h:xs.Nodup):(xs.map nk).Nodup:=by
 induction xs with
 | nil=>exact abr
 | cons x r ih=>
  rw[aaY] at h
  rw[aaB,aaY]
  exact⟨fun z=>h.1 (uH.mp z),ih h.2⟩
theorem Wait.nd{kw:List (List Key×V)}{rem:List Ln}{f:Ln→Nat}(w:Wait kw rem f)(h:(rem.map (·.nm)).Nodup):(kw.map (·.1)).Nodup:=by rw[w.keys,Q0];exact Ua h
theorem Wait.get{kw:List (List Key×V)}{rem:List Ln}{f:Ln→Nat}(w:Wait kw rem f)(h:(rem.map (·.nm)).Nodup){i:Nat}{k:List Key}{v:V}(hi:kw[i]?=some (k,v)):∃o,rem[i]?=some o∧k=nk o.nm∧v=.int (f o:Nat):=by
 have h1:(kw.map (·.1))[i]?=some k:=by rw[aan,hi];rfl
 rw[w.keys,aan] at h1
 obtain⟨o,e,e2⟩:=aaL.mp h1
 refine⟨o,e,e2.symm,?_⟩
 have h2:=Mm (w.nd h) hi
 rw[←e2,w.val o (Yd e)] at h2
 exact(aaJ h2).symm
def Yg:Sp:=fun vs H Q _=>∃(d:Addr)(kw:List (List Key×V))(rem:List Ln)(f:Ln→Nat)(l:Ln),vs=[.ref d]∧H d=some (.dT kw)∧Wait kw rem f∧(rem.map (·.nm)).Nodup∧rem.find? (fun o=>f o ==0)=some l∧∀t,H t=some (nT l.nm)→Q (.ref t) H
theorem C1(T:Txt mg)(O:Ok K mg A):ip P w K mg base nu 1 A.xE A.xF ["waiting"] Yg:=by
 refine O.BW.f.rh vE fun jh A0 outer s H vs Q E hr h=>?_
 obtain⟨d,kw,rem,f,l,rfl,hd,W,nd,hf,q⟩:=h
 refine⟨_,(de (AL (iP aaG rfl (Bt (pv 0)) (vZ 1 vE) (f_ (iz (ie mE (v_ hr (pv 0) (pv 1)) gi (iu _)) (f_ (gP (pv 1))) ia))))
   (f_ (gP tG))),?_⟩
 refine K4 ?_;intro _
 refine⟨_,rfl,d,kw,rfl,hd,fun o uz=>?_⟩
 let Jv:=fun(i:Nat) (σ:St) (H2:Hp)=>∃(v:Option V),σ=[rr d,v]∧H2=L2.upd H d (.oO o (.dT kw))∧(rem.drop i).find? (fun o=>f o ==0)=some l
 refine DI (d:=d) (o:=o) (kvs:=kw) Jv ⟨none,rfl,rfl,hf⟩ (by rintro _ _ _ ⟨_,_,e,_⟩;subst e;exact b_) ?_ ?_
 ·rintro i k v t σ H2 hi ht ⟨v0,rfl,rfl,h1⟩
  obtain⟨x,hx,rfl,rfl⟩:=W.get nd hi
  have my:i<rem.length:=(Vb.mp hx).1
  have hdr:rem.drop i=x::rem.drop (i+1):=by rw[aaX my];congr 1;exact(Vb.mp hx).2
  rw[hdr] at h1
  refine⟨_,rfl,_,rfl,d,_,rfl,.inr ⟨kw,nk x.nm,t,.inr ⟨o,b_⟩,rfl,ht,(W.val x (Yd hx)).symm⟩,rfl,_,rfl,?_⟩
  refine kU (fun h=>?_) (fun h=>?_)
  ·have h:f x=0:=by have:=V.int.inj (aaw h);omega
   rw[List.find?_cons_of_pos (by simpa using h)] at h1
   cases h1
   refine⟨_,rfl,d,o,_,b_,uz,?_⟩
   rw[yE hd]
   exact q t (by
    have:t≠d:=fun z=>by rw[z,b_] at ht;cases ht
    rwa [e_ this] at ht)
  ·have h:¬f x=0:=fun z=>h (XZ (by rw[z];rfl))
   rw[List.find?_cons_of_neg (by simpa using h)] at h1
   exact⟨_,rfl,rfl,h1⟩
 ·rintro σ H2 ⟨v0,rfl,rfl,h1⟩
  rw[W.len,acy] at h1
  cases h1
end
section
open Classical
noncomputable def pM(lt:Nm→Nm→Prop)(rem:List Ln)(l:Ln):Nat:=(rem.filter fun o=>decide (lt o.nm l.nm)).length
theorem Mo(lt:Nm→Nm→Prop)(rem:List Ln):(fun o=>pM lt rem o ==0)=free lt rem:=by
 funext o
 unfold pM free
 rw[abp,ab4,aaV,abV,abJ]
 exact⟨fun h x hx=>by simpa using h x hx,fun h x hx=>by simpa using h x hx⟩
theorem Mp{lt:Nm→Nm→Prop}{rem:List Ln}(nd:(rem.map (·.nm)).Nodup){l:Ln}(hl:l∈rem)(o:Ln):pM lt rem o=pM lt (rem.filter fun x=>x.nm≠l.nm) o+if lt l.nm o.nm then 1 else 0:=by
 unfold pM
 induction rem with
 | nil=>cases hl
 | cons x r ih=>
  rw[aaB,aaY] at nd
  rcases aag.mp hl with rfl|hl
  ·have e:r.filter (fun x=>decide (x.nm≠l.nm))=r:=List.filter_eq_self.mpr fun y hy=>XZ fun z=>nd.1 (z▸aai hy)
   rw[aaj (p:=fun x:Ln=>decide (x.nm≠l.nm)) (by simp),e]
   by_cases h:lt l.nm o.nm
   ·rw[aae (by simpa using h),aax h,aal]
   ·rw[aaj (by simpa using h),aau h,Nat.add_zero]
  ·have hx:x.nm≠l.nm:=fun z=>nd.1 (z▸aai hl)
   rw[aae (p:=fun x:Ln=>decide (x.nm≠l.nm)) (by simpa using hx)]
   by_cases h:lt x.nm o.nm
   ·rw[aae (by simpa using h),aae (by simpa using h),aal,aal,ih nd.2 hl];omega
   ·rw[aaj (by simpa using h),aaj (by simpa using h),ih nd.2 hl]
end
theorem Mq{lt:Nm→Nm→Prop}{n:Nat}{rem:List Ln}{l:Ln}(h:rem.find? (free lt rem)=some l):vC lt (n+1) rem=l::vC lt n (rem.filter fun o=>o.nm≠l.nm):=by
 rw[vC,h]
section
variable{P:Program}{w:World}{K:Qqy}{mg:Qqx}{base:Heap}{A:Ad}
def Ub(A:Ad):Sp:=fun vs H Q _=>∃(a h:Addr)(ls al:List Ln),vs=[.ref a,.ref h]∧pK A H a ls∧EU H h al∧rj ls.length∧(ls.map (·.nm)).Nodup∧(∀l∈ls,l.nm∈al.map (·.nm))∧L9 al∧
 ∀p H',gk H H'→H p=none→pK A H' p (rowOf (Ah al) ls)→Q (.ref p) H'
theorem Ks(T:Txt mg)(O:Ok K mg A):ip P w K mg base nu 2 A.GR A.GS ["lines","ahead"] (Ub A):=by
 have Fi:=@C1 P w K mg base A T O
 refine O.Mi.f.rh mr fun jh A0 outer s H vs Q E hr h=>?_
 obtain⟨a,h,ls,al,rfl,⟨as,ha,pa⟩,⟨kh,Vm,hh2⟩,jc,nd,AA,tp,q⟩:=h
 have hlen:=aav pa
 have AD:ls.length≤4000:=jc
 have sz:sizeLine=16777216:=aaF
 have tpl:∃rk:Nm→Nat,∀m n,Ah al m n→rk m<rk n:=by obtain⟨rk,r⟩:=tp;exact⟨rk,fun m n z=>r.ah z⟩
 refine⟨_,(de (lB 2 mr oj)
   (de (lB 3 mr oj)
   (de (iP aaG rfl (ir (pv 0)) (iy (i:=4) mr.nd rfl (Or.inr rfl)) (de (jm (by exact iO hr) (pv 2) (gF (pv 4) rfl) (pv 4) rfl)
   (f_ (jm (by exact iO hr) (pv 3) (gF (pv 4) rfl) (gJ gD (by rfl) T.jX aaE (a_ (tM GD (gc xu).names [7] rfl (ir (pv 0)) rfl (by decide+kernel) (fun _ _ _ _=>(iy (i:=7) mr.nd rfl (Or.inl rfl))) (fun _ _ _ _=>⟨_,nK (ji (qp (by exact iO hr) (gF (pv 7) rfl) (v_ hr (pv 1) (gF (pv 4) rfl)))),by(try simp only [kW]);rfl⟩) (fun _ _ _ _=>zx (pv 7))) d_)) rfl))))
   (de (lB 5 mr (iA d_))
   (de (FQ aaG (Kd (pv 3) (fun _=>rfl)) (de (lB 6 mr (pJ O.BW Fi hr (a_ (pv 3) d_)))
   (de (ib (L4 (by exact iO hr) (pv 3) (pv 6) ⟨rfl,rfl,rfl,rfl⟩))
   (de (ib (qH aaW aa3 aa4 lx (pv 5) (a_ (v_ hr (pv 2) (pv 6)) d_)))
   (f_ (iP aaG rfl (ir (uV (An rfl) (by rfl) T.yV abW (a_ (pv 3) d_))) (vZ 7 mr) (f_ (iz (ji (qp (by exact iO hr) (pv 6) (v_ hr (pv 1) (pv 7)))) (f_ (jm (by exact iO hr) (pv 3) (pv 7) (gz Ea (v_ hr (pv 3) (pv 7)) gi) rfl)) ia))))))))
   (f_ (gP (pv 5)))))))),?_⟩
 refine Sx ?_;intro _ _ _ _ _
 intro bn Vn wt PJ
 have s1:gk H (L2.upd (L2.upd H bn (.dT [])) wt (.dT [])):=((gk.refl H).new Vn).new PJ
 have R1:H wt=none:=((gk.refl H).new (o:=.dT []) Vn).free PJ
 have Vo:bn≠wt:=fun z=>by rw[z,b_] at PJ;cases PJ
 dsimp only [nE];refine LM ?_;intro _
 let Jv:=fun(i:Nat) (σ:St) (H2:Hp)=>∃(v4:Option V)(kb kw:List (List Key×V)),σ=[rr a,rr h,rr bn,rr wt,v4,none,none,none]∧gk H H2∧H2 bn=some (.dT kb)∧H2 wt=some (.dT kw)∧kb.length≤i∧(∀l∈ls.take i,∃b,iV kb (nk l.nm)=some (.ref b)∧nv A H b l)∧Wait kw (ls.take i) (pM (Ah al) ls)
 refine⟨_,rfl,a,rfl,⟨_,gK.of (s1 _ _ ha)⟩,je (K:=K) (a:=a) (xs:=as.map V.ref) Jv
  ⟨none,[],[],rfl,s1,by rw[e_ Vo];exact b_,b_,aab _,(fun l hl=>by rw[abH] at hl;cases hl),⟨rfl,(fun l hl=>by rw[abH] at hl;cases hl)⟩⟩ (by rintro _ _ _ _ ⟨_,_,_,_,s3,_⟩;exact gK.of (s3 _ _ ha)) ?_ ?_⟩
 ·rintro i v σ H2 hx ⟨v4,kb,kw,rfl,s3,h1,h2,h3,h4,W⟩
  obtain⟨b,hb,rfl⟩:=k9 hx
  obtain⟨l,hl,dx,vn,vu,vl,g1,⟨t,rfl,g2⟩,g3,g4⟩:=iC pa hb
  have WS:l∈ls:=Yd hl
  have hi:i<ls.length:=(Vb.mp hl).1
  have Cf:∀x∈ls.take i,x.nm≠l.nm:=fun x hx z=>by
   obtain⟨j,hj⟩:=aaT.mp hx
   have IB:j<i:=by have:=(Vb.mp hj).1;rw[aay] at this;omega
   rw[abK,aax IB] at hj
   have e1:(ls.map (·.nm))[j]?=some l.nm:=by rw[aan,hj,←z];rfl
   have e2:(ls.map (·.nm))[i]?=some l.nm:=by rw[aan,hl];rfl
   have:=(abQ (Vb.mp e1).1 nd).mp (e1.trans e2.symm)
   omega
  obtain⟨bb,dk,z1,z2,z3⟩:=hh2 l.nm (AA l WS)
  have RT:=jL kb (nk l.nm) (V.ref b)
  refine⟨_,rfl,_,rfl,_,rfl,b,A.gQ,dx,_,_,rfl,s3 _ _ g1,O.iN,O.gT,ja,bn,_,rfl,nJ.t (k:=nk l.nm) h1 (s3 _ _ g2) (by omega),?_⟩
  have s4:gk H (L2.upd H2 bn (.dT (putK kb (nk l.nm) (V.ref b)))):=s3.upd Vn
  have OM:L2.upd H2 bn (.dT (putK kb (nk l.nm) (V.ref b))) bn=some (.dT (putK kb (nk l.nm) (V.ref b))):=b_
  have h2':L2.upd H2 bn (.dT (putK kb (nk l.nm) (V.ref b))) wt=some (.dT kw):=by rw[e_ Vo.symm];exact h2
  generalize L2.upd H2 bn (.dT (putK kb (nk l.nm) (V.ref b)))=H3 at s4 OM h2' ⊢
  refine⟨_,rfl,a,rfl,⟨_,gK.of (s4 _ _ ha)⟩,jE (K:=K) (a:=a) (xs:=as.map V.ref) (by rw[U8,hlen];omega) (fun j ys σ H4=>∃v7:Option V,σ=[rr a,rr h,rr bn,rr wt,rr b,none,none,v7]∧H4=H3∧ys.length=pM (Ah al) (ls.take j) l)
   ⟨none,rfl,rfl,rfl⟩ (by rintro _ _ _ _ _ ⟨_,_,e,e2⟩;subst e;exact⟨gK.of (s4 _ _ ha),by rw[e2];unfold pM;exact aah (aaH _ _) (by rw[aay];omega)⟩) ?_ ?_⟩
  ·rintro j v ys σ H4 hx ⟨v7,rfl,rfl,e2⟩
   obtain⟨b2,ze,rfl⟩:=k9 hx
   obtain⟨l2,Hv,dx2,vn2,vu2,vl2,k1,⟨t2,rfl,k2⟩,k3,k4⟩:=iC pa ze
   refine⟨_,rfl,b2,A.gQ,dx2,_,_,rfl,s4 _ _ k1,O.iN,O.gT,ja,_,rfl,_,rfl,b,A.gQ,dx,_,_,rfl,s4 _ _ g1,O.iN,O.gT,ja,h,.ref bb,rfl,?_,bb,_,rfl,iY.t (k:=nk l2.nm) (s4 _ _ z2) (s4 _ _ k2),_,rfl,?_⟩
   ·have:=iY.t (k:=nk l.nm) (s4 _ _ Vm) (s4 _ _ g2)
    rw[z1] at this
    exact this
   ·unfold pM at e2 ⊢
    rw[take_snoc Hv,aaQ,Y5]
    by_cases hm:Ah al l2.nm l.nm
    ·rw[(z3 l2.nm).mpr hm]
     refine mx ⟨_,rfl,_,rfl,rfl,?_⟩
     rw[aae (by simpa using hm),aa2,Y5,e2];rfl
    ·rw[aa8.mpr fun z=>hm ((z3 l2.nm).mp z)]
     refine jY ⟨_,rfl,rfl,?_⟩
     rw[aaj (by simpa using hm),aa2,e2];rfl
  ·rintro ys σ H4 ⟨v7,rfl,rfl,e2⟩ p hp
   rw[U8,hlen,aam] at e2
   have s5:=s4.new (o:=.lst ys) hp
   have Pw:=W.len
   rw[aay] at Pw
   refine⟨p,_,rfl,.inl (gK.of b_),_,rfl,_,rfl,b,A.gQ,dx,_,_,rfl,s5 _ _ g1,O.iN,O.gT,ja,wt,_,rfl,nJ.t (k:=nk l.nm) (g_ hp h2') (s5 _ _ g2) (by omega),?_⟩
   refine⟨_,_,_,rfl,s5.upd R1,by rw[e_ Vo];exact g_ hp OM,b_,by omega,fun x hx=>?_,⟨?_,fun x hx=>?_⟩⟩
   ·rw[take_snoc hl] at hx
    rcases aaf.mp hx with hx|hx
    ·obtain⟨c,c1,c2⟩:=h4 x hx
     exact⟨c,by rw[j0,aau (fun z=>Cf x hx (qw z))];exact c1,c2⟩
    ·rw[Yc.mp hx]
     exact⟨b,by rw[j0,aax rfl],dx,_,vu,vl,g1,⟨t,rfl,g2⟩,g3,g4⟩
   ·rw[o5,W.keys,take_snoc hl,aaA]
    exact aau fun z=>by
     obtain⟨x,hx,e⟩:=aaO.mp z
     exact Cf x hx (qw e)
   ·rw[take_snoc hl] at hx
    rw[j0]
    rcases aaf.mp hx with hx|hx
    ·rw[aau (fun z=>Cf x hx (qw z))];exact W.val x hx
    ·rw[Yc.mp hx,aax rfl,e2]
 ·rintro σ H2 ⟨v4,kb,kw,rfl,s3,h1,h2,h3,h4,W⟩
  have el:(as.map V.ref).length=ls.length:=by rw[U8];exact hlen
  rw[el,aam] at h4 W
  refine⟨L2.jc,fun r oZ=>?_⟩
  have hrH:H r=none:=s3.free oZ
  have hrb:bn≠r:=gn h1 oZ
  have Vp:wt≠r:=gn h2 oZ
  obtain⟨rk,RV⟩:=tpl
  refine⟨fun m σ H3=>∃(v6 v7:Option V)(kw:List (List Key×V))(rem row:List Ln)(rs:List Addr),m=rem.length∧σ=[rr a,rr h,rr bn,rr wt,v4,rr r,v6,v7]∧gk H H3∧H3 bn=some (.dT kb)∧H3 wt=some (.dT kw)∧H3 r=some (.lst (rs.map V.ref))∧Paired (nv A H) rs row∧Wait kw rem (pM (Ah al) rem)∧rem.Sublist ls∧row.length+rem.length=ls.length∧row++vC (Ah al) rem.length rem=rowOf (Ah al) ls,
   ⟨ls.length,none,none,kw,ls,[],[],rfl,rfl,s3.new oZ,g_ oZ h1,g_ oZ h2,b_,.nil,W,aaM _,by simp,rfl⟩,?_⟩
  rintro m σ H3 ⟨v6,v7,kw,rem,row,rs,rfl,rfl,s4,b1,w1,r1,pr,W,sub,hsum,Hj⟩
  have WT:(rem.map (·.nm)).Nodup:=(sub.map _).nodup nd
  refine⟨_,rfl,wt,kw,rfl,w1,?_⟩
  have Pw:=W.len
  cases rem with
  | nil=>
   have:kw=[]:=aaV.mp Pw
   subst this
   refine jY ⟨_,rfl,q r _ s4 hrH ⟨rs,r1,?_⟩⟩
   rw[show vC (Ah al) ([]:List Ln).length []=[] from rfl,aaP] at Hj
   rw[←Hj]
   exact Paired.lA pr fun _ _ z=>z.same s4
  | cons x0 Zl=>
   generalize Zm:x0::Zl=rem at *
   have tm:rem≠[]:=by rw[←Zm];exact fun z=>by cases z
   obtain⟨l,MX⟩:=zz (lt:=Ah al) RV rem tm
   have R3:l∈rem:=List.mem_of_find?_eq_some MX
   have WU:l∈ls:=sub.subset R3
   have PL:=qM WT R3
   refine DG (by cases kw with|nil=>exact absurd (aaV.mp Pw.symm) tm|cons _ _=>rfl) ?_
   refine⟨fun σ H4=>∃(v6 v7:Option V)(kw:List (List Key×V))(nz row:List Ln)(rs:List Addr),nz.length<rem.length∧σ=[rr a,rr h,rr bn,rr wt,v4,rr r,v6,v7]∧gk H H4∧H4 bn=some (.dT kb)∧H4 wt=some (.dT kw)∧H4 r=some (.lst (rs.map V.ref))∧Paired (nv A H) rs row∧Wait kw nz (pM (Ah al) nz)∧nz.Sublist ls∧row.length+nz.length=ls.length∧row++vC (Ah al) nz.length nz=rowOf (Ah al) ls,
    fun σ' H' ⟨u6,u7,Vq,nz,Zn,rs2,my,z⟩=>⟨nz.length,my,u6,u7,Vq,nz,Zn,rs2,rfl,z⟩,?_⟩
   refine⟨_,rfl,wt,kw,rem,pM (Ah al) rem,l,rfl,w1,W,WT,by rw[Mo];exact MX,fun t ht=>?_⟩
   have Fh:=W.val l R3
   refine⟨_,rfl,wt,rfl,.inr ⟨_,.inl w1⟩,_,rfl,t,kw,nk l.nm,_,rfl,w1,ht,Fh,?_⟩
   have s5:gk H (L2.upd H3 wt (.dT (kC kw (nk l.nm)))):=s4.upd R1
   have b2:L2.upd H3 wt (.dT (kC kw (nk l.nm))) bn=some (.dT kb):=by rw[e_ Vo];exact b1
   have r2:L2.upd H3 wt (.dT (kC kw (nk l.nm))) r=some (.lst (rs.map V.ref)):=by rw[e_ Vp.symm];exact r1
   have t2:L2.upd H3 wt (.dT (kC kw (nk l.nm))) t=some (nT l.nm):=by rw[e_ (jd ht w1 (fun z=>by cases z))];exact ht
   have w2:L2.upd H3 wt (.dT (kC kw (nk l.nm))) wt=some (.dT (kC kw (nk l.nm))):=b_
   have W2:Wait (kC kw (nk l.nm)) (rem.filter fun o=>o.nm≠l.nm) (pM (Ah al) rem):=⟨Kr W.keys,fun o ho=>by
    have pN:=aat.mp ho
    rw[Mn _ _ _ (fun z=>by have:=qw z;simpa[this] using pN.2)]
    exact W.val o pN.1⟩
   generalize L2.upd H3 wt (.dT (kC kw (nk l.nm)))=H4 at s5 b2 r2 t2 w2 ⊢
   generalize kC kw (nk l.nm)=Vq at w2 W2
   obtain⟨bl,Pz,hLn⟩:=h4 l WU
   have Zo:=aav pr
   refine⟨_,rfl,.inl ⟨rfl,_,gK.of r2⟩,_,rfl,_,rfl,bn,.ref bl,rfl,?_,r,_,_,rfl,rfl,r2,by rw[U8,Zo];omega,?_⟩
   ·have:=iY.t (k:=nk l.nm) b2 t2
    rw[Pz] at this
    exact this
   have s6:gk H (L2.upd H4 r (.lst (rs.map V.ref++[V.ref bl]))):=s5.upd hrH
   have b3:L2.upd H4 r (.lst (rs.map V.ref++[V.ref bl])) bn=some (.dT kb):=by rw[e_ hrb];exact b2
   have w3:L2.upd H4 r (.lst (rs.map V.ref++[V.ref bl])) wt=some (.dT Vq):=by rw[e_ Vp];exact w2
   have t3:L2.upd H4 r (.lst (rs.map V.ref++[V.ref bl])) t=some (nT l.nm):=by rw[e_ (jd t2 r2 (fun z=>by cases z))];exact t2
   have r3:L2.upd H4 r (.lst (rs.map V.ref++[V.ref bl])) r=some (.lst ((rs++[bl]).map V.ref)):=by rw[b_,aaA];rfl
   generalize L2.upd H4 r (.lst (rs.map V.ref++[V.ref bl]))=H5 at s6 b3 w3 t3 r3 ⊢
   have JL:(rem.filter fun o=>o.nm≠l.nm).Sublist rem:=aa0
   generalize hR:(rem.filter fun o=>decide (o.nm≠l.nm))=nz at W2 JL PL
   have Vr:(nz.map (·.nm)).Nodup:=(JL.map _).nodup WT
   refine⟨_,rfl,wt,Vq,rfl,w3,fun p bs hp pbs=>?_⟩
   have s7:=s6.new (o:=.lst (bs.map V.ref)) hp
   have Zp:=aav pbs
   have UX:=W2.len
   let Jv:=fun(j:Nat) (σ:St) (H6:Hp)=>∃(v7:Option V)(MY:List (List Key×V)),σ=[rr a,rr h,rr bn,rr wt,v4,rr r,rr t,v7]∧gk H H6∧H6 bn=some (.dT kb)∧H6 wt=some (.dT MY)∧H6 t=some (nT l.nm)∧H6 r=some (.lst ((rs++[bl]).map V.ref))∧H6 p=some (.lst (bs.map V.ref))∧(∀b∈bs,∀xs,H5 b=some (.tup xs)→H6 b=some (.tup xs))∧MY.map (·.1)=nz.map (fun l=>nk l.nm)∧∀(i:Nat)(o:Ln),nz[i]?=some o→iV MY (nk o.nm)=some (.int ((if i<j then pM (Ah al) nz o else pM (Ah al) rem o:Nat):Int))
   refine⟨p,rfl,⟨_,gK.of b_⟩,je (K:=K) (a:=p) (xs:=bs.map V.ref) Jv
    ⟨v7,Vq,rfl,s7,g_ hp b3,g_ hp w3,g_ hp t3,g_ hp r3,b_,fun b _ xs e=>g_ hp e,W2.keys,fun i o ho=>by rw[aau (by omega)];exact W2.val o (Yd ho)⟩ (by rintro _ _ _ _ ⟨_,_,_,_,_,_,_,_,e,_⟩;exact gK.of e) ?_ ?_⟩
   ·rintro j v σ H6 hx ⟨v7,MY,rfl,s8,b4,w4,t4,r4,p4,OV,D3,MZ⟩
    obtain⟨c,hc,rfl⟩:=k9 hx
    obtain⟨⟨k,v⟩,hkv,Zq⟩:=ox pbs hc
    obtain⟨o,ho,rfl,rfl⟩:=W2.get Vr hkv
    have R4:o∈rem:=JL.subset (Yd ho)
    have Zr:H6 c=some (nT o.nm):=OV c (Yd hc) _ Zq
    obtain⟨bb,dk,z1,z2,z3⟩:=hh2 o.nm (AA o (sub.subset R4))
    have CM:=Mp (lt:=Ah al) WT R3 o
    have upv:∀(Vs:List (List Key×V)),Vs.map (·.1)=nz.map (fun l=>nk l.nm)→(∀x∈nz,x.nm≠o.nm→iV Vs (nk x.nm)=iV MY (nk x.nm))→iV Vs (nk o.nm)=some (.int ((pM (Ah al) nz o:Nat):Int))→∀(i:Nat)(x:Ln),nz[i]?=some x→iV Vs (nk x.nm)=some (.int ((if i<j+1 then pM (Ah al) nz x else pM (Ah al) rem x:Nat):Int)):=fun Vs _ h1 h2 i x Vt=>by
     by_cases e:i=j
     ·subst e
      rw[ho] at Vt
      cases Vt
      rw[aax (acv _)]
      exact h2
     ·have Zs:x.nm≠o.nm:=fun z=>by
       have e1:(nz.map (·.nm))[i]?=some o.nm:=by rw[aan,Vt,←z];rfl
       have e2:(nz.map (·.nm))[j]?=some o.nm:=by rw[aan,ho];rfl
       exact e ((abQ (Vb.mp e1).1 Vr).mp (e1.trans e2.symm))
      rw[h1 x (Yd Vt) Zs,MZ i x Vt]
      by_cases Y3:i<j
      ·rw[aax Y3,aax (by omega)]
      ·rw[aau Y3,aau (by omega)]
    rw[hR] at CM
    refine⟨_,rfl,_,rfl,_,rfl,h,.ref bb,rfl,?_,bb,_,rfl,iY.t (k:=nk l.nm) (s8 _ _ z2) t4,_,rfl,?_⟩
    ·have:=iY.t (k:=nk o.nm) (s8 _ _ Vm) Zr
     rw[z1] at this
     exact this
    by_cases hm:Ah al l.nm o.nm
    ·rw[(z3 l.nm).mpr hm]
     rw[aax hm] at CM
     refine mx ?_
     have Vu:=MZ j o ho
     rw[aau (aby _)] at Vu
     have hg:iY H6 wt (.ref c) (some (.int ((pM (Ah al) rem o:Nat):Int))):=by
      have:=iY.t (k:=nk o.nm) w4 Zr
      rw[Vu] at this
      exact this
     have hk3:MY.length=nz.length:=by have:=abb List.length D3;rwa [U8,U8] at this
     refine⟨_,rfl,_,rfl,wt,_,rfl,hg,_,_,rfl,rfl,_,rfl,_,rfl,wt,_,rfl,nJ.t (k:=nk o.nm) w4 Zr (by omega),?_⟩
     have kk:(putK MY (nk o.nm) (V.int ((pM (Ah al) rem o:Nat)-1))).map (·.1)=nz.map (fun l=>nk l.nm):=by
      rw[o5,D3]
      exact aax (aaO.mpr ⟨o,Yd ho,rfl⟩)
     refine⟨_,_,rfl,s8.upd R1,by rw[e_ Vo];exact b4,b_,by rw[e_ (jd t4 w4 (fun z=>by cases z))];exact t4,by rw[e_ Vp.symm];exact r4,by rw[e_ (jd p4 w4 (fun z=>by cases z))];exact p4,fun b hb xs e=>?_,kk,upv _ kk (fun x _ Zs=>?_) ?_⟩
     ·have:=OV b hb xs e
      rw[e_ (jd this w4 (fun z=>by cases z))];exact this
     ·rw[j0,aau (fun z=>Zs (qw z))]
     ·rw[j0,aax rfl]
      have e9:((pM (Ah al) rem o:Nat):Int)-1=((pM (Ah al) nz o:Nat):Int):=by omega
      exact abb (fun z=>some (V.int z)) e9
    ·rw[aa8.mpr fun z=>hm ((z3 l.nm).mp z)]
     rw[aau hm] at CM
     refine jY ⟨_,MY,rfl,s8,b4,w4,t4,r4,p4,OV,D3,upv MY D3 (fun x _ _=>rfl) ?_⟩
     have Vu:=MZ j o ho
     rw[aau (aby _)] at Vu
     rw[Vu,CM,Nat.add_zero]
   ·rintro σ H6 ⟨v7,MY,rfl,s8,b4,w4,t4,r4,p4,OV,D3,MZ⟩
    have hlen2:(bs.map V.ref).length=nz.length:=by rw[U8,←Zp,UX]
    refine⟨_,_,MY,nz,row++[l],rs++[bl],by omega,rfl,s8,b4,w4,r4,ix pr hLn,⟨D3,fun o ho=>?_⟩,JL.trans sub,by rw[Y5];show row.length+1+nz.length=_;omega,?_⟩
    ·obtain⟨i,hi⟩:=aaT.mp ho
     have SN:=(Vb.mp hi).1
     rw[MZ i o hi,aax (by omega)]
    ·rw[←Hj,←PL,Mq MX,aaZ,hR]
     rfl
end
end PK
namespace Kp
open PySem L2
noncomputable abbrev Wn:Stmt:=PK.qt
noncomputable abbrev Wo:Stmt:=PK.rM
noncomputable abbrev Yh:Stmt:=PK.rN
noncomputable abbrev Pj:Stmt:=PK.Ie
structure Txt(mg:Qqx):Prop where
 len:mg "len"=none
 range:mg "range"=none
 max:mg "max"=none
noncomputable abbrev gh(l:List Str):List V:=l.map V.str
noncomputable def tab(old new:List Str)(i:Nat):List V:=(List.range (new.length+1)).map fun j=>V.int (K01.yH old new i j)
theorem EW{old new:List Str}{i j:Nat}(h:j≤new.length):(tab old new i)[j]?=some (V.int (K01.yH old new i j)):=by
 unfold tab
 rw[aan,List.getElem?_range (by omega)]
 rfl
noncomputable def part(old new:List Str)(i k:Nat):List V:=(List.range (new.length+1)).map fun j=>if new.length-k≤j then V.int (K01.yH old new i j) else V.int 0
theorem Jr{old new:List Str}{i k j:Nat}(h:j≤new.length)(hk:new.length-k≤j):(part old new i k)[j]?=some (V.int (K01.yH old new i j)):=by
 unfold part
 rw[aan,List.getElem?_range (by omega)]
 show some (if _ then _ else _)=_
 rw[aax hk]
theorem B3(old new:List Str)(i k:Nat):(part old new i k).length=new.length+1:=by unfold part;rw[U8,acs]
theorem Mr(old new:List Str)(i:Nat):part old new i new.length=tab old new i:=by
 unfold part tab
 refine ab_ fun j _=>?_
 rw[aax (by omega)]
theorem DU(old new:List Str)(i n:Nat)(h:n=new.length+1):(List.replicate n [V.int 0]).flatten=part old new i 0:=by
 subst h
 refine List.ext_getElem? fun j=>?_
 unfold part
 rw[aan]
 have e:(List.replicate (new.length+1) [V.int 0]).flatten=List.replicate (new.length+1) (V.int 0):=by
  generalize new.length+1=m
  induction m with
  | zero=>rfl
  | succ m ih=>rw[abi,ab6,ih,abi];rfl
 rw[e,List.getElem?_replicate]
 by_cases hj:j<new.length+1
 ·rw[aax hj,List.getElem?_range hj]
  show some _=some (if _ then _ else _)
  by_cases h2:new.length-0≤j
  ·rw[aax h2,K01.AN (.inr (by omega))];rfl
  ·rw[aau h2]
 ·rw[aau hj,abG.mpr (by rw[acs];omega)]
  rfl
theorem G4{old new:List Str}{i k:Nat}(h:k<new.length):(part old new i k).set (new.length-1-k) (V.int (K01.yH old new i (new.length-1-k)))=part old new i (k+1):=by
 refine List.ext_getElem? fun j=>?_
 by_cases e:j=new.length-1-k
 ·subst e
  rw[abf (by rw[B3];omega),Jr (by omega) (by omega)]
 ·rw[abm (fun z=>e z.symm)]
  unfold part
  rw[aan,aan]
  by_cases hj:j<new.length+1
  ·rw[List.getElem?_range hj]
   show some (if _ then _ else _)=some (if _ then _ else _)
   by_cases h2:new.length-k≤j
   ·rw[aax h2,aax (by omega)]
   ·rw[aau h2,aau (by omega)]
  ·rw[abG.mpr (by rw[acs];omega)]
   rfl
theorem pT{l:List Str}{j:Nat}{x:Str}(h:l[j]?=some x):(gh l)[j]?=some (V.str x):=by rw[aan,h];rfl
section
variable{P:Program}{w:World}{K:Qqy}{mg:Qqx}{base:Heap}
theorem Q1:gA ["text","new","below","counts","second"] ["text","new","below"] (gc Wn):=⟨rfl,rfl,rfl,by decide+kernel,rfl,by decide+kernel,by decide+kernel⟩
def Uc:Sp:=fun vs H Q _=>∃(old new:List Str)(i:Nat)(t:Str)(n b:Addr),vs=[.str t,.ref n,.ref b]∧old[i]?=some t∧H n=some (.lst (gh new))∧H b=some (.lst (tab old new (i+1)))∧new.length≤1000∧
 ∀p H',gk H H'→H p=none→H' p=some (.lst (tab old new i))→Q (.ref p) H'
theorem Ud{f:Addr}{fd:FuncData}(F:w_ K "counts_with" "counts_with" Wn f fd)(T:Txt mg):ip P w K mg base nu 1 f fd ["text","new","below"] Uc:=by
 refine F.rh Q1 fun jh A outer s H vs Q E hr h=>?_
 obtain⟨old,new,i,t,n,b,rfl,ht,hn,hb,hl,k⟩:=h
 refine⟨_,de (mD (i:=3) Q1.nd rfl (Or.inl rfl) (gz HQ (iA (a_ gi d_)) (gz iQ (gJ gD (by rfl) T.len aaE (a_ (pv 1) d_)) gi)))
  (de (iP aaG rfl (yA rfl T.range (a_ (gz Ea (gJ gD (by rfl) T.len aaE (a_ (pv 1) d_)) gi) (a_ (zo tJ gi) (a_ (zo tJ gi) d_)))) (iy (i:=4) Q1.nd rfl (Or.inl rfl))
   (f_ (iz (ie mE (l0 lQ (pv 1) (pv 4) (fun _ _=>rfl)) (pv 0) (iu _))
    (f_ (D_ (gz iQ (l0 lQ (pv 2) (gz iQ (pv 4) gi) (fun _ _=>rfl)) gi) (D9 (pv 3) (pv 4) set_list)))
    (f_ (D_ (gJ (JU rfl) (by rfl) T.max PyProof.Rows.boot_max (a_ (l0 lQ (pv 2) (pv 4) (fun _ _=>rfl)) (a_ (l0 lQ (pv 3) (gz iQ (pv 4) gi) (fun _ _=>rfl)) d_))) (D9 (pv 3) (pv 4) set_list))))))
  (f_ (gP (pv 3)))),?_⟩
 refine Ei ?_;intro _ _
 refine⟨jc,fun l SS=>?_⟩
 have IC:(upd H l (.lst [V.int 0])) n=some (.lst (gh new)):=by rw[e_ (gn hn SS)];exact hn
 refine⟨_,rfl,n,_,rfl,.inl (gK.of IC),_,_,rfl,rfl,l,_,_,rfl,rfl,b_,by simp<;>omega,by simp<;>omega,by simp;have:sizeLine=2 ^ 24:=rfl;omega,fun p hp=>?_⟩
 have ql:p≠l:=fun z=>by rw[z,b_] at hp;cases hp
 have ID:H p=none:=by rw[e_ ql] at hp;exact hp
 have s0:gk H (upd H l (.lst [V.int 0])):=(gk.refl H).upd SS
 have e0:(List.replicate (((gh new).length:Int)+1).toNat [V.int 0]).flatten=part old new i 0:=DU old new i _ (by simp<;>omega)
 rw[e0]
 have s1:gk H (upd (upd H l (.lst [V.int 0])) p (.lst (part old new i 0))):=s0.upd ID
 refine⟨_,rfl,n,_,rfl,.inl (gK.of (s1 n _ hn)),_,_,rfl,rfl,_,rfl,_,rfl,_,_,rfl,⟨by simp<;>omega,by simp<;>omega,by omega,by omega⟩,?_⟩
 have en:((((gh new).length:Int)-1) - -1).toNat=new.length:=by simp<;>omega
 rw[en]
 let Jv:=fun(m:Nat) (σ:St) (H2:Hp)=>∃v,σ=[rs t,rr n,rr b,rr p,v]∧gk H H2∧H2 p=some (.lst (part old new i m))
 refine vY Jv ⟨none,rfl,s1,b_⟩ ?_ ?_
 ·rintro m σ H2 hm ⟨v,rfl,s2,h2⟩
  obtain⟨j,hj⟩:∃j,j=new.length-1-m:=⟨_,rfl⟩
  have hjl:j<new.length:=by omega
  rw[show((gh new).length:Int)-1+(m:Int) * -1=(j:Int) by simp<;>omega]
  have R5:new[j]?=some new[j]:=Y0 hjl
  have B:=K01.N0 ht R5
  refine⟨_,rfl,_,rfl,n,_,_,_,rfl,rfl,gK.of (s2 n _ hn),iE rfl (pT R5),_,rfl,rfl,_,rfl,?_⟩
  refine kU (fun hc=>?_) (fun hc=>?_)
  ·have hc:new[j]=t:=by have:=aaw hc;injection this
   rw[aax hc] at B
   refine⟨_,rfl,_,rfl,_,_,rfl,rfl,b,_,_,_,rfl,rfl,gK.of (s2 b _ hb),iE (j:=j+1) (by omega) (EW (by omega)),_,_,rfl,rfl,_,rfl,_,rfl,p,_,_,j,rfl,rfl,h2,En rfl (by rw[B3];omega),?_⟩
   refine⟨_,rfl,s2.upd ID,?_⟩
   rw[b_]
   dsimp only
   have e:((K01.yH old new (i+1) (j+1):Nat):Int)+1=((K01.yH old new i j:Nat):Int):=by omega
   rw[e,hj,G4 hm]
  ·have hc:¬new[j]=t:=fun z=>hc (by rw[z];exact XZ rfl)
   rw[aau hc] at B
   refine⟨_,rfl,_,rfl,b,_,_,_,rfl,rfl,gK.of (s2 b _ hb),iE rfl (EW (by omega)),_,rfl,_,rfl,_,_,rfl,rfl,p,_,_,_,rfl,rfl,gK.of h2,iE (j:=j+1) (by omega) (Jr (by omega) (by omega)),_,_,rfl,_,rfl,_,rfl,p,_,_,j,rfl,rfl,h2,En rfl (by rw[B3];omega),?_⟩
   refine⟨_,rfl,s2.upd ID,?_⟩
   rw[b_]
   have e:(if((K01.yH old new i (j+1):Nat):Int)>((K01.yH old new (i+1) j:Nat):Int) then((K01.yH old new i (j+1):Nat):Int) else((K01.yH old new (i+1) j:Nat):Int))=((K01.yH old new i j:Nat):Int):=by split<;>omega
   rw[e,hj,G4 hm]
 ·rintro σ H2 ⟨v,rfl,s2,h2⟩
  refine⟨_,rfl,k p H2 s2 ID ?_⟩
  rw[h2,Mr]
def Pk(H:Hp)(old new:List Str)(rows:List V)(Vv:Nat):Prop:=rows.length=old.length+1∧∀i,i≤old.length→∃a,rows[i]?=some (.ref a)∧(Vv≤i→H a=some (.lst (tab old new i)))
abbrev nMP:List Str:=["old","new","table","first","place"]
theorem Ob:gA ["old","new","table","first","place"] ["old","new"] (gc Wo):=⟨rfl,rfl,rfl,by decide+kernel,rfl,by decide+kernel,by decide+kernel⟩
def Ue:Sp:=fun vs H Q _=>∃(old new:List Str)(o n:Addr),vs=[.ref o,.ref n]∧H o=some (.lst (gh old))∧H n=some (.lst (gh new))∧old.length≤1000∧new.length≤1000∧
 ∀p H' rows,gk H H'→H p=none→H' p=some (.lst rows)→Pk H' old new rows 0→Q (.ref p) H'
theorem Ms(new:List Str)(n:Nat)(h:n=new.length+1):(List.replicate n [V.int 0]).flatten=tab [] new 0:=by
 rw[DU [] new 0 n h]
 unfold part tab
 refine ab_ fun j _=>?_
 rw[show K01.yH ([]:List Str) new 0 j=0 from K01.AN (.inl (by simp))]
 split<;>rfl
theorem Oc(old new:List Str)(n:Nat)(h:n=new.length+1):(List.replicate n [V.int 0]).flatten=tab old new old.length:=by
 rw[Ms new n h]
 unfold tab
 refine ab_ fun j _=>?_
 rw[show K01.yH ([]:List Str) new 0 j=0 from K01.AN (.inl (by simp)),K01.AN (.inl (aab _))]
theorem Ug{f fC:Addr}{fd SY:FuncData}(F:w_ K "most_pairs" "most_pairs" Wo f fd)(T:Txt mg)(C:w_ K "counts_with" "counts_with" Wn fC SY)(bC:Binds K SY ["text","new","below"] [])(mC:mg "counts_with"=some (.ref fC)) :
  ip P w K mg base nu 2 f fd ["old","new"] Ue:=by
 have GC:ip P w K mg base nu 1 fC SY ["text","new","below"] Uc:=Ud C T
 refine F.rh Ob fun jh A outer s H vs Q E hr h=>?_
 obtain⟨old,new,o,n,rfl,ho,hn,YA,AB,k⟩:=h
 refine⟨_,de (Be (j:=2) nMP (gc Wo).names [4] Ob.nd rfl rfl rfl (lu rfl T.range (a_ (gz iQ (gJ gD (by rfl) T.len aaE (a_ (pv 0) d_)) gi) d_)) rfl (by decide+kernel)
   (fun _ _ _ _=>iy (i:=4) Ob.nd rfl (Or.inl rfl)) (fun _ _ _ _=>mI) (fun _ _ _ _=>⟨_,gz HQ (iA (a_ gi d_)) (gz iQ (gJ gD (by rfl) T.len aaE (a_ (pv 1) d_)) gi),by(try simp only [kW]);rfl⟩))
  (de (iP aaG rfl (yA rfl T.range (a_ (gz Ea (gJ gD (by rfl) T.len aaE (a_ (pv 0) d_)) gi) (a_ (zo tJ gi) (a_ (zo tJ gi) d_)))) (iy (i:=3) Ob.nd rfl (Or.inl rfl))
   (f_ (D_ (xg GC hr rfl mC C.kp bC .nil nF (a_ (l0 lQ (pv 0) (pv 3) (fun _ _=>rfl)) (a_ (pv 1) (a_ (l0 lQ (pv 2) (gz iQ (pv 3) gi) (fun _ _=>rfl)) d_)))) (D9 (pv 2) (pv 3) set_list))))
  (f_ (gP (pv 2)))),?_⟩
 refine Ei ?_;intro _ _
 refine⟨_,rfl,o,_,rfl,.inl (gK.of ho),_,_,rfl,rfl,_,rfl,by simp<;>omega,by simp<;>omega,?_⟩
 have en:(((gh old).length:Int)+1).toNat=old.length+1:=by simp<;>omega
 rw[en]
 let Jv:=fun(m:Nat) (ys:List V) (σ:St) (H2:Hp)=>∃v,σ=[rr o,rr n,none,none,v]∧gk H H2∧ys.length=m∧∀i,i<m→∃a,ys[i]?=some (.ref a)∧H a=none∧H2 a=some (.lst (tab old new old.length))
 refine tN (by have:sizeLine=2 ^ 24:=rfl;omega) Jv
  ⟨none,rfl,gk.refl H,rfl,fun i hi=>absurd hi (Nat.not_lt_zero _)⟩ (by rintro _ _ _ _ ⟨_,_,_,e,_⟩;exact acA e) ?_ ?_
 ·rintro m ys σ H2 hm ⟨v,rfl,s2,hy,Hy⟩
  refine⟨jc,fun l SS=>?_⟩
  have s3:gk H (upd H2 l (.lst [V.int 0])):=s2.new SS
  refine⟨_,rfl,n,_,rfl,.inl (gK.of (s3 n _ hn)),_,_,rfl,rfl,l,_,_,rfl,rfl,b_,by simp<;>omega,by simp<;>omega,by simp;have:sizeLine=2 ^ 24:=rfl;omega,fun p hp=>?_⟩
  rw[Oc old new _ (show(((gh new).length:Int)+1).toNat=new.length+1 by simp<;>omega)]
  have ql:p≠l:=fun z=>by rw[z,b_] at hp;cases hp
  have AX:H2 p=none:=by rw[e_ ql] at hp;exact hp
  refine⟨_,rfl,s3.new hp,by rw[Y5,hy];rfl,fun i hi=>?_⟩
  by_cases e:i<m
  ·obtain⟨a,e1,e2,e3⟩:=Hy i e
   refine⟨a,by rw[ab0 (by omega)];exact e1,e2,?_⟩
   rw[e_ (gn e3 AX),e_ (gn e3 SS)]
   exact e3
  ·have:i=m:=by omega
   subst this
   exact⟨p,by rw[abl (by omega),hy];simp,s2.free AX,b_⟩
 ·rintro ys σ H2 ⟨v,rfl,s2,hy,Hy⟩ p hp
  have s3:gk H (upd H2 p (.lst ys)):=s2.new hp
  have ID:H p=none:=s2.free hp
  refine⟨_,rfl,o,_,rfl,.inl (gK.of (s3 o _ ho)),_,_,rfl,rfl,_,rfl,_,rfl,_,_,rfl,⟨by simp<;>omega,by simp<;>omega,by omega,by omega⟩,?_⟩
  have en:((((gh old).length:Int)-1) - -1).toNat=old.length:=by simp<;>omega
  rw[en]
  let Jv:=fun(m:Nat) (σ:St) (H3:Hp)=>∃v w rows,σ=[rr o,rr n,rr p,v,w]∧gk H H3∧H3 p=some (.lst rows)∧Pk H3 old new rows (old.length-m)∧∀i a,i≤old.length→rows[i]?=some (.ref a)→a≠p
  refine vY Jv
   ⟨_,_,ys,rfl,s3,b_,⟨hy,fun i hi=>?_⟩,fun i a hi ha=>?_⟩ ?_ ?_
  ·obtain⟨a,e1,e2,e3⟩:=Hy i (by omega)
   refine⟨a,e1,fun z=>?_⟩
   have:i=old.length:=by omega
   subst this
   rw[e_ (gn e3 hp)]
   exact e3
  ·obtain⟨a',e1,e2,e3⟩:=Hy i (by omega)
   rw[ha] at e1
   cases e1
   exact gn e3 hp
  ·rintro m σ H3 hm ⟨v,w',rows,rfl,s4,h4,tb,nb⟩
   obtain⟨i,hi⟩:∃i,i=old.length-1-m:=⟨_,rfl⟩
   have SN:i<old.length:=by omega
   rw[show((gh old).length:Int)-1+(m:Int) * -1=(i:Int) by simp<;>omega]
   have WI:old[i]?=some old[i]:=Y0 SN
   obtain⟨b,e1,e2⟩:=tb.2 (i+1) (by omega)
   refine⟨_,rfl,_,rfl,o,_,_,_,rfl,rfl,gK.of (s4 o _ ho),iE rfl (pT WI),_,rfl,_,rfl,_,rfl,_,_,rfl,rfl,p,_,_,_,rfl,rfl,gK.of h4,iE (j:=i+1) (by omega) e1,?_⟩
   refine⟨old,new,i,_,n,b,rfl,WI,s4 n _ hn,e2 (by omega),AB,fun q H5 s5 hq5 h5=>?_⟩
   have hqp:q≠p:=fun z=>by rw[z,h4] at hq5;cases hq5
   refine⟨_,rfl,_,rfl,p,rows,_,i,rfl,rfl,s5 p _ h4,En rfl (by rw[tb.1];omega),?_⟩
   refine⟨_,_,_,rfl,(s4.trans s5).upd ID,b_,⟨by rw[acz];exact tb.1,fun i' Cd=>?_⟩,fun i' a Cd ha=>?_⟩
   ·by_cases e:i'=i
    ·subst e
     refine⟨q,by rw[abf (by rw[tb.1];omega)],fun _=>?_⟩
     rw[e_ hqp];exact h5
    ·obtain⟨a,a1,a2⟩:=tb.2 i' Cd
     refine⟨a,by rw[abm (fun z=>e z.symm)];exact a1,fun z=>?_⟩
     rw[e_ (nb i' a Cd a1)]
     exact s5 a _ (a2 (by omega))
   ·by_cases e:i'=i
    ·subst e
     rw[abf (by rw[tb.1];omega)] at ha
     cases ha
     exact hqp
    ·rw[abm (fun z=>e z.symm)] at ha
     exact nb i' a Cd ha
  ·rintro σ H3 ⟨v,w',rows,rfl,s4,h4,tb,nb⟩
   refine⟨_,rfl,k p H3 rows s4 ID h4 ?_⟩
   rw[Nat.sub_self] at tb
   exact tb
end
end Kp
namespace K01
theorem EY{α:Type}[DecidableEq α]{a:α}{new:List α}{j k:Nat}(hj:j≤k)(hk:new[k]?=some a)(hm:∀l,j≤l→l<k→new[l]?≠some a):jj a new j=some k:=by
 cases e:jj a new j with
 | none=>exact absurd hk (pe e k hj)
 | some k'=>
  obtain⟨h1,h2,h3⟩:=lH e
  rcases Nat.lt_trichotomy k k' with h|h|h
  ·exact absurd hk (h3 k hj h)
  ·rw[h]
  ·exact absurd h2 (hm k' h1 h)
theorem EZ{α:Type}[DecidableEq α]{a:α}{new:List α}{j:Nat}(hm:∀l,j≤l→l<new.length→new[l]?≠some a):jj a new j=none:=by
 cases e:jj a new j with
 | none=>rfl
 | some k'=>
  obtain⟨h1,h2,h3⟩:=lH e
  exact absurd h2 (hm k' h1 (Vb.mp h2).1)
end K01
namespace Kp
open PySem L2
section
variable{P:Program}{w:World}{K:Qqy}{mg:Qqx}{base:Heap}
noncomputable def Yi:Option Nat→V
 | none=>.js
 | some k=>.int k
theorem Uh:gA ["texts","text","start","place"] ["texts","text","start"] (gc Yh):=⟨rfl,rfl,rfl,by decide+kernel,rfl,by decide+kernel,by decide+kernel⟩
def Ui:Sp:=fun vs H Q _=>∃(new:List Str)(t:Str)(n:Addr)(j:Nat),vs=[.ref n,.str t,.int j]∧H n=some (.lst (gh new))∧new.length≤1000∧j≤1000∧Q (Yi (K01.jj t new j)) H
theorem Uj{f:Addr}{fd:FuncData}(F:w_ K "place_from" "place_from" Yh f fd)(T:Txt mg):ip P w K mg base nu 1 f fd ["texts","text","start"] Ui:=by
 refine F.rh Uh fun jh A outer s H vs Q E hr h=>?_
 obtain⟨new,t,n,j,rfl,hn,hl,hj,k⟩:=h
 refine⟨_,de (iP aaG rfl (Dl rfl T.range (a_ (pv 2) (a_ (gJ gD (by rfl) T.len aaE (a_ (pv 0) d_)) d_))) (iy (i:=3) Uh.nd rfl (Or.inl rfl))
   (f_ (iz (ie mE (l0 lQ (pv 0) (pv 3) (fun _ _=>rfl)) (pv 1) (iu _)) (f_ (gP (pv 3))) ia)))
  (f_ (gP tG)),?_⟩
 refine K4 ?_;intro _
 refine⟨_,rfl,_,rfl,n,_,rfl,.inl (gK.of hn),_,_,rfl,⟨by omega,by omega,by simp<;>omega,by simp<;>omega⟩,?_⟩
 let Jv:=fun(m:Nat) (σ:St) (H2:Hp)=>∃v,σ=[rr n,rs t,ri j,v]∧H2=H∧∀l,j≤l→l<j+m→new[l]?≠some t
 refine nI Jv ⟨none,rfl,rfl,fun l h1 h2=>by omega⟩ ?_ ?_
 ·rintro m σ H2 hm ⟨v,rfl,rfl,h2⟩
  have hm:j+m<new.length:=by simp at hm;omega
  rw[show(j:Int)+(m:Int)=((j+m:Nat):Int) by omega]
  have R5:new[j+m]?=some new[j+m]:=Y0 hm
  refine⟨_,rfl,_,rfl,n,_,_,_,rfl,rfl,gK.of hn,iE rfl (pT R5),_,rfl,rfl,_,rfl,?_⟩
  refine kU (fun hc=>?_) (fun hc=>?_)
  ·have hc:new[j+m]=t:=by have:=aaw hc;injection this
   rw[hc] at R5
   rw[K01.EY (Nat.le_add_right j m) R5 h2] at k
   exact⟨_,rfl,k⟩
  ·have hc:¬new[j+m]=t:=fun z=>hc (by rw[z];exact XZ rfl)
   refine⟨_,rfl,rfl,fun l h3 h4=>?_⟩
   by_cases e:l=j+m
   ·subst e
    rw[R5]
    intro z
    exact hc (aaJ z)
   ·exact h2 l h3 (by omega)
 ·rintro σ H2 ⟨v,rfl,rfl,h2⟩
  rw[K01.EZ (j:=j) fun l h3 h4=>h2 l h3 (by simp<;>omega)] at k
  exact k
def nZ(H:Hp)(q:Nat×Nat)(v:V):Prop:=∃a,v=.ref a∧H a=some (.tup [.int q.1,.int q.2])
abbrev jq(H:Hp)(l:List (Nat×Nat))(vs:List V):Prop:=Paired (nZ H) l vs
theorem jq.keep{H H':Hp}{l:List (Nat×Nat)}{vs:List V}(h:jq H l vs)(k:∀a xs,H a=some (.tup xs)→H' a=some (.tup xs)):jq H' l vs:=
 Paired.lA h fun q v ⟨a,e,h⟩=>⟨a,e,k a _ h⟩
theorem Q2:gA ["old","new","table","pairs","start","first","second"] ["old","new"] (gc Pj):=⟨rfl,rfl,rfl,by decide+kernel,rfl,by decide+kernel,by decide+kernel⟩
def spK:Sp:=fun vs H Q _=>∃(old new:List Str)(o n:Addr),vs=[.ref o,.ref n]∧H o=some (.lst (gh old))∧H n=some (.lst (gh new))∧old.length≤1000∧new.length≤1000∧
 ∀p H' ps,gk H H'→H p=none→H' p=some (.lst ps)→jq H' (K01.kept old new) ps→Q (.ref p) H'
theorem Od{f fM fC fP:Addr}{fd Zt SY Zu:FuncData}(F:w_ K "kept" "kept" Pj f fd)(T:Txt mg)(C:w_ K "counts_with" "counts_with" Wn fC SY)(bC:Binds K SY ["text","new","below"] [])(mC:mg "counts_with"=some (.ref fC))
  (M:w_ K "most_pairs" "most_pairs" Wo fM Zt) (bM:Binds K Zt ["old","new"] []) (mM:mg "most_pairs"=some (.ref fM)) (Pf:w_ K "place_from" "place_from" Yh fP Zu) (bP:Binds K Zu ["texts","text","start"] []) (mP:mg "place_from"=some (.ref fP)) :
  ip P w K mg base nu 3 f fd ["old","new"] spK:=by
 have GM:ip P w K mg base nu 2 fM Zt ["old","new"] Ue:=Ug M T C bC mC
 have GP:ip P w K mg base nu 2 fP Zu ["texts","text","start"] Ui:=(Uj Pf T).mono (by decide)
 refine F.rh Q2 fun jh A outer s H vs Q E hr h=>?_
 obtain⟨old,new,o,n,rfl,ho,hn,YA,AB,k⟩:=h
 refine⟨_,de (mD (i:=2) Q2.nd rfl (Or.inl rfl) (xg GM hr rfl mM M.kp bM .nil nF (a_ (pv 0) (a_ (pv 1) d_))))
  (de (mD (i:=3) Q2.nd rfl (Or.inl rfl) (iA d_))
  (de (mD (i:=4) Q2.nd rfl (Or.inl rfl) gi)
  (de (iP aaG rfl (lu rfl T.range (a_ (gJ gD (by rfl) T.len aaE (a_ (pv 0) d_)) d_)) (iy (i:=5) Q2.nd rfl (Or.inl rfl))
   (de (mD (i:=6) Q2.nd rfl (Or.inl rfl) (xg GP hr rfl mP Pf.kp bP .nil nF (a_ (pv 1) (a_ (l0 lQ (pv 0) (pv 5) (fun _ _=>rfl)) (a_ (pv 4) d_)))))
   (f_ (iz (pw_and (ji (rq (pv 6))) (pw_and1 (ie mE
     (gz iQ (l0 lQ (l0 lQ (pv 2) (gz iQ (pv 5) gi) (fun _ _=>rfl)) (gz iQ (pv 6) gi) (fun _ _=>rfl)) gi)
     (l0 lQ (l0 lQ (pv 2) (pv 5) (fun _ _=>rfl)) (pv 4) (fun _ _=>rfl)) (iu _)))).pt
    (de (ib (qH aaW aa3 aa4 lx (pv 3) (a_ (yw (a_ (pv 5) (a_ (pv 6) d_))) d_)))
    (f_ (mD (i:=4) Q2.nd rfl (Or.inl rfl) (gz iQ (pv 6) gi))))
    ia))))
  (f_ (gP (pv 3)))))),?_⟩
 refine Sw ?_;intro _ _ _ _
 refine⟨_,rfl,_,rfl,old,new,o,n,rfl,ho,hn,YA,AB,fun tb H1 rows s1 Zj h1 Vw=>?_⟩
 refine⟨jc,fun pr WV=>?_⟩
 have Zv:H pr=none:=s1.free WV
 refine⟨_,rfl,o,_,rfl,.inl (gK.of (s1.new WV o _ ho)),_,rfl,by simp<;>omega,by simp<;>omega,?_⟩
 have en:((gh old).length:Int).toNat=old.length:=by simp
 rw[en]
 refine nI (fun m σ H2=>∃(j:Nat)(acc:List (Nat×Nat))(ps:List V)(v w:Option V),σ=[rr o,rr n,rr tb,rr pr,ri j,v,w]∧gk H1 H2∧H2 pr=some (.lst ps)∧jq H2 acc ps∧acc.length≤m∧j≤new.length∧
   acc++K01.qL new m (old.drop m) j=K01.kept old new) ⟨0,[],[],none,none,rfl,(gk.refl H1).new WV,b_,.nil,aab _,aaU _,rfl⟩ ?_ ?_
 ·rintro m σ H2 hm ⟨j,acc,ps,v,w',rfl,s2,h2,pa,yj,hj,hk⟩
  rw[show(0:Int)+(m:Int)=(m:Int) by omega]
  have hom:old[m]?=some old[m]:=Y0 hm
  have hd:old.drop m=old[m]::old.drop (m+1):=aaX hm
  rw[hd,K01.qL] at hk
  refine⟨_,rfl,_,rfl,_,rfl,o,_,_,_,rfl,rfl,gK.of (s2 o _ (s1 o _ ho)),iE rfl (pT hom),_,rfl,new,_,n,j,rfl,s2 n _ (s1 n _ hn),AB,by omega,?_⟩
  cases e:K01.jj old[m] new j with
  | none=>
   rw[e] at hk
   refine⟨_,rfl,_,rfl,Jj (by rfl) (jY ?_)⟩
   exact⟨j,acc,ps,_,_,rfl,s2,h2,pa,by omega,hj,hk⟩
  | some q=>
   rw[e] at hk
   simp only at hk
   obtain⟨hq1,hq2,FH⟩:=K01.lH e
   have PN:q<new.length:=(Vb.mp hq2).1
   obtain⟨a1,ea1,Zw⟩:=Vw.2 (m+1) (by omega)
   obtain⟨a0,ea0,Zx⟩:=Vw.2 m (by omega)
   have Zw:=s2 a1 _ (Zw (aaU _))
   have Zx:=s2 a0 _ (Zx (aaU _))
   have Vx:H2 tb=some (.lst rows):=s2 tb _ h1
   refine⟨_,rfl,_,rfl,DG (by rfl) ?_⟩
   refine⟨_,rfl,_,rfl,_,_,rfl,rfl,tb,_,_,_,rfl,rfl,gK.of Vx,iE (j:=m+1) (by omega) ea1,_,rfl,_,_,rfl,rfl,a1,_,_,_,rfl,rfl,gK.of Zw,iE (j:=q+1) (by omega) (EW (by omega)),_,_,rfl,rfl,
    _,rfl,_,rfl,tb,_,_,_,rfl,rfl,gK.of Vx,iE rfl ea0,_,rfl,a0,_,_,_,rfl,rfl,gK.of Zx,iE rfl (EW (by omega)),rfl,_,rfl,?_⟩
   refine kU (fun hc=>?_) (fun hc=>?_)
   ·have hc:((K01.yH old new (m+1) (q+1):Nat):Int)+1=((K01.yH old new m j:Nat):Int):=by have:=aaw hc;injection this
    have D1:K01.lcs (old.drop (m+1)) (new.drop (q+1))+1=K01.lcs (old[m]::old.drop (m+1)) (new.drop j):=by rw[←hd];unfold K01.yH at hc;omega
    rw[aax D1] at hk
    refine⟨_,rfl,.inl ⟨rfl,_,gK.of h2⟩,_,rfl,_,rfl,jc,fun t ht=>?_⟩
    have ql:=pa.length
    have ntp:pr≠t:=gn h2 ht
    refine⟨pr,ps,_,rfl,rfl,by rw[e_ ntp];exact h2,by have:sizeLine=2 ^ 24:=rfl;omega,?_⟩
    refine⟨_,rfl,_,_,rfl,rfl,q+1,acc++[(m,q)],ps++[.ref t],_,_,rfl,(s2.new ht).upd WV,b_,?_,by rw[Y5];simp;omega,by omega,by rw[aaZ];exact hk⟩
    refine Paired.snoc (pa.keep fun a xs ha=>?_) ⟨t,rfl,?_⟩
    ·rw[e_ (jd ha h2 (by intro z;cases z)),e_ (gn ha ht)];exact ha
    ·rw[e_ (abT ntp),b_]
     rfl
   ·have hc:¬((K01.yH old new (m+1) (q+1):Nat):Int)+1=((K01.yH old new m j:Nat):Int):=fun z=>hc (XZ (abb V.int z))
    have D1:¬K01.lcs (old.drop (m+1)) (new.drop (q+1))+1=K01.lcs (old[m]::old.drop (m+1)) (new.drop j):=by rw[←hd];unfold K01.yH at hc;omega
    rw[aau D1] at hk
    exact⟨j,acc,ps,_,_,rfl,s2,h2,pa,by omega,hj,hk⟩
 ·rintro σ H2 ⟨j,acc,ps,v,w',rfl,s2,h2,pa,yj,hj,hk⟩
  rw[acy,K01.qL,aaP] at hk
  rw[hk] at pa
  exact⟨_,rfl,k pr H2 ps (s1.trans s2) Zv h2 pa⟩
end
end Kp
namespace PK
open PySem L2 PM
open Kp (nZ jq)
theorem Q3(a b c d:V):jZ "lower_name" d (jZ "upper_name" c (jZ "text" b (jZ "name" a [])))=N8 a b c d:=by kernel_rfl
theorem Q4(a b c d e:V):jZ "other" e (jZ "cuts" d (jZ "puts" c (jZ "file" b (jZ "name" a []))))=N9 a b c d e:=by kernel_rfl
noncomputable def Oe(a l:Addr):List (Str×V):=[("ahead",.ref a),("lines",.ref l)]
theorem Q5(a l:Addr):jZ "lines" (.ref l) (jZ "ahead" (.ref a) [])=Oe a l:=by kernel_rfl
theorem mv(a l:Addr):(Oe a l).lookup ("lines":Str)=some (V.ref l):=by kernel_rfl
theorem Ii(a l:Addr):(Oe a l).lookup ("ahead":Str)=some (V.ref a):=by kernel_rfl
theorem Q6(a l:Addr):(Oe a l).lookup ("is_ahead":Str)=none:=by kernel_rfl
theorem Mt(a l:Addr):(Oe a l).lookup ("quarrelling":Str)=none:=by kernel_rfl
theorem Kt(a:Addr):(jZ ("ahead":Str) (.ref a) []).lookup ("ahead":Str)=some (V.ref a):=by kernel_rfl
def Ij(A:Ad)(H:Hp)(p:Addr)(al row:List Ln):Prop:=∃dx ah l,H p=some (.ins A.ij dx (Oe ah l))∧EU H ah al∧pK A H l row
theorem Ij.same{A:Ad}{H H':Hp}{p:Addr}{al row:List Ln}(x:Ij A H p al row)(s:gk H H'):Ij A H' p al row:=by
 obtain⟨dx,ah,l,h1,h2,h3⟩:=x
 exact⟨dx,ah,l,s _ _ h1,h2.same s,h3.same s⟩
section
variable{P:Program}{w:World}{K:Qqy}{mg:Qqx}{base:Heap}{A:Ad}
def Uk(A:Ad):Sp:=fun vs H Q _=>∃(p dx:Addr)(a b c d:V),vs=[.ref p,a,b,c,d]∧H p=some (.ins A.gQ dx [])∧∀H',(∀x,x≠p→H' x=H x)→H' p=some (.ins A.gQ dx (N8 a b c d))→Q .js H'
theorem E1(T:Txt mg)(O:Ok K mg A):ip P w K mg base nu 1 A.oI A.sU ["self","name","text","upper_name","lower_name"] (Uk A):=by
 refine O.vM.f.rh yK fun jh A0 outer s H vs Q E hr h=>?_
 obtain⟨p,dx,a,b,c,d,rfl,hp,k⟩:=h
 refine⟨_,(de (mG (pv 0) (pv 1) rfl)
  (de (mG (pv 0) (pv 2) rfl)
  (de (mG (pv 0) (pv 3) rfl)
  (f_ (mG (pv 0) (pv 4) rfl))))),?_⟩
 refine NP ?_;intro _ _ _
 refine⟨_,rfl,_,rfl,p,A.gQ,dx,_,rfl,hp,O.iN,O.gT,(by show 0<1000;decide),?_⟩
 refine⟨_,rfl,_,rfl,p,A.gQ,dx,_,rfl,b_,O.iN,O.jI,(by show 1<1000;decide),?_⟩
 refine⟨_,rfl,_,rfl,p,A.gQ,dx,_,rfl,b_,O.iN,O.iF,(by show 2<1000;decide),?_⟩
 refine⟨_,rfl,_,rfl,p,A.gQ,dx,_,rfl,b_,O.iN,O.iG,(by show 3<1000;decide),?_⟩
 exact k _ (fun x hx=>by rw[e_ hx,e_ hx,e_ hx,e_ hx]) (Eq.trans b_ (abb (fun l=>some (HO.ins A.gQ dx l)) (Q3 a b c d)))
def Ul(A:Ad):Sp:=fun vs H Q _=>∃(p dx:Addr)(a b c d e:V),vs=[.ref p,a,b,c,d,e]∧H p=some (.ins A.gL dx [])∧∀H',(∀x,x≠p→H' x=H x)→H' p=some (.ins A.gL dx (N9 a b c d e))→Q .js H'
theorem qy(T:Txt mg)(O:Ok K mg A):ip P w K mg base nu 1 A.nU A.qP ["self","name","file","puts","cuts","other"] (Ul A):=by
 refine O.mZ.f.rh xw fun jh A0 outer s H vs Q E hr h=>?_
 obtain⟨p,dx,a,b,c,d,e,rfl,hp,k⟩:=h
 refine⟨_,(de (mG (pv 0) (pv 1) rfl)
  (de (mG (pv 0) (pv 2) rfl)
  (de (mG (pv 0) (pv 3) rfl)
  (de (mG (pv 0) (pv 4) rfl)
  (f_ (mG (pv 0) (pv 5) rfl)))))),?_⟩
 refine Sw ?_;intro _ _ _ _
 refine⟨_,rfl,_,rfl,p,A.gL,dx,_,rfl,hp,O.i_,O.i6,(by show 0<1000;decide),?_⟩
 refine⟨_,rfl,_,rfl,p,A.gL,dx,_,rfl,b_,O.i_,O.ky,(by show 1<1000;decide),?_⟩
 refine⟨_,rfl,_,rfl,p,A.gL,dx,_,rfl,b_,O.i_,O.jM,(by show 2<1000;decide),?_⟩
 refine⟨_,rfl,_,rfl,p,A.gL,dx,_,rfl,b_,O.i_,O.jN,(by show 3<1000;decide),?_⟩
 refine⟨_,rfl,_,rfl,p,A.gL,dx,_,rfl,b_,O.i_,O.iW,(by show 4<1000;decide),?_⟩
 exact k _ (fun x hx=>by rw[e_ hx,e_ hx,e_ hx,e_ hx,e_ hx]) (Eq.trans b_ (abb (fun l=>some (HO.ins A.gL dx l)) (Q4 a b c d e)))
def Of(A:Ad):Sp:=fun vs H Q _=>∃(p dx a:Addr)(ps:List Pt)(f:Str),vs=[.ref p,.ref a,.str f]∧H p=some (.ins A.ij dx [])∧Aw A H a ps∧Small ps∧
 ((h_ ps f).map (·.nm)).Nodup∧rL (h_ ps f)∧L9 (h_ ps f)∧
 ∀(H':Hp),(∀b o,H b=some o→b≠p→H' b=some o)→Ij A H' p (h_ ps f) (rowOf (Ah (h_ ps f)) (pf ps f))→Q .js H'
theorem lr.off{H H':Hp}{p C dx:Addr}{fs:List (Str×V)}{v:V}{n:Nm}(x:lr H v n)(hp:H p=some (.ins C dx fs))(s:∀b o,H b=some o→b≠p→H' b=some o):lr H' v n:=by
 obtain⟨t,e,h⟩:=x
 exact⟨t,e,s _ _ h (jd h hp (fun z=>by cases z))⟩
theorem DT.off{H H':Hp}{p C dx:Addr}{fs:List (Str×V)}{v:V}{n:Option Nm}(x:DT H v n)(hp:H p=some (.ins C dx fs))(s:∀b o,H b=some o→b≠p→H' b=some o):DT H' v n:=by
 cases n with
 | none=>exact x
 | some n=>exact lr.off x hp s
theorem nv.off{H H':Hp}{p C dx a:Addr}{fs:List (Str×V)}{l:Ln}(x:nv A H a l)(hp:H p=some (.ins C dx fs))(hf:fs.length<2)(s:∀b o,H b=some o→b≠p→H' b=some o):nv A H' a l:=by
 obtain⟨Zy,vn,vu,vl,h,h1,h2,h3⟩:=x
 have:a≠p:=fun z=>by
  rw[z,hp] at h
  have e:=aaJ h
  injection e with _ _ e
  rw[e] at hf
  exact absurd hf (by unfold N8;simp)
 exact⟨Zy,vn,vu,vl,s _ _ h this,h1.off hp s,h2.off hp s,h3.off hp s⟩
theorem pK.off{H H':Hp}{p C dx a:Addr}{fs:List (Str×V)}{ls:List Ln}(x:pK A H a ls)(hp:H p=some (.ins C dx fs))(hf:fs.length<2)(s:∀b o,H b=some o→b≠p→H' b=some o):pK A H' a ls:=by
 obtain⟨as,h,q⟩:=x
 exact⟨as,s _ _ h (jd h hp (fun z=>by cases z)),Paired.lA q fun _ _ z=>z.off hp hf s⟩
theorem xZ.off{H H':Hp}{p C dx a:Addr}{fs:List (Str×V)}{ns:List Nm}(x:xZ H a ns)(hp:H p=some (.ins C dx fs))(s:∀b o,H b=some o→b≠p→H' b=some o):xZ H' a ns:=by
 obtain⟨as,h,q⟩:=x
 exact⟨as,s _ _ h (jd h hp (fun z=>by cases z)),Paired.lA q fun _ _ z=>z.off hp s⟩
theorem oM.off{H H':Hp}{p C dx a:Addr}{fs:List (Str×V)}{pt:Pt}(x:oM A H a pt)(hp:H p=some (.ins C dx fs))(hf:fs.length<2)(s:∀b o,H b=some o→b≠p→H' b=some o):oM A H' a pt:=by
 obtain⟨Zy,vf,pu,cu,vo,h,h1,h2,h3,h4⟩:=x
 have:a≠p:=fun z=>by
  rw[z,hp] at h
  have e:=aaJ h
  injection e with _ _ e
  rw[e] at hf
  exact absurd hf (by unfold N9;simp)
 exact⟨Zy,vf,pu,cu,vo,s _ _ h this,h1,h2.off hp hf s,h3.off hp s,h4⟩
theorem Aw.off{H H':Hp}{p C dx a:Addr}{fs:List (Str×V)}{ps:List Pt}(x:Aw A H a ps)(hp:H p=some (.ins C dx fs))(hf:fs.length<2)(s:∀b o,H b=some o→b≠p→H' b=some o):Aw A H' a ps:=by
 obtain⟨as,h,q⟩:=x
 exact⟨as,s _ _ h (jd h hp (fun z=>by cases z)),Paired.lA q fun _ _ z=>z.off hp hf s⟩
theorem EU.off{H H':Hp}{p C dx a:Addr}{fs:List (Str×V)}{ls:List Ln}(x:EU H a ls)(hp:H p=some (.ins C dx fs))(s:∀b o,H b=some o→b≠p→H' b=some o):EU H' a ls:=by
 obtain⟨kvs,e1,e2⟩:=x
 refine⟨kvs,s _ _ e1 (jd e1 hp (fun z=>by cases z)),fun n hn=>?_⟩
 obtain⟨b,dk,z1,z2,z3⟩:=e2 n hn
 exact⟨b,dk,z1,s _ _ z2 (jd z2 hp (fun z=>by cases z)),z3⟩
theorem C2(T:Txt mg)(O:Ok K mg A):ip P w K mg base nu 3 A.nV A.qW ["self","patches","file"] (Of A):=by
 have Hk:=@EV P w K mg base A T O
 have uP:=@x5 P w K mg base A T O
 have zf:=@x8 P w K mg base A T O
 have M0:=@Ks P w K mg base A T O
 refine O.ux.f.rh xx fun jh A0 outer s H vs Q E hr h=>?_
 obtain⟨p,dx,a,ps,f,rfl,hp,ha,sm,nd,cl,tp,q⟩:=h
 have Vy:rj (h_ ps f).length:=aah (sr ps f) sm.iJ
 have AA:=mO ps f
 refine⟨_,(de (mG (pv 0) (pJ O.DL Hk hr (a_ (pJ O.yW uP hr (a_ (pv 1) (a_ (pv 2) d_))) d_)) rfl)
   (f_ (mG (pv 0) (pJ O.Mi M0 hr (a_ (pJ O.uv zf hr (a_ (pv 1) (a_ (pv 2) d_))) (a_ (gF (pv 0) rfl) d_))) rfl))),?_⟩
 refine K4 ?_;intro _
 refine⟨_,rfl,_,rfl,a,ps,f,rfl,ha,sm,fun l1 H1 s1 WW Vz=>?_⟩
 refine⟨l1,_,rfl,Vz,Vy,nd,cl,tp,fun ah H2 s2 WX VA=>?_⟩
 have Zz:gk H H2:=s1.trans s2
 have AX:=Zz p _ hp
 refine⟨_,rfl,p,A.ij,dx,_,rfl,AX,O.k7,O.jQ,(by show 0<1000;decide),?_⟩
 have s3:∀b o,H2 b=some o→b≠p→(upd H2 p (.ins A.ij dx (jZ "ahead" (.ref ah) []))) b=some o:=fun b o e n=>by rw[e_ n];exact e
 have ha3:=(ha.same Zz).off AX (by decide) s3
 have VB:=VA.off AX s3
 refine⟨_,rfl,_,rfl,a,ps,f,rfl,ha3,sm,fun st H4 s4 WY VC=>?_⟩
 have OU:H4 p=some (.ins A.ij dx (jZ "ahead" (.ref ah) [])):=s4 p _ b_
 refine⟨_,rfl,p,A.ij,dx,_,_,rfl,OU,O.k7,O.jQ,Kt ah,st,ah,pf ps f,h_ ps f,rfl,VC,VB.same s4,aah AA.length_le Vy,(AA.map _).nodup nd,fun l hl=>aai (AA.subset hl),tp,fun l H5 s5 WZ VD=>?_⟩
 have VE:=s5 p _ OU
 refine⟨_,rfl,p,A.ij,dx,_,rfl,VE,O.k7,O.iB,(by show 1<1000;decide),?_⟩
 have s6:∀b o,H5 b=some o→b≠p→(upd H5 p (.ins A.ij dx (jZ "lines" (.ref l) (jZ "ahead" (.ref ah) [])))) b=some o:=fun b o e n=>by rw[e_ n];exact e
 refine q _ (fun b o hb nb=>?_) ⟨dx,ah,l,Eq.trans b_ (abb (fun l=>some (HO.ins A.ij dx l)) (Q5 ah l)),?_,?_⟩
 ·rw[e_ nb]
  refine s5 b o (s4 b o ?_)
  rw[e_ nb]
  exact Zz b o hb
 ·exact((VB.same s4).same s5).off VE s6
 ·exact VD.off VE (by show 1<2;decide) s6
open Classical in
def Yj(A:Ad):Sp:=fun vs H Q _=>∃(p:Addr)(al row:List Ln)(i j:Nat)(a b:Ln),vs=[.ref p,.int i,.int j]∧Ij A H p al row∧row[i]?=some a∧row[j]?=some b∧b.nm∈al.map (·.nm)∧Q (.bl (decide (Ah al a.nm b.nm))) H
open Classical in
theorem G5(T:Txt mg)(O:Ok K mg A):ip P w K mg base nu 1 A.qX A.qY ["self","first","second"] (Yj A):=by
 refine O.uy.f.rh xy fun jh A0 outer s H vs Q E hr h=>?_
 obtain⟨p,al,row,i,j,x,y,rfl,⟨dx,ah,l,h1,⟨kh,h2,h3⟩,⟨as,h4,h5⟩⟩,hi,hj,hy,q⟩:=h
 obtain⟨b,hb,dxb,vn,vu,vl,g1,⟨t,rfl,g2⟩,g3,g4⟩:=ox h5 hi
 obtain⟨c,hc,dxc,vn',vu',vl',k1,⟨t',rfl,k2⟩,k3,k4⟩:=ox h5 hj
 obtain⟨e,dk,z1,z2,z3⟩:=h3 y.nm hy
 have W0:(as.map V.ref)[i]?=some (.ref b):=by rw[aan,hb];rfl
 have hcj:(as.map V.ref)[j]?=some (.ref c):=by rw[aan,hc];rfl
 refine⟨_,(f_ (gP (P_ (qp (by exact iO hr) (gF (uX (gF (pv 0) rfl) (pv 1)) rfl) (v_ hr (gF (pv 0) rfl) (gF (uX (gF (pv 0) rfl) (pv 2)) rfl)))))),?_⟩
 refine⟨_,rfl,p,A.ij,dx,_,_,rfl,h1,O.k7,O.iB,mv ah l,_,rfl,l,_,_,_,rfl,rfl,gK.of h4,iE rfl W0,b,A.gQ,dxb,_,_,rfl,g1,O.iN,O.gT,ja,?_⟩
 refine⟨_,rfl,p,A.ij,dx,_,_,rfl,h1,O.k7,O.jQ,Ii ah l,_,rfl,p,A.ij,dx,_,_,rfl,h1,O.k7,O.iB,mv ah l,_,rfl,l,_,_,_,rfl,rfl,gK.of h4,iE rfl hcj,c,A.gQ,dxc,_,_,rfl,k1,O.iN,O.gT,ja,ah,.ref e,rfl,?_,e,_,rfl,iY.t (k:=nk x.nm) z2 g2,?_⟩
 ·have:=iY.t (k:=nk y.nm) h2 k2
  rw[z1] at this
  exact this
 ·have e2:(iV dk (nk x.nm)).isSome=decide (Ah al x.nm y.nm):=by
   rw[abp,abJ];exact z3 x.nm
  rw[e2]
  exact q
def Yk(A:Ad):Sp:=fun vs H Q _=>∃(p:Addr)(al row:List Ln),vs=[.ref p]∧Ij A H p al row∧(∀l∈row,l.nm∈al.map (·.nm))∧rj row.length∧∀r H' vs,gk H H'→H r=none→H' r=some (.lst vs)→jq H' (l6 (Ah al) row) vs→Q (.ref r) H'
open Classical in
noncomputable def y4(lt:Nm→Nm→Prop)(row:List Ln)(i m:Nat):List (Nat×Nat):=((List.range' (i+1) m).filter fun j=>decide (¬ltAt lt row i j)).map fun j=>(i,j)
noncomputable def G6(lt:Nm→Nm→Prop)(row:List Ln)(i:Nat):List (Nat×Nat):=(List.range i).flatMap fun i=>y4 lt row i (row.length-(i+1))
theorem Mu(lt:Nm→Nm→Prop)(row:List Ln):G6 lt row row.length=l6 lt row:=rfl
theorem DV(lt:Nm→Nm→Prop)(row:List Ln)(i:Nat):G6 lt row (i+1)=G6 lt row i++y4 lt row i (row.length-(i+1)):=by
 unfold G6
 rw[acq,abF,aaN,abN,aaP]
theorem Ku(lt:Nm→Nm→Prop)(row:List Ln)(i m:Nat)(h:¬ltAt lt row i (i+1+m)):y4 lt row i (m+1)=y4 lt row i m++[(i,i+1+m)]:=by
 unfold y4
 rw[show m+1=m+1 from rfl,←List.range'_append_1 (s:=i+1) (m:=m) (n:=1),aaQ,aaA]
 congr 1
 show List.map _ (List.filter _ [i+1+m])=_
 rw[aae (by simpa using h)]
 rfl
theorem Ik(lt:Nm→Nm→Prop)(row:List Ln)(i m:Nat)(h:ltAt lt row i (i+1+m)):y4 lt row i (m+1)=y4 lt row i m:=by
 unfold y4
 rw[←List.range'_append_1 (s:=i+1) (m:=m) (n:=1),aaQ,aaA]
 show _++List.map _ (List.filter _ [i+1+m])=_
 rw[aaj (by simpa using h)]
 simp
theorem G7(lt:Nm→Nm→Prop)(row:List Ln)(i m:Nat):(y4 lt row i m).length≤m:=by
 unfold y4
 rw[U8]
 exact aah (aaH _ _) (by rw[List.length_range'];exact aab _)
theorem G8(lt:Nm→Nm→Prop)(row:List Ln):∀i,(G6 lt row i).length≤i*row.length
 | 0=>aaU _
 | i+1=>by
  rw[DV,Y5,Nat.succ_mul]
  have:=G8 lt row i
  have:=G7 lt row i (row.length-(i+1))
  omega
open Classical in
theorem uK(T:Txt mg)(O:Ok K mg A):ip P w K mg base nu 2 A.oS A.oT ["self"] (Yk A):=by
 have zg:=@G5 P w K mg base A T O
 refine O.j6.f.rh j4 fun jh A0 outer s H vs Q E hr h=>?_
 obtain⟨p,al,row,rfl,S,VF,jc,q⟩:=h
 obtain⟨dx,ah,l,h1,h2,⟨as,h4,h5⟩⟩:=id S
 have hlen:=aav h5
 have AD:row.length≤4000:=jc
 have sz:sizeLine=16777216:=aaF
 refine⟨_,(de (lB 1 j4 (iA d_))
   (de (iP aaG rfl (lu rfl T.mX (a_ (gJ gD (by rfl) T.jX aaE (a_ (gF (pv 0) rfl) d_)) d_)) (vZ 2 j4) (f_ (iP aaG rfl (Dl rfl T.mX (a_ (gz iQ (pv 2) gi) (a_ (gJ gD (by rfl) T.jX aaE (a_ (gF (pv 0) rfl) d_)) d_))) (vZ 3 j4) (f_ (iz (o7 (rA (zw (pv 0) O.k7 O.uy zg hr (a_ (pv 2) (a_ (pv 3) d_))))) (f_ (ib (qH aaW aa3 aa4 lx (pv 1) (a_ (yw (a_ (pv 2) (a_ (pv 3) d_))) d_)))) ia)))))
   (f_ (gP (pv 1))))),?_⟩
 refine Ei ?_;intro _ _
 refine⟨L2.jc,fun r oZ=>?_⟩
 have s1:gk H (upd H r (.lst [])):=(gk.refl H).new oZ
 have el:((as.map V.ref).length:Int)=(row.length:Int):=by rw[U8,hlen]
 refine⟨_,rfl,p,A.ij,dx,_,_,rfl,s1 _ _ h1,O.k7,O.iB,mv ah l,l,_,rfl,.inl (gK.of (s1 _ _ h4)),_,rfl,by omega,by omega,?_⟩
 rw[el,ab5]
 let Jv:=fun(i:Nat) (σ:St) (H2:Hp)=>∃(v2 v3:Option V)(vs:List V),σ=[rr p,rr r,v2,v3]∧gk H H2∧H2 r=some (.lst vs)∧jq H2 (G6 (Ah al) row i) vs
 refine nI Jv ⟨none,none,[],rfl,s1,b_,.nil⟩ ?_ ?_
 ·rintro i σ H2 hi ⟨v2,v3,vs,rfl,s2,k1,k2⟩
  rw[show(0:Int)+(i:Int)=(i:Int) by omega]
  refine⟨_,rfl,_,_,rfl,rfl,_,rfl,p,A.ij,dx,_,_,rfl,s2 _ _ h1,O.k7,O.iB,mv ah l,l,_,rfl,.inl (gK.of (s2 _ _ h4)),_,_,rfl,⟨by omega,by omega,by omega,by omega⟩,?_⟩
  rw[el,show((row.length:Int)-((i:Int)+1)).toNat=row.length-(i+1) by omega]
  let Jv:=fun(m:Nat) (σ:St) (H3:Hp)=>∃(v3:Option V)(vs:List V),σ=[rr p,rr r,ri i,v3]∧gk H H3∧H3 r=some (.lst vs)∧jq H3 (G6 (Ah al) row i++y4 (Ah al) row i m) vs
  refine nI Jv ⟨v3,vs,rfl,s2,k1,by unfold y4;simpa using k2⟩ ?_ ?_
  ·rintro m σ H3 hm ⟨v3,vs,rfl,s3,k1,k2⟩
   rw[show(i:Int)+1+(m:Int)=((i+1+m:Nat):Int) by omega]
   have hj:i+1+m<row.length:=by omega
   have ei:row[i]?=some row[i]:=Y0 hi
   have ej:row[i+1+m]?=some row[i+1+m]:=Y0 hj
   have AB:vs.length=(G6 (Ah al) row i++y4 (Ah al) row i m).length:=(aav k2).symm
   have VG:=G8 (Ah al) row i
   have ze:=G7 (Ah al) row i m
   have hb3:i*row.length≤4000*4000:=Nat.mul_le_mul (by omega) AD
   rw[Y5] at AB
   refine⟨_,rfl,p,dx,_,rfl,s3 _ _ h1,Q6 ah l,_,rfl,_,rfl,p,al,row,i,i+1+m,_,_,rfl,S.same s3,ei,ej,VF _ (List.getElem_mem hj),_,rfl,?_⟩
   have my:ltAt (Ah al) row i (i+1+m)↔Ah al row[i].nm row[i+1+m].nm:=by
    constructor
    ·rintro⟨a,b,ha,hb,z⟩
     rw[ei] at ha;rw[ej] at hb;cases ha;cases hb
     exact z
    ·exact fun z=>⟨_,_,ei,ej,z⟩
   by_cases hc:Ah al row[i].nm row[i+1+m].nm
   ·rw[XZ hc]
    exact jY ⟨_,vs,rfl,s3,k1,by rw[Ik _ _ _ _ (my.mpr hc)];exact k2⟩
   ·rw[aac hc]
    refine mx ?_
    refine⟨_,rfl,.inl ⟨rfl,_,gK.of k1⟩,_,rfl,_,rfl,L2.jc,fun t ht=>?_⟩
    have ntr:r≠t:=gn k1 ht
    refine⟨r,vs,_,rfl,rfl,by rw[e_ ntr];exact k1,by omega,?_⟩
    refine⟨_,vs++[.ref t],rfl,(s3.new ht).upd oZ,b_,?_⟩
    rw[Ku _ _ _ _ (fun z=>hc (my.mp z)),←aaZ]
    refine ix (Paired.lA k2 fun a v ⟨b,e,hb⟩=>⟨b,e,?_⟩) ⟨t,rfl,?_⟩
    ·rw[e_ (jd hb k1 (by intro z;cases z)),e_ (gn hb ht)];exact hb
    ·rw[e_ ntr.symm,b_]
  ·rintro σ H3 ⟨v3,vs,rfl,s3,k1,k2⟩
   exact⟨_,_,vs,rfl,s3,k1,by rw[DV];exact k2⟩
 ·rintro σ H2 ⟨v2,v3,vs,rfl,s2,k1,k2⟩
  exact⟨_,rfl,q r H2 vs s2 oZ k1 (by rw[Mu] at k2;exact k2)⟩
theorem DT.upd{H:Hp}{v:V}{n:Option Nm}{x:Addr}{o o':HO}(h:DT H v n)(hx:H x=some o')(ht:∀xs,o'≠.tup xs):DT (L2.upd H x o) v n:=by
 cases n with
 | none=>exact h
 | some n=>exact lr.upd h hx ht
theorem nv.upd{A:Ad}{H:Hp}{a:Addr}{l:Ln}{x:Addr}{o o':HO}(h:nv A H a l)(hx:H x=some o')(ht:∀xs,o'≠.tup xs)(hi:∀C dx fs,o'≠.ins C dx fs):nv A (L2.upd H x o) a l:=by
 obtain⟨dx,vn,vu,vl,h0,h1,h2,h3⟩:=h
 exact⟨dx,vn,vu,vl,by rw[e_ (jd h0 hx (fun z=>hi _ _ _ z.symm))];exact h0,h1.upd hx ht,h2.upd hx ht,h3.upd hx ht⟩
theorem B4{A:Ad}{H:Hp}{as:List Addr}{ls:List Ln}(p:Paired (nv A H) as ls){i:Nat}{l:Ln}(h:ls[i]?=some l):∃b,(as.map V.ref)[i]?=some (.ref b)∧nv A H b l:=by
 obtain⟨b,hb,z⟩:=ox p h
 exact⟨b,by rw[aan,hb];rfl,z⟩
noncomputable def C3(p:Pt)(k:Nat):List (Option Nm):=p.kR.map some++(p.iJ.take k).flatMap fun l=>[l.up,l.lo]
theorem named_eq(p:Pt):named p=(C3 p p.iJ.length).filterMap id:=by
 unfold named C3
 rw[aam,abZ,List.filterMap_map]
 congr 1
 ·induction p.kR with
  | nil=>rfl
  | cons x r ih=>rw[abC];show _=x::_;rw[←ih]
 ·induction p.iJ with
  | nil=>rfl
  | cons x r ih=>
   rw[aaN,aaN,abZ,ih]
   congr 1
   cases x.up<;>cases x.lo<;>rfl
theorem B5(p:Pt)(k:Nat):(C3 p k).length≤p.kR.length+2*k:=by
 unfold C3
 rw[Y5,U8]
 have:∀(ls:List Ln),(ls.flatMap fun l=>[l.up,l.lo]).length=2*ls.length:=fun ls=>by
  induction ls with
  | nil=>rfl
  | cons x r ih=>rw[aaN,Y5,ih];simp only [aal,List.length_nil];omega
 rw[this,aay]
 omega
def Og(A:Ad):Sp:=fun vs H Q _=>∃(a:Addr)(p:Pt),vs=[.ref a]∧oM A H a p∧rj p.iJ.length∧rj p.kR.length∧∀r H',gk H H'→H r=none→xZ H' r (named p)→Q (.ref r) H'
theorem ya(T:Txt mg)(O:Ok K mg A):ip P w K mg base nu 1 A.qQ A.qR ["patch"] (Og A):=by
 refine O.uu.f.rh lE fun jh A0 outer s H vs Q E hr h=>?_
 obtain⟨a,p,rfl,⟨dx,vf,pu,cu,vo,g1,g2,⟨as,g3,Vd⟩,⟨cs,g4,SU⟩,g5⟩,wA,De,q⟩:=h
 have hlen:=aav Vd
 have PB:=aav SU
 have PQ:p.iJ.length≤4000:=wA
 have M3:p.kR.length≤4000:=De
 have sz:sizeLine=16777216:=aaF
 refine⟨_,(de (lB 1 lE (uV xm (by rfl) T.yV abW (a_ (gF (pv 0) rfl) d_)))
   (de (iP aaG rfl (ir (gF (pv 0) rfl)) (vZ 2 lE) (de (ib (qH aaW aa3 aa4 lx (pv 1) (a_ (gF (pv 2) rfl) d_)))
   (f_ (ib (qH aaW aa3 aa4 lx (pv 1) (a_ (gF (pv 2) rfl) d_))))))
   (f_ (gP (tM qN (gc lT).names [3] rfl (ir (pv 1)) rfl (by decide+kernel) (fun _ _ _ _=>(iy (i:=3) lE.nd rfl (Or.inl rfl))) (fun _ _ _ _=>⟨_,nK (ji (rq (pv 3))),by(try simp only [kW]);rfl⟩) (fun _ _ _ _=>zx (pv 3))))))),?_⟩
 refine Ei ?_;intro _ _
 refine⟨_,rfl,a,A.gL,dx,_,_,rfl,g1,O.i_,O.jN,B1,cu,cs,rfl,.inl (gK.of g4),fun l hl=>?_⟩
 have s1:gk H (upd H l (.lst cs)):=(gk.refl H).new hl
 dsimp only [nE];refine LM ?_;intro _
 let Jv:=fun(i:Nat) (σ:St) (H2:Hp)=>∃(v:Option V)(xs:List V),σ=[rr a,rr l,v,none]∧gk H H2∧H2 l=some (.lst xs)∧Paired (DT H) xs (C3 p i)
 refine⟨_,rfl,a,A.gL,dx,_,_,rfl,s1 _ _ g1,O.i_,O.jM,B0,pu,rfl,⟨_,gK.of (s1 _ _ g3)⟩,je (K:=K) (a:=pu) (xs:=as.map V.ref) Jv
  ⟨none,cs,rfl,s1,b_,?_⟩ (by rintro _ _ _ _ ⟨_,_,_,s2,_⟩;exact gK.of (s2 _ _ g3)) ?_ ?_⟩
 ·unfold C3
  rw[abH,abN,aaP]
  clear PB M3 De q g4 s1
  generalize p.kR=ms at SU
  induction SU with
  | nil=>exact .nil
  | cons f t ih=>exact .cons f ih
 ·rintro i v σ H2 hx ⟨v0,xs,rfl,s2,h1,h2⟩
  obtain⟨b,hb,rfl⟩:=k9 hx
  obtain⟨ln,AB,Nj,vn,vu,vl,k1,k2,k3,k4⟩:=iC Vd hb
  have hi:i<p.iJ.length:=(Vb.mp AB).1
  have hxl:xs.length≤p.kR.length+2*i:=by rw[aav h2];exact B5 p i
  have e:C3 p (i+1)=C3 p i++[ln.up]++[ln.lo]:=by
   unfold C3
   rw[take_snoc AB,abF,aaN,abN,aaZ,aaZ]
   rfl
  refine⟨_,rfl,.inl ⟨rfl,_,gK.of h1⟩,_,rfl,b,A.gQ,Nj,_,_,rfl,s2 _ _ k1,O.iN,O.iF,EO,l,_,_,rfl,rfl,h1,by omega,?_⟩
  have s3:gk H (upd H2 l (.lst (xs++[vu]))):=s2.upd hl
  refine⟨_,rfl,.inl ⟨rfl,_,gK.of b_⟩,_,rfl,b,A.gQ,Nj,_,_,rfl,s3 _ _ k1,O.iN,O.iG,ER,l,_,_,rfl,rfl,b_,by rw[Y5];show xs.length+1<_;omega,?_⟩
  refine⟨_,_,rfl,s3.upd hl,b_,?_⟩
  rw[e]
  exact ix (ix h2 k3) k4
 ·rintro σ H2 ⟨v0,xs,rfl,s2,h1,h2⟩
  have e0:(as.map V.ref).length=p.iJ.length:=by rw[U8,hlen]
  rw[e0] at h2
  have hxl:xs.length≤p.kR.length+2*p.iJ.length:=by rw[aav h2];exact B5 p _
  refine⟨_,rfl,l,rfl,⟨_,gK.of h1⟩,jE (K:=K) (a:=l) (xs:=xs) (by omega) (fun i ys σ H4=>∃(v3:Option V),σ=[rr a,rr l,v0,v3]∧H4=H2∧ys.length≤i∧Paired (lr H) ys (((C3 p p.iJ.length).take i).filterMap id))
   ⟨none,rfl,rfl,aab _,.nil⟩ (by rintro _ _ _ _ _ ⟨_,_,e,e3,_⟩;subst e;exact⟨gK.of h1,e3⟩) ?_ ?_⟩
  ·rintro i v ys σ H4 hx ⟨v3,rfl,rfl,e3,h6⟩
   obtain⟨o,ho,hv⟩:=iC h2 hx
   refine⟨_,rfl,_,rfl,?_⟩
   rw[take_snoc ho,abZ]
   cases o with
   | none=>
    rw[show v=V.js from hv]
    exact⟨_,rfl,rfl,by omega,by simpa using h6⟩
   | some m=>
    obtain⟨t,rfl,ht⟩:=(show lr H v m from hv)
    exact⟨_,rfl,_,rfl,rfl,Ph,ix h6 ⟨t,rfl,ht⟩⟩
  ·rintro ys σ H4 ⟨v3,rfl,rfl,e3,h6⟩ r oZ
   rw[aav h2,aam,←named_eq] at h6
   have s5:=s2.new (o:=.lst ys) oZ
   exact q r _ s5 (s2.free oZ) ⟨ys,b_,Paired.lA h6 fun _ _ z=>z.same s5⟩
def Q7(A:Ad):Sp:=fun vs H Q _=>∃(a:Addr)(p:Pt),vs=[.ref a]∧oM A H a p∧rj p.iJ.length∧rj p.kR.length∧∀r H',gk H H'→H r=none→H' r=some (.lst (gh (iT p)))→Q (.ref r) H'
theorem DW(p:Pt):(named p).length≤p.kR.length+2*p.iJ.length:=by
 rw[named_eq]
 exact aah (List.length_filterMap_le _ _) (B5 p _)
theorem uL(T:Txt mg)(O:Ok K mg A):ip P w K mg base nu 2 A.oQ A.oR ["patch"] (Q7 A):=by
 have zh:=@ya P w K mg base A T O
 refine O.qi.f.rh lK fun jh A0 outer s H vs Q E hr h=>?_
 obtain⟨a,p,rfl,pa,wA,De,q⟩:=h
 obtain⟨dx,vf,pu,cu,vo,g1,g2,g3,g4,g5⟩:=id pa
 have PQ:p.iJ.length≤4000:=wA
 have M3:p.kR.length≤4000:=De
 have sz:sizeLine=16777216:=aaF
 have IC:=DW p
 refine⟨_,(de (Bf (j:=1) oP (gc kA).names [2] lK.nd rfl rfl rfl (ir (pJ O.uu zh hr (a_ (pv 0) d_))) rfl (by decide+kernel) (fun _ _ _ _=>(iy (i:=2) lK.nd rfl (Or.inl rfl))) (fun _ _ _ _=>⟨_,nK (ie IU (l0 A8 (pv 2) gi (fun _ _=>rfl)) (gF (pv 0) rfl) (iu _)),by(try simp only [kW]);rfl⟩) (fun _ _ _ _=>zx (l0 A8 (pv 2) gi (fun _ _=>rfl))))
   (de (iz (ji (rq (gF (pv 0) rfl))) (f_ (ib (qH aaW aa3 aa4 lx (pv 1) (a_ (gF (pv 0) rfl) d_)))) ia)
   (f_ (gP (pv 1))))),?_⟩
 refine Ei ?_;intro _ _
 refine⟨_,rfl,a,p,rfl,pa,wA,De,fun n H1 s1 hn0 ⟨ns,hn1,Ng⟩=>?_⟩
 have ZA:=aav Ng
 let Jv:=fun(i:Nat) (ys:List V) (σ:St) (H4:Hp)=>∃(v2:Option V)(zs:List Str),σ=[rr a,none,v2]∧H4=H1∧ys=gh zs∧zs.length≤i∧zs=(((named p).take i).filter fun n=>n.1≠p.nm).map (·.1)
 refine⟨n,rfl,⟨_,gK.of hn1⟩,jE (K:=K) (a:=n) (xs:=ns) (by omega) Jv
  ⟨none,[],rfl,rfl,rfl,aab _,rfl⟩ (by rintro _ _ _ _ _ ⟨_,zs,_,e,e2,e3,_⟩;subst e e2;exact⟨gK.of hn1,by rw[U8];exact e3⟩) ?_ ?_⟩
 ·rintro i v ys σ H4 hx ⟨v2,zs,rfl,rfl,rfl,e3,e4⟩
  obtain⟨m,hm,t,rfl,ht⟩:=iC Ng hx
  have W3:HJ ((nk m).map kV) 0=some (V.str m.1):=iE (j:=0) rfl rfl
  refine⟨_,rfl,t,_,0,_,rfl,rfl,yo.of ht,W3,_,rfl,a,A.gL,dx,_,_,rfl,s1 _ _ g1,O.i_,O.i6,uF,rfl,_,rfl,?_⟩
  have ed:decide (V.str m.1=V.str p.nm)=decide (m.1=p.nm):=by
   by_cases e:m.1=p.nm
   ·rw[XZ e,XZ (abb V.str e)]
   ·rw[aac e,aac fun z=>e (V.str.inj z)]
  rw[ed]
  subst e4
  by_cases e:m.1=p.nm
  ·rw[XZ e]
   refine jY ⟨_,_,rfl,rfl,rfl,by omega,?_⟩
   rw[take_snoc hm,aaQ,aaj (by simpa using e)]
   simp
  ·rw[aac e]
   refine mx ⟨_,rfl,t,_,0,_,rfl,rfl,yo.of ht,W3,_,_,rfl,rfl,iK _ _,by rw[Y5];show _+1≤_;omega,?_⟩
   rw[take_snoc hm,aaQ,aae (by simpa using e)]
   simp
 ·rintro ys σ H4 ⟨v2,zs,rfl,rfl,rfl,e3,e4⟩ r oZ
  rw[ZA,aam] at e4
  have s5:=s1.new (o:=.lst (gh zs)) oZ
  refine⟨_,rfl,a,A.gL,dx,_,_,rfl,s5 _ _ g1,O.i_,O.iW,rb,_,rfl,?_⟩
  unfold iT at q
  rw[←e4] at q
  cases ho:p.other with
  | none=>
   rw[ho] at g5 q
   rw[show vo=V.js from g5]
   exact⟨_,rfl,q r _ s5 (s1.free oZ) (by rw[b_];simp)⟩
  | some x=>
   rw[ho] at g5 q
   rw[show vo=V.str x from g5] at g1 ⊢
   refine⟨_,rfl,.inl ⟨rfl,_,gK.of b_⟩,_,rfl,a,A.gL,dx,_,_,rfl,s5 _ _ g1,O.i_,O.iW,rb,r,_,_,rfl,rfl,b_,by rw[U8];omega,?_⟩
   exact⟨_,rfl,q r _ (s5.upd (s1.free oZ)) (s1.free oZ) (by rw[b_];show _=some (HO.lst (gh (zs++[x])));rw[←iK])⟩
def Um(H:Hp)(a:Addr)(kn:Nat→Option Nm):Prop:=∃kvs:List (Key×V),H a=some (.dK kvs)∧∀s:Nat,match kn s with|some m=>∃v,iV kvs (Sum.inl (s:Int))=some v∧lr H v m|none=>iV kvs (Sum.inl (s:Int))=none
def Yl:Sp:=fun vs H Q _=>∃(a:Addr)(n:Nat)(kn:Nat→Option Nm),vs=[.ref a,.int n]∧Um H a kn∧n≤4000∧∀p H' xs,gk H H'→H p=none→H' p=some (.lst xs)→xs.length=n→(∀i v,xs[i]?=some v→DT H v (N4 kn (n-1-i) i))→Q (.ref p) H'
theorem B6(T:Txt mg)(O:Ok K mg A):ip P w K mg base nu 1 A.vI A.vJ ["kept_names","size"] Yl:=by
 refine O.Af.f.rh pA fun jh A0 outer s H vs Q E hr h=>?_
 obtain⟨a,n,kn,rfl,⟨kvs,h1,h2⟩,hn,q⟩:=h
 have sz:sizeLine=16777216:=aaF
 refine⟨_,(de (lB 2 pA (gz HQ (iA (a_ tG d_)) (pv 1)))
   (de (iP aaG rfl (yA rfl T.mX (a_ (gz Ea (pv 1) gi) (a_ (zo tJ gi) (a_ (zo tJ gi) d_)))) (vZ 3 pA) (f_ (D_ (Lu (by exact iO hr) (pv 0) (gz iQ (pv 3) gi) (uX (pv 2) (gz iQ (pv 3) gi)) ⟨rfl,rfl,rfl,rfl⟩) (D9 (pv 2) (pv 3) set_list))))
   (f_ (gP (pv 2))))),?_⟩
 refine Ei ?_;intro _ _
 refine⟨L2.jc,fun l hl=>?_⟩
 refine⟨_,rfl,l,_,_,rfl,rfl,b_,by omega,by omega,by simp;omega,fun p hp=>?_⟩
 have ql:p≠l:=fun z=>by rw[z,b_] at hp;cases hp
 have ID:H p=none:=by rw[e_ ql] at hp;exact hp
 have e0:(List.replicate (n:Int).toNat [V.js]).flatten=List.replicate n V.js:=by
  rw[ab5]
  clear q hn
  induction n with
  | zero=>rfl
  | succ n ih=>rw[abi,ab6,ih,abi];rfl
 rw[e0]
 have s1:gk H (upd (upd H l (.lst [V.js])) p (.lst (List.replicate n V.js))):=((gk.refl H).upd hl).upd ID
 refine⟨_,rfl,_,_,rfl,rfl,_,rfl,_,rfl,_,_,rfl,⟨by omega,by omega,by omega,by omega⟩,?_⟩
 rw[show((n:Int)-2 - -1).toNat=n-1 by omega]
 let Jv:=fun(m:Nat) (σ:St) (H2:Hp)=>∃(v:Option V)(xs:List V),σ=[rr a,ri n,rr p,v]∧gk H H2∧H2 p=some (.lst xs)∧xs.length=n∧∀i v,xs[i]?=some v→n-1≤i+m→DT H v (N4 kn (n-1-i) i)
 refine vY Jv ⟨none,_,rfl,s1,b_,by simp,fun i v hv hi=>?_⟩ ?_ ?_
 ·have my:i<n:=by have:=(Vb.mp hv).1;simpa using this
  have:v=V.js:=by
   have:=Yd hv
   exact List.eq_of_mem_replicate this
  rw[this,show n-1-i=0 by omega]
  exact rfl
 ·rintro m σ H2 hm ⟨v0,xs,rfl,s2,k1,k2,k3⟩
  obtain⟨j,hj⟩:∃j,j+m+2=n:=⟨n-2-m,by omega⟩
  rw[show(n:Int)-2+(m:Int) * -1=(j:Int) by omega]
  have hx:xs[j+1]?=some xs[j+1]:=Y0 (by omega)
  refine⟨_,rfl,a,rfl,.inl ⟨_,.inl (s2 _ _ h1)⟩,_,rfl,_,_,rfl,rfl,_,rfl,_,rfl,_,_,rfl,rfl,p,_,_,_,rfl,rfl,gK.of k1,iE (j:=j+1) (by omega) hx,_,iY.k (k:=Sum.inl ((j:Int)+1)) (s2 _ _ h1),?_⟩
  refine⟨_,rfl,_,rfl,p,_,_,j,rfl,rfl,k1,En rfl (by omega),?_⟩
  refine⟨_,_,rfl,s2.upd ID,b_,by rw[acz];exact k2,fun i v hv hi=>?_⟩
  by_cases e:i=j
  ·subst e
   rw[abf (by omega)] at hv
   have hv:=aaJ hv
   rw[←hv,show n-1-i=(n-1-(i+1))+1 by omega]
   unfold N4
   have h3:=h2 (i+1)
   rw[show((i+1:Nat):Int)=(i:Int)+1 by omega] at h3
   cases hk:kn (i+1) with
   | none=>
    rw[hk] at h3
    rw[h3]
    exact k3 (i+1) _ hx (by omega)
   | some mm=>
    rw[hk] at h3
    obtain⟨u,z1,z2⟩:=h3
    rw[z1]
    exact z2
  ·rw[abm (fun z=>e z.symm)] at hv
   exact k3 i v hv (by omega)
 ·rintro σ H2 ⟨v0,xs,rfl,s2,k1,k2,k3⟩
  exact⟨_,rfl,q p H2 xs s2 ID k1 k2 fun i v hv=>k3 i v hv (by omega)⟩
def Ym(K:Qqy)(A:Ad):Sp:=fun vs H Q _=>∃(x:Str)(t a:Addr)(texts:List Str)(kn:Nat→Option Nm),vs=[.str x,.ref t,.ref a]∧gK K H t (gh texts)∧(∀H',gk H H'→gK K H' t (gh texts))∧Um H a kn∧texts.length≤4000∧∀p H',gk H H'→H p=none→pK A H' p (lI x texts kn)→Q (.ref p) H'
theorem E2(T:Txt mg)(O:Ok K mg A):ip P w K mg base nu 3 A.zM A.zN ["patch","texts","kept_names"] (Ym K A):=by
 have Df:=@B6 P w K mg base A T O
 have AE:=@E1 P w K mg base A T O
 refine O.DN.f.rh j5 fun jh A0 outer s H vs Q E hr h=>?_
 obtain⟨x,t,a,texts,kn,rfl,_,ht,hkn,hn,q⟩:=h
 have sz:sizeLine=16777216:=aaF
 have et:((gh texts).length:Int)=(texts.length:Int):=by simp
 obtain⟨kvs,h1,h2⟩:=id hkn
 refine⟨_,(de (lB 3 j5 (pJ O.Af Df hr (a_ (pv 2) (a_ (gJ gD (by rfl) T.jX aaE (a_ (pv 1) d_)) d_))))
   (de (lB 4 j5 (iA d_))
   (de (lB 5 j5 tG)
   (de (iP aaG rfl (NY rfl T.GN (a_ (pv 1) d_)) (Lc rfl (xb (vZ 6 j5) (xb (vZ 7 j5) IP))) (f_ (iz (ji (qp (by exact iO hr) (pv 6) (pv 2))) (f_ (lB 5 j5 (v_ hr (pv 2) (pv 6)))) (de (ib (qH aaW aa3 aa4 lx (pv 4) (a_ (xh O.QU AE (hr.mono (by decide)) (by rfl) O.QV O.vM.b .nil nF (a_ (yw (a_ (pv 0) (a_ (gJ gD (by rfl) T.jX aaE (a_ (pv 4) d_)) d_))) (a_ (pv 7) (a_ (pv 5) (a_ (uX (pv 3) (pv 6)) d_))))) d_)))
   (f_ (lB 5 j5 (gF (uX (pv 4) (zo tJ gi)) rfl)))))))
   (f_ (gP (pv 4))))))),?_⟩
 refine Sw ?_;intro _ _ _ _
 refine⟨_,rfl,_,rfl,t,_,rfl,.inl (ht H (gk.refl H)),?_⟩
 rw[et]
 refine⟨a,texts.length,kn,rfl,hkn,hn,fun b H1 bs s1 PR VG Pz Vn=>?_⟩
 refine⟨L2.jc,fun l hl=>?_⟩
 have Y6:H l=none:=s1.free hl
 have s2:gk H1 (upd H1 l (.lst [])):=(gk.refl H1).new hl
 refine⟨_,rfl,t,rfl,⟨_,ht _ (s1.trans s2)⟩,L6 (K:=K) (a:=t) (xs:=gh texts) (fun i σ H2=>∃(v6 v7:Option V)(vu:V)(u:Option Nm)(as:List Addr)(acc:List Ln),σ=[rs x,rr t,rr a,rr b,rr l,some vu,v6,v7]∧gk H1 H2∧H2 l=some (.lst (as.map V.ref))∧Paired (nv A H2) as acc∧acc.length≤i∧DT H2 vu u∧acc++vj x kn i acc.length u (texts.drop i)=lI x texts kn)
  ⟨none,none,.js,none,[],[],rfl,s2,b_,.nil,aab _,rfl,rfl⟩ (by rintro _ _ _ _ ⟨_,_,_,_,_,_,_,s3,_⟩;exact ht _ (s1.trans s3)) ?_ ?_⟩
 ·rintro i tv e σ H2 hx ⟨v6,v7,vu,u,as,acc,rfl,s3,k1,k2,k3,k4,k5⟩ he
  obtain⟨tx,htx,rfl⟩:=jW hx
  have hi:i<texts.length:=(Vb.mp htx).1
  have hd:texts.drop i=tx::texts.drop (i+1):=by rw[aaX hi];congr 1;exact(Vb.mp htx).2
  have s4:gk H2 (upd H2 e (.tup [.int i,.str tx])):=(gk.refl H2).new he
  have Dg:=s3.trans s4
  rw[hd] at k5
  unfold vj at k5
  refine⟨e,_,rfl,yo.of b_,rfl,_,_,rfl,_,_,rfl,rfl,?_⟩
  refine⟨_,rfl,_,rfl,a,_,rfl,iY.k (k:=Sum.inl (i:Int)) (Dg _ _ (s1 _ _ h1)),_,rfl,?_⟩
  have h3:=h2 i
  cases hk:kn i with
  | some m=>
   rw[hk] at h3 k5
   obtain⟨u',z1,z2⟩:=h3
   rw[z1]
   refine mx ⟨_,rfl,_,rfl,a,u',rfl,?_,?_⟩
   ·have:=iY.k (k:=Sum.inl (i:Int)) (Dg _ _ (s1 _ _ h1))
    rw[z1] at this
    exact this
   ·exact⟨_,_,_,some m,as,acc,rfl,Dg,s4 _ _ k1,Paired.lA k2 fun _ _ z=>z.same s4,by omega,(z2.same s1).same Dg,k5⟩
  | none=>
   rw[hk] at h3 k5
   rw[h3]
   have VF:=aav k2
   have el:((as.map V.ref).length:Int)=(acc.length:Int):=by rw[U8,VF]
   refine jY ⟨_,rfl,.inl ⟨rfl,_,gK.of (s4 _ _ k1)⟩,_,rfl,_,rfl,l,_,rfl,.inl (gK.of (s4 _ _ k1)),?_⟩
   rw[el]
   refine⟨L2.jc,fun nt hnt=>?_⟩
   have s5:=Dg.new (o:=.tup [.str x,.int acc.length]) hnt
   obtain⟨bv,hbv⟩:∃bv,bs[i]?=some bv:=⟨_,Y0 (by omega)⟩
   refine⟨_,rfl,_,rfl,_,rfl,_,rfl,b,_,_,_,rfl,rfl,gK.of (s5 _ _ VG),iE rfl hbv,?_⟩
   intro o dx no R6 ZC
   have ZD:gk (upd (upd H2 e (.tup [.int i,.str tx])) nt (.tup [.str x,.int acc.length])) (upd (upd (upd (upd H2 e (.tup [.int i,.str tx])) nt (.tup [.str x,.int acc.length])) dx (.own o)) o (.ins A.gQ dx [])):=fun c u e=>by
    rw[e_ (gn e no),e_ (gn e R6)]
    exact e
   refine⟨o,dx,_,_,_,_,rfl,b_,fun H6 r6 r7=>⟨rfl,?_⟩⟩
   have s6:gk (upd (upd H2 e (.tup [.int i,.str tx])) nt (.tup [.str x,.int acc.length])) H6:=fun c u ec=>by
    rw[r6 c (gn ec no)]
    exact ZD c u ec
   have VH:gk H2 H6:=(s4.new hnt).trans s6
   have VI:=VH _ _ k1
   have ND:nv A H6 o ⟨(x,acc.length),tx,u,N4 kn (texts.drop (i+1)).length i⟩:=⟨dx,.ref nt,vu,bv,r7,⟨nt,rfl,s6 _ _ b_⟩,k4.same VH,by
    have:=Vn i bv hbv
    rw[List.length_drop,show texts.length-(i+1)=texts.length-1-i by omega]
    exact(this.same s1).same (s3.trans VH)⟩
   refine⟨l,_,_,rfl,rfl,VI,by rw[U8];omega,?_⟩
   have lo:l≠o:=fun z=>by rw[z,r7] at VI;cases VI
   have e7:upd H6 l (.lst (as.map V.ref++[V.ref o])) l=some (.lst ((as++[o]).map V.ref)):=by rw[b_,aaA];rfl
   have up:∀c ln,nv A H6 c ln→nv A (upd H6 l (.lst (as.map V.ref++[V.ref o]))) c ln:=fun c ln z=>z.upd VI (fun _ z=>by cases z) (fun _ _ _ z=>by cases z)
   have r77:upd H6 l (.lst (as.map V.ref++[V.ref o])) o=some (.ins A.gQ dx (N8 (.ref nt) (.str tx) vu bv)):=by rw[e_ lo.symm];exact r7
   refine⟨_,rfl,_,rfl,l,_,_,_,rfl,rfl,gK.of b_,Ga _ _,o,A.gQ,dx,_,_,rfl,r77,O.iN,O.gT,ja,?_⟩
   refine⟨_,_,_,some (x,acc.length),as++[o],acc++[⟨(x,acc.length),tx,u,N4 kn (texts.drop (i+1)).length i⟩],rfl,(s3.trans VH).upd hl,e7,?_,Ph,?_,?_⟩
   ·exact ix (Paired.lA k2 fun c ln z=>up c ln (z.same VH)) (up _ _ ND)
   ·exact lr.upd ⟨nt,rfl,s6 _ _ b_⟩ VI (fun _ z=>by cases z)
   ·rw[aaZ,Y5]
    exact k5
 ·rintro σ H2 ⟨v6,v7,vu,u,as,acc,rfl,s3,k1,k2,k3,k4,k5⟩
  rw[show(gh texts).length=texts.length by simp,acy] at k5
  rw[show vj x kn texts.length acc.length u []=[] from rfl,aaP] at k5
  rw[k5] at k2
  exact⟨_,rfl,q l H2 (s1.trans s3) Y6 ⟨as,k1,k2⟩⟩
theorem Js{row:List Ln}{q:Nat×Nat}:∀{xs:List (Nat×Nat)},q.2∉xs.map (·.2)→∀s,oC row (xs++[q]) s=if q.2=s then(row[q.1]?).map (·.nm) else oC row xs s
 | [],_,s=>rfl
 | x::r,h,s=>by
  rw[aaB] at h
  have h1:q.2≠x.2:=fun z=>h (by rw[z];exact aaz)
  have h2:q.2∉r.map (·.2):=fun z=>h (aap _ z)
  show(if x.2=s then _ else oC row (r++[q]) s)=if q.2=s then _ else(if x.2=s then _ else oC row r s)
  by_cases e:x.2=s
  ·rw[aax e,aau (fun z=>h1 (by rw[z,e])),aax e]
  ·rw[aau e,aau e,Js h2 s]
theorem Kv{row:List Ln}{q:Nat×Nat}{l:Ln}(xs:List (Nat×Nat))(h:row[q.1]?=some l):wa row (xs++[q])=wa row xs++[l.nm]:=by
 unfold wa
 rw[abZ,abC,h]
 rfl
theorem Mv(T:Txt mg)(O:Ok K mg A):ip P w K mg base nu 3 A.Mg A.Mh ["old","new"] Kp.spK:=
 Kp.Od O.kept.f ⟨T.jX,T.mX,T.T5⟩ O.ur.f O.ur.b O.ur.m O.wj.f O.wj.b O.wj.m O.wk.f O.wk.b O.wk.m
def Uo(A:Ad):Sp:=fun vs H Q _=>∃(x f:Str)(r t:Addr)(row:List Ln)(texts:List Str),vs=[.str x,.str f,.ref r,.ref t]∧pK A H r row∧H t=some (.lst (gh texts))∧row.length≤1000∧texts.length≤1000∧
 ∀p H',gk H H'→H p=none→oM A H' p (oq x f row texts)→Q (.ref p) H'
theorem yb(T:Txt mg)(O:Ok K mg A):ip P w K mg base nu 4 A.qZ A.q0 ["patch","file","row","texts"] (Uo A):=by
 have R7:=@Mv P w K mg base A T O
 have Hl:=@E2 P w K mg base A T O
 have kO:=@qy P w K mg base A T O
 refine O.uA.f.rh iU fun jh A0 outer s H vs Q E hr h=>?_
 obtain⟨x,f,r,t,row,texts,rfl,Hj,ht,hn,hm,q⟩:=h
 obtain⟨as,Cg,Hy⟩:=id Hj
 have hlen:=aav Hy
 have sz:sizeLine=16777216:=aaF
 refine⟨_,(de (lB 4 iU oh)
   (de (mD (i:=5) iU.nd rfl (Or.inr rfl) oj)
   (de (iP aaG rfl (ir (pJ O.kept R7 hr (a_ (xn nS (gc kE).names [9] rfl (ir (pv 2)) rfl (by decide+kernel) (fun _ _ _ _=>(iy (i:=9) iU.nd rfl (Or.inl rfl))) (fun _ _ _ _=>mI) (fun _ _ _ _=>zx (gF (pv 9) rfl))) (a_ (pv 3) d_)))) (Lc rfl (xb (vZ 6 iU) (xb (vZ 7 iU) IP))) (de (jm (by exact iO hr) (pv 4) (pv 7) (gF (uX (pv 2) (pv 6)) rfl) rfl)
   (f_ (jm (by exact iO hr) (pv 5) (gF (uX (pv 2) (pv 6)) rfl) nB rfl))))
   (de (Bf (j:=8) nS (gc kE).names [9] iU.nd rfl rfl rfl (ir (pv 2)) rfl (by decide+kernel) (fun _ _ _ _=>(iy (i:=9) iU.nd rfl (Or.inl rfl))) (fun _ _ _ _=>⟨_,nK (ji (kD (by exact iO hr) (gF (pv 9) rfl) (pv 5))),by(try simp only [kW]);rfl⟩) (fun _ _ _ _=>zx (gF (pv 9) rfl)))
   (f_ (gP (xh O.EL kO (hr.mono (by decide)) (by rfl) O.EM O.mZ.b .nil nF (a_ (pv 0) (a_ (pv 1) (a_ (pJ O.DN Hl hr (a_ (pv 0) (a_ (pv 3) (a_ (pv 4) d_)))) (a_ (pv 8) (a_ tG d_)))))))))))),?_⟩
 refine Sw ?_;intro _ _ _ _
 intro k S3 g W4
 have ZE:k≠g:=fun z=>by rw[←z,b_] at W4;cases W4
 have hgH:H g=none:=(gk.refl H |>.new (o:=.dK []) S3).free W4
 have s1:gk H (upd (upd H k (.dK [])) g (.dT [])):=((gk.refl H).new S3).new W4
 have VJ:(upd (upd H k (.dK [])) g (.dT [])) k=some (.dK []):=by rw[e_ ZE];exact b_
 have SI:(upd (upd H k (.dK [])) g (.dT [])) g=some (.dT []):=b_
 generalize upd (upd H k (.dK [])) g (.dT [])=H1 at s1 VJ SI
 have R3:(as.map V.ref).length≤sizeLine:=by rw[U8,hlen];omega
 let Jv:=fun(i:Nat) (ys:List V) (σ:St) (H4:Hp)=>∃(v9:Option V),σ=[rs x,rs f,rr r,rr t,rr k,rr g,none,none,none,v9]∧H4=H1∧ys=gh ((row.take i).map (·.tx))
 refine⟨_,rfl,r,rfl,⟨_,gK.of (s1 _ _ Cg)⟩,jE (K:=K) (a:=r) (xs:=as.map V.ref) R3 Jv
  ⟨none,rfl,rfl,rfl⟩ (by rintro _ _ _ _ _ ⟨_,_,e,e2⟩;subst e e2;exact⟨gK.of (s1 _ _ Cg),by rw[U8,U8,aay];omega⟩) ?_ ?_⟩
 ·rintro i v ys σ H4 hx ⟨v9,rfl,rfl,rfl⟩
  obtain⟨b,hb,rfl⟩:=k9 hx
  obtain⟨ln,AB,dx,vn,vu,vl,k1,k2,k3,k4⟩:=iC Hy hb
  refine⟨_,rfl,b,A.gQ,dx,_,_,rfl,s1 _ _ k1,O.iN,O.jI,xY,_,rfl,rfl,?_⟩
  rw[take_snoc AB,aaA,iK]
  rfl
 ·rintro ys σ H4 ⟨v9,rfl,rfl,rfl⟩ o W5
  rw[U8,hlen,aam]
  have s2:gk H4 (upd H4 o (.lst (gh (row.map (·.tx))))):=(gk.refl H4).new W5
  refine⟨_,rfl,row.map (·.tx),texts,o,t,rfl,b_,s2 _ _ (s1 _ _ ht),by rw[U8];exact hn,hm,fun pr H5 ps s5 KZ VL R8=>?_⟩
  have VM:gk H4 H5:=s2.trans s5
  have s05:gk H H5:=s1.trans VM
  have rise:=uY (row.map (·.tx)) texts
  rw[U8] at rise
  have ZF:(K01.kept (row.map (·.tx)) texts).length≤1000:=by
   rw[K01.zy]
   have:=K01.Gv (row.map (·.tx)) texts
   rw[U8] at this
   omega
  generalize hqs:K01.kept (row.map (·.tx)) texts=qs at R8 rise ZF
  have PN:=aav R8
  let Jv:=fun(i:Nat) (σ:St) (H6:Hp)=>∃(v6 v7:Option V)(kk:List (Key×V))(kg:List (List Key×V)),σ=[rs x,rs f,rr r,rr t,rr k,rr g,v6,v7,none,none]∧(∀b o,H5 b=some o→b≠k→b≠g→H6 b=some o)∧H6 k=some (.dK kk)∧kk.length≤i∧(∀s:Nat,match oC row (qs.take i) s with|some m=>∃v,iV kk (Sum.inl (s:Int))=some v∧lr H v m|none=>iV kk (Sum.inl (s:Int))=none)∧H6 g=some (.dT kg)∧kg.length≤i∧SE kg (wa row (qs.take i))
  refine⟨pr,rfl,⟨_,gK.of VL⟩,je (K:=K) (a:=pr) (xs:=ps) Jv
   ⟨none,none,[],[],rfl,fun b o e _ _=>e,VM _ _ VJ,aab _,(fun s=>by rw[abH];exact rfl),VM _ _ SI,aab _,(fun n=>rfl)⟩ (by rintro _ _ _ _ ⟨_,_,_,_,_,e,_⟩;exact gK.of (e _ _ VL (fun z=>by rw[z] at KZ;rw[s2 _ _ VJ] at KZ;cases KZ) (fun z=>by rw[z] at KZ;rw[s2 _ _ SI] at KZ;cases KZ))) ?_ ?_⟩
  ·rintro i v σ H6 hx ⟨v6,v7,kk,kg,rfl,e1,e2,e3,e4,e5,e6,e7⟩
   obtain⟨qq,hq,pt,rfl,FJ⟩:=ox R8 hx
   have ZG:H5 k=some (.dK []):=VM _ _ VJ
   have ZH:H5 g=some (.dT []):=VM _ _ SI
   have hi:i<qs.length:=(Vb.mp hq).1
   obtain⟨VG,ze⟩:=rise.2 qq (Yd hq)
   obtain⟨b,W0,ln0⟩:=B4 Hy (Y0 VG)
   have Hw:row[qq.1]?=some row[qq.1]:=Y0 VG
   generalize row[qq.1]=ln at ln0 Hw
   obtain⟨dx,vn,vu,vl,z1,⟨nt,rfl,z2⟩,z3,z4⟩:=ln0
   have up:∀{b o},H b=some o→H6 b=some o:=fun{b o} e=>e1 b o (s05 _ _ e) (fun z=>by rw[z,S3] at e;cases e) (fun z=>by rw[z,hgH] at e;cases e)
   refine⟨pt,_,rfl,yo.of (e1 _ _ FJ (jd FJ ZG (fun z=>by cases z)) (jd FJ ZH (fun z=>by cases z))),rfl,_,_,rfl,_,_,rfl,rfl,?_⟩
   refine⟨_,rfl,_,rfl,r,_,_,_,rfl,rfl,gK.of (up Cg),iE rfl W0,b,A.gQ,dx,_,_,rfl,up z1,O.iN,O.gT,ja,_,rfl,_,rfl,k,_,rfl,nJ.k (k:=Sum.inl (qq.2:Int)) e2 (by omega),?_⟩
   have ZI:∀{b o},H b=some o→upd H6 k (.dK (putK kk (Sum.inl (qq.2:Int)) (V.ref nt))) b=some o:=fun{b o} e=>by rw[e_ (fun z=>by rw[z,S3] at e;cases e)];exact up e
   have RT:=jL kk (Sum.inl (qq.2:Int):Key) (V.ref nt)
   have Hv:=jL kg (nk ln.nm) (V.bl true)
   refine⟨_,rfl,_,rfl,_,rfl,r,_,_,_,rfl,rfl,gK.of (ZI Cg),iE rfl W0,b,A.gQ,dx,_,_,rfl,ZI z1,O.iN,O.gT,ja,g,_,rfl,nJ.t (k:=nk ln.nm) (by rw[e_ ZE.symm];exact e5) (ZI z2) (by omega),?_⟩
   have K0:qq.2∉(qs.take i).map (·.2):=fun z=>by
    obtain⟨w1,hw1,ew⟩:=aaO.mp z
    obtain⟨j,hj⟩:=aaT.mp hw1
    have IB:j<i:=by have:=(Vb.mp hj).1;rw[aay] at this;omega
    rw[abK,aax IB] at hj
    obtain⟨hj1,hj2⟩:=Vb.mp hj
    have:=ab1.mp rise.1 j i hj1 hi IB
    rw[hj2,(Vb.mp hq).2] at this
    omega
   refine⟨_,_,_,_,rfl,fun b o e nk ng=>?_,by rw[e_ ZE];exact b_,by omega,fun s=>?_,b_,by omega,?_⟩
   ·rw[e_ ng,e_ nk];exact e1 b o e nk ng
   ·rw[take_snoc hq,Js K0,j0]
    by_cases es:qq.2=s
    ·subst es
     rw[aax rfl,aax rfl,Hw]
     exact⟨_,rfl,nt,rfl,z2⟩
    ·rw[aau es,aau (fun z=>es (by have:=Sum.inl.inj z;omega))]
     exact e4 s
   ·rw[take_snoc hq,Kv _ Hw]
    exact e7.put ln.nm _
  ·rintro σ H6 ⟨v6,v7,kk,kg,rfl,e1,e2,e3,e4,e5,e6,e7⟩
   rw[←PN,aam] at e4 e7
   have up:∀{b o},H b=some o→H6 b=some o:=fun{b o} e=>e1 b o (s05 _ _ e) (fun z=>by rw[z,S3] at e;cases e) (fun z=>by rw[z,hgH] at e;cases e)
   have sH6:gk H H6:=fun b o e=>up e
   refine⟨_,rfl,r,rfl,⟨_,gK.of (up Cg)⟩,jE (K:=K) (a:=r) (xs:=as.map V.ref) R3 (fun i ys σ H4=>∃(v9:Option V),σ=[rs x,rs f,rr r,rr t,rr k,rr g,v6,v7,none,v9]∧H4=H6∧ys.length≤i∧Paired (lr H) ys (((row.take i).filter fun l=>l.nm∉wa row qs).map (·.nm)))
    ⟨none,rfl,rfl,aab _,.nil⟩ (by rintro _ _ _ _ _ ⟨_,_,e,e20,_⟩;rw[e];exact⟨gK.of (up Cg),e20⟩) ?_ ?_⟩
   ·rintro i v ys σ H7 hx ⟨v9,rfl,rfl,e8,e9⟩
    obtain⟨b,hb,rfl⟩:=k9 hx
    obtain⟨ln,AB,dx,vn,vu,vl,k1,⟨nt,rfl,k2⟩,k3,k4⟩:=iC Hy hb
    refine⟨_,rfl,b,A.gQ,dx,_,_,rfl,up k1,O.iN,O.gT,ja,_,rfl,g,_,rfl,iY.t (k:=nk ln.nm) e5 (up k2),_,rfl,?_⟩
    rw[e7 ln.nm,take_snoc AB,aaQ,aaA]
    by_cases Dd:ln.nm∈wa row qs
    ·rw[XZ Dd]
     refine jY ⟨_,rfl,rfl,by omega,?_⟩
     rw[aaj (by simpa using Dd),aa2,List.map_nil,aaP]
     exact e9
    ·rw[aac Dd]
     refine mx ⟨_,rfl,b,A.gQ,dx,_,_,rfl,up k1,O.iN,O.gT,ja,_,rfl,rfl,Ph,?_⟩
     rw[aae (by simpa using Dd),aa2]
     exact ix e9 ⟨nt,rfl,k2⟩
   ·rintro ys σ H7 ⟨v9,rfl,rfl,e8,e9⟩ c ZJ
    rw[U8,hlen,aam] at e9
    have s8:=sH6.new (o:=.lst ys) ZJ
    have Zq:c≠k:=fun z=>by rw[z,e2] at ZJ;cases ZJ
    refine⟨_,rfl,_,rfl,_,rfl,_,rfl,_,rfl,x,t,k,texts,oC row qs,rfl,gK.of (s8 _ _ ht),fun H' s'=>gK.of (s' _ _ (s8 _ _ ht)),⟨kk,by rw[e_ Zq.symm];exact e2,fun s=>?_⟩,by omega,fun pu H9 s9 hpu0 ZK=>?_⟩
    ·have:=e4 s
     cases ek:oC row qs s with
     | none=>rw[ek] at this;exact this
     | some m=>rw[ek] at this;obtain⟨v,w1,w2⟩:=this;exact⟨v,w1,w2.same s8⟩
    ·refine⟨_,rfl,?_⟩
     intro o dx no R6 ZC
     refine⟨o,dx,_,_,_,_,_,rfl,b_,fun Hm r6 r7=>⟨rfl,?_⟩⟩
     have IE:gk H9 Hm:=fun c u ec=>by
      rw[r6 c (gn ec no),e_ (gn ec no),e_ (gn ec R6)]
      exact ec
     have VN:=(s8.trans s9).trans IE
     refine q o Hm VN ((s8.trans s9).free no) ?_
     unfold oq
     rw[hqs]
     exact⟨dx,_,pu,c,.js,r7,rfl,ZK.same IE,⟨ys,IE _ _ (s9 _ _ b_),Paired.lA e9 fun _ _ z=>z.same VN⟩,rfl⟩
def nH:Str:=Str.ofString "abcdefghijklmnopqrstuvwxyz0123456789"
def Good(x:Str):Prop:=1≤x.length∧x.length≤12∧∀c∈x.cps.toList,c∈nH.cps.toList
def i5(x:Str):Prop:=(reprText x).length≤1048576∧x.length≤1000
abbrev sk(x:Str):Key:=Sum.inr x
theorem y7{x:Str}{l:List Str}:sk x∈l.map sk↔x∈l:=by
 constructor
 ·intro h
  obtain⟨m,hm,e⟩:=aaO.mp h
  rw[←ab9 e];exact hm
 ·exact fun h=>aai h
theorem jO{dk:List (Key×V)}{l:List Str}(h:dk.map (·.1)=l.map sk):dk.length=l.length:=by
 have:=abb List.length h
 rwa [U8,U8] at this
theorem y8{dk:List (Key×V)}{l:List Str}(h:dk.map (·.1)=l.map sk){i:Nat}{k:Key}{v:V}(hi:dk[i]?=some (k,v)):∃x,l[i]?=some x∧k=sk x:=by
 have h1:(dk.map (·.1))[i]?=some k:=by rw[aan,hi];rfl
 rw[h,aan] at h1
 obtain⟨n,e,e2⟩:=aaL.mp h1
 exact⟨n,e,e2.symm⟩
theorem kJ{dk:List (Key×V)}{l:List Str}(h:dk.map (·.1)=l.map sk)(x:Str):(iV dk (sk x)).isSome=decide (x∈l):=by
 by_cases m:x∈l
 ·rw[XZ m];exact vb.mpr (by rw[h];exact y7.mpr m)
 ·rw[aac m,aa8];exact fun z=>m (y7.mp (by rw[←h];exact vb.mp z))
theorem o6{dk:List (Key×V)}{l:List Str}(h:dk.map (·.1)=l.map sk){x:Str}(hx:x∉l)(v:V):(putK dk (sk x) v).map (·.1)=(l++[x]).map sk:=by
 rw[o5,h,aau (fun z=>hx (y7.mp z)),aaA];rfl
theorem Kw{dk:List (Key×V)}{l:List Str}(h:dk.map (·.1)=l.map sk){x:Str}(hx:x∈l)(v:V):(putK dk (sk x) v).map (·.1)=l.map sk:=by
 rw[o5,h,aax (y7.mpr hx)]
theorem Il{dk:List (Key×V)}{l:List Str}(h:dk.map (·.1)=l.map sk):(dk.map fun kv=>kV kv.1)=gh l:=by
 have:(dk.map fun kv=>kV kv.1)=(dk.map (·.1)).map kV:=by rw[List.map_map];rfl
 rw[this,h,List.map_map];rfl
noncomputable def AU(m n h:Addr):List (Str×V):=[("made",.ref m),("needs",.ref n),("held",.ref h)]
theorem Q8(m n h:Addr):jZ "held" (.ref h) (jZ "needs" (.ref n) (jZ "made" (.ref m) []))=AU m n h:=by kernel_rfl
theorem me(m n h:Addr):(AU m n h).lookup ("held":Str)=some (V.ref h):=by kernel_rfl
theorem oy(m n h:Addr):(AU m n h).lookup ("made":Str)=some (V.ref m):=by kernel_rfl
theorem vc(m n h:Addr):(AU m n h).lookup ("needs":Str)=some (V.ref n):=by kernel_rfl
structure Dp where
 dx:Addr
 m:Addr
 n:Addr
 h:Addr
 ha:Str→Addr
 kM:List (Key×V)
 kN:List (Key×V)
 kH:List (Key×V)
structure E3(A:Ad)(H:Hp)(d:Addr)(D:Dk)(W:Addr→Prop)(π:Dp):Prop where
 hd:H d=some (.ins A.gw π.dx (AU π.m π.n π.h))
 hm:H π.m=some (.dK π.kM)
 hn:H π.n=some (.dK π.kN)
 hh:H π.h=some (.dK π.kH)
 mn:π.m≠π.n
 mh:π.m≠π.h
 nh:π.n≠π.h
 wm:W π.m
 wn:W π.n
 wh:W π.h
 km:π.kM.map (·.1)=D.names.map sk
 vm:∀p∈D.made,∃a,iV π.kM (sk p.nm)=some (.ref a)∧oM A H a p
 kn:π.kN.map (·.1)=D.names.map sk
 vn:∀x∈D.names,∃(a:Addr)(kv:List (Key×V))(l:List Str),iV π.kN (sk x)=some (.ref a)∧¬W a∧H a=some (.dK kv)∧kv.map (·.1)=l.map sk∧l.Nodup∧∀y,y∈l↔y∈D.iq x
 kh:π.kH.map (·.1)=D.stores.map sk
 vh:∀s∈D.stores,iV π.kH (sk s)=some (.ref (π.ha s))∧W (π.ha s)∧π.ha s≠π.m∧π.ha s≠π.n∧π.ha s≠π.h∧∃kv:List (Key×V),H (π.ha s)=some (.dK kv)∧kv.map (·.1)=(D.held s).map sk
 inj:∀s∈D.stores,∀t∈D.stores,π.ha s=π.ha t→s=t
 dk:∀b,W b→∃kv,H b=some (.dK kv)
def iw(A:Ad)(H:Hp)(d:Addr)(D:Dk)(W:Addr→Prop):Prop:=∃π,E3 A H d D W π
theorem E3.same{A:Ad}{H H':Hp}{d:Addr}{D:Dk}{W:Addr→Prop}{π:Dp}(x:E3 A H d D W π)(s:gk H H'):E3 A H' d D W π where
 hd:=s _ _ x.hd
 hm:=s _ _ x.hm
 hn:=s _ _ x.hn
 hh:=s _ _ x.hh
 mn:=x.mn
 mh:=x.mh
 nh:=x.nh
 wm:=x.wm
 wn:=x.wn
 wh:=x.wh
 km:=x.km
 vm:=fun p hp=>by obtain⟨a,h1,h2⟩:=x.vm p hp;exact⟨a,h1,h2.same s⟩
 kn:=x.kn
 vn:=fun y hy=>by obtain⟨a,kv,l,h1,h2,h3,h4⟩:=x.vn y hy;exact⟨a,kv,l,h1,h2,s _ _ h3,h4⟩
 kh:=x.kh
 vh:=fun t ht=>by obtain⟨h1,h2,h3,h4,h5,kv,h6,h7⟩:=x.vh t ht;exact⟨h1,h2,h3,h4,h5,kv,s _ _ h6,h7⟩
 inj:=x.inj
 dk:=fun b hb=>by obtain⟨kv,h⟩:=x.dk b hb;exact⟨kv,s _ _ h⟩
theorem iw.same{A:Ad}{H H':Hp}{d:Addr}{D:Dk}{W:Addr→Prop}(x:iw A H d D W)(s:gk H H'):iw A H' d D W:=by
 obtain⟨π,x⟩:=x
 exact⟨π,x.same s⟩
def ni(W:Addr→Prop)(H H':Hp):Prop:=∀b o,H b=some o→¬W b→H' b=some o
theorem ni.of{W:Addr→Prop}{H H':Hp}(s:gk H H'):ni W H H':=fun b o e _=>s b o e
theorem iw.lst{A:Ad}{H:Hp}{d a:Addr}{D:Dk}{W:Addr→Prop}{xs:List V}(x:iw A H d D W)(h:H a=some (.lst xs)):¬W a:=fun z=>by
 obtain⟨π,x⟩:=x
 obtain⟨kv,e⟩:=x.dk a z
 rw[h] at e;cases e
theorem iw.js{A:Ad}{H:Hp}{d a:Addr}{D:Dk}{W:Addr→Prop}(x:iw A H d D W)(h:H a=none):¬W a:=fun z=>by
 obtain⟨π,x⟩:=x
 obtain⟨kv,e⟩:=x.dk a z
 rw[h] at e;cases e
theorem jS{m n h:Addr}:(AU m n h).lookup ("check_store":Str)=none:=by kernel_rfl
theorem su{m n h:Addr}:(AU m n h).lookup ("check_new":Str)=none:=by kernel_rfl
theorem qz{m n h:Addr}:(AU m n h).lookup ("check_held":Str)=none:=by kernel_rfl
theorem vP{m n h:Addr}:(AU m n h).lookup ("check_made":Str)=none:=by kernel_rfl
theorem E4{m n h:Addr}:(AU m n h).lookup ("keep":Str)=none:=by kernel_rfl
theorem sv{m n h:Addr}:(AU m n h).lookup ("has":Str)=none:=by kernel_rfl
theorem C4{m n h:Addr}:(AU m n h).lookup ("patches_of":Str)=none:=by kernel_rfl
theorem qj{m n h:Addr}:(AU m n h).lookup ("sight_of":Str)=none:=by kernel_rfl
theorem Q9{m n h:Addr}:(AU m n h).lookup ("row":Str)=none:=by kernel_rfl
theorem G9{m n h:Addr}:(AU m n h).lookup ("quarrels":Str)=none:=by kernel_rfl
theorem pI{m n h:Addr}:(AU m n h).lookup ("patches":Str)=none:=by kernel_rfl
theorem uM{m n h:Addr}:(AU m n h).lookup ("leans":Str)=none:=by kernel_rfl
theorem Mw{m n h:Addr}:(AU m n h).lookup ("begin":Str)=none:=by kernel_rfl
theorem Kx{m n h:Addr}:(AU m n h).lookup ("record":Str)=none:=by kernel_rfl
theorem Q_{m n h:Addr}:(AU m n h).lookup ("cut":Str)=none:=by kernel_rfl
theorem Jt{m n h:Addr}:(AU m n h).lookup ("back":Str)=none:=by kernel_rfl
theorem Ju{m n h:Addr}:(AU m n h).lookup ("take":Str)=none:=by kernel_rfl
theorem Jw{m n h:Addr}:(AU m n h).lookup ("drop":Str)=none:=by kernel_rfl
def Wq:Dk:=⟨[],fun _=>[],[],fun _=>[]⟩
theorem Yn:Inv Wq:=⟨abr,(fun p hp=>by cases hp),(fun p hp=>by cases hp),⟨fun _=>0,fun p hp=>by cases hp⟩,(fun i p hp=>by simp[Wq] at hp),(fun x hx=>by cases hx),abr,(fun s hs=>by cases hs),(fun s hs=>by cases hs)⟩
def Ra(A:Ad):Sp:=fun vs H Q _=>∃(p dx:Addr),vs=[.ref p]∧H p=some (.ins A.gw dx [])∧∀(H':Hp)(W:Addr→Prop),iw A H' p Wq W→(∀b,W b→H b=none)→(∀b o,H b=some o→b≠p→H' b=some o)→Q .js H'
theorem E5(T:Txt mg)(O:Ok K mg A):ip P w K mg base nu 1 A.oJ A.sV ["self"] (Ra A):=by
 refine O.vN.f.rh yQ fun jh A0 outer s H vs Q E hr h=>?_
 obtain⟨p,dx,rfl,hp,k⟩:=h
 refine⟨_,(de (mG (pv 0) oh rfl)
   (de (mG (pv 0) oh rfl)
   (f_ (mG (pv 0) oh rfl)))),?_⟩
 refine Ei ?_;intro _ _
 intro m hm
 have IF:p≠m:=gn hp hm
 refine⟨_,rfl,p,A.gw,dx,_,rfl,(by rw[e_ IF];exact hp),O.gH,O.iS,(by show 0<1000;decide),?_⟩
 intro n hn
 have VO:p≠n:=gn b_ hn
 have W6:m≠n:=by
  intro z;subst z;rw[e_ IF.symm,b_] at hn;cases hn
 have hH:H n=none:=by rw[e_ VO.symm,e_ W6.symm] at hn;exact hn
 refine⟨_,rfl,p,A.gw,dx,_,rfl,(by rw[e_ VO];exact b_),O.gH,O.jo,(by show 1<1000;decide),?_⟩
 intro h hh
 have W8:p≠h:=gn b_ hh
 have ZL:n≠h:=by
  intro z;subst z;rw[e_ VO.symm,b_] at hh;cases hh
 have ZM:m≠h:=by
  intro z;subst z;rw[e_ IF.symm,e_ W6,e_ IF.symm,b_] at hh;cases hh
 have hhH:H h=none:=by rw[e_ W8.symm,e_ ZL.symm,e_ W8.symm,e_ ZM.symm] at hh;exact hh
 refine⟨_,rfl,p,A.gw,dx,_,rfl,(by rw[e_ W8];exact b_),O.gH,O.iH,(by show 2<1000;decide),?_⟩
 have e1:∀{o},upd (upd (upd (upd (upd (upd H m (.dK [])) p (.ins A.gw dx (jZ "made" (.ref m) []))) n (.dK [])) p (.ins A.gw dx (jZ "needs" (.ref n) (jZ "made" (.ref m) [])))) h (.dK [])) p o m=some (.dK []):=by
  intro o;rw[e_ IF.symm,e_ ZM,e_ IF.symm,e_ W6,e_ IF.symm,b_]
 have e2:∀{o},upd (upd (upd (upd (upd (upd H m (.dK [])) p (.ins A.gw dx (jZ "made" (.ref m) []))) n (.dK [])) p (.ins A.gw dx (jZ "needs" (.ref n) (jZ "made" (.ref m) [])))) h (.dK [])) p o n=some (.dK []):=by
  intro o;rw[e_ VO.symm,e_ ZL,e_ VO.symm,b_]
 have e3:∀{o},upd (upd (upd (upd (upd (upd H m (.dK [])) p (.ins A.gw dx (jZ "made" (.ref m) []))) n (.dK [])) p (.ins A.gw dx (jZ "needs" (.ref n) (jZ "made" (.ref m) [])))) h (.dK [])) p o h=some (.dK []):=by
  intro o;rw[e_ W8.symm,b_]
 refine k _ (fun b=>b=m∨b=n∨b=h) ⟨⟨dx,m,n,h,fun _=>0,[],[],[]⟩,Eq.trans b_ (abb (fun l=>some (HO.ins A.gw dx l)) (Q8 m n h)),e1,e2,e3,W6,ZM,ZL,.inl rfl,.inr (.inl rfl),.inr (.inr rfl),rfl,(fun p hp=>by cases hp),rfl,(fun p hp=>by cases hp),rfl,(fun p hp=>by cases hp),(fun p hp=>by cases hp),fun b hb=>?_⟩ (fun b hb=>?_) fun b o e hb=>?_
 ·rcases hb with rfl|rfl|rfl
  ·exact⟨_,e1⟩
  ·exact⟨_,e2⟩
  ·exact⟨_,e3⟩
 ·rcases hb with rfl|rfl|rfl
  ·exact hm
  ·exact hH
  ·exact hhH
 ·rw[e_ hb,e_ (gn e hhH),e_ hb,e_ (gn e hH),e_ hb,e_ (gn e hm)]
  exact e
def Oh(XB:Addr):Sp:=fun vs H Q E=>∃x:Str,vs=[.str x]∧i5 x∧(Good x→Q .js H)∧(¬Good x→E (.ref XB) none H)
theorem Pl:(12:Int).natAbs.log2<1920:=by decide
theorem vQ(T:Txt mg)(O:Ok K mg A):ip P w K mg base (tE P w) 1 A.xG A.xH ["name"] (Oh A.iI):=by
 refine O.wo.f.rH vF fun jh A0 outer s H vs Q E hr h=>?_
 obtain⟨x,rfl,⟨hf,hl⟩,q,qe⟩:=h
 refine⟨_,(de (iz (o7 (FT Lg Lg gi (gJ xl (by rfl) T.jX aaE (a_ (pv 0) d_)) (mB (v:=.int 12) (by rfl) O.uC ⟨_,rfl⟩))) (f_ (k_ bx O.yZ (by rfl) (mJ (iD i0 (iD (LO (mB (v:=.int 12) (by rfl) O.uC ⟨_,rfl⟩)) (iD i0 (iD (oB (pv 0)) o9))))))) ia)
   (f_ (iP LF rfl (QH (pv 0)) (vZ 1 vF) (f_ (iz (ie Eb (pv 1) (mB (v:=.str (Str.ofString "abcdefghijklmnopqrstuvwxyz0123456789")) (by rfl) O.EN ⟨_,rfl⟩) rfl) (f_ (k_ bx O.yZ (by rfl) (mJ (iD i0 (iD (oB (pv 0)) o9))))) ia))))),?_⟩
 refine K4 ?_;intro _
 have hz:x.length≤sizeLine:=aah hl (by decide)
 have bad:¬Good x→∀H',H'=H→E (.ref A.iI) none H':=fun g H' e=>by subst e;exact qe g
 refine⟨_,rfl,_,rfl,hz,_,_,rfl,rfl,_,rfl,?_⟩
 refine kU (fun h1=>?_) (fun h1=>?_)
 ·refine⟨_,_,rfl,rfl,_,rfl,?_⟩
  refine kU (fun h2=>?_) (fun h2=>?_)
  ·
   have h2:¬((x.length:Int)≤12):=by simpa using h2
   refine⟨_,rfl,by decide+kernel,⟨_,rfl,Pl,_,rfl,by decide+kernel,⟨_,rfl,by decide+kernel,⟨_,rfl,_,rfl,hf,_,rfl,hf,fun _=>qe fun g=>?_⟩⟩⟩⟩
   have:=g.2.1;omega
  ·have h1:(1:Int)≤(x.length:Int):=by simpa using h1
   have h2:(x.length:Int)≤12:=by simpa using h2
   refine⟨_,rfl,x,rfl,LN (fun i σ H2=>∃v,σ=[rs x,v]∧H2=H∧∀j<i,∀c,x.cps[j]?=some c→c∈nH.cps.toList) ⟨none,rfl,rfl,fun j hj=>absurd hj (by omega)⟩ ?_ ?_⟩
   ·rintro i c σ H2 hc ⟨v,rfl,rfl,hp⟩
    refine⟨_,rfl,_,_,rfl,rfl,_,rfl,?_⟩
    rw[NT]
    refine kU (fun h3=>?_) (fun h3=>?_)
    ·have h3:c∉nH.cps.toList:=by simpa[nH] using h3
     refine⟨_,rfl,by decide+kernel,⟨_,rfl,_,rfl,hf,_,rfl,hf,fun _=>qe fun g=>?_⟩⟩
     exact h3 (g.2.2 c (Yd (i:=i) (by rw[abe];exact hc)))
    ·have h3:c∈nH.cps.toList:=by simpa[nH] using h3
     refine⟨_,rfl,rfl,fun j hj c' D1=>?_⟩
     by_cases e:j=i
     ·subst e;rw[hc] at D1;cases D1;exact h3
     ·exact hp j (by omega) c' D1
   ·rintro σ H2 ⟨v,rfl,rfl,hp⟩
    refine q ⟨by omega,by omega,fun c hc=>?_⟩
    obtain⟨j,hj,e⟩:=List.mem_iff_getElem.mp hc
    have hj':j<x.cps.size:=by simpa using hj
    exact hp j hj' c (by rw[aa5 hj'];simpa using e)
 ·have h1:¬((1:Int)≤(x.length:Int)):=by simpa using h1
  refine⟨_,rfl,?_⟩
  refine⟨_,rfl,by decide+kernel,⟨_,rfl,Pl,_,rfl,by decide+kernel,⟨_,rfl,by decide+kernel,⟨_,rfl,_,rfl,hf,_,rfl,hf,fun _=>qe fun g=>?_⟩⟩⟩⟩
  have:=g.1;omega
def Ky(A:Ad):Sp:=fun vs H Q _=>∃(d:Addr)(D:Dk)(W:Addr→Prop),vs=[.ref d]∧iw A H d D W∧∀p,H p=none→Q (.ref p) (upd H p (.lst (gh D.names)))
theorem B7(T:Txt mg)(O:Ok K mg A):ip P w K mg base nu 1 A.ue A.uf ["self"] (Ky A):=by
 refine O.i9.f.rh Ar fun jh A0 outer s H vs Q E hr h=>?_
 obtain⟨d,D,W,rfl,⟨π,x⟩,q⟩:=h
 refine⟨_,(f_ (gP (uV (Bm rfl) (by rfl) T.yV abW (a_ (gF (pv 0) rfl) d_)))),?_⟩
 refine⟨_,rfl,d,A.gw,π.dx,_,_,rfl,x.hd,O.gH,O.iS,oy _ _ _,π.m,_,rfl,x.hm,fun p oA=>?_⟩
 rw[Il x.km]
 exact q p oA
def Oi(A:Ad):Sp:=fun vs H Q E=>∃(d:Addr)(D:Dk)(W:Addr→Prop)(s:Str),vs=[.ref d,.str s]∧iw A H d D W∧i5 s∧(s∈D.stores→Q .js H)∧(s∉D.stores→E (.ref A.gq) none H)
theorem kK(T:Txt mg)(O:Ok K mg A):ip P w K mg base (tE P w) 1 A.pE A.pF ["self","store"] (Oi A):=by
 refine O.iZ.f.rH vp fun jh A0 outer s H vs Q E hr h=>?_
 obtain⟨d,D,W,st,rfl,⟨π,x⟩,hf,q,qe⟩:=h
 refine⟨_,(f_ (iz (ji (kD (by exact iO hr) (pv 1) (gF (pv 0) rfl))) (f_ (k_ bx O.DS (by rfl) (mJ (iD i0 (iD (oB (pv 1)) o9))))) ia)),?_⟩
 refine⟨_,rfl,_,rfl,d,A.gw,π.dx,_,_,rfl,x.hd,O.gH,O.iH,me _ _ _,π.h,_,rfl,iY.k (k:=sk st) x.hh,_,rfl,?_⟩
 rw[kJ x.kh]
 by_cases hs:st∈D.stores
 ·rw[XZ hs]
  exact q hs
 ·rw[aac hs]
  exact mx ⟨_,rfl,by decide+kernel,⟨_,rfl,_,rfl,hf.1,_,rfl,hf.1,fun _=>qe hs⟩⟩
def Rb(A:Ad):Sp:=fun vs H Q E=>∃(d:Addr)(D:Dk)(W:Addr→Prop)(s:Str),vs=[.ref d,.str s]∧iw A H d D W∧i5 s∧(s∈D.names→Q .js H)∧(s∉D.names→E (.ref A.gr) none H)
theorem vR(T:Txt mg)(O:Ok K mg A):ip P w K mg base (tE P w) 1 A.p_ A.qa ["self","patch"] (Rb A):=by
 refine O.oK.f.rH wc fun jh A0 outer s H vs Q E hr h=>?_
 obtain⟨d,D,W,st,rfl,⟨π,x⟩,hf,q,qe⟩:=h
 refine⟨_,(f_ (iz (ji (kD (by exact iO hr) (pv 1) (gF (pv 0) rfl))) (f_ (k_ bx O.y0 (by rfl) (mJ (iD i0 (iD (oB (pv 1)) o9))))) ia)),?_⟩
 refine⟨_,rfl,_,rfl,d,A.gw,π.dx,_,_,rfl,x.hd,O.gH,O.iS,oy _ _ _,π.m,_,rfl,iY.k (k:=sk st) x.hm,_,rfl,?_⟩
 rw[kJ x.km]
 by_cases hs:st∈D.names
 ·rw[XZ hs]
  exact q hs
 ·rw[aac hs]
  exact mx ⟨_,rfl,by decide+kernel,⟨_,rfl,_,rfl,hf.1,_,rfl,hf.1,fun _=>qe hs⟩⟩
def Rc(A:Ad):Sp:=fun vs H Q E=>∃(d:Addr)(D:Dk)(W:Addr→Prop)(s x:Str),vs=[.ref d,.str s,.str x]∧iw A H d D W∧i5 s∧i5 x∧s∈D.stores∧(x∈D.held s→Q .js H)∧(x∉D.held s→E (.ref A.gr) none H)
theorem qA(T:Txt mg)(O:Ok K mg A):ip P w K mg base (tE P w) 1 A.qb A.qc ["self","store","patch"] (Rc A):=by
 refine O.mj.f.rH wd fun jh A0 outer s H vs Q E hr h=>?_
 obtain⟨d,D,W,st,y,rfl,⟨π,x⟩,hf,IG,hs,q,qe⟩:=h
 obtain⟨v1,_,_,_,_,kv,v2,v3⟩:=x.vh st hs
 refine⟨_,(f_ (iz (ji (kD (by exact iO hr) (pv 2) (v_ hr (gF (pv 0) rfl) (pv 1)))) (f_ (k_ bx O.y0 (by rfl) (mJ (iD i0 (iD (oB (pv 1)) (iD i0 (iD (oB (pv 2)) o9))))))) ia)),?_⟩
 refine⟨_,rfl,_,rfl,d,A.gw,π.dx,_,_,rfl,x.hd,O.gH,O.iH,me _ _ _,_,rfl,π.h,.ref (π.ha st),rfl,?_,π.ha st,_,rfl,iY.k (k:=sk y) v2,_,rfl,?_⟩
 ·have:=iY.k (k:=sk st) x.hh
  rw[v1] at this
  exact this
 ·rw[kJ v3]
  by_cases hy:y∈D.held st
  ·rw[XZ hy]
   exact q hy
  ·rw[aac hy]
   refine mx ?_
   exact⟨_,rfl,by decide+kernel,⟨_,rfl,_,rfl,hf.1,_,rfl,hf.1,⟨_,rfl,by decide+kernel,⟨_,rfl,_,rfl,IG.1,_,rfl,IG.1,fun _=>qe hy⟩⟩⟩⟩
def Mx(H:Hp)(v:V)(l:Ln):Prop:=∃t,v=.ref t∧H t=some (.tup [.str l.nm.1,.int l.nm.2,.str l.tx])
def Up(H:Hp)(a:Addr)(row:List Ln):Prop:=∃vs,H a=some (.lst vs)∧Paired (Mx H) vs row
theorem Mx.same{H H':Hp}{v:V}{l:Ln}(x:Mx H v l)(s:gk H H'):Mx H' v l:=by obtain⟨t,e,h⟩:=x;exact⟨t,e,s _ _ h⟩
def Uq(A:Ad):Sp:=fun vs H Q E=>∃(d:Addr)(D:Dk)(W:Addr→Prop)(s:Str),vs=[.ref d,.str s]∧iw A H d D W∧i5 s∧rj D.made.length∧(s∉D.stores→E (.ref A.gq) none H)∧(s∈D.stores→∀p,H p=none→Q (.ref p) (upd H p (.lst (gh (D.has s)))))
theorem Im(T:Txt mg)(O:Ok K mg A):ip P w K mg base (tE P w) 2 A.BN A.BO ["self","store"] (Uq A):=by
 have ik:=@kK P w K mg base A T O
 refine O.l9.f.rH zB fun jh A0 outer s H vs Q E hr h=>?_
 obtain⟨d,D,W,st,rfl,X,hf,jc,qe,q⟩:=h
 obtain⟨π,x⟩:=id X
 have AD:D.made.length≤4000:=jc
 have sz:sizeLine=16777216:=aaF
 refine⟨_,(de (ib (CL bx (pv 0) O.gH O.iZ ik hr (a_ (pv 1) d_)))
   (f_ (gP (Je (tM BG (gc rR).names [2] rfl (El (gF (pv 0) rfl)) rfl (by decide+kernel) (fun _ _ _ _=>(iy (i:=2) zB.nd rfl (Or.inl rfl))) (fun _ _ _ _=>⟨_,nK (ji (qp (by exact iO hr) (pv 2) (v_ hr (gF (pv 0) rfl) (pv 1)))),by(try simp only [kW]);rfl⟩) (fun _ _ _ _=>zx (pv 2))))))),?_⟩
 refine K4 ?_;intro _
 refine⟨_,rfl,d,π.dx,_,rfl,x.hd,jS,_,rfl,d,D,W,st,rfl,X,hf,fun hs=>?_,fun hs=>qe hs⟩
 obtain⟨v1,_,tm,_,_,kv,v2,v3⟩:=x.vh st hs
 refine⟨_,rfl,d,A.gw,π.dx,_,_,rfl,x.hd,O.gH,O.iS,oy _ _ _,π.m,π.kM,rfl,x.hm,fun o uz=>?_⟩
 have Hx:=jO x.km
 have IC:D.names.length=D.made.length:=by unfold Dk.names;rw[U8]
 have S4:d≠π.m:=jd x.hd x.hm (fun z=>by cases z)
 have f:∀{b u},H b=some u→b≠π.m→upd H π.m (.oO o (.dK π.kM)) b=some u:=fun{b u} e n=>by rw[e_ n];exact e
 refine Jg (by omega) (fun i ys σ H3=>∃(v2:Option V)(zs:List Str),σ=[rr d,rs st,v2]∧H3=upd H π.m (.oO o (.dK π.kM))∧ys=gh zs∧zs=(D.names.take i).filter fun x=>x∈D.held st) ⟨none,[],rfl,rfl,rfl,rfl⟩ (fun i ys σ H3 ⟨_,zs,_,e,e2,e3⟩=>?_) ?_ ?_
 ·rw[e,e2,e3]
  refine⟨b_,?_⟩
  rw[U8]
  exact aah (aaH _ _) (by rw[aay];omega)
 ·rintro i k v ys σ H3 hi ⟨v0,zs,rfl,rfl,rfl,e3⟩
  obtain⟨y,hy,rfl⟩:=y8 x.km hi
  refine⟨_,rfl,_,rfl,d,A.gw,π.dx,_,_,rfl,f x.hd S4,O.gH,O.iH,me _ _ _,_,rfl,π.h,.ref (π.ha st),rfl,?_,π.ha st,_,rfl,iY.k (k:=sk y) (f v2 tm),_,rfl,?_⟩
  ·have:=iY.k (k:=sk st) (f x.hh x.mh.symm)
   rw[v1] at this
   exact this
  ·rw[kJ v3,take_snoc hy,aaQ]
   by_cases hm:y∈D.held st
   ·rw[XZ hm]
    refine mx ⟨_,rfl,_,_,rfl,rfl,iK _ _,?_⟩
    rw[e3,aae (by simpa using hm),aa2]
   ·rw[aac hm]
    refine jY ⟨_,_,rfl,rfl,rfl,?_⟩
    rw[e3,aaj (by simpa using hm),aa2,aaP]
 ·rintro ys σ H3 ⟨v0,zs,rfl,rfl,rfl,e3⟩ p oA
  rw[Hx,aam] at e3
  have IF:p≠π.m:=fun z=>by rw[z,b_] at oA;cases oA
  have ID:H p=none:=by rw[e_ IF] at oA;exact oA
  refine⟨π.m,o,_,by rw[e_ IF.symm];exact b_,uz,?_⟩
  rw[Ek x.hm IF]
  have:=q hs p ID
  unfold Dk.has at this
  rw[←e3] at this
  exact this
def Ur(A:Ad):Sp:=fun vs H Q E=>∃(d:Addr)(D:Dk)(W:Addr→Prop)(s:Str),vs=[.ref d,.str s]∧iw A H d D W∧i5 s∧rj D.made.length∧(s∉D.stores→E (.ref A.gq) none H)∧(s∈D.stores→∀p H',gk H H'→H p=none→Aw A H' p (D.sT s)→Q (.ref p) H')
theorem C5(T:Txt mg)(O:Ok K mg A):ip P w K mg base (tE P w) 3 A.p8 A.p9 ["self","store"] (Ur A):=by
 have jU:=@Im P w K mg base A T O
 refine O.s_.f.rH pC fun jh A0 outer s H vs Q E hr h=>?_
 obtain⟨d,D,W,st,rfl,X,hf,jc,qe,q⟩:=h
 obtain⟨π,x⟩:=id X
 have AD:D.made.length≤4000:=jc
 have sz:sizeLine=16777216:=aaF
 have ql:(D.sT st).length≤D.made.length:=aaH _ _
 refine⟨_,(f_ (gP (xn p0 (gc lD).names [2] rfl (ir (CL bx (pv 0) O.gH O.l9 jU hr (a_ (pv 1) d_))) rfl (by decide+kernel) (fun _ _ _ _=>(iy (i:=2) pC.nd rfl (Or.inl rfl))) (fun _ _ _ _=>mI) (fun _ _ _ _=>zx (v_ hr (gF (pv 0) rfl) (pv 2)))))),?_⟩
 refine⟨_,rfl,d,π.dx,_,rfl,x.hd,sv,_,rfl,d,D,W,st,rfl,X,hf,jc,fun hs=>qe hs,fun hs p oA=>?_⟩
 rw[Dk.Jm]
 have s1:gk H (upd H p (.lst (gh ((D.sT st).map (·.nm))))):=(gk.refl H).new oA
 have tq:(upd H p (.lst (gh ((D.sT st).map (·.nm))))) p=some (.lst (gh ((D.sT st).map (·.nm)))):=b_
 generalize upd H p (.lst (gh ((D.sT st).map (·.nm))))=H1 at s1 tq
 let Jv:=fun(i:Nat) (ys:List V) (σ:St) (H3:Hp)=>∃(v2:Option V)(as:List Addr),σ=[rr d,rs st,v2]∧H3=H1∧ys=as.map V.ref∧Paired (oM A H) as ((D.sT st).take i)
 refine⟨p,rfl,⟨_,gK.of tq⟩,jE (K:=K) (a:=p) (xs:=gh ((D.sT st).map (·.nm))) (by rw[U8,U8];omega) Jv
  ⟨none,[],rfl,rfl,rfl,.nil⟩ (fun i ys σ H3 _ ⟨_,as,_,e,e2,e3⟩=>?_) ?_ ?_⟩
 ·rw[e,e2]
  have:=aav e3
  rw[aay] at this
  exact⟨gK.of tq,by rw[U8];omega⟩
 ·rintro i v ys σ H3 hx ⟨v2,as,rfl,rfl,rfl,e3⟩
  obtain⟨y,hy,rfl⟩:=jW hx
  rw[aan] at hy
  obtain⟨pt,FJ,rfl⟩:=aaL.mp hy
  have Dd:pt∈D.made:=(Inv.n6.mp (Yd FJ)).1
  obtain⟨a,z1,z2⟩:=x.vm pt Dd
  refine⟨_,rfl,d,A.gw,π.dx,_,_,rfl,s1 _ _ x.hd,O.gH,O.iS,oy _ _ _,_,rfl,π.m,.ref a,rfl,?_,?_⟩
  ·have:=iY.k (k:=sk pt.nm) (s1 _ _ x.hm)
   rw[z1] at this
   exact this
  ·refine⟨_,as++[a],rfl,rfl,by rw[aaA];rfl,?_⟩
   rw[take_snoc FJ]
   exact ix e3 z2
 ·rintro ys σ H3 ⟨v2,as,rfl,rfl,rfl,e3⟩ r oZ
  have e0:(gh ((D.sT st).map (·.nm))).length=(D.sT st).length:=by rw[U8,U8]
  rw[e0,aam] at e3
  have s2:=s1.new (o:=.lst (as.map V.ref)) oZ
  exact q hs r _ s2 (s1.free oZ) ⟨as,b_,Paired.lA e3 fun _ _ z=>z.same s2⟩
def Oj(A:Ad):Sp:=fun vs H Q E=>∃(d:Addr)(D:Dk)(W:Addr→Prop)(s f:Str),vs=[.ref d,.str s,.str f]∧iw A H d D W∧i5 s∧Small D.made∧Inv D∧(s∉D.stores→E (.ref A.gq) none H)∧(s∈D.stores→∀p H',gk H H'→H p=none→Ij A H' p (h_ (D.sT s) f) (D.row s f)→Q (.ref p) H')
theorem qk(T:Txt mg)(O:Ok K mg A):ip P w K mg base (tE P w) 5 A.sY A.sZ ["self","store","file"] (Oj A):=by
 have zi:=@C2 P w K mg base A T O
 have yl:=@C5 P w K mg base A T O
 refine O.l_.f.rH yS fun jh A0 outer s H vs Q E hr h=>?_
 obtain⟨d,D,W,st,f,rfl,X,hf,sm,I,qe,q⟩:=h
 obtain⟨π,x⟩:=id X
 refine⟨_,(f_ (gP (xh O.N5 zi (hr.mono (by decide)) (by rfl) O.N6 O.ux.b .nil nF (a_ (CL bx (pv 0) O.gH O.s_ yl hr (a_ (pv 1) d_)) (a_ (pv 2) d_))))),?_⟩
 refine⟨_,rfl,d,π.dx,_,rfl,x.hd,C4,_,rfl,d,D,W,st,rfl,X,hf,sm.many,fun hs=>qe hs,fun hs a H1 s1 ha0 W9=>?_⟩
 refine⟨_,rfl,?_⟩
 intro p px np ZN nxp
 have s2:gk H1 (upd (upd H1 px (.own p)) p (.ins A.ij px [])):=fun b o e=>by
  rw[e_ (gn e np),e_ (gn e ZN)]
  exact e
 refine⟨p,px,a,D.sT st,f,rfl,b_,W9.same s2,sm.sub (Inv.AQ st),I.nodup st f,I.closed hs f,I.T4 st f,fun H' k sg=>⟨rfl,?_⟩⟩
 exact q hs p H' (fun b o e=>k b o (s2 b o (s1 b o e)) (gn (s1 b o e) np)) (s1.free np) sg
theorem My{D:Dk}(I:Inv D)(s f:Str):∀l∈D.row s f,l.nm∈(h_ (D.sT s) f).map (·.nm):=fun l hl=>aai ((mO _ f).subset ((I.BB s f).subset hl))
def Rf(A:Ad):Sp:=fun vs H Q E=>∃(d:Addr)(D:Dk)(W:Addr→Prop)(s f:Str),vs=[.ref d,.str s,.str f]∧iw A H d D W∧i5 s∧Small D.made∧Inv D∧(s∉D.stores→E (.ref A.gq) none H)∧(s∈D.stores→∀p H',gk H H'→H p=none→Up H' p (D.row s f)→Q (.ref p) H')
theorem Rg(T:Txt mg)(O:Ok K mg A):ip P w K mg base (tE P w) 6 A.BR A.BS ["self","store","file"] (Rf A):=by
 have ju:=@qk P w K mg base A T O
 refine O.GV.f.rH zE fun jh A0 outer s H vs Q E hr h=>?_
 obtain⟨d,D,W,st,f,rfl,X,hf,sm,I,qe,q⟩:=h
 obtain⟨π,x⟩:=id X
 have sz:sizeLine=16777216:=aaF
 have Hw:(D.row st f).length≤4000:=aah (I.xt st f) sm.iJ
 refine⟨_,(f_ (gP (xn BI (gc rV).names [3] rfl (ir (gF (CL bx (pv 0) O.gH O.l_ ju hr (a_ (pv 1) (a_ (pv 2) d_))) rfl)) rfl (by decide+kernel) (fun _ _ _ _=>(iy (i:=3) zE.nd rfl (Or.inl rfl))) (fun _ _ _ _=>mI) (fun _ _ _ _=>zx (yw (a_ (l0 A8 (gF (pv 3) rfl) gi (fun _ _=>rfl)) (a_ (l0 A8 (gF (pv 3) rfl) gi (fun _ _=>rfl)) (a_ (gF (pv 3) rfl) d_)))))))),?_⟩
 refine⟨_,rfl,d,π.dx,_,rfl,x.hd,qj,_,rfl,_,rfl,d,D,W,st,f,rfl,X,hf,sm,I,fun hs=>qe hs,fun hs p H1 s1 oA ⟨px,ah,l,g1,g2,⟨as,g3,g4⟩⟩=>?_⟩
 have hlen:=aav g4
 let Jv:=fun(i:Nat) (ys:List V) (σ:St) (H4:Hp)=>∃(v3:Option V),σ=[rr d,rs st,rs f,v3]∧gk H1 H4∧Paired (Mx H4) ys ((D.row st f).take i)
 refine⟨p,A.ij,px,_,_,rfl,g1,O.k7,O.iB,mv ah l,l,rfl,⟨_,gK.of g3⟩,jE (K:=K) (a:=l) (xs:=as.map V.ref) (by rw[U8];omega) Jv
  ⟨none,rfl,gk.refl _,.nil⟩ (by rintro _ _ _ _ _ ⟨_,_,e,e2⟩;exact⟨gK.of (e _ _ g3),by rw[aav e2,aay];omega⟩) ?_ ?_⟩
 ·rintro i v ys σ H4 hx ⟨v3,rfl,s4,e2⟩
  obtain⟨b,hb,rfl⟩:=k9 hx
  obtain⟨ln,AB,Nj,vn,vu,vl,k1,⟨nt,rfl,k2⟩,k3,k4⟩:=iC g4 hb
  refine⟨_,rfl,b,A.gQ,Nj,_,_,rfl,s4 _ _ k1,O.iN,O.gT,ja,nt,_,_,_,rfl,rfl,yo.of (s4 _ _ k2),iE (j:=0) rfl rfl,?_⟩
  refine⟨_,rfl,b,A.gQ,Nj,_,_,rfl,s4 _ _ k1,O.iN,O.gT,ja,nt,_,_,_,rfl,rfl,yo.of (s4 _ _ k2),iE (j:=1) rfl rfl,?_⟩
  refine⟨_,rfl,b,A.gQ,Nj,_,_,rfl,s4 _ _ k1,O.iN,O.jI,xY,L2.jc,fun t ht=>?_⟩
  have s5:=(gk.refl H4).new (o:=.tup [.str ln.nm.1,.int ln.nm.2,.str ln.tx]) ht
  refine⟨_,rfl,s4.trans s5,?_⟩
  rw[take_snoc AB]
  exact ix (Paired.lA e2 fun _ _ z=>z.same s5) ⟨t,rfl,b_⟩
 ·rintro ys σ H4 ⟨v3,rfl,s4,e2⟩ r oZ
  rw[U8,hlen,aam] at e2
  have s5:=(s1.trans s4).new (o:=.lst ys) oZ
  exact q hs r _ s5 ((s1.trans s4).free oZ) ⟨ys,b_,Paired.lA e2 fun _ _ z=>z.same ((gk.refl H4).new oZ)⟩
def Us(A:Ad):Sp:=fun vs H Q E=>∃(d:Addr)(D:Dk)(W:Addr→Prop)(s f:Str),vs=[.ref d,.str s,.str f]∧iw A H d D W∧i5 s∧Small D.made∧Inv D∧(s∉D.stores→E (.ref A.gq) none H)∧(s∈D.stores→∀p H' vs,gk H H'→H p=none→H' p=some (.lst vs)→jq H' (D.Gz s f) vs→Q (.ref p) H')
theorem G_(T:Txt mg)(O:Ok K mg A):ip P w K mg base (tE P w) 6 A.sW A.sX ["self","store","file"] (Us A):=by
 have ju:=@qk P w K mg base A T O
 have lZ:=@uK P w K mg base A T O
 refine O.vO.f.rH yR fun jh A0 outer s H vs Q E hr h=>?_
 obtain⟨d,D,W,st,f,rfl,X,hf,sm,I,qe,q⟩:=h
 obtain⟨π,x⟩:=id X
 have Hw:(D.row st f).length≤4000:=aah (I.xt st f) sm.iJ
 refine⟨_,(f_ (gP (o8 (CL bx (pv 0) O.gH O.l_ ju hr (a_ (pv 1) (a_ (pv 2) d_))) O.k7 O.j6.t lZ (hr.mono (by decide)) O.j6.b .nil nF))),?_⟩
 refine⟨_,rfl,d,π.dx,_,rfl,x.hd,qj,_,rfl,_,rfl,d,D,W,st,f,rfl,X,hf,sm,I,fun hs=>qe hs,fun hs p H1 s1 oA sg=>?_⟩
 obtain⟨px,ah,l,g1,g2,g3⟩:=id sg
 refine⟨p,px,_,rfl,g1,Mt ah l,p,_,_,rfl,sg,My I st f,Hw,fun r H2 vs s2 oZ Cg Hy=>?_⟩
 exact q hs r H2 vs (s1.trans s2) (s1.free oZ) Cg Hy
end
theorem uN{xs ys:List Str}(nd:xs.Nodup)(h:∀x∈xs,x∈ys):xs.length≤ys.length:=by
 have:=len_sub (xs:=xs.map fun k=>((k,0):Nm)) (ys:=ys.map fun k=>(k,0)) (List.pairwise_map.mpr (nd.imp fun h z=>h (abb Prod.fst z))) fun x hx=>by
  obtain⟨k,hk,rfl⟩:=aaO.mp hx
  exact aai (h k hk)
 rwa [U8,U8] at this
section
variable{A:Ad}{H:Hp}{x:Addr}{o:HO}{kv:List (Key×V)}
theorem nv.dk{a:Addr}{l:Ln}(h:nv A H a l)(hx:H x=some (.dK kv)):nv A (L2.upd H x o) a l:=nv.upd h hx (fun _ z=>by cases z) (fun _ _ _ z=>by cases z)
theorem pK.dk{a:Addr}{ls:List Ln}(h:pK A H a ls)(hx:H x=some (.dK kv)):pK A (L2.upd H x o) a ls:=by
 obtain⟨as,h1,h2⟩:=h
 exact⟨as,by rw[e_ (jd h1 hx (fun z=>by cases z))];exact h1,Paired.lA h2 fun _ _ z=>z.dk hx⟩
theorem xZ.dk{a:Addr}{ns:List Nm}(h:xZ H a ns)(hx:H x=some (.dK kv)):xZ (L2.upd H x o) a ns:=by
 obtain⟨vs,h1,h2⟩:=h
 exact⟨vs,by rw[e_ (jd h1 hx (fun z=>by cases z))];exact h1,Paired.lA h2 fun _ _ z=>z.upd hx (fun _ z=>by cases z)⟩
theorem oM.dk{a:Addr}{p:Pt}(h:oM A H a p)(hx:H x=some (.dK kv)):oM A (L2.upd H x o) a p:=by
 obtain⟨dx,vf,pu,cu,vo,h0,h1,h2,h3,h4⟩:=h
 exact⟨dx,vf,pu,cu,vo,by rw[e_ (jd h0 hx (fun z=>by cases z))];exact h0,h1,h2.dk hx,h3.dk hx,h4⟩
end
noncomputable def Ha(l:List Str)(m:Str):List Str:=if m∈l then l else l++[m]
theorem Hc{l:List Str}{m x:Str}:x∈Ha l m↔x∈l∨x=m:=by
 unfold Ha
 split
 ·rename_i h
  exact⟨.inl,fun z=>z.elim id fun z=>z▸h⟩
 ·simp
theorem Jx{l:List Str}{m:Str}(h:l.Nodup):(Ha l m).Nodup:=by
 unfold Ha
 split
 ·exact h
 ·rename_i hm
  rw[aa6]
  exact⟨h,by simp,fun a ha b hb z=>hm (by rw[Yc.mp hb] at z;exact z▸ha)⟩
theorem DX{dk:List (Key×V)}{l:List Str}(h:dk.map (·.1)=l.map sk)(m:Str)(v:V):(putK dk (sk m) v).map (·.1)=(Ha l m).map sk:=by
 rw[o5,h]
 unfold Ha
 by_cases e:m∈l
 ·rw[aax (y7.mpr e),aax e]
 ·rw[aau (fun z=>e (y7.mp z)),aau e,aaA];rfl
theorem DY:∀(more:List (Key×V))(dk:List (Key×V))(l r:List Str),dk.map (·.1)=l.map sk→more.map (·.1)=r.map sk→l.Nodup→∃l':List Str,(putAll dk more).map (·.1)=l'.map sk∧l'.Nodup∧∀m,m∈l'↔m∈l∨m∈r
 | [],dk,l,r,h1,h2,nd=>by
  have:r=[]:=by cases r with|nil=>rfl|cons _ _=>cases h2
  subst this
  exact⟨l,h1,nd,fun m=>by simp⟩
 | p::t,dk,l,r,h1,h2,nd=>by
  cases r with
  | nil=>cases h2
  | cons x r=>
   rw[aaB,aaB] at h2
   injection h2 with e1 e2
   rw[tQ,e1]
   obtain⟨l',z1,z2,z3⟩:=DY t (putK dk (sk x) p.2) (Ha l x) r (DX h1 x _) e2 (Jx nd)
   refine⟨l',z1,z2,fun m=>?_⟩
   rw[z3 m,Hc,aag,or_assoc]
theorem Io{kvs:List (Key×V)}{l:List Str}{x:Str}(h:kvs.map (·.1)=l.map sk):(kC kvs (sk x)).map (·.1)=(l.filter fun y=>y≠x).map sk:=by
 induction kvs generalizing l with
 | nil=>
  cases l with
  | nil=>rfl
  | cons _ _=>cases h
 | cons p r ih=>
  cases l with
  | nil=>cases h
  | cons y t=>
   rw[aaB,aaB] at h
   injection h with e1 e2
   by_cases e:y=x
   ·rw[yx (by rw[e1,e]),ih e2,aaj (by simpa using e)]
   ·rw[yy (by rw[e1];exact fun z=>e (ab9 z)),aae (by simpa using e),aaB,aaB,ih e2,e1]
noncomputable def vt(D:Dk)(s:Str)(l:List Str):Dk:=⟨D.made,D.iq,D.stores,fun t=>if t=s then l else D.held t⟩
theorem E3.vt{A:Ad}{H:Hp}{d:Addr}{D:Dk}{W:Addr→Prop}{π:Dp}{s:Str}{l:List Str}{kv:List (Key×V)}(x:E3 A H d D W π)(hs:s∈D.stores)(hk:kv.map (·.1)=l.map sk):E3 A (upd H (π.ha s) (.dK kv)) d (PK.vt D s l) W π:=by
 obtain⟨v1,v2,v3,v4,v5,VP,v6,v7⟩:=x.vh s hs
 exact{
  hd:=by rw[e_ (jd x.hd v6 (fun z=>by cases z))];exact x.hd
  hm:=by rw[e_ v3.symm];exact x.hm
  hn:=by rw[e_ v4.symm];exact x.hn
  hh:=by rw[e_ v5.symm];exact x.hh
  mn:=x.mn
  mh:=x.mh
  nh:=x.nh
  wm:=x.wm
  wn:=x.wn
  wh:=x.wh
  km:=x.km
  vm:=fun p hp=>by obtain⟨a,h1,h2⟩:=x.vm p hp;exact⟨a,h1,h2.dk v6⟩
  kn:=x.kn
  vn:=fun y hy=>by
   obtain⟨a,kv,l,h1,h2,h3,h4⟩:=x.vn y hy
   exact⟨a,kv,l,h1,h2,by rw[e_ (fun(z:a=π.ha s)=>h2 (by rw[z];exact v2))];exact h3,h4⟩
  kh:=x.kh
  vh:=fun t ht=>by
   obtain⟨h1,h2,h3,h4,h5,kv,h6,h7⟩:=x.vh t ht
   refine⟨h1,h2,h3,h4,h5,?_⟩
   show ∃kv:List (Key×V),_∧kv.map (·.1)=(if t=s then l else D.held t).map sk
   by_cases e:t=s
   ·subst e
    rw[aax rfl]
    exact⟨_,b_,hk⟩
   ·rw[aau e]
    exact⟨kv,by rw[e_ (fun z=>e (x.inj t ht s hs z))];exact h6,h7⟩
  inj:=x.inj
  dk:=fun b hb=>by
   by_cases e:b=π.ha s
   ·rw[e];exact⟨_,b_⟩
   ·obtain⟨kv,h⟩:=x.dk b hb;exact⟨kv,by rw[e_ e];exact h⟩}
section
variable{P:Program}{w:World}{K:Qqy}{mg:Qqx}{base:Heap}{A:Ad}
def Ol(A:Ad):Sp:=fun vs H Q E=>∃(d:Addr)(D:Dk)(W:Addr→Prop)(s:Str),vs=[.ref d,.str s]∧iw A H d D W∧i5 s∧D.stores.length<1000∧(¬Good s→E (.ref A.iI) none H)∧(Good s→s∈D.stores→E (.ref A.gp) none H)∧
 (Good s→s∉D.stores→∀H' W',iw A H' d (D.begin s) W'→ni W H H'→(∀b,W' b→W b∨H b=none)→Q .js H')
theorem Mz(T:Txt mg)(O:Ok K mg A):ip P w K mg base (tE P w) 2 A.xI A.xJ ["self","store"] (Ol A):=by
 have sA:=@vQ P w K mg base A T O
 refine O.BX.f.rH CT fun jh A0 outer s H vs Q E hr h=>?_
 obtain⟨d,D,W,st,rfl,X,hf,hlen,q1,q2,q3⟩:=h
 obtain⟨π,x⟩:=id X
 have sz:sizeLine=16777216:=aaF
 refine⟨_,(de (ib (Ya bx O.wo sA hr (a_ (pv 1) d_)))
   (de (iz (ji (qp (by exact iO hr) (pv 1) (gF (pv 0) rfl))) (f_ (k_ bx O.uB (by rfl) (mJ (iD i0 (iD (oB (pv 1)) (iD i0 o9)))))) ia)
   (f_ (jm (by exact iO hr) (gF (pv 0) rfl) (pv 1) oh rfl)))),?_⟩
 refine Ei ?_;intro _ _
 refine⟨_,rfl,st,rfl,hf,fun g=>?_,fun ng=>q1 ng⟩
 refine⟨_,rfl,_,rfl,d,A.gw,π.dx,_,_,rfl,x.hd,O.gH,O.iH,me _ _ _,π.h,_,rfl,iY.k (k:=sk st) x.hh,_,rfl,?_⟩
 rw[kJ x.kh]
 by_cases hs:st∈D.stores
 ·rw[XZ hs]
  refine mx ⟨_,rfl,by decide+kernel,⟨_,rfl,_,rfl,hf.1,_,rfl,hf.1,⟨_,rfl,by decide+kernel,fun _=>q2 g hs⟩⟩⟩
 ·rw[aac hs]
  refine jY ?_
  intro p oA
  have fr:∀{b o},H b=some o→b≠p:=fun e=>gn e oA
  have Vm:(upd H p (.dK [])) π.h=some (.dK π.kH):=by rw[e_ (fr x.hh)];exact x.hh
  have Hx:=jO x.kh
  refine⟨_,rfl,d,A.gw,π.dx,_,_,rfl,by rw[e_ (fr x.hd)];exact x.hd,O.gH,O.iH,me _ _ _,_,rfl,π.h,_,rfl,nJ.k (k:=sk st) Vm (by omega),?_⟩
  have s1:gk H (upd H p (.dK [])):=(gk.refl H).new oA
  have up:∀{b o},H b=some o→b≠π.h→upd (upd H p (.dK [])) π.h (.dK (putK π.kH (sk st) (.ref p))) b=some o:=fun{b o} e n=>by rw[e_ n];exact s1 _ _ e
  have ZO:p≠π.h:=(fr x.hh).symm
  refine q3 g hs _ (fun b=>W b∨b=p) ⟨⟨π.dx,π.m,π.n,π.h,fun t=>if t=st then p else π.ha t,π.kM,π.kN,putK π.kH (sk st) (.ref p)⟩,?_⟩ (fun b o e nw=>?_) (fun b hb=>?_)
  ·exact{
    hd:=up x.hd (jd x.hd x.hh (fun z=>by cases z))
    hm:=up x.hm x.mh
    hn:=up x.hn x.nh
    hh:=b_
    mn:=x.mn
    mh:=x.mh
    nh:=x.nh
    wm:=.inl x.wm
    wn:=.inl x.wn
    wh:=.inl x.wh
    km:=x.km
    vm:=fun q hq=>by obtain⟨a,h1,h2⟩:=x.vm q hq;exact⟨a,h1,(h2.same s1).dk Vm⟩
    kn:=x.kn
    vn:=fun y hy=>by
     obtain⟨a,kv,l,h1,h2,h3,h4⟩:=x.vn y hy
     exact⟨a,kv,l,h1,fun z=>z.elim h2 (fr h3),up h3 (fun(z:a=π.h)=>h2 (by rw[z];exact x.wh)),h4⟩
    kh:=o6 x.kh hs _
    vh:=fun t ht=>by
     show iV (putK π.kH (sk st) (.ref p)) (sk t)=some (.ref (if t=st then p else π.ha t))∧(W (if t=st then p else π.ha t)∨(if t=st then p else π.ha t)=p)∧(if t=st then p else π.ha t)≠π.m∧(if t=st then p else π.ha t)≠π.n∧(if t=st then p else π.ha t)≠π.h∧∃kv:List (Key×V),(upd (upd H p (.dK [])) π.h (.dK (putK π.kH (sk st) (.ref p)))) (if t=st then p else π.ha t)=some (.dK kv)∧kv.map (·.1)=(if t=st then[] else D.held t).map sk
     rw[j0]
     by_cases e:t=st
     ·subst e
      rw[aax rfl,aax rfl,aax rfl]
      exact⟨rfl,.inr rfl,(fr x.hm).symm,(fr x.hn).symm,ZO,[],by rw[e_ ZO];exact b_,rfl⟩
     ·have Nk:t∈D.stores:=(aaf.mp ht).elim id fun z=>absurd (Yc.mp z) e
      rw[aau (fun z=>e (ab9 z)),aau e,aau e]
      obtain⟨h1,h2,h3,h4,h5,kv,h6,h7⟩:=x.vh t Nk
      exact⟨h1,.inl h2,h3,h4,h5,kv,up h6 h5,h7⟩
    inj:=fun t ht u hu e=>by
     have e:(if t=st then p else π.ha t)=(if u=st then p else π.ha u):=e
     by_cases e1:t=st
     ·by_cases e2:u=st
      ·rw[e1,e2]
      ·have ZP:u∈D.stores:=(aaf.mp hu).elim id fun z=>absurd (Yc.mp z) e2
       rw[aax e1,aau e2] at e
       obtain⟨_,_,_,_,_,kv,h6,_⟩:=x.vh u ZP
       exact absurd e.symm (fr h6)
     ·have Nk:t∈D.stores:=(aaf.mp ht).elim id fun z=>absurd (Yc.mp z) e1
      by_cases e2:u=st
      ·rw[aau e1,aax e2] at e
       obtain⟨_,_,_,_,_,kv,h6,_⟩:=x.vh t Nk
       exact absurd e (fr h6)
      ·have ZP:u∈D.stores:=(aaf.mp hu).elim id fun z=>absurd (Yc.mp z) e2
       rw[aau e1,aau e2] at e
       exact x.inj t Nk u ZP e
    dk:=fun b hb=>by
     by_cases e:b=π.h
     ·rw[e];exact⟨_,b_⟩
     ·rcases hb with hb|hb
      ·obtain⟨kv,h⟩:=x.dk b hb;exact⟨kv,up h e⟩
      ·rw[hb];exact⟨[],by rw[e_ ZO];exact b_⟩}
  ·exact up e (fun(z:b=π.h)=>nw (by rw[z];exact x.wh))
  ·rcases hb with hb|hb
   ·exact .inl hb
   ·rw[hb];exact .inr oA
def Ut(A:Ad):Sp:=fun vs H Q E=>∃(d l:Addr)(D:Dk)(W:Addr→Prop)(x:Str)(fs:List Str),vs=[.ref d,.str x,.ref l]∧iw A H d D W∧H l=some (.lst (gh fs))∧fs.length≤1000∧(∀y∈x::fs,i5 y)∧
 ((¬∀y∈x::fs,Good y)→∀H',gk H H'→E (.ref A.iI) none H')∧((∀y∈x::fs,Good y)→x∈D.names→∀H',gk H H'→E (.ref A.gp) none H')∧((∀y∈x::fs,Good y)→x∉D.names→∀H',gk H H'→Q .js H')
theorem sx(T:Txt mg)(O:Ok K mg A):ip P w K mg base (tE P w) 2 A.q8 A.q9 ["self","patch","files"] (Ut A):=by
 have sA:=@vQ P w K mg base A T O
 refine O.m_.f.rH p6 fun jh A0 outer s H vs Q E hr h=>?_
 obtain⟨d,l,D,W,y,fs,rfl,X,hl,hfl,PU,q1,q2,q3⟩:=h
 obtain⟨π,x⟩:=id X
 have sz:sizeLine=16777216:=aaF
 refine⟨_,(de (iP LF rfl (ir (gz lG (iA (a_ (pv 1) d_)) (pv 2))) (vZ 3 p6) (f_ (ib (Ya bx O.wo sA hr (a_ (pv 3) d_)))))
   (f_ (iz (ji (qp (by exact iO hr) (pv 1) (gF (pv 0) rfl))) (f_ (k_ bx O.uB (by rfl) (mJ (iD i0 (iD (oB (pv 1)) (iD i0 o9)))))) ia))),?_⟩
 refine K4 ?_;intro _
 refine⟨_,rfl,L2.jc,fun a ha=>?_⟩
 have s1:gk H (upd H a (.lst [V.str y])):=(gk.refl H).new ha
 refine⟨_,rfl,a,l,_,_,rfl,rfl,b_,s1 _ _ hl,by rw[U8];show 1+_≤_;omega,fun b hb=>?_⟩
 have s2:=s1.new (o:=.lst ([V.str y]++gh fs)) hb
 have ze:(upd (upd H a (.lst [V.str y])) b (.lst ([V.str y]++gh fs))) b=some (.lst (gh (y::fs))):=b_
 generalize upd (upd H a (.lst [V.str y])) b (.lst ([V.str y]++gh fs))=H2 at s2 ze
 let Jv:=fun(i:Nat) (σ:St) (H3:Hp)=>∃v,σ=[rr d,rs y,rr l,v]∧H3=H2∧∀z∈(y::fs).take i,Good z
 refine⟨b,rfl,⟨_,gK.of ze⟩,je (K:=K) (a:=b) (xs:=gh (y::fs)) Jv ⟨none,rfl,rfl,fun z hz=>by rw[abH] at hz;cases hz⟩ (by rintro _ _ _ _ ⟨_,_,e,_⟩;rw[e];exact gK.of ze) ?_ ?_⟩
 ·rintro i v σ H3 hx ⟨v0,rfl,rfl,hg⟩
  obtain⟨z,hz,rfl⟩:=jW hx
  refine⟨_,rfl,z,rfl,PU z (Yd hz),fun g=>?_,fun ng=>q1 (fun h=>ng (h z (Yd hz))) _ s2⟩
  refine⟨_,rfl,rfl,fun t ht=>?_⟩
  rw[take_snoc hz] at ht
  rcases aaf.mp ht with ht|ht
  ·exact hg t ht
  ·rw[Yc.mp ht];exact g
 ·rintro σ H3 ⟨v0,rfl,rfl,hg⟩
  rw[U8,aam] at hg
  refine⟨_,rfl,_,rfl,d,A.gw,π.dx,_,_,rfl,s2 _ _ x.hd,O.gH,O.iS,oy _ _ _,π.m,_,rfl,iY.k (k:=sk y) (s2 _ _ x.hm),_,rfl,?_⟩
  rw[kJ x.km]
  have hf:=PU y aaz
  by_cases hm:y∈D.names
  ·rw[XZ hm]
   exact mx ⟨_,rfl,by decide+kernel,⟨_,rfl,_,rfl,hf.1,_,rfl,hf.1,⟨_,rfl,by decide+kernel,fun _=>q2 hg hm _ s2⟩⟩⟩
  ·rw[aac hm]
   exact q3 hg hm _ s2
def Om(A:Ad):Sp:=fun vs H Q E=>∃(d:Addr)(D:Dk)(W:Addr→Prop)(s:Str),vs=[.ref d,.str s]∧iw A H d D W∧i5 s∧rj D.made.length∧(s∉D.names→E (.ref A.gr) none H)∧(s∈D.names→∀p,H p=none→Q (.ref p) (upd H p (.lst (gh (D.il s)))))
theorem yc(T:Txt mg)(O:Ok K mg A):ip P w K mg base (tE P w) 2 A.xK A.xM ["self","patch"] (Om A):=by
 have nq:=@vR P w K mg base A T O
 refine O.nX.f.rH vH fun jh A0 outer s H vs Q E hr h=>?_
 obtain⟨d,D,W,st,rfl,X,hf,jc,qe,q⟩:=h
 obtain⟨π,x⟩:=id X
 have AD:D.made.length≤4000:=jc
 have sz:sizeLine=16777216:=aaF
 refine⟨_,(de (ib (CL bx (pv 0) O.gH O.oK nq hr (a_ (pv 1) d_)))
   (f_ (gP (Je (tM xB (gc oV).names [2] rfl (El (gF (pv 0) rfl)) rfl (by decide+kernel) (fun _ _ _ _=>(iy (i:=2) vH.nd rfl (Or.inl rfl))) (fun _ _ _ _=>⟨_,nK (ji (qp (by exact iO hr) (pv 2) (v_ hr (gF (pv 0) rfl) (pv 1)))),by(try simp only [kW]);rfl⟩) (fun _ _ _ _=>zx (pv 2))))))),?_⟩
 refine K4 ?_;intro _
 refine⟨_,rfl,d,π.dx,_,rfl,x.hd,vP,_,rfl,d,D,W,st,rfl,X,hf,fun hs=>?_,fun hs=>qe hs⟩
 obtain⟨a,kv,l,v1,hnw,v2,v3,_,v4⟩:=x.vn st hs
 have tm:a≠π.m:=fun z=>hnw (by rw[z];exact x.wm)
 refine⟨_,rfl,d,A.gw,π.dx,_,_,rfl,x.hd,O.gH,O.iS,oy _ _ _,π.m,π.kM,rfl,x.hm,fun o uz=>?_⟩
 have Hx:=jO x.km
 have IC:D.names.length=D.made.length:=by unfold Dk.names;rw[U8]
 have S4:d≠π.m:=jd x.hd x.hm (fun z=>by cases z)
 have f:∀{b u},H b=some u→b≠π.m→upd H π.m (.oO o (.dK π.kM)) b=some u:=fun{b u} e n=>by rw[e_ n];exact e
 refine Jg (by omega) (fun i ys σ H3=>∃(v2:Option V)(zs:List Str),σ=[rr d,rs st,v2]∧H3=upd H π.m (.oO o (.dK π.kM))∧ys=gh zs∧zs=(D.names.take i).filter fun x=>x∈D.iq st) ⟨none,[],rfl,rfl,rfl,rfl⟩ (fun i ys σ H3 ⟨_,zs,_,e,e2,e3⟩=>?_) ?_ ?_
 ·rw[e,e2,e3]
  refine⟨b_,?_⟩
  rw[U8]
  exact aah (aaH _ _) (by rw[aay];omega)
 ·rintro i k v ys σ H3 hi ⟨v0,zs,rfl,rfl,rfl,e3⟩
  obtain⟨y,hy,rfl⟩:=y8 x.km hi
  refine⟨_,rfl,_,rfl,d,A.gw,π.dx,_,_,rfl,f x.hd S4,O.gH,O.jo,vc _ _ _,_,rfl,π.n,.ref a,rfl,?_,a,_,rfl,iY.k (k:=sk y) (f v2 tm),_,rfl,?_⟩
  ·have:=iY.k (k:=sk st) (f x.hn x.mn.symm)
   rw[v1] at this
   exact this
  ·rw[kJ v3,take_snoc hy,aaQ]
   by_cases hm:y∈D.iq st
   ·rw[XZ ((v4 y).mpr hm)]
    refine mx ⟨_,rfl,_,_,rfl,rfl,iK _ _,?_⟩
    rw[e3,aae (by simpa using hm),aa2]
   ·rw[aac (fun z=>hm ((v4 y).mp z))]
    refine jY ⟨_,_,rfl,rfl,rfl,?_⟩
    rw[e3,aaj (by simpa using hm),aa2,aaP]
 ·rintro ys σ H3 ⟨v0,zs,rfl,rfl,rfl,e3⟩ p oA
  rw[Hx,aam] at e3
  have IF:p≠π.m:=fun z=>by rw[z,b_] at oA;cases oA
  have ID:H p=none:=by rw[e_ IF] at oA;exact oA
  refine⟨π.m,o,_,by rw[e_ IF.symm];exact b_,uz,?_⟩
  rw[Ek x.hm IF]
  have:=q hs p ID
  unfold Dk.il at this
  rw[←e3] at this
  exact this
def Rh(A:Ad):Sp:=fun vs H Q _=>∃(d a:Addr)(D:Dk)(W:Addr→Prop)(s:Str)(p:Pt),vs=[.ref d,.str s,.ref a]∧iw A H d D W∧Inv D∧rj D.made.length∧s∈D.stores∧oM A H a p∧p.nm∉D.names∧rj p.iJ.length∧rj p.kR.length∧(∀y∈iT p,y∈D.names)∧
 ∀H',iw A H' d (D.keep s p) W→ni W H H'→Q .js H'
theorem E6(p:Pt):(iT p).length≤p.kR.length+2*p.iJ.length+1:=by
 unfold iT
 rw[Y5,U8]
 have h1:=aaH (fun n:Nm=>decide (n.1≠p.nm)) (named p)
 have h2:=DW p
 have h3:p.other.toList.length≤1:=by cases p.other<;>simp
 omega
theorem E7(T:Txt mg)(O:Ok K mg A):ip P w K mg base nu 3 A.zS A.zT ["self","store","patch"] (Rh A):=by
 have vw:=@uL P w K mg base A T O
 refine O.u_.f.rh r_ fun jh A0 outer s H vs Q E hr h=>?_
 obtain⟨d,a,D,W,st,p,rfl,X,I,jc,hs,FJ,fresh,wA,De,yp,q⟩:=h
 obtain⟨π,x⟩:=id X
 have AD:D.made.length≤4000:=jc
 have PQ:p.iJ.length≤4000:=wA
 have M3:p.kR.length≤4000:=De
 have sz:sizeLine=16777216:=aaF
 have IC:D.names.length=D.made.length:=by unfold Dk.names;rw[U8]
 have Wy:=E6 p
 refine⟨_,(de (lB 3 r_ oh)
   (de (iP aaG rfl (ir (pJ O.qi vw hr (a_ (pv 2) d_))) (vZ 4 r_) (de (jm (by exact iO hr) (pv 3) (pv 4) nB rfl)
   (f_ (ib (L3 (pv 3) (v_ hr (gF (pv 0) rfl) (pv 4)) ⟨rfl,rfl,rfl,rfl⟩)))))
   (de (jm (by exact iO hr) (gF (pv 0) rfl) (gF (pv 2) rfl) (pv 3) rfl)
   (de (jm (by exact iO hr) (gF (pv 0) rfl) (gF (pv 2) rfl) (pv 2) rfl)
   (f_ (jm (by exact iO hr) (v_ hr (gF (pv 0) rfl) (pv 1)) (gF (pv 2) rfl) nB rfl)))))),?_⟩
 refine Sw ?_;intro _ _ _ _
 intro nd RS
 have s1:gk H (upd H nd (.dK [])):=(gk.refl H).new RS
 have R9:(upd H nd (.dK [])) nd=some (.dK []):=b_
 generalize upd H nd (.dK [])=H1 at s1 R9
 refine⟨_,rfl,a,p,rfl,FJ.same s1,wA,De,fun r H2 s2 oZ Cg=>?_⟩
 have Hz:=s1.trans s2
 have hrn:r≠nd:=fun z=>by rw[z,R9] at oZ;cases oZ
 have W_:¬W nd:=X.js RS
 let Jv:=fun(i:Nat) (σ:St) (H3:Hp)=>∃(v:Option V)(kv:List (Key×V))(l:List Str),σ=[rr d,rs st,rr a,rr nd,v]∧(∀b o,H2 b=some o→b≠nd→H3 b=some o)∧H3 nd=some (.dK kv)∧kv.map (·.1)=l.map sk∧l.Nodup∧∀y,y∈l↔∃z∈(iT p).take i,y=z∨y∈D.iq z
 refine⟨r,rfl,⟨_,gK.of Cg⟩,je (K:=K) (a:=r) (xs:=gh (iT p)) Jv
  ⟨none,[],[],rfl,fun b o e _=>e,s2 _ _ R9,rfl,abr,fun y=>by simp⟩ (by rintro _ _ _ _ ⟨_,_,_,_,e,_⟩;exact gK.of (e _ _ Cg hrn)) ?_ ?_⟩
 ·rintro i v σ H3 hx ⟨v0,kv,l,rfl,e1,e2,e3,e4,e5⟩
  obtain⟨z,hz,rfl⟩:=jW hx
  have hzm:z∈iT p:=Yd hz
  have K8:z∈D.names:=yp z hzm
  obtain⟨az,kz,lz,z1,z2,z3,z4,z5,z6⟩:=x.vn z K8
  have AA:∀y∈l,y∈D.names:=fun y hy=>by
   obtain⟨t,ht,h⟩:=(e5 y).mp hy
   have htn:=yp t (List.mem_of_mem_take ht)
   rcases h with h|h
   ·rw[h];exact htn
   ·exact I.AR htn h
  have WU:=uN e4 AA
  have hlz:=uN z5 fun y hy=>I.AR K8 ((z6 y).mp hy)
  have Hx:=jO e3
  have hkz:=jO z4
  have hlk:=jL kv (sk z) (V.bl true)
  have ZQ:az≠nd:=fun e=>by rw[e,RS] at z3;cases z3
  refine⟨_,rfl,_,rfl,nd,_,rfl,nJ.k (k:=sk z) e2 (by omega),?_⟩
  have up:∀{b o},H b=some o→upd H3 nd (.dK (putK kv (sk z) (V.bl true))) b=some o:=fun{b o} e=>by
   have n:b≠nd:=fun z=>by rw[z,RS] at e;cases e
   rw[e_ n];exact e1 _ _ (Hz _ _ e) n
  refine⟨_,rfl,nd,rfl,.inl ⟨_,.inl b_⟩,_,rfl,d,A.gw,π.dx,_,_,rfl,up x.hd,O.gH,O.jo,vc _ _ _,_,rfl,π.n,.ref az,rfl,?_,az,_,kz,rfl,b_,.inl (up z3),ZQ.symm,by omega,?_⟩
  ·have:=iY.k (k:=sk z) (up x.hn)
   rw[z1] at this
   exact this
  ·obtain⟨l',w1,w2,w3⟩:=DY kz _ (Ha l z) lz (DX e3 z (V.bl true)) z4 (Jx e4)
   refine⟨_,_,l',rfl,fun b o e n=>by rw[e_ n,e_ n];exact e1 b o e n,b_,w1,w2,fun y=>?_⟩
   rw[w3 y,Hc,e5 y,z6 y,take_snoc hz]
   constructor
   ·rintro((⟨t,ht,h⟩|h)|h)
    ·exact⟨t,aaC _ ht,h⟩
    ·exact⟨z,by simp,.inl h⟩
    ·exact⟨z,by simp,.inr h⟩
   ·rintro⟨t,ht,h⟩
    rcases aaf.mp ht with ht|ht
    ·exact .inl (.inl ⟨t,ht,h⟩)
    ·rw[Yc.mp ht] at h
     exact h.elim (fun h=>.inl (.inr h)) .inr
 ·rintro σ H3 ⟨v0,kv,l,rfl,e1,e2,e3,e4,e5⟩
  rw[U8,aam] at e5
  have s3:gk H H3:=fun b o e=>e1 b o (Hz _ _ e) (fun z=>by rw[z,RS] at e;cases e)
  obtain⟨dx,vf,pu,cu,vo,g1,g2⟩:=FJ.same s3
  have y:=x.same s3
  have hnM:=jO x.km
  have hnN:=jO x.kn
  obtain⟨v1,v2,v3,v4,v5,VP,v6,v7⟩:=y.vh st hs
  have hkv0:=jO v7
  have hhl:=uN (I.xp st hs) fun t ht=>(I.l8 st hs t ht).1
  refine⟨_,rfl,_,rfl,d,A.gw,π.dx,_,_,rfl,y.hd,O.gH,O.jo,vc _ _ _,_,rfl,a,A.gL,dx,_,_,rfl,g1,O.i_,O.i6,uF,π.n,_,rfl,nJ.k (k:=sk p.nm) y.hn (by omega),?_⟩
  have f1:∀{b o},H3 b=some o→b≠π.n→upd H3 π.n (.dK (putK π.kN (sk p.nm) (.ref nd))) b=some o:=fun{b o} e n=>by rw[e_ n];exact e
  have Ni:d≠π.n:=jd y.hd y.hn (fun z=>by cases z)
  have han:a≠π.n:=jd g1 y.hn (fun z=>by cases z)
  have S4:d≠π.m:=jd y.hd y.hm (fun z=>by cases z)
  have ham:a≠π.m:=jd g1 y.hm (fun z=>by cases z)
  refine⟨_,rfl,_,rfl,d,A.gw,π.dx,_,_,rfl,f1 y.hd Ni,O.gH,O.iS,oy _ _ _,_,rfl,a,A.gL,dx,_,_,rfl,f1 g1 han,O.i_,O.i6,uF,π.m,_,rfl,nJ.k (k:=sk p.nm) (f1 y.hm x.mn) (by omega),?_⟩
  have f2:∀{b o},H3 b=some o→b≠π.n→b≠π.m→upd (upd H3 π.n (.dK (putK π.kN (sk p.nm) (.ref nd)))) π.m (.dK (putK π.kM (sk p.nm) (.ref a))) b=some o:=fun{b o} e n m=>by rw[e_ m];exact f1 e n
  refine⟨_,rfl,d,A.gw,π.dx,_,_,rfl,f2 y.hd Ni S4,O.gH,O.iH,me _ _ _,_,rfl,π.h,.ref (π.ha st),rfl,?_,_,rfl,a,A.gL,dx,_,_,rfl,f2 g1 han ham,O.i_,O.i6,uF,π.ha st,_,rfl,nJ.k (k:=sk p.nm) (f2 v6 v4 v3) (by omega),?_⟩
  ·have:=iY.k (k:=sk st) (f2 y.hh x.nh.symm x.mh.symm)
   rw[v1] at this
   exact this
  ·have hpn:p.nm∉D.held st:=fun z=>fresh (I.l8 st hs _ z).1
   have f3:∀{b o},H3 b=some o→b≠π.n→b≠π.m→b≠π.ha st→upd (upd (upd H3 π.n (.dK (putK π.kN (sk p.nm) (.ref nd)))) π.m (.dK (putK π.kM (sk p.nm) (.ref a)))) (π.ha st) (.dK (putK VP (sk p.nm) (V.bl true))) b=some o:=fun{b o} e n m h=>by rw[e_ h];exact f2 e n m
   have f4:∀{b q},oM A H3 b q→oM A (upd (upd (upd H3 π.n (.dK (putK π.kN (sk p.nm) (.ref nd)))) π.m (.dK (putK π.kM (sk p.nm) (.ref a)))) (π.ha st) (.dK (putK VP (sk p.nm) (V.bl true)))) b q:=fun z=>((z.dk y.hn).dk (f1 y.hm x.mn)).dk (f2 v6 v4 v3)
   have nW:∀{b},¬W b→b≠π.n∧b≠π.m∧b≠π.ha st:=fun{b} h=>⟨fun z=>h (by rw[z];exact x.wn),fun z=>h (by rw[z];exact x.wm),fun z=>h (by rw[z];exact v2)⟩
   refine q _ ⟨{π with kM:=putK π.kM (sk p.nm) (.ref a),kN:=putK π.kN (sk p.nm) (.ref nd)},?_⟩ fun b o e n=>f3 (s3 _ _ e) (nW n).1 (nW n).2.1 (nW n).2.2
   have IH:(D.keep st p).names=D.names++[p.nm]:=by
    show(D.made++[p]).map (·.nm)=_
    rw[aaA];rfl
   exact{
    hd:=f3 y.hd Ni S4 (jd y.hd v6 (fun z=>by cases z))
    hm:=by
     show upd _ (π.ha st) _ π.m=_
     rw[e_ v3.symm];exact b_
    hn:=by
     show upd _ (π.ha st) _ π.n=_
     rw[e_ v4.symm,e_ x.mn.symm];exact b_
    hh:=f3 y.hh x.nh.symm x.mh.symm v5.symm
    mn:=x.mn
    mh:=x.mh
    nh:=x.nh
    wm:=x.wm
    wn:=x.wn
    wh:=x.wh
    km:=by rw[IH];exact o6 x.km fresh _
    vm:=fun q hq=>by
     show ∃b,iV (putK π.kM (sk p.nm) (.ref a)) (sk q.nm)=some (.ref b)∧_
     rw[j0]
     rcases aaf.mp hq with hq|hq
     ·obtain⟨b,w1,w2⟩:=y.vm q hq
      have tm:q.nm≠p.nm:=fun z=>fresh (by rw[←z];exact aai hq)
      rw[aau (fun z=>tm (ab9 z))]
      exact⟨b,w1,f4 w2⟩
     ·rw[Yc.mp hq,aax rfl]
      exact⟨a,rfl,f4 (FJ.same s3)⟩
    kn:=by rw[IH];exact o6 x.kn fresh _
    vn:=fun t ht=>by
     rw[IH] at ht
     show ∃(b:Addr)(kv:List (Key×V))(l:List Str),iV (putK π.kN (sk p.nm) (.ref nd)) (sk t)=some (.ref b)∧¬W b∧_∧kv.map (·.1)=l.map sk∧l.Nodup∧∀u,u∈l↔u∈(if t=p.nm then uZ D.iq p else D.iq t)
     rw[j0]
     by_cases e:t=p.nm
     ·rw[aax (by rw[e]),aax e]
      refine⟨nd,kv,l,rfl,W_,f3 e2 (nW W_).1 (nW W_).2.1 (nW W_).2.2,e3,e4,fun u=>?_⟩
      rw[e5 u]
      unfold uZ
      rw[abj]
      exact⟨fun⟨z,h1,h2⟩=>⟨z,h1,aag.mpr h2⟩,fun⟨z,h1,h2⟩=>⟨z,h1,aag.mp h2⟩⟩
     ·rw[aau (fun z=>e (ab9 z)),aau e]
      have Nk:t∈D.names:=(aaf.mp ht).elim id fun z=>absurd (Yc.mp z) e
      obtain⟨b,R_,l',w1,w2,w3,w4⟩:=y.vn t Nk
      exact⟨b,R_,l',w1,w2,f3 w3 (nW w2).1 (nW w2).2.1 (nW w2).2.2,w4⟩
    kh:=x.kh
    vh:=fun t ht=>by
     obtain⟨h1,h2,h3,h4,h5,R_,h6,h7⟩:=y.vh t ht
     refine⟨h1,h2,h3,h4,h5,?_⟩
     show ∃kv:List (Key×V),_∧kv.map (·.1)=(if t=st then D.held st++[p.nm] else D.held t).map sk
     by_cases e:t=st
     ·subst e
      rw[aax rfl]
      exact⟨_,b_,o6 v7 hpn _⟩
     ·rw[aau e]
      exact⟨R_,f3 h6 h4 h3 (fun z=>e (x.inj t ht st hs z)),h7⟩
    inj:=x.inj
    dk:=fun b hb=>by
     by_cases h1:b=π.ha st
     ·rw[h1];exact⟨_,b_⟩
     ·by_cases h2:b=π.m
      ·rw[h2,e_ v3.symm];exact⟨_,b_⟩
      ·by_cases h3:b=π.n
       ·rw[h3,e_ v4.symm,e_ x.mn.symm];exact⟨_,b_⟩
       ·obtain⟨kv,h⟩:=y.dk b hb
        exact⟨kv,f3 h h3 h2 h1⟩}
theorem Kz(D:Dk)(s x:Str):D.take s x=vt D s (D.held s++D.lJ s x):=rfl
theorem KA(D:Dk)(s x:Str):D.drop s x=vt D s ((D.held s).filter fun y=>y≠x):=rfl
theorem KC(D:Dk)(s:Str)(l l':List Str):vt (vt D s l) s l'=vt D s l':=by
 unfold vt
 congr 1
 funext t
 show(if t=s then l' else(if t=s then l else D.held t))=_
 by_cases e:t=s
 ·rw[aax e,aax e]
 ·rw[aau e,aau e,aau e]
theorem KD(D:Dk)(s:Str):vt D s (D.held s)=D:=by
 cases D
 unfold vt
 congr 1
 funext t
 show(if t=s then _ else _)=_
 by_cases e:t=s
 ·rw[aax e,e]
 ·rw[aau e]
def Ri(A:Ad):Sp:=fun vs H Q E=>∃(d:Addr)(D:Dk)(W:Addr→Prop)(s c x:Str),vs=[.ref d,.str s,.str c,.str x]∧iw A H d D W∧Inv D∧rj D.made.length∧i5 s∧i5 c∧i5 x∧
 (s∉D.stores→E (.ref A.gq) none H)∧(s∈D.stores→c∉D.stores→E (.ref A.gq) none H)∧(s∈D.stores→c∈D.stores→x∉D.held c→E (.ref A.gr) none H)∧
 (s∈D.stores→c∈D.stores→x∈D.held c→∀p H1 H',gk H H1→H1 p=none→H' p=some (.lst (gh (D.lJ s x)))→iw A H' d (D.take s x) W→ni W (upd H1 p (.lst (gh (D.lJ s x)))) H'→Q (.ref p) H')
def Oo(A:Ad):Sp:=fun vs H Q E=>∃(d:Addr)(D:Dk)(W:Addr→Prop)(π:Dp)(s c x:Str),vs=[.ref d,.str s,.str c,.str x]∧E3 A H d D W π∧Inv D∧rj D.made.length∧i5 s∧i5 c∧i5 x∧
 (s∉D.stores→E (.ref A.gq) none H)∧(s∈D.stores→c∉D.stores→E (.ref A.gq) none H)∧(s∈D.stores→c∈D.stores→x∉D.held c→E (.ref A.gr) none H)∧
 (s∈D.stores→c∈D.stores→x∈D.held c→∀p H1 H',gk H H1→H1 p=none→H' p=some (.lst (gh (D.lJ s x)))→E3 A H' d (D.take s x) W π→ni (fun b=>b=π.ha s) (upd H1 p (.lst (gh (D.lJ s x)))) H'→Q (.ref p) H')
theorem Ip{D:Dk}(I:Inv D){s x:Str}(hx:x∈D.names):(D.lJ s x).Nodup∧∀y∈D.lJ s x,y∈D.names∧y∉D.held s:=by
 refine⟨?_,fun y hy=>?_⟩
 ·refine ach aa0 ?_
  rw[aa6]
  refine⟨ach aa0 I.nd,by simp,fun a ha b hb z=>?_⟩
  rw[Yc.mp hb] at z
  subst z
  exact I.yJ hx (aaw (aat.mp ha).2)
 ·obtain⟨h1,h2⟩:=aat.mp hy
  refine⟨?_,aaw h2⟩
  rcases aaf.mp h1 with h|h
  ·exact(aat.mp h).1
  ·rw[Yc.mp h];exact hx
theorem Hd(T:Txt mg)(O:Ok K mg A):ip P w K mg base (tE P w) 3 A.ug A.uh ["self","store","source","patch"] (Oo A):=by
 have ik:=@kK P w K mg base A T O
 have kr:=@qA P w K mg base A T O
 have ku:=@yc P w K mg base A T O
 refine O.u2.f.rH mT fun jh A0 outer s H vs Q E hr h=>?_
 obtain⟨d,D,W,π,st,c,y,rfl,x,I,jc,hf,hfc,IG,q1,q2,q3,q4⟩:=h
 have X:iw A H d D W:=⟨π,x⟩
 have AD:D.made.length≤4000:=jc
 have sz:sizeLine=16777216:=aaF
 have IC:D.names.length=D.made.length:=by unfold Dk.names;rw[U8]
 refine⟨_,(de (ib (CL bx (pv 0) O.gH O.iZ ik hr (a_ (pv 1) d_)))
   (de (ib (CL bx (pv 0) O.gH O.iZ ik hr (a_ (pv 2) d_)))
   (de (ib (CL bx (pv 0) O.gH O.mj kr hr (a_ (pv 2) (a_ (pv 3) d_))))
   (de (lB 4 mT (gz lG (CL bx (pv 0) O.gH O.nX ku hr (a_ (pv 3) d_)) (iA (a_ (pv 3) d_))))
   (de (Bf (j:=5) zC (gc pW).names [6] mT.nd rfl rfl rfl (ir (pv 4)) rfl (by decide+kernel) (fun _ _ _ _=>(iy (i:=6) mT.nd rfl (Or.inl rfl))) (fun _ _ _ _=>⟨_,nK (ji (kD (by exact iO hr) (pv 6) (v_ hr (gF (pv 0) rfl) (pv 1)))),by(try simp only [kW]);rfl⟩) (fun _ _ _ _=>zx (pv 6)))
   (de (iP LF rfl (ir (pv 5)) (vZ 6 mT) (f_ (jm (by exact iO hr) (v_ hr (gF (pv 0) rfl) (pv 1)) (pv 6) nB rfl)))
   (f_ (gP (pv 5))))))))),?_⟩
 refine X8 ?_;intro _ _ _ _ _ _
 refine⟨_,rfl,d,π.dx,_,rfl,x.hd,jS,_,rfl,d,D,W,st,rfl,X,hf,fun hs=>?_,fun hs=>q1 hs⟩
 refine⟨_,rfl,d,π.dx,_,rfl,x.hd,jS,_,rfl,d,D,W,c,rfl,X,hfc,fun hc=>?_,fun hc=>q2 hs hc⟩
 refine⟨_,rfl,d,π.dx,_,rfl,x.hd,qz,_,rfl,_,rfl,d,D,W,c,y,rfl,X,hfc,IG,hc,fun hy=>?_,fun hy=>q3 hs hc hy⟩
 have hyn:y∈D.names:=(I.l8 c hc y hy).1
 have WU:(D.il y).length≤D.names.length:=aaH _ _
 refine⟨_,rfl,d,π.dx,_,rfl,x.hd,uM,_,rfl,d,D,W,y,rfl,X,IG,jc,fun h=>absurd hyn h,fun _ p oA=>?_⟩
 have s1:=(gk.refl H).new (o:=.lst (gh (D.il y))) oA
 refine⟨_,rfl,L2.jc,fun b hb=>?_⟩
 have s2:=s1.new (o:=.lst [V.str y]) hb
 refine⟨p,b,_,_,rfl,rfl,g_ hb b_,b_,by rw[U8];show _+1≤_;omega,fun wt PJ=>?_⟩
 have s3:=s2.new (o:=.lst (gh (D.il y)++[V.str y])) PJ
 have Sb:(upd (upd (upd H p (.lst (gh (D.il y)))) b (.lst [V.str y])) wt (.lst (gh (D.il y)++[V.str y]))) wt=some (.lst (gh (D.il y++[y]))):=by rw[b_,iK]
 generalize upd (upd (upd H p (.lst (gh (D.il y)))) b (.lst [V.str y])) wt (.lst (gh (D.il y)++[V.str y]))=H3 at s3 Sb
 have x3:=x.same s3
 obtain⟨v1,v2,v3,v4,v5,kv,v6,v7⟩:=x3.vh st hs
 refine⟨_,rfl,wt,rfl,⟨_,gK.of Sb⟩,jE (K:=K) (a:=wt) (xs:=gh (D.il y++[y])) (by rw[U8,Y5];show _+1≤_;omega) (fun i ys σ H4=>∃(v6:Option V)(zs:List Str),σ=[rr d,rs st,rs c,rs y,rr wt,none,v6]∧H4=H3∧ys=gh zs∧zs.length≤i∧zs=((D.il y++[y]).take i).filter fun z=>z∉D.held st)
  ⟨none,[],rfl,rfl,rfl,aab _,rfl⟩ (by rintro _ _ _ _ _ ⟨_,zs,_,e,e2,e3,_⟩;rw[e,e2];exact⟨gK.of Sb,by rw[U8];exact e3⟩) ?_ ?_⟩
 ·rintro i v ys σ H4 hx ⟨ZR,zs,rfl,rfl,rfl,e3,e4⟩
  obtain⟨z,hz,rfl⟩:=jW hx
  refine⟨_,rfl,_,rfl,d,A.gw,π.dx,_,_,rfl,x3.hd,O.gH,O.iH,me _ _ _,_,rfl,π.h,.ref (π.ha st),rfl,?_,π.ha st,_,rfl,iY.k (k:=sk z) v6,_,rfl,?_⟩
  ·have:=iY.k (k:=sk st) x3.hh
   rw[v1] at this
   exact this
  ·rw[kJ v7,take_snoc hz,aaQ]
   by_cases hm:z∈D.held st
   ·rw[XZ hm]
    refine jY ⟨_,_,rfl,rfl,rfl,by omega,?_⟩
    rw[e4,aaj (by simpa using hm),aa2,aaP]
   ·rw[aac hm]
    refine mx ⟨_,rfl,_,_,rfl,rfl,iK _ _,Ph,?_⟩
    rw[e4,aae (by simpa using hm),aa2]
 ·rintro ys σ H4 ⟨ZR,zs,rfl,rfl,rfl,e3,e4⟩ cm SQ
  have e0:(gh (D.il y++[y])).length=(D.il y++[y]).length:=by rw[U8]
  rw[e0,aam] at e4
  have e4:zs=D.lJ st y:=e4
  subst e4
  obtain⟨nc1,nc2⟩:=Ip (s:=st) I hyn
  have PB:=uN nc1 fun t ht=>(nc2 t ht).1
  have s4:=s3.new (o:=.lst (gh (D.lJ st y))) SQ
  have x4:=x.same s4
  have M4:(upd H4 cm (.lst (gh (D.lJ st y)))) cm=some (.lst (gh (D.lJ st y))):=b_
  have ZS:¬W cm:=fun z=>by obtain⟨kv,e⟩:=x4.dk cm z;rw[M4] at e;cases e
  have VQ:=fun H' a b c=>q4 hs hc hy cm H4 H' s3 SQ a b c
  generalize upd H4 cm (.lst (gh (D.lJ st y)))=H5 at s4 x4 M4 VQ
  have VR:¬cm=π.ha st:=fun z=>ZS (by rw[z];exact v2)
  dsimp only [nE];refine LM ?_;intro _
  let Jv:=fun(i:Nat) (σ:St) (H6:Hp)=>∃(v6:Option V),σ=[rr d,rs st,rs c,rs y,rr wt,rr cm,v6]∧E3 A H6 d (vt D st (D.held st++(D.lJ st y).take i)) W π∧ni (fun b=>b=π.ha st) H5 H6
  refine⟨_,rfl,cm,rfl,⟨_,gK.of M4⟩,je (K:=K) (a:=cm) (xs:=gh (D.lJ st y)) Jv
   ⟨none,rfl,by rw[abH,aaP,KD];exact x4,fun b o e _=>e⟩ (by rintro _ _ _ _ ⟨_,_,_,e⟩;exact gK.of (e _ _ M4 VR)) ?_ ?_⟩
  ·rintro i v σ H6 hx ⟨ZR,rfl,x6,e6⟩
   obtain⟨z,hz,rfl⟩:=jW hx
   have hi:i<(D.lJ st y).length:=(Vb.mp hz).1
   obtain⟨w1,w2,w3,w4,w5,kv6,w6,w7⟩:=x6.vh st hs
   have w7:kv6.map (·.1)=(D.held st++(D.lJ st y).take i).map sk:=by
    rw[w7]
    show(if st=st then _ else _:List Str).map sk=_
    rw[aax rfl]
   have Hx:=jO w7
   have hhl:=uN (I.xp st hs) fun t ht=>(I.l8 st hs t ht).1
   rw[Y5,aay] at Hx
   refine⟨_,rfl,d,A.gw,π.dx,_,_,rfl,x6.hd,O.gH,O.iH,me _ _ _,_,rfl,π.h,.ref (π.ha st),rfl,?_,_,rfl,π.ha st,_,rfl,nJ.k (k:=sk z) w6 (by omega),?_⟩
   ·have:=iY.k (k:=sk st) x6.hh
    rw[w1] at this
    exact this
   ·have VS:z∉D.held st++(D.lJ st y).take i:=fun hm=>by
     rcases aaf.mp hm with hm|hm
     ·exact(nc2 z (Yd hz)).2 hm
     ·obtain⟨j,hj⟩:=aaT.mp hm
      have IB:j<i:=by have:=(Vb.mp hj).1;rw[aay] at this;omega
      rw[abK,aax IB] at hj
      have:=(abQ (Vb.mp hj).1 nc1).mp (hj.trans hz.symm)
      omega
    have x7:=x6.vt (l:=D.held st++(D.lJ st y).take (i+1)) (kv:=putK kv6 (sk z) (V.bl true)) hs (by rw[take_snoc hz,←aaZ];exact o6 w7 VS _)
    rw[KC] at x7
    exact⟨_,rfl,x7,fun b o e n=>by rw[e_ n];exact e6 b o e n⟩
  ·rintro σ H6 ⟨ZR,rfl,x6,e6⟩
   rw[U8,aam,←Kz] at x6
   exact⟨_,rfl,VQ H6 (e6 _ _ M4 VR) x6 e6⟩
theorem Oq(T:Txt mg)(O:Ok K mg A):ip P w K mg base (tE P w) 3 A.ug A.uh ["self","store","source","patch"] (Ri A):=
 (Hd T O).imp (by rintro _ _ _ _ ⟨d,D,W,s,c,x,e,⟨π,y⟩,I,jc,f1,f2,f3,q1,q2,q3,q4⟩;exact⟨d,D,W,π,s,c,x,e,y,I,jc,f1,f2,f3,q1,q2,q3,fun hs hc hx p H1 H' s1 oA tq y' x'=>q4 hs hc hx p H1 H' s1 oA tq ⟨π,y'⟩ fun b o e n=>x' b o e fun z=>n (by rw[z];exact(y.vh s hs).2.1)⟩)
def Rj(A:Ad):Sp:=fun vs H Q E=>∃(d:Addr)(D:Dk)(W:Addr→Prop)(s x:Str),vs=[.ref d,.str s,.str x]∧iw A H d D W∧Inv D∧rj D.made.length∧i5 s∧i5 x∧(∀z∈D.names,i5 z)∧
 (s∉D.stores→E (.ref A.gq) none H)∧(s∈D.stores→x∉D.held s→E (.ref A.gr) none H)∧(s∈D.stores→x∈D.held s→¬(∀z∈D.held s,x∉D.iq z)→E (.ref A.gS) none H)∧(s∈D.stores→x∈D.held s→(∀z∈D.held s,x∉D.iq z)→∀H',iw A H' d (D.drop s x) W→ni W H H'→Q .js H')
def Ot(A:Ad):Sp:=fun vs H Q E=>∃(d:Addr)(D:Dk)(W:Addr→Prop)(π:Dp)(s x:Str),vs=[.ref d,.str s,.str x]∧E3 A H d D W π∧Inv D∧rj D.made.length∧i5 s∧i5 x∧(∀z∈D.names,i5 z)∧
 (s∉D.stores→E (.ref A.gq) none H)∧(s∈D.stores→x∉D.held s→E (.ref A.gr) none H)∧(s∈D.stores→x∈D.held s→¬(∀z∈D.held s,x∉D.iq z)→E (.ref A.gS) none H)∧(s∈D.stores→x∈D.held s→(∀z∈D.held s,x∉D.iq z)→∀H',E3 A H' d (D.drop s x) W π→ni (fun b=>b=π.ha s) H H'→Q .js H')
theorem He(T:Txt mg)(O:Ok K mg A):ip P w K mg base (tE P w) 2 A.ui A.uj ["self","store","patch"] (Ot A):=by
 have ik:=@kK P w K mg base A T O
 have kr:=@qA P w K mg base A T O
 refine O.u9.f.rH xA fun jh A0 outer s H vs Q E hr h=>?_
 obtain⟨d,D,W,π,st,y,rfl,x,I,jc,hf,IG,hfz,q1,q2,q3,q5⟩:=h
 have X:iw A H d D W:=⟨π,x⟩
 have AD:D.made.length≤4000:=jc
 have sz:sizeLine=16777216:=aaF
 refine⟨_,(de (ib (CL bx (pv 0) O.gH O.iZ ik hr (a_ (pv 1) d_)))
   (de (ib (CL bx (pv 0) O.gH O.mj kr hr (a_ (pv 1) (a_ (pv 2) d_))))
   (de (AL (iP LF rfl (El (v_ hr (gF (pv 0) rfl) (pv 1))) (vZ 3 xA) (f_ (iz (ji (qp (by exact iO hr) (pv 2) (v_ hr (gF (pv 0) rfl) (pv 3)))) (f_ (L7 (k_ bx O.Jo (by rfl) (mJ (iD (oB (pv 3)) (iD i0 (iD (oB (pv 2)) o9))))))) ia))))
   (f_ (ib (Lv (v_ hr (gF (pv 0) rfl) (pv 1)) (pv 2) ⟨rfl,rfl,rfl,rfl⟩)))))),?_⟩
 refine NP ?_;intro _ _ _
 refine⟨_,rfl,d,π.dx,_,rfl,x.hd,jS,_,rfl,d,D,W,st,rfl,X,hf,fun hs=>?_,fun hs=>q1 hs⟩
 refine⟨_,rfl,d,π.dx,_,rfl,x.hd,qz,_,rfl,_,rfl,d,D,W,st,y,rfl,X,hf,IG,hs,fun hy=>?_,fun hy=>q2 hs hy⟩
 obtain⟨v1,v2,v3,v4,v5,kv,v6,v7⟩:=x.vh st hs
 have hdg:iY H π.h (.str st) (some (.ref (π.ha st))):=by
  have:=iY.k (k:=sk st) x.hh
  rw[v1] at this
  exact this
 refine⟨_,rfl,d,A.gw,π.dx,_,_,rfl,x.hd,O.gH,O.iH,me _ _ _,_,rfl,π.h,.ref (π.ha st),rfl,hdg,π.ha st,kv,rfl,v6,fun o uz=>?_⟩
 have f:∀{b u},H b=some u→b≠π.ha st→upd H (π.ha st) (.oO o (.dK kv)) b=some u:=fun{b u} e n=>by rw[e_ n];exact e
 have SM:d≠π.ha st:=jd x.hd v6 (fun z=>by cases z)
 let Jv:=fun(i:Nat) (σ:St) (H3:Hp)=>∃(v:Option V),σ=[rr d,rs st,rs y,v]∧H3=upd H (π.ha st) (.oO o (.dK kv))∧∀z∈(D.held st).take i,y∉D.iq z
 refine LJ (d:=π.ha st) (o:=o) (kvs:=kv) Jv ⟨none,rfl,rfl,fun z hz=>by rw[abH] at hz;cases hz⟩ (by rintro _ _ _ ⟨_,_,e,_⟩;rw[e];exact b_) ?_ ?_
 ·rintro i k v σ H3 hi ⟨v0,rfl,rfl,KS⟩
  obtain⟨z,hz,rfl⟩:=y8 v7 hi
  have hzh:z∈D.held st:=Yd hz
  have K8:=(I.l8 st hs z hzh).1
  obtain⟨a,ka,la,w1,w2,w3,w4,_,w6⟩:=x.vn z K8
  refine⟨_,rfl,_,rfl,d,A.gw,π.dx,_,_,rfl,f x.hd SM,O.gH,O.jo,vc _ _ _,_,rfl,π.n,.ref a,rfl,?_,a,_,rfl,iY.k (k:=sk y) (f w3 (fun z=>w2 (by rw[z];exact v2))),_,rfl,?_⟩
  ·have:=iY.k (k:=sk z) (f x.hn v4.symm)
   rw[w1] at this
   exact this
  ·rw[kJ w4]
   by_cases Xa:y∈D.iq z
   ·rw[XZ ((w6 y).mpr Xa)]
    refine mx ⟨π.ha st,o,_,b_,uz,?_⟩
    rw[yE v6]
    have WK:=(hfz z K8).1
    exact⟨_,rfl,_,rfl,WK,_,rfl,WK,⟨_,rfl,by decide+kernel,⟨_,rfl,_,rfl,IG.1,_,rfl,IG.1,fun _=>q3 hs hy fun h=>h z hzh Xa⟩⟩⟩
   ·rw[aac (fun h=>Xa ((w6 y).mp h))]
    refine jY ⟨_,rfl,rfl,fun t ht=>?_⟩
    rw[take_snoc hz] at ht
    rcases aaf.mp ht with ht|ht
    ·exact KS t ht
    ·rw[Yc.mp ht];exact Xa
 ·rintro σ H3 ⟨v0,rfl,rfl,Fg⟩
  have Hx:=jO v7
  rw[Hx,aam] at Fg
  have q4:=q5 hs hy Fg
  refine⟨π.ha st,o,_,b_,uz,?_⟩
  rw[yE v6]
  have Fh:∃v,iV kv (sk y)=some v:=by
   have:=kJ v7 y
   rw[XZ hy] at this
   exact Option.isSome_iff_exists.mp this
  obtain⟨vv,hvv⟩:=Fh
  refine⟨_,rfl,d,A.gw,π.dx,_,_,rfl,x.hd,O.gH,O.iH,me _ _ _,_,rfl,π.h,.ref (π.ha st),rfl,hdg,π.ha st,rfl,.inl ⟨_,.inl v6⟩,_,rfl,kv,sk y,vv,v6,rfl,hvv,?_⟩
  refine q4 _ ?_ fun b u e n=>by rw[e_ n];exact e
  rw[KA]
  exact x.vt hs (Io v7)
theorem Ou(T:Txt mg)(O:Ok K mg A):ip P w K mg base (tE P w) 2 A.ui A.uj ["self","store","patch"] (Rj A):=
 (He T O).imp (by rintro _ _ _ _ ⟨d,D,W,s,x,e,⟨π,y⟩,I,jc,f1,f2,f3,q1,q2,q3,q4⟩;exact⟨d,D,W,π,s,x,e,y,I,jc,f1,f2,f3,q1,q2,q3,fun hs hx hz H' y' x'=>q4 hs hx hz H' ⟨π,y'⟩ fun b o e n=>x' b o e fun z=>n (by rw[z];exact(y.vh s hs).2.1)⟩)
theorem B8(l:List Str):Paired (fun(x:Str) (v:V)=>v=.str x) l (gh l):=by
 induction l with
 | nil=>exact .nil
 | cons x r ih=>exact .cons rfl ih
theorem E8{n:Nat}{K:Qqy}{H:Hp}{a c:Addr}{x y:List Str}(h1:gK K H a (gh x))(h2:gK K H c (gh y)):o3 K H (n+1) (.ref a) (.ref c) (decide (x=y)):=
 o3.Jc (F:=fun(x:Str) (v:V)=>v=.str x) (fun p q u v hu hv=>by subst hu hv;exact o3.LB p q) h1 h2 (B8 x) (B8 y)
def Pm(n:Int):Int→List Int→Prop
 | _,[]=>True
 | l,p::r=>(l≤p∧p<n)∧Pm n (p+1) r
def MA(A:Ad):Sp:=fun vs H Q E=>∃(a:Addr)(ps:List Int)(n:Int),vs=[.ref a,.int n]∧H a=some (.lst (ps.map V.int))∧(∀p∈ps,p.natAbs.log2<1920)∧(Pm n 0 ps→Q .js H)∧(¬Pm n 0 ps→E (.ref A.jw) none H)
theorem Ay(T:Txt mg)(O:Ok K mg A):ip P w K mg base (tE P w) 1 A.uc A.ud ["places","size"] (MA A):=by
 refine O.xU.f.rH mi fun jh A0 outer s H vs Q E hr h=>?_
 obtain⟨a,ps,n,rfl,ha,Sd,q,qe⟩:=h
 refine⟨_,(de (lB 2 mi gi)
   (f_ (iP LF rfl (ir (pv 0)) (vZ 3 mi) (de (iz (o7 (FT Lg IV (pv 2) (pv 3) (pv 1))) (f_ (k_ bx O.GW (by rfl) (mJ (iD i0 (iD (LO (pv 3)) (iD i0 o9)))))) ia)
   (f_ (lB 2 mi (gz iQ (pv 3) gi))))))),?_⟩
 refine K4 ?_;intro _
 let Jv:=fun(i:Nat) (σ:St) (H2:Hp)=>∃(l:Int)(v:Option V),σ=[rr a,ri n,ri l,v]∧H2=H∧(Pm n 0 ps↔Pm n l (ps.drop i))
 refine⟨_,rfl,a,rfl,⟨_,gK.of ha⟩,je (K:=K) (a:=a) (xs:=ps.map V.int) Jv ⟨0,none,rfl,rfl,Iff.rfl⟩ (by rintro _ _ _ _ ⟨_,_,_,e,_⟩;rw[e];exact gK.of ha) ?_ ?_⟩
 ·rintro i v σ H2 hx ⟨l,v0,rfl,rfl,e⟩
  rw[aan] at hx
  obtain⟨p,hp,rfl⟩:=aaL.mp hx
  have hi:i<ps.length:=(Vb.mp hp).1
  have hd:ps.drop i=p::ps.drop (i+1):=by rw[aaX hi];congr 1;exact(Vb.mp hp).2
  rw[hd] at e
  have hl:=Sd p (Yd hp)
  refine⟨_,rfl,_,rfl,_,_,rfl,rfl,_,rfl,?_⟩
  refine kU (fun h1=>?_) (fun h1=>?_)
  ·have h1:l≤p:=by simpa using h1
   refine⟨_,rfl,_,_,rfl,rfl,_,rfl,?_⟩
   refine kU (fun h2=>?_) (fun h2=>?_)
   ·have h2:¬p<n:=by simpa using h2
    refine⟨_,rfl,by decide+kernel,⟨_,rfl,_,rfl,hl,_,rfl,?_⟩⟩
    exact⟨aah (PyProof.Rows.int_text_len_1921 hl) (by decide),⟨_,rfl,by decide+kernel,fun _=>qe fun z=>h2 (e.mp z).1.2⟩⟩
   ·have h2:p<n:=by simpa using h2
    refine⟨_,rfl,_,_,rfl,rfl,_,_,rfl,rfl,e.trans ⟨fun z=>z.2,fun z=>⟨⟨h1,h2⟩,z⟩⟩⟩
  ·have h1:¬l≤p:=by simpa using h1
   refine⟨_,rfl,?_⟩
   refine⟨_,rfl,by decide+kernel,⟨_,rfl,_,rfl,hl,_,rfl,?_⟩⟩
   exact⟨aah (PyProof.Rows.int_text_len_1921 hl) (by decide),⟨_,rfl,by decide+kernel,fun _=>qe fun z=>h1 (e.mp z).1.1⟩⟩
 ·rintro σ H2 ⟨l,v0,rfl,rfl,e⟩
  rw[U8,acy] at e
  exact q (e.mpr trivial)
def Uu(A:Ad):Sp:=fun vs H Q E=>∃(d t:Addr)(D:Dk)(W:Addr→Prop)(s x f:Str)(texts:List Str),vs=[.ref d,.str s,.str x,.str f,.ref t]∧iw A H d D W∧Inv D∧Small D.made∧(D.made.flatMap (·.iJ)).length≤1000∧i5 s∧i5 x∧i5 f∧H t=some (.lst (gh texts))∧texts.length≤1000∧
 (s∉D.stores→E (.ref A.gq) none H)∧
 (s∈D.stores→¬(Good x∧Good f)→∀H',gk H H'→E (.ref A.iI) none H')∧
 (s∈D.stores→Good x→Good f→x∈D.names→∀H',gk H H'→E (.ref A.gp) none H')∧
 (s∈D.stores→Good x→Good f→x∉D.names→D.Gz s f≠[]→∀H',gk H H'→E (.ref A.iM) none H')∧
 (s∈D.stores→Good x→Good f→x∉D.names→D.Gz s f=[]→(D.row s f).map (·.tx)=texts→∀H',gk H H'→E (.ref A.lX) none H')∧
 (s∈D.stores→Good x→Good f→x∉D.names→D.Gz s f=[]→(D.row s f).map (·.tx)≠texts→∀H',iw A H' d (D.keep s (oq x f (D.row s f) texts)) W→ni W H H'→Q .js H')
theorem mw{x f:Str}:(∀y∈[x,f],Good y)↔Good x∧Good f:=by
 constructor
 ·exact fun h=>⟨h x (by simp),h f (by simp)⟩
 ·rintro⟨h1,h2⟩ y hy
  rcases aag.mp hy with z|z
  ·rw[z];exact h1
  ·rw[Yc.mp z];exact h2
theorem yd{D:Dk}(I:Inv D){s f x:Str}(hs:s∈D.stores)(texts:List Str):∀y∈iT (oq x f (D.row s f) texts),y∈D.names:=by
 intro y hy
 unfold iT at hy
 rcases aaf.mp hy with hy|hy
 ·obtain⟨m,hm,rfl⟩:=aaO.mp hy
  obtain⟨hm,hn⟩:=aat.mp hm
  have hn:m.1≠x:=aaw hn
  have fin:m∈(D.row s f).map (·.nm)→m.1∈D.names:=fun h=>by
   obtain⟨l,hl,rfl⟩:=aaO.mp h
   obtain⟨p,h1,_,h3⟩:=I.xr hl
   have hp:=(Inv.n6.mp h1).1
   rw[tR (I.Kk p hp) (aai h3)]
   exact aai hp
  rcases aaf.mp hm with hm|hm
  ·obtain⟨l,hl,rfl⟩:=aaO.mp hm
   exact fin (aai (aat.mp hl).1)
  ·obtain⟨l,hl,hm⟩:=abj.mp hm
   have RU:l.up=some m∨l.lo=some m:=by
    rcases aaf.mp hm with hm|hm
    ·exact .inl (by simpa using hm)
    ·exact .inr (by simpa using hm)
   rcases AO texts 0 0 none l hl m RU with(z|⟨t,z⟩)|z
   ·cases z
   ·obtain⟨q,_,_,l',KY,rfl⟩:=Es z
    exact fin (aai (Yd KY))
   ·rw[xo] at z
    obtain⟨j,_,rfl⟩:=aaO.mp z
    exact absurd rfl hn
 ·cases hy
theorem ye{x f:Str}{row:List Ln}{texts:List Str}:(oq x f row texts).iJ.length≤texts.length∧(oq x f row texts).kR.length≤row.length:=by
 have rise:=uY (row.map (·.tx)) texts
 rw[U8] at rise
 have h:=Jl rise x
 refine⟨by show(lI x texts _).length≤_;omega,?_⟩
 show((row.filter _).map _).length≤_
 rw[U8]
 exact aaH _ _
theorem KG(T:Txt mg)(O:Ok K mg A):ip P w K mg base (tE P w) 6 A.vK A.vL ["self","store","patch","file","texts"] (Uu A):=by
 have ik:=@kK P w K mg base A T O
 have kP:=@sx P w K mg base A T O
 have ju:=@qk P w K mg base A T O
 have lZ:=@uK P w K mg base A T O
 have zj:=@yb P w K mg base A T O
 have oz:=@E7 P w K mg base A T O
 refine O.Ag.f.rH pB fun jh A0 outer s H vs Q E hr h=>?_
 obtain⟨d,t,D,W,st,y,f,texts,rfl,X,I,sm,ZT,Cc,IG,Se,ht,RW,q1,q2,q3,q4,q5,q6⟩:=h
 obtain⟨π,x⟩:=id X
 have sz:sizeLine=16777216:=aaF
 have Hw:(D.row st f).length≤1000:=aah (I.xt st f) ZT
 refine⟨_,(de (ib (CL bx (pv 0) O.gH O.iZ ik hr (a_ (pv 1) d_)))
   (de (ib (CL bx (pv 0) O.gH O.m_ kP hr (a_ (pv 2) (a_ (iA (a_ (pv 3) d_)) d_))))
   (de (lB 5 pB (CL bx (pv 0) O.gH O.l_ ju hr (a_ (pv 1) (a_ (pv 3) d_))))
   (de (iz (xf (o8 (pv 5) O.k7 O.j6.t lZ (hr.mono (by decide)) O.j6.b .nil nF) (fun _=>rfl)) (f_ (k_ bx O.Ai (by rfl) (mJ (iD i0 (iD (oB (pv 3)) (iD i0 o9)))))) ia)
   (de (iz (ie (qr 3 (by exact K5 hr)) (xn vG (gc n_).names [6] rfl (ir (gF (pv 5) rfl)) rfl (by decide+kernel) (fun _ _ _ _=>(iy (i:=6) pB.nd rfl (Or.inl rfl))) (fun _ _ _ _=>mI) (fun _ _ _ _=>zx (gF (pv 6) rfl))) (pv 4) (iu _)) (f_ (k_ bx O.Ig (by rfl) (mJ (iD i0 (iD (oB (pv 3)) (iD i0 o9)))))) ia)
   (f_ (ib (zw (pv 0) O.gH O.u_ oz hr (a_ (pv 1) (a_ (pJ O.uA zj hr (a_ (pv 2) (a_ (pv 3) (a_ (gF (pv 5) rfl) (a_ (pv 4) d_))))) d_)))))))))),?_⟩
 refine Sx ?_;intro _ _ _ _ _
 refine⟨_,rfl,d,π.dx,_,rfl,x.hd,jS,_,rfl,d,D,W,st,rfl,X,Cc,fun hs=>?_,fun hs=>q1 hs⟩
 refine⟨_,rfl,d,π.dx,_,rfl,x.hd,su,_,rfl,_,rfl,L2.jc,fun l hl=>?_⟩
 have s1:gk H (upd H l (.lst [V.str f])):=(gk.refl H).new hl
 refine⟨d,l,D,W,y,[f],rfl,X.same s1,b_,by show 1≤1000;decide,fun z hz=>?_,fun h H' s'=>q2 hs (fun g=>h (mw.mpr g)) H' (s1.trans s'),fun h hn H' s'=>q3 hs (mw.mp h).1 (mw.mp h).2 hn H' (s1.trans s'),fun h hn H2 s2=>?_⟩
 ·rcases aag.mp hz with z|z
  ·rw[z];exact IG
  ·rw[Yc.mp z];exact Se
 obtain⟨gy,gf⟩:=mw.mp h
 have Hz:=s1.trans s2
 have X2:=X.same Hz
 refine⟨_,rfl,d,π.dx,_,rfl,Hz _ _ x.hd,qj,_,rfl,_,rfl,d,D,W,st,f,rfl,X2,Cc,sm,I,fun h=>absurd hs h,fun _ p H3 s3 oA sg=>?_⟩
 obtain⟨px,ah,ln,g1,g2,⟨as,g3,g4⟩⟩:=id sg
 have OW:=Hz.trans s3
 have hlen:=aav g4
 refine⟨_,rfl,p,px,_,rfl,g1,Mt ah ln,p,_,_,rfl,sg,My I st f,aah Hw (by decide),fun r H4 vs s4 oZ Cg Hy=>?_⟩
 have Dg:=OW.trans s4
 have PN:=aav Hy
 by_cases hq:D.Gz st f=[]
 case neg=>
  have ZU:vs≠[]:=fun z=>hq (by
   have e:(l6 (Ah (h_ (D.sT st) f)) (D.row st f)).length=0:=by rw[PN,z];rfl
   exact aaV.mp e)
  refine⟨true,.inl ⟨_,gK.of Cg,by simpa using ZU⟩,mx ?_⟩
  exact⟨_,rfl,by decide+kernel,⟨_,rfl,_,rfl,Se.1,_,rfl,Se.1,⟨_,rfl,by decide+kernel,fun _=>q4 hs gy gf hn hq _ Dg⟩⟩⟩
 have ZU:vs=[]:=by
  have e:(l6 (Ah (h_ (D.sT st) f)) (D.row st f)).length=0:=by rw[show l6 (Ah (h_ (D.sT st) f)) (D.row st f)=[] from hq];rfl
  rw[PN] at e
  exact aaV.mp e
 refine⟨false,.inl ⟨_,gK.of Cg,by rw[ZU];rfl⟩,jY ?_⟩
 have g14:=s4 _ _ g1
 have ZV:=s4 _ _ g3
 let Jv:=fun(i:Nat) (ys:List V) (σ:St) (H5:Hp)=>∃(v6:Option V),σ=[rr d,rs st,rs y,rs f,rr t,rr p,v6]∧H5=H4∧ys=gh (((D.row st f).take i).map (·.tx))
 refine⟨_,rfl,p,A.ij,px,_,_,rfl,g14,O.k7,O.iB,mv ah ln,ln,rfl,⟨_,gK.of ZV⟩,jE (K:=K) (a:=ln) (xs:=as.map V.ref) (by rw[U8];omega) Jv
  ⟨none,rfl,rfl,rfl⟩ (by rintro _ _ _ _ _ ⟨_,_,e,e2⟩;rw[e,e2];exact⟨gK.of ZV,by rw[U8,U8,aay];omega⟩) ?_ ?_⟩
 ·rintro i v ys σ H5 hx ⟨v6,rfl,rfl,rfl⟩
  obtain⟨b,hb,rfl⟩:=k9 hx
  obtain⟨l2,Hv,dx,vn,vu,vl,k1,k2,k3,k4⟩:=iC g4 hb
  refine⟨_,rfl,b,A.gQ,dx,_,_,rfl,s4 _ _ k1,O.iN,O.jI,xY,_,rfl,rfl,?_⟩
  rw[take_snoc Hv,aaA,iK]
  rfl
 ·rintro ys σ H5 ⟨v6,rfl,rfl,rfl⟩ o W5
  rw[U8,hlen,aam]
  have s5:=Dg.new (o:=.lst (gh ((D.row st f).map (·.tx)))) W5
  have S5:gk H5 (upd H5 o (.lst (gh ((D.row st f).map (·.tx))))):=(gk.refl H5).new W5
  refine⟨_,rfl,_,⟨o,t,rfl,rfl⟩,E8 (gK.of b_) (gK.of (s5 _ _ ht)),_,rfl,?_⟩
  by_cases he:(D.row st f).map (·.tx)=texts
  ·rw[XZ he]
   refine mx ?_
   exact⟨_,rfl,by decide+kernel,⟨_,rfl,_,rfl,Se.1,_,rfl,Se.1,⟨_,rfl,by decide+kernel,fun _=>q5 hs gy gf hn hq he _ s5⟩⟩⟩
  ·rw[aac he]
   refine jY ?_
   have X5:=X.same s5
   refine⟨_,rfl,d,π.dx,_,rfl,s5 _ _ x.hd,E4,_,rfl,_,rfl,_,rfl,_,rfl,p,A.ij,px,_,_,rfl,S5 _ _ g14,O.k7,O.iB,mv ah ln,_,rfl,y,f,ln,t,D.row st f,texts,rfl,⟨as,S5 _ _ ZV,Paired.lA g4 fun _ _ z=>(z.same s4).same S5⟩,s5 _ _ ht,Hw,RW,fun pa H6 s6 hpa0 ZW=>?_⟩
   have OX:=s5.trans s6
   obtain⟨cl1,cl2⟩:=ye (x:=y) (f:=f) (row:=D.row st f) (texts:=texts)
   refine⟨d,pa,D,W,st,_,rfl,X.same OX,I,sm.many,hs,ZW,hn,aah cl1 (aah RW (by decide)),aah cl2 (aah Hw (by decide)),yd I hs texts,fun H7 X7 s7=>?_⟩
   exact q6 hs gy gf hn hq he H7 X7 fun b o e n=>s7 b o (OX _ _ e) n
def Rl(A:Ad):Sp:=fun vs H Q E=>∃(d:Addr)(D:Dk)(W:Addr→Prop)(s x o:Str),vs=[.ref d,.str s,.str x,.str o]∧iw A H d D W∧Inv D∧rj D.made.length∧i5 s∧i5 x∧i5 o∧
 (s∉D.stores→E (.ref A.gq) none H)∧(s∈D.stores→¬Good x→∀H',gk H H'→E (.ref A.iI) none H')∧(s∈D.stores→Good x→x∈D.names→∀H',gk H H'→E (.ref A.gp) none H')∧
 (s∈D.stores→Good x→x∉D.names→o∉D.held s→∀H',gk H H'→E (.ref A.gr) none H')∧
 (s∈D.stores→Good x→x∉D.names→o∈D.held s→∀H',iw A H' d (D.keep s ⟨x,none,[],[],some o⟩) W→ni W H H'→Q .js H')
theorem B9{x:Str}:(∀y∈[x],Good y)↔Good x:=⟨fun h=>h x (by simp),fun h y hy=>by rw[Yc.mp hy];exact h⟩
theorem Jy(T:Txt mg)(O:Ok K mg A):ip P w K mg base (tE P w) 4 A.zO A.zP ["self","store","patch","other"] (Rl A):=by
 have ik:=@kK P w K mg base A T O
 have kP:=@sx P w K mg base A T O
 have kr:=@qA P w K mg base A T O
 have kO:=@qy P w K mg base A T O
 have oz:=@E7 P w K mg base A T O
 refine O.u0.f.rH EA fun jh A0 outer s H vs Q E hr h=>?_
 obtain⟨d,D,W,st,y,ot,rfl,X,I,jc,Cc,IG,hfo,q1,q2,q3,q4,q5⟩:=h
 obtain⟨π,x⟩:=id X
 refine⟨_,(de (ib (CL bx (pv 0) O.gH O.iZ ik hr (a_ (pv 1) d_)))
   (de (ib (CL bx (pv 0) O.gH O.m_ kP hr (a_ (pv 2) (a_ (iA d_) d_))))
   (de (ib (CL bx (pv 0) O.gH O.mj kr hr (a_ (pv 1) (a_ (pv 3) d_))))
   (f_ (ib (zw (pv 0) O.gH O.u_ oz hr (a_ (pv 1) (a_ (xh O.EL kO (hr.mono (by decide)) (by rfl) O.EM O.mZ.b .nil nF (a_ (pv 2) (a_ tG (a_ (iA d_) (a_ (iA d_) (a_ (pv 3) d_)))))) d_)))))))),?_⟩
 refine NP ?_;intro _ _ _
 refine⟨_,rfl,d,π.dx,_,rfl,x.hd,jS,_,rfl,d,D,W,st,rfl,X,Cc,fun hs=>?_,fun hs=>q1 hs⟩
 refine⟨_,rfl,d,π.dx,_,rfl,x.hd,su,_,rfl,L2.jc,fun l hl=>?_⟩
 have s1:gk H (upd H l (.lst [])):=(gk.refl H).new hl
 refine⟨d,l,D,W,y,[],rfl,X.same s1,b_,by show 0≤1000;decide,fun z hz=>by rw[Yc.mp hz];exact IG,fun h H' s'=>q2 hs (fun g=>h (B9.mpr g)) H' (s1.trans s'),fun h hn H' s'=>q3 hs (B9.mp h) hn H' (s1.trans s'),fun h hn H2 s2=>?_⟩
 have gy:=B9.mp h
 have Hz:=s1.trans s2
 refine⟨_,rfl,d,π.dx,_,rfl,Hz _ _ x.hd,qz,_,rfl,_,rfl,d,D,W,st,ot,rfl,X.same Hz,Cc,hfo,hs,fun ho=>?_,fun ho=>q4 hs gy hn ho _ Hz⟩
 refine⟨_,rfl,d,π.dx,_,rfl,Hz _ _ x.hd,E4,_,rfl,_,rfl,L2.jc,fun a ha=>⟨L2.jc,fun b hb=>⟨_,rfl,?_⟩⟩⟩
 have s3:=Hz.new (o:=.lst []) ha
 have s4:=s3.new (o:=.lst []) hb
 intro o dx no R6 ZC
 refine⟨o,dx,_,_,_,_,_,rfl,b_,fun H5 r6 r7=>⟨rfl,?_⟩⟩
 have s5:gk (upd (upd H2 a (.lst [])) b (.lst [])) H5:=fun c u ec=>by
  rw[r6 c (gn ec no),e_ (gn ec no),e_ (gn ec R6)]
  exact ec
 have II:=s4.trans s5
 have pt:oM A H5 o ⟨y,none,[],[],some ot⟩:=⟨dx,_,a,b,.str ot,r7,rfl,⟨[],s5 _ _ (g_ hb b_),.nil⟩,⟨[],s5 _ _ b_,.nil⟩,rfl⟩
 refine⟨d,o,D,W,st,_,rfl,X.same II,I,jc,hs,pt,hn,aaU _,aaU _,fun z hz=>?_,fun H7 X7 s7=>?_⟩
 ·have:z=ot:=by simpa[iT,named] using hz
  rw[this];exact(I.l8 st hs ot ho).1
 ·exact q5 hs gy hn ho H7 X7 fun b o e n=>s7 b o (II _ _ e) n
def Uv(A:Ad):Sp:=fun vs H Q E=>∃(d t:Addr)(D:Dk)(W:Addr→Prop)(s x f:Str)(ps:List Int),vs=[.ref d,.str s,.str x,.str f,.ref t]∧iw A H d D W∧Inv D∧Small D.made∧i5 s∧i5 x∧i5 f∧H t=some (.lst (ps.map V.int))∧ps.length≤1000∧(∀p∈ps,p.natAbs.log2<1920)∧
 (s∉D.stores→E (.ref A.gq) none H)∧
 (s∈D.stores→¬(Good x∧Good f)→∀H',gk H H'→E (.ref A.iI) none H')∧
 (s∈D.stores→Good x→Good f→x∈D.names→∀H',gk H H'→E (.ref A.gp) none H')∧
 (s∈D.stores→Good x→Good f→x∉D.names→¬Pm (D.row s f).length 0 ps→∀H',gk H H'→E (.ref A.jw) none H')∧
 (s∈D.stores→Good x→Good f→x∉D.names→ps=[]→∀H',gk H H'→E (.ref A.lX) none H')∧
 (s∈D.stores→Good x→Good f→x∉D.names→Pm (D.row s f).length 0 ps→ps≠[]→∀H',iw A H' d (D.keep s ⟨x,some f,[],ps.filterMap fun p=>((D.row s f)[p.toNat]?).map (·.nm),none⟩) W→ni W H H'→Q .js H')
theorem Jz{n:Int}:∀{l:Int} {ps:List Int},0≤l→Pm n l ps→∀p∈ps,0≤p∧p<n
 | _,[],_,_,p,hp=>by cases hp
 | l,q::r,h0,h,p,hp=>by
  obtain⟨⟨h1,h2⟩,h3⟩:=h
  rcases aag.mp hp with rfl|hp
  ·exact⟨by omega,h2⟩
  ·exact Jz (by omega) h3 p hp
theorem Rm(T:Txt mg)(O:Ok K mg A):ip P w K mg base (tE P w) 6 A.BP A.BQ ["self","store","patch","file","places"] (Uv A):=by
 have ik:=@kK P w K mg base A T O
 have kP:=@sx P w K mg base A T O
 have ju:=@qk P w K mg base A T O
 have Ci:=@Ay P w K mg base A T O
 have kO:=@qy P w K mg base A T O
 have oz:=@E7 P w K mg base A T O
 refine O.GU.f.rH t9 fun jh A0 outer s H vs Q E hr h=>?_
 obtain⟨d,t,D,W,st,y,f,ps,rfl,X,I,sm,Cc,IG,Se,ht,RW,Sd,q1,q2,q3,q4,q5,q6⟩:=h
 obtain⟨π,x⟩:=id X
 have sz:sizeLine=16777216:=aaF
 have Hw:(D.row st f).length≤4000:=aah (I.xt st f) sm.iJ
 refine⟨_,(de (ib (CL bx (pv 0) O.gH O.iZ ik hr (a_ (pv 1) d_)))
   (de (ib (CL bx (pv 0) O.gH O.m_ kP hr (a_ (pv 2) (a_ (iA (a_ (pv 3) d_)) d_))))
   (de (mD (i:=5) t9.nd rfl (Or.inr rfl) (gF (CL bx (pv 0) O.gH O.l_ ju hr (a_ (pv 1) (a_ (pv 3) d_))) rfl))
   (de (ib (Ya bx O.xU Ci hr (a_ (pv 4) (a_ (gJ gD (by rfl) T.jX aaE (a_ (pv 5) d_)) d_))))
   (de (iz (o7 (xf (pv 4) (fun _=>rfl))) (f_ (k_ bx O.Ig (by rfl) i0)) ia)
   (f_ (ib (zw (pv 0) O.gH O.u_ oz hr (a_ (pv 1) (a_ (xh O.EL kO (hr.mono (by decide)) (by rfl) O.EM O.mZ.b .nil nF (a_ (pv 2) (a_ (pv 3) (a_ (iA d_) (a_ (xn BH (gc rS).names [6] rfl (ir (pv 4)) rfl (by decide+kernel) (fun _ _ _ _=>(iy (i:=6) t9.nd rfl (Or.inl rfl))) (fun _ _ _ _=>mI) (fun _ _ _ _=>zx (gF (uX (pv 5) (pv 6)) rfl))) (a_ tG d_)))))) d_)))))))))),?_⟩
 refine Sx ?_;intro _ _ _ _ _
 refine⟨_,rfl,d,π.dx,_,rfl,x.hd,jS,_,rfl,d,D,W,st,rfl,X,Cc,fun hs=>?_,fun hs=>q1 hs⟩
 refine⟨_,rfl,d,π.dx,_,rfl,x.hd,su,_,rfl,_,rfl,L2.jc,fun l hl=>?_⟩
 have s1:gk H (upd H l (.lst [V.str f])):=(gk.refl H).new hl
 refine⟨d,l,D,W,y,[f],rfl,X.same s1,b_,by show 1≤1000;decide,fun z hz=>?_,fun h H' s'=>q2 hs (fun g=>h (mw.mpr g)) H' (s1.trans s'),fun h hn H' s'=>q3 hs (mw.mp h).1 (mw.mp h).2 hn H' (s1.trans s'),fun h hn H2 s2=>?_⟩
 ·rcases aag.mp hz with z|z
  ·rw[z];exact IG
  ·rw[Yc.mp z];exact Se
 obtain⟨gy,gf⟩:=mw.mp h
 have Hz:=s1.trans s2
 have X2:=X.same Hz
 refine⟨_,rfl,d,π.dx,_,rfl,Hz _ _ x.hd,qj,_,rfl,_,rfl,d,D,W,st,f,rfl,X2,Cc,sm,I,fun h=>absurd hs h,fun _ p H3 s3 oA ⟨px,ah,ln,g1,g2,⟨as,g3,g4⟩⟩=>?_⟩
 have OW:=Hz.trans s3
 have hlen:=aav g4
 have el:((as.map V.ref).length:Int)=((D.row st f).length:Int):=by rw[U8,hlen]
 refine⟨p,A.ij,px,_,_,rfl,g1,O.k7,O.iB,mv ah ln,?_⟩
 refine⟨_,rfl,_,rfl,ln,_,rfl,.inl (gK.of g3),?_⟩
 rw[el]
 refine⟨t,ps,_,rfl,OW _ _ ht,Sd,fun ok=>?_,fun nok=>q4 hs gy gf hn nok _ OW⟩
 by_cases Xb:ps=[]
 ·refine⟨_,rfl,false,.inl ⟨_,gK.of (OW _ _ ht),by rw[Xb];rfl⟩,?_⟩
  exact q5 hs gy gf hn Xb _ OW
 ·refine⟨_,rfl,true,.inl ⟨_,gK.of (OW _ _ ht),by simpa using Xb⟩,?_⟩
  refine jY ?_
  refine⟨_,rfl,d,π.dx,_,rfl,OW _ _ x.hd,E4,_,rfl,_,rfl,_,rfl,L2.jc,fun a ha=>?_⟩
  have s4:=OW.new (o:=.lst []) ha
  have Sf:gk H3 (upd H3 a (.lst [])):=(gk.refl H3).new ha
  have W9:(upd H3 a (.lst [])) a=some (.lst []):=b_
  generalize upd H3 a (.lst [])=H4 at s4 Sf W9
  let Jv:=fun(i:Nat) (ys:List V) (σ:St) (H5:Hp)=>∃(v6:Option V),σ=[rr d,rs st,rs y,rs f,rr t,rr ln,v6]∧H5=H4∧ys.length≤i∧Paired (lr H3) ys ((ps.take i).filterMap fun p=>((D.row st f)[p.toNat]?).map (·.nm))
  refine⟨_,rfl,t,rfl,⟨_,gK.of (s4 _ _ ht)⟩,jE (K:=K) (a:=t) (xs:=ps.map V.int) (by rw[U8];omega) Jv
   ⟨none,rfl,rfl,aab _,.nil⟩ (by rintro _ _ _ _ _ ⟨_,_,e,e2,_⟩;rw[e];exact⟨gK.of (s4 _ _ ht),e2⟩) ?_ ?_⟩
  ·rintro i v ys σ H5 hx ⟨v6,rfl,rfl,e2,e3⟩
   rw[aan] at hx
   obtain⟨pl,ql,rfl⟩:=aaL.mp hx
   obtain⟨b1,b2⟩:=Jz (by decide) ok pl (Yd ql)
   have my:pl.toNat<(D.row st f).length:=by omega
   have Hj:(D.row st f)[pl.toNat]?=some (D.row st f)[pl.toNat]:=Y0 my
   obtain⟨b,hb,dx,vn,vu,vl,k1,⟨nt,rfl,k2⟩,k3,k4⟩:=B4 g4 Hj
   refine⟨_,rfl,_,rfl,ln,_,_,_,rfl,rfl,gK.of (Sf _ _ g3),iE (j:=pl.toNat) (by omega) hb,b,A.gQ,dx,_,_,rfl,Sf _ _ k1,O.iN,O.gT,ja,?_⟩
   refine⟨_,rfl,rfl,Ph,?_⟩
   rw[take_snoc ql,abZ,abC,Hj]
   exact ix e3 ⟨nt,rfl,k2⟩
  ·rintro ys σ H5 ⟨v6,rfl,rfl,e2,e3⟩ c hc
   rw[U8,aam] at e3
   have s5:=s4.new (o:=.lst ys) hc
   intro o dx no R6 ZC
   refine⟨o,dx,_,_,_,_,_,rfl,b_,fun H6 r6 r7=>⟨rfl,?_⟩⟩
   have s6:gk (upd H5 c (.lst ys)) H6:=fun b u ec=>by
    rw[r6 b (gn ec no),e_ (gn ec no),e_ (gn ec R6)]
    exact ec
   have OX:=s5.trans s6
   have s36:gk H3 H6:=(Sf.new hc).trans s6
   have pt:oM A H6 o ⟨y,some f,[],ps.filterMap fun p=>((D.row st f)[p.toNat]?).map (·.nm),none⟩:=⟨dx,_,a,c,.js,r7,rfl,⟨[],s6 _ _ (g_ hc W9),.nil⟩,⟨ys,s6 _ _ b_,Paired.lA e3 fun _ _ z=>z.same s36⟩,rfl⟩
   have PB:(ps.filterMap fun p=>((D.row st f)[p.toNat]?).map (·.nm)).length≤4000:=aah (List.length_filterMap_le _ _) (by omega)
   refine⟨d,o,D,W,st,_,rfl,X.same OX,I,sm.many,hs,pt,hn,aaU _,PB,fun z hz=>?_,fun H7 X7 s7=>q6 hs gy gf hn ok Xb H7 X7 fun b o e n=>s7 b o (OX _ _ e) n⟩
   unfold iT at hz
   rcases aaf.mp hz with hz|hz
   ·obtain⟨m,hm,rfl⟩:=aaO.mp hz
    have hm:=(aat.mp hm).1
    have hm:m∈(ps.filterMap fun p=>((D.row st f)[p.toNat]?).map (·.nm)):=by simpa[named] using hm
    obtain⟨pl,_,ql⟩:=acd.mp hm
    obtain⟨l',KY,rfl⟩:=aaL.mp ql
    obtain⟨q,h1,_,h3⟩:=I.xr (Yd KY)
    have hq:=(Inv.n6.mp h1).1
    rw[tR (I.Kk q hq) (aai h3)]
    exact aai hq
   ·cases hz
noncomputable def cellAt(ns:List Int)(k:Int):Int:=(ns[k.toNat]?).getD 0
noncomputable def E9(i:Int):Str:=⟨#[(nH.cps[(i%36).toNat]?).getD 0]⟩
noncomputable def lO(cell k:Int):Nat→Str
 | 0=>Str.ofString ""
 | j+1=>lO cell k j++(if(j:Int)=cell/12%(1+cell%12) then E9 (k+cell/144) else E9 (cell/144+5*(j:Int)+cell/5184%2*k*7))
noncomputable def nameOf(cell k:Int):Str:=lO cell k (1+cell%12).toNat
theorem E_:nH.length=36:=by decide+kernel
theorem MB:nH.cps.size=36:=E_
theorem Fb(a b:Str):(a++b).cps.toList=a.cps.toList++b.cps.toList:=Array.toList_append
theorem JA(a b:Str):(a++b).length=a.length+b.length:=Array.size_append
theorem AV(i:Int):∃c,HJ nH.cps.toList (i%36)=some c∧E9 i=⟨#[c]⟩∧c∈nH.cps.toList:=by
 have b:=mod_lt i 36 (by decide)
 obtain⟨c,e,ev⟩:=tP (xs:=nH.cps.toList) b.1 (by rw[abg,MB];exact b.2)
 rw[abe] at ev
 exact⟨c,e,by unfold E9;rw[ev];rfl,Yd (i:=(i%36).toNat) (by rw[abe];exact ev)⟩
theorem AW(cell k:Int):∀j,(lO cell k j).length=j∧∀c∈(lO cell k j).cps.toList,c∈nH.cps.toList
 | 0=>⟨by unfold lO;decide+kernel,fun c hc=>by
   have:(lO cell k 0).cps.toList=[]:=by unfold lO;decide+kernel
   rw[this] at hc;cases hc⟩
 | j+1=>by
  have ⟨h1,h2⟩:=AW cell k j
  unfold lO
  obtain⟨c1,_,e1,m1⟩:=AV (k+cell/144)
  obtain⟨c2,_,e2,m2⟩:=AV (cell/144+5*(j:Int)+cell/5184%2*k*7)
  split
  ·rw[e1,JA,Fb]
   refine⟨by rw[h1];rfl,fun c hc=>?_⟩
   rcases aaf.mp hc with hc|hc
   ·exact h2 c hc
   ·rw[Yc.mp hc];exact m1
  ·rw[e2,JA,Fb]
   refine⟨by rw[h1];rfl,fun c hc=>?_⟩
   rcases aaf.mp hc with hc|hc
   ·exact h2 c hc
   ·rw[Yc.mp hc];exact m2
theorem rf(cell k:Int):Good (nameOf cell k):=by
 obtain⟨h1,h2⟩:=AW cell k (1+cell%12).toNat
 have b:=mod_lt cell 12 (by decide)
 exact⟨by unfold nameOf;rw[h1];omega,by unfold nameOf;rw[h1];omega,h2⟩
theorem JB{x:Str}(h:x.length≤1000)(hc:∀c∈x.cps.toList,c<1114112):i5 x:=by
 refine⟨?_,h⟩
 have z:=PySem.StrLaws.reprText_len x fun c D1=>Nat.lt_trans (hc c D1) (by decide)
 omega
theorem MC:∀c∈nH.cps.toList,c<1114112:=by decide+kernel
theorem Good.yf{x:Str}(g:Good x):i5 x:=JB (by have:=g.2.1;omega) fun c hc=>MC c (g.2.2 c hc)
noncomputable def JC(i:Int):Nat:=(nH.cps[(i%36).toNat]?).getD 0
theorem KH{i j:Int}(h:JC i=JC j):i%36=j%36:=by
 have key:∀a<36,∀b<36,(nH.cps[a]?).getD 0=(nH.cps[b]?).getD 0→a=b:=by decide+kernel
 have b1:=mod_lt i 36 (by decide)
 have b2:=mod_lt j 36 (by decide)
 have:=key (i%36).toNat (by omega) (j%36).toNat (by omega) h
 omega
theorem Fc(cell k:Int):∀n j,j<n→(lO cell k n).cps.toList[j]?=some (if(j:Int)=cell/12%(1+cell%12) then JC (k+cell/144) else JC (cell/144+5*(j:Int)+cell/5184%2*k*7))
 | 0,j,h=>by omega
 | n+1,j,h=>by
  have hl:(lO cell k n).cps.toList.length=n:=by rw[abg];exact(AW cell k n).1
  rw[lO,Fb]
  by_cases e:j=n
  ·subst e
   rw[abl (by omega),hl,Nat.sub_self]
   split<;>rfl
  ·rw[ab0 (by omega)]
   exact Fc cell k n j (by omega)
theorem Hf{c i j:Int}(h0:0≤i)(h1:i<36)(h2:0≤j)(h3:j<36)(h:nameOf c i=nameOf c j):i=j:=by
 have b:=mod_lt c 12 (by decide)
 have b2:=mod_lt (c/12) (1+c%12) (by omega)
 have e1:=Fc c i (1+c%12).toNat (c/12%(1+c%12)).toNat (by omega)
 have e2:=Fc c j (1+c%12).toNat (c/12%(1+c%12)).toNat (by omega)
 have h:lO c i (1+c%12).toNat=lO c j (1+c%12).toNat:=h
 rw[h] at e1
 rw[e1] at e2
 rw[aax (by omega),aax (by omega)] at e2
 have:=KH (aaJ e2)
 omega
def Rn(K:Qqy):Sp:=fun vs H Q _=>∃(a:Addr)(ns:List Int)(k:Int),vs=[.ref a,.int k]∧gK K H a (ns.map V.int)∧0≤k∧Q (.int (cellAt ns k)) H
theorem JD(T:Txt mg)(O:Ok K mg A):ip P w K mg base nu 1 A.uk A.um ["script","k"] (Rn K):=by
 refine O.jH.f.rh Av fun jh A outer s H vs Q E hr h=>?_
 obtain⟨a,ns,k,rfl,ha,h0,q⟩:=h
 refine⟨_,(de (iz (ie IV (pv 1) (gJ gD (by rfl) T.jX aaE (a_ (pv 0) d_)) (iu _)) (f_ (gP (uX (pv 0) (pv 1)))) ia)
   (f_ (gP gi))),?_⟩
 refine K4 ?_;intro _
 refine⟨_,rfl,_,rfl,a,_,rfl,.inl ha,_,_,rfl,rfl,_,rfl,?_⟩
 refine kU (fun hc=>?_) (fun hc=>?_)
 ·have hc:k<((ns.map V.int).length:Int):=aaw hc
  obtain⟨v,e,ev⟩:=tP h0 hc
  rw[aan] at ev
  cases en:ns[k.toNat]? with
  | none=>rw[en] at ev;cases ev
  | some z=>
   rw[en] at ev
   cases ev
   unfold cellAt at q
   rw[en] at q
   exact⟨_,rfl,_,rfl,a,_,_,_,rfl,rfl,ha,e,q⟩
 ·have hc:¬k<((ns.map V.int).length:Int):=by simpa using hc
  unfold cellAt at q
  rw[U8] at hc
  rw[List.getElem?_eq_none (by omega)] at q
  exact q
def Ro:Sp:=fun vs H Q _=>∃(c k:Int),vs=[.int c,.int k]∧Q (.str (nameOf c k)) H
theorem Ov(T:Txt mg)(O:Ok K mg A):ip P w K mg base nu 1 A.zW A.zX ["cell","k"] Ro:=by
 refine O.va.f.rh jF fun jh A outer s H vs Q E hr h=>?_
 obtain⟨c,k,rfl,q⟩:=h
 refine⟨_,(de (lB 2 jF i0)
   (de (lB 3 jF (gz iQ gi (gz iR (pv 0) gi)))
   (de (lB 4 jF (gz jV (pv 0) gi))
   (de (lB 5 jF (gz tI (gz tI (gz iR (gz jV (pv 0) gi) gi) (pv 1)) gi))
   (de (lB 6 jF i0)
   (de (iP aaG rfl (lu rfl T.mX (a_ (pv 3) d_)) (vZ 7 jF) (f_ (iz (ie mE (pv 7) (gz iR (gz jV (pv 0) gi) (pv 3)) (iu _)) (f_ (lB 6 jF (gz A6 (pv 6) (l0 HK (pv 2) (gz iR (gz iQ (pv 1) (pv 4)) gi) (fun _ _=>rfl))))) (f_ (lB 6 jF (gz A6 (pv 6) (l0 HK (pv 2) (gz iR (gz iQ (gz iQ (pv 4) (gz tI gi (pv 7))) (pv 5)) gi) (fun _ _=>rfl))))))))
   (f_ (gP (pv 6))))))))),?_⟩
 refine X8 ?_;intro _ _ _ _ _ _
 have b:=mod_lt c 12 (by decide)
 have b2:=mod_lt (c/5184) 2 (by decide)
 refine⟨_,rfl,_,_,rfl,rfl,(by show(0:Int)<12;decide),_,_,rfl,rfl,?_⟩
 refine⟨_,rfl,_,_,rfl,rfl,⟨by decide,by decide⟩,?_⟩
 refine⟨_,rfl,_,_,rfl,rfl,⟨by decide,by decide⟩,_,_,rfl,rfl,(by show(0:Int)<2;decide),_,rfl,_,_,rfl,rfl,.inl ⟨by omega,by omega⟩,_,_,rfl,rfl,.inr ⟨by decide,by decide⟩,?_⟩
 refine⟨_,rfl,_,rfl,by omega,by omega,?_⟩
 let Jv:=fun(j:Nat) (σ:St) (H2:Hp)=>∃v,σ=[ri c,ri k,rs nH,ri (1+c%12),ri (c/144),ri (c/5184%2*k*7),rs (lO c k j),v]∧H2=H
 refine nI Jv ⟨none,rfl,rfl⟩ ?_ ?_
 ·rintro j σ H2 hj ⟨v,rfl,rfl⟩
  have hlen:=(AW c k j).1
  have hz:(lO c k j).length+1≤sizeLine:=aah (m:=13) (by omega) (by decide)
  refine⟨_,rfl,_,rfl,_,_,rfl,rfl,⟨by decide,by decide⟩,_,rfl,_,_,rfl,rfl,(by show(0:Int)<1+c%12;omega),rfl,_,rfl,?_⟩
  refine kU (fun hc=>?_) (fun hc=>?_)
  ·have hc:(0:Int)+(j:Int)=c/12%(1+c%12):=V.int.inj (aaw hc)
   obtain⟨cp,e,es,_⟩:=AV (k+c/144)
   refine⟨_,rfl,_,rfl,_,rfl,_,rfl,_,_,rfl,rfl,_,_,rfl,rfl,(by show(0:Int)<36;decide),_,_,cp,rfl,rfl,by rw[E_];decide,e,_,_,rfl,rfl,hz,some (.int (0+(j:Int))),?_,rfl⟩
   rw[lO,aax (by omega),es]
   rfl
  ·have hc:¬(0:Int)+(j:Int)=c/12%(1+c%12):=fun z=>hc (XZ (abb V.int z))
   obtain⟨cp,e,es,_⟩:=AV (c/144+5*(j:Int)+c/5184%2*k*7)
   refine⟨_,rfl,_,rfl,_,rfl,_,rfl,_,_,rfl,rfl,.inl ⟨by decide,by decide⟩,_,_,rfl,rfl,_,rfl,_,_,rfl,rfl,_,_,rfl,rfl,(by show(0:Int)<36;decide),_,_,cp,rfl,rfl,by rw[E_];decide,by rw[Int.zero_add];exact e,_,_,rfl,rfl,hz,some (.int (0+(j:Int))),?_,rfl⟩
   rw[lO,aau (by omega),es]
   rfl
 ·rintro σ H2 ⟨v,rfl,rfl⟩
  refine⟨_,rfl,?_⟩
  have:(1+c%12-0).toNat=(1+c%12).toNat:=by rw[Int.sub_zero]
  exact q
def Rp:Sp:=fun vs H Q _=>∃(c k b:Int),vs=[.int c,.int k,.int b]∧0<b∧0≤k∧k≤1000∧∀x,0≤x→x<b→Q (.int x) H
theorem Ow(T:Txt mg)(O:Ok K mg A):ip P w K mg base nu 1 A.zU A.zV ["cell","k","bound"] Rp:=by
 refine O.DO.f.rh sd fun jh A outer s H vs Q E hr h=>?_
 obtain⟨c,k,b,rfl,hb,S3,VJ,q⟩:=h
 refine⟨_,(de (lB 3 sd (gz iR (gz tI (gz iQ (gz iQ (gz iR (pv 0) gi) (gz tI gi (pv 1))) gi) gi) gi))
  (de (lB 3 sd (gz iR (gz tI (gz iQ (pv 3) (gz tI gi (gz iQ (pv 1) gi))) gi) gi))
  (f_ (gP (gz iR (gz jV (pv 3) gi) (pv 2)))))),?_⟩
 refine Ei ?_;intro _ _
 refine⟨_,rfl,_,_,rfl,rfl,(by show(0:Int)<2147483647;decide),_,rfl,_,_,rfl,rfl,.inl ⟨by decide,by decide⟩,_,_,rfl,rfl,_,_,rfl,rfl,_,_,rfl,rfl,.inr ⟨by decide,by decide⟩,_,_,rfl,rfl,(by show(0:Int)<2147483647;decide),?_⟩
 refine⟨_,rfl,_,rfl,_,_,rfl,rfl,_,_,rfl,rfl,.inl ⟨by decide,by decide⟩,_,_,rfl,rfl,_,_,rfl,rfl,.inr ⟨by decide,by decide⟩,_,_,rfl,rfl,(by show(0:Int)<2147483629;decide),?_⟩
 exact⟨_,rfl,_,_,rfl,rfl,⟨by decide,by decide⟩,_,rfl,_,_,rfl,rfl,hb,q _ (mod_lt _ b hb).1 (mod_lt _ b hb).2⟩
def y_:Str:=Str.ofString " !#$&()*+,-./0123456789:;<=>?@ABCDEFGHIJKLMNOPQRSTUVWXYZ[]^_abcdefghijklmnopqrstuvwxyz{|}~"
theorem vd:y_.length=90:=by decide+kernel
def Rq:Sp:=fun vs H Q _=>∃(c:Int),vs=[.int c]∧∀x H',gk H H'→Q (.str x) H'
theorem Hg:∀(xs:List Str),(∀x∈xs,x.length=1)→(xs.map (·.length)).sum=xs.length
 | [],_=>rfl
 | x::r,h=>by
  rw[aaB,List.sum_cons,h x aaz,Hg r fun y hy=>h y (aap _ hy),aal]
  omega
theorem Ox(T:Txt mg)(O:Ok K mg A):ip P w K mg base nu 1 A.zY A.zZ ["cell"] Rq:=by
 refine O.yY.f.rh mU fun jh A outer s H vs Q E hr h=>?_
 obtain⟨c,rfl,q⟩:=h
 refine⟨_,(de (mD (i:=1) mU.nd rfl (Or.inr rfl) i0)
   (de (iz (ie mE (gz iR (pv 0) gi) gi (iu _)) (f_ (gP (uX (iA (a_ i0 (a_ i0 (a_ i0 (a_ i0 d_))))) (gz iR (gz jV (pv 0) gi) gi)))) ia)
   (de (lB 2 mU (gz iR (gz jV (pv 0) gi) gi))
   (de (tO (iz (ie mE (gz iR (gz jV (pv 0) gi) gi) gi (iu _)) (f_ (lB 2 mU gi)) ia))
   (f_ (gP (qH PySem.F.plainAttrs_str PySem.F.slot_str_join PySem.F.type_str_join NN i0 (a_ (xn zF (gc pY).names [3] rfl (lu rfl T.mX (a_ (pv 2) d_)) rfl (by decide+kernel) (fun _ _ _ _=>(iy (i:=3) mU.nd rfl (Or.inl rfl))) (fun _ _ _ _=>mI) (fun _ _ _ _=>zx (l0 HK (pv 1) (gz iR (gz iQ (gz jV (pv 0) gi) (gz tI gi (pv 3))) (gJ xl (by rfl) T.jX aaE (a_ (pv 1) d_))) (fun _ _=>rfl)))) d_)))))))),?_⟩
 refine Sw ?_;intro _ _ _ _
 refine⟨_,rfl,_,_,rfl,rfl,(by show(0:Int)<3;decide),rfl,_,rfl,?_⟩
 refine kU (fun _=>?_) (fun _=>?_)
 ·refine⟨jc,fun l hl=>?_⟩
  refine⟨_,rfl,_,_,rfl,rfl,⟨by decide,by decide⟩,_,_,rfl,rfl,(by show(0:Int)<4;decide),?_⟩
  have b:=mod_lt (c/3) 4 (by decide)
  obtain⟨v,e,ev⟩:=tP (xs:=[V.str (Str.ofString "a"),V.str (Str.ofString "b"),V.str (Str.ofString ""),V.str (Str.ofString " ")]) b.1 (by simpa using b.2)
  refine⟨l,_,_,v,rfl,rfl,gK.of b_,e,?_⟩
  have hv:∃x,v=V.str x:=by
   have hm:=Yd ev
   simp at hm
   rcases hm with rfl|rfl|rfl|rfl<;>exact⟨_,rfl⟩
  obtain⟨x,rfl⟩:=hv
  exact q x _ ((gk.refl H).new hl)
 ·refine⟨_,rfl,_,_,rfl,rfl,⟨by decide,by decide⟩,_,_,rfl,rfl,(by show(0:Int)<5;decide),?_⟩
  have b:=mod_lt (c/3) 5 (by decide)
  refine⟨fun σ H2=>∃(z:Int)(v:Option V),σ=[ri c,rs y_,ri z,v]∧H2=H∧0≤z∧z≤80,?_,?_⟩
  ·refine⟨_,rfl,_,_,rfl,rfl,⟨by decide,by decide⟩,_,_,rfl,rfl,(by show(0:Int)<9;decide),rfl,_,rfl,?_⟩
   refine kU (fun _=>?_) (fun _=>?_)
   ·exact⟨80,_,rfl,rfl,by decide,by decide⟩
   ·exact⟨_,_,rfl,rfl,b.1,by omega⟩
  ·rintro σ H2 ⟨z,v,rfl,rfl,z0,z1⟩
   refine⟨rfl,_,rfl,_,rfl,by omega,by omega,?_⟩
   let Jv:=fun(m:Nat) (ys:List V) (σ:St) (H3:Hp)=>∃(v:Option V)(xs:List Str),σ=[ri c,rs y_,ri z,v]∧H3=H2∧ys=gh xs∧xs.length=m∧∀x∈xs,x.length=1
   refine tN (by have:sizeLine=2 ^ 24:=rfl;omega) Jv
    ⟨none,[],rfl,rfl,rfl,rfl,fun x hx=>nomatch hx⟩ (by rintro _ _ _ _ ⟨_,xs,_,_,e,e2,_⟩;rw[e,U8];omega) ?_ ?_
   ·rintro m ys σ H3 hm ⟨v,xs,rfl,rfl,rfl,hx,h1⟩
    refine⟨_,rfl,_,rfl,_,_,rfl,rfl,⟨by decide,by decide⟩,_,rfl,_,_,rfl,rfl,.inl ⟨by decide,by decide⟩,_,_,rfl,rfl,_,rfl,_,rfl,by rw[vd];decide,_,_,rfl,rfl,(by show(0:Int)<(y_.length:Int);rw[vd];decide),?_⟩
    have b:=mod_lt (c/45+7*(0+(m:Int))) (y_.length:Int) (by rw[vd];decide)
    obtain⟨cp,e,_⟩:=tP (xs:=y_.cps.toList) b.1 (by rw[abg];exact b.2)
    refine⟨_,_,cp,rfl,rfl,by rw[vd];decide,e,?_⟩
    refine⟨_,xs++[⟨#[cp]⟩],rfl,rfl,iK _ _,by rw[Y5,hx];rfl,fun x K1=>?_⟩
    rcases aaf.mp K1 with K1|K1
    ·exact h1 x K1
    ·rw[Yc.mp K1];rfl
   ·rintro ys σ H3 ⟨v,xs,rfl,rfl,rfl,hx,h1⟩ p hp
    refine⟨_,p,xs,rfl,rfl,gK.of b_,?_,?_⟩
    ·rw[Hg xs h1]
     have:(Str.ofString "").length=0:=by decide+kernel
     rw[this]
     omega
    ·exact q _ _ ((gk.refl H3).new hp)
theorem yg(l:List Str)(k:Nat):xi (gh l) none (some (k:Int))=gh (l.take k):=by
 unfold xi
 rw[HT.FZ,HT.IY,Nat.sub_zero,List.drop_zero]
 unfold gh
 rw[U8,←List.map_take]
 congr 1
 by_cases h:k≤l.length
 ·rw[Nat.min_eq_left h]
 ·rw[Nat.min_eq_right (by omega),List.take_of_length_le (aab _),List.take_of_length_le (by omega)]
theorem Hh(l:List Str)(k:Nat):xi (gh l) (some (k:Int)) none=gh (l.drop k):=by
 unfold xi
 rw[HT.FZ,HT.IY,List.take_of_length_le (by rw[List.length_drop];exact aab _)]
 unfold gh
 rw[U8,←List.map_drop]
 congr 1
 by_cases h:k≤l.length
 ·rw[Nat.min_eq_left h]
 ·rw[Nat.min_eq_right (by omega),List.drop_of_length_le (aab _),List.drop_of_length_le (by omega)]
theorem za(l:List Str){z:Int}{k:Nat}(h:z=(k:Int)):xi (gh l) (some z) none=gh (l.drop k):=by rw[h,Hh]
structure Iq(ts Nl:List Str):Prop where
 ne:ts≠Nl
 len:Nl.length≤ts.length+3
 near:Nl.length≤K01.lcs ts Nl+3
theorem B_{x y s:List Str}(h1:s.Sublist x)(h2:s.Sublist y):s.length≤K01.lcs x y:=(K01.kX x y).1 s h1 h2
theorem Fd{ts Nl:List Str}(h:ts.length≠Nl.length):ts≠Nl:=fun z=>h (abb List.length z)
theorem KI(ts:List Str)(k:Nat)(x:Str):Iq ts (ts.take k++[x]++ts.drop k):=by
 have hl:(ts.take k++[x]++ts.drop k).length=ts.length+1:=by simp;omega
 have hs:ts.Sublist (ts.take k++[x]++ts.drop k):=by
  conv=>lhs;rw[←abw k ts]
  rw[aaZ]
  exact(aaM _).append (aa_ _ _)
 have:=B_ (aaM ts) hs
 exact⟨Fd (by omega),by omega,by omega⟩
theorem MD(ts:List Str)(k:Nat)(h:k<ts.length):Iq ts (ts.take k++ts.drop (k+1)):=by
 have hl:(ts.take k++ts.drop (k+1)).length=ts.length-1:=by simp;omega
 have hs:(ts.take k++ts.drop (k+1)).Sublist ts:=by
  conv=>rhs;rw[←abw k ts]
  refine(aaM _).append ?_
  rw[aaX h]
  exact abB _ _
 have:=B_ hs (aaM _)
 exact⟨Fd (by omega),by omega,by omega⟩
theorem Ir(ts:List Str)(k:Nat)(x:Str)(h:k<ts.length)(hx:ts[k]≠x):Iq ts (ts.take k++[x]++ts.drop (k+1)):=by
 have hl:(ts.take k++[x]++ts.drop (k+1)).length=ts.length:=by simp;omega
 have hs:(ts.take k++ts.drop (k+1)).Sublist ts:=by
  conv=>rhs;rw[←abw k ts]
  refine(aaM _).append ?_
  rw[aaX h]
  exact abB _ _
 have K6:(ts.take k++ts.drop (k+1)).Sublist (ts.take k++[x]++ts.drop (k+1)):=by
  rw[aaZ]
  exact(aaM _).append (aa_ _ _)
 have:=B_ hs K6
 have Hv:(ts.take k++ts.drop (k+1)).length=ts.length-1:=by simp;omega
 refine⟨fun z=>hx ?_,by omega,by omega⟩
 have e:ts[k]?=(ts.take k++[x]++ts.drop (k+1))[k]?:=by rw[←z]
 rw[aaZ,abl (by rw[aay];omega),aay,show k-min k ts.length=0 by omega,Y0 h] at e
 exact aaJ e
theorem Iu(ts:List Str)(k:Nat)(x y z:Str):Iq ts ([x]++(ts.take k++[y]++ts.drop k)++[z]):=by
 have hl:([x]++(ts.take k++[y]++ts.drop k)++[z]).length=ts.length+3:=by simp;omega
 have hs:ts.Sublist ([x]++(ts.take k++[y]++ts.drop k)++[z]):=by
  refine List.Sublist.trans ?_ (List.sublist_append_left _ _)
  refine List.Sublist.trans ?_ (aa_ _ _)
  conv=>lhs;rw[←abw k ts]
  rw[aaZ]
  exact(aaM _).append (aa_ _ _)
 have:=B_ (aaM ts) hs
 exact⟨Fd (by omega),by omega,by omega⟩
theorem KJ(ts:List Str)(k:Nat)(x y z:Str)(h:k+1<ts.length):Iq ts (ts.take k++[x,y,z]++ts.drop (k+2)):=by
 have hl:(ts.take k++[x,y,z]++ts.drop (k+2)).length=ts.length+1:=by simp;omega
 have hs:(ts.take k++ts.drop (k+2)).Sublist ts:=by
  conv=>rhs;rw[←abw k ts]
  refine(aaM _).append ?_
  exact K01.Bv (by omega)
 have K6:(ts.take k++ts.drop (k+2)).Sublist (ts.take k++[x,y,z]++ts.drop (k+2)):=by
  rw[aaZ]
  exact(aaM _).append (aa_ _ _)
 have:=B_ hs K6
 have Hv:(ts.take k++ts.drop (k+2)).length=ts.length-2:=by simp;omega
 exact⟨Fd (by omega),by omega,by omega⟩
def Rr:Sp:=fun vs H Q _=>∃(t:Addr)(ts:List Str)(c:Int),vs=[.ref t,.int c]∧H t=some (.lst (gh ts))∧ts.length≤900∧∀p H' Nl,gk H H'→H' p=some (.lst (gh Nl))→Iq ts Nl→Q (.ref p) H'
theorem Oy(T:Txt mg)(O:Ok K mg A):ip P w K mg base nu 2 A.z8 A.z_ ["texts","cell"] Rr:=by
 have Ak:=@Ox P w K mg base A T O
 refine O.DP.f.rh kY fun jh A outer s H vs Q E hr h=>?_
 obtain⟨t,ts,c,rfl,ht,hl,q⟩:=h
 have sz:sizeLine=16777216:=aaF
 have et:((gh ts).length:Int)=(ts.length:Int):=by simp
 refine⟨_,(de (lB 2 kY (gz iR (gz jV (pv 1) gi) (gz iQ (gJ gD (by rfl) T.jX aaE (a_ (pv 0) d_)) gi)))
   (de (lB 3 kY (pJ O.yY Ak hr (a_ (gz jV (pv 1) gi) d_)))
   (de (lB 4 kY (gz lG (gz lG (og pQ (pv 0) pO (pP (pv 2))) (iA (a_ (pv 3) d_))) (og pQ (pv 0) (pP (pv 2)) pO)))
   (de (lB 5 kY (gz iR (pv 1) gi))
   (de (tO (iz ((pw_and (ie mE (pv 5) gi (iu _)) (pw_and1 (ie Dm (gJ gD (by rfl) T.jX aaE (a_ (pv 0) d_)) gi (iu _)))).pt) (de (lB 6 kY (gz iR (pv 2) (gJ gD (by rfl) T.jX aaE (a_ (pv 0) d_))))
   (f_ (gP (gz lG (og pQ (pv 0) pO (pP (pv 6))) (og pQ (pv 0) (pP (gz iQ (pv 6) gi)) pO))))) ia))
   (de (tO (iz ((pw_and (ie mE (pv 5) gi (iu _)) (pw_and (ie IV (pv 2) (gJ gD (by rfl) T.jX aaE (a_ (pv 0) d_)) (iu _)) (pw_and1 (ie IU (uX (pv 0) (pv 2)) (pv 3) (iu _))))).pt) (f_ (gP (gz lG (gz lG (og pQ (pv 0) pO (pP (pv 2))) (iA (a_ (pv 3) d_))) (og pQ (pv 0) (pP (gz iQ (pv 2) gi)) pO)))) ia))
   (de (tO (iz (ie mE (pv 5) gi (iu _)) (f_ (gP (gz lG (gz lG (iA (a_ (pv 3) d_)) (pv 4)) (iA (a_ (pJ O.yY Ak hr (a_ (gz jV (pv 1) gi) d_)) d_))))) ia))
   (de (tO (iz ((pw_and (ie mE (pv 5) gi (iu _)) (pw_and1 (ie IV (gz iQ (pv 2) gi) (gJ gD (by rfl) T.jX aaE (a_ (pv 0) d_)) (iu _)))).pt) (de (lB 7 kY (iA (a_ (uX (pv 0) (gz iQ (pv 2) gi)) (a_ (pv 3) (a_ (uX (pv 0) (pv 2)) d_)))))
   (f_ (gP (gz lG (gz lG (og pQ (pv 0) pO (pP (pv 2))) (pv 7)) (og pQ (pv 0) (pP (gz iQ (pv 2) gi)) pO))))) ia))
   (f_ (gP (pv 4))))))))))),?_⟩
 refine X_ ?_;intro _ _ _ _ _ _ _ _
 refine⟨_,rfl,_,_,rfl,rfl,⟨by decide,by decide⟩,_,rfl,t,_,rfl,.inl (gK.of ht),_,_,rfl,rfl,_,_,rfl,rfl,(by rw[et];omega),?_⟩
 rw[et]
 have b:=mod_lt (c/5) ((ts.length:Int)+1) (by omega)
 obtain⟨k,hk⟩:∃k:Nat,c/5%((ts.length:Int)+1)=(k:Int):=⟨_,(Int.toNat_of_nonneg b.1).symm⟩
 dsimp only
 rw[hk]
 have Hx:k≤ts.length:=by omega
 refine⟨_,rfl,_,_,rfl,rfl,⟨by decide,by decide⟩,c/30,rfl,fun x H1 s1=>?_⟩
 have ht1:=s1 _ _ ht
 refine⟨_,rfl,_,rfl,_,rfl,t,_,rfl,gK.of ht1,fun a ha=>?_⟩
 rw[yg]
 have s2:=s1.new (o:=.lst (gh (ts.take k))) ha
 have h2a:(upd H1 a (.lst (gh (ts.take k)))) a=some (.lst (gh (ts.take k))):=b_
 generalize upd H1 a (.lst (gh (ts.take k)))=H2 at s2 h2a
 refine⟨_,rfl,L2.jc,fun b0 PR=>?_⟩
 have s3:=s2.new (o:=.lst [V.str x]) PR
 refine⟨a,b0,_,_,rfl,rfl,g_ PR h2a,b_,by simp;omega,fun d hd=>?_⟩
 have s4:=s3.new (o:=.lst (gh (ts.take k)++[V.str x])) hd
 have h4d:(upd (upd H2 b0 (.lst [V.str x])) d (.lst (gh (ts.take k)++[V.str x]))) d=some (.lst (gh (ts.take k++[x]))):=by rw[b_,iK]
 generalize upd (upd H2 b0 (.lst [V.str x])) d (.lst (gh (ts.take k)++[V.str x]))=H4 at s4 h4d
 refine⟨_,rfl,_,rfl,_,rfl,t,_,rfl,gK.of (s4 _ _ ht),fun e he=>?_⟩
 rw[Hh]
 have s5:=s4.new (o:=.lst (gh (ts.drop k))) he
 refine⟨d,e,_,_,rfl,rfl,g_ he h4d,b_,by simp;omega,fun m hm=>?_⟩
 have s6:=s5.new (o:=.lst (gh (ts.take k++[x])++gh (ts.drop k))) hm
 have ZX:(upd (upd H4 e (.lst (gh (ts.drop k)))) m (.lst (gh (ts.take k++[x])++gh (ts.drop k)))) m=some (.lst (gh (ts.take k++[x]++ts.drop k))):=by rw[b_,o_]
 generalize upd (upd H4 e (.lst (gh (ts.drop k)))) m (.lst (gh (ts.take k++[x])++gh (ts.drop k)))=H6 at s6 ZX
 have M5:=s6 _ _ ht
 refine⟨_,rfl,_,_,rfl,rfl,(by show(0:Int)<5;decide),?_⟩
 refine⟨fun σ H7=>σ=[rr t,ri c,ri k,rs x,rr m,ri (c%5),none,none]∧H7=H6,?_,?_⟩
 ·refine⟨_,rfl,rfl,_,rfl,?_⟩
  refine kU (fun _=>?_) (fun _=>jY ⟨rfl,rfl⟩)
  refine⟨_,rfl,t,_,rfl,.inl (gK.of M5),_,_,rfl,rfl,_,rfl,?_⟩
  refine kU (fun h1=>?_) (fun _=>⟨rfl,rfl⟩)
  have h1:0<ts.length:=by have:=aaw h1;rw[et] at this;omega
  refine⟨_,rfl,_,rfl,t,_,rfl,.inl (gK.of M5),_,_,rfl,rfl,(by rw[et];omega),?_⟩
  have b2:=mod_lt (k:Int) (ts.length:Int) (by omega)
  obtain⟨o,ho⟩:∃o:Nat,(k:Int)%(ts.length:Int)=(o:Int):=⟨_,(Int.toNat_of_nonneg b2.1).symm⟩
  rw[et]
  dsimp only
  rw[ho]
  refine⟨_,rfl,_,rfl,_,rfl,t,_,rfl,gK.of M5,fun a ha=>?_⟩
  have s7:=s6.new (o:=.lst (xi (gh ts) none (some (o:Int)))) ha
  refine⟨_,rfl,_,rfl,_,_,rfl,rfl,_,rfl,t,_,rfl,gK.of (s7 _ _ ht),fun e he=>?_⟩
  have s8:=s7.new (o:=.lst (xi (gh ts) (some ((o:Int)+1)) none)) he
  refine⟨a,e,gh (ts.take o),gh (ts.drop (o+1)),rfl,rfl,g_ he (by rw[b_,yg]),by rw[b_,za ts (k:=o+1) (by omega)],by simp;omega,fun p hp=>?_⟩
  refine q p _ _ (s8.new hp) ?_ (MD ts o (by omega))
  rw[b_,o_]
 rintro σ H7 ⟨rfl,rfl⟩
 refine⟨fun σ H8=>σ=[rr t,ri c,ri k,rs x,rr m,ri (c%5),none,none]∧H8=H7,?_,?_⟩
 ·refine⟨_,rfl,rfl,_,rfl,?_⟩
  refine kU (fun _=>?_) (fun _=>jY ⟨rfl,rfl⟩)
  refine⟨_,rfl,_,rfl,t,_,rfl,.inl (gK.of M5),_,_,rfl,rfl,_,rfl,?_⟩
  refine kU (fun h1=>?_) (fun _=>jY ⟨rfl,rfl⟩)
  have h1:k<ts.length:=by have:=aaw h1;rw[et] at this;omega
  have hx:ts[k]?=some ts[k]:=Y0 h1
  refine⟨_,rfl,_,rfl,t,_,_,_,rfl,rfl,gK.of M5,iE rfl (pT hx),_,rfl,rfl,_,rfl,?_⟩
  refine kU (fun h2=>?_) (fun _=>⟨rfl,rfl⟩)
  have h2:ts[k]≠x:=fun z=>by rw[z] at h2;simp at h2
  refine⟨_,rfl,_,rfl,_,rfl,t,_,rfl,gK.of M5,fun a ha=>?_⟩
  have s7:=s6.new (o:=.lst (xi (gh ts) none (some (k:Int)))) ha
  rw[yg] at s7 ⊢
  refine⟨_,rfl,L2.jc,fun b0 PR=>?_⟩
  have s8:=s7.new (o:=.lst [V.str x]) PR
  refine⟨a,b0,_,_,rfl,rfl,g_ PR b_,b_,by simp;omega,fun d hd=>?_⟩
  have s9:=s8.new (o:=.lst (gh (ts.take k)++[V.str x])) hd
  refine⟨_,rfl,_,rfl,_,_,rfl,rfl,_,rfl,t,_,rfl,gK.of (s9 _ _ ht),fun e he=>?_⟩
  have IE:=s9.new (o:=.lst (xi (gh ts) (some ((k:Int)+1)) none)) he
  refine⟨d,e,_,gh (ts.drop (k+1)),rfl,rfl,g_ he b_,by rw[b_,za ts (k:=k+1) (by omega)],by simp;omega,fun p hp=>?_⟩
  refine q p _ _ (IE.new hp) ?_ (Ir ts k x h1 h2)
  rw[b_,iK,o_]
 rintro σ H8 ⟨rfl,rfl⟩
 refine⟨fun σ H9=>σ=[rr t,ri c,ri k,rs x,rr m,ri (c%5),none,none]∧H9=H8,?_,?_⟩
 ·refine⟨_,rfl,rfl,_,rfl,?_⟩
  refine kU (fun _=>?_) (fun _=>⟨rfl,rfl⟩)
  refine⟨_,rfl,L2.jc,fun a ha=>?_⟩
  have s7:=s6.new (o:=.lst [V.str x]) ha
  refine⟨_,rfl,a,m,_,_,rfl,rfl,b_,g_ ha ZX,by simp;omega,fun b0 PR=>?_⟩
  have s8:=s7.new (o:=.lst ([V.str x]++gh (ts.take k++[x]++ts.drop k))) PR
  refine⟨_,rfl,_,_,rfl,rfl,⟨by decide,by decide⟩,c/60,rfl,fun y H9 s9=>⟨L2.jc,fun d hd=>?_⟩⟩
  have IE:=(s8.trans s9).new (o:=.lst [V.str y]) hd
  refine⟨b0,d,_,_,rfl,rfl,g_ hd (s9 _ _ b_),b_,by simp;omega,fun p hp=>?_⟩
  refine q p _ _ (IE.new hp) ?_ (Iu ts k x x y)
  rw[b_]
  simp[gh]
 rintro σ H9 ⟨rfl,rfl⟩
 refine⟨fun σ Hm=>σ=[rr t,ri c,ri k,rs x,rr m,ri (c%5),none,none]∧Hm=H9,?_,?_⟩
 ·refine⟨_,rfl,rfl,_,rfl,?_⟩
  refine kU (fun _=>?_) (fun _=>jY ⟨rfl,rfl⟩)
  refine⟨_,rfl,_,_,rfl,rfl,_,rfl,t,_,rfl,.inl (gK.of M5),_,_,rfl,rfl,_,rfl,?_⟩
  refine kU (fun h1=>?_) (fun _=>⟨rfl,rfl⟩)
  have h1:k+1<ts.length:=by have:=aaw h1;rw[et] at this;omega
  have hx:ts[k]?=some ts[k]:=Y0 (by omega)
  have hy:ts[k+1]?=some ts[k+1]:=Y0 h1
  refine⟨_,rfl,_,rfl,_,_,rfl,rfl,t,_,_,_,rfl,rfl,gK.of M5,iE (j:=k+1) (by omega) (pT hy),_,rfl,_,rfl,_,rfl,t,_,_,_,rfl,rfl,gK.of M5,iE rfl (pT hx),L2.jc,fun u hu=>?_⟩
  have s7:=s6.new (o:=.lst [V.str ts[k+1],V.str x,V.str ts[k]]) hu
  have h7u:(upd H9 u (.lst [V.str ts[k+1],V.str x,V.str ts[k]])) u=some (.lst (gh [ts[k+1],x,ts[k]])):=b_
  generalize upd H9 u (.lst [V.str ts[k+1],V.str x,V.str ts[k]])=S6 at s7 h7u
  refine⟨_,rfl,_,rfl,_,rfl,t,_,rfl,gK.of (s7 _ _ ht),fun a ha=>?_⟩
  rw[yg]
  have s8:=s7.new (o:=.lst (gh (ts.take k))) ha
  refine⟨_,rfl,a,u,_,_,rfl,rfl,b_,g_ ha h7u,by simp;omega,fun d hd=>?_⟩
  have s9:=s8.new (o:=.lst (gh (ts.take k)++gh [ts[k+1],x,ts[k]])) hd
  refine⟨_,rfl,_,rfl,_,_,rfl,rfl,_,rfl,t,_,rfl,gK.of (s9 _ _ ht),fun e he=>?_⟩
  have IE:=s9.new (o:=.lst (xi (gh ts) (some ((k:Int)+2)) none)) he
  refine⟨d,e,_,gh (ts.drop (k+2)),rfl,rfl,g_ he b_,by rw[b_,za ts (k:=k+2) (by omega)],by simp;omega,fun p hp=>?_⟩
  refine q p _ _ (IE.new hp) ?_ (KJ ts k ts[k+1] x ts[k] h1)
  rw[b_,o_,o_]
 rintro σ Hm ⟨rfl,rfl⟩
 exact⟨_,rfl,q m _ _ s6 ZX (KI ts k x)⟩
structure Sz(k:Nat)(D:Dk):Prop where
 many:D.made.length≤k
 iJ:(D.made.flatMap (·.iJ)).length≤3*k
 kR:(D.made.flatMap (·.kR)).length≤3*(k*k)
theorem JE(k:Nat):(k+1)*(k+1)=k*k+2*k+1:=by simp only [Nat.mul_add,Nat.add_mul];omega
theorem Sz.up{k:Nat}{D:Dk}(z:Sz k D):Sz (k+1) D:=⟨Nat.le_succ_of_le z.many,by have:=z.iJ;omega,by have:=z.kR;have:=JE k;omega⟩
theorem Sz.keep{k:Nat}{D:Dk}(z:Sz k D)(s:Str){p:Pt}(hp:p.iJ.length≤3)(hc:p.kR.length≤3*k+3):Sz (k+1) (D.keep s p):=by
 refine⟨?_,?_,?_⟩
 ·show(D.made++[p]).length≤_
  rw[Y5];have:=z.many;show _+1≤_;omega
 ·show((D.made++[p]).flatMap (·.iJ)).length≤_
  rw[abF,Y5,aaN,abN,aaP];have:=z.iJ;omega
 ·show((D.made++[p]).flatMap (·.kR)).length≤_
  rw[abF,Y5,aaN,abN,aaP];have:=z.kR;have:=JE k;omega
theorem Sz.small{k:Nat}{D:Dk}(z:Sz k D)(h:k≤36):Small D.made:=by
 have h2:k*k≤36*36:=Nat.mul_le_mul h h
 exact⟨aah z.many (by omega),aah z.iJ (by omega),aah z.kR (by omega)⟩
theorem Sz.row{k:Nat}{D:Dk}(z:Sz k D)(I:Inv D)(s f:Str):(D.row s f).length≤3*k:=aah (I.xt s f) z.iJ
theorem wx(D:Dk)(s:Str)(p:Pt):(D.keep s p).names=D.names++[p.nm]:=by
 show(D.made++[p]).map (·.nm)=_
 rw[aaA];rfl
theorem KL{x f:Str}{row:List Ln}{texts:List Str}(e:Iq (row.map (·.tx)) texts):(oq x f row texts).iJ.length≤3:=by
 have rise:=uY (row.map (·.tx)) texts
 rw[U8] at rise
 have h:=Jl rise x
 rw[K01.zy] at h
 have:=e.near
 show(lI x texts _).length≤3
 omega
theorem pick{xs:List Str}{i:Int}(h0:0≤i)(h:i<(xs.length:Int)):∃x,HJ (gh xs) i=some (V.str x)∧x∈xs:=by
 obtain⟨v,e,ev⟩:=tP (xs:=gh xs) h0 (by simpa using h)
 obtain⟨x,hx,rfl⟩:=jW ev
 exact⟨x,e,Yd hx⟩
def Rt(A:Ad):Sp:=fun vs H Q _=>∃(d ss fs:Addr)(D:Dk)(W:Addr→Prop)(k:Nat)(stores files:List Str)(c:Int)(x:Str)(b:Bool),vs=[.ref d,.ref ss,.ref fs,.int c,.str x,.bl b]∧iw A H d D W∧Inv D∧Sz k D∧k<36∧
 H ss=some (.lst (gh stores))∧stores≠[]∧stores.length≤1000∧(∀s∈stores,s∈D.stores∧i5 s)∧H fs=some (.lst (gh files))∧files≠[]∧files.length≤1000∧(∀f∈files,Good f)∧Good x∧x∉D.names∧(∀z∈D.names,i5 z)∧
 ∀H' D',iw A H' d D' W→ni W H H'→Inv D'→Sz (k+1) D'→D'.stores=D.stores→(D'.names=D.names∨D'.names=D.names++[x])→Q .js H'
theorem Oz(T:Txt mg)(O:Ok K mg A):ip P w K mg base nu 7 A.Aa A.Ab ["desk","stores","files","cell","name","backs"] (Rt A):=by
 have IJ:=(@Rg P w K mg base A T O).Jd
 have jU:=(@Im P w K mg base A T O).Jd
 have uQ:=(@Jy P w K mg base A T O).Jd
 have uR:=(@Ou P w K mg base A T O).Jd
 have uS:=(@Oq P w K mg base A T O).Jd
 have AF:=(@G_ P w K mg base A T O).Jd
 have Dh:=(@KG P w K mg base A T O).Jd
 have IK:=(@Rm P w K mg base A T O).Jd
 have Hn:=@Oy P w K mg base A T O
 refine O.DQ.f.rh jG fun jh A0 outer s H vs Q E hr h=>?_
 obtain⟨d,ss,fs,D,W,k,stores,files,c,x,bk,rfl,X,I,z,hk,Sg,hs0,Wy,yp,Cc,hf0,hfl,hfg,gx,hx,Pr,q⟩:=h
 obtain⟨π,y⟩:=id X
 have sz:sizeLine=16777216:=aaF
 have sm:=z.small (by omega)
 have jc:rj D.made.length:=sm.many
 have AD:D.made.length≤4000:=jc
 have es:((gh stores).length:Int)=(stores.length:Int):=by simp
 have ef:((gh files).length:Int)=(files.length:Int):=by simp
 have YV:0<stores.length:=List.length_pos_iff.mpr hs0
 have hf1:0<files.length:=List.length_pos_iff.mpr hf0
 refine⟨_,(de (lB 6 jG (uX (pv 1) (gz iR (pv 3) (gJ gD (by rfl) T.jX aaE (a_ (pv 1) d_)))))
   (de (lB 7 jG (uX (pv 2) (gz iR (gz jV (pv 3) gi) (gJ gD (by rfl) T.jX aaE (a_ (pv 2) d_)))))
   (de (lB 8 jG (gz iR (gz jV (pv 3) gi) gi))
   (de (lB 9 jG (gz jV (pv 3) gi))
   (de (Be (j:=10) zG (gc pZ).names [13] jG.nd rfl rfl rfl (ir (zw (pv 0) O.gH O.GV IJ hr (a_ (pv 6) (a_ (pv 7) d_)))) rfl (by decide+kernel) (fun _ _ _ _=>(iy (i:=13) jG.nd rfl (Or.inl rfl))) (fun _ _ _ _=>mI) (fun _ _ _ _=>zx (l0 A8 (pv 13) gi (fun _ _=>rfl))))
   (f_ (iz (L5 ((pw_and (ie mE (pv 8) gi (iu _)) (pw_and (rA (pv 5)) (pw_and1 (ie Dm (gJ gD (by rfl) T.jX aaE (a_ (zw (pv 0) O.gH O.l9 jU hr (a_ (pv 6) d_)) d_)) gi (iu _))))).pt)) (f_ (ib (zw (pv 0) O.gH O.u0 uQ hr (a_ (pv 6) (a_ (pv 4) (a_ (uX (zw (pv 0) O.gH O.l9 jU hr (a_ (pv 6) d_)) (gz iR (pv 9) (gJ gD (by rfl) T.jX aaE (a_ (zw (pv 0) O.gH O.l9 jU hr (a_ (pv 6) d_)) d_)))) d_)))))) (f_ (iz (L5 ((pw_and (ie mE (pv 8) gi (iu _)) (pw_and (ie mE (gz iR (pv 9) gi) gi (iu _)) (pw_and1 (ie Dm (gJ gD (by rfl) T.jX aaE (a_ (zw (pv 0) O.gH O.l9 jU hr (a_ (pv 6) d_)) d_)) gi (iu _))))).pt)) (f_ (ib (zw (pv 0) O.gH O.u9 uR hr (a_ (pv 6) (a_ (uX (zw (pv 0) O.gH O.l9 jU hr (a_ (pv 6) d_)) (zo tJ gi)) d_))))) (f_ (iz (ie Dm (pv 8) gi (iu _)) (de (lB 11 jG (uX (pv 1) (gz iR (pv 9) (gJ gD (by rfl) T.jX aaE (a_ (pv 1) d_)))))
   (de (lB 12 jG (zw (pv 0) O.gH O.l9 jU hr (a_ (pv 11) d_)))
   (f_ (iz (ie Dm (gJ gD (by rfl) T.jX aaE (a_ (pv 12) d_)) gi (iu _)) (f_ (ib (zw (pv 0) O.gH O.u2 uS hr (a_ (pv 6) (a_ (pv 11) (a_ (uX (pv 12) (gz iR (gz jV (pv 9) gi) (gJ gD (by rfl) T.jX aaE (a_ (pv 12) d_)))) d_)))))) ia)))) (f_ (iz (ie mE (gJ gD (by rfl) T.jX aaE (a_ (zw (pv 0) O.gH O.vO AF hr (a_ (pv 6) (a_ (pv 7) d_))) d_)) gi (iu _)) (f_ (ib (zw (pv 0) O.gH O.Ag Dh hr (a_ (pv 6) (a_ (pv 4) (a_ (pv 7) (a_ (pJ O.DP Hn hr (a_ (pv 10) (a_ (pv 9) d_))) d_))))))) (f_ (ib (zw (pv 0) O.gH O.GU IK hr (a_ (pv 6) (a_ (pv 4) (a_ (pv 7) (a_ (iA (a_ (gz iR (pv 9) (gJ gD (by rfl) T.jX aaE (a_ (pv 10) d_))) d_)) d_)))))))))))))))))))),?_⟩
 refine Sx ?_;intro _ _ _ _ _
 have b1:=mod_lt c (stores.length:Int) (by omega)
 obtain⟨st,VT,OT⟩:=pick (xs:=stores) b1.1 b1.2
 have b2:=mod_lt (c/7) (files.length:Int) (by omega)
 obtain⟨f,ZY,hf2⟩:=pick (xs:=files) b2.1 b2.2
 obtain⟨wB,K9⟩:=yp st OT
 have gf:=hfg f hf2
 refine⟨_,rfl,_,rfl,_,rfl,ss,_,rfl,.inl (gK.of Sg),_,_,rfl,rfl,(by rw[es];omega),ss,_,_,_,rfl,rfl,gK.of Sg,(by rw[es];exact VT),?_⟩
 refine⟨_,rfl,_,rfl,_,_,rfl,rfl,⟨by decide,by decide⟩,_,rfl,fs,_,rfl,.inl (gK.of Cc),_,_,rfl,rfl,(by rw[ef];omega),fs,_,_,_,rfl,rfl,gK.of Cc,(by rw[ef];exact ZY),?_⟩
 refine⟨_,rfl,_,_,rfl,rfl,⟨by decide,by decide⟩,_,_,rfl,rfl,(by show(0:Int)<6;decide),?_⟩
 refine⟨_,rfl,_,_,rfl,rfl,⟨by decide,by decide⟩,?_⟩
 refine⟨_,rfl,d,π.dx,_,rfl,y.hd,Q9,_,rfl,_,rfl,d,D,W,st,f,rfl,X,K9,sm,I,fun h=>absurd wB h,fun _ r H1 s1 oZ ⟨vs,Cg,Hy⟩=>?_⟩
 have Hw:=z.row I st f
 have hvl:=aav Hy
 let Jv:=fun(i:Nat) (ys:List V) (σ:St) (H4:Hp)=>∃(ZZ:Option V),σ=[rr d,rr ss,rr fs,ri c,rs x,some (.bl bk),rs st,rs f,ri (c/11%6),ri (c/66),none,none,none,ZZ]∧H4=H1∧ys=gh (((D.row st f).take i).map (·.tx))
 refine⟨r,rfl,⟨_,gK.of Cg⟩,jE (K:=K) (a:=r) (xs:=vs) (by omega) Jv
  ⟨none,rfl,rfl,rfl⟩ (by rintro _ _ _ _ _ ⟨_,_,e,e2⟩;rw[e,e2];exact⟨gK.of Cg,by rw[U8,U8,aay];omega⟩) ?_ ?_⟩
 ·rintro i v ys σ H4 hx ⟨ZZ,rfl,rfl,rfl⟩
  obtain⟨ln,AB,t,rfl,ht⟩:=iC Hy hx
  refine⟨_,rfl,t,_,_,_,rfl,rfl,yo.of ht,iE (j:=2) rfl rfl,_,rfl,rfl,?_⟩
  rw[take_snoc AB,aaA,iK]
  rfl
 rintro ys σ H4 ⟨ZZ,rfl,rfl,rfl⟩ VU Vp
 rw[hvl,aam]
 have s2:=s1.new (o:=.lst (gh ((D.row st f).map (·.tx)))) Vp
 have VV:(upd H4 VU (.lst (gh ((D.row st f).map (·.tx))))) VU=some (.lst (gh ((D.row st f).map (·.tx)))):=b_
 generalize upd H4 VU (.lst (gh ((D.row st f).map (·.tx))))=H2 at s2 VV
 have X2:=X.same s2
 have M6:(((D.row st f).map (·.tx)).length:Int)=((D.row st f).length:Int):=by rw[U8]
 have el:∀l:List Str,((gh l).length:Int)=(l.length:Int):=fun l=>by simp
 have hasB:∀u,(D.has u).length≤D.made.length:=fun u=>by
  rw[Dk.Jm,U8];exact aaH _ _
 have Sh:∀u,∀v∈D.has u,v∈D.held u∧v∈D.names:=fun u v hv=>by
  obtain⟨h1,h2⟩:=aat.mp hv
  exact⟨aaw h2,h1⟩
 refine⟨fun b H3=>gk H2 H3∧(b=true→D.has st≠[]),?_,?_⟩
 ·refine⟨_,rfl,rfl,_,rfl,?_⟩
  refine kU (fun _=>?_) (fun _=>⟨gk.refl _,fun z=>by cases z⟩)
  refine⟨_,rfl,_,rfl,?_⟩
  refine kU (fun _=>?_) (fun _=>⟨gk.refl _,fun z=>by cases z⟩)
  refine⟨_,rfl,d,π.dx,_,rfl,s2 _ _ y.hd,sv,_,rfl,d,D,W,st,rfl,X2,K9,jc,fun h=>absurd wB h,fun _ p oA=>?_⟩
  refine⟨p,_,rfl,.inl (gK.of b_),_,_,rfl,rfl,_,rfl,(gk.refl H2).new oA,fun h e=>?_⟩
  rw[e] at h
  exact absurd (aaw h) (by decide)
 rintro b H3 ⟨s23,hb⟩
 have s3:=s2.trans s23
 have X3:=X.same s3
 cases b with
 | true=>
  have tm:=hb rfl
  have RN:0<(D.has st).length:=List.length_pos_iff.mpr tm
  refine mx ?_
  refine⟨_,rfl,d,π.dx,_,rfl,s3 _ _ y.hd,Jt,_,rfl,_,rfl,_,rfl,d,π.dx,_,rfl,s3 _ _ y.hd,sv,_,rfl,d,D,W,st,rfl,X3,K9,jc,fun h=>absurd wB h,fun _ p oA=>?_⟩
  have s4:=s3.new (o:=.lst (gh (D.has st))) oA
  refine⟨_,rfl,_,rfl,d,π.dx,_,rfl,s4 _ _ y.hd,sv,_,rfl,d,D,W,st,rfl,X.same s4,K9,jc,fun h=>absurd wB h,fun _ p2 AX=>?_⟩
  have s5:=s4.new (o:=.lst (gh (D.has st))) AX
  have b3:=mod_lt (c/66) ((D.has st).length:Int) (by omega)
  obtain⟨o,eo,ho⟩:=pick (xs:=D.has st) b3.1 b3.2
  obtain⟨Xc,Xd⟩:=Sh st o ho
  refine⟨p2,_,rfl,.inl (gK.of b_),_,_,rfl,rfl,(by rw[el];omega),p,_,_,_,rfl,rfl,gK.of (g_ AX b_),(by rw[el];exact eo),?_⟩
  refine⟨d,D,W,st,x,o,rfl,X.same s5,I,jc,K9,gx.yf,Pr o Xd,fun h=>absurd wB h,fun _ h=>absurd gx h,fun _ _ h=>absurd h hx,fun _ _ _ h=>absurd Xc h,fun _ _ _ _ H' X' s'=>?_⟩
  exact q H' _ X' (fun b o e n=>s' b o (s5 _ _ e) n) (I.back wB hx Xc) (z.keep st (aaU _) (aaU _)) rfl (.inr (wx D st _))
 | false=>
 refine jY ?_
 refine⟨fun b H4=>gk H3 H4∧(b=true→D.has st≠[]),?_,?_⟩
 ·refine⟨_,rfl,rfl,_,rfl,?_⟩
  refine kU (fun _=>?_) (fun _=>⟨gk.refl _,fun z=>by cases z⟩)
  refine⟨_,rfl,_,_,rfl,rfl,(by show(0:Int)<4;decide),rfl,_,rfl,?_⟩
  refine kU (fun _=>?_) (fun _=>⟨gk.refl _,fun z=>by cases z⟩)
  refine⟨_,rfl,d,π.dx,_,rfl,s3 _ _ y.hd,sv,_,rfl,d,D,W,st,rfl,X3,K9,jc,fun h=>absurd wB h,fun _ p oA=>?_⟩
  refine⟨p,_,rfl,.inl (gK.of b_),_,_,rfl,rfl,_,rfl,(gk.refl H3).new oA,fun h e=>?_⟩
  rw[e] at h
  exact absurd (aaw h) (by decide)
 rintro b H4 ⟨Sf,hb⟩
 have s4:=s3.trans Sf
 have X4:=X.same s4
 cases b with
 | true=>
  have tm:=hb rfl
  obtain⟨zs,la,Xe⟩:∃zs la,D.has st=zs++[la]:=⟨_,_,(List.dropLast_concat_getLast tm).symm⟩
  have WS:=Sh st la (by rw[Xe];simp)
  refine mx ?_
  refine⟨_,rfl,d,π.dx,_,rfl,s4 _ _ y.hd,Jw,_,rfl,_,rfl,d,π.dx,_,rfl,s4 _ _ y.hd,sv,_,rfl,d,D,W,st,rfl,X4,K9,jc,fun h=>absurd wB h,fun _ p oA=>?_⟩
  have s5:=s4.new (o:=.lst (gh (D.has st))) oA
  have SJ:HJ (gh (D.has st)) (-1)=some (V.str la):=by rw[Xe,←iK];exact Ga _ _
  refine⟨_,rfl,p,_,_,_,rfl,rfl,gK.of b_,SJ,?_⟩
  refine⟨d,D,W,st,la,rfl,X.same s5,I,jc,K9,Pr la WS.2,Pr,fun h=>absurd wB h,fun _ h=>absurd WS.1 h,fun _ _ h=>absurd (I.DK wB Xe) h,fun _ _ _ H' X' s'=>?_⟩
  exact q H' _ X' (fun b o e n=>s' b o (s5 _ _ e) n) (I.drop wB (I.DK wB Xe)) ⟨z.up.many,z.up.iJ,z.up.kR⟩ rfl (.inl rfl)
 | false=>
 refine jY ?_
 refine⟨_,rfl,_,_,rfl,rfl,_,rfl,?_⟩
 refine kU (fun _=>?_) (fun _=>?_)
 ·have b3:=mod_lt (c/66) (stores.length:Int) (by omega)
  obtain⟨so,KW,PV⟩:=pick (xs:=stores) b3.1 b3.2
  obtain⟨M7,VW⟩:=yp so PV
  refine⟨_,rfl,_,rfl,_,rfl,ss,_,rfl,.inl (gK.of (s4 _ _ Sg)),_,_,rfl,rfl,(by rw[es];omega),ss,_,_,_,rfl,rfl,gK.of (s4 _ _ Sg),(by rw[es];exact KW),?_⟩
  refine⟨_,rfl,d,π.dx,_,rfl,s4 _ _ y.hd,sv,_,rfl,d,D,W,so,rfl,X4,VW,jc,fun h=>absurd M7 h,fun _ p oA=>?_⟩
  have s5:=s4.new (o:=.lst (gh (D.has so))) oA
  refine⟨_,rfl,p,_,rfl,.inl (gK.of b_),_,_,rfl,rfl,_,rfl,?_⟩
  refine kU (fun h=>?_) (fun _=>?_)
  ·have h:0<(D.has so).length:=by have:=aaw h;rw[el] at this;omega
   have b4:=mod_lt (c/66/5) ((D.has so).length:Int) (by omega)
   obtain⟨o,eo,ho⟩:=pick (xs:=D.has so) b4.1 b4.2
   obtain⟨Xc,Xd⟩:=Sh so o ho
   refine⟨_,rfl,d,π.dx,_,rfl,s5 _ _ y.hd,Ju,_,rfl,_,rfl,_,rfl,_,rfl,_,_,rfl,rfl,⟨by decide,by decide⟩,_,rfl,p,_,rfl,.inl (gK.of b_),_,_,rfl,rfl,(by rw[el];omega),p,_,_,_,rfl,rfl,gK.of b_,(by rw[el];exact eo),?_⟩
   refine⟨d,D,W,st,so,o,rfl,X.same s5,I,jc,K9,VW,Pr o Xd,fun h=>absurd wB h,fun _ h=>absurd M7 h,fun _ _ h=>absurd Xc h,fun _ _ _ cm H6 H' s6 SQ _ X' s'=>?_⟩
   exact q H' _ X' (fun b o e n=>s' b o (by rw[e_ (gn (s6 _ _ (s5 _ _ e)) SQ)];exact s6 _ _ (s5 _ _ e)) n) (I.take wB Xd) ⟨z.up.many,z.up.iJ,z.up.kR⟩ rfl (.inl rfl)
  ·exact q _ D (X.same s5) (ni.of s5) I z.up rfl (.inl rfl)
 refine⟨_,rfl,d,π.dx,_,rfl,s4 _ _ y.hd,G9,_,rfl,_,rfl,d,D,W,st,f,rfl,X4,K9,sm,I,fun h=>absurd wB h,fun _ p H5 qs S5 oA tq AX=>?_⟩
 have s5:=s4.trans S5
 have PN:=aav AX
 have VX:=S5 _ _ (Sf _ _ (s23 _ _ VV))
 refine⟨p,_,rfl,.inl (gK.of tq),rfl,_,rfl,?_⟩
 refine kU (fun h=>?_) (fun h=>?_)
 ·have hq:D.Gz st f=[]:=by
   have:=V.int.inj (aaw h)
   rw[←PN] at this
   exact aaV.mp (by omega)
  refine⟨_,rfl,d,π.dx,_,rfl,s5 _ _ y.hd,Kx,_,rfl,_,rfl,_,rfl,_,rfl,_,rfl,VU,(D.row st f).map (·.tx),c/66,rfl,VX,by rw[U8];omega,fun t H6 ts ZD M5 ed=>?_⟩
  have s6:=s5.trans ZD
  have U3:=ed.len
  rw[U8] at U3
  refine⟨d,t,D,W,st,x,f,ts,rfl,X.same s6,I,sm,aah z.iJ (by omega),K9,gx.yf,gf.yf,M5,by omega,fun h=>absurd wB h,fun _ h=>absurd ⟨gx,gf⟩ h,fun _ _ _ h=>absurd h hx,fun _ _ _ _ h=>absurd hq h,fun _ _ _ _ _ h=>absurd h ed.ne,fun _ _ _ _ _ _ H' X' s'=>?_⟩
  refine q H' _ X' (fun b o e n=>s' b o (s6 _ _ e) n) (I.record wB hx hq ts) (z.keep st (KL ed) (aah ye.2 (by omega))) rfl (.inr (wx D st _))
 ·have hq:D.Gz st f≠[]:=fun e=>h (by rw[←PN,e];rfl)
  have hrpos:0<(D.row st f).length:=by
   rcases Nat.eq_zero_or_pos (D.row st f).length with e|e
   ·exfalso
    apply hq
    show l6 _ (D.row st f)=[]
    rw[aaV.mp e]
    rfl
   ·exact e
  have b3:=mod_lt (c/66) ((D.row st f).length:Int) (by omega)
  refine⟨_,rfl,d,π.dx,_,rfl,s5 _ _ y.hd,Q_,_,rfl,_,rfl,_,rfl,_,rfl,_,rfl,VU,_,rfl,.inl (gK.of VX),_,_,rfl,rfl,(by rw[el,M6];omega),L2.jc,fun t ht=>?_⟩
  have s6:=s5.new (o:=.lst [V.int (c/66%((gh ((D.row st f).map (·.tx))).length:Int))]) ht
  refine⟨d,t,D,W,st,x,f,[c/66%((gh ((D.row st f).map (·.tx))).length:Int)],rfl,X.same s6,I,sm,K9,gx.yf,gf.yf,b_,by show 1≤1000;decide,fun p hp=>?_,fun h=>absurd wB h,fun _ h=>absurd ⟨gx,gf⟩ h,fun _ _ _ h=>absurd h hx,fun _ _ _ _ h=>absurd ?_ h,(fun _ _ _ _ h=>by cases h),fun _ _ _ _ ok _ H' X' s'=>?_⟩
  ·rw[Yc.mp hp,el,M6]
   refine abz (m:=108) ?_ (by decide)
   exact aah (Nat.log2_le_self _) (by omega)
  ·rw[el,M6]
   exact⟨⟨b3.1,b3.2⟩,trivial⟩
  ·refine q H' _ X' (fun b o e n=>s' b o (s6 _ _ e) n) (I.cut wB hx fun m hm=>?_) (z.keep st (aaU _) (aah (List.length_filterMap_le _ _) (by show 1≤_;omega))) rfl (.inr (wx D st _))
   obtain⟨pl,_,ql⟩:=acd.mp hm
   obtain⟨l',KY,rfl⟩:=aaL.mp ql
   exact aai (Yd KY)
theorem sy{K:Qqy}{H H':Hp}{a:Addr}{xs:List V}(h:gK K H a xs)(s:gk H H'):gK K H' a xs:=by
 rcases h with(h|⟨u,h⟩)|h
 ·exact .inl (.inl (s _ _ h))
 ·exact .inl (.inr ⟨u,s _ _ h⟩)
 ·exact .inr h
noncomputable abbrev FG(ns:List Int)(i:Int):Int:=cellAt ns i%20736
noncomputable def mz(ns:List Int):List Str:=[nameOf (FG ns 0) 0,nameOf (FG ns 0) 1,nameOf (FG ns 0) 2]
noncomputable def AK(ns:List Int):List Str:=[nameOf (FG ns 1) 0,nameOf (FG ns 1) 1]
theorem KN(ns:List Int):(mz ns).Nodup:=by
 have h:∀i j:Int,0≤i→i<36→0≤j→j<36→i≠j→nameOf (FG ns 0) i≠nameOf (FG ns 0) j:=fun i j a b c d e z=>e (Hf a b c d z)
 unfold mz
 simp only [aaY,aag,acw,or_false,not_or,abr,and_true]
 exact⟨⟨h 0 1 (by decide) (by decide) (by decide) (by decide) (by decide),h 0 2 (by decide) (by decide) (by decide) (by decide) (by decide)⟩,h 1 2 (by decide) (by decide) (by decide) (by decide) (by decide),by simp⟩
theorem uO{ns:List Int}:∀s∈mz ns,Good s:=by
 intro s hs
 unfold mz at hs
 simp only [aag,acw,or_false] at hs
 rcases hs with rfl|rfl|rfl<;>exact rf _ _
theorem ME{ns:List Int}:∀s∈AK ns,Good s:=by
 intro s hs
 unfold AK at hs
 simp only [aag,acw,or_false] at hs
 rcases hs with rfl|rfl<;>exact rf _ _
structure Built(A:Ad)(ns:List Int)(n:Nat)(H H':Hp)(b d ss fs:Addr)(D:Dk)(W:Addr→Prop):Prop where
 same:gk H H'
 fresh:H b=none
 at_:H' b=some (.lst [.ref d,.ref ss,.ref fs])
 st:H' ss=some (.lst (gh (mz ns)))
 fl:H' fs=some (.lst (gh (AK ns)))
 Yo:iw A H' d D W
 own:∀x,W x→H x=none
 inv:Inv D
 sz:Sz n D
 stores:D.stores=mz ns
 names:∀x∈D.names,∃j:Nat,j<n∧x=nameOf (FG ns 3) j
def Ru(K:PySem.W.Frag)(A:Ad):Sp:=fun vs H Q _=>∃(a:Addr)(ns:List Int)(first:Int)(n:Nat)(bk:Bool),vs=[.ref a,.int first,.int n,.bl bk]∧gK K H a (ns.map V.int)∧ns.length≤1000∧0≤first∧first≤1000∧n≤35∧∀b d ss fs D W H',Built A ns n H H' b d ss fs D W→Q (.ref b) H'
theorem OA(T:Txt mg)(O:Ok K mg A):ip P w K mg base nu 8 A.Ac A.Ae ["script","first","most","backs"] (Ru K A):=by
 have AG:=@E5 P w K mg base A T O
 have Fj:=(@Mz P w K mg base A T O).Jd
 have uT:=@Ov P w K mg base A T O
 have jb:=@JD P w K mg base A T O
 have Ho:=@Ow P w K mg base A T O
 have Hq:=@Oz P w K mg base A T O
 refine O.DR.f.rh jn fun jh A0 outer s H vs Q E hr h=>?_
 obtain⟨a,ns,first,n,bk,rfl,ha,IC,hf0,hf1,hn,q⟩:=h
 have sz:sizeLine=16777216:=aaF
 refine⟨_,(de (lB 4 jn (Lj O.QW AG (hr.mono (by decide)) rfl O.QX O.vN.b .nil nF))
   (de (Be (j:=5) t_ (gc ou).names [8] jn.nd rfl rfl rfl (lu rfl T.mX (a_ gi d_)) rfl (by decide+kernel) (fun _ _ _ _=>(iy (i:=8) jn.nd rfl (Or.inl rfl))) (fun _ _ _ _=>mI) (fun _ _ _ _=>zx (pJ O.va uT hr (a_ (gz iR (pJ O.jH jb hr (a_ (pv 0) (a_ gi d_))) gi) (a_ (pv 8) d_)))))
   (de (Be (j:=6) t_ (gc ou).names [8] jn.nd rfl rfl rfl (lu rfl T.mX (a_ gi d_)) rfl (by decide+kernel) (fun _ _ _ _=>(iy (i:=8) jn.nd rfl (Or.inl rfl))) (fun _ _ _ _=>mI) (fun _ _ _ _=>zx (pJ O.va uT hr (a_ (gz iR (pJ O.jH jb hr (a_ (pv 0) (a_ gi d_))) gi) (a_ (pv 8) d_)))))
   (de (iP aaG rfl (ir (pv 5)) (vZ 7 jn) (f_ (ib (zw (pv 4) O.gH O.BX Fj hr (a_ (pv 7) d_)))))
   (de (iP aaG rfl (lu rfl T.mX (a_ (pv 2) d_)) (vZ 8 jn) (de (lB 9 jn (pJ O.jH jb hr (a_ (pv 0) (a_ (gz iQ (pv 1) (pv 8)) d_))))
   (de (tO (iz (ie Tu (gz iQ (pv 1) (pv 8)) (gJ gD (by rfl) T.jX aaE (a_ (pv 0) d_)) (iu _)) (f_ (lB 9 jn (pJ O.DO Ho hr (a_ (pJ O.jH jb hr (a_ (pv 0) (a_ gi d_))) (a_ (pv 8) (a_ gi d_)))))) ia))
   (f_ (ib (pJ O.DQ Hq hr (a_ (pv 4) (a_ (pv 5) (a_ (pv 6) (a_ (pv 9) (a_ (pJ O.va uT hr (a_ (gz iR (pJ O.jH jb hr (a_ (pv 0) (a_ gi d_))) gi) (a_ (pv 8) d_))) (a_ (pv 3) d_))))))))))))
   (f_ (gP (iA (a_ (pv 4) (a_ (pv 5) (a_ (pv 6) d_))))))))))),?_⟩
 refine Sx ?_;intro _ _ _ _ _
 intro d px nd ZN nxd
 refine⟨d,px,rfl,b_,fun H1 W X1 hW k1=>⟨rfl,?_⟩⟩
 have s0:gk H (upd (upd H px (.own d)) d (.ins A.gw px [])):=fun b o e=>by rw[e_ (gn e nd),e_ (gn e ZN)];exact e
 have s1:gk H H1:=fun b o e=>k1 b o (s0 b o e) (gn e nd)
 have hW0:∀b,W b→H b=none:=fun b hb=>s0.free (hW b hb)
 refine⟨_,rfl,by decide,by decide,?_⟩
 let Jv:=fun(m:Nat) (ys:List V) (σ:St) (H2:Hp)=>∃(v8:Option V),σ=[rr a,ri first,ri n,some (.bl bk),rr d,none,none,none,v8,none]∧H2=H1∧ys=gh ((List.range m).map fun(j:Nat)=>nameOf (FG ns 0) j)
 refine tN (n:=3) (by decide) Jv ⟨none,rfl,rfl,rfl⟩ (by rintro _ _ _ _ ⟨_,_,_,e⟩;rw[e];simp) ?_ ?_
 ·rintro m ys σ H2 hm ⟨v8,rfl,rfl,rfl⟩
  refine⟨_,rfl,a,ns,0,rfl,sy ha s1,by decide,_,_,rfl,rfl,(by show(0:Int)<20736;decide),_,rfl,_,_,rfl,?_⟩
  refine⟨_,rfl,rfl,?_⟩
  rw[acq,aaA,←o_]
  show _++[V.str (nameOf (FG ns 0) (0+(m:Int)))]=_
  rw[Int.zero_add]
  rfl
 rintro ys σ H2 ⟨v8,rfl,rfl,rfl⟩ ss Sg
 have s2:=s1.new (o:=.lst (gh (mz ns))) Sg
 have X2:=X1.same ((gk.refl H2).new (o:=.lst (gh (mz ns))) Sg)
 have VY:(upd H2 ss (.lst (gh (mz ns)))) ss=some (.lst (gh (mz ns))):=b_
 have VT:gh ((List.range 3).map fun(j:Nat)=>nameOf (FG ns 0) j)=gh (mz ns):=rfl
 rw[VT]
 generalize upd H2 ss (.lst (gh (mz ns)))=H3 at s2 X2 VY
 refine⟨_,rfl,by decide,by decide,?_⟩
 let Jv:=fun(m:Nat) (ys:List V) (σ:St) (H2:Hp)=>∃(v8:Option V),σ=[rr a,ri first,ri n,some (.bl bk),rr d,rr ss,none,none,v8,none]∧H2=H3∧ys=gh ((List.range m).map fun(j:Nat)=>nameOf (FG ns 1) j)
 refine tN (n:=2) (by decide) Jv ⟨none,rfl,rfl,rfl⟩ (by rintro _ _ _ _ ⟨_,_,_,e⟩;rw[e];simp) ?_ ?_
 ·rintro m ys σ H2 hm ⟨v8,rfl,rfl,rfl⟩
  refine⟨_,rfl,a,ns,1,rfl,sy ha s2,by decide,_,_,rfl,rfl,(by show(0:Int)<20736;decide),_,rfl,_,_,rfl,?_⟩
  refine⟨_,rfl,rfl,?_⟩
  rw[acq,aaA,←o_]
  show _++[V.str (nameOf (FG ns 1) (0+(m:Int)))]=_
  rw[Int.zero_add]
  rfl
 rintro ys σ H4 ⟨v8,rfl,rfl,rfl⟩ fs Cc
 have ZY:gh ((List.range 2).map fun(j:Nat)=>nameOf (FG ns 1) j)=gh (AK ns):=rfl
 rw[ZY]
 have s3:=s2.new (o:=.lst (gh (AK ns))) Cc
 have X3:=X2.same ((gk.refl H4).new (o:=.lst (gh (AK ns))) Cc)
 have Si:=g_ (u:=.lst (gh (AK ns))) Cc VY
 have VZ:(upd H4 fs (.lst (gh (AK ns)))) fs=some (.lst (gh (AK ns))):=b_
 generalize upd H4 fs (.lst (gh (AK ns)))=H5 at s3 X3 Si VZ
 dsimp only [nE];refine LM ?_;intro _
 let Jv:=fun(i:Nat) (σ:St) (H6:Hp)=>∃(v7:Option V)(D:Dk)(W:Addr→Prop),σ=[rr a,ri first,ri n,some (.bl bk),rr d,rr ss,rr fs,v7,none,none]∧gk H H6∧H6 ss=some (.lst (gh (mz ns)))∧H6 fs=some (.lst (gh (AK ns)))∧iw A H6 d D W∧(∀b,W b→H b=none)∧Inv D∧D.made=[]∧D.stores=(mz ns).take i
 refine⟨_,rfl,ss,rfl,⟨_,gK.of Si⟩,je (K:=K) (a:=ss) (xs:=gh (mz ns)) Jv
  ⟨none,Wq,W,rfl,s3,Si,VZ,X3,hW0,Yn,rfl,rfl⟩ (by rintro _ _ _ _ ⟨_,_,_,_,_,e,_⟩;exact gK.of e) ?_ ?_⟩
 ·rintro i v σ H6 hx ⟨v7,D,W,rfl,s6,h1,h2,X6,V0,I6,S7,Sj⟩
  obtain⟨st,yp,rfl⟩:=jW hx
  have g:=uO st (Yd yp)
  have SN:i<3:=(Vb.mp yp).1
  have K0:st∉D.stores:=fun hm=>by
   rw[Sj] at hm
   obtain⟨j,hj⟩:=aaT.mp hm
   have IB:j<i:=by have:=(Vb.mp hj).1;rw[aay] at this;omega
   rw[abK,aax IB] at hj
   have:=(abQ (Vb.mp hj).1 (KN ns)).mp (hj.trans yp.symm)
   omega
  obtain⟨π,y⟩:=id X6
  refine⟨_,rfl,d,π.dx,_,rfl,y.hd,Mw,_,rfl,d,D,W,st,rfl,X6,g.yf,?_,fun h=>absurd g h,fun _ h=>absurd h K0,fun _ _ H7 W7 X7 s7 hW7=>?_⟩
  ·rw[Sj,aay];omega
  ·refine⟨_,D.begin st,W7,rfl,fun b o e=>?_,s7 _ _ h1 (X6.lst h1),s7 _ _ h2 (X6.lst h2),X7,fun b hb=>?_,I6.begin K0,S7,?_⟩
   ·exact s7 b o (s6 _ _ e) (fun hb=>by rw[V0 b hb] at e;cases e)
   ·rcases hW7 b hb with h|h
    ·exact V0 b h
    ·exact s6.free h
   ·show D.stores++[st]=_
    rw[Sj,take_snoc yp]
 rintro σ H6 ⟨v7,D0,W,rfl,s6,h1,h2,X6,V0,I6,S7,Sj⟩
 have Sj:D0.stores=mz ns:=by rw[Sj,U8];exact aam
 refine⟨_,rfl,_,rfl,by omega,by omega,?_⟩
 rw[ab5]
 let Jv:=fun(i:Nat) (σ:St) (H7:Hp)=>∃(v8 v9:Option V)(D:Dk),σ=[rr a,ri first,ri n,some (.bl bk),rr d,rr ss,rr fs,v7,v8,v9]∧gk H H7∧H7 ss=some (.lst (gh (mz ns)))∧H7 fs=some (.lst (gh (AK ns)))∧iw A H7 d D W∧Inv D∧Sz i D∧D.stores=mz ns∧∀x∈D.names,∃j:Nat,j<i∧x=nameOf (FG ns 3) j
 refine nI Jv
  ⟨none,none,D0,rfl,s6,h1,h2,X6,I6,⟨by rw[S7];exact aab _,by rw[S7];exact aab _,by rw[S7];exact aab _⟩,Sj,fun x hx=>by unfold Dk.names at hx;rw[S7] at hx;cases hx⟩ ?_ ?_
 ·rintro i σ H7 hi ⟨v8,v9,D,rfl,s7,k1,k2,X7,I7,z7,Xf,PX⟩
  rw[show(0:Int)+(i:Int)=(i:Int) by omega]
  refine⟨_,rfl,_,rfl,_,rfl,_,_,rfl,rfl,a,ns,_,rfl,sy ha s7,by omega,?_⟩
  refine⟨fun σ H8=>∃c:Int,σ=[rr a,ri first,ri n,some (.bl bk),rr d,rr ss,rr fs,v7,ri i,ri c]∧H8=H7,?_,?_⟩
  ·refine⟨_,rfl,_,rfl,_,_,rfl,rfl,_,rfl,a,_,rfl,.inl (sy ha s7),_,_,rfl,rfl,_,rfl,?_⟩
   refine kU (fun _=>?_) (fun _=>⟨_,rfl,rfl⟩)
   refine⟨_,rfl,a,ns,2,rfl,sy ha s7,by decide,_,rfl,_,_,_,rfl,by decide,by omega,by omega,fun x _ _=>⟨x,rfl,rfl⟩⟩
  rintro σ H8 ⟨c,rfl,rfl⟩
  refine⟨_,rfl,_,rfl,_,rfl,_,rfl,_,rfl,a,ns,3,rfl,sy ha s7,by decide,_,_,rfl,rfl,(by show(0:Int)<20736;decide),_,rfl,_,_,rfl,_,rfl,?_⟩
  have gx:=rf (FG ns 3) (i:Int)
  refine⟨d,ss,fs,D,W,i,mz ns,AK ns,c,_,bk,rfl,X7,I7,z7,by omega,k1,(by unfold mz;simp),(by show 3≤1000;decide),fun t ht=>⟨by rw[Xf];exact ht,(uO t ht).yf⟩,k2,(by unfold AK;simp),(by show 2≤1000;decide),ME,gx,fun hm=>?_,fun t ht=>?_,fun H9 D' X9 s9 I9 z9 hs9 hn9=>?_⟩
  ·obtain⟨j,hj,e⟩:=PX _ hm
   have:=Hf (by omega) (by omega) (by omega) (by omega) e
   omega
  ·obtain⟨j,hj,e⟩:=PX _ ht
   rw[e];exact(rf _ _).yf
  ·refine⟨_,_,D',rfl,fun b o e=>s9 b o (s7 _ _ e) (fun hb=>by rw[V0 b hb] at e;cases e),s9 _ _ k1 (X7.lst k1),s9 _ _ k2 (X7.lst k2),X9,I9,z9,hs9.trans Xf,fun t ht=>?_⟩
   rcases hn9 with e|e
   ·rw[e] at ht
    obtain⟨j,hj,e⟩:=PX _ ht
    exact⟨j,by omega,e⟩
   ·rw[e] at ht
    rcases aaf.mp ht with ht|ht
    ·obtain⟨j,hj,e⟩:=PX _ ht
     exact⟨j,by omega,e⟩
    ·exact⟨i,by omega,Yc.mp ht⟩
 ·rintro σ H7 ⟨v8,v9,D,rfl,s7,k1,k2,X7,I7,z7,Xf,PX⟩
  refine⟨_,rfl,_,rfl,_,rfl,L2.jc,fun b hb=>?_⟩
  have s8:=s7.new (o:=.lst [.ref d,.ref ss,.ref fs]) hb
  exact q b d ss fs D W _ ⟨s8,s7.free hb,b_,g_ hb k1,g_ hb k2,X7.same ((gk.refl H7).new hb),V0,I7,z7,Xf,PX⟩
end
theorem DZ(l:List Bool):Paired (fun(x:Bool) (v:V)=>v=.bl x) l (l.map V.bl):=by
 induction l with
 | nil=>exact .nil
 | cons x r ih=>exact .cons rfl ih
theorem wy{n:Nat}{K:Qqy}{H:Hp}{a c:Addr}{x y:List Bool}(h1:gK K H a (x.map V.bl))(h2:gK K H c (y.map V.bl)):o3 K H (n+1) (.ref a) (.ref c) (decide (x=y)):=
 o3.Jc (F:=fun(x:Bool) (v:V)=>v=.bl x) (fun p q u v hu hv=>by subst hu hv;exact o3.TU p q) h1 h2 (DZ x) (DZ y)
inductive Dv where
 | o
 | s (x:Str)
 | i (n:Int)
 | l (xs:List Dv)
 | t (xs:List Dv)
inductive Rep(H:Hp):Nat→V→Dv→Prop
 | o {n}:Rep H n .js .o
 | s {n x}:Rep H n (.str x) (.s x)
 | i {n x}:Rep H n (.int x) (.i x)
 | l {n a vs xs} (h:H a=some (.lst vs)) (hl:vs.length=xs.length) (hr:∀(j:Nat) u d,vs[j]?=some u→xs[j]?=some d→Rep H n u d):Rep H (n+1) (.ref a) (.l xs)
 | t {n a vs xs} (h:H a=some (.tup vs)) (hl:vs.length=xs.length) (hr:∀(j:Nat) u d,vs[j]?=some u→xs[j]?=some d→Rep H n u d):Rep H (n+1) (.ref a) (.t xs)
theorem Rep.same{H H':Hp}{n:Nat}{v:V}{d:Dv}(r:Rep H n v d)(s:gk H H'):Rep H' n v d:=by
 induction r with
 | o=>exact .o
 | s=>exact .s
 | i=>exact .i
 | l h hl _ ih=>exact .l (s _ _ h) hl ih
 | t h hl _ ih=>exact .t (s _ _ h) hl ih
theorem Rep.up{H:Hp}{n:Nat}{v:V}{d:Dv}(r:Rep H n v d):Rep H (n+1) v d:=by
 induction r with
 | o=>exact .o
 | s=>exact .s
 | i=>exact .i
 | l h hl _ ih=>exact .l h hl ih
 | t h hl _ ih=>exact .t h hl ih
theorem Rep.mono{H:Hp}{n m:Nat}{v:V}{d:Dv}(r:Rep H n v d)(h:n≤m):Rep H m v d:=by
 obtain⟨k,rfl⟩:=Nat.exists_eq_add_of_le h
 induction k with
 | zero=>exact r
 | succ k ih=>exact(ih (by omega)).up
theorem all_true(n:Nat):((List.range n).all fun _=>true)=true:=by rw[abL];intro x _;rfl
theorem Rep.eq{K:Qqy}{H:Hp}{n:Nat}{u v:V}{d:Dv}(r1:Rep H n u d):Rep H n v d→o3 K H n u v true:=by
 induction r1 generalizing v with
 | @o n=>
  intro r2
  cases r2
  exact o3.flat (K:=K) (H:=H) (n:=n) (x:=V.js) (y:=V.js) rfl rfl
 | @s n x=>
  intro r2
  cases r2
  have:=o3.LB (K:=K) (H:=H) (n:=n) x x
  rw[XZ rfl] at this
  exact this
 | @i n x=>
  intro r2
  cases r2
  have:=o3.QA (K:=K) (H:=H) (n:=n) x x
  rw[XZ rfl] at this
  exact this
 | @l n a vs xs h hl hr ih=>
  intro r2
  cases r2 with
  | @l _ c ws _ h' KY Z0=>
   have:=o3.lists (K:=K) (H:=H) (n:=n) (e:=fun _=>true) (gK.of h) (gK.of h') (hl.trans KY.symm) fun j u v hu hv=>by
    have hj:j<xs.length:=by rw[←hl];exact(Vb.mp hu).1
    exact ih j u _ hu (Y0 hj) (Z0 j v _ hv (Y0 hj))
   rw[all_true] at this
   exact this
 | @t n a vs xs h hl hr ih=>
  intro r2
  cases r2 with
  | @t _ c ws _ h' KY Z0=>
   have:=o3.qm (K:=K) (H:=H) (n:=n) (e:=fun _=>true) (yo.of h) (yo.of h') fun j u v hu hv=>by
    have hj:j<xs.length:=by rw[←hl];exact(Vb.mp hu).1
    exact ih j u _ hu (Y0 hj) (Z0 j v _ hv (Y0 hj))
   rw[all_true,hl,KY,beq_self_eq_true,Bool.and_true] at this
   exact this
theorem Rep.ve{H:Hp}{n:Nat}{a:Addr}{β:Type}{F:V→β→Prop}{g:β→Dv}{vs:List V}{xs:List β}(h:H a=some (.lst vs))(p:Paired F vs xs)(hF:∀v x,F v x→Rep H n v (g x)):Rep H (n+1) (.ref a) (.l (xs.map g)):=by
 refine .l h (by rw[U8];exact aav p) fun j u d hu hd=>?_
 obtain⟨x,hx,f⟩:=iC p hu
 rw[aan,hx] at hd
 cases hd
 exact hF u x f
theorem Rep.strs{H:Hp}{a:Addr}{n:Nat}{l:List Str}(h:H a=some (.lst (gh l))):Rep H (n+1) (.ref a) (.l (l.map Dv.s)):=by
 refine .l h (by rw[U8,U8]) fun j u d hu hd=>?_
 obtain⟨x,hx,rfl⟩:=jW hu
 rw[aan,hx] at hd
 cases hd
 exact .s
theorem Rep.two{H:Hp}{a:Addr}{n:Nat}{u v:V}{x y:Dv}(h:H a=some (.lst [u,v]))(h1:Rep H n u x)(h2:Rep H n v y):Rep H (n+1) (.ref a) (.l [x,y]):=by
 refine .l h rfl fun j u' d hu hd=>?_
 match j with
 | 0=>cases hu;cases hd;exact h1
 | 1=>cases hu;cases hd;exact h2
 | j+2=>simp at hu
end PK
namespace PM
open PySem
theorem Iv{xs l:List Str}(h:l.Sublist xs)(nd:xs.Nodup):(xs.filter fun y=>y∈l)=l:=by
 induction h with
 | slnil=>rfl
 | @cons l1 l2 a h ih=>
  rw[aaY] at nd
  have hn:a∉l1:=fun z=>nd.1 (h.subset z)
  rw[aaj (by simpa using hn)]
  exact ih nd.2
 | @cons_cons l1 l2 a h ih=>
  rw[aaY] at nd
  rw[aae (by simp)]
  congr 1
  rw[←ih nd.2]
  refine abR fun y hy=>?_
  have hya:y≠a:=fun e=>nd.1 (e▸hy)
  rw[ih nd.2]
  simp[hya]
theorem Rv{D:Dk}(I:Inv D){x:Str}(hx:x∈D.names):(D.names.filter fun y=>decide (y=x)||decide (y∈D.iq x))=D.il x++[x]:=by
 obtain⟨q,hq,rfl⟩:=aaO.mp hx
 obtain⟨i,hi⟩:=aaT.mp hq
 have hb:=I.before i q hi
 have e:D.names=(D.made.take i).map (·.nm)++q.nm::(D.made.drop (i+1)).map (·.nm):=by
  have Cd:=(Vb.mp hi).1
  unfold Dk.names
  conv=>lhs;rw[←abw i D.made,aaX Cd,(Vb.mp hi).2]
  rw[aaA,aaB]
 have hn:=I.nd
 unfold Dk.il
 rw[e] at hn ⊢
 rw[aa6,aaY] at hn
 obtain⟨n1,⟨n2,n3⟩,n4⟩:=hn
 have V1:=I.yJ hx
 have hA:∀y∈(D.made.take i).map (·.nm),y≠q.nm:=fun y hy z=>n4 y hy q.nm aaz z
 have hB1:∀y∈(D.made.drop (i+1)).map (·.nm),y≠q.nm:=fun y hy z=>n2 (z▸hy)
 have hB2:∀y∈(D.made.drop (i+1)).map (·.nm),y∉D.iq q.nm:=fun y hy z=>n4 y (hb y z) y (aap _ hy) rfl
 rw[aaQ,aaQ,aae (by simp),aaj (by simpa using V1)]
 have e1:((D.made.take i).map (·.nm)).filter (fun y=>decide (y=q.nm)||decide (y∈D.iq q.nm))=((D.made.take i).map (·.nm)).filter fun y=>decide (y∈D.iq q.nm):=abR fun y hy=>by rw[aac (hA y hy),Bool.false_or]
 have e2:((D.made.drop (i+1)).map (·.nm)).filter (fun y=>decide (y=q.nm)||decide (y∈D.iq q.nm))=[]:=abV.mpr fun y hy=>by simp[hB1 y hy,hB2 y hy]
 have e3:((D.made.drop (i+1)).map (·.nm)).filter (fun y=>decide (y∈D.iq q.nm))=[]:=abV.mpr fun y hy=>by simp[hB2 y hy]
 rw[e1,e2,e3,aaP]
theorem OB{D:Dk}(I:Inv D){x:Str}(hx:x∈D.names):(D.il x++[x]).Sublist D.names:=by
 rw[←Rv I hx];exact aa0
theorem vg{D:Dk}(s:Str){y:Str}(hy:y∈D.names):y∈D.has s↔y∈D.held s:=by
 unfold Dk.has
 simp[aat,hy]
theorem MF{D:Dk}(I:Inv D){s x:Str}(hx:x∈D.names):(D.names.filter fun y=>decide (y∈D.il x++[x])&&!decide (y∈D.has s))=D.lJ s x:=by
 have e:=Iv (OB I hx) I.nd
 unfold Dk.lJ
 conv=>rhs;rw[←e,List.filter_filter]
 refine abR fun y hy=>?_
 have:=vg (D:=D) s hy
 by_cases h1:y∈D.held s
 ·simp[this.mpr h1,h1]
 ·have h2:¬y∈D.has s:=fun z=>h1 (this.mp z)
  simp[h2,h1]
theorem MG{D:Dk}{s x:Str}:(D.names.filter fun y=>decide (y∈D.il x++[x])||decide (y∈D.has s))=(D.take s x).has s:=by
 unfold Dk.has
 refine abR fun y hy=>?_
 show _=decide (y∈(if s=s then D.held s++D.lJ s x else D.held s))
 rw[aax rfl,abp]
 have:=vg (D:=D) s hy
 unfold Dk.has at this
 unfold Dk.lJ
 rw[acn,abJ,abJ,abJ,this]
 by_cases h1:y∈D.held s
 ·simp[h1]
 ·simp[h1]
theorem Iw{D:Dk}{s t x:Str}(h:t≠s):(D.take s x).has t=D.has t:=by
 unfold Dk.has
 refine abR fun y hy=>?_
 show decide (y∈(if t=s then _ else D.held t))=_
 rw[aau h]
theorem MH{D:Dk}{s x:Str}:((D.has s).filter fun y=>!decide (y=x))=(D.drop s x).has s:=by
 unfold Dk.has
 rw[List.filter_filter]
 refine abR fun y hy=>?_
 show _=decide (y∈(if s=s then(D.held s).filter (fun y=>y≠x) else D.held s))
 rw[aax rfl,abp]
 simp[aat,and_comm]
theorem Iy{D:Dk}{s t x:Str}(h:t≠s):(D.drop s x).has t=D.has t:=by
 unfold Dk.has
 refine abR fun y hy=>?_
 show decide (y∈(if t=s then _ else D.held t))=_
 rw[aau h]
theorem JF{D:Dk}(I:Inv D){s x:Str}(hs:s∈D.stores)(hx:x∈D.names):((D.has s).filter fun y=>decide (x∈D.il y))=[]↔∀z∈D.held s,x∉D.iq z:=by
 rw[abV]
 constructor
 ·intro h z hz hxz
  have K8:=(I.l8 s hs z hz).1
  refine h z ((vg s K8).mpr hz) (XZ ?_)
  unfold Dk.il
  exact aat.mpr ⟨hx,XZ hxz⟩
 ·intro h z hz hb
  have K8:z∈D.names:=(aat.mp hz).1
  have:=aaw hb
  unfold Dk.il at this
  exact h z ((vg s K8).mp hz) (aaw (aat.mp this).2)
end PM
namespace PK
open PySem L2 PM
noncomputable def Rw:Option Str→Dv
 | none=>.o
 | some x=>.s x
noncomputable def Yp(n:Nm):Dv:=.t [.s n.1,.i n.2]
noncomputable def optN:Option Nm→Dv
 | none=>.o
 | some n=>Yp n
noncomputable def putD(l:Ln):Dv:=.t [.s l.tx,optN l.up,optN l.lo]
noncomputable def Wr(p:Pt):Dv:=.t [Rw p.file,.l (p.iJ.map putD),.l (p.kR.map Yp),Rw p.other]
theorem SD.rep{H:Hp}{n:Nat}{v:V}{o:Option Str}(h:SD v o):Rep H n v (Rw o):=by
 cases o with
 | none=>have h:v=.js:=h;rw[h];exact .o
 | some x=>have h:v=.str x:=h;rw[h];exact .s
theorem lr.rep{H:Hp}{n:Nat}{v:V}{m:Nm}(h:lr H v m):Rep H (n+1) v (Yp m):=by
 obtain⟨t,rfl,ht⟩:=h
 refine .t ht rfl fun j u d hu hd=>?_
 match j with
 | 0=>cases hu;cases hd;exact .s
 | 1=>cases hu;cases hd;exact .i
 | j+2=>simp at hd
theorem DT.rep{H:Hp}{n:Nat}{v:V}{o:Option Nm}(h:DT H v o):Rep H (n+1) v (optN o):=by
 cases o with
 | none=>have h:v=.js:=h;rw[h];exact .o
 | some x=>exact lr.rep h
section
variable{P:Program}{w:World}{K:Qqy}{mg:Qqx}{base:Heap}{A:Ad}
def Rx(A:Ad):Sp:=fun vs H Q E=>∃(d:Addr)(D:Dk)(W:Addr→Prop)(x:Str),vs=[.ref d,.str x]∧iw A H d D W∧i5 x∧Small D.made∧(x∉D.names→E (.ref A.gr) none H)∧∀pt∈D.made,pt.nm=x→∀p H',gk H H'→H p=none→Rep H' 4 (.ref p) (Wr pt)→Q (.ref p) H'
theorem OC(T:Txt mg)(O:Ok K mg A):ip P w K mg base (tE P w) 2 A.zQ A.zR ["self","patch"] (Rx A):=by
 have nq:=@vR P w K mg base A T O
 refine O.yX.f.rH oW fun jh A0 outer s H vs Q E hr h=>?_
 obtain⟨d,D,W,y,rfl,X,hf,sm,qe,q⟩:=h
 obtain⟨π,x⟩:=id X
 have sz:sizeLine=16777216:=aaF
 refine⟨_,(de (ib (CL bx (pv 0) O.gH O.oK nq hr (a_ (pv 1) d_)))
   (de (lB 2 oW (v_ hr (gF (pv 0) rfl) (pv 1)))
   (de (Be (j:=3) zD (gc pX).names [4] oW.nd rfl rfl rfl (ir (gF (pv 2) rfl)) rfl (by decide+kernel) (fun _ _ _ _=>(iy (i:=4) oW.nd rfl (Or.inl rfl))) (fun _ _ _ _=>mI) (fun _ _ _ _=>zx (yw (a_ (gF (pv 4) rfl) (a_ (gF (pv 4) rfl) (a_ (gF (pv 4) rfl) d_))))))
   (f_ (gP (yw (a_ (gF (pv 2) rfl) (a_ (pv 3) (a_ (uV xm (by rfl) T.yV abW (a_ (gF (pv 2) rfl) d_)) (a_ (gF (pv 2) rfl) d_)))))))))),?_⟩
 refine NP ?_;intro _ _ _
 refine⟨_,rfl,d,π.dx,_,rfl,x.hd,vP,_,rfl,d,D,W,y,rfl,X,hf,fun hy=>?_,fun hy=>qe hy⟩
 obtain⟨pt,FJ,rfl⟩:=aaO.mp hy
 obtain⟨a,z1,⟨dx,vf,pu,cu,vo,g1,g2,⟨as,g3,g4⟩,⟨cs,g5,g6⟩,g7⟩⟩:=x.vm pt FJ
 have ql:pt.iJ.length≤4000:=by
  obtain⟨l1,l2,e⟩:=List.append_of_mem FJ
  have h:=sm.iJ
  rw[e,abF,aaN,Y5,Y5] at h
  have h:_≤4000:=h
  omega
 refine⟨_,rfl,d,A.gw,π.dx,_,_,rfl,x.hd,O.gH,O.iS,oy _ _ _,_,rfl,π.m,.ref a,rfl,?_,?_⟩
 ·have:=iY.k (k:=sk pt.nm) x.hm
  rw[z1] at this
  exact this
 have VF:=aav g4
 let Jv:=fun(i:Nat) (ys:List V) (σ:St) (H2:Hp)=>∃(v:Option V),σ=[rr d,rs pt.nm,rr a,none,v]∧gk H H2∧Paired (fun v l=>Rep H2 2 v (putD l)) ys (pt.iJ.take i)
 refine⟨_,rfl,a,A.gL,dx,_,_,rfl,g1,O.i_,O.jM,B0,pu,rfl,⟨_,gK.of g3⟩,jE (K:=K) (a:=pu) (xs:=as.map V.ref) (by rw[U8];omega) Jv
  ⟨none,rfl,gk.refl _,.nil⟩ (by rintro _ _ _ _ _ ⟨_,_,e,e2⟩;exact⟨gK.of (e _ _ g3),by rw[aav e2,aay];omega⟩) ?_ ?_⟩
 ·rintro i v ys σ H2 hv ⟨v4,rfl,s2,e2⟩
  rw[aan] at hv
  obtain⟨b,hb,rfl⟩:=aaL.mp hv
  obtain⟨l,hl,⟨Nj,vn,vu,vl,k1,k2,k3,k4⟩⟩:=iC g4 hb
  have Z1:=s2 _ _ k1
  refine⟨_,rfl,b,A.gQ,Nj,_,_,rfl,Z1,O.iN,O.jI,xY,_,rfl,b,A.gQ,Nj,_,_,rfl,Z1,O.iN,O.iF,EO,_,rfl,b,A.gQ,Nj,_,_,rfl,Z1,O.iN,O.iG,ER,L2.jc,fun t ht=>?_⟩
  have s3:gk H2 (upd H2 t (.tup [.str l.tx,vu,vl])):=(gk.refl _).new ht
  refine⟨_,rfl,s2.trans s3,?_⟩
  rw[take_snoc hl]
  refine ix (Paired.lA e2 fun _ _ z=>z.same s3) ?_
  refine .t b_ rfl fun j u d hu hd=>?_
  match j with
  | 0=>cases hu;cases hd;exact .s
  | 1=>cases hu;cases hd;exact(k3.same (s2.trans s3)).rep
  | 2=>cases hu;cases hd;exact(k4.same (s2.trans s3)).rep
  | j+3=>simp at hu
 ·rintro ys σ H2 ⟨v4,rfl,s2,e2⟩ p hp
  rw[U8,VF,aam] at e2
  have s3:=s2.new (o:=.lst ys) hp
  have w3:gk H2 (upd H2 p (.lst ys)):=(gk.refl _).new hp
  have u3:(upd H2 p (.lst ys)) p=some (.lst ys):=b_
  generalize upd H2 p (.lst ys)=H3 at s3 u3 w3
  refine⟨_,rfl,a,A.gL,dx,_,_,rfl,s3 _ _ g1,O.i_,O.ky,GY,_,rfl,_,rfl,a,A.gL,dx,_,_,rfl,s3 _ _ g1,O.i_,O.jN,B1,cu,_,rfl,.inl (gK.of (s3 _ _ g5)),fun c hc=>?_⟩
  have w4:gk H3 (upd H3 c (.lst cs)):=(gk.refl _).new hc
  have u4:(upd H3 c (.lst cs)) c=some (.lst cs):=b_
  generalize upd H3 c (.lst cs)=H4 at w4 u4
  have s4:=s3.trans w4
  refine⟨_,rfl,a,A.gL,dx,_,_,rfl,s4 _ _ g1,O.i_,O.iW,rb,L2.jc,fun r oZ=>?_⟩
  have w5:gk H4 (upd H4 r (.tup [vf,.ref p,.ref c,vo])):=(gk.refl _).new oZ
  refine q pt FJ rfl r _ (s4.trans w5) (s4.free oZ) ?_
  refine .t b_ rfl fun j u d hu hd=>?_
  match j with
  | 0=>cases hu;cases hd;exact g2.rep
  | 1=>cases hu;cases hd;exact(Rep.ve ((w4.trans w5) _ _ u3) e2 fun _ _ z=>(z.same w3).same (w4.trans w5))
  | 2=>cases hu;cases hd;exact Rep.ve (n:=2) (w5 _ _ u4) g6 fun _ _ z=>(lr.rep (z.same (s4.trans w5)))
  | 3=>cases hu;cases hd;exact g7.rep
  | j+4=>simp at hu
noncomputable def C6(i:Int):List Bool:=(List.range 9).map fun(k:Nat)=>decide ((k:Int)=i)||decide (k=8)
def Uw:Sp:=fun vs H Q _=>∃(i:Int),vs=[.int i]∧∀p,H p=none→Q (.ref p) (upd H p (.lst ((C6 i).map V.bl)))
theorem Iz(T:Txt mg)(O:Ok K mg A):ip P w K mg base nu 1 A.BU A.BV ["place"] Uw:=by
 refine O.pH.f.rh zH fun jh A outer s H vs Q E hr h=>?_
 obtain⟨i,rfl,q⟩:=h
 refine⟨_,(f_ (gP (xn BK (gc rX).names [1] rfl (lu rfl T.mX (a_ gi d_)) rfl (by decide+kernel) (fun _ _ _ _=>(iy (i:=1) zH.nd rfl (Or.inl rfl))) (fun _ _ _ _=>mI) (fun _ _ _ _=>zx (Tf (mF mE (pv 1) (pv 0) (iu _)) (Qa (mF mE (pv 1) gi (iu _)))))))),?_⟩
 refine⟨_,rfl,by decide,by decide,?_⟩
 let Jv:=fun(m:Nat) (ys:List V) (σ:St) (H3:Hp)=>∃(v:Option V),σ=[ri i,v]∧H3=H∧ys=((List.range m).map fun(k:Nat)=>V.bl (decide ((k:Int)=i)||decide (k=8)))
 refine tN (n:=9) (by decide) Jv ⟨none,rfl,rfl,rfl⟩ (by rintro _ _ _ _ ⟨_,_,_,e⟩;rw[e];simp) ?_ ?_
 ·rintro m ys σ H3 hm ⟨v,rfl,rfl,rfl⟩
  refine⟨_,rfl,_,rfl,rfl,?_⟩
  have key:∀b:Bool,b=(decide ((m:Int)=i)||decide (m=8))→List.map (fun(k:Nat)=>V.bl (decide ((k:Int)=i)||decide (k=8))) (List.range m)++[V.bl b]=List.map (fun(k:Nat)=>V.bl (decide ((k:Int)=i)||decide (k=8))) (List.range (m+1)):=fun b e=>by
   rw[acq,aaA,e];rfl
  refine⟨_,rfl,kU (fun h=>?_) (fun h=>?_)⟩
  ·have h:(0:Int)+(m:Int)=i:=V.int.inj (aaw h)
   exact⟨_,rfl,rfl,key true (by rw[XZ (by omega:(m:Int)=i)];rfl)⟩
  ·have h:¬(m:Int)=i:=fun z=>h (XZ (abb V.int (by omega)))
   refine⟨_,rfl,rfl,some (V.int (0+(m:Int))),rfl,rfl,key _ ?_⟩
   rw[aac h,Bool.false_or]
   by_cases e:m=8
   ·rw[XZ e,XZ (abb V.int (by omega))]
   ·rw[aac e,aac fun z=>e (by have:=V.int.inj z;omega)]
 ·rintro ys σ H3 ⟨v,rfl,rfl,rfl⟩ p hp
  have:=q p hp
  unfold C6 at this
  rw[List.map_map] at this
  exact this
theorem Az:bootBuiltins "ValueError"=some (.type "ValueError"):=by decide+kernel
structure Wh(K:Qqy)(A:Ad)(C:Addr)(i:Int):Prop where
 y:Bq K C
 b0:W.kitOne K (.ref C) (.ref A.iI)=some (decide ((0:Int)=i))
 b1:W.kitOne K (.ref C) (.ref A.gp)=some (decide ((1:Int)=i))
 b2:W.kitOne K (.ref C) (.ref A.gq)=some (decide ((2:Int)=i))
 b3:W.kitOne K (.ref C) (.ref A.gr)=some (decide ((3:Int)=i))
 b4:W.kitOne K (.ref C) (.ref A.jw)=some (decide ((4:Int)=i))
 b5:W.kitOne K (.ref C) (.ref A.iM)=some (decide ((5:Int)=i))
 b6:W.kitOne K (.ref C) (.ref A.lX)=some (decide ((6:Int)=i))
 b7:W.kitOne K (.ref C) (.ref A.gS)=some (decide ((7:Int)=i))
 b8:W.kitOne K (.ref C) (.type "ValueError")=some true
def OD(K:Qqy)(A:Ad):Sp:=fun vs H Q _=>∃(e C:Addr)(i:Int),vs=[.ref e]∧H e=some (J9 e C)∧Wh K A C i∧i≠8∧∀p H',gk H H'→H p=none→H' p=some (.lst ((C6 i).map V.bl))→Q (.ref p) H'
theorem OE{i:Int}(h:i≠8):(C6 i).map V.bl=([V.bl (decide ((0:Int)=i)),V.bl (decide ((1:Int)=i)),V.bl (decide ((2:Int)=i)),V.bl (decide ((3:Int)=i))]++[V.bl (decide ((4:Int)=i)),V.bl (decide ((5:Int)=i)),V.bl (decide ((6:Int)=i)),V.bl (decide ((7:Int)=i))])++[V.bl true]:=by
 unfold C6
 simp[acq]
theorem Ca(T:Txt mg)(O:Ok K mg A):Jh P w K mg base 1 A.xN A.xO ["e"] (OD K A):=by
 refine O.kx.f.Yb qv fun jh A0 outer s H vs Q E hr h=>?_
 obtain⟨e,C,i,rfl,he,W,hi,q⟩:=h
 refine⟨_,(de (lB 1 qv (iA (a_ (gJ lR (by rfl) T.i8 aaR (a_ (pv 0) (a_ (mB (v:=.ref _) (by rfl) O.yZ.m rfl) d_))) (a_ (gJ lR (by rfl) T.i8 aaR (a_ (pv 0) (a_ (mB (v:=.ref _) (by rfl) O.uB.m rfl) d_))) (a_ (gJ lR (by rfl) T.i8 aaR (a_ (pv 0) (a_ (mB (v:=.ref _) (by rfl) O.DS.m rfl) d_))) (a_ (gJ lR (by rfl) T.i8 aaR (a_ (pv 0) (a_ (mB (v:=.ref _) (by rfl) O.y0.m rfl) d_))) d_))))))
  (de (lB 1 qv (gz lG (pv 1) (iA (a_ (gJ lR (by rfl) T.i8 aaR (a_ (pv 0) (a_ (mB (v:=.ref _) (by rfl) O.GW.m rfl) d_))) (a_ (gJ lR (by rfl) T.i8 aaR (a_ (pv 0) (a_ (mB (v:=.ref _) (by rfl) O.Ai.m rfl) d_))) (a_ (gJ lR (by rfl) T.i8 aaR (a_ (pv 0) (a_ (mB (v:=.ref _) (by rfl) O.Ig.m rfl) d_))) (a_ (gJ lR (by rfl) T.i8 aaR (a_ (pv 0) (a_ (mB (v:=.ref _) (by rfl) O.Jo.m rfl) d_))) d_)))))))
  (f_ (gP (gz lG (pv 1) (iA (a_ (gJ lR (by rfl) T.i8 aaR (a_ (pv 0) (a_ (D8 (v:=.ty "ValueError") (by rfl) T.EE Az rfl) d_))) d_))))))),?_⟩
 refine Ei ?_;intro _ _
 refine⟨_,rfl,e,C,_,_,_,rfl,rfl,(fun u h=>h),he,W.y,W.b0,?_⟩
 refine⟨_,rfl,e,C,_,_,_,rfl,rfl,(fun u h=>h),he,W.y,W.b1,?_⟩
 refine⟨_,rfl,e,C,_,_,_,rfl,rfl,(fun u h=>h),he,W.y,W.b2,?_⟩
 refine⟨_,rfl,e,C,_,_,_,rfl,rfl,(fun u h=>h),he,W.y,W.b3,?_⟩
 refine⟨L2.jc,fun l1 RT=>?_⟩
 have s1:∀o,gk H (upd H l1 o):=fun o=>(gk.refl H).new RT
 refine⟨_,rfl,?_⟩
 refine⟨_,rfl,e,C,_,_,_,rfl,rfl,(fun u h=>h),(s1 _ e _ he),W.y,W.b4,?_⟩
 refine⟨_,rfl,e,C,_,_,_,rfl,rfl,(fun u h=>h),(s1 _ e _ he),W.y,W.b5,?_⟩
 refine⟨_,rfl,e,C,_,_,_,rfl,rfl,(fun u h=>h),(s1 _ e _ he),W.y,W.b6,?_⟩
 refine⟨_,rfl,e,C,_,_,_,rfl,rfl,(fun u h=>h),(s1 _ e _ he),W.y,W.b7,?_⟩
 refine⟨L2.jc,fun l2 Hv=>?_⟩
 have s2:=fun o=>gk.new (o:=o) (s1 _) Hv
 refine⟨l1,l2,_,_,rfl,rfl,g_ Hv b_,b_,aah (m:=8) (by simp) (by decide),fun l3 hl3=>?_⟩
 have s3:=fun o=>gk.new (o:=o) (s2 _) hl3
 refine⟨_,rfl,?_⟩
 refine⟨_,rfl,e,C,_,_,_,rfl,rfl,(fun u h=>h),(s3 _ e _ he),W.y,W.b8,?_⟩
 refine⟨L2.jc,fun l4 hl4=>?_⟩
 have s4:=fun o=>gk.new (o:=o) (s3 _) hl4
 refine⟨l3,l4,_,_,rfl,rfl,g_ hl4 b_,b_,aah (m:=9) (by simp) (by decide),fun l5 Vc=>?_⟩
 refine q l5 _ ((s4 _).new Vc) ((s4 _).free Vc) ?_
 rw[OE hi]
 exact b_
def OF:Sp:=fun vs H Q _=>∃(a b:Addr)(x y:List Str),vs=[.ref a,.ref b]∧H a=some (.lst (gh x))∧H b=some (.lst (gh y))∧Q (.bl (decide (x=y))) H
theorem Ry:W.kitOne K (.type "list") (.type "list")=some true:=aax (by decide)
theorem Rz:W.kitOne K (.type "str") (.type "str")=some true:=aax (by decide)
theorem yh(T:Txt mg)(O:Ok K mg A):ip P w K mg base nu 1 A.q_ A.ra ["found","due"] OF:=by
 refine O.pG.f.rh p7 fun jh A outer s H vs Q E hr h=>?_
 obtain⟨a,b,x,y,rfl,ha,hb,q⟩:=h
 refine⟨_,(de (iz ((pw_or (o7 (rA (gJ zv (by rfl) T.i8 aaR (a_ (pv 0) (a_ (D8 (v:=.ty "list") (by rfl) T.yV abW rfl) d_))))) (pw_or1 (ie IU (gJ gD (by rfl) T.jX aaE (a_ (pv 0) d_)) (gJ gD (by rfl) T.jX aaE (a_ (pv 1) d_)) (iu _)))).pt) (f_ (gP nB)) ia)
   (de (iP aaG rfl (ir (pv 0)) (vZ 2 p7) (f_ (iz (o7 (rA (gJ zv (by rfl) T.i8 aaR (a_ (pv 2) (a_ (D8 (v:=.ty "str") (by rfl) T.T6 PyProof.Rows.boot_str rfl) d_))))) (f_ (gP nB)) ia)))
   (f_ (gP (mF (qr 3 (by exact K5 hr)) (pv 0) (pv 1) (iu _)))))),?_⟩
 refine Ei ?_;intro _ _
 refine⟨_,rfl,_,_,_,_,rfl,.lst ha,Ry,_,rfl,jY ?_⟩
 refine⟨_,rfl,a,_,rfl,.inl (gK.of ha),_,rfl,b,_,rfl,.inl (gK.of hb),rfl,_,rfl,?_⟩
 refine kU (fun hc=>?_) (fun hc=>?_)
 ·rw[aac fun z=>?_] at q
  ·exact q
  ·subst z;simp at hc
 ·let Jv:=fun(i:Nat) (σ:St) (H2:Hp)=>∃v,σ=[rr a,rr b,v]∧H2=H
  refine⟨_,rfl,a,rfl,⟨_,gK.of ha⟩,je (K:=K) (a:=a) (xs:=gh x) Jv ⟨none,rfl,rfl⟩ (by rintro _ _ _ _ ⟨_,_,e⟩;subst e;exact gK.of ha) ?_ ?_⟩
  ·rintro i v σ H2 hv ⟨u,rfl,rfl⟩
   obtain⟨z,_,rfl⟩:=jW hv
   refine⟨_,rfl,_,_,_,_,rfl,.str z,Rz,_,rfl,jY ?_⟩
   exact⟨_,rfl,rfl⟩
  ·rintro σ H2 ⟨u,rfl,rfl⟩
   exact⟨_,rfl,_,rfl,_,⟨a,b,rfl,rfl⟩,E8 (gK.of ha) (gK.of hb),q⟩
theorem wz(O:Ok K mg A):Wh K A A.gq 2:=⟨O.Km,O.j8,O.jx,O.j9,O.j_,O.kF,O.jy,O.lL,O.lg,O.uD⟩
theorem Cb(O:Ok K mg A):Wh K A A.gr 3:=⟨O.Kn,O.ke,O.jz,O.ki,O.kj,O.kG,O.jA,O.lM,O.lh,O.uE⟩
theorem MJ(O:Ok K mg A):Wh K A A.gS 7:=⟨O.N7,O.lj,O.ko,O.ll,O.lq,O.lN,O.kq,O.nc,O.ma,O.wq⟩
theorem Fe(O:Ok K mg A):Wh K A A.gp 1:=⟨O.GX,O.jB,O.jf,O.jC,O.jD,O.jR,O.jg,O.kI,O.kl,O.sj⟩
def RA(D:Dk)(s c x:Str)(i:Int):Prop:=(s∉D.stores∨c∉D.stores)∧i=2∨(s∈D.stores∧c∈D.stores)∧x∉D.held c∧i=3
def OG(A:Ad):Sp:=fun vs H Q _=>∃(d:Addr)(D:Dk)(W:Addr→Prop)(π:Dp)(s c x:Str),vs=[.ref d,.str s,.str c,.str x]∧E3 A H d D W π∧Inv D∧rj D.made.length∧i5 s∧i5 c∧i5 x∧
 (∀i r p H',RA D s c x i→gk H H'→H' r=some (.lst [.ref p,.js])→H' p=some (.lst ((C6 i).map V.bl))→Q (.ref r) H')∧
 (s∈D.stores→c∈D.stores→x∈D.held c→∀r l p H',H p=none→H' r=some (.lst [.ref l,.ref p])→H' l=some (.lst [])→H' p=some (.lst (gh (D.lJ s x)))→E3 A H' d (D.take s x) W π→ni (fun b=>b=π.ha s) H H'→Q (.ref r) H')
theorem MK(T:Txt mg)(O:Ok K mg A):ip P w K mg base nu 5 A.xP A.xQ ["desk","store","source","name"] (OG A):=by
 have uS:=@Hd P w K mg base A T O
 have nr:=@Ca P w K mg base A T O
 refine O.BY.f.rh ly fun jh A0 outer s H vs Q E hr h=>?_
 obtain⟨d,D,W,π,st,c,x,rfl,x0,I,jc,fs,fc,fx,qe,q⟩:=h
 refine⟨_,(de (lB 4 ly tG)
   (de (lB 5 ly (iA d_))
   (de (Em (j:=6) ⟨rfl,rfl,rfl⟩ ly.nd rfl rfl O.se.m (by rfl) (fun σ₀ pn E' EX hp=>(f_ (lB 4 ly (Bo (pv 0) O.gH O.u2.t uS (hr.mono (by decide)) O.u2.b .nil hp (a_ (pv 1) (a_ (pv 2) (a_ (pv 3) d_))))))) (fun e=>(f_ (lB 5 ly (Bp nr ((hr.mono (by decide)).hand _) (by rfl) O.kx.m O.kx.f.kp O.kx.b (a_ (pv 6) d_))))))
   (f_ (gP (iA (a_ (pv 5) (a_ (pv 4) d_)))))))),?_⟩
 refine NP ?_;intro _ _ _
 refine⟨L2.jc,fun l hl=>?_⟩
 have s1:gk H (upd H l (.lst [])):=(gk.refl H).new hl
 have u1:(upd H l (.lst [])) l=some (.lst []):=b_
 generalize upd H l (.lst [])=H1 at s1 u1
 have y:=x0.same s1
 have Z2:st∈D.stores→¬l=π.ha st:=fun h z=>by
  obtain⟨_,_,_,_,_,kv,e,_⟩:=y.vh st h
  rw[z,e] at u1;cases u1
 refine⟨rfl,_,rfl,d,π.dx,_,rfl,y.hd,Ju,_,rfl,_,rfl,_,rfl,d,D,W,π,st,c,x,rfl,y,I,jc,fs,fc,fx,fun h=>?_,fun h h2=>?_,fun h h2 h3=>?_,fun h h2 h3 p H2 H3 s2 oA tq X3 x3=>?_⟩
 ·exact⟨_,rfl,O.nY,fun e he=>⟨_,rfl,e,_,_,rfl,b_,wz O,by decide,fun p H4 s4 oA tq=>⟨_,rfl,_,rfl,L2.jc,fun r oZ=>qe 2 r p _ (.inl ⟨.inl h,rfl⟩) (((s1.new he).trans s4).new oZ) b_ (g_ oZ tq)⟩⟩⟩
 ·exact⟨_,rfl,O.nY,fun e he=>⟨_,rfl,e,_,_,rfl,b_,wz O,by decide,fun p H4 s4 oA tq=>⟨_,rfl,_,rfl,L2.jc,fun r oZ=>qe 2 r p _ (.inl ⟨.inr h2,rfl⟩) (((s1.new he).trans s4).new oZ) b_ (g_ oZ tq)⟩⟩⟩
 ·exact⟨_,rfl,O.o4,fun e he=>⟨_,rfl,e,_,_,rfl,b_,Cb O,by decide,fun p H4 s4 oA tq=>⟨_,rfl,_,rfl,L2.jc,fun r oZ=>qe 3 r p _ (.inr ⟨⟨h,h2⟩,h3,rfl⟩) (((s1.new he).trans s4).new oZ) b_ (g_ oZ tq)⟩⟩⟩
 ·refine⟨_,rfl,_,rfl,L2.jc,fun r oZ=>?_⟩
  have x13:ni (fun b=>b=π.ha st) H1 H3:=fun b o e n=>x3 b o (by rw[e_ (gn (s2 _ _ e) oA)];exact s2 _ _ e) n
  have s4:gk H3 (upd H3 r (.lst [.ref l,.ref p])):=(gk.refl _).new oZ
  exact q h h2 h3 r l p _ (s1.free (s2.free oA)) b_ (s4 _ _ (x13 _ _ u1 (Z2 h))) (s4 _ _ tq) (X3.same s4) (fun b o e n=>s4 _ _ (x13 b o (s1 _ _ e) n))
def OH(D:Dk)(s x:Str)(D2:Dk)(ws:List V):Prop:=(∃i,ws=(C6 i).map V.bl∧D2=D∧(s∉D.stores∧i=2∨s∈D.stores∧(x∉D.held s∧i=3∨x∈D.held s∧¬(∀z∈D.held s,x∉D.iq z)∧i=7)))∨(ws=[]∧D2=D.drop s x∧s∈D.stores∧x∈D.held s∧∀z∈D.held s,x∉D.iq z)
def KO(A:Ad):Sp:=fun vs H Q _=>∃(d:Addr)(D:Dk)(W:Addr→Prop)(π:Dp)(s x:Str),vs=[.ref d,.str s,.str x]∧E3 A H d D W π∧Inv D∧rj D.made.length∧i5 s∧i5 x∧(∀z∈D.names,i5 z)∧
 ∀l ws D2 H',OH D s x D2 ws→H' l=some (.lst ws)→E3 A H' d D2 W π→ni (fun b=>s∈D.stores∧b=π.ha s) H H'→Q (.ref l) H'
theorem IA(T:Txt mg)(O:Ok K mg A):ip P w K mg base nu 5 A.uo A.uq ["desk","store","name"] (KO A):=by
 have uR:=@He P w K mg base A T O
 have nr:=@Ca P w K mg base A T O
 refine O.xV.f.rh lb fun jh A0 outer s H vs Q E hr h=>?_
 obtain⟨d,D,W,π,st,x,rfl,x0,I,jc,fs,fx,fz,q⟩:=h
 refine⟨_,(de (lB 3 lb (iA d_))
   (de (Em (j:=4) ⟨rfl,rfl,rfl⟩ lb.nd rfl rfl O.se.m (by rfl) (fun σ₀ pn E' EX hp=>(f_ (iz (ji (rq (Bo (pv 0) O.gH O.u9.t uR (hr.mono (by decide)) O.u9.b .nil hp (a_ (pv 1) (a_ (pv 2) d_))))) (f_ (lB 3 lb (iA (a_ i0 d_)))) ia))) (fun e=>(f_ (lB 3 lb (Bp nr ((hr.mono (by decide)).hand _) (by rfl) O.kx.m O.kx.f.kp O.kx.b (a_ (pv 4) d_))))))
   (f_ (gP (pv 3))))),?_⟩
 refine Ei ?_;intro _ _
 refine⟨L2.jc,fun l hl=>?_⟩
 have s1:gk H (upd H l (.lst [])):=(gk.refl H).new hl
 have u1:(upd H l (.lst [])) l=some (.lst []):=b_
 generalize upd H l (.lst [])=H1 at s1 u1
 have y:=x0.same s1
 have Z2:st∈D.stores→¬l=π.ha st:=fun h z=>by
  obtain⟨_,_,_,_,_,kv,e,_⟩:=y.vh st h
  rw[z,e] at u1;cases u1
 have no:∀{p i H4},gk H H4→H4 p=some (.lst ((C6 i).map V.bl))→_→Q (.ref p) H4:=fun{p i H4} s4 hp h=>q p _ D H4 (.inl ⟨i,rfl,rfl,h⟩) hp (x0.same s4) fun b o e _=>s4 b o e
 refine⟨rfl,_,rfl,d,π.dx,_,rfl,y.hd,Jw,_,rfl,_,rfl,d,D,W,π,st,x,rfl,y,I,jc,fs,fx,fz,fun h=>?_,fun h h2=>?_,fun h h2 h3=>?_,fun h h2 h3 H3 X3 x3=>?_⟩
 ·exact⟨_,rfl,O.nY,fun e he=>⟨_,rfl,e,_,_,rfl,b_,wz O,by decide,fun p H4 s4 oA tq=>⟨_,rfl,no ((s1.new he).trans s4) tq (.inl ⟨h,rfl⟩)⟩⟩⟩
 ·exact⟨_,rfl,O.o4,fun e he=>⟨_,rfl,e,_,_,rfl,b_,Cb O,by decide,fun p H4 s4 oA tq=>⟨_,rfl,no ((s1.new he).trans s4) tq (.inr ⟨h,.inl ⟨h2,rfl⟩⟩)⟩⟩⟩
 ·exact⟨_,rfl,O.xW,fun e he=>⟨_,rfl,e,_,_,rfl,b_,MJ O,by decide,fun p H4 s4 oA tq=>⟨_,rfl,no ((s1.new he).trans s4) tq (.inr ⟨h,.inr ⟨h2,h3,rfl⟩⟩)⟩⟩⟩
 ·exact⟨_,rfl,jY ⟨_,rfl,q l _ _ H3 (.inr ⟨rfl,rfl,h,h2,h3⟩) (x3 _ _ u1 (Z2 h)) X3 fun b o e n=>x3 b o (s1 _ _ e) fun z=>n ⟨h,z⟩⟩⟩
def Ux(A:Ad):Sp:=fun vs H Q _=>∃(d:Addr)(D:Dk)(W:Addr→Prop)(s x:Str),vs=[.ref d,.str s,.str x]∧iw A H d D W∧Inv D∧rj D.made.length∧i5 s∧Good x∧s∈D.stores∧x∈D.names∧∀H',gk H H'→Q (.bl true) H'
theorem ML(T:Txt mg)(O:Ok K mg A):ip P w K mg base nu 6 A.xR A.xS ["desk","store","name"] (Ux A):=by
 have uQ:=@Jy P w K mg base A T O
 have nr:=@Ca P w K mg base A T O
 have lP:=@Iz P w K mg base A T O
 refine O.BZ.f.rh oa fun jh A0 outer s H vs Q E hr h=>?_
 obtain⟨d,D,W,st,x,rfl,X,I,jc,fs,gx,hs,hx,q⟩:=h
 refine⟨_,(de (lB 3 oa (iA d_))
  (de (Em (j:=4) ⟨rfl,rfl,rfl⟩ oa.nd rfl rfl O.se.m (by rfl) (fun σ₀ pn E' EX hp=>(f_ (ib (Bo (pv 0) O.gH O.u0.t uQ (hr.mono (by decide)) O.u0.b .nil hp (a_ (pv 1) (a_ (pv 2) (a_ (pv 2) d_))))))) (fun e=>(f_ (lB 3 oa (Bp nr ((hr.mono (by decide)).hand _) (by rfl) O.kx.m O.kx.f.kp O.kx.b (a_ (pv 4) d_))))))
  (f_ (gP (mF (qr 9 (by exact K5 hr)) (pv 3) (pJ O.pH lP hr (a_ gi d_)) (iu _)))))),?_⟩
 refine Ei ?_;intro _ _
 refine⟨L2.jc,fun l hl=>?_⟩
 have s1:gk H (upd H l (.lst [])):=(gk.refl H).new hl
 generalize upd H l (.lst [])=H1 at s1
 have X1:=X.same s1
 obtain⟨π,y⟩:=id X1
 refine⟨rfl,_,rfl,d,π.dx,_,rfl,y.hd,Jt,_,rfl,_,rfl,_,rfl,d,D,W,st,x,x,rfl,X1,I,jc,fs,gx.yf,gx.yf,fun h=>absurd hs h,fun _ h=>absurd gx h,fun _ _ _ H2 s2=>?_,fun _ _ h=>absurd hx h,fun _ _ h=>absurd hx h⟩
 refine⟨_,rfl,O.ow,fun e he=>?_⟩
 have s3:=(s1.trans s2).new (o:=J9 e A.gp) he
 refine⟨_,rfl,e,_,_,rfl,b_,Fe O,by decide,fun p H4 s4 oA tq=>?_⟩
 refine⟨_,rfl,1,rfl,fun r oZ=>?_⟩
 have s5:=(s3.trans s4).new (o:=.lst ((C6 1).map V.bl)) oZ
 refine⟨_,⟨p,r,rfl,rfl⟩,wy (gK.of (g_ oZ tq)) (gK.of b_),?_⟩
 rw[XZ rfl]
 exact q _ s5
end
section
variable{A:Ad}{H H':Hp}{a:Addr}{Hb:Hp}{d:Addr}{D D':Dk}{W:Addr→Prop}{π:Dp}{hv p:Addr}{ss:List Str}{g:Str→Addr}{f:Str→List Str}{kv:List (Key×V)}
def kL(H H':Hp):Prop:=∀b o,H b=some o→(∀kv,o≠.dK kv)→H' b=some o
theorem lr.oU{v:V}{n:Nm}(x:lr H v n)(s:kL H H'):lr H' v n:=by obtain⟨t,e,h⟩:=x;exact⟨t,e,s _ _ h fun _ z=>by cases z⟩
theorem DT.oU{v:V}{o:Option Nm}(x:DT H v o)(s:kL H H'):DT H' v o:=by
 cases o with
 | none=>exact x
 | some n=>exact lr.oU x s
theorem nv.oU{l:Ln}(x:nv A H a l)(s:kL H H'):nv A H' a l:=by
 obtain⟨dx,vn,vu,vl,h,h1,h2,h3⟩:=x
 exact⟨dx,vn,vu,vl,s _ _ h (fun _ z=>by cases z),h1.oU s,h2.oU s,h3.oU s⟩
theorem pK.oU{ls:List Ln}(x:pK A H a ls)(s:kL H H'):pK A H' a ls:=by
 obtain⟨as,h1,h2⟩:=x
 exact⟨as,s _ _ h1 (fun _ z=>by cases z),Paired.lA h2 fun _ _ z=>z.oU s⟩
theorem xZ.oU{ns:List Nm}(x:xZ H a ns)(s:kL H H'):xZ H' a ns:=by
 obtain⟨vs,h1,h2⟩:=x
 exact⟨vs,s _ _ h1 (fun _ z=>by cases z),Paired.lA h2 fun _ _ z=>z.oU s⟩
theorem oM.oU{p:Pt}(x:oM A H a p)(s:kL H H'):oM A H' a p:=by
 obtain⟨dx,vf,pu,cu,vo,h,h1,h2,h3,h4⟩:=x
 exact⟨dx,vf,pu,cu,vo,s _ _ h (fun _ z=>by cases z),h1,h2.oU s,h3.oU s,h4⟩
structure zb(A:Ad)(Hb H:Hp)(d:Addr)(D D':Dk)(W:Addr→Prop)(π:Dp):Prop where
 b:E3 A Hb d D W π
 made:D'.made=D.made
 iq:D'.iq=D.iq
 stores:D'.stores=D.stores
 inv:Inv D'
 same:∀b o,Hb b=some o→(∀s∈D.stores,b≠π.ha s)→H b=some o
 held:∀s∈D.stores,∃kv:List (Key×V),H (π.ha s)=some (.dK kv)∧kv.map (·.1)=(D'.held s).map sk
theorem zb.names(n:zb A Hb H d D D' W π):D'.names=D.names:=by unfold Dk.names;rw[n.made]
theorem zb.il(n:zb A Hb H d D D' W π)(x:Str):D'.il x=D.il x:=by unfold Dk.il;rw[n.names,n.iq]
theorem zb.at(n:zb A Hb H d D D' W π):E3 A H d D' W π:=by
 have sN:kL Hb H:=fun b o e h=>n.same b o e fun s hs z=>by
  obtain⟨_,_,_,_,_,kv,e2,_⟩:=n.b.vh s hs
  rw[z,e2] at e
  cases e
  exact h _ rfl
 exact{
  hd:=sN _ _ n.b.hd (fun _ z=>by cases z)
  hm:=n.same _ _ n.b.hm fun s hs z=>(n.b.vh s hs).2.2.1 z.symm
  hn:=n.same _ _ n.b.hn fun s hs z=>(n.b.vh s hs).2.2.2.1 z.symm
  hh:=n.same _ _ n.b.hh fun s hs z=>(n.b.vh s hs).2.2.2.2.1 z.symm
  mn:=n.b.mn
  mh:=n.b.mh
  nh:=n.b.nh
  wm:=n.b.wm
  wn:=n.b.wn
  wh:=n.b.wh
  km:=by rw[n.names];exact n.b.km
  vm:=fun p hp=>by
   rw[n.made] at hp
   obtain⟨a,h1,h2⟩:=n.b.vm p hp
   exact⟨a,h1,h2.oU sN⟩
  kn:=by rw[n.names];exact n.b.kn
  vn:=fun y hy=>by
   rw[n.names] at hy
   obtain⟨a,kv,l,h1,h2,h3,h4⟩:=n.b.vn y hy
   rw[n.iq]
   exact⟨a,kv,l,h1,h2,n.same _ _ h3 fun s hs z=>h2 (by rw[z];exact(n.b.vh s hs).2.1),h4⟩
  kh:=by rw[n.stores];exact n.b.kh
  vh:=fun s hs=>by
   rw[n.stores] at hs
   obtain⟨h1,h2,h3,h4,h5,_⟩:=n.b.vh s hs
   exact⟨h1,h2,h3,h4,h5,n.held s hs⟩
  inj:=by rw[n.stores];exact n.b.inj
  dk:=fun b hb=>by
   by_cases e:∃s∈D.stores,b=π.ha s
   ·obtain⟨s,hs,rfl⟩:=e
    obtain⟨kv,h,_⟩:=n.held s hs
    exact⟨kv,h⟩
   ·obtain⟨kv,h⟩:=n.b.dk b hb
    exact⟨kv,n.same _ _ h fun s hs z=>e ⟨s,hs,z⟩⟩}
theorem zb.step(n:zb A Hb H d D D' W π)(h:∀b o,H b=some o→Hb b≠none→H' b=some o):zb A Hb H' d D D' W π:=
 {n with
  same:=fun b o e z=>h b o (n.same b o e z) (by rw[e];exact fun z=>by cases z)
  held:=fun s hs=>by
   obtain⟨kv,e1,e2⟩:=n.held s hs
   obtain⟨_,_,_,_,_,VP,e3,_⟩:=n.b.vh s hs
   exact⟨kv,h _ _ e1 (by rw[e3];exact fun z=>by cases z),e2⟩}
theorem zb.next(n:zb A Hb H d D D' W π)(s:gk H H'):zb A Hb H' d D D' W π:=n.step fun b o e _=>s b o e
theorem zb.put{s:Str}{l:List Str}(n:zb A Hb H d D D' W π)(hs:s∈D.stores)(y:E3 A H' d (PK.vt D' s l) W π)(x:ni (fun b=>b=π.ha s) H H')(I:Inv (PK.vt D' s l)):zb A Hb H' d D (PK.vt D' s l) W π:=
 {b:=n.b
  made:=n.made
  iq:=n.iq
  stores:=n.stores
  inv:=I
  same:=fun b o e z=>x b o (n.same b o e z) (z s hs)
  held:=fun t ht=>(y.vh t (by show t∈D'.stores;rw[n.stores];exact ht)).2.2.2.2.2}
structure zc(H:Hp)(hv:Addr)(ss:List Str)(g:Str→Addr)(f:Str→List Str)(kv:List (Key×V)):Prop where
 at_:H hv=some (.dK kv)
 keys:kv.map (·.1)=ss.map sk
 val:∀s∈ss,iV kv (sk s)=some (.ref (g s))∧H (g s)=some (.lst (gh (f s)))
theorem zc.has(h:zc H hv ss g f kv)(x:Str):(iV kv (sk x)).isSome=decide (x∈ss):=kJ h.keys x
theorem zc.get(h:zc H hv ss g f kv){s:Str}(hs:s∈ss):iY H hv (.str s) (some (.ref (g s))):=by
 have:=iY.k (k:=sk s) h.at_
 rw[(h.val s hs).1] at this
 exact this
theorem zc.same(h:zc H hv ss g f kv)(s:gk H H'):zc H' hv ss g f kv:=⟨s _ _ h.at_,h.keys,fun t ht=>⟨(h.val t ht).1,s _ _ (h.val t ht).2⟩⟩
theorem zc.step(h:zc H hv ss g f kv)(s:∀b o,H b=some o→(b=hv∨∀kv,o≠.dK kv)→H' b=some o):zc H' hv ss g f kv:=⟨s _ _ h.at_ (.inl rfl),h.keys,fun t ht=>⟨(h.val t ht).1,s _ _ (h.val t ht).2 (.inr fun _ z=>by cases z)⟩⟩
theorem zc.put{s:Str}{l:List Str}(h:zc H hv ss g f kv)(hs:s∈ss)(hp:H p=some (.lst (gh l))):zc (upd H hv (.dK (putK kv (sk s) (.ref p)))) hv ss (fun t=>if t=s then p else g t) (fun t=>if t=s then l else f t) (putK kv (sk s) (.ref p)):=by
 have tm:∀{b:Addr} {vs:List V},H b=some (.lst vs)→b≠hv:=fun{b vs} e z=>by rw[z,h.at_] at e;cases e
 refine⟨b_,Kw h.keys hs _,fun t ht=>?_⟩
 rw[j0]
 by_cases e:t=s
 ·rw[aax (by rw[e]),aax e,aax e]
  exact⟨rfl,by rw[e_ (tm hp)];exact hp⟩
 ·rw[aau (fun z=>e (ab9 z)),aau e,aau e]
  exact⟨(h.val t ht).1,by rw[e_ (tm (h.val t ht).2)];exact(h.val t ht).2⟩
theorem zc.new{s:Str}(h:zc H hv ss g f kv)(hs:s∉ss)(hp:H p=some (.lst (gh (f s)))):zc (upd H hv (.dK (putK kv (sk s) (.ref p)))) hv (ss++[s]) (fun t=>if t=s then p else g t) f (putK kv (sk s) (.ref p)):=by
 have tm:∀{b:Addr} {vs:List V},H b=some (.lst vs)→b≠hv:=fun{b vs} e z=>by rw[z,h.at_] at e;cases e
 refine⟨b_,o6 h.keys hs _,fun t ht=>?_⟩
 rw[j0]
 by_cases e:t=s
 ·subst e
  rw[aax rfl,aax rfl]
  exact⟨rfl,by rw[e_ (tm hp)];exact hp⟩
 ·rw[aau (fun z=>e (ab9 z)),aau e]
  have Nk:t∈ss:=(aaf.mp ht).elim id fun z=>absurd (Yc.mp z) e
  exact⟨(h.val t Nk).1,by rw[e_ (tm (h.val t Nk).2)];exact(h.val t Nk).2⟩
end
theorem jT(x:Str):∀l:List Str,Dw (.str x) (gh l)=decide (x∈l):=by
 intro l
 unfold Dw
 rw[abp,List.any_map,List.any_eq_true,abJ]
 constructor
 ·rintro⟨y,hy,e⟩
  have e:(y ==x)=true:=e
  rw[←eq_of_beq e];exact hy
 ·exact fun h=>⟨x,h,by show(x ==x)=true;exact beq_self_eq_true x⟩
theorem eq_nil{K:Qqy}{H:Hp}{n:Nat}{a c:Addr}(h1:H a=some (.lst []))(h2:H c=some (.lst [])):o3 K H (n+1) (.ref a) (.ref c) true:=
 o3.lists (e:=fun _=>true) (gK.of h1) (gK.of h2) rfl fun j u v h=>by simp at h
theorem yi{xs:List Str}{f:Str→Bool}{i:Nat}{z:Str}{zs:List Str}{b:Bool}(hz:xs[i]?=some z)(e3:zs=(xs.take i).filter f)(e:b=f z):(xs.take (i+1)).filter f=if b=true then zs++[z] else zs:=by
 rw[take_snoc hz,aaQ,←e3,e]
 by_cases h:f z=true
 ·rw[aax h,aae h,aa2]
 ·rw[aau h,aaj h,aa2,aaP]
theorem Pn{A:Ad}{Hb H H1:Hp}{d hv:Addr}{D D':Dk}{W:Addr→Prop}{π:Dp}{st:Str}{g:Str→Addr}{kv:List (Key×V)}(n:zb A Hb H d D D' W π)(hb:Hb hv=none)(h:zc H hv D.stores g D'.has kv)(x1:ni (fun b=>st∈D.stores∧b=π.ha st) H H1):zc H1 hv D.stores g D'.has kv∧kL H H1:=by
 have haN:∀b o,H b=some o→(b=hv∨∀kv,o≠.dK kv)→¬(st∈D.stores∧b=π.ha st):=fun b o e z1 ⟨wB,z2⟩=>by
  obtain⟨VP,e2,_⟩:=n.held st wB
  rcases z1 with z1|z1
  ·obtain⟨_,_,_,_,_,kb,e3,_⟩:=n.b.vh st wB
   rw[←z2,z1,hb] at e3;cases e3
  ·rw[z2,e2] at e;cases e;exact z1 _ rfl
 exact⟨h.step fun b o e z=>x1 b o e (haN b o e z),fun b o e z=>x1 b o e (haN b o e (.inr z))⟩
theorem book{A:Ad}{Hb H H1 H9:Hp}{d hv nl:Addr}{D D' D2:Dk}{W:Addr→Prop}{π:Dp}{st:Str}{g:Str→Addr}{kv:List (Key×V)}(hb:Hb hv=none)(n1:zb A Hb H1 d D D2 W π)(S8:kL H H1)(t:gk H1 H9)(h9:zc H9 hv D.stores g D'.has kv)(hs:st∈D.stores)(u:H9 nl=some (.lst (gh (D2.has st))))(ho:∀t,t≠st→D2.has t=D'.has t):zb A Hb (upd H9 hv (.dK (putK kv (sk st) (.ref nl)))) d D D2 W π∧kL H (upd H9 hv (.dK (putK kv (sk st) (.ref nl))))∧zc (upd H9 hv (.dK (putK kv (sk st) (.ref nl)))) hv D.stores (fun t=>if t=st then nl else g t) D2.has (putK kv (sk st) (.ref nl))∧∀{b:Addr} {vs:List V},H9 b=some (.lst vs)→(upd H9 hv (.dK (putK kv (sk st) (.ref nl)))) b=some (.lst vs):=by
 refine⟨(n1.next t).step fun b o e z=>by rw[e_ (fun w=>z (by rw[w];exact hb))];exact e,fun b o e z=>?_,?_,fun{b vs} e=>?_⟩
 ·have e9:=t _ _ (S8 b o e z)
  rw[e_ (fun w=>by rw[w,h9.at_] at e9;cases e9;exact z _ rfl)];exact e9
 ·have e:(fun t=>if t=st then D2.has st else D'.has t)=D2.has:=by
   funext t
   by_cases z:t=st
   ·rw[aax z,z]
   ·rw[aau z,ho t z]
  rw[←e]
  exact h9.put hs u
 ·rw[e_ (fun z=>by rw[z,h9.at_] at e;cases e)];exact e
section
variable{P:Program}{w:World}{K:Qqy}{mg:Qqx}{base:Heap}{A:Ad}
def OI(A:Ad):Sp:=fun vs H Q _=>∃(Hb:Hp)(d hv:Addr)(D D':Dk)(W:Addr→Prop)(π:Dp)(s c x:Str)(g:Str→Addr)(kv:List (Key×V)),vs=[.ref d,.ref hv,.str s,.str c,.str x]∧zb A Hb H d D D' W π∧rj D.made.length∧D.stores.length≤1000∧i5 s∧i5 c∧i5 x∧Hb hv=none∧zc H hv D.stores g D'.has kv∧∀H' D2 g' R_,zb A Hb H' d D D2 W π→zc H' hv D.stores g' D2.has R_→kL H H'→Q (.bl true) H'
theorem C7(T:Txt mg)(O:Ok K mg A):ip P w K mg base nu 8 A.qd A.qf ["desk","having","store","source","name"] (OI A):=by
 have Fl:=@MK P w K mg base A T O
 have lP:=@Iz P w K mg base A T O
 have n5:=@yh P w K mg base A T O
 have ku:=(@yc P w K mg base A T O).Jd
 have kQ:=@B7 P w K mg base A T O
 refine O.tf.f.rh jk fun jh A0 outer s H vs Q E hr h=>?_
 obtain⟨Hb,d,hv,D,D',W,π,st,c,x,g,kv,rfl,n,jc,fst,fs,fc,fx,hb,h,q⟩:=h
 have sz:sizeLine=16777216:=aaF
 have wA:rj D'.made.length:=by rw[n.made];exact jc
 have y:=n.at
 refine⟨_,(de (lB 5 jk (pJ O.BY Fl hr (a_ (pv 0) (a_ (pv 2) (a_ (pv 3) (a_ (pv 4) d_))))))
   (de (iz ((pw_or (ji (kD (by exact iO hr) (pv 2) (pv 1))) (pw_or1 (ji (kD (by exact iO hr) (pv 3) (pv 1))))).pt) (f_ (gP (mF (qr 9 (by exact K5 hr)) (uX (pv 5) gi) (pJ O.pH lP hr (a_ gi d_)) (iu _)))) ia)
   (de (iz (ie rC (pv 4) (v_ hr (pv 1) (pv 3)) rfl) (f_ (gP (mF (qr 9 (by exact K5 hr)) (uX (pv 5) gi) (pJ O.pH lP hr (a_ gi d_)) (iu _)))) ia)
   (de (mD (i:=6) jk.nd rfl (Or.inr rfl) (gz lG (zw (pv 0) O.gH O.nX ku hr (a_ (pv 4) d_)) (iA (a_ (pv 4) d_))))
   (de (Bf (j:=7) mV (gc j1).names [8] jk.nd rfl rfl rfl (ir (o8 (pv 0) O.gH O.i9.t kQ (hr.mono (by decide)) O.i9.b .nil nF)) rfl (by decide+kernel) (fun _ _ _ _=>(iy (i:=8) jk.nd rfl (Or.inl rfl))) (fun _ _ _ _=>⟨_,nK ((pw_and (ie qG (pv 8) (pv 6) rfl) (pw_and1 (ie rC (pv 8) (v_ hr (pv 1) (pv 2)) rfl))).pt),by(try simp only [kW]);rfl⟩) (fun _ _ _ _=>zx (pv 8)))
   (de (jm (by exact iO hr) (pv 1) (pv 2) (tM mV (gc j1).names [8] rfl (ir (o8 (pv 0) O.gH O.i9.t kQ (hr.mono (by decide)) O.i9.b .nil nF)) rfl (by decide+kernel) (fun _ _ _ _=>(iy (i:=8) jk.nd rfl (Or.inl rfl))) (fun _ _ _ _=>⟨_,nK ((pw_or (ie qG (pv 8) (pv 6) rfl) (pw_or1 (ie qG (pv 8) (v_ hr (pv 1) (pv 2)) rfl))).pt),by(try simp only [kW]);rfl⟩) (fun _ _ _ _=>zx (pv 8))) rfl)
   (de (iz ((pw_or (ie (LA 9 (by exact K5 hr)) (uX (pv 5) gi) (iA d_) (iu _)) (pw_or1 (o7 (rA (pJ O.pG n5 hr (a_ (uX (pv 5) gi) (a_ (pv 7) d_))))))).pt) (f_ (gP nB)) ia)
   (de (ib (qH aaW aa3 aa4 lx (uX (pv 5) gi) (a_ (pv 4) d_)))
   (f_ (gP nB)))))))))),?_⟩
 refine X_ ?_;intro _ _ _ _ _ _ _ _
 refine⟨_,rfl,_,rfl,_,rfl,_,rfl,d,D',W,π,st,c,x,rfl,y,n.inv,wA,fs,fc,fx,fun i r p H1 WH s1 Cg tq=>?_,fun hs hc hx r l p H1 oA Cg RT tq y1 x1=>?_⟩
 ·have h1:=h.same s1
  have fin:∀H2,gk H1 H2→Q (.bl true) H2:=fun H2 s2=>q H2 D' g kv (n.next (s1.trans s2)) (h.same (s1.trans s2)) fun b o e _=>(s1.trans s2) b o e
  refine⟨_,rfl,_,rfl,hv,_,rfl,iY.k (k:=sk st) h1.at_,?_⟩
  rw[h1.has]
  by_cases hs:st∈D.stores
  ·rw[XZ hs]
   refine⟨_,rfl,jY ?_⟩
   refine⟨_,rfl,_,rfl,hv,_,rfl,iY.k (k:=sk c) h1.at_,?_⟩
   rw[h1.has]
   by_cases hc:c∈D.stores
   ·rw[XZ hc]
    refine⟨_,rfl,jY ?_⟩
    obtain⟨hx,rfl⟩:x∉D'.held c∧i=3:=by
     rcases WH with⟨hn,rfl⟩|⟨_,hx,rfl⟩
     ·rw[n.stores] at hn
      exact absurd hn fun z=>z.elim (fun z=>z hs) (fun z=>z hc)
     ·exact⟨hx,rfl⟩
    refine⟨_,rfl,_,rfl,_,rfl,hv,.ref (g c),rfl,h1.get hc,g c,_,rfl,.inl (gK.of (h1.val c hc).2),rfl,by simp[gh,kS],_,rfl,?_⟩
    have e3:Dw (.str x) (gh (D'.has c))=false:=by
     rw[jT,aac]
     exact fun z=>hx (aaw (aat.mp z).2)
    refine DG (by show(!Dw (.str x) (gh (D'.has c)))=true;rw[e3];rfl) ?_
    refine⟨_,rfl,r,_,_,_,rfl,rfl,gK.of Cg,iE (j:=0) (v:=V.ref p) rfl rfl,3,rfl,fun q3 FH=>?_⟩
    refine⟨_,⟨p,q3,rfl,rfl⟩,wy (gK.of (g_ FH tq)) (gK.of b_),?_⟩
    rw[XZ rfl]
    exact fin _ ((gk.refl _).new FH)
   ·rw[aac hc]
    obtain rfl:i=2:=by
     rcases WH with⟨_,rfl⟩|⟨⟨_,z⟩,_⟩
     ·rfl
     ·rw[n.stores] at z;exact absurd z hc
    refine⟨_,rfl,mx ?_⟩
    refine⟨_,rfl,r,_,_,_,rfl,rfl,gK.of Cg,iE (j:=0) (v:=V.ref p) rfl rfl,2,rfl,fun q3 FH=>?_⟩
    refine⟨_,⟨p,q3,rfl,rfl⟩,wy (gK.of (g_ FH tq)) (gK.of b_),?_⟩
    rw[XZ rfl]
    exact fin _ ((gk.refl _).new FH)
  ·rw[aac hs]
   obtain rfl:i=2:=by
    rcases WH with⟨_,rfl⟩|⟨⟨z,_⟩,_⟩
    ·rfl
    ·rw[n.stores] at z;exact absurd z hs
   refine⟨_,rfl,mx (mx ?_)⟩
   refine⟨_,rfl,r,_,_,_,rfl,rfl,gK.of Cg,iE (j:=0) (v:=V.ref p) rfl rfl,2,rfl,fun q3 FH=>?_⟩
   refine⟨_,⟨p,q3,rfl,rfl⟩,wy (gK.of (g_ FH tq)) (gK.of b_),?_⟩
   rw[XZ rfl]
   exact fin _ ((gk.refl _).new FH)
 ·have wB:st∈D.stores:=by rw[←n.stores];exact hs
  have UC:c∈D.stores:=by rw[←n.stores];exact hc
  have CN:x∈D'.names:=(n.inv.l8 c hc x hx).1
  have n1:zb A Hb H1 d D (D'.take st x) W π:=n.put wB y1 x1 (n.inv.take hs CN)
  obtain⟨h1,S8⟩:=Pn (st:=st) n hb h fun b o e z=>x1 b o e fun w=>z ⟨wB,w⟩
  have IC:D'.names.length=D'.made.length:=by unfold Dk.names;rw[U8]
  have De:D'.made.length≤4000:=wA
  have WU:(D'.il x).length≤D'.names.length:=aaH _ _
  refine⟨_,rfl,_,rfl,hv,_,rfl,iY.k (k:=sk st) h1.at_,?_⟩
  rw[h1.has,XZ wB]
  refine⟨_,rfl,jY ?_⟩
  refine⟨_,rfl,_,rfl,hv,_,rfl,iY.k (k:=sk c) h1.at_,?_⟩
  rw[h1.has,XZ UC]
  refine⟨_,rfl,jY ?_⟩
  refine⟨_,rfl,_,rfl,_,rfl,hv,.ref (g c),rfl,h1.get UC,g c,_,rfl,.inl (gK.of (h1.val c UC).2),rfl,by simp[gh,kS],_,rfl,?_⟩
  refine Jj (by show(!Dw (.str x) (gh (D'.has c)))=false;rw[jT,XZ ((vg c CN).mpr hx)];rfl) ?_
  refine⟨_,rfl,d,π.dx,_,rfl,y1.hd,uM,_,rfl,d,D'.take st x,W,x,rfl,⟨π,y1⟩,fx,wA,fun h=>absurd CN h,fun _ p1 Z3=>?_⟩
  rw[show(D'.take st x).il x=D'.il x from rfl]
  have t1:gk H1 (upd H1 p1 (.lst (gh (D'.il x)))):=(gk.refl H1).new Z3
  refine⟨_,rfl,L2.jc,fun b SH=>?_⟩
  have t2:=t1.new (o:=.lst [V.str x]) SH
  refine⟨p1,b,_,_,rfl,rfl,g_ SH b_,b_,by rw[U8];show _+1≤_;omega,fun wt PJ=>?_⟩
  have t3:=t2.new (o:=.lst (gh (D'.il x)++[V.str x])) PJ
  have Sb:(upd (upd (upd H1 p1 (.lst (gh (D'.il x)))) b (.lst [V.str x])) wt (.lst (gh (D'.il x)++[V.str x]))) wt=some (.lst (gh (D'.il x++[x]))):=by rw[b_,iK]
  generalize upd (upd (upd H1 p1 (.lst (gh (D'.il x)))) b (.lst [V.str x])) wt (.lst (gh (D'.il x)++[V.str x]))=H3 at t3 Sb
  have h3:=h1.same t3
  have y3:=y1.same t3
  refine⟨_,rfl,d,π.dx,_,rfl,y3.hd,pI,d,D'.take st x,W,rfl,⟨π,y3⟩,fun p2 AX=>?_⟩
  have t4:gk H3 (upd H3 p2 (.lst (gh D'.names))):=(gk.refl _).new AX
  have u4:(upd H3 p2 (.lst (gh D'.names))) p2=some (.lst (gh D'.names)):=b_
  rw[show(D'.take st x).names=D'.names from rfl]
  generalize upd H3 p2 (.lst (gh D'.names))=H4 at t4 u4
  have h4:=h3.same t4
  have hw4:=t4 _ _ Sb
  let Jv:=fun(i:Nat) (ys:List V) (σ:St) (H5:Hp)=>∃(v8:Option V)(zs:List Str),σ=[rr d,rr hv,rs st,rs c,rs x,rr r,rr wt,none,v8]∧H5=H4∧ys=gh zs∧zs=(D'.names.take i).filter fun y=>decide (y∈D'.il x++[x])&&!decide (y∈D'.has st)
  refine⟨p2,rfl,⟨_,gK.of u4⟩,jE (K:=K) (a:=p2) (xs:=gh D'.names) (by rw[U8];omega) Jv
   ⟨none,[],rfl,rfl,rfl,rfl⟩ (by rintro _ _ _ _ _ ⟨_,zs,_,e,e2,e3⟩;rw[e,e2,e3];exact⟨gK.of u4,by rw[U8];exact aah (aaH _ _) (by rw[aay];omega)⟩) ?_ ?_⟩
  ·rintro i v ys σ H5 hi ⟨v8,zs,rfl,rfl,rfl,e3⟩
   obtain⟨z,hz,rfl⟩:=jW hi
   have put:=fun b e=>yi (f:=fun y=>decide (y∈D'.il x++[x])&&!decide (y∈D'.has st)) (b:=b) hz e3 e
   refine⟨_,rfl,_,rfl,wt,_,rfl,.inl (gK.of hw4),rfl,by simp[gh,kS],_,rfl,?_⟩
   refine kU (fun hb=>?_) (fun hb=>?_)
   ·have hb:Dw (.str z) (gh (D'.il x++[x]))=true:=hb
    rw[jT] at hb
    refine⟨_,rfl,_,rfl,_,rfl,hv,.ref (g st),rfl,h4.get wB,g st,_,rfl,.inl (gK.of (h4.val st wB).2),rfl,by simp[gh,kS],_,rfl,?_⟩
    refine kU (fun ze=>?_) (fun ze=>?_)
    ·have ze:(!Dw (.str z) (gh (D'.has st)))=true:=ze
     rw[jT] at ze
     exact⟨_,rfl,_,_,rfl,rfl,iK _ _,(put true (by show _=(_&&_);rw[hb,ze];rfl)).symm⟩
    ·have ze:¬(!Dw (.str z) (gh (D'.has st)))=true:=ze
     rw[jT] at ze
     exact⟨_,_,rfl,rfl,rfl,(put false (by show _=(_&&_);rw[hb,aa8.mpr ze];rfl)).symm⟩
   ·have hb:¬Dw (.str z) (gh (D'.il x++[x]))=true:=hb
    rw[jT] at hb
    exact⟨_,_,rfl,rfl,rfl,(put false (by show _=(_&&_);rw[aa8.mpr hb];rfl)).symm⟩
  rintro ys σ H5 ⟨v8,zs,rfl,rfl,rfl,e3⟩ du hdu
  rw[U8,aam,MF n.inv CN] at e3
  subst e3
  have t5:gk H5 (upd H5 du (.lst (gh (D'.lJ st x)))):=(gk.refl _).new hdu
  have u5:(upd H5 du (.lst (gh (D'.lJ st x)))) du=some (.lst (gh (D'.lJ st x))):=b_
  generalize upd H5 du (.lst (gh (D'.lJ st x)))=H6 at t5 u5
  have V2:=t4.trans t5
  have h6:=h3.same V2
  have hw6:=V2 _ _ Sb
  have y6:=y3.same V2
  refine⟨_,rfl,d,π.dx,_,rfl,y6.hd,pI,d,D'.take st x,W,rfl,⟨π,y6⟩,fun p3 hp3=>?_⟩
  have t7:gk H6 (upd H6 p3 (.lst (gh D'.names))):=(gk.refl _).new hp3
  have u7:(upd H6 p3 (.lst (gh D'.names))) p3=some (.lst (gh D'.names)):=b_
  rw[show(D'.take st x).names=D'.names from rfl]
  generalize upd H6 p3 (.lst (gh D'.names))=H7 at t7 u7
  have h7:=h6.same t7
  have hw7:=t7 _ _ hw6
  let Jv:=fun(i:Nat) (ys:List V) (σ:St) (H8:Hp)=>∃(v8:Option V)(zs:List Str),σ=[rr d,rr hv,rs st,rs c,rs x,rr r,rr wt,rr du,v8]∧H8=H7∧ys=gh zs∧zs=(D'.names.take i).filter fun y=>decide (y∈D'.il x++[x])||decide (y∈D'.has st)
  refine⟨p3,rfl,⟨_,gK.of u7⟩,jE (K:=K) (a:=p3) (xs:=gh D'.names) (by rw[U8];omega) Jv
   ⟨none,[],rfl,rfl,rfl,rfl⟩ (by rintro _ _ _ _ _ ⟨_,zs,_,e,e2,e3⟩;rw[e,e2,e3];exact⟨gK.of u7,by rw[U8];exact aah (aaH _ _) (by rw[aay];omega)⟩) ?_ ?_⟩
  ·rintro i v ys σ H8 hi ⟨v8,zs,rfl,rfl,rfl,e3⟩
   obtain⟨z,hz,rfl⟩:=jW hi
   have put:=fun b e=>yi (f:=fun y=>decide (y∈D'.il x++[x])||decide (y∈D'.has st)) (b:=b) hz e3 e
   refine⟨_,rfl,_,rfl,wt,_,rfl,.inl (gK.of hw7),rfl,by simp[gh,kS],_,rfl,?_⟩
   refine kU (fun hb=>?_) (fun hb=>?_)
   ·have hb:Dw (.str z) (gh (D'.il x++[x]))=true:=hb
    rw[jT] at hb
    exact⟨_,rfl,_,_,rfl,rfl,iK _ _,(put true (by show _=(_||_);rw[hb];rfl)).symm⟩
   ·have hb:¬Dw (.str z) (gh (D'.il x++[x]))=true:=hb
    rw[jT] at hb
    refine⟨_,rfl,_,rfl,_,rfl,hv,.ref (g st),rfl,h7.get wB,g st,_,rfl,.inl (gK.of (h7.val st wB).2),rfl,by simp[gh,kS],_,rfl,?_⟩
    refine kU (fun ze=>?_) (fun ze=>?_)
    ·have ze:Dw (.str z) (gh (D'.has st))=true:=ze
     rw[jT] at ze
     exact⟨_,rfl,_,_,rfl,rfl,iK _ _,(put true (by show _=(_||_);rw[ze,Bool.or_true])).symm⟩
    ·have ze:¬Dw (.str z) (gh (D'.has st))=true:=ze
     rw[jT] at ze
     exact⟨_,_,rfl,rfl,rfl,(put false (by show _=(_||_);rw[aa8.mpr hb,aa8.mpr ze];rfl)).symm⟩
  rintro ys σ H8 ⟨v8,zs,rfl,rfl,rfl,e3⟩ nl IC
  rw[U8,aam,MG] at e3
  subst e3
  have t8:gk H8 (upd H8 nl (.lst (gh ((D'.take st x).has st)))):=(gk.refl _).new IC
  have u8:(upd H8 nl (.lst (gh ((D'.take st x).has st)))) nl=some (.lst (gh ((D'.take st x).has st))):=b_
  generalize upd H8 nl (.lst (gh ((D'.take st x).has st)))=H9 at t8 u8
  have OY:=((t3.trans V2).trans t7).trans t8
  have h9:=h1.same OY
  have Hx:=jO h9.keys
  refine⟨_,rfl,_,rfl,hv,_,rfl,nJ.k (k:=sk st) h9.at_ (by omega),?_⟩
  obtain⟨Xg,OZ,Hr,IL⟩:=book hb n1 S8 OY h9 wB u8 fun t z=>Iw z
  have O0:=IL (OY _ _ Cg)
  have O1:=IL (OY _ _ RT)
  have M8:=IL (OY _ _ tq)
  have V3:=IL (t8 _ _ (t7 _ _ u5))
  have hnp:p≠nl:=gn (t7 _ _ (V2 _ _ (t3 _ _ tq))) IC
  have gN:∀t∈D.stores,(if t=st then nl else g t)≠p:=fun t ht z=>by
   by_cases e:t=st
   ·rw[aax e] at z;exact hnp z.symm
   ·rw[aau e] at z
    have:=(h.val t ht).2
    rw[z,oA] at this;cases this
  generalize upd H9 hv (.dK (putK kv (sk st) (.ref nl)))=Hm at Xg OZ O0 O1 M8 V3 Hr IL
  refine⟨_,rfl,r,_,_,_,rfl,rfl,gK.of O0,iE (j:=0) (v:=V.ref l) rfl rfl,L2.jc,fun e0 Z4=>?_⟩
  have CO:gk Hm (upd Hm e0 (.lst [])):=(gk.refl _).new Z4
  refine⟨_,⟨l,e0,rfl,rfl⟩,eq_nil (CO _ _ O1) b_,_,rfl,jY ?_⟩
  generalize upd Hm e0 (.lst [])=S6 at CO
  refine⟨_,rfl,r,_,_,_,rfl,rfl,gK.of (CO _ _ O0),iE (j:=1) (v:=V.ref p) rfl rfl,_,rfl,p,du,_,_,rfl,CO _ _ M8,CO _ _ V3,?_⟩
  rw[XZ rfl]
  refine⟨_,rfl,jY ?_⟩
  refine⟨_,rfl,r,_,_,_,rfl,rfl,gK.of (CO _ _ O0),iE (j:=1) (v:=V.ref p) rfl rfl,.inl ⟨rfl,_,gK.of (CO _ _ M8)⟩,_,rfl,?_⟩
  refine⟨p,_,_,rfl,rfl,CO _ _ M8,?_,?_⟩
  ·have:=aah (aaH (fun y=>decide (y∉D'.held st)) (D'.il x++[x])) (acA (Y5))
   show(gh (D'.lJ st x)).length+1≤_
   rw[U8]
   unfold Dk.lJ
   have e1:[x].length=1:=rfl
   omega
  have WN:Hb p=none:=by
   cases e:Hb p with
   | none=>rfl
   | some o=>
    exfalso
    by_cases z:∃s∈D.stores,p=π.ha s
    ·obtain⟨s,hs,rfl⟩:=z
     obtain⟨kv,e2,_⟩:=n.held s hs
     rw[oA] at e2;cases e2
    ·have:=n.same p o e fun s hs w=>z ⟨s,hs,w⟩
     rw[oA] at this;cases this
  refine q _ (D'.take st x) _ _ ((Xg.next CO).step fun b o e z=>?_) ⟨?_,Hr.keys,fun t ht=>⟨(Hr.val t ht).1,?_⟩⟩ fun b o e z=>?_
  ·rw[e_ (fun w=>z (by rw[w];exact WN))];exact e
  ·rw[e_ (fun w=>by have:=Hr.at_;rw[w,M8] at this;cases this)];exact CO _ _ Hr.at_
  ·rw[e_ (gN t ht)];exact CO _ _ (Hr.val t ht).2
  ·rw[e_ (fun w=>by rw[w,oA] at e;cases e)];exact CO _ _ (OZ b o e z)
def OJ(A:Ad):Sp:=fun vs H Q _=>∃(Hb:Hp)(d hv:Addr)(D D':Dk)(W:Addr→Prop)(π:Dp)(s x:Str)(g:Str→Addr)(kv:List (Key×V)),vs=[.ref d,.ref hv,.str s,.str x]∧zb A Hb H d D D' W π∧rj D.made.length∧D.stores.length≤1000∧i5 s∧i5 x∧(∀z∈D.names,i5 z)∧Hb hv=none∧zc H hv D.stores g D'.has kv∧∀H' D2 g' R_,zb A Hb H' d D D2 W π→zc H' hv D.stores g' D2.has R_→kL H H'→Q (.bl true) H'
theorem C8(T:Txt mg)(O:Ok K mg A):ip P w K mg base nu 8 A.qg A.qh ["desk","having","store","name"] (OJ A):=by
 have Cj:=@IA P w K mg base A T O
 have lP:=@Iz P w K mg base A T O
 have ku:=(@yc P w K mg base A T O).Jd
 refine O.tj.f.rh kZ fun jh A0 outer s H vs Q E hr h=>?_
 obtain⟨Hb,d,hv,D,D',W,π,st,x,g,kv,rfl,n,jc,fst,fs,fx,fz,hb,h,q⟩:=h
 have sz:sizeLine=16777216:=aaF
 have wA:rj D'.made.length:=by rw[n.made];exact jc
 have De:D'.made.length≤4000:=wA
 have IC:D'.names.length=D'.made.length:=by unfold Dk.names;rw[U8]
 have fz1:∀z∈D'.names,i5 z:=by rw[n.names];exact fz
 have hhl:(D'.has st).length≤D'.names.length:=aaH _ _
 have hhn:∀z∈D'.has st,z∈D'.names:=fun z hz=>(aat.mp hz).1
 have y:=n.at
 refine⟨_,(de (lB 4 kZ (pJ O.xV Cj hr (a_ (pv 0) (a_ (pv 2) (a_ (pv 3) d_)))))
   (de (iz (ji (kD (by exact iO hr) (pv 2) (pv 1))) (f_ (gP (mF (qr 9 (by exact K5 hr)) (pv 4) (pJ O.pH lP hr (a_ gi d_)) (iu _)))) ia)
   (de (iz (ie rC (pv 3) (v_ hr (pv 1) (pv 2)) rfl) (f_ (gP (mF (qr 9 (by exact K5 hr)) (pv 4) (pJ O.pH lP hr (a_ gi d_)) (iu _)))) ia)
   (de (iz (ie Dm (gJ gD (by rfl) T.jX aaE (a_ (tM mW (gc j2).names [5] rfl (ir (v_ hr (pv 1) (pv 2))) rfl (by decide+kernel) (fun _ _ _ _=>(iy (i:=5) kZ.nd rfl (Or.inl rfl))) (fun _ _ _ _=>⟨_,nK (ie qG (pv 3) (zw (pv 0) O.gH O.nX ku hr (a_ (pv 5) d_)) rfl),by(try simp only [kW]);rfl⟩) (fun _ _ _ _=>zx (pv 5))) d_)) gi (iu _)) (f_ (gP (mF (qr 9 (by exact K5 hr)) (pv 4) (pJ O.pH lP hr (a_ gi d_)) (iu _)))) ia)
   (de (jm (by exact iO hr) (pv 1) (pv 2) (tM mW (gc j2).names [5] rfl (ir (v_ hr (pv 1) (pv 2))) rfl (by decide+kernel) (fun _ _ _ _=>(iy (i:=5) kZ.nd rfl (Or.inl rfl))) (fun _ _ _ _=>⟨_,nK (ie IU (pv 5) (pv 3) (iu _)),by(try simp only [kW]);rfl⟩) (fun _ _ _ _=>zx (pv 5))) rfl)
   (f_ (gP (mF (qr 9 (by exact K5 hr)) (pv 4) (iA d_) (iu _))))))))),?_⟩
 refine Sx ?_;intro _ _ _ _ _
 refine⟨_,rfl,_,rfl,_,rfl,d,D',W,π,st,x,rfl,y,n.inv,wA,fs,fx,fz1,fun p ws D2 H1 dr tq y1 x1=>?_⟩
 obtain⟨h1,S8⟩:=Pn (st:=st) n hb h fun b o e z=>x1 b o e fun w=>z (by rw[n.stores] at w;exact w)
 have Z5:D2.made=D'.made∧D2.iq=D'.iq:=by rcases dr with⟨_,_,e,_⟩|⟨_,e,_⟩<;>rw[e]<;>exact⟨rfl,rfl⟩
 have Z6:rj D2.made.length:=by rw[Z5.1];exact wA
 have Ng:D2.names=D'.names:=by unfold Dk.names;rw[Z5.1]
 have Hv:∀z,D2.il z=D'.il z:=fun z=>by unfold Dk.il;rw[Ng,Z5.2]
 have ret:∀{i:Int},ws=(C6 i).map V.bl→D2=D'→∀{H2},gk H1 H2→Q (.bl true) H2:=fun{i} _ e {H2} s2=>by
  rw[e] at y1
  exact q H2 D' g kv ⟨n.b,n.made,n.iq,n.stores,n.inv,fun b o e z=>s2 b o (x1 b o (n.same b o e z) fun w=>z st (by rw[←n.stores];exact w.1) w.2),fun t ht=>(y1.same s2).vh t (by rw[n.stores];exact ht) |>.2.2.2.2.2⟩ (h1.same s2) fun b o e z=>s2 b o (S8 b o e z)
 refine⟨_,rfl,_,rfl,hv,_,rfl,iY.k (k:=sk st) h1.at_,?_⟩
 rw[h1.has]
 by_cases hs:st∈D.stores
 ·have S9:st∈D'.stores:=by rw[n.stores];exact hs
  rw[XZ hs]
  refine⟨_,rfl,jY ?_⟩
  refine⟨_,rfl,_,rfl,_,rfl,hv,.ref (g st),rfl,h1.get hs,g st,_,rfl,.inl (gK.of (h1.val st hs).2),rfl,by simp[gh,kS],_,rfl,?_⟩
  by_cases hx:x∈D'.held st
  ·have CN:x∈D'.names:=(n.inv.l8 st S9 x hx).1
   refine Jj (by show(!Dw (.str x) (gh (D'.has st)))=false;rw[jT,XZ ((vg st CN).mpr hx)];rfl) ?_
   let Jv:=fun(i:Nat) (ys:List V) (σ:St) (H3:Hp)=>∃(v5:Option V)(zs:List Str),σ=[rr d,rr hv,rs st,rs x,rr p,v5]∧gk H1 H3∧ys=gh zs∧zs=((D'.has st).take i).filter fun y=>decide (x∈D'.il y)
   refine⟨_,rfl,_,rfl,hv,.ref (g st),rfl,h1.get hs,g st,rfl,⟨_,gK.of (h1.val st hs).2⟩,jE (K:=K) (a:=g st) (xs:=gh (D'.has st)) (by rw[U8];omega) Jv
    ⟨none,[],rfl,gk.refl _,rfl,rfl⟩ (by rintro _ _ _ _ _ ⟨_,zs,_,e,e2,e3⟩;rw[e2,e3];exact⟨gK.of (e _ _ (h1.val st hs).2),by rw[U8];exact aah (aaH _ _) (by rw[aay];omega)⟩) ?_ ?_⟩
   ·rintro i v ys σ H3 hi ⟨v5,zs,rfl,s3,rfl,e3⟩
    obtain⟨z,hz,rfl⟩:=jW hi
    have K8:=hhn z (Yd hz)
    have put:=fun b e=>yi (f:=fun y=>decide (x∈D'.il y)) (b:=b) hz e3 e
    refine⟨_,rfl,_,rfl,d,π.dx,_,rfl,s3 _ _ y1.hd,uM,_,rfl,d,D2,W,z,rfl,⟨π,y1.same s3⟩,fz1 z K8,Z6,fun h=>absurd (by rw[Ng];exact K8) h,fun _ p4 OU=>?_⟩
    rw[Hv]
    have s4:=s3.new (o:=.lst (gh (D'.il z))) OU
    refine⟨p4,_,rfl,.inl (gK.of b_),rfl,by simp[gh,kS],_,rfl,kU (fun hb=>?_) (fun hb=>?_)⟩
    ·have hb:Dw (.str x) (gh (D'.il z))=true:=hb
     rw[jT] at hb
     exact⟨_,rfl,_,_,rfl,s4,iK _ _,(put true hb.symm).symm⟩
    ·have hb:¬Dw (.str x) (gh (D'.il z))=true:=hb
     rw[jT] at hb
     exact⟨_,_,rfl,s4,rfl,(put false (aa8.mpr hb).symm).symm⟩
   rintro ys σ H3 ⟨v5,zs,rfl,s3,rfl,e3⟩ up hup
   rw[U8,aam] at e3
   have s4:=s3.new (o:=.lst (gh zs)) hup
   have u4:(upd H3 up (.lst (gh zs))) up=some (.lst (gh zs)):=b_
   generalize upd H3 up (.lst (gh zs))=H4 at s4 u4
   rcases dr with⟨i,rfl,e,hw⟩|⟨rfl,e,_,_,hl⟩
   ·obtain⟨hl,rfl⟩:¬(∀z∈D'.held st,x∉D'.iq z)∧i=7:=by
     rcases hw with⟨z,_⟩|⟨_,⟨z,_⟩|⟨_,z,rfl⟩⟩
     ·exact absurd S9 z
     ·exact absurd hx z
     ·exact⟨z,rfl⟩
    have RN:0<zs.length:=by
     rcases Nat.eq_zero_or_pos zs.length with z|z
     ·exact absurd ((JF n.inv S9 CN).mp (e3.symm.trans (List.eq_nil_of_length_eq_zero z))) hl
     ·exact z
    refine⟨up,_,rfl,.inl (gK.of u4),_,_,rfl,rfl,_,rfl,DG (XZ (by simp;omega)) ?_⟩
    refine⟨_,rfl,7,rfl,fun q3 FH=>⟨_,⟨p,q3,rfl,rfl⟩,wy (gK.of (g_ FH (s4 _ _ tq))) (gK.of b_),?_⟩⟩
    rw[XZ rfl]
    exact ret rfl e (s4.new FH)
   ·rw[(JF n.inv S9 CN).mpr hl] at e3
    subst e3 e
    refine⟨up,_,rfl,.inl (gK.of u4),_,_,rfl,rfl,_,rfl,Jj (aac (by simp)) ?_⟩
    have n1:zb A Hb H1 d D (D'.drop st x) W π:=n.put hs y1 (fun b o e z=>x1 b o e fun w=>z w.2) (n.inv.drop S9 hl)
    have h4:=h1.same s4
    let Jv:=fun(i:Nat) (ys:List V) (σ:St) (H5:Hp)=>∃(v5:Option V)(zs:List Str),σ=[rr d,rr hv,rs st,rs x,rr p,v5]∧H5=H4∧ys=gh zs∧zs=((D'.has st).take i).filter fun y=>!decide (y=x)
    refine⟨_,rfl,_,rfl,hv,.ref (g st),rfl,h4.get hs,g st,rfl,⟨_,gK.of (h4.val st hs).2⟩,jE (K:=K) (a:=g st) (xs:=gh (D'.has st)) (by rw[U8];omega) Jv
     ⟨none,[],rfl,rfl,rfl,rfl⟩ (by rintro _ _ _ _ _ ⟨_,zs,_,e,e2,e3⟩;rw[e,e2,e3];exact⟨gK.of (h4.val st hs).2,by rw[U8];exact aah (aaH _ _) (by rw[aay];omega)⟩) ?_ ?_⟩
    ·rintro i v ys σ H5 hi ⟨v5,zs,rfl,rfl,rfl,e3⟩
     obtain⟨z,hz,rfl⟩:=jW hi
     have put:=fun b e=>yi (f:=fun y=>!decide (y=x)) (b:=b) hz e3 e
     refine⟨_,rfl,_,rfl,rfl,_,rfl,kU (fun hb=>?_) (fun hb=>?_)⟩
     ·have hb:¬z=x:=fun e=>by rw[e] at hb;simp at hb
      exact⟨_,rfl,_,_,rfl,rfl,iK _ _,(put true (by simp[hb])).symm⟩
     ·have hb:z=x:=by
       by_cases e:z=x
       ·exact e
       ·exact absurd (by simp[e]) hb
      exact⟨_,_,rfl,rfl,rfl,(put false (by simp[hb])).symm⟩
    rintro ys σ H5 ⟨v5,zs,rfl,rfl,rfl,e3⟩ nl IC
    rw[U8,aam,MH] at e3
    subst e3
    have t5:gk H5 (upd H5 nl (.lst (gh ((D'.drop st x).has st)))):=(gk.refl _).new IC
    have u5:(upd H5 nl (.lst (gh ((D'.drop st x).has st)))) nl=some (.lst (gh ((D'.drop st x).has st))):=b_
    generalize upd H5 nl (.lst (gh ((D'.drop st x).has st)))=H9 at t5 u5
    have OY:=s4.trans t5
    have h9:=h1.same OY
    have Hx:=jO h9.keys
    refine⟨_,rfl,_,rfl,hv,_,rfl,nJ.k (k:=sk st) h9.at_ (by omega),?_⟩
    obtain⟨Xg,OZ,Hr,IL⟩:=book hb n1 S8 OY h9 hs u5 fun t z=>Iy z
    have O1:=IL (OY _ _ tq)
    refine⟨_,rfl,L2.jc,fun e0 Z4=>?_⟩
    have CO:=(gk.refl (upd H9 hv (.dK (putK kv (sk st) (.ref nl))))).new (o:=.lst []) Z4
    refine⟨_,⟨p,e0,rfl,rfl⟩,eq_nil (CO _ _ O1) b_,?_⟩
    exact q _ (D'.drop st x) _ _ (Xg.next CO) (Hr.same CO) fun b o e z=>CO _ _ (OZ b o e z)
  ·refine DG (by show(!Dw (.str x) (gh (D'.has st)))=true;rw[jT,aac];rfl;exact fun z=>hx (aaw (aat.mp z).2)) ?_
   rcases dr with⟨i,rfl,e,hw⟩|⟨_,_,_,z,_⟩
   ·obtain rfl:i=3:=by
     rcases hw with⟨z,_⟩|⟨_,⟨_,rfl⟩|⟨z,_⟩⟩
     ·exact absurd S9 z
     ·rfl
     ·exact absurd z hx
    refine⟨_,rfl,3,rfl,fun q3 FH=>⟨_,⟨p,q3,rfl,rfl⟩,wy (gK.of (g_ FH tq)) (gK.of b_),?_⟩⟩
    rw[XZ rfl]
    exact ret rfl e ((gk.refl _).new FH)
   ·exact absurd z hx
 ·rw[aac hs]
  refine⟨_,rfl,mx ?_⟩
  rw[←n.stores] at hs
  rcases dr with⟨i,rfl,e,hw⟩|⟨_,_,z,_⟩
  ·obtain rfl:i=2:=by
    rcases hw with⟨_,rfl⟩|⟨z,_⟩
    ·rfl
    ·exact absurd z hs
   refine⟨_,rfl,2,rfl,fun q3 FH=>⟨_,⟨p,q3,rfl,rfl⟩,wy (gK.of (g_ FH tq)) (gK.of b_),?_⟩⟩
   rw[XZ rfl]
   exact ret rfl e ((gk.refl _).new FH)
  ·exact absurd z hs
theorem toN{H H':Hp}(s:gk H H'):kL H H':=fun b o e _=>s b o e
theorem kL.trans{H H' H2:Hp}(s:kL H H')(t:kL H' H2):kL H H2:=fun b o e z=>t b o (s b o e z) z
theorem kL.lst{H H':Hp}(s:kL H H'){a:Addr}{vs:List V}(h:H a=some (.lst vs)):H' a=some (.lst vs):=s _ _ h fun _ z=>by cases z
theorem kL.sq{H H':Hp}(s:kL H H'){a:Addr}{xs:List V}(h:gK K H a xs):gK K H' a xs:=by
 rcases h with(h|⟨u,h⟩)|h
 ·exact .inl (.inl (s.lst h))
 ·exact .inl (.inr ⟨u,s _ _ h fun _ z=>by cases z⟩)
 ·exact .inr h
theorem Rep.oU{H H':Hp}{n:Nat}{v:V}{d:Dv}(r:Rep H n v d)(s:kL H H'):Rep H' n v d:=by
 induction r with
 | o=>exact .o
 | s=>exact .s
 | i=>exact .i
 | l h hl _ ih=>exact .l (s.lst h) hl ih
 | t h hl _ ih=>exact .t (s _ _ h fun _ z=>by cases z) hl ih
noncomputable def Uy(D:Dk):Dv:=.l (D.made.map fun p=>.l [Wr p,.l ((D.il p.nm).map Dv.s)])
theorem noT(m n h:Addr):(AU m n h).lookup ("told":Str)=none:=by kernel_rfl
def NS:Str:=Str.ofString "nostore"
def NB:Str:=Str.ofString "nobody"
theorem Hi{x:Str}(h:x.length≤1000)(h2:x.cps.toList.all (fun c=>decide (c<1114112))=true):i5 x:=JB h fun c hc=>aaw (abL.mp h2 c hc)
theorem OK:i5 NS:=Hi (by decide+kernel) (by decide+kernel)
theorem OL:i5 NB:=Hi (by decide+kernel) (by decide+kernel)
def JG(K:Qqy):Sp:=fun vs H Q _=>∃(a:Addr)(ns:List Int),vs=[.ref a]∧gK K H a (ns.map V.int)∧ns.length≤63∧∀H',Q (.bl true) H'
theorem RB{f:Addr}{fd:FuncData}(F:w_ K "law" "law" GA f fd)(T:Txt mg)(O:Ok K mg A):ip P w K mg base nu 20 f fd ["script"] (JG K):=by
 have Hs:=@OA P w K mg base A T O
 have jb:=@JD P w K mg base A T O
 have n5:=@yh P w K mg base A T O
 have ym:=@C7 P w K mg base A T O
 have yn:=@C8 P w K mg base A T O
 have Fm:=@ML P w K mg base A T O
 have kQ:=@B7 P w K mg base A T O
 have jU:=(@Im P w K mg base A T O).Jd
 have ku:=(@yc P w K mg base A T O).Jd
 have Al:=(@OC P w K mg base A T O).Jd
 refine F.rh lW fun jh A0 outer s H vs Q E hr h=>?_
 obtain⟨a,ns,rfl,ha,hn,q⟩:=h
 have sz:sizeLine=16777216:=aaF
 refine⟨_,(de (lB 1 lW (pJ O.DR Hs hr (a_ (pv 0) (a_ gi (a_ (gz iR (pJ O.jH jb hr (a_ (pv 0) (a_ gi d_))) gi) (a_ nB d_))))))
   (de (mD (i:=2) lW.nd rfl (Or.inr rfl) (uX (pv 1) gi))
   (de (lB 3 lW oh)
   (de (iP aaG rfl (ir (uX (pv 1) gi)) (vZ 4 lW) (f_ (jm (by exact iO hr) (pv 3) (pv 4) (zw (pv 2) O.gH O.l9 jU hr (a_ (pv 4) d_)) rfl)))
   (de (lB 5 lW (o8 (pv 2) O.gH O.i9.t kQ (hr.mono (by decide)) O.i9.b .nil nF))
   (de (Be (j:=6) Mf (gc GA).names [12] lW.nd rfl rfl rfl (ir (pv 5)) rfl (by decide+kernel) (fun _ _ _ _=>(iy (i:=12) lW.nd rfl (Or.inl rfl))) (fun _ _ _ _=>mI) (fun _ _ _ _=>zx (iA (a_ (zw (pv 2) O.gH O.yX Al hr (a_ (pv 12) d_)) (a_ (zw (pv 2) O.gH O.nX ku hr (a_ (pv 12) d_)) d_)))))
   (de (lB 7 lW (gz lG (gz lG (uX (pv 1) gi) (uX (pv 1) gi)) (iA (a_ i0 d_))))
   (de (iP aaG rfl (lu rfl T.mX (a_ (gz iQ gi (gz iR (pJ O.jH jb hr (a_ (pv 0) (a_ gi d_))) gi)) d_)) (vZ 8 lW) (de (lB 9 lW (pJ O.jH jb hr (a_ (pv 0) (a_ (gz iQ gi (pv 8)) d_))))
   (de (lB 10 lW (gz lG (o8 (pv 2) O.gH O.i9.t kQ (hr.mono (by decide)) O.i9.b .nil nF) (iA (a_ i0 d_))))
   (de (lB 11 lW (uX (pv 10) (gz iR (gz jV (pv 9) gi) (gJ gD (by rfl) T.jX aaE (a_ (pv 10) d_)))))
   (de (lB 4 lW (uX (pv 7) (gz iR (gz jV (pv 9) gi) gi)))
   (de (tO (iz (ie mE (gz iR (pv 9) gi) gi (iu _)) (f_ (iz (o7 (rA (pJ O.tf ym hr (a_ (pv 2) (a_ (pv 3) (a_ (pv 4) (a_ (uX (pv 7) (gz iR (gz jV (pv 9) gi) gi)) (a_ (pv 11) d_)))))))) (f_ (gP nB)) ia)) (f_ (iz (o7 (rA (pJ O.tj yn hr (a_ (pv 2) (a_ (pv 3) (a_ (pv 4) (a_ (pv 11) d_))))))) (f_ (gP nB)) ia))))
   (de (iP aaG rfl (ir (uX (pv 1) gi)) (vZ 12 lW) (f_ (iz (o7 (rA (pJ O.pG n5 hr (a_ (zw (pv 2) O.gH O.l9 jU hr (a_ (pv 12) d_)) (a_ (v_ hr (pv 3) (pv 12)) d_))))) (f_ (gP nB)) ia)))
   (f_ (iz ((pw_or (ie (LA 9 (by exact K5 hr)) (o8 (pv 2) O.gH O.i9.t kQ (hr.mono (by decide)) O.i9.b .nil nF) (pv 5) (iu _)) (pw_or1 ((pw_and (ie qG (pv 11) (pv 5) rfl) (pw_and1 (o7 (rA (pJ O.BZ Fm hr (a_ (pv 2) (a_ (uX (uX (pv 1) gi) gi) (a_ (pv 11) d_)))))))).pt))).pt) (f_ (gP nB)) ia)))))))))
   (f_ (gP (mF (qr 9 (by exact K5 hr)) (pv 6) (xn Mf (gc GA).names [12] rfl (ir (pv 5)) rfl (by decide+kernel) (fun _ _ _ _=>(iy (i:=12) lW.nd rfl (Or.inl rfl))) (fun _ _ _ _=>mI) (fun _ _ _ _=>zx (iA (a_ (zw (pv 2) O.gH O.yX Al hr (a_ (pv 12) d_)) (a_ (zw (pv 2) O.gH O.nX ku hr (a_ (pv 12) d_)) d_))))) (iu _)))))))))))),?_⟩
 refine X_ ?_;intro _ _ _ _ _ _ _ _
 have b7:=mod_lt (cellAt ns 4) 15 (by decide)
 obtain⟨n,PX⟩:∃n:Nat,cellAt ns 4%15=(n:Int):=⟨_,(Int.toNat_of_nonneg b7.1).symm⟩
 refine⟨_,rfl,_,rfl,a,ns,4,rfl,ha,by decide,_,_,rfl,rfl,(by show(0:Int)<15;decide),a,ns,16,n,true,?_,ha,by omega,by decide,by decide,by omega,fun bl d ss fs D W H1 B=>?_⟩
 ·show[V.ref a,V.int 16,V.int (cellAt ns 4%15),V.bl true]=_
  rw[PX]
 have s1:=B.same
 have n7:n<15:=by omega
 have z35:Sz 35 D:=by
  have h1:=B.sz.many
  have h2:=B.sz.iJ
  have h3:=B.sz.kR
  have h4:n*n≤14*14:=Nat.mul_le_mul (by omega) (by omega)
  exact⟨by omega,by omega,by omega⟩
 have sm:=z35.small (by decide)
 have jc:=sm.many
 have hml:D.made.length≤35:=z35.many
 have X1:=B.Yo
 have I:=B.inv
 obtain⟨π,y⟩:=id X1
 have hnG:∀x∈D.names,Good x:=fun x hx=>by
  obtain⟨j,_,e⟩:=B.names x hx
  rw[e];exact rf _ _
 have S_:∀x∈D.names,i5 x:=fun x hx=>(hnG x hx).yf
 have IC:D.names.length≤35:=by
  unfold Dk.names
  rw[U8];exact hml
 have Zb:D.stores.length=3:=by rw[B.stores];rfl
 have Oe:∀s∈D.stores,i5 s:=fun s hs=>by rw[B.stores] at hs;exact(uO s hs).yf
 refine⟨_,rfl,bl,_,_,_,rfl,rfl,gK.of B.at_,iE (j:=0) rfl rfl,?_⟩
 refine fun hv Xh=>?_
 have s2:gk H1 (upd H1 hv (.dK [])):=(gk.refl H1).new Xh
 dsimp only [nE];refine LM ?_;intro _
 let Jv:=fun(i:Nat) (σ:St) (H2:Hp)=>∃(v4:Option V)(g:Str→Addr)(kv:List (Key×V)),σ=[rr a,rr bl,rr d,rr hv,v4,none,none,none,none,none,none,none,none]∧gk H1 H2∧zc H2 hv ((mz ns).take i) g D.has kv
 refine⟨_,rfl,bl,_,_,_,rfl,rfl,gK.of (s2 _ _ B.at_),iE (j:=1) rfl rfl,ss,rfl,⟨_,gK.of (s2 _ _ B.st)⟩,je (K:=K) (a:=ss) (xs:=gh (mz ns)) Jv
  ⟨none,fun _=>hv,[],rfl,s2,b_,rfl,fun s hs=>by cases hs⟩ (by rintro _ _ _ _ ⟨_,_,_,_,e,_⟩;exact gK.of (e _ _ B.st)) ?_ ?_⟩
 ·rintro i v σ H2 hi ⟨v4,g,kv,rfl,s2,Xi⟩
  obtain⟨so,PV,rfl⟩:=jW hi
  have Z7:=Yd PV
  have M7:so∈D.stores:=by rw[B.stores];exact Z7
  have hi3:i<3:=by have:=(Vb.mp PV).1;simp[mz] at this;exact this
  refine⟨_,rfl,d,π.dx,_,rfl,s2 _ _ y.hd,sv,_,rfl,d,D,W,so,rfl,X1.same s2,Oe so M7,jc,fun h=>absurd M7 h,fun _ p hp=>?_⟩
  have s3:gk H2 (upd H2 p (.lst (gh (D.has so)))):=(gk.refl _).new hp
  have u3:(upd H2 p (.lst (gh (D.has so)))) p=some (.lst (gh (D.has so))):=b_
  generalize upd H2 p (.lst (gh (D.has so)))=H3 at s3 u3
  have K2:=Xi.same s3
  have Hx:=jO K2.keys
  rw[aay] at Hx
  refine⟨_,rfl,_,rfl,hv,_,rfl,nJ.k (k:=sk so) K2.at_ (by omega),?_⟩
  have K0:so∉(mz ns).take i:=fun z=>by
   have nd:(mz ns).Nodup:=by rw[←B.stores];exact I.stN
   obtain⟨j,hj⟩:=aaT.mp z
   have IB:j<i:=by have:=(Vb.mp hj).1;rw[aay] at this;omega
   rw[abK,aax IB] at hj
   have:=(abQ (Vb.mp hj).1 nd).mp (hj.trans PV.symm)
   omega
  have V4:=K2.new K0 u3
  rw[←take_snoc PV] at V4
  exact⟨_,_,_,rfl,fun b o e=>by rw[e_ (fun z=>by rw[z,Xh] at e;cases e)];exact s3 _ _ (s2 _ _ e),V4⟩
 rintro σ H2 ⟨v4,g,kv,rfl,s2,Xi⟩
 rw[U8,aam,←B.stores] at Xi
 refine⟨_,rfl,d,π.dx,_,rfl,s2 _ _ y.hd,pI,d,D,W,rfl,X1.same s2,fun mk hmk=>?_⟩
 have s3:gk H1 (upd H2 mk (.lst (gh D.names))):=s2.new hmk
 have K2:=Xi.same ((gk.refl H2).new (o:=.lst (gh D.names)) hmk)
 have u3:(upd H2 mk (.lst (gh D.names))) mk=some (.lst (gh D.names)):=b_
 generalize upd H2 mk (.lst (gh D.names))=H3 at s3 u3 K2
 let Jv:=fun(i:Nat) (ys:List V) (σ:St) (H4:Hp)=>∃(Ht:Option V),σ=[rr a,rr bl,rr d,rr hv,v4,rr mk,none,none,none,none,none,none,Ht]∧gk H3 H4∧Paired (fun v p=>Rep H4 5 v (.l [Wr p,.l ((D.il p.nm).map Dv.s)])) ys (D.made.take i)
 refine⟨_,rfl,mk,rfl,⟨_,gK.of u3⟩,jE (K:=K) (a:=mk) (xs:=gh D.names) (by rw[U8];omega) Jv
  ⟨none,rfl,gk.refl _,.nil⟩ (by rintro _ _ _ _ _ ⟨_,_,e,e2⟩;exact⟨gK.of (e _ _ u3),by rw[aav e2,aay];omega⟩) ?_ ?_⟩
 ·rintro i v ys σ H4 hi ⟨Ht,rfl,s4,e2⟩
  obtain⟨x,hx,rfl⟩:=jW hi
  have K1:=hx
  unfold Dk.names at K1
  rw[aan] at K1
  obtain⟨p,hp,rfl⟩:=aaL.mp K1
  have Z8:=Yd hp
  have CN:=Yd hx
  have Dg:=s3.trans s4
  refine⟨_,rfl,d,π.dx,_,rfl,Dg _ _ y.hd,noT _ _ _,_,rfl,d,D,W,p.nm,rfl,X1.same Dg,S_ _ CN,sm,fun h=>absurd CN h,fun pt FJ Z9 t H5 s5 W3 rep=>?_⟩
  obtain rfl:pt=p:=Jn I.nd FJ Z8 Z9
  have II:=Dg.trans s5
  refine⟨_,rfl,d,π.dx,_,rfl,II _ _ y.hd,uM,_,rfl,d,D,W,pt.nm,rfl,X1.same II,S_ _ CN,jc,fun h=>absurd CN h,fun _ l hl=>⟨L2.jc,fun u hu=>?_⟩⟩
  have t6:gk H5 (upd H5 l (.lst (gh (D.il pt.nm)))):=(gk.refl _).new hl
  have t7:gk (upd H5 l (.lst (gh (D.il pt.nm)))) (upd (upd H5 l (.lst (gh (D.il pt.nm)))) u (.lst [.ref t,.ref l])):=(gk.refl _).new hu
  refine⟨_,rfl,((s4.trans s5).trans t6).trans t7,?_⟩
  rw[take_snoc hp]
  refine ix (Paired.lA e2 fun _ _ z=>z.same ((s5.trans t6).trans t7)) ?_
  exact Rep.two b_ (rep.same (t6.trans t7)) (Rep.strs (t7 _ _ b_))
 rintro ys σ H4 ⟨Ht,rfl,s4,e2⟩ pp hpp
 rw[U8,show D.names.length=D.made.length from U8 ..,aam] at e2
 have t5:gk H4 (upd H4 pp (.lst ys)):=(gk.refl _).new hpp
 have rp:Rep (upd H4 pp (.lst ys)) 6 (.ref pp) (Uy D):=Rep.ve b_ e2 fun _ _ z=>z.same t5
 have II:=(s3.trans s4).trans t5
 have V5:=(K2.same s4).same t5
 have u5:=t5 _ _ (s4 _ _ u3)
 generalize upd H4 pp (.lst ys)=H5 at t5 rp II V5 u5
 refine⟨_,rfl,bl,_,_,_,rfl,rfl,gK.of (II _ _ B.at_),iE (j:=1) rfl rfl,_,rfl,bl,_,_,_,rfl,rfl,gK.of (II _ _ B.at_),iE (j:=1) rfl rfl,ss,ss,_,_,rfl,rfl,II _ _ B.st,II _ _ B.st,by simp[mz,sz],fun u hu=>?_⟩
 have t6:gk H5 (upd H5 u (.lst (gh (mz ns)++gh (mz ns)))):=(gk.refl _).new hu
 refine⟨L2.jc,fun v hv0=>?_⟩
 have t7:=t6.new (o:=.lst [V.str (Str.ofString "nostore")]) hv0
 refine⟨u,v,_,_,rfl,rfl,g_ hv0 b_,b_,by simp[mz,sz],fun so PV=>?_⟩
 have t8:=t7.new (o:=.lst (gh (mz ns)++gh (mz ns)++[V.str (Str.ofString "nostore")])) PV
 have e8:gh (mz ns)++gh (mz ns)++[V.str (Str.ofString "nostore")]=gh (mz ns++mz ns++[NS]):=by simp[gh,NS]
 rw[e8] at t8 ⊢
 have u8:(upd (upd (upd H5 u (.lst (gh (mz ns)++gh (mz ns)))) v (.lst [V.str (Str.ofString "nostore")])) so (.lst (gh (mz ns++mz ns++[NS])))) so=some (.lst (gh (mz ns++mz ns++[NS]))):=b_
 generalize upd (upd (upd H5 u (.lst (gh (mz ns)++gh (mz ns)))) v (.lst [V.str (Str.ofString "nostore")])) so (.lst (gh (mz ns++mz ns++[NS])))=H8 at t8 u8
 have V6:=II.trans t8
 have n8:zb A H1 H8 d D D W π:=⟨y,rfl,rfl,rfl,I,fun b o e _=>V6 b o e,fun s hs=>by
  obtain⟨_,_,_,_,_,kv,e1,e2⟩:=y.vh s hs
  exact⟨kv,V6 _ _ e1,e2⟩⟩
 have Z_:=V5.same t8
 have rp8:=rp.same t8
 have Sk:=t8 _ _ u5
 have V7:=V6 _ _ B.at_
 have Sl:=V6 _ _ B.st
 have ha8:=sy ha (s1.trans V6)
 have a7:∀x∈mz ns++mz ns++[NS],i5 x:=fun x hx=>by
  rcases aaf.mp hx with hx|hx
  ·rcases aaf.mp hx with hx|hx<;>exact(uO x hx).yf
  ·rw[Yc.mp hx];exact OK
 have l7:(mz ns++mz ns++[NS]).length=7:=rfl
 generalize mz ns++mz ns++[NS]=sts at u8 a7 l7
 have b6:=mod_lt (cellAt ns 5) 6 (by decide)
 refine⟨_,rfl,a,ns,5,rfl,ha8,by decide,_,_,rfl,rfl,(by show(0:Int)<6;decide),_,_,rfl,rfl,_,rfl,by omega,by omega,?_⟩
 let Jv:=fun(i:Nat) (σ:St) (H9:Hp)=>∃(v4 v8 v9 v10 v11 Ht:Option V)(D':Dk)(g:Str→Addr)(kv:List (Key×V)),σ=[rr a,rr bl,rr d,rr hv,v4,rr mk,rr pp,rr so,v8,v9,v10,v11,Ht]∧zb A H1 H9 d D D' W π∧zc H9 hv D.stores g D'.has kv∧kL H8 H9
 refine nI (n:=(1+cellAt ns 5%6).toNat) Jv
  ⟨v4,none,none,none,none,none,D,g,kv,rfl,n8,Z_,fun b o e _=>e⟩ ?_ ?_
 ·rintro i σ H9 hi ⟨v4,v8,v9,v10,v11,Ht,D',g,kv,rfl,n9,V8,V9⟩
  dsimp only [nE];refine X8 ?_;intro _ _ _ _ _ _
  refine⟨_,rfl,_,rfl,_,_,rfl,rfl,a,ns,_,rfl,V9.sq ha8,by omega,?_⟩
  generalize cellAt ns (6+(0+(i:Int)))=c
  have y9:=n9.at
  have V_:rj D'.made.length:=by rw[n9.made];exact jc
  have aaa:=n9.names
  refine⟨_,rfl,d,π.dx,_,rfl,y9.hd,pI,d,D',W,rfl,⟨π,y9⟩,fun p hp=>?_⟩
  rw[aaa]
  have t10:gk H9 (upd H9 p (.lst (gh D.names))):=(gk.refl _).new hp
  refine⟨L2.jc,fun b hb=>?_⟩
  have CO:=t10.new (o:=.lst [V.str (Str.ofString "nobody")]) hb
  refine⟨p,b,_,_,rfl,rfl,g_ hb b_,b_,by rw[U8];show _+1≤_;omega,fun nA hnA=>?_⟩
  have Ta:=CO.new (o:=.lst (gh D.names++[V.str (Str.ofString "nobody")])) hnA
  have e12:gh D.names++[V.str (Str.ofString "nobody")]=gh (D.names++[NB]):=iK _ _
  rw[e12] at Ta ⊢
  have u12:(upd (upd (upd H9 p (.lst (gh D.names))) b (.lst [V.str (Str.ofString "nobody")])) nA (.lst (gh (D.names++[NB])))) nA=some (.lst (gh (D.names++[NB]))):=b_
  generalize upd (upd (upd H9 p (.lst (gh D.names))) b (.lst [V.str (Str.ofString "nobody")])) nA (.lst (gh (D.names++[NB])))=H12 at Ta u12
  have elN:((gh (D.names++[NB])).length:Int)=(D.names.length:Int)+1:=by rw[U8,Y5];rfl
  have bN:=mod_lt (c/2) ((gh (D.names++[NB])).length:Int) (by omega)
  obtain⟨nm,enm,SO⟩:=pick (xs:=D.names++[NB]) bN.1 (by have h:=bN.2;rw[elN] at h ⊢;rw[Y5];exact h)
  refine⟨_,rfl,_,rfl,_,_,rfl,rfl,⟨by decide,by decide⟩,_,rfl,nA,_,rfl,.inl (gK.of u12),_,_,rfl,rfl,(by omega),nA,_,_,_,rfl,rfl,gK.of u12,enm,?_⟩
  have y12:=y9.same Ta
  have PY:=V8.same Ta
  have n12:=n9.next Ta
  have Wa:kL H8 H12:=V9.trans (toN Ta)
  have u8':=Wa.lst u8
  have fnm:i5 nm:=by
   rcases aaf.mp SO with z|z
   ·exact S_ nm z
   ·rw[Yc.mp z];exact OL
  have bS:=mod_lt (c/80) 7 (by decide)
  obtain⟨st,VT,yp⟩:=pick (xs:=sts) bS.1 (by rw[l7];exact bS.2)
  have bC:=mod_lt (c/560) 7 (by decide)
  obtain⟨sc,esc,hsc⟩:=pick (xs:=sts) bC.1 (by rw[l7];exact bC.2)
  refine⟨_,rfl,_,rfl,_,_,rfl,rfl,⟨by decide,by decide⟩,_,_,rfl,rfl,(by show(0:Int)<7;decide),so,_,_,_,rfl,rfl,gK.of u8',VT,?_⟩
  refine⟨fun σ Sm=>∃(D2:Dk)(g2:Str→Addr)(PZ:List (Key×V)),σ=[rr a,rr bl,rr d,rr hv,rs st,rr mk,rr pp,rr so,ri (0+(i:Int)),ri c,rr nA,rs nm,Ht]∧zb A H1 Sm d D D2 W π∧zc Sm hv D.stores g2 D2.has PZ∧kL H12 Sm,?_,?_⟩
  ·refine⟨_,rfl,_,_,rfl,rfl,(by show(0:Int)<2;decide),rfl,_,rfl,kU (fun _=>?_) (fun _=>?_)⟩
   ·refine⟨_,rfl,_,rfl,_,rfl,_,rfl,_,rfl,_,_,rfl,rfl,⟨by decide,by decide⟩,_,_,rfl,rfl,(by show(0:Int)<7;decide),so,_,_,_,rfl,rfl,gK.of u8',esc,_,rfl,H1,d,hv,D,D',W,π,st,sc,nm,g,kv,rfl,n12,jc,by omega,a7 st yp,a7 sc hsc,fnm,Xh,PY,fun Sm D2 g2 PZ K_ D5 M9=>?_⟩
    exact⟨_,rfl,jY ⟨D2,g2,PZ,rfl,K_,D5,M9⟩⟩
   ·refine⟨_,rfl,_,rfl,_,rfl,_,rfl,H1,d,hv,D,D',W,π,st,nm,g,kv,rfl,n12,jc,by omega,a7 st yp,fnm,S_,Xh,PY,fun Sm D2 g2 PZ K_ D5 M9=>?_⟩
    exact⟨_,rfl,jY ⟨D2,g2,PZ,rfl,K_,D5,M9⟩⟩
  rintro σ Sm ⟨D2,g2,PZ,rfl,K_,D5,M9⟩
  have y13:=K_.at
  have P0:rj D2.made.length:=by rw[K_.made];exact jc
  have JM:=Wa.trans M9
  dsimp only [nE];refine LM ?_;intro _
  let Jv:=fun(j:Nat) (σ:St) (P1:Hp)=>∃(Ht:Option V),σ=[rr a,rr bl,rr d,rr hv,rs st,rr mk,rr pp,rr so,ri (0+(i:Int)),ri c,rr nA,rs nm,Ht]∧gk Sm P1
  refine⟨_,rfl,bl,_,_,_,rfl,rfl,gK.of (JM.lst V7),iE (j:=1) rfl rfl,ss,rfl,⟨_,gK.of (JM.lst Sl)⟩,je (K:=K) (a:=ss) (xs:=gh (mz ns)) Jv
   ⟨Ht,rfl,gk.refl _⟩ (by rintro _ _ _ _ ⟨_,_,e⟩;exact gK.of (e _ _ (JM.lst Sl))) ?_ ?_⟩
  ·rintro j v σ P1 hj ⟨Ht,rfl,Dg⟩
   obtain⟨one,aad,rfl⟩:=jW hj
   have O2:one∈D.stores:=by rw[B.stores];exact Yd aad
   have Wb:one∈D2.stores:=by rw[K_.stores];exact O2
   refine⟨_,rfl,d,π.dx,_,rfl,Dg _ _ y13.hd,sv,_,rfl,d,D2,W,one,rfl,⟨π,y13.same Dg⟩,Oe one O2,P0,fun h=>absurd Wb h,fun _ p4 OU=>?_⟩
   have II:=Dg.new (o:=.lst (gh (D2.has one))) OU
   have P2:=D5.same II
   refine⟨_,rfl,_,rfl,hv,.ref (g2 one),rfl,P2.get O2,p4,g2 one,_,_,rfl,b_,(P2.val one O2).2,?_⟩
   rw[XZ rfl]
   exact⟨_,rfl,jY ⟨_,rfl,II⟩⟩
  rintro σ P1 ⟨Ht,rfl,Dg⟩
  have Wc:kL H8 P1:=JM.trans (toN Dg)
  have y14:=y13.same Dg
  have n14:=K_.next Dg
  have P4:=D5.same Dg
  refine⟨_,rfl,d,π.dx,_,rfl,y14.hd,pI,d,D2,W,rfl,⟨π,y14⟩,fun p5 VE=>?_⟩
  rw[K_.names]
  have Sn:gk P1 (upd P1 p5 (.lst (gh D.names))):=(gk.refl _).new VE
  have u15:(upd P1 p5 (.lst (gh D.names))) p5=some (.lst (gh D.names)):=b_
  generalize upd P1 p5 (.lst (gh D.names))=H15 at Sn u15
  have D6:kL H8 H15:=Wc.trans (toN Sn)
  refine⟨_,rfl,_,⟨p5,mk,rfl,rfl⟩,E8 (gK.of u15) (gK.of (D6.lst Sk)),?_⟩
  rw[XZ rfl]
  refine⟨_,rfl,jY ?_⟩
  refine⟨_,rfl,_,rfl,mk,_,rfl,.inl (gK.of (D6.lst Sk)),rfl,by simp[gh,kS],_,rfl,kU (fun hb=>?_) (fun hb=>?_)⟩
  ·have hb:Dw (.str nm) (gh D.names)=true:=hb
   rw[jT] at hb
   have Wd:=aaw hb
   have MS:nameOf (FG ns 0) 0∈mz ns:=by unfold mz;simp
   refine⟨_,rfl,_,rfl,bl,_,_,_,rfl,rfl,gK.of (D6.lst V7),iE (j:=1) rfl rfl,ss,_,_,_,rfl,rfl,gK.of (D6.lst Sl),iE (j:=0) (v:=V.str (nameOf (FG ns 0) 0)) rfl rfl,_,rfl,d,D2,W,_,nm,rfl,⟨π,y14.same Sn⟩,K_.inv,P0,(uO _ MS).yf,hnG nm Wd,by rw[K_.stores,B.stores];exact MS,by rw[K_.names];exact Wd,fun H16 OX=>?_⟩
   exact⟨_,rfl,jY ⟨_,_,_,_,_,_,D2,g2,PZ,rfl,(n14.next Sn).next OX,(P4.same Sn).same OX,D6.trans (toN OX)⟩⟩
  ·exact⟨_,_,_,_,_,_,D2,g2,PZ,rfl,n14.next Sn,P4.same Sn,D6⟩
 rintro σ H9 ⟨v4,v8,v9,v10,v11,Ht,D',g,kv,rfl,n9,V8,V9⟩
 have y9:=n9.at
 have We:=V9.lst Sk
 have V_:rj D'.made.length:=by rw[n9.made];exact jc
 have sm9:Small D'.made:=by rw[n9.made];exact sm
 let Jv:=fun(i:Nat) (ys:List V) (σ:St) (Hm:Hp)=>∃(Ht:Option V),σ=[rr a,rr bl,rr d,rr hv,v4,rr mk,rr pp,rr so,v8,v9,v10,v11,Ht]∧gk H9 Hm∧Paired (fun v p=>Rep Hm 5 v (.l [Wr p,.l ((D.il p.nm).map Dv.s)])) ys (D.made.take i)
 refine⟨_,rfl,_,rfl,mk,rfl,⟨_,gK.of We⟩,jE (K:=K) (a:=mk) (xs:=gh D.names) (by rw[U8];omega) Jv
  ⟨none,rfl,gk.refl _,.nil⟩ (by rintro _ _ _ _ _ ⟨_,_,e,e2⟩;exact⟨gK.of (e _ _ We),by rw[aav e2,aay];omega⟩) ?_ ?_⟩
 ·rintro i v ys σ Hm hi ⟨Ht,rfl,IE,e2⟩
  obtain⟨x,hx,rfl⟩:=jW hi
  have K1:=hx
  unfold Dk.names at K1
  rw[aan] at K1
  obtain⟨p,hp,rfl⟩:=aaL.mp K1
  have Z8:=Yd hp
  have CN:=Yd hx
  have Wf:p.nm∈D'.names:=by rw[n9.names];exact CN
  refine⟨_,rfl,d,π.dx,_,rfl,IE _ _ y9.hd,noT _ _ _,_,rfl,d,D',W,p.nm,rfl,⟨π,y9.same IE⟩,S_ _ CN,sm9,fun h=>absurd Wf h,fun pt FJ Z9 t S6 s11 W3 rep=>?_⟩
  obtain rfl:pt=p:=Jn I.nd (by rw[←n9.made];exact FJ) Z8 Z9
  have So:=IE.trans s11
  refine⟨_,rfl,d,π.dx,_,rfl,So _ _ y9.hd,uM,_,rfl,d,D',W,pt.nm,rfl,⟨π,y9.same So⟩,S_ _ CN,V_,fun h=>absurd Wf h,fun _ l hl=>⟨L2.jc,fun u hu=>?_⟩⟩
  rw[n9.il] at hu ⊢
  have t6:gk S6 (upd S6 l (.lst (gh (D.il pt.nm)))):=(gk.refl _).new hl
  have t7:gk (upd S6 l (.lst (gh (D.il pt.nm)))) (upd (upd S6 l (.lst (gh (D.il pt.nm)))) u (.lst [.ref t,.ref l])):=(gk.refl _).new hu
  refine⟨_,rfl,(So.trans t6).trans t7,?_⟩
  rw[take_snoc hp]
  refine ix (Paired.lA e2 fun _ _ z=>z.same ((s11.trans t6).trans t7)) ?_
  exact Rep.two b_ (rep.same (t6.trans t7)) (Rep.strs (t7 _ _ b_))
 rintro ys σ Hm ⟨Ht,rfl,IE,e2⟩ pb hpb
 rw[U8,show D.names.length=D.made.length from U8 ..,aam] at e2
 have CO:gk Hm (upd Hm pb (.lst ys)):=(gk.refl _).new hpb
 have rpb:Rep (upd Hm pb (.lst ys)) 6 (.ref pb) (Uy D):=Rep.ve b_ e2 fun _ _ z=>z.same CO
 exact⟨_,⟨pp,pb,rfl,rfl⟩,Rep.eq (((rp8.oU V9).same (IE.trans CO)).mono (by decide)) (rpb.mono (by decide)),q _⟩
end
end PK
namespace TW
open PySem PySem.W L2 PK
noncomputable section
noncomputable abbrev S:=Str.ofString
noncomputable abbrev ob:=Obj.mk
noncomputable abbrev v(x:String)(t:Nat):Value:=.str (S x) t
noncomputable abbrev r:=Value.ref
noncomputable abbrev vi:=Value.int
noncomputable abbrev i(n:Int):=Value.int n 0
noncomputable abbrev vn:=Value.none
noncomputable abbrev w:=Value.type
noncomputable abbrev b:=Value.builtin
noncomputable abbrev vl:=Value.bool
noncomputable abbrev cl:=ClassData.mk
noncomputable abbrev k:=@some Value
noncomputable abbrev d(P:Params)(x:String)(t:Nat)(y:Value):DictEntry:=.mk (PyData.keyHash P (S x)) (v x t) y
noncomputable abbrev x:=top
noncomputable abbrev y(i j:Nat):=inClass (top i) j
noncomputable abbrev n:=BT.node
noncomputable abbrev z:=BT.nil
noncomputable abbrev f(o:Obj):BT:=n o z z
noncomputable abbrev of(c:String)(l:List Value):Obj:=ob (w c) none (.fields l.toArray) #[]
noncomputable abbrev tp(l:List Value):Obj:=ob (w "tuple") none (.seq l.toArray 0) #[]
noncomputable abbrev fl(l:List Value):Obj:=ob vn none (.fields l.toArray) #[]
noncomputable abbrev l3(l:List (Int×Int×Addr)):Obj:=fl (l.flatMap fun(a,b,c)=>[i a,i b,r c])
noncomputable abbrev fd(n q:Str)(st:Stmt)(g:Addr)(c:List (Str×Addr))(d kd doc pm:Value)(an:Option Addr)(co ct:Value)(b:Addr):FuncData:=⟨n,q,pR st,.stmts (lC st),gc st,g,c,d,kd,doc,pm,an,co,ct,b⟩
noncomputable abbrev fn(a b:String)(st:Stmt)(m:String)(t:Nat)(c:Addr):Obj:=ob (w "function") none (.func (fd (S a) (S b) st 3 [] vn vn vn (v m t) none (r c) vn 0)) #[]
noncomputable abbrev fv(a b:String)(st:Stmt):Obj:=ob vn none (.func (fd (S a) (S b) st 0 [] vn vn vn vn none vn vn 0)) #[]
noncomputable abbrev dt(l:List DictEntry)(c:Nat):Obj:=ob (w "dict") none (.dict l.toArray c) #[]
noncomputable abbrev fr(l:List (Option Value)):Obj:=ob (w "frame") none .plain l.toArray
noncomputable abbrev ty(c:ClassData)(l:List (Option Value)):Obj:=ob (w "type") none (.cls c) l.toArray
noncomputable abbrev o0:Addr→Value|0=>vn|a+1=>r (a+1)
noncomputable abbrev co(a b:String)(t:Nat)(l p q:Int)(c:Addr)(g:Int)(ys:List Addr)(u:Nat):Obj:=of "code" ([v a t,v b (t+1),v "/claim/cut.py" (t+2),i l,i p,i 0,i 0,i q,r c,vl true,i g]++ys.map o0++[i u,i l,v "/claim/cut.py" (u+1)])
def hP(P:Params):List DictEntry:=[(d P "__doc__" 166 vn),(d P "__package__" 167 vn),(d P "__loader__" 168 (b "__main__.__loader__#opaque")),(d P "__spec__" 169 vn),(d P "__annotations__" 170 (r 6)),(d P "__builtins__" 171 (r 4)),(d P "__file__" 173 (v "/claim/cut.py" 172)),(d P "__cached__" 174 vn),(d P "_wall" 193 (r 21)),(d P "counts_with" 206 (r 28)),(d P "most_pairs" 212 (r 33)),(d P "place_from" 222 (r 40)),(d P "kept" 235 (r 47)),(d P "PatchError" 255 (r 57))]
def hQ(P:Params):List DictEntry:=hP P++[(d P "BadName" 271 (r 70))]
def hR(P:Params):List DictEntry:=hQ P++[(d P "NameTaken" 287 (r 82))]
def hS(P:Params):List DictEntry:=hR P++[(d P "NoStore" 303 (r 94))]
def hT(P:Params):List DictEntry:=hS P++[(d P "NoPatch" 319 (r 106))]
def hU(P:Params):List DictEntry:=hT P++[(d P "NoLine" 335 (r 118))]
def hV(P:Params):List DictEntry:=hU P++[(d P "Unsettled" 351 (r 130))]
def hW(P:Params):List DictEntry:=hV P++[(d P "Same" 367 (r 142))]
def hX(P:Params):List DictEntry:=hW P++[(d P "Leant" 383 (r 154))]
def hY(P:Params):List DictEntry:=hX P++[(d P "Line" 420 (r 173))]
def hZ(P:Params):List DictEntry:=hY P++[(d P "Patch" 457 (r 194)),(d P "lines_named_by" 463 (r 203)),(d P "leans_straight_on" 469 (r 208)),(d P "live_patches" 479 (r 215)),(d P "lines_put" 489 (r 222)),(d P "standing_lines" 495 (r 227)),(d P "files_with_lines" 501 (r 232))]
def h0(P:Params):List DictEntry:=hZ P++[(d P "straight_ahead" 510 (r 239)),(d P "joined" 520 (r 246)),(d P "all_ahead" 526 (r 251)),(d P "first_free" 534 (r 258)),(d P "row_of" 540 (r 263))]
def h1(P:Params):List DictEntry:=h0 P++[(d P "Sight" 604 (r 308)),(d P "NAME_SIGNS" 608 (v "abcdefghijklmnopqrstuvwxyz0123456789" 607)),(d P "LONGEST_NAME" 610 (vi 12 609))]
def h2(P:Params):List DictEntry:=h1 P++[(d P "check_name" 618 (r 319)),(d P "check_places" 628 (r 326)),(d P "kept_behind" 638 (r 333)),(d P "new_lines" 652 (r 340)),(d P "changing_patch" 658 (r 345))]
def h3(P:Params):List DictEntry:=h2 P++[(d P "Desk" 859 (r 500))]
def h4(P:Params):List DictEntry:=h3 P++[(d P "_law_cell_at" 869 (r 511)),(d P "_law_draw" 879 (r 518)),(d P "_law_name" 893 (r 525)),(d P "_law_text" 899 (r 530)),(d P "_law_edit" 913 (r 537)),(d P "_law_deed" 919 (r 542)),(d P "_law_desk" 925 (r 547)),(d P "_law_names_are" 934 (r 554)),(d P "_law_which" 942 (r 561)),(d P "_law_due" 948 (r 566)),(d P "_law_taken" 961 (r 573)),(d P "_law_dropped" 972 (r 580))]
def h5(P:Params):List DictEntry:=h4 P++[(d P "_law_take_right" 978 (r 585)),(d P "_law_drop_right" 984 (r 590)),(d P "_law_named" 995 (r 597)),(d P "law" 1001 (r 602))]
def aa:Obj:=tp []
def ab:Obj:=fl []
def ac:Obj:=of "builtin_function_or_method" [(b "type.__prepare__"),(w "type")]
def ad:Obj:=tp [(r 57)]
def ae:Obj:=of "code" [(v "<module>" 182),(v "<module>" 183),(v "/claim/cut.py" 184),(i 1),(i 0),(i 0),(i 0),(i 0),(r 11),(vl false),(i 181),(r 12),vn,vn,vn,vn,(i 185),(i 1),(v "/claim/cut.py" 186)]
def af:Obj:=fr [(k (r 13)),(k (r 3)),(k (r 3)),none,(k (v "__main__" 164)),none,(k (r 0))]
def ag:Obj:=fn "kept" "kept" (x 5) "patchkin.differ" 194 46
def ah:Obj:=co "place_from" "place_from" 213 18 3 3 34 181 [35,0,36,37,38] 220
def ai:Obj:=co "counts_with" "counts_with" 196 5 3 3 22 181 [23,0,24,25,26] 204
def aj:Obj:=tp [(v "old" 226),(v "new" 227),(v "table" 228),(v "pairs" 229),(v "start" 230),(v "first" 231),(v "second" 232)]
def ak:Obj:=tp [(v "k" 190)]
def al:Obj:=fn "most_pairs" "most_pairs" (x 3) "patchkin.differ" 194 32
def am:Obj:=fn "_wall" "_wall" (x 0) "__main__" 164 20
def an:Obj:=co "most_pairs" "most_pairs" 207 13 2 3 29 181 [30,0,0,0,31] 210
def ao:Obj:=tp [(w "ValueError")]
def ap:Obj:=tp [(v "text" 199),(v "new" 200),(v "below" 201),(v "counts" 202),(v "second" 203)]
def aq:Obj:=fn "place_from" "place_from" (x 4) "patchkin.differ" 194 39
def ar(P:Params):Obj:=dt [(d P "__module__" 245 (v "patchkin.errors" 236)),(d P "__firstlineno__" 249 (vi 34 248)),(d P "__static_attributes__" 250 (r 55)),(d P "__weakref__" 252 (r 58)),(d P "__doc__" 253 vn)] 3
def au:Obj:=co "_wall" "_wall" 187 1 1 3 15 181 [16,0,17,18,19] 191
def av:Obj:=tp [(v "texts" 216),(v "text" 217),(v "start" 218),(v "place" 219)]
def aw:Obj:=fn "counts_with" "counts_with" (x 2) "patchkin.differ" 194 27
def ax:Obj:=of "getset_descriptor" [(v "__weakref__" 251),(r 57),(b "ExceptionGroup.__weakref__"),vn]
def ay:Obj:=co "kept" "kept" 223 23 2 3 41 181 [42,0,43,44,45] 233
def az:Obj:=fv "most_pairs" "most_pairs" (x 3)
def aA:Obj:=fv "_wall" "_wall" (x 0)
def aB:Obj:=of "super" [(r 57),(r 57),(r 57)]
def aC(P:Params):Obj:=dt [(d P "__module__" 263 (v "patchkin.errors" 236)),(d P "__firstlineno__" 267 (vi 36 266)),(d P "__static_attributes__" 268 (r 68)),(d P "__doc__" 269 vn)] 2
def aD:Obj:=of "code" [(v "PatchError" 240),(v "PatchError" 241),(v "/claim/cut.py" 242),(i 34),(i 0),(i 0),(i 0),(i 0),(r 51),(vl false),(i 181),(r 52),vn,vn,vn,vn,(i 243),(i 34),(v "/claim/cut.py" 244)]
def aE:Obj:=fv "kept" "kept" (x 5)
def aF:Obj:=of "builtin_function_or_method" [(b "object.__init_subclass__"),(r 57)]
def aG(P:Params):Obj:=dt [(d P "__module__" 245 (v "patchkin.errors" 236)),(d P "__qualname__" 247 (v "PatchError" 246)),(d P "__firstlineno__" 249 (vi 34 248)),(d P "__static_attributes__" 250 (r 55))] 4
def aH:Obj:=fv "counts_with" "counts_with" (x 2)
def aI:Obj:=fv "place_from" "place_from" (x 4)
def aJ:Obj:=ty (cl (S "BadName") [(r 57)] [(r 70),(r 57),(w "ValueError"),(w "Exception"),(w "BaseException"),(w "object")] 69 (S "BadName") true [] [] false none false) [(k (r 61)),none,(k (v "BadName" 256)),(k (v "BadName" 264)),(k (b "ValueError.__new__")),(k (vl true))]
def aK:Obj:=fr [(k (r 53)),(k (r 3)),(k (r 50)),none,(k (v "patchkin.errors" 236)),none,(k (r 0))]
def aL(P:Params):Obj:=dt [(d P "__module__" 263 (v "patchkin.errors" 236)),(d P "__qualname__" 265 (v "BadName" 264)),(d P "__firstlineno__" 267 (vi 36 266)),(d P "__static_attributes__" 268 (r 68))] 4
def aM:Obj:=of "super" [(r 70),(r 70),(r 70)]
def aN:Obj:=fr [(k (r 66)),(k (r 3)),(k (r 63)),none,(k (v "patchkin.errors" 236)),none,(k (r 0))]
def aO(P:Params):Obj:=dt [(d P "__module__" 279 (v "patchkin.errors" 236)),(d P "__firstlineno__" 283 (vi 38 282)),(d P "__static_attributes__" 284 (r 80)),(d P "__doc__" 285 vn)] 2
def aP:Obj:=of "builtin_function_or_method" [(b "object.__init_subclass__"),(r 70)]
def aQ:Obj:=of "code" [(v "BadName" 258),(v "BadName" 259),(v "/claim/cut.py" 260),(i 36),(i 0),(i 0),(i 0),(i 0),(r 64),(vl false),(i 181),(r 65),vn,vn,vn,vn,(i 261),(i 36),(v "/claim/cut.py" 262)]
def aR:Obj:=ty (cl (S "NameTaken") [(r 57)] [(r 82),(r 57),(w "ValueError"),(w "Exception"),(w "BaseException"),(w "object")] 81 (S "NameTaken") true [] [] false none false) [(k (r 73)),none,(k (v "NameTaken" 272)),(k (v "NameTaken" 280)),(k (b "ValueError.__new__")),(k (vl true))]
def aS:Obj:=fr [(k (r 78)),(k (r 3)),(k (r 75)),none,(k (v "patchkin.errors" 236)),none,(k (r 0))]
def aT:Obj:=of "super" [(r 82),(r 82),(r 82)]
def aU(P:Params):Obj:=dt [(d P "__module__" 279 (v "patchkin.errors" 236)),(d P "__qualname__" 281 (v "NameTaken" 280)),(d P "__firstlineno__" 283 (vi 38 282)),(d P "__static_attributes__" 284 (r 80))] 4
def aV(P:Params):Obj:=dt [(d P "__module__" 295 (v "patchkin.errors" 236)),(d P "__firstlineno__" 299 (vi 40 298)),(d P "__static_attributes__" 300 (r 92)),(d P "__doc__" 301 vn)] 2
def aW:Obj:=of "builtin_function_or_method" [(b "object.__init_subclass__"),(r 82)]
def aX:Obj:=of "code" [(v "NameTaken" 274),(v "NameTaken" 275),(v "/claim/cut.py" 276),(i 38),(i 0),(i 0),(i 0),(i 0),(r 76),(vl false),(i 181),(r 77),vn,vn,vn,vn,(i 277),(i 38),(v "/claim/cut.py" 278)]
def aY:Obj:=ty (cl (S "NoStore") [(r 57)] [(r 94),(r 57),(w "ValueError"),(w "Exception"),(w "BaseException"),(w "object")] 93 (S "NoStore") true [] [] false none false) [(k (r 85)),none,(k (v "NoStore" 288)),(k (v "NoStore" 296)),(k (b "ValueError.__new__")),(k (vl true))]
def aZ:Obj:=of "super" [(r 94),(r 94),(r 94)]
def a0(P:Params):Obj:=dt [(d P "__module__" 295 (v "patchkin.errors" 236)),(d P "__qualname__" 297 (v "NoStore" 296)),(d P "__firstlineno__" 299 (vi 40 298)),(d P "__static_attributes__" 300 (r 92))] 4
def a1:Obj:=fr [(k (r 90)),(k (r 3)),(k (r 87)),none,(k (v "patchkin.errors" 236)),none,(k (r 0))]
def a2(P:Params):Obj:=dt [(d P "__module__" 311 (v "patchkin.errors" 236)),(d P "__firstlineno__" 315 (vi 42 314)),(d P "__static_attributes__" 316 (r 104)),(d P "__doc__" 317 vn)] 2
def a3:Obj:=of "builtin_function_or_method" [(b "object.__init_subclass__"),(r 94)]
def a4:Obj:=ty (cl (S "NoPatch") [(r 57)] [(r 106),(r 57),(w "ValueError"),(w "Exception"),(w "BaseException"),(w "object")] 105 (S "NoPatch") true [] [] false none false) [(k (r 97)),none,(k (v "NoPatch" 304)),(k (v "NoPatch" 312)),(k (b "ValueError.__new__")),(k (vl true))]
def a5:Obj:=of "code" [(v "NoStore" 290),(v "NoStore" 291),(v "/claim/cut.py" 292),(i 40),(i 0),(i 0),(i 0),(i 0),(r 88),(vl false),(i 181),(r 89),vn,vn,vn,vn,(i 293),(i 40),(v "/claim/cut.py" 294)]
def a6:Obj:=fr [(k (r 102)),(k (r 3)),(k (r 99)),none,(k (v "patchkin.errors" 236)),none,(k (r 0))]
def a7(P:Params):Obj:=dt [(d P "__module__" 311 (v "patchkin.errors" 236)),(d P "__qualname__" 313 (v "NoPatch" 312)),(d P "__firstlineno__" 315 (vi 42 314)),(d P "__static_attributes__" 316 (r 104))] 4
def a8:Obj:=of "super" [(r 106),(r 106),(r 106)]
def a9(P:Params):Obj:=dt [(d P "__module__" 327 (v "patchkin.errors" 236)),(d P "__firstlineno__" 331 (vi 44 330)),(d P "__static_attributes__" 332 (r 116)),(d P "__doc__" 333 vn)] 2
def ba:Obj:=of "builtin_function_or_method" [(b "object.__init_subclass__"),(r 106)]
def bb:Obj:=of "code" [(v "NoPatch" 306),(v "NoPatch" 307),(v "/claim/cut.py" 308),(i 42),(i 0),(i 0),(i 0),(i 0),(r 100),(vl false),(i 181),(r 101),vn,vn,vn,vn,(i 309),(i 42),(v "/claim/cut.py" 310)]
def bc:Obj:=ty (cl (S "NoLine") [(r 57)] [(r 118),(r 57),(w "ValueError"),(w "Exception"),(w "BaseException"),(w "object")] 117 (S "NoLine") true [] [] false none false) [(k (r 109)),none,(k (v "NoLine" 320)),(k (v "NoLine" 328)),(k (b "ValueError.__new__")),(k (vl true))]
def bd(P:Params):Obj:=dt [(d P "__module__" 327 (v "patchkin.errors" 236)),(d P "__qualname__" 329 (v "NoLine" 328)),(d P "__firstlineno__" 331 (vi 44 330)),(d P "__static_attributes__" 332 (r 116))] 4
def be:Obj:=of "super" [(r 118),(r 118),(r 118)]
def bf:Obj:=fr [(k (r 114)),(k (r 3)),(k (r 111)),none,(k (v "patchkin.errors" 236)),none,(k (r 0))]
def bg(P:Params):Obj:=dt [(d P "__module__" 343 (v "patchkin.errors" 236)),(d P "__firstlineno__" 347 (vi 46 346)),(d P "__static_attributes__" 348 (r 128)),(d P "__doc__" 349 vn)] 2
def bh:Obj:=of "builtin_function_or_method" [(b "object.__init_subclass__"),(r 118)]
def bi:Obj:=ty (cl (S "Unsettled") [(r 57)] [(r 130),(r 57),(w "ValueError"),(w "Exception"),(w "BaseException"),(w "object")] 129 (S "Unsettled") true [] [] false none false) [(k (r 121)),none,(k (v "Unsettled" 336)),(k (v "Unsettled" 344)),(k (b "ValueError.__new__")),(k (vl true))]
def bj:Obj:=of "code" [(v "NoLine" 322),(v "NoLine" 323),(v "/claim/cut.py" 324),(i 44),(i 0),(i 0),(i 0),(i 0),(r 112),(vl false),(i 181),(r 113),vn,vn,vn,vn,(i 325),(i 44),(v "/claim/cut.py" 326)]
def bk:Obj:=fr [(k (r 126)),(k (r 3)),(k (r 123)),none,(k (v "patchkin.errors" 236)),none,(k (r 0))]
def bl:Obj:=of "super" [(r 130),(r 130),(r 130)]
def bm(P:Params):Obj:=dt [(d P "__module__" 343 (v "patchkin.errors" 236)),(d P "__qualname__" 345 (v "Unsettled" 344)),(d P "__firstlineno__" 347 (vi 46 346)),(d P "__static_attributes__" 348 (r 128))] 4
def bn(P:Params):Obj:=dt [(d P "__module__" 359 (v "patchkin.errors" 236)),(d P "__firstlineno__" 363 (vi 48 362)),(d P "__static_attributes__" 364 (r 140)),(d P "__doc__" 365 vn)] 2
def bo:Obj:=of "builtin_function_or_method" [(b "object.__init_subclass__"),(r 130)]
def bp:Obj:=ty (cl (S "Same") [(r 57)] [(r 142),(r 57),(w "ValueError"),(w "Exception"),(w "BaseException"),(w "object")] 141 (S "Same") true [] [] false none false) [(k (r 133)),none,(k (v "Same" 352)),(k (v "Same" 360)),(k (b "ValueError.__new__")),(k (vl true))]
def bq:Obj:=of "code" [(v "Unsettled" 338),(v "Unsettled" 339),(v "/claim/cut.py" 340),(i 46),(i 0),(i 0),(i 0),(i 0),(r 124),(vl false),(i 181),(r 125),vn,vn,vn,vn,(i 341),(i 46),(v "/claim/cut.py" 342)]
def br:Obj:=of "super" [(r 142),(r 142),(r 142)]
def bs(P:Params):Obj:=dt [(d P "__module__" 359 (v "patchkin.errors" 236)),(d P "__qualname__" 361 (v "Same" 360)),(d P "__firstlineno__" 363 (vi 48 362)),(d P "__static_attributes__" 364 (r 140))] 4
def bt:Obj:=fr [(k (r 138)),(k (r 3)),(k (r 135)),none,(k (v "patchkin.errors" 236)),none,(k (r 0))]
def bu:Obj:=of "builtin_function_or_method" [(b "object.__init_subclass__"),(r 142)]
def bv:Obj:=of "code" [(v "Same" 354),(v "Same" 355),(v "/claim/cut.py" 356),(i 48),(i 0),(i 0),(i 0),(i 0),(r 136),(vl false),(i 181),(r 137),vn,vn,vn,vn,(i 357),(i 48),(v "/claim/cut.py" 358)]
def bw:Obj:=ty (cl (S "PatchError") [(w "ValueError")] [(r 57),(w "ValueError"),(w "Exception"),(w "BaseException"),(w "object")] 56 (S "PatchError") true [] [(r 70),(r 82),(r 94),(r 106),(r 118),(r 130),(r 142),(r 154)] false none false) [(k (r 48)),none,(k (v "PatchError" 238)),(k (v "PatchError" 246)),(k (b "ValueError.__new__")),(k (vl true))]
def bx(P:Params):Obj:=dt [(d P "__module__" 375 (v "patchkin.errors" 236)),(d P "__firstlineno__" 379 (vi 50 378)),(d P "__static_attributes__" 380 (r 152)),(d P "__doc__" 381 vn)] 2
def bz:Obj:=ty (cl (S "Leant") [(r 57)] [(r 154),(r 57),(w "ValueError"),(w "Exception"),(w "BaseException"),(w "object")] 153 (S "Leant") true [] [] false none false) [(k (r 145)),none,(k (v "Leant" 368)),(k (v "Leant" 376)),(k (b "ValueError.__new__")),(k (vl true))]
def bA:Obj:=fr [(k (r 150)),(k (r 3)),(k (r 147)),none,(k (v "patchkin.errors" 236)),none,(k (r 0))]
def bB(P:Params):Obj:=dt [(d P "__module__" 375 (v "patchkin.errors" 236)),(d P "__qualname__" 377 (v "Leant" 376)),(d P "__firstlineno__" 379 (vi 50 378)),(d P "__static_attributes__" 380 (r 152))] 4
def bC:Obj:=of "super" [(r 154),(r 154),(r 154)]
def bD:Obj:=of "builtin_function_or_method" [(b "object.__init_subclass__"),(r 154)]
def bE:Obj:=of "code" [(v "Leant" 370),(v "Leant" 371),(v "/claim/cut.py" 372),(i 50),(i 0),(i 0),(i 0),(i 0),(r 148),(vl false),(i 181),(r 149),vn,vn,vn,vn,(i 373),(i 50),(v "/claim/cut.py" 374)]
def bF:Obj:=of "getset_descriptor" [(v "__weakref__" 416),(r 173),(b "ExceptionGroup.__weakref__"),vn]
def bG:Obj:=tp [(v "lower_name" 409),(v "name" 410),(v "text" 411),(v "upper_name" 412)]
def bH:Obj:=co "__init__" "Line.__init__" 398 55 5 3 164 181 [165,0,166,167,168] 406
def bI:Obj:=ty (cl (S "Line") [(w "object")] [(r 173),(w "object")] 172 (S "Line") true [] [] false none false) [none,none,(k (v "Line" 386)),(k (v "Line" 394)),(k (b "object.__new__")),(k (vl true))]
def bJ(P:Params):Obj:=dt [(d P "__module__" 393 (v "patchkin.order" 384)),(d P "__firstlineno__" 397 (vi 53 396)),(d P "__init__" 408 (r 170)),(d P "__static_attributes__" 413 (r 171)),(d P "__dict__" 415 (r 174)),(d P "__weakref__" 417 (r 175)),(d P "__doc__" 418 vn)] 4
def bK:Obj:=fn "__init__" "Line.__init__" (y 17 0) "patchkin.order" 384 169
def bL:Obj:=tp [(v "self" 401),(v "name" 402),(v "text" 403),(v "upper_name" 404),(v "lower_name" 405)]
def bM:Obj:=of "getset_descriptor" [(v "__dict__" 414),(r 173),(b "function.__dict__"),(b "function.__dict__#set")]
def bN:Obj:=fn "__init__" "Patch.__init__" (y 18 0) "patchkin.order" 384 190
def bO(P:Params):Obj:=dt [(d P "__module__" 393 (v "patchkin.order" 384)),(d P "__qualname__" 395 (v "Line" 394)),(d P "__firstlineno__" 397 (vi 53 396)),(d P "__init__" 408 (r 170)),(d P "__static_attributes__" 413 (r 171))] 5
def bP:Obj:=co "leans_straight_on" "leans_straight_on" 464 74 1 3 204 181 [205,0,0,0,206] 467
def bQ:Obj:=co "files_with_lines" "files_with_lines" 496 101 1 3 228 181 [229,0,0,0,230] 499
def bR:Obj:=fn "live_patches" "live_patches" (x 21) "patchkin.order" 384 214
def bS:Obj:=of "getset_descriptor" [(v "__dict__" 451),(r 194),(b "function.__dict__"),(b "function.__dict__#set")]
def bT:Obj:=fr [(k (r 162)),(k (r 3)),(k (r 159)),none,(k (v "patchkin.order" 384)),none,(k (r 0))]
def bU:Obj:=fn "standing_lines" "standing_lines" (x 23) "patchkin.order" 384 226
def bV:Obj:=tp [(v "patches" 473),(v "taken_back" 474),(v "live" 475),(v "patch" 476)]
def bW:Obj:=fn "lines_named_by" "lines_named_by" (x 19) "patchkin.order" 384 202
def bX:Obj:=tp [(v "self" 436),(v "name" 437),(v "file" 438),(v "puts" 439),(v "cuts" 440),(v "other" 441)]
def bY(P:Params):Obj:=dt [(d P "__module__" 428 (v "patchkin.order" 384)),(d P "__firstlineno__" 432 (vi 60 431)),(d P "__init__" 444 (r 191)),(d P "__static_attributes__" 450 (r 192)),(d P "__dict__" 452 (r 195)),(d P "__weakref__" 454 (r 196)),(d P "__doc__" 455 vn)] 4
def bZ:Obj:=l3 [(55,4,169)]
def b0:Obj:=of "builtin_function_or_method" [(b "object.__init_subclass__"),(r 173)]
def b1:Obj:=co "lines_put" "lines_put" 480 88 2 3 216 181 [217,0,218,219,220] 487
def b2:Obj:=tp [(v "cuts" 445),(v "file" 446),(v "name" 447),(v "other" 448),(v "puts" 449)]
def b3:Obj:=fn "leans_straight_on" "leans_straight_on" (x 20) "patchkin.order" 384 207
def b4:Obj:=of "super" [(r 173),(r 173),(r 173)]
def b5:Obj:=fv "__init__" "Line.__init__" (y 17 0)
def b6:Obj:=fn "files_with_lines" "files_with_lines" (x 24) "patchkin.order" 384 231
def b7:Obj:=of "getset_descriptor" [(v "__weakref__" 453),(r 194),(b "ExceptionGroup.__weakref__"),vn]
def b8:Obj:=ty (cl (S "Patch") [(w "object")] [(r 194),(w "object")] 193 (S "Patch") true [] [] false none false) [none,none,(k (v "Patch" 421)),(k (v "Patch" 429)),(k (b "object.__new__")),(k (vl true))]
def b9:Obj:=of "code" [(v "Line" 388),(v "Line" 389),(v "/claim/cut.py" 390),(i 53),(i 0),(i 0),(i 0),(i 0),(r 160),(vl false),(i 181),(r 161),vn,vn,vn,vn,(i 391),(i 53),(v "/claim/cut.py" 392)]
def ca:Obj:=co "standing_lines" "standing_lines" 490 94 2 3 223 181 [224,0,0,0,225] 493
def cb:Obj:=co "lines_named_by" "lines_named_by" 458 68 1 3 199 181 [200,0,0,0,201] 461
def cc:Obj:=tp [(v "patches" 483),(v "file" 484),(v "lines" 485),(v "patch" 486)]
def cd:Obj:=co "live_patches" "live_patches" 470 79 1 3 209 181 [210,0,211,212,213] 477
def ce:Obj:=fn "lines_put" "lines_put" (x 22) "patchkin.order" 384 221
def cf:Obj:=co "__init__" "Patch.__init__" 433 62 6 3 185 181 [186,0,187,188,189] 442
def cg:Obj:=fn "straight_ahead" "straight_ahead" (x 25) "patchkin.order" 384 238
def ch:Obj:=fn "row_of" "row_of" (x 29) "patchkin.order" 384 262
def ci:Obj:=of "code" [(v "Patch" 423),(v "Patch" 424),(v "/claim/cut.py" 425),(i 60),(i 0),(i 0),(i 0),(i 0),(r 181),(vl false),(i 181),(r 182),vn,vn,vn,vn,(i 426),(i 60),(v "/claim/cut.py" 427)]
def cj:Obj:=tp [(v "lines" 505),(v "straight" 506),(v "line" 507)]
def ck:Obj:=fn "all_ahead" "all_ahead" (x 27) "patchkin.order" 384 250
def cm:Obj:=co "first_free" "first_free" 527 136 1 3 252 181 [253,0,254,255,256] 532
def cn:Obj:=fv "standing_lines" "standing_lines" (x 23)
def cp:Obj:=fv "lines_named_by" "lines_named_by" (x 19)
def cq:Obj:=of "super" [(r 194),(r 194),(r 194)]
def cr:Obj:=fv "live_patches" "live_patches" (x 21)
def cs:Obj:=co "joined" "joined" 511 114 2 3 240 181 [241,0,242,243,244] 518
def ct:Obj:=fv "__init__" "Patch.__init__" (y 18 0)
def cu:Obj:=fr [(k (r 183)),(k (r 3)),(k (r 180)),none,(k (v "patchkin.order" 384)),none,(k (r 0))]
def cv(P:Params):Obj:=dt [(d P "__module__" 428 (v "patchkin.order" 384)),(d P "__qualname__" 430 (v "Patch" 429)),(d P "__firstlineno__" 432 (vi 60 431)),(d P "__init__" 444 (r 191)),(d P "__static_attributes__" 450 (r 192))] 5
def cw:Obj:=fv "lines_put" "lines_put" (x 22)
def cx:Obj:=fn "first_free" "first_free" (x 28) "patchkin.order" 384 257
def cy:Obj:=tp [(v "names" 514),(v "ahead" 515),(v "found" 516),(v "name" 517)]
def cz:Obj:=co "all_ahead" "all_ahead" 521 120 1 3 247 181 [248,0,0,0,249] 524
def cA:Obj:=co "row_of" "row_of" 535 141 2 3 259 181 [260,0,0,0,261] 538
def cB:Obj:=of "builtin_function_or_method" [(b "object.__init_subclass__"),(r 194)]
def cC:Obj:=fv "files_with_lines" "files_with_lines" (x 24)
def cD:Obj:=l3 [(62,4,190)]
def cE:Obj:=fn "joined" "joined" (x 26) "patchkin.order" 384 245
def cF:Obj:=fv "leans_straight_on" "leans_straight_on" (x 20)
def cG:Obj:=co "straight_ahead" "straight_ahead" 502 104 1 3 233 181 [234,0,235,236,237] 508
def cH:Obj:=tp [(v "waiting" 530),(v "name" 531)]
def cI:Obj:=tp [(v "self" 574),(v "pairs" 575),(v "first" 576),(v "second" 577)]
def cJ:Obj:=fn "quarrelling" "Sight.quarrelling" (y 30 2) "patchkin.order" 384 290
def cK(P:Params):Obj:=dt [(d P "__module__" 548 (v "patchkin.order" 384)),(d P "__firstlineno__" 552 (vi 156 551)),(d P "__init__" 561 (r 277)),(d P "is_ahead" 570 (r 284)),(d P "quarrelling" 580 (r 291)),(d P "most_from" 587 (r 298)),(d P "staying" 594 (r 305)),(d P "__static_attributes__" 597 (r 306)),(d P "__dict__" 599 (r 309)),(d P "__weakref__" 601 (r 310)),(d P "__doc__" 602 vn)] 4
def cL:Obj:=co "is_ahead" "Sight.is_ahead" 562 162 3 3 278 181 [279,0,280,281,282] 568
def cM:Obj:=tp [(v "self" 556),(v "patches" 557),(v "file" 558)]
def cN:Obj:=fn "staying" "Sight.staying" (y 30 4) "patchkin.order" 384 304
def cO:Obj:=co "most_from" "Sight.most_from" 581 173 1 3 292 181 [293,0,294,295,296] 585
def cP:Obj:=fv "all_ahead" "all_ahead" (x 27)
def cQ:Obj:=fv "row_of" "row_of" (x 29)
def cR:Obj:=fn "__init__" "Sight.__init__" (y 30 0) "patchkin.order" 384 276
def cS:Obj:=of "getset_descriptor" [(v "__dict__" 598),(r 308),(b "function.__dict__"),(b "function.__dict__#set")]
def cT:Obj:=tp [(v "self" 591)]
def cU:Obj:=fv "straight_ahead" "straight_ahead" (x 25)
def cV:Obj:=fv "first_free" "first_free" (x 28)
def cW:Obj:=co "staying" "Sight.staying" 588 176 1 3 299 181 [300,0,301,302,303] 592
def cX:Obj:=tp [(v "self" 565),(v "first" 566),(v "second" 567)]
def cY:Obj:=co "__init__" "Sight.__init__" 553 158 3 3 271 181 [272,0,273,274,275] 559
def cZ:Obj:=ty (cl (S "Sight") [(w "object")] [(r 308),(w "object")] 307 (S "Sight") true [] [] false none false) [none,none,(k (v "Sight" 541)),(k (v "Sight" 549)),(k (b "object.__new__")),(k (vl true))]
def c0:Obj:=fv "joined" "joined" (x 26)
def c1:Obj:=fn "is_ahead" "Sight.is_ahead" (y 30 1) "patchkin.order" 384 283
def c2:Obj:=co "quarrelling" "Sight.quarrelling" 571 165 1 3 285 181 [286,0,287,288,289] 578
def c3:Obj:=tp [(v "ahead" 595),(v "lines" 596)]
def c4:Obj:=fn "most_from" "Sight.most_from" (y 30 3) "patchkin.order" 384 297
def c5:Obj:=tp [(v "self" 584)]
def c6:Obj:=of "getset_descriptor" [(v "__weakref__" 600),(r 308),(b "ExceptionGroup.__weakref__"),vn]
def c7:Obj:=fn "check_name" "check_name" (x 34) "patchkin.desk" 605 318
def c8:Obj:=fv "staying" "Sight.staying" (y 30 4)
def c9:Obj:=of "super" [(r 308),(r 308),(r 308)]
def da:Obj:=fv "__init__" "Sight.__init__" (y 30 0)
def db:Obj:=co "new_lines" "new_lines" 639 198 3 3 334 181 [335,0,336,337,338] 650
def dc:Obj:=tp [(v "name" 614),(v "sign" 615)]
def df:Obj:=fv "quarrelling" "Sight.quarrelling" (y 30 2)
def dg:Obj:=tp [(v "kept_names" 632),(v "size" 633),(v "behind" 634),(v "place" 635)]
def dh:Obj:=fn "changing_patch" "changing_patch" (x 38) "patchkin.desk" 605 344
def di:Obj:=co "check_places" "check_places" 619 187 2 3 320 181 [321,0,322,323,324] 626
def dj:Obj:=of "code" [(v "Sight" 543),(v "Sight" 544),(v "/claim/cut.py" 545),(i 156),(i 0),(i 0),(i 0),(i 0),(r 267),(vl false),(i 181),(r 268),vn,vn,vn,vn,(i 546),(i 156),(v "/claim/cut.py" 547)]
def dk:Obj:=fn "kept_behind" "kept_behind" (x 36) "patchkin.desk" 605 332
def dl:Obj:=tp [(v "patch" 642),(v "texts" 643),(v "kept_names" 644),(v "behind" 645),(v "lines" 646),(v "upper_name" 647),(v "place" 648),(v "text" 649)]
def dm:Obj:=fv "most_from" "Sight.most_from" (y 30 3)
def dn:Obj:=co "changing_patch" "changing_patch" 653 209 4 3 341 181 [342,0,0,0,343] 656
def dp:Obj:=of "builtin_function_or_method" [(b "object.__init_subclass__"),(r 308)]
def dq:Obj:=fn "new_lines" "new_lines" (x 37) "patchkin.desk" 605 339
def dr:Obj:=l3 [(158,4,276),(162,4,283),(165,4,290),(173,4,297),(176,4,304)]
def ds:Obj:=co "kept_behind" "kept_behind" 629 193 2 3 327 181 [328,0,329,330,331] 636
def du:Obj:=tp [(v "places" 622),(v "size" 623),(v "least" 624),(v "place" 625)]
def dv(P:Params):Obj:=dt [(d P "__module__" 548 (v "patchkin.order" 384)),(d P "__qualname__" 550 (v "Sight" 549)),(d P "__firstlineno__" 552 (vi 156 551)),(d P "__init__" 561 (r 277)),(d P "is_ahead" 570 (r 284)),(d P "quarrelling" 580 (r 291)),(d P "most_from" 587 (r 298)),(d P "staying" 594 (r 305)),(d P "__static_attributes__" 597 (r 306))] 9
def dw:Obj:=fv "is_ahead" "Sight.is_ahead" (y 30 1)
def dx:Obj:=fn "check_places" "check_places" (x 35) "patchkin.desk" 605 325
def dy:Obj:=fr [(k (r 269)),(k (r 3)),(k (r 266)),none,(k (v "patchkin.order" 384)),none,(k (r 0))]
def dz:Obj:=co "check_name" "check_name" 611 181 1 3 313 181 [314,0,315,316,317] 616
def dA:Obj:=fv "changing_patch" "changing_patch" (x 38)
def dB:Obj:=fv "kept_behind" "kept_behind" (x 36)
def dC:Obj:=fv "check_name" "check_name" (x 34)
def dD:Obj:=fv "check_places" "check_places" (x 35)
def dE:Obj:=fv "new_lines" "new_lines" (x 37)
def dF:Obj:=co "told" "Desk.told" 750 287 2 3 420 181 [421,0,0,0,422] 753
def dG:Obj:=fn "__init__" "Desk.__init__" (y 39 0) "patchkin.desk" 605 358
def dH:Obj:=fn "take" "Desk.take" (y 39 8) "patchkin.desk" 605 406
def dI:Obj:=fn "leans" "Desk.leans" (y 39 10) "patchkin.desk" 605 418
def dJ:Obj:=tp [(v "self" 674)]
def dK:Obj:=fn "cut" "Desk.cut" (y 39 6) "patchkin.desk" 605 394
def dL:Obj:=co "patches" "Desk.patches" 693 233 1 3 374 181 [375,0,376,377,378] 697
def dM:Obj:=fn "has" "Desk.has" (y 39 4) "patchkin.desk" 605 384
def dN:Obj:=co "back" "Desk.back" 718 259 4 3 396 181 [397,0,398,399,400] 725
def dO:Obj:=tp [(v "self" 689)]
def dP:Obj:=co "record" "Desk.record" 706 240 5 3 386 181 [387,0,0,0,388] 709
def dQ:Obj:=fn "stores" "Desk.stores" (y 39 2) "patchkin.desk" 605 372
def dR:Obj:=co "begin" "Desk.begin" 678 224 2 3 360 181 [361,0,362,363,364] 683
def dS:Obj:=co "drop" "Desk.drop" 734 275 3 3 408 181 [409,0,410,411,412] 741
def dT:Obj:=co "has" "Desk.has" 700 236 2 3 381 181 [382,0,0,0,383] 703
def dU:Obj:=fn "told" "Desk.told" (y 39 11) "patchkin.desk" 605 423
def dV:Obj:=tp [(v "self" 696)]
def dW:Obj:=co "stores" "Desk.stores" 686 230 1 3 367 181 [368,0,369,370,371] 690
def dX:Obj:=fn "patches" "Desk.patches" (y 39 3) "patchkin.desk" 605 379
def dY:Obj:=co "leans" "Desk.leans" 744 283 2 3 415 181 [416,0,0,0,417] 747
def dZ:Obj:=fn "back" "Desk.back" (y 39 7) "patchkin.desk" 605 401
def d0:Obj:=co "cut" "Desk.cut" 712 250 5 3 391 181 [392,0,0,0,393] 715
def d1:Obj:=tp [(v "self" 681),(v "store" 682)]
def d2:Obj:=tp [(v "self" 737),(v "store" 738),(v "patch" 739),(v "name" 740)]
def d3:Obj:=fn "record" "Desk.record" (y 39 5) "patchkin.desk" 605 389
def d4:Obj:=co "__init__" "Desk.__init__" 671 219 1 3 353 181 [354,0,355,356,357] 675
def d5:Obj:=co "take" "Desk.take" 728 265 4 3 403 181 [404,0,0,0,405] 731
def d6:Obj:=tp [(v "self" 721),(v "store" 722),(v "patch" 723),(v "other" 724)]
def d7:Obj:=fn "begin" "Desk.begin" (y 39 1) "patchkin.desk" 605 365
def d8:Obj:=fn "drop" "Desk.drop" (y 39 9) "patchkin.desk" 605 413
def d9:Obj:=fv "has" "Desk.has" (y 39 4)
def ea:Obj:=of "code" [(v "Desk" 661),(v "Desk" 662),(v "/claim/cut.py" 663),(i 217),(i 0),(i 0),(i 0),(i 0),(r 349),(vl false),(i 181),(r 350),vn,vn,vn,vn,(i 664),(i 217),(v "/claim/cut.py" 665)]
def eb:Obj:=tp [(v "self" 822),(v "store" 823),(v "patch" 824)]
def ec:Obj:=fn "files" "Desk.files" (y 39 12) "patchkin.desk" 605 430
def ed:Obj:=fn "patches_of" "Desk.patches_of" (y 39 16) "patchkin.desk" 605 454
def ee:Obj:=tp [(v "self" 773),(v "store" 774),(v "file" 775)]
def ef:Obj:=fn "check_held" "Desk.check_held" (y 39 20) "patchkin.desk" 605 482
def eg:Obj:=co "row" "Desk.row" 764 296 3 3 432 181 [433,0,0,0,434] 767
def eh:Obj:=fv "stores" "Desk.stores" (y 39 2)
def ei(P:Params):Obj:=dt [(d P "__module__" 666 (v "patchkin.desk" 605)),(d P "__firstlineno__" 670 (vi 217 669)),(d P "__init__" 677 (r 359)),(d P "begin" 685 (r 366)),(d P "stores" 692 (r 373)),(d P "patches" 699 (r 380)),(d P "has" 705 (r 385)),(d P "record" 711 (r 390)),(d P "cut" 717 (r 395)),(d P "back" 727 (r 402)),(d P "take" 733 (r 407)),(d P "drop" 743 (r 414)),(d P "leans" 749 (r 419)),(d P "told" 755 (r 424)),(d P "files" 763 (r 431)),(d P "row" 769 (r 436)),(d P "quarrels" 778 (r 443)),(d P "stay" 787 (r 450)),(d P "patches_of" 793 (r 455)),(d P "sight_of" 802 (r 462)),(d P "check_store" 810 (r 469)),(d P "check_made" 818 (r 476)),(d P "check_held" 827 (r 483)),(d P "check_new" 837 (r 490)),(d P "keep" 848 (r 497)),(d P "__static_attributes__" 852 (r 498)),(d P "__dict__" 854 (r 501)),(d P "__weakref__" 856 (r 502)),(d P "__doc__" 857 vn)] 4
def ej:Obj:=tp [(v "self" 759),(v "store" 760)]
def ek:Obj:=co "check_made" "Desk.check_made" 811 315 2 3 470 181 [471,0,472,473,474] 816
def el:Obj:=fn "quarrels" "Desk.quarrels" (y 39 14) "patchkin.desk" 605 442
def em:Obj:=co "stay" "Desk.stay" 779 302 3 3 444 181 [445,0,446,447,448] 785
def en:Obj:=fv "leans" "Desk.leans" (y 39 10)
def eo:Obj:=tp [(v "self" 806),(v "store" 807)]
def ep:Obj:=fn "keep" "Desk.keep" (y 39 22) "patchkin.desk" 605 496
def eq:Obj:=fv "cut" "Desk.cut" (y 39 6)
def er:Obj:=co "check_new" "Desk.check_new" 828 323 3 3 484 181 [485,0,486,487,488] 835
def es:Obj:=fv "__init__" "Desk.__init__" (y 39 0)
def et:Obj:=fv "take" "Desk.take" (y 39 8)
def eu:Obj:=fn "check_store" "Desk.check_store" (y 39 18) "patchkin.desk" 605 468
def ev:Obj:=of "getset_descriptor" [(v "__dict__" 853),(r 500),(b "function.__dict__"),(b "function.__dict__#set")]
def ew:Obj:=co "sight_of" "Desk.sight_of" 794 308 3 3 456 181 [457,0,458,459,460] 800
def ex:Obj:=tp [(v "self" 841),(v "store" 842),(v "patch" 843),(v "needs" 844),(v "name" 845)]
def ey:Obj:=fr [(k (r 351)),(k (r 3)),(k (r 348)),none,(k (v "patchkin.desk" 605)),none,(k (r 0))]
def ez:Obj:=fv "back" "Desk.back" (y 39 7)
def eA:Obj:=co "keep" "Desk.keep" 838 329 3 3 491 181 [492,0,493,494,495] 846
def eB:Obj:=tp [(v "self" 814),(v "patch" 815)]
def eC:Obj:=fv "record" "Desk.record" (y 39 5)
def eD:Obj:=co "check_store" "Desk.check_store" 803 311 2 3 463 181 [464,0,465,466,467] 808
def eE:Obj:=fn "row" "Desk.row" (y 39 13) "patchkin.desk" 605 435
def eF:Obj:=ty (cl (S "Desk") [(w "object")] [(r 500),(w "object")] 499 (S "Desk") true [] [] false none false) [none,none,(k (v "Desk" 659)),(k (v "Desk" 667)),(k (b "object.__new__")),(k (vl true))]
def eG:Obj:=fv "begin" "Desk.begin" (y 39 1)
def eH:Obj:=fv "drop" "Desk.drop" (y 39 9)
def eI:Obj:=fn "check_made" "Desk.check_made" (y 39 19) "patchkin.desk" 605 475
def eJ:Obj:=fn "stay" "Desk.stay" (y 39 15) "patchkin.desk" 605 449
def eK:Obj:=co "check_held" "Desk.check_held" 819 319 3 3 477 181 [478,0,479,480,481] 825
def eL:Obj:=tp [(v "held" 849),(v "made" 850),(v "needs" 851)]
def eM:Obj:=tp [(v "self" 797),(v "store" 798),(v "file" 799)]
def eN:Obj:=fn "check_new" "Desk.check_new" (y 39 21) "patchkin.desk" 605 489
def eO:Obj:=co "quarrels" "Desk.quarrels" 770 299 3 3 437 181 [438,0,439,440,441] 776
def eP:Obj:=fv "patches" "Desk.patches" (y 39 3)
def eQ:Obj:=co "patches_of" "Desk.patches_of" 788 305 2 3 451 181 [452,0,0,0,453] 791
def eR:Obj:=fv "told" "Desk.told" (y 39 11)
def eS:Obj:=tp [(v "self" 831),(v "patch" 832),(v "files" 833),(v "name" 834)]
def eT:Obj:=of "getset_descriptor" [(v "__weakref__" 855),(r 500),(b "ExceptionGroup.__weakref__"),vn]
def eU:Obj:=fn "sight_of" "Desk.sight_of" (y 39 17) "patchkin.desk" 605 461
def eV:Obj:=co "files" "Desk.files" 756 293 2 3 425 181 [426,0,427,428,429] 761
def eW:Obj:=tp [(v "self" 782),(v "store" 783),(v "file" 784)]
def eX:Obj:=fn "_law_cell_at" "_law_cell_at" (x 41) "law_patchkin_k07_taken_and_dropped" 860 510
def eY:Obj:=fv "keep" "Desk.keep" (y 39 22)
def eZ:Obj:=of "super" [(r 500),(r 500),(r 500)]
def e0:Obj:=co "_law_dropped" "_law_dropped" 962 434 3 3 574 181 [575,0,576,577,578] 970
def e1:Obj:=fn "_law_desk" "_law_desk" (x 47) "law_patchkin_k07_taken_and_dropped" 860 546
def e2:Obj:=fv "check_store" "Desk.check_store" (y 39 18)
def e3:Obj:=tp [(v "script" 865),(v "k" 866)]
def e4:Obj:=fv "check_held" "Desk.check_held" (y 39 20)
def e5:Obj:=co "_law_text" "_law_text" 894 358 1 3 526 181 [527,0,0,0,528] 897
def e6:Obj:=fn "_law_which" "_law_which" (x 49) "law_patchkin_k07_taken_and_dropped" 860 560
def e7:Obj:=tp [(v "cell" 883),(v "k" 884),(v "signs" 885),(v "size" 886),(v "base" 887),(v "far" 888),(v "found" 889),(v "j" 890)]
def e8:Obj:=co "_law_names_are" "_law_names_are" 926 413 2 3 548 181 [549,0,550,551,552] 932
def e9:Obj:=fn "_law_edit" "_law_edit" (x 45) "law_patchkin_k07_taken_and_dropped" 860 536
def fa:Obj:=tp [(v "desk" 952),(v "store" 953),(v "source" 954),(v "name" 955),(v "came" 956),(v "which" 957),(v "e" 958)]
def fb:Obj:=fv "quarrels" "Desk.quarrels" (y 39 14)
def fc:Obj:=co "_law_draw" "_law_draw" 870 342 3 3 512 181 [513,0,514,515,516] 877
def fe:Obj:=fv "patches_of" "Desk.patches_of" (y 39 16)
def ff:Obj:=tp [(v "texts" 903),(v "cell" 904),(v "at" 905),(v "line" 906),(v "more" 907),(v "way" 908),(v "out" 909),(v "turned" 910)]
def fg:Obj:=co "_law_due" "_law_due" 943 424 1 3 562 181 [563,0,0,0,564] 946
def fh:Obj:=fn "_law_name" "_law_name" (x 43) "law_patchkin_k07_taken_and_dropped" 860 524
def fi:Obj:=tp [(v "e" 938),(v "some" 939)]
def fj:Obj:=fv "files" "Desk.files" (y 39 12)
def fk:Obj:=co "_law_deed" "_law_deed" 914 382 6 3 538 181 [539,0,0,0,540] 917
def fm:Obj:=fn "_law_taken" "_law_taken" (x 51) "law_patchkin_k07_taken_and_dropped" 860 572
def fo:Obj:=tp [(v "desk" 965),(v "store" 966),(v "name" 967),(v "which" 968),(v "e" 969)]
def fp:Obj:=fv "stay" "Desk.stay" (y 39 15)
def fq:Obj:=co "_law_which" "_law_which" 935 420 1 3 555 181 [556,0,557,558,559] 940
def fs:Obj:=fv "check_new" "Desk.check_new" (y 39 21)
def ft:Obj:=co "_law_edit" "_law_edit" 900 366 2 3 531 181 [532,0,533,534,535] 911
def fu:Obj:=of "builtin_function_or_method" [(b "object.__init_subclass__"),(r 500)]
def fw:Obj:=fn "_law_dropped" "_law_dropped" (x 52) "law_patchkin_k07_taken_and_dropped" 860 579
def fx:Obj:=co "_law_name" "_law_name" 880 346 2 3 519 181 [520,0,521,522,523] 891
def fy:Obj:=fv "sight_of" "Desk.sight_of" (y 39 17)
def fz(P:Params):Obj:=dt [(d P "__module__" 666 (v "patchkin.desk" 605)),(d P "__qualname__" 668 (v "Desk" 667)),(d P "__firstlineno__" 670 (vi 217 669)),(d P "__init__" 677 (r 359)),(d P "begin" 685 (r 366)),(d P "stores" 692 (r 373)),(d P "patches" 699 (r 380)),(d P "has" 705 (r 385)),(d P "record" 711 (r 390)),(d P "cut" 717 (r 395)),(d P "back" 727 (r 402)),(d P "take" 733 (r 407)),(d P "drop" 743 (r 414)),(d P "leans" 749 (r 419)),(d P "told" 755 (r 424)),(d P "files" 763 (r 431)),(d P "row" 769 (r 436)),(d P "quarrels" 778 (r 443)),(d P "stay" 787 (r 450)),(d P "patches_of" 793 (r 455)),(d P "sight_of" 802 (r 462)),(d P "check_store" 810 (r 469)),(d P "check_made" 818 (r 476)),(d P "check_held" 827 (r 483)),(d P "check_new" 837 (r 490)),(d P "keep" 848 (r 497)),(d P "__static_attributes__" 852 (r 498))] 27
def fA:Obj:=co "_law_taken" "_law_taken" 949 426 4 3 567 181 [568,0,569,570,571] 959
def fB:Obj:=tp [(v "cell" 873),(v "k" 874),(v "bound" 875),(v "stir" 876)]
def fC:Obj:=co "_law_desk" "_law_desk" 920 401 4 3 543 181 [544,0,0,0,545] 923
def fD:Obj:=fn "_law_text" "_law_text" (x 44) "law_patchkin_k07_taken_and_dropped" 860 529
def fE:Obj:=fv "row" "Desk.row" (y 39 13)
def fF:Obj:=fn "_law_names_are" "_law_names_are" (x 48) "law_patchkin_k07_taken_and_dropped" 860 553
def fG:Obj:=fv "check_made" "Desk.check_made" (y 39 19)
def fH:Obj:=fn "_law_draw" "_law_draw" (x 42) "law_patchkin_k07_taken_and_dropped" 860 517
def fI:Obj:=tp [(v "found" 929),(v "due" 930),(v "name" 931)]
def fJ:Obj:=fn "_law_due" "_law_due" (x 50) "law_patchkin_k07_taken_and_dropped" 860 565
def fK:Obj:=fn "_law_deed" "_law_deed" (x 46) "law_patchkin_k07_taken_and_dropped" 860 541
def fL:Obj:=l3 [(219,4,358),(224,4,365),(230,4,372),(233,4,379),(236,4,384),(240,4,389),(250,4,394),(259,4,401),(265,4,406),(275,4,413),(283,4,418),(287,4,423),(293,4,430),(296,4,435),(299,4,442),(302,4,449),(305,4,454),(308,4,461),(311,4,468),(315,4,475),(319,4,482),(323,4,489),(329,4,496)]
def fM:Obj:=co "_law_cell_at" "_law_cell_at" 862 338 2 3 505 181 [506,0,507,508,509] 867
def fN(P:Params):Obj:=dt ((d P "__name__" 165 (v "law_patchkin_k07_taken_and_dropped" 860))::h5 P) 61
def fO:Obj:=fv "_law_which" "_law_which" (x 49)
def fP:Obj:=fv "_law_edit" "_law_edit" (x 45)
def fQ:Obj:=fv "_law_name" "_law_name" (x 43)
def fR:Obj:=fv "_law_taken" "_law_taken" (x 51)
def fS:Obj:=fv "_law_desk" "_law_desk" (x 47)
def fT:Obj:=tp [(v "desk" 988),(v "store" 989),(v "name" 990),(v "which" 991),(v "e" 992)]
def fU:Obj:=fn "_law_take_right" "_law_take_right" (x 53) "law_patchkin_k07_taken_and_dropped" 860 584
def fV:Obj:=co "law" "law" 996 472 1 3 598 181 [599,0,0,0,600] 999
def fW:Obj:=fn "_law_named" "_law_named" (x 55) "law_patchkin_k07_taken_and_dropped" 860 596
def fX:Obj:=co "_law_drop_right" "_law_drop_right" 979 455 4 3 586 181 [587,0,0,0,588] 982
def fY:Obj:=fv "_law_cell_at" "_law_cell_at" (x 41)
def fZ:Obj:=fv "_law_text" "_law_text" (x 44)
def f0:Obj:=co "_law_take_right" "_law_take_right" 973 442 5 3 581 181 [582,0,0,0,583] 976
def f1:Obj:=fv "_law_names_are" "_law_names_are" (x 48)
def f2:Obj:=fv "_law_draw" "_law_draw" (x 42)
def f3:Obj:=co "_law_named" "_law_named" 985 465 3 3 591 181 [592,0,593,594,595] 993
def f4:Obj:=fv "_law_due" "_law_due" (x 50)
def f5:Obj:=fv "_law_deed" "_law_deed" (x 46)
def f6:Obj:=fv "_law_dropped" "_law_dropped" (x 52)
def f7:Obj:=fn "law" "law" (x 56) "law_patchkin_k07_taken_and_dropped" 860 601
def f8:Obj:=fn "_law_drop_right" "_law_drop_right" (x 54) "law_patchkin_k07_taken_and_dropped" 860 589
def f9(P:Params):Obj:=dt ((d P "__name__" 165 (v "patchkin.desk" 605))::h2 P) 44
def ga:Obj:=fv "_law_take_right" "_law_take_right" (x 53)
def gb:Obj:=fv "_law_named" "_law_named" (x 55)
def gd:Obj:=l3 [(1,0,20),(5,0,27),(13,0,32),(18,0,39),(23,0,46),(34,0,53),(36,0,66),(38,0,78),(40,0,90),(42,0,102),(44,0,114),(46,0,126),(48,0,138),(50,0,150),(53,0,162),(60,0,183),(68,0,202),(74,0,207),(79,0,214),(88,0,221),(94,0,226),(101,0,231),(104,0,238),(114,0,245),(120,0,250),(136,0,257),(141,0,262),(156,0,269),(181,0,318),(187,0,325),(193,0,332),(198,0,339),(209,0,344),(217,0,351),(338,0,510),(342,0,517),(346,0,524),(358,0,529),(366,0,536),(382,0,541),(401,0,546),(413,0,553),(420,0,560),(424,0,565),(426,0,572),(434,0,579),(442,0,584),(455,0,589),(465,0,596),(472,0,601)]
def ge:Obj:=fv "_law_drop_right" "_law_drop_right" (x 54)
def gf:Obj:=l3 [(1,0,20),(5,0,27),(13,0,32),(18,0,39),(23,0,46),(34,0,53),(36,0,66),(38,0,78),(40,0,90),(42,0,102),(44,0,114),(46,0,126),(48,0,138),(50,0,150),(53,0,162),(60,0,183),(68,0,202),(74,0,207),(79,0,214),(88,0,221),(94,0,226),(101,0,231),(104,0,238),(114,0,245),(120,0,250),(136,0,257),(141,0,262),(156,0,269),(181,0,318),(187,0,325),(193,0,332),(198,0,339),(209,0,344),(217,0,351)]
def gg(P:Params):Obj:=dt ((d P "__name__" 165 (v "patchkin.errors" 236))::hW P) 22
def gj(P:Params):Obj:=dt ((d P "__name__" 165 (v "patchkin.errors" 236))::hR P) 17
def gm(P:Params):Obj:=dt ((d P "__name__" 165 (v "patchkin.order" 384))::hX P) 23
def go(P:Params):Obj:=dt ((d P "__name__" 165 (v "patchkin.errors" 236))::hQ P) 16
def gs(P:Params):Obj:=dt ((d P "__name__" 165 (v "patchkin.errors" 236))::hV P) 21
def gv(P:Params):Obj:=dt ((d P "__name__" 165 (v "patchkin.errors" 236))::hP P) 15
def gy(P:Params):Obj:=dt ((d P "__name__" 165 (v "patchkin.errors" 236))::hS P) 18
def gB(P:Params):Obj:=dt ((d P "__name__" 165 (v "patchkin.desk" 605))::h3 P) 45
def gC(P:Params):Obj:=dt ((d P "__name__" 165 (v "patchkin.order" 384))::hZ P) 31
def gE(P:Params):Obj:=dt ((d P "__name__" 165 (v "patchkin.order" 384))::h0 P) 36
def gG(P:Params):Obj:=dt ((d P "__name__" 165 (v "patchkin.desk" 605))::h1 P) 39
def gI(P:Params):Obj:=dt ((d P "__name__" 165 (v "law_patchkin_k07_taken_and_dropped" 860))::h4 P) 57
def gM(P:Params):Obj:=dt ((d P "__name__" 165 (v "patchkin.order" 384))::hY P) 24
def gO(P:Params):Obj:=dt ((d P "__name__" 165 (v "patchkin.errors" 236))::hT P) 19
def gR(P:Params):Obj:=dt ((d P "__name__" 165 (v "patchkin.errors" 236))::hU P) 20
def gU(P:Params):BT:=n aa (n az (n (aL P) (f bk) z) (f aZ)) (n ag (n aS (f br) z) (f (bd P)))
def gV(P:Params):BT:=n aA (n ab (n aN (f bl) z) (f (a7 P))) (n aa (f aT) (f bf))
def gW(P:Params):BT:=n ak (n al (n ab (f (bg P)) z) (f ad)) (n ac (f (aO P)) (f ab))
def gX(P:Params):BT:=n aa (n aE (n ab (f (bn P)) z) (f ad)) (n ad (f (aV P)) (f ab))
def gY:BT:=n aa (f aa) z
def gZ:BT:=n ab (n an gY (f a3)) (n ao (n aa (f bu) z) (f aa))
def g0:BT:=n au (n av (n aa (f bo) z) (f aa)) (n ab (f aW) (f aa))
def g1(P:Params):BT:=n aa (n aa (n aQ (f bi) z) (f ac)) (n (aG P) (f aR) (f bj))
def g2:BT:=n ab (n ay (n aX (f bp) z) (f ac)) (n ac (f aY) (f bq))
def g3:BT:=n aA (n ab (f aN) z) (n aa (f aT) z)
def g4:BT:=n au (n av (f aa) z) (n ab (f aW) z)
def g5:BT:=n ab (f ac) z
def g6:BT:=n ab (f ab) z
def g7:BT:=n aa gY (f aa)
def g8(P:Params):BT:=n am (n aa (f (aC P)) (f ab)) (n aD (f ad) (f (a9 P)))
def g9:BT:=n aa (n aI (f aJ) (f bb)) (n aK (f ac) (f bc))
def ha(P:Params):BT:=n az (n (aL P) (n bk (n aa (f eX) z) (f d9)) (n bN (n c7 (f ab) z) (f aa))) (n aZ (n (bO P) (n cI (f aa) z) (f aa)) (n aa (f ea) (f eb)))
def hb:BT:=n aa (f ab) z
def hc:BT:=n ab (f aa) z
def hd(P:Params):BT:=n (bd P) (n bF (n c8 (f fO) z) (f ec)) (n cg (f aa) (f eY))
def he:BT:=n a6 (n aa gY (f dF)) (n bQ (f dG) (f aa))
def hf:BT:=n be (n ci (n c9 (f aa) z) (f ee)) (n aa (f ab) (f eZ))
def hg(P:Params):BT:=n ab (n aN (n bl gY (f ab)) (n bS (n aa (f e0) z) (f aa))) (n (a7 P) (n bT (n cJ (f e1) z) (f dI)) (n bU (f dJ) (f ef)))
def hh(P:Params):BT:=n bf (n ac (n (cK P) (f ab) z) (f eg)) (n aa (f eh) (f (ei P)))
def hi:BT:=n a8 (n bG gY (f ej)) (n cj (f aa) (f aa))
def hj(P:Params):BT:=n aB (n a1 (n bC (n cL (f ab) z) (f aa)) (n aa (f ac) (f ek))) (n (bm P) (n bX (n dc (f fR) z) (f el)) (n ck (f dL) (f e3)))
def hk(P:Params):BT:=n al (n ab (n (bg P) (n cm (f ab) z) (f dM)) (n (bY P) hc (f em))) (n ad (n bZ (n df (f fS) z) (f en)) (n cn (f aa) (f e4)))
def hl:BT:=n ab (n b0 (n cN (f e6) z) (f ab)) (n ab (f dO) (f ep))
def hm(P:Params):BT:=n (a2 P) (n bH (n cO (f e8) z) (f aa)) (n aa (f ab) (f er))
def hn:BT:=n ad (n aa (n aa (f fa) z) (f fb)) (n cP (f aa) (f aa))
def ho:BT:=n ab (n ab g6 (f ab)) (n ab (f es) (f ab))
def hp(P:Params):BT:=n (a9 P) (n aa (n cS (f fg) z) (f aa)) (n cs (f dQ) (f ev))
def hq:BT:=n ad (n bI (n cT (f fi) z) (f fj)) (n cU (f dR) (f ex))
def hr(P:Params):BT:=n ad (n (aV P) (n aa (n aa (f fk) z) (f dS)) (n b1 (f aa) (f aa))) (n ab (n ct (n dC (f fm) z) (f ab)) (n ab (f aa) (f fY)))
def hs:BT:=n an (n aa (n aa (n cV (f aa) z) (f dT)) (n b2 (n aa (f fo) z) (f fp))) (n a3 (n aa hb (f ab)) (n ab (f ey) (f aa)))
def ht:BT:=n aa (n b4 (n cW (f fq) z) (f aa)) (n aa (f ab) (f eA))
def hu:BT:=n aa (n b5 (n dm (f f1) z) (f dU)) (n b6 (f aa) (f fs))
def hv:BT:=n bh (n cu (n dp (f ab) z) (f aa)) (n ab (f dV) (f fu))
def hw:BT:=n aa (f aa) (f aa)
def hx:BT:=n av (n aa (n bo (n ab (f f2) z) (f eC)) (n b7 (n dD (f fw) z) (f ab))) (n aa g7 hw)
def hy(P:Params):BT:=n aa (n (cv P) (n cZ (f f4) z) (f eE)) (n c0 (f dW) (f eF))
def hz(P:Params):BT:=n aF (n aa (n bD (n c1 (f f5) z) (f eH)) (n cw (f (fz P)) (f eI))) (n aa (n aa (n aa (f fA) z) (f aa)) (n aa (f dX) (f aa)))
def hA:BT:=n aa (n aQ (n bi (n cx (f fB) z) (f aa)) (n b8 (n du (f f6) z) (f eJ))) (n ac (n b9 (n c2 (f fC) z) (f dY)) (n ca (f ab) (f eK)))
def hB:BT:=n bj (n aa (n c3 (f aa) z) (f fE)) (n cy (f aa) (f eL))
def hC:BT:=n a4 (n bK (n c4 (f fF) z) (f ab)) (n ab (f d1) (f eN))
def hD:BT:=n ac (n ab hc (f eO)) (n cz (f eP) (f ab))
def hE:BT:=n bb (n bL (n c5 (f fI) z) (f eR)) (n cC (f d4) (f eS))
def hF:BT:=n bc (n cD (n c6 (f fJ) z) (f ab)) (n cE (f aa) (f eT))
def hG:BT:=n ac (n bM gY (f eV)) (n cG (f d7) (f aa))
def hH:BT:=n ac (n aY (n ac (n ab (f fK) z) (f d8)) (n ce (f fL) (f ab))) (n bq (n cf (n dz (f aa) z) (f eW)) (n cH (f ab) (f fM)))
def hI:BT:=n ab (n an (f aa) (f a3)) (n ao (f aa) z)
def hJ:BT:=n ab (n ay (f aX) z) (n ac (f aY) z)
def hK:BT:=n ab (f ab) (f ab)
def hL:BT:=n aa (f aa) (f ab)
def hM:BT:=n aq (n aP (f aa) (f ab)) (n aa (f b5) (f b6))
def hN:BT:=n aw (n aa (f aa) (f ba)) (n aF (f aa) z)
def hO:BT:=n aH (n ab (f ac) (f a4)) (n ax (f a5) z)
end
end TW
namespace PySem.W.Fast
open PySem PySem.W L2 PK TW
noncomputable section
def tw16283723107527954514:Program:=PySem.Challenge.pw_patchkin_k07_taken_and_dropped
theorem te16283723107527954514:tw16283723107527954514=tw16283723107527954514:=rfl
def tw12599347937780409634:Params→BT:=fun P=>n (boot_o_0 P) (n (boot_o_1 P) (n (gg P) (n (boot_o_7 P) (gU P) (n ab (n ah (n aM (f (bs P)) z) (f a6)) (n aa (f (a0 P)) (f be)))) (n aa (gV P) (n ai (n aj (n (aU P) (f bt) z) (f a8)) (n aB (f a1) (f (bm P)))))) (n (boot_o_5 P) (n (boot_o_9 P) (gW P) (n aa (n aa (n ad (f ab) z) (f (a2 P))) (n (ty (cl (S "PatchError") [(w "ValueError")] [(r 57),(w "ValueError"),(w "Exception"),(w "BaseException"),(w "object")] 56 (S "PatchError") true [] [(r 70),(r 82),(r 94),(r 106),(r 118),(r 130),(r 142)] false none false) [(k (r 48)),none,(k (v "PatchError" 238)),(k (v "PatchError" 246)),(k (b "ValueError.__new__")),(k (vl true))]) (f ab) (f ad)))) (n ae (n am (n aa (n (aC P) (f ad) z) (f ab)) (n aD (f ad) (f (a9 P)))) (gX P)))) (n (boot_o_2 P) (n (boot_o_4 P) (n (boot_o_8 P) gZ (n ap (n aq (n aP (f aa) z) (f aa)) (n (ar P) (f aa) (f bh)))) (n (l3 [(1,0,20),(5,0,27),(13,0,32),(18,0,39),(23,0,46),(34,0,53),(36,0,66),(38,0,78),(40,0,90),(42,0,102),(44,0,114),(46,0,126),(48,0,138)]) g0 (n aw (n aa gY (f ba)) (n aF (f aa) (f aa))))) (n (boot_o_6 P) (n (boot_o_10 P) (g1 P) (n aH (n ab (n ac (f bv) z) (f a4)) (n ax (f a5) (f ac)))) (n af (n aa (n aI (n aJ (f ac) z) (f bb)) (n aK (f ac) (f bc))) g2)))
theorem te12599347937780409634:tw12599347937780409634=tw12599347937780409634:=rfl
def tw12446829943069432674:Params→BT:=fun P=>n (boot_o_0 P) (n (boot_o_1 P) (n (gj P) (n (boot_o_7 P) (n aa (n az (f (aL P)) z) (n ag (f aS) z)) (n ab (n ah (f aM) z) (f aa))) (n aa g3 (n ai (n aj (f (aU P)) z) (f aB)))) (n (boot_o_5 P) (n (boot_o_9 P) (n ak (n al (f ab) z) (n ac (f (aO P)) z)) (n aa (n aa (f ad) z) (f (ty (cl (S "PatchError") [(w "ValueError")] [(r 57),(w "ValueError"),(w "Exception"),(w "BaseException"),(w "object")] 56 (S "PatchError") true [] [(r 70),(r 82)] false none false) [(k (r 48)),none,(k (v "PatchError" 238)),(k (v "PatchError" 246)),(k (b "ValueError.__new__")),(k (vl true))])))) (n ae (n am (n aa (f (aC P)) z) (f aD)) (n aa (n aE (f ab) z) (f ad))))) (n (boot_o_2 P) (n (boot_o_4 P) (n (boot_o_8 P) (n ab (n an (f aa) z) (n ao (f aa) z)) (n ap (n aq (f aP) z) (f (ar P)))) (n (l3 [(1,0,20),(5,0,27),(13,0,32),(18,0,39),(23,0,46),(34,0,53),(36,0,66),(38,0,78)]) g4 (n aw gY (f aF)))) (n (boot_o_6 P) (n (boot_o_10 P) (n aa (n aa (f aQ) z) (n (aG P) (f aR) z)) (n aH g5 (f ax))) (n af (n aa (n aI (f aJ) z) (f aK)) (n ab (n ay (f aX) z) (f ac)))))
theorem te12446829943069432674:tw12446829943069432674=tw12446829943069432674:=rfl
def tw11320396913902884070:Params→BT:=fun P=>n (boot_o_0 P) (n (boot_o_1 P) (n (gm P) (n (boot_o_7 P) (gU P) (n ab (n ah (n aM (f (bs P)) z) (f a6)) (n aa (n (a0 P) (f bA) z) (f be)))) (n aa (n aA (n ab (n aN (f bl) z) (f (a7 P))) (n aa (n aT (f (bB P)) z) (f bf))) (n ai (n aj (n (aU P) (f bt) z) (f a8)) (n aB (n a1 (f bC) z) (f (bm P)))))) (n (boot_o_5 P) (n (boot_o_9 P) (n ak (n al (n ab (f (bg P)) z) (f ad)) (n ac (n (aO P) (f ad) z) (f ab))) (n aa (n aa (n ad (f ab) z) (f (a2 P))) (n bw (n ab (f (bx P)) z) (f ad)))) (n ae (n am (n aa (n (aC P) (f ad) z) (f ab)) (n aD (n ad (f ab) z) (f (a9 P)))) (gX P)))) (n (boot_o_2 P) (n (boot_o_4 P) (n (boot_o_8 P) gZ (n ap (n aq (n aP (f aa) z) (f aa)) (n (ar P) gY (f bh)))) (n (l3 [(1,0,20),(5,0,27),(13,0,32),(18,0,39),(23,0,46),(34,0,53),(36,0,66),(38,0,78),(40,0,90),(42,0,102),(44,0,114),(46,0,126),(48,0,138),(50,0,150)]) (n au (n av (n aa (f bo) z) (f aa)) (n ab (n aW (f aa) z) (f aa))) (n aw (n aa gY (f ba)) (n aF (n aa (f bD) z) (f aa))))) (n (boot_o_6 P) (n (boot_o_10 P) (n aa (n aa (n aQ (f bi) z) (f ac)) (n (aG P) (n aR (f ac) z) (f bj))) (n aH (n ab (n ac (f bv) z) (f a4)) (n ax (n a5 (f bz) z) (f ac)))) (n af (n aa (n aI (n aJ (f ac) z) (f bb)) (n aK (n ac (f bE) z) (f bc))) g2)))
theorem te11320396913902884070:tw11320396913902884070=tw11320396913902884070:=rfl
def tw2722413882756343558:Params→BT:=fun P=>n (boot_o_0 P) (n (boot_o_1 P) (n (go P) (n (boot_o_7 P) (n aa (n az (f (aL P)) z) (f ag)) (n ab (n ah (f aM) z) (f aa))) (n aa (n aA (n ab (f aN) z) (f aa)) (n ai (f aj) (f aB)))) (n (boot_o_5 P) (n (boot_o_9 P) (n ak (n al (f ab) z) (f ac)) (n aa (f aa) (f (ty (cl (S "PatchError") [(w "ValueError")] [(r 57),(w "ValueError"),(w "Exception"),(w "BaseException"),(w "object")] 56 (S "PatchError") true [] [(r 70)] false none false) [(k (r 48)),none,(k (v "PatchError" 238)),(k (v "PatchError" 246)),(k (b "ValueError.__new__")),(k (vl true))])))) (n ae (n am (n aa (f (aC P)) z) (f aD)) (n aa (f aE) (f ad))))) (n (boot_o_2 P) (n (boot_o_4 P) (n (boot_o_8 P) (n ab (n an (f aa) z) (f ao)) (n ap (n aq (f aP) z) (f (ar P)))) (n (l3 [(1,0,20),(5,0,27),(13,0,32),(18,0,39),(23,0,46),(34,0,53),(36,0,66)]) (n au (n av (f aa) z) (f ab)) (n aw (f aa) (f aF)))) (n (boot_o_6 P) (n (boot_o_10 P) (n aa (n aa (f aQ) z) (f (aG P))) (n aH (f ab) (f ax))) (n af (n aa (n aI (f aJ) z) (f aK)) (n ab (f ay) (f ac)))))
theorem te2722413882756343558:tw2722413882756343558=tw2722413882756343558:=rfl
def tw4248089454991538599:Params→BT:=fun P=>n (boot_o_0 P) (n (boot_o_1 P) (n (f9 P) (n (boot_o_7 P) (n aa (n az (n (aL P) (n bk (f aa) z) (n bN (f c7) z)) (n aZ (n (bO P) (f cI) z) (f aa))) (n ag (n aS (n br (f aa) z) (n bP (f ab) z)) (n (bd P) (n bF (f c8) z) (f cg)))) (n ab (n ah (n aM (n (bs P) (f ch) z) gY) (n a6 gY (f bQ))) (n aa (n (a0 P) (n bA (f ab) z) (n bR (f dA) z)) (n be (n ci (f c9) z) (f aa))))) (n aa (n aA (n ab (n aN (n bl (f aa) z) (n bS (f aa) z)) (n (a7 P) (n bT (f cJ) z) (f bU))) (n aa (n aT (n (bB P) (f da) z) (n bV (f db) z)) (n bf (n ac (f (cK P)) z) (f aa)))) (n ai (n aj (n (aU P) (n bt (f aa) z) (n bW (f dB) z)) (n a8 (n bG (f aa) z) (f cj))) (n aB (n a1 (n bC (f cL) z) (f aa)) (n (bm P) (n bX (f dc) z) (f ck)))))) (n (boot_o_5 P) (n (boot_o_9 P) (n ak (n al (n ab (n (bg P) (f cm) z) (n (bY P) (f ab) z)) (n ad (n bZ (f df) z) (f cn))) (n ac (n (aO P) (n ad (f cM) z) gY) (n ab (n b0 (f cN) z) (f ab)))) (n aa (n aa (n ad g5 (n cp (f dg) z)) (n (a2 P) (n bH (f cO) z) (f aa))) (n bw (n ab (n (bx P) (f aa) z) (n ab (f dh) z)) (n ad gY (f cP))))) (n ae (n am (n aa (n (aC P) (n ad (f cQ) z) (n cq (f di) z)) (n ab g6 (f ab))) (n aD (n ad (n ab (f cR) z) (n cr (f aa) z)) (n (a9 P) (n aa (f cS) z) (f cs)))) (n aa (n aE (n ab (n (bn P) (f dj) z) (n ab (f dk) z)) (n ad (n bI (f cT) z) (f cU))) (n ad (n (aV P) gY (f b1)) (n ab (n ct (f dC) z) (f ab))))))) (n (boot_o_2 P) (n (boot_o_4 P) (n (boot_o_8 P) (n ab (n an (n aa (n aa (f cV) z) (n b2 (f aa) z)) (n a3 gY (f ab))) (n ao (n aa (n bu (f ab) z) (n b3 (f dl) z)) (n aa (n b4 (f cW) z) (f aa)))) (n ap (n aq (n aP gY g6) (n aa (n b5 (f dm) z) (f b6))) (n (ar P) (n aa (n aa (f cX) z) (n aa (f dn) z)) (n bh (n cu (f dp) z) (f ab))))) (n (l3 [(1,0,20),(5,0,27),(13,0,32),(18,0,39),(23,0,46),(34,0,53),(36,0,66),(38,0,78),(40,0,90),(42,0,102),(44,0,114),(46,0,126),(48,0,138),(50,0,150),(53,0,162),(60,0,183),(68,0,202),(74,0,207),(79,0,214),(88,0,221),(94,0,226),(101,0,231),(104,0,238),(114,0,245),(120,0,250),(136,0,257),(141,0,262),(156,0,269),(181,0,318),(187,0,325),(193,0,332),(198,0,339),(209,0,344)]) (n au (n av (n aa (n bo (f ab) z) (n b7 (f dD) z)) g7) (n ab (n aW (n aa (f cY) z) (n aa (f dq) z)) (n aa (n (cv P) (f cZ) z) (f c0)))) (n aw (n aa (n aa (n aa (f dr) z) (n aa (f ds) z)) (n ba (n (bJ P) (f ab) z) (f aa))) (n aF (n aa (n bD (f c1) z) (f cw)) g7)))) (n (boot_o_6 P) (n (boot_o_10 P) (n aa (n aa (n aQ (n bi (f cx) z) (n b8 (f du) z)) (n ac (n b9 (f c2) z) (f ca))) (n (aG P) (n aR (n ac (f aa) z) (n ab (f dE) z)) (n bj (n aa (f c3) z) (f cy)))) (n aH (n ab (n ac (n bv (f (dv P)) z) (n cb (f aa) z)) (n a4 (n bK (f c4) z) (f ab))) (n ax (n a5 (n bz (f dw) z) (f cc)) (n ac g6 (f cz))))) (n af (n aa (n aI (n aJ (n ac (f cA) z) (n cB (f dx) z)) (n bb (n bL (f c5) z) (f cC))) (n aK (n ac (n bE (f aa) z) (n cd (f ab) z)) (n bc (n cD (f c6) z) (f cE)))) (n ab (n ay (n aX (n bp (f dy) z) (n cF (f aa) z)) (n ac (n bM (f aa) z) (f cG))) (n ac (n aY (n ac (f ab) z) (f ce)) (n bq (n cf (f dz) z) (f cH)))))))
theorem te4248089454991538599:tw4248089454991538599=tw4248089454991538599:=rfl
def tw3835847417770394183:Params→BT:=fun P=>n (boot_o_0 P) (n (boot_o_1 P) (n (gs P) (n (boot_o_7 P) (n aa (n az (n (aL P) (f bk) z) (f aZ)) (n ag (f aS) (f (bd P)))) (n ab (n ah (f aM) (f a6)) (n aa (f (a0 P)) (f be)))) (n aa (gV P) (n ai (n aj (f (aU P)) (f a8)) (n aB (f a1) (f (bm P)))))) (n (boot_o_5 P) (n (boot_o_9 P) (gW P) (n aa (n aa (f ad) (f (a2 P))) (n (ty (cl (S "PatchError") [(w "ValueError")] [(r 57),(w "ValueError"),(w "Exception"),(w "BaseException"),(w "object")] 56 (S "PatchError") true [] [(r 70),(r 82),(r 94),(r 106),(r 118),(r 130)] false none false) [(k (r 48)),none,(k (v "PatchError" 238)),(k (v "PatchError" 246)),(k (b "ValueError.__new__")),(k (vl true))]) (f ab) (f ad)))) (n ae (g8 P) (n aa (n aE (f ab) (f ad)) (n ad (f (aV P)) (f ab)))))) (n (boot_o_2 P) (n (boot_o_4 P) (n (boot_o_8 P) (n ab (n an gY (f a3)) (n ao (f aa) (f aa))) (n ap (n aq (f aP) (f aa)) (n (ar P) (f aa) (f bh)))) (n (l3 [(1,0,20),(5,0,27),(13,0,32),(18,0,39),(23,0,46),(34,0,53),(36,0,66),(38,0,78),(40,0,90),(42,0,102),(44,0,114),(46,0,126)]) g0 (n aw (n aa (f aa) (f ba)) (n aF (f aa) (f aa))))) (n (boot_o_6 P) (n (boot_o_10 P) (g1 P) (n aH (n ab (f ac) (f a4)) (n ax (f a5) (f ac)))) (n af g9 (n ab (n ay (f aX) (f ac)) (n ac (f aY) (f bq))))))
theorem te3835847417770394183:tw3835847417770394183=tw3835847417770394183:=rfl
def tw14333915519743936423:Params→BT:=fun P=>n (boot_o_0 P) (n (boot_o_1 P) (n (fN P) (n (boot_o_7 P) (n aa (ha P) (n ag (n aS (n br hb (f aa)) (n bP hc (f aa))) (hd P))) (n ab (n ah (n aM (n (bs P) (n ch (f aa) z) (f aa)) (n aa (n aa (f ga) z) (f ed))) he) (n aa (n (a0 P) (n bA (n ab (f fP) z) (f dH)) (n bR (n dA (f ab) z) (f ab))) hf))) (n aa (n aA (hg P) (n aa (n aT (n (bB P) (n da (f aa) z) (f aa)) (n bV (n db (f gb) z) (f e2))) (hh P))) (n ai (n aj (n (aU P) (n bt (n aa (f fQ) z) (f dK)) (n bW (n dB (f ab) z) (f aa))) hi) (hj P)))) (n (boot_o_5 P) (n (boot_o_9 P) (n ak (hk P) (n ac (n (aO P) (n ad (n cM (f e5) z) (f dN)) (n aa (n aa (f fT) z) (f eo))) hl)) (n aa (n aa (n ad (n ab (n ac (f e7) z) (f eq)) (n cp (n dg (f fU) z) (f ab))) (hm P)) (n bw (n ab (n (bx P) (n aa (f e9) z) (f ab)) (n ab (n dh (f fV) z) (f aa))) hn))) (n ae (n am (n aa (n (aC P) (n ad (n cQ (f fc) z) (f dP)) (n cq (n di (f aa) z) (f fe))) ho) (n aD (n ad (n ab (n cR (f ff) z) (f et)) (n cr (n aa (f fW) z) (f eu))) (hp P))) (n aa (n aE (n ab (n (bn P) (n dj (f fh) z) (f ab)) (n ab (n dk (f fX) z) (f ew))) hq) (hr P))))) (n (boot_o_2 P) (n (boot_o_4 P) (n (boot_o_8 P) (n ab hs (n ao (n aa (n bu (n ab (f fZ) z) (f ez)) (n b3 (n dl (f ab) z) (f ab))) ht)) (n ap (n aq (n aP (n aa hb (f ab)) (n ab (n ab (f f0) z) (f aa))) hu) (n (ar P) (n aa (n aa (n cX (f ft) z) (f aa)) (n aa (n dn (f (fv "law" "law" (x 56))) z) (f eB))) hv))) (n gd (n au hx (n ab (n aW (n aa (n cY (f ab) z) (f ab)) (n aa (n dq (f f3) z) (f eD))) (hy P))) (n aw (n aa (n aa (n aa (n dr (f fx) z) (f aa)) (n aa (n ds (f ge) z) (f fy))) (n ba (n (bJ P) g6 (f aa)) (n aa (f eG) (f ab)))) (hz P)))) (n (boot_o_6 P) (n (boot_o_10 P) (n aa hA (n (aG P) (n aR (n ac (n aa (f fD) z) (f dZ)) (n ab (n dE (f aa) z) (f aa))) hB)) (n aH (n ab (n ac (n bv (n (dv P) (f aa) z) (f d0)) (n cb gY (f eM))) hC) (n ax (n a5 (n bz (n dw (f aa) z) (f d2)) (n cc (n aa (f f7) z) (f fG))) hD))) (n af (n aa (n aI (n aJ (n ac (n cA (f fH) z) (f d3)) (n cB (n dx (f ab) z) (f eQ))) hE) (n aK (n ac (n bE gY (f d5)) (n cd hc (f aa))) hF)) (n ab (n ay (n aX (n bp (n dy (f aa) z) (f d6)) (n cF (n aa (f f8) z) (f eU))) hG) hH))))
theorem te14333915519743936423:tw14333915519743936423=tw14333915519743936423:=rfl
def tw11671510647207279884:Params→BT:=fun P=>n (boot_o_0 P) (n (boot_o_1 P) (n (gv P) (n (boot_o_7 P) (n aa (f az) (f ag)) (n ab (f ah) (f aa))) (n aa (n aA (f ab) (f aa)) (n ai (f aj) (f aB)))) (n (boot_o_5 P) (n (boot_o_9 P) (n ak (f al) (f ac)) (n aa (f aa) (f (ty (cl (S "PatchError") [(w "ValueError")] [(r 57),(w "ValueError"),(w "Exception"),(w "BaseException"),(w "object")] 56 (S "PatchError") true [] [] false none false) [(k (r 48)),none,(k (v "PatchError" 238)),(k (v "PatchError" 246)),(k (b "ValueError.__new__")),(k (vl true))])))) (n ae (n am (f aa) (f aD)) (n aa (f aE) z)))) (n (boot_o_2 P) (n (boot_o_4 P) (n (boot_o_8 P) (n ab (f an) (f ao)) (n ap (f aq) (f (ar P)))) (n (l3 [(1,0,20),(5,0,27),(13,0,32),(18,0,39),(23,0,46),(34,0,53)]) (n au (f av) (f ab)) (n aw (f aa) (f aF)))) (n (boot_o_6 P) (n (boot_o_10 P) (n aa (f aa) (f (aG P))) (n aH (f ab) (f ax))) (n af (n aa (f aI) (f aK)) (n ab (f ay) z))))
theorem te11671510647207279884:tw11671510647207279884=tw11671510647207279884:=rfl
def tw2472932114265896268:Params→BT:=fun P=>n (boot_o_0 P) (n (boot_o_1 P) (n (gy P) (n (boot_o_7 P) (n aa (n az (f (aL P)) (f aZ)) (n ag (f aS) z)) (n ab (n ah (f aM) z) (n aa (f (a0 P)) z))) (n aa g3 (n ai (n aj (f (aU P)) z) (n aB (f a1) z)))) (n (boot_o_5 P) (n (boot_o_9 P) (n ak (n al (f ab) z) (n ac (f (aO P)) z)) (n aa (n aa (f ad) z) (n (ty (cl (S "PatchError") [(w "ValueError")] [(r 57),(w "ValueError"),(w "Exception"),(w "BaseException"),(w "object")] 56 (S "PatchError") true [] [(r 70),(r 82),(r 94)] false none false) [(k (r 48)),none,(k (v "PatchError" 238)),(k (v "PatchError" 246)),(k (b "ValueError.__new__")),(k (vl true))]) (f ab) z))) (n ae (n am (n aa (f (aC P)) z) (n aD (f ad) z)) (n aa (n aE (f ab) z) (n ad (f (aV P)) z))))) (n (boot_o_2 P) (n (boot_o_4 P) (n (boot_o_8 P) hI (n ap (n aq (f aP) z) (n (ar P) (f aa) z))) (n (l3 [(1,0,20),(5,0,27),(13,0,32),(18,0,39),(23,0,46),(34,0,53),(36,0,66),(38,0,78),(40,0,90)]) g4 (n aw gY (n aF (f aa) z)))) (n (boot_o_6 P) (n (boot_o_10 P) (n aa (n aa (f aQ) z) (n (aG P) (f aR) z)) (n aH g5 (n ax (f a5) z))) (n af (n aa (n aI (f aJ) z) (n aK (f ac) z)) hJ)))
theorem te2472932114265896268:tw2472932114265896268=tw2472932114265896268:=rfl
def tw8776417935488366767:Params→BT:=fun P=>n (boot_o_0 P) (n (boot_o_1 P) (n (gB P) (n (boot_o_7 P) (n aa (n az (n (aL P) (n bk (f aa) (f d9)) (n bN (f c7) (f aa))) (n aZ (n (bO P) (f cI) (f aa)) (n aa (f ea) (f eb)))) (n ag (n aS (n br (f aa) (f aa)) (n bP (f ab) (f aa))) (n (bd P) (n bF (f c8) (f ec)) (n cg (f aa) (f eY))))) (n ab (n ah (n aM (n (bs P) (f ch) (f aa)) (n aa (f aa) (f ed))) (n a6 (n aa (f aa) (f dF)) (n bQ (f dG) (f aa)))) (n aa (n (a0 P) (n bA (f ab) (f dH)) (n bR (f dA) (f ab))) (n be (n ci (f c9) (f ee)) (n aa (f ab) (f eZ)))))) (n aa (n aA (n ab (n aN (n bl (f aa) (f ab)) (n bS (f aa) (f aa))) (n (a7 P) (n bT (f cJ) (f dI)) (n bU (f dJ) (f ef)))) (n aa (n aT (n (bB P) (f da) (f aa)) (n bV (f db) (f e2))) (n bf (n ac (f (cK P)) (f eg)) (n aa (f eh) (f (ei P)))))) (n ai (n aj (n (aU P) (n bt (f aa) (f dK)) (n bW (f dB) (f aa))) (n a8 (n bG (f aa) (f ej)) (n cj (f aa) (f aa)))) (n aB (n a1 (n bC (f cL) (f aa)) (n aa (f ac) (f ek))) (n (bm P) (n bX (f dc) (f el)) (n ck (f dL) z)))))) (n (boot_o_5 P) (n (boot_o_9 P) (n ak (n al (n ab (n (bg P) (f cm) (f dM)) (n (bY P) (f ab) (f em))) (n ad (n bZ (f df) (f en)) (n cn (f aa) (f e4)))) (n ac (n (aO P) (n ad (f cM) (f dN)) (n aa (f aa) (f eo))) (n ab (n b0 (f cN) (f ab)) (n ab (f dO) (f ep))))) (n aa (n aa (n ad (n ab (f ac) (f eq)) (n cp (f dg) (f ab))) (n (a2 P) (n bH (f cO) (f aa)) (n aa (f ab) (f er)))) (n bw (n ab (n (bx P) (f aa) (f ab)) (n ab (f dh) (f aa))) (n ad (n aa (f aa) (f fb)) (n cP (f aa) z))))) (n ae (n am (n aa (n (aC P) (n ad (f cQ) (f dP)) (n cq (f di) (f fe))) (n ab hK (n ab (f es) (f ab)))) (n aD (n ad (n ab (f cR) (f et)) (n cr (f aa) (f eu))) (n (a9 P) (n aa (f cS) (f aa)) (n cs (f dQ) (f ev))))) (n aa (n aE (n ab (n (bn P) (f dj) (f ab)) (n ab (f dk) (f ew))) (n ad (n bI (f cT) (f fj)) (n cU (f dR) (f ex)))) (n ad (n (aV P) (n aa (f aa) (f dS)) (n b1 (f aa) (f aa))) (n ab (n ct (f dC) (f ab)) hc)))))) (n (boot_o_2 P) (n (boot_o_4 P) (n (boot_o_8 P) (n ab (n an (n aa (n aa (f cV) (f dT)) (n b2 (f aa) (f fp))) (n a3 hL (n ab (f ey) (f aa)))) (n ao (n aa (n bu (f ab) (f ez)) (n b3 (f dl) (f ab))) (n aa (n b4 (f cW) (f aa)) (n aa (f ab) (f eA))))) (n ap (n aq (n aP hL (n ab (f ab) (f aa))) (n aa (n b5 (f dm) (f dU)) (n b6 (f aa) (f fs)))) (n (ar P) (n aa (n aa (f cX) (f aa)) (n aa (f dn) (f eB))) (n bh (n cu (f dp) (f aa)) (n ab (f dV) (f fu)))))) (n gf (n au (n av (n aa (n bo (f ab) (f eC)) (n b7 (f dD) (f ab))) (n aa hw hw)) (n ab (n aW (n aa (f cY) (f ab)) (n aa (f dq) (f eD))) (n aa (n (cv P) (f cZ) (f eE)) (n c0 (f dW) (f eF))))) (n aw (n aa (n aa (n aa (f dr) (f aa)) (n aa (f ds) (f fy))) (n ba (n (bJ P) (f ab) (f aa)) (n aa (f eG) (f ab)))) (n aF (n aa (n bD (f c1) (f eH)) (n cw (f (fz P)) (f eI))) (n aa hw (n aa (f dX) z)))))) (n (boot_o_6 P) (n (boot_o_10 P) (n aa (n aa (n aQ (n bi (f cx) (f aa)) (n b8 (f du) (f eJ))) (n ac (n b9 (f c2) (f dY)) (n ca (f ab) (f eK)))) (n (aG P) (n aR (n ac (f aa) (f dZ)) (n ab (f dE) (f aa))) (n bj (n aa (f c3) (f fE)) (n cy (f aa) (f eL))))) (n aH (n ab (n ac (n bv (f (dv P)) (f d0)) (n cb (f aa) (f eM))) (n a4 (n bK (f c4) (f ab)) (n ab (f d1) (f eN)))) (n ax (n a5 (n bz (f dw) (f d2)) (n cc (f aa) (f fG))) (n ac (n ab (f ab) (f eO)) (n cz (f eP) z))))) (n af (n aa (n aI (n aJ (n ac (f cA) (f d3)) (n cB (f dx) (f eQ))) (n bb (n bL (f c5) (f eR)) (n cC (f d4) (f eS)))) (n aK (n ac (n bE (f aa) (f d5)) (n cd (f ab) (f aa))) (n bc (n cD (f c6) (f ab)) (n cE (f aa) (f eT))))) (n ab (n ay (n aX (n bp (f dy) (f d6)) (n cF (f aa) (f eU))) (n ac (n bM (f aa) (f eV)) (n cG (f d7) (f aa)))) (n ac (n aY (n ac (f ab) (f d8)) (n ce (f fL) (f ab))) (n bq (n cf (f dz) (f eW)) (n cH (f ab) z)))))))
theorem te8776417935488366767:tw8776417935488366767=tw8776417935488366767:=rfl
def tw15812950138728468975:Params→BT:=fun P=>n (boot_o_0 P) (n (boot_o_1 P) (n (gC P) (n (boot_o_7 P) (n aa (n az (n (aL P) (f bk) (f bN)) (n aZ (f (bO P)) (f aa))) (n ag (n aS (f br) (f bP)) (n (bd P) (f bF) z))) (n ab (n ah (n aM (f (bs P)) (f aa)) (n a6 (f aa) (f bQ))) (n aa (n (a0 P) (f bA) (f bR)) (n be (f ci) z)))) (n aa (n aA (n ab (n aN (f bl) (f bS)) (n (a7 P) (f bT) (f bU))) (n aa (n aT (f (bB P)) (f bV)) (n bf (f ac) z))) (n ai (n aj (n (aU P) (f bt) (f bW)) (n a8 (f bG) z)) (n aB (n a1 (f bC) (f aa)) (n (bm P) (f bX) z))))) (n (boot_o_5 P) (n (boot_o_9 P) (n ak (n al (n ab (f (bg P)) (f (bY P))) (n ad (f bZ) (f cn))) (n ac (n (aO P) (f ad) (f aa)) (n ab (f b0) z))) (n aa (n aa (n ad (f ab) (f cp)) (n (a2 P) (f bH) z)) (n bw (n ab (f (bx P)) (f ab)) (n ad (f aa) z)))) (n ae (n am (n aa (n (aC P) (f ad) (f cq)) hK) (n aD (n ad (f ab) (f cr)) (n (a9 P) (f aa) z))) (n aa (n aE (n ab (f (bn P)) (f ab)) (n ad (f bI) z)) (n ad (n (aV P) (f aa) (f b1)) (n ab (f ct) z)))))) (n (boot_o_2 P) (n (boot_o_4 P) (n (boot_o_8 P) (n ab (n an (n aa (f aa) (f b2)) (n a3 (f aa) (f ab))) (n ao (n aa (f bu) (f b3)) (n aa (f b4) z))) (n ap hM (n (ar P) hw (n bh (f cu) z)))) (n (l3 [(1,0,20),(5,0,27),(13,0,32),(18,0,39),(23,0,46),(34,0,53),(36,0,66),(38,0,78),(40,0,90),(42,0,102),(44,0,114),(46,0,126),(48,0,138),(50,0,150),(53,0,162),(60,0,183),(68,0,202),(74,0,207),(79,0,214),(88,0,221),(94,0,226),(101,0,231)]) (n au (n av (n aa (f bo) (f b7)) hw) (n ab (n aW (f aa) (f aa)) (n aa (f (cv P)) z))) (n aw (n aa hw (n ba (f (bJ P)) z)) (n aF (n aa (f bD) (f cw)) gY)))) (n (boot_o_6 P) (n (boot_o_10 P) (n aa (n aa (n aQ (f bi) (f b8)) (n ac (f b9) (f ca))) (n (aG P) (n aR (f ac) (f ab)) (n bj (f aa) z))) (n aH (n ab (n ac (f bv) (f cb)) (n a4 (f bK) z)) (n ax (n a5 (f bz) (f cc)) (n ac (f ab) z)))) (n af (n aa (n aI (n aJ (f ac) (f cB)) (n bb (f bL) (f cC))) (n aK (n ac (f bE) (f cd)) (n bc (f cD) z))) (n ab (n ay (n aX (f bp) (f cF)) (n ac (f bM) z)) (n ac (n aY (f ac) (f ce)) (n bq (f cf) z))))))
theorem te15812950138728468975:tw15812950138728468975=tw15812950138728468975:=rfl
def tw9273852861732838097:Params→BT:=fun P=>n (boot_o_0 P) (n (boot_o_1 P) (n (gE P) (n (boot_o_7 P) (n aa (n az (n (aL P) (n bk (f aa) z) (f bN)) (n aZ (f (bO P)) (f aa))) (n ag (n aS (f br) (f bP)) (n (bd P) (f bF) (f cg)))) (n ab (n ah (n aM (n (bs P) (f ch) z) (f aa)) (n a6 (f aa) (f bQ))) (n aa (n (a0 P) (f bA) (f bR)) (n be (f ci) (f aa))))) (n aa (n aA (n ab (n aN (n bl (f aa) z) (f bS)) (n (a7 P) (f bT) (f bU))) (n aa (n aT (f (bB P)) (f bV)) (n bf (f ac) (f aa)))) (n ai (n aj (n (aU P) (f bt) (f bW)) (n a8 (f bG) (f cj))) (n aB (n a1 (f bC) (f aa)) (n (bm P) (f bX) (f ck)))))) (n (boot_o_5 P) (n (boot_o_9 P) (n ak (n al (n ab (n (bg P) (f cm) z) (f (bY P))) (n ad (f bZ) (f cn))) (n ac (n (aO P) (f ad) (f aa)) (n ab (f b0) (f ab)))) (n aa (n aa (n ad (f ab) (f cp)) (n (a2 P) (f bH) (f aa))) (n bw (n ab (f (bx P)) (f ab)) (n ad (f aa) (f cP))))) (n ae (n am (n aa (n (aC P) (n ad (f cQ) z) (f cq)) hK) (n aD (n ad (f ab) (f cr)) (n (a9 P) (f aa) (f cs)))) (n aa (n aE (n ab (f (bn P)) (f ab)) (n ad (f bI) (f cU))) (n ad (n (aV P) (f aa) (f b1)) (n ab (f ct) (f ab))))))) (n (boot_o_2 P) (n (boot_o_4 P) (n (boot_o_8 P) (n ab (n an (n aa (n aa (f cV) z) (f b2)) (n a3 (f aa) (f ab))) (n ao (n aa (f bu) (f b3)) (n aa (f b4) (f aa)))) (n ap hM (n (ar P) hw (n bh (f cu) (f ab))))) (n (l3 [(1,0,20),(5,0,27),(13,0,32),(18,0,39),(23,0,46),(34,0,53),(36,0,66),(38,0,78),(40,0,90),(42,0,102),(44,0,114),(46,0,126),(48,0,138),(50,0,150),(53,0,162),(60,0,183),(68,0,202),(74,0,207),(79,0,214),(88,0,221),(94,0,226),(101,0,231),(104,0,238),(114,0,245),(120,0,250),(136,0,257),(141,0,262)]) (n au (n av (n aa (n bo (f ab) z) (f b7)) hw) (n ab (n aW (f aa) (f aa)) (n aa (f (cv P)) (f c0)))) (n aw (n aa hw (n ba (f (bJ P)) (f aa))) (n aF (n aa (f bD) (f cw)) hw)))) (n (boot_o_6 P) (n (boot_o_10 P) (n aa (n aa (n aQ (n bi (f cx) z) (f b8)) (n ac (f b9) (f ca))) (n (aG P) (n aR (f ac) (f ab)) (n bj (f aa) (f cy)))) (n aH (n ab (n ac (f bv) (f cb)) (n a4 (f bK) (f ab))) (n ax (n a5 (f bz) (f cc)) (n ac (f ab) (f cz))))) (n af (n aa (n aI (n aJ (n ac (f cA) z) (f cB)) (n bb (f bL) (f cC))) (n aK (n ac (f bE) (f cd)) (n bc (f cD) (f cE)))) (n ab (n ay (n aX (f bp) (f cF)) (n ac (f bM) (f cG))) (n ac (n aY (f ac) (f ce)) (n bq (f cf) (f cH)))))))
theorem te9273852861732838097:tw9273852861732838097=tw9273852861732838097:=rfl
def tw16418585938786716756:Params→BT:=fun P=>n (boot_o_0 P) (n (boot_o_1 P) (n (gG P) (n (boot_o_7 P) (n aa (n az (n (aL P) (n bk (f aa) z) (f bN)) (n aZ (n (bO P) (f cI) z) (f aa))) (n ag (n aS (n br (f aa) z) (f bP)) (n (bd P) (n bF (f c8) z) (f cg)))) (n ab (n ah (n aM (n (bs P) (f ch) z) (f aa)) (n a6 gY (f bQ))) (n aa (n (a0 P) (n bA (f ab) z) (f bR)) (n be (n ci (f c9) z) (f aa))))) (n aa (n aA (n ab (n aN (n bl (f aa) z) (f bS)) (n (a7 P) (n bT (f cJ) z) (f bU))) (n aa (n aT (n (bB P) (f da) z) (f bV)) (n bf (n ac (f (cK P)) z) (f aa)))) (n ai (n aj (n (aU P) (n bt (f aa) z) (f bW)) (n a8 (n bG (f aa) z) (f cj))) (n aB (n a1 (n bC (f cL) z) (f aa)) (n (bm P) (f bX) (f ck)))))) (n (boot_o_5 P) (n (boot_o_9 P) (n ak (n al (n ab (n (bg P) (f cm) z) (f (bY P))) (n ad (n bZ (f df) z) (f cn))) (n ac (n (aO P) (n ad (f cM) z) (f aa)) (n ab (n b0 (f cN) z) (f ab)))) (n aa (n aa (n ad g5 (f cp)) (n (a2 P) (n bH (f cO) z) (f aa))) (n bw (n ab (n (bx P) (f aa) z) (f ab)) (n ad (f aa) (f cP))))) (n ae (n am (n aa (n (aC P) (n ad (f cQ) z) (f cq)) (n ab g6 (f ab))) (n aD (n ad (n ab (f cR) z) (f cr)) (n (a9 P) (n aa (f cS) z) (f cs)))) (n aa (n aE (n ab (n (bn P) (f dj) z) (f ab)) (n ad (n bI (f cT) z) (f cU))) (n ad (n (aV P) gY (f b1)) (n ab (f ct) (f ab))))))) (n (boot_o_2 P) (n (boot_o_4 P) (n (boot_o_8 P) (n ab (n an (n aa (n aa (f cV) z) (f b2)) (n a3 gY (f ab))) (n ao (n aa (n bu (f ab) z) (f b3)) (n aa (n b4 (f cW) z) (f aa)))) (n ap (n aq (n aP gY (f ab)) (n aa (n b5 (f dm) z) (f b6))) (n (ar P) (n aa (n aa (f cX) z) (f aa)) (n bh (n cu (f dp) z) (f ab))))) (n (l3 [(1,0,20),(5,0,27),(13,0,32),(18,0,39),(23,0,46),(34,0,53),(36,0,66),(38,0,78),(40,0,90),(42,0,102),(44,0,114),(46,0,126),(48,0,138),(50,0,150),(53,0,162),(60,0,183),(68,0,202),(74,0,207),(79,0,214),(88,0,221),(94,0,226),(101,0,231),(104,0,238),(114,0,245),(120,0,250),(136,0,257),(141,0,262),(156,0,269)]) (n au (n av (n aa (n bo (f ab) z) (f b7)) g7) (n ab (n aW (n aa (f cY) z) (f aa)) (n aa (n (cv P) (f cZ) z) (f c0)))) (n aw (n aa (n aa (n aa (f dr) z) (f aa)) (n ba (n (bJ P) (f ab) z) (f aa))) (n aF (n aa (n bD (f c1) z) (f cw)) hw)))) (n (boot_o_6 P) (n (boot_o_10 P) (n aa (n aa (n aQ (n bi (f cx) z) (f b8)) (n ac (n b9 (f c2) z) (f ca))) (n (aG P) (n aR (n ac (f aa) z) (f ab)) (n bj (n aa (f c3) z) (f cy)))) (n aH (n ab (n ac (n bv (f (dv P)) z) (f cb)) (n a4 (n bK (f c4) z) (f ab))) (n ax (n a5 (n bz (f dw) z) (f cc)) (n ac (f ab) (f cz))))) (n af (n aa (n aI (n aJ (n ac (f cA) z) (f cB)) (n bb (n bL (f c5) z) (f cC))) (n aK (n ac (n bE (f aa) z) (f cd)) (n bc (n cD (f c6) z) (f cE)))) (n ab (n ay (n aX (n bp (f dy) z) (f cF)) (n ac (n bM (f aa) z) (f cG))) (n ac (n aY (n ac (f ab) z) (f ce)) (n bq (f cf) (f cH)))))))
theorem te16418585938786716756:tw16418585938786716756=tw16418585938786716756:=rfl
def tw14971422353082997428:Params→BT:=fun P=>n (boot_o_0 P) (n (boot_o_1 P) (n (gI P) (n (boot_o_7 P) (n aa (ha P) (n ag (n aS (n br hb (f aa)) (n bP (f ab) (f aa))) (hd P))) (n ab (n ah (n aM (n (bs P) (n ch (f aa) z) (f aa)) (n aa (f aa) (f ed))) he) (n aa (n (a0 P) (n bA (n ab (f fP) z) (f dH)) (n bR (f dA) (f ab))) hf))) (n aa (n aA (hg P) (n aa (n aT (n (bB P) (n da (f aa) z) (f aa)) (n bV (f db) (f e2))) (hh P))) (n ai (n aj (n (aU P) (n bt (n aa (f fQ) z) (f dK)) (n bW (f dB) (f aa))) hi) (hj P)))) (n (boot_o_5 P) (n (boot_o_9 P) (n ak (hk P) (n ac (n (aO P) (n ad (n cM (f e5) z) (f dN)) (n aa (f aa) (f eo))) hl)) (n aa (n aa (n ad (n ab (n ac (f e7) z) (f eq)) (n cp (f dg) (f ab))) (hm P)) (n bw (n ab (n (bx P) (n aa (f e9) z) (f ab)) (n ab (f dh) (f aa))) hn))) (n ae (n am (n aa (n (aC P) (n ad (n cQ (f fc) z) (f dP)) (n cq (f di) (f fe))) ho) (n aD (n ad (n ab (n cR (f ff) z) (f et)) (n cr (f aa) (f eu))) (hp P))) (n aa (n aE (n ab (n (bn P) (n dj (f fh) z) (f ab)) (n ab (f dk) (f ew))) hq) (hr P))))) (n (boot_o_2 P) (n (boot_o_4 P) (n (boot_o_8 P) (n ab hs (n ao (n aa (n bu (n ab (f fZ) z) (f ez)) (n b3 (f dl) (f ab))) ht)) (n ap (n aq (n aP (n aa hb (f ab)) (n ab (f ab) (f aa))) hu) (n (ar P) (n aa (n aa (n cX (f ft) z) (f aa)) (n aa (f dn) (f eB))) hv))) (n (l3 [(1,0,20),(5,0,27),(13,0,32),(18,0,39),(23,0,46),(34,0,53),(36,0,66),(38,0,78),(40,0,90),(42,0,102),(44,0,114),(46,0,126),(48,0,138),(50,0,150),(53,0,162),(60,0,183),(68,0,202),(74,0,207),(79,0,214),(88,0,221),(94,0,226),(101,0,231),(104,0,238),(114,0,245),(120,0,250),(136,0,257),(141,0,262),(156,0,269),(181,0,318),(187,0,325),(193,0,332),(198,0,339),(209,0,344),(217,0,351),(338,0,510),(342,0,517),(346,0,524),(358,0,529),(366,0,536),(382,0,541),(401,0,546),(413,0,553),(420,0,560),(424,0,565),(426,0,572),(434,0,579)]) (n au hx (n ab (n aW (n aa (n cY (f ab) z) (f ab)) (n aa (f dq) (f eD))) (hy P))) (n aw (n aa (n aa (n aa (n dr (f fx) z) (f aa)) (n aa (f ds) (f fy))) (n ba (n (bJ P) g6 (f aa)) (n aa (f eG) (f ab)))) (hz P)))) (n (boot_o_6 P) (n (boot_o_10 P) (n aa hA (n (aG P) (n aR (n ac (n aa (f fD) z) (f dZ)) (n ab (f dE) (f aa))) hB)) (n aH (n ab (n ac (n bv (n (dv P) (f aa) z) (f d0)) (n cb (f aa) (f eM))) hC) (n ax (n a5 (n bz (n dw (f aa) z) (f d2)) (n cc (f aa) (f fG))) hD))) (n af (n aa (n aI (n aJ (n ac (n cA (f fH) z) (f d3)) (n cB (f dx) (f eQ))) hE) (n aK (n ac (n bE gY (f d5)) (n cd (f ab) (f aa))) hF)) (n ab (n ay (n aX (n bp (n dy (f aa) z) (f d6)) (n cF (f aa) (f eU))) hG) hH))))
theorem te14971422353082997428:tw14971422353082997428=tw14971422353082997428:=rfl
def tw9580140135153605433:Params→BT:=fun P=>n (boot_o_0 P) (n (boot_o_1 P) (n (f9 P) (n (boot_o_7 P) (n aa (n az (n (aL P) (n bk (f aa) (f d9)) (n bN (f c7) z)) (n aZ (n (bO P) (f cI) (f aa)) (n aa (f ea) z))) (n ag (n aS (n br (f aa) (f aa)) (n bP (f ab) z)) (n (bd P) (n bF (f c8) z) (n cg (f aa) z)))) (n ab (n ah (n aM (n (bs P) (f ch) (f aa)) gY) (n a6 (n aa (f aa) (f dF)) (n bQ (f dG) z))) (n aa (n (a0 P) (n bA (f ab) (f dH)) (n bR (f dA) z)) (n be (n ci (f c9) z) hb)))) (n aa (n aA (n ab (n aN (n bl (f aa) (f ab)) (n bS (f aa) z)) (n (a7 P) (n bT (f cJ) (f dI)) (n bU (f dJ) z))) (n aa (n aT (n (bB P) (f da) (f aa)) (n bV (f db) z)) (n bf (n ac (f (cK P)) z) (n aa (f eh) z)))) (n ai (n aj (n (aU P) (n bt (f aa) (f dK)) (n bW (f dB) z)) (n a8 (n bG (f aa) z) (n cj (f aa) z))) (n aB (n a1 (n bC (f cL) (f aa)) (n aa (f ac) z)) (n (bm P) (n bX (f dc) z) (n ck (f dL) z)))))) (n (boot_o_5 P) (n (boot_o_9 P) (n ak (n al (n ab (n (bg P) (f cm) (f dM)) (n (bY P) (f ab) z)) (n ad (n bZ (f df) (f en)) (n cn (f aa) z))) (n ac (n (aO P) (n ad (f cM) (f dN)) gY) (n ab (n b0 (f cN) z) (n ab (f dO) z)))) (n aa (n aa (n ad (n ab (f ac) (f eq)) (n cp (f dg) z)) (n (a2 P) (n bH (f cO) z) hb)) (n bw (n ab (n (bx P) (f aa) (f ab)) (n ab (f dh) z)) (n ad gY (n cP (f aa) z))))) (n ae (n am (n aa (n (aC P) (n ad (f cQ) (f dP)) (n cq (f di) z)) (n ab hK (n ab (f es) z))) (n aD (n ad (n ab (f cR) (f et)) (n cr (f aa) z)) (n (a9 P) (n aa (f cS) z) (n cs (f dQ) z)))) (n aa (n aE (n ab (n (bn P) (f dj) (f ab)) (n ab (f dk) z)) (n ad (n bI (f cT) z) (n cU (f dR) z))) (n ad (n (aV P) (n aa (f aa) (f dS)) (n b1 (f aa) z)) (n ab (n ct (f dC) z) hc)))))) (n (boot_o_2 P) (n (boot_o_4 P) (n (boot_o_8 P) (n ab (n an (n aa (n aa (f cV) (f dT)) (n b2 (f aa) z)) (n a3 hL (n ab (f ey) z))) (n ao (n aa (n bu (f ab) (f ez)) (n b3 (f dl) z)) (n aa (n b4 (f cW) z) hb))) (n ap (n aq (n aP hL g6) (n aa (n b5 (f dm) (f dU)) (n b6 (f aa) z))) (n (ar P) (n aa (n aa (f cX) (f aa)) (n aa (f dn) z)) (n bh (n cu (f dp) z) (n ab (f dV) z))))) (n gf (n au (n av (n aa (n bo (f ab) (f eC)) (n b7 (f dD) z)) (n aa hw gY)) (n ab (n aW (n aa (f cY) (f ab)) (n aa (f dq) z)) (n aa (n (cv P) (f cZ) z) (n c0 (f dW) z)))) (n aw (n aa (n aa (n aa (f dr) (f aa)) (n aa (f ds) z)) (n ba (n (bJ P) (f ab) z) (n aa (f eG) z))) (n aF (n aa (n bD (f c1) (f eH)) (n cw (f (dt [(d P "__module__" 666 (v "patchkin.desk" 605)),(d P "__qualname__" 668 (v "Desk" 667)),(d P "__firstlineno__" 670 (vi 217 669)),(d P "__init__" 677 (r 359)),(d P "begin" 685 (r 366)),(d P "stores" 692 (r 373)),(d P "patches" 699 (r 380)),(d P "has" 705 (r 385)),(d P "record" 711 (r 390)),(d P "cut" 717 (r 395)),(d P "back" 727 (r 402)),(d P "take" 733 (r 407)),(d P "drop" 743 (r 414)),(d P "leans" 749 (r 419))] 14)) z)) (n aa gY (n aa (f dX) z)))))) (n (boot_o_6 P) (n (boot_o_10 P) (n aa (n aa (n aQ (n bi (f cx) (f aa)) (n b8 (f du) z)) (n ac (n b9 (f c2) (f dY)) (n ca (f ab) z))) (n (aG P) (n aR (n ac (f aa) (f dZ)) (n ab (f dE) z)) (n bj (n aa (f c3) z) (n cy (f aa) z)))) (n aH (n ab (n ac (n bv (f (dv P)) (f d0)) (n cb (f aa) z)) (n a4 (n bK (f c4) z) (n ab (f d1) z))) (n ax (n a5 (n bz (f dw) (f d2)) (n cc (f aa) z)) (n ac g6 (n cz (f eP) z))))) (n af (n aa (n aI (n aJ (n ac (f cA) (f d3)) (n cB (f dx) z)) (n bb (n bL (f c5) (f eR)) (n cC (f d4) z))) (n aK (n ac (n bE (f aa) (f d5)) (n cd (f ab) z)) (n bc (n cD (f c6) z) (n cE (f aa) z)))) (n ab (n ay (n aX (n bp (f dy) (f d6)) (n cF (f aa) z)) (n ac (n bM (f aa) z) (n cG (f d7) z))) (n ac (n aY (n ac (f ab) (f d8)) (n ce (f (l3 [(219,4,358),(224,4,365),(230,4,372),(233,4,379),(236,4,384),(240,4,389),(250,4,394),(259,4,401),(265,4,406),(275,4,413),(283,4,418),(287,4,423)])) z)) (n bq (n cf (f dz) z) (n cH (f ab) z)))))))
theorem te9580140135153605433:tw9580140135153605433=tw9580140135153605433:=rfl
def tw15930449328658926585:Params→BT:=fun P=>n (boot_o_0 P) (n (boot_o_1 P) (n (gM P) (n (boot_o_7 P) (n aa (n az (n (aL P) (f bk) z) (n aZ (f (bO P)) z)) (n ag (n aS (f br) z) (n (bd P) (f bF) z))) (n ab (n ah (n aM (f (bs P)) z) (n a6 (f aa) z)) (n aa (n (a0 P) (f bA) z) (f be)))) (n aa (n aA (n ab (n aN (f bl) z) (n (a7 P) (f bT) z)) (n aa (n aT (f (bB P)) z) (f bf))) (n ai (n aj (n (aU P) (f bt) z) (n a8 (f bG) z)) (n aB (n a1 (f bC) z) (f (bm P)))))) (n (boot_o_5 P) (n (boot_o_9 P) (n ak (n al (n ab (f (bg P)) z) (n ad (f bZ) z)) (n ac (n (aO P) (f ad) z) (n ab (f b0) z))) (n aa (n aa (n ad (f ab) z) (n (a2 P) (f bH) z)) (n bw (n ab (f (bx P)) z) (f ad)))) (n ae (n am (n aa (n (aC P) (f ad) z) g6) (n aD (n ad (f ab) z) (f (a9 P)))) (n aa (n aE (n ab (f (bn P)) z) (n ad (f bI) z)) (n ad (n (aV P) (f aa) z) (f ab)))))) (n (boot_o_2 P) (n (boot_o_4 P) (n (boot_o_8 P) (n ab (n an gY (n a3 (f aa) z)) (n ao (n aa (f bu) z) (n aa (f b4) z))) (n ap (n aq (n aP (f aa) z) (n aa (f b5) z)) (n (ar P) gY (f bh)))) (n (l3 [(1,0,20),(5,0,27),(13,0,32),(18,0,39),(23,0,46),(34,0,53),(36,0,66),(38,0,78),(40,0,90),(42,0,102),(44,0,114),(46,0,126),(48,0,138),(50,0,150),(53,0,162)]) (n au (n av (n aa (f bo) z) gY) (n ab (n aW (f aa) z) (f aa))) (n aw (n aa gY (n ba (f (bJ P)) z)) (n aF (n aa (f bD) z) (f aa))))) (n (boot_o_6 P) (n (boot_o_10 P) (n aa (n aa (n aQ (f bi) z) (n ac (f b9) z)) (n (aG P) (n aR (f ac) z) (f bj))) (n aH (n ab (n ac (f bv) z) (n a4 (f bK) z)) (n ax (n a5 (f bz) z) (f ac)))) (n af (n aa (n aI (n aJ (f ac) z) (n bb (f bL) z)) (n aK (n ac (f bE) z) (f bc))) (n ab (n ay (n aX (f bp) z) (n ac (f bM) z)) (n ac (n aY (f ac) z) (f bq))))))
theorem te15930449328658926585:tw15930449328658926585=tw15930449328658926585:=rfl
def tw3472182564988048090:Params→BT:=fun P=>n (boot_o_0 P) (n (boot_o_1 P) (n (boot_o_3 P) (f (boot_o_7 P)) (f aa)) (n (boot_o_5 P) (f (boot_o_9 P)) (f ae))) (n (boot_o_2 P) (n (boot_o_4 P) (f (boot_o_8 P)) (f ab)) (n (boot_o_6 P) (f (boot_o_10 P)) (f af)))
theorem te3472182564988048090:tw3472182564988048090=tw3472182564988048090:=rfl
def tw7727792059989213949:Params→BT:=fun P=>n (boot_o_0 P) (n (boot_o_1 P) (n (gO P) (n (boot_o_7 P) (n aa (n az (f (aL P)) (f aZ)) (n ag (f aS) z)) (n ab (n ah (f aM) (f a6)) (n aa (f (a0 P)) z))) (n aa (n aA (n ab (f aN) (f (a7 P))) (n aa (f aT) z)) (n ai (n aj (f (aU P)) (f a8)) (n aB (f a1) z)))) (n (boot_o_5 P) (n (boot_o_9 P) (n ak (n al (f ab) (f ad)) (n ac (f (aO P)) z)) (n aa (n aa (f ad) (f (a2 P))) (n (ty (cl (S "PatchError") [(w "ValueError")] [(r 57),(w "ValueError"),(w "Exception"),(w "BaseException"),(w "object")] 56 (S "PatchError") true [] [(r 70),(r 82),(r 94),(r 106)] false none false) [(k (r 48)),none,(k (v "PatchError" 238)),(k (v "PatchError" 246)),(k (b "ValueError.__new__")),(k (vl true))]) (f ab) z))) (n ae (n am (n aa (f (aC P)) (f ab)) (n aD (f ad) z)) (n aa (n aE (f ab) z) (n ad (f (aV P)) z))))) (n (boot_o_2 P) (n (boot_o_4 P) (n (boot_o_8 P) hI (n ap (n aq (f aP) (f aa)) (n (ar P) (f aa) z))) (n (l3 [(1,0,20),(5,0,27),(13,0,32),(18,0,39),(23,0,46),(34,0,53),(36,0,66),(38,0,78),(40,0,90),(42,0,102)]) (n au (n av (f aa) (f aa)) (n ab (f aW) z)) hN)) (n (boot_o_6 P) (n (boot_o_10 P) (n aa (n aa (f aQ) (f ac)) (n (aG P) (f aR) z)) hO) (n af (n aa (n aI (f aJ) (f bb)) (n aK (f ac) z)) hJ)))
theorem te7727792059989213949:tw7727792059989213949=tw7727792059989213949:=rfl
def tw3898641765043787903:Params→BT:=fun P=>n (boot_o_0 P) (n (boot_o_1 P) (n (gR P) (n (boot_o_7 P) (n aa (n az (f (aL P)) (f aZ)) (n ag (f aS) (f (bd P)))) (n ab (n ah (f aM) (f a6)) (n aa (f (a0 P)) (f be)))) (n aa (n aA (n ab (f aN) (f (a7 P))) (n aa (f aT) (f bf))) (n ai (n aj (f (aU P)) (f a8)) (n aB (f a1) z)))) (n (boot_o_5 P) (n (boot_o_9 P) (n ak (n al (f ab) (f ad)) (n ac (f (aO P)) (f ab))) (n aa (n aa (f ad) (f (a2 P))) (n (ty (cl (S "PatchError") [(w "ValueError")] [(r 57),(w "ValueError"),(w "Exception"),(w "BaseException"),(w "object")] 56 (S "PatchError") true [] [(r 70),(r 82),(r 94),(r 106),(r 118)] false none false) [(k (r 48)),none,(k (v "PatchError" 238)),(k (v "PatchError" 246)),(k (b "ValueError.__new__")),(k (vl true))]) (f ab) z))) (n ae (g8 P) (n aa (n aE (f ab) (f ad)) (n ad (f (aV P)) z))))) (n (boot_o_2 P) (n (boot_o_4 P) (n (boot_o_8 P) (n ab (n an (f aa) (f a3)) (n ao (f aa) (f aa))) (n ap (n aq (f aP) (f aa)) (n (ar P) (f aa) (f bh)))) (n (l3 [(1,0,20),(5,0,27),(13,0,32),(18,0,39),(23,0,46),(34,0,53),(36,0,66),(38,0,78),(40,0,90),(42,0,102),(44,0,114)]) (n au (n av (f aa) (f aa)) (n ab (f aW) (f aa))) hN)) (n (boot_o_6 P) (n (boot_o_10 P) (n aa (n aa (f aQ) (f ac)) (n (aG P) (f aR) (f bj))) hO) (n af g9 (n ab (n ay (f aX) (f ac)) (n ac (f aY) z)))))
theorem te3898641765043787903:tw3898641765043787903=tw3898641765043787903:=rfl
def tw12386078922823342056:Params→Heap:=fun P=>Heap.mk #[boot_o_0 P,boot_o_1 P,boot_o_2 P,boot_o_3 P,boot_o_4 P,boot_o_5 P,boot_o_6 P,boot_o_7 P,boot_o_8 P,boot_o_9 P,boot_o_10 P,aa,ab,ae,af] (Life.mk [] [] [] 0 [] [] false #[] [] 0 false false false 0 [2000,10,10] false 0 true [] [] 0 false)
theorem te12386078922823342056:tw12386078922823342056=tw12386078922823342056:=rfl
def tw10259651357213125209:Params→Heap:=fun P=>Heap.mk #[boot_o_0 P,boot_o_1 P,boot_o_2 P,fN P,boot_o_4 P,boot_o_5 P,boot_o_6 P,boot_o_7 P,boot_o_8 P,boot_o_9 P,boot_o_10 P,aa,gd,ae,af,aa,ab,ak,aa,aA,au,am,aa,ab,ap,aa,aH,ai,aw,aa,ab,az,an,al,aa,ab,av,aa,aI,ah,aq,aa,ab,aj,aa,aE,ay,ag,ao,ac,aG P,aa,ab,aD,aK,aa,ar P,bw,ax,aB,aF,ad,ac,aL P,aa,ab,aQ,aN,aa,aC P,aJ,aM,aP,ad,ac,aU P,aa,ab,aX,aS,aa,aO P,aR,aT,aW,ad,ac,a0 P,aa,ab,a5,a1,aa,aV P,aY,aZ,a3,ad,ac,a7 P,aa,ab,bb,a6,aa,a2 P,a4,a8,ba,ad,ac,bd P,aa,ab,bj,bf,aa,a9 P,bc,be,bh,ad,ac,bm P,aa,ab,bq,bk,aa,bg P,bi,bl,bo,ad,ac,bs P,aa,ab,bv,bt,aa,bn P,bp,br,bu,ad,ac,bB P,aa,ab,bE,bA,aa,bx P,bz,bC,bD,aa,ac,bO P,aa,bZ,b9,bT,aa,ab,bL,aa,b5,bH,bK,bG,bJ P,bI,bM,bF,b4,b0,aa,ac,cv P,aa,cD,ci,cu,aa,ab,bX,aa,ct,cf,bN,b2,bY P,b8,bS,b7,cq,cB,aa,ab,cp,cb,bW,aa,ab,cF,bP,b3,aa,ab,bV,aa,cr,cd,bR,aa,ab,cc,aa,cw,b1,ce,aa,ab,cn,ca,bU,aa,ab,cC,bQ,b6,aa,ab,cj,aa,cU,cG,cg,aa,ab,cy,aa,c0,cs,cE,aa,ab,cP,cz,ck,aa,ab,cH,aa,cV,cm,cx,aa,ab,cQ,cA,ch,aa,ac,dv P,aa,dr,dj,dy,aa,ab,cM,aa,da,cY,cR,aa,ab,cX,aa,dw,cL,c1,aa,ab,cI,aa,df,c2,cJ,aa,ab,c5,aa,dm,cO,c4,aa,ab,cT,aa,c8,cW,cN,c3,cK P,cZ,cS,c6,c9,dp,aa,ab,dc,aa,dC,dz,c7,aa,ab,du,aa,dD,di,dx,aa,ab,dg,aa,dB,ds,dk,aa,ab,dl,aa,dE,db,dq,aa,ab,dA,dn,dh,aa,ac,fz P,aa,fL,ea,ey,aa,ab,dJ,aa,es,d4,dG,aa,ab,d1,aa,eG,dR,d7,aa,ab,dO,aa,eh,dW,dQ,aa,ab,dV,aa,eP,dL,dX,aa,ab,d9,dT,dM,aa,ab,eC,dP,d3,aa,ab,eq,d0,dK,aa,ab,d6,aa,ez,dN,dZ,aa,ab,et,d5,dH,aa,ab,d2,aa,eH,dS,d8,aa,ab,en,dY,dI,aa,ab,eR,dF,dU,aa,ab,ej,aa,fj,eV,ec,aa,ab,fE,eg,eE,aa,ab,ee,aa,fb,eO,el,aa,ab,eW,aa,fp,em,eJ,aa,ab,fe,eQ,ed,aa,ab,eM,aa,fy,ew,eU,aa,ab,eo,aa,e2,eD,eu,aa,ab,eB,aa,fG,ek,eI,aa,ab,eb,aa,e4,eK,ef,aa,ab,eS,aa,fs,er,eN,aa,ab,ex,aa,eY,eA,ep,eL,ei P,eF,ev,eT,eZ,fu,aa,ab,e3,aa,fY,fM,eX,aa,ab,fB,aa,f2,fc,fH,aa,ab,e7,aa,fQ,fx,fh,aa,ab,fZ,e5,fD,aa,ab,ff,aa,fP,ft,e9,aa,ab,f5,fk,fK,aa,ab,fS,fC,e1,aa,ab,fI,aa,f1,e8,fF,aa,ab,fi,aa,fO,fq,e6,aa,ab,f4,fg,fJ,aa,ab,fa,aa,fR,fA,fm,aa,ab,fo,aa,f6,e0,fw,aa,ab,ga,f0,fU,aa,ab,ge,fX,f8,aa,ab,fT,aa,gb,f3,fW,aa,ab,fv "law" "law" (x 56),fV,f7] (Life.mk [] [] [] 0 [] [] false #[] [] 0 false false false 0 [2000,10,10] false 0 true [] [] 0 false)
theorem te10259651357213125209:tw10259651357213125209=tw10259651357213125209:=rfl
def tw12190848486882744656:Params→Frag:=fun P=>[(2,boot_o_2 P),(3,fN P),(15,aa),(17,ak),(18,aa),(20,au),(21,am),(22,aa),(24,ap),(25,aa),(27,ai),(28,aw),(29,aa),(32,an),(33,al),(34,aa),(36,av),(37,aa),(39,ah),(40,aq),(41,aa),(43,aj),(44,aa),(46,ay),(47,ag),(48,ao),(55,aa),(56,ar P),(57,bw),(58,ax),(61,ad),(68,aa),(69,aC P),(70,aJ),(73,ad),(80,aa),(81,aO P),(82,aR),(85,ad),(92,aa),(93,aV P),(94,aY),(97,ad),(104,aa),(105,a2 P),(106,a4),(109,ad),(116,aa),(117,a9 P),(118,bc),(121,ad),(128,aa),(129,bg P),(130,bi),(133,ad),(140,aa),(141,bn P),(142,bp),(145,ad),(152,aa),(153,bx P),(154,bz),(164,aa),(166,bL),(167,aa),(169,bH),(170,bK),(171,bG),(172,bJ P),(173,bI),(174,bM),(175,bF),(185,aa),(187,bX),(188,aa),(190,cf),(191,bN),(192,b2),(193,bY P),(194,b8),(195,bS),(196,b7),(199,aa),(202,cb),(203,bW),(204,aa),(207,bP),(208,b3),(209,aa),(211,bV),(212,aa),(214,cd),(215,bR),(216,aa),(218,cc),(219,aa),(221,b1),(222,ce),(223,aa),(226,ca),(227,bU),(228,aa),(231,bQ),(232,b6),(233,aa),(235,cj),(236,aa),(238,cG),(239,cg),(240,aa),(242,cy),(243,aa),(245,cs),(246,cE),(247,aa),(250,cz),(251,ck),(252,aa),(254,cH),(255,aa),(257,cm),(258,cx),(259,aa),(262,cA),(263,ch),(271,aa),(273,cM),(274,aa),(276,cY),(277,cR),(278,aa),(280,cX),(281,aa),(283,cL),(284,c1),(285,aa),(287,cI),(288,aa),(290,c2),(291,cJ),(292,aa),(294,c5),(295,aa),(297,cO),(298,c4),(299,aa),(301,cT),(302,aa),(304,cW),(305,cN),(306,c3),(307,cK P),(308,cZ),(309,cS),(310,c6),(313,aa),(315,dc),(316,aa),(318,dz),(319,c7),(320,aa),(322,du),(323,aa),(325,di),(326,dx),(327,aa),(329,dg),(330,aa),(332,ds),(333,dk),(334,aa),(336,dl),(337,aa),(339,db),(340,dq),(341,aa),(344,dn),(345,dh),(353,aa),(355,dJ),(356,aa),(358,d4),(359,dG),(360,aa),(362,d1),(363,aa),(365,dR),(366,d7),(367,aa),(369,dO),(370,aa),(372,dW),(373,dQ),(374,aa),(376,dV),(377,aa),(379,dL),(380,dX),(381,aa),(384,dT),(385,dM),(386,aa),(389,dP),(390,d3),(391,aa),(394,d0),(395,dK),(396,aa),(398,d6),(399,aa),(401,dN),(402,dZ),(403,aa),(406,d5),(407,dH),(408,aa),(410,d2),(411,aa),(413,dS),(414,d8),(415,aa),(418,dY),(419,dI),(420,aa),(423,dF),(424,dU),(425,aa),(427,ej),(428,aa),(430,eV),(431,ec),(432,aa),(435,eg),(436,eE),(437,aa),(439,ee),(440,aa),(442,eO),(443,el),(444,aa),(446,eW),(447,aa),(449,em),(450,eJ),(451,aa),(454,eQ),(455,ed),(456,aa),(458,eM),(459,aa),(461,ew),(462,eU),(463,aa),(465,eo),(466,aa),(468,eD),(469,eu),(470,aa),(472,eB),(473,aa),(475,ek),(476,eI),(477,aa),(479,eb),(480,aa),(482,eK),(483,ef),(484,aa),(486,eS),(487,aa),(489,er),(490,eN),(491,aa),(493,ex),(494,aa),(496,eA),(497,ep),(498,eL),(499,ei P),(500,eF),(501,ev),(502,eT),(505,aa),(507,e3),(508,aa),(510,fM),(511,eX),(512,aa),(514,fB),(515,aa),(517,fc),(518,fH),(519,aa),(521,e7),(522,aa),(524,fx),(525,fh),(526,aa),(529,e5),(530,fD),(531,aa),(533,ff),(534,aa),(536,ft),(537,e9),(538,aa),(541,fk),(542,fK),(543,aa),(546,fC),(547,e1),(548,aa),(550,fI),(551,aa),(553,e8),(554,fF),(555,aa),(557,fi),(558,aa),(560,fq),(561,e6),(562,aa),(565,fg),(566,fJ),(567,aa),(569,fa),(570,aa),(572,fA),(573,fm),(574,aa),(576,fo),(577,aa),(579,e0),(580,fw),(581,aa),(584,f0),(585,fU),(586,aa),(589,fX),(590,f8),(591,aa),(593,fT),(594,aa),(596,f3),(597,fW),(598,aa),(601,fV),(602,f7)]
theorem te12190848486882744656:tw12190848486882744656=tw12190848486882744656:=rfl
def tw4162209383156564164:List Stmt:=[x 15,x 16]
theorem te4162209383156564164:tw4162209383156564164=tw4162209383156564164:=rfl
def tw9814359220663547750:List Stmt:=[x 8]
theorem te9814359220663547750:tw9814359220663547750=tw9814359220663547750:=rfl
def tw10461941777098840203:List Stmt:=[x 17]
theorem te10461941777098840203:tw10461941777098840203=tw10461941777098840203:=rfl
def tw13460980057145416556:List Stmt:=[x 40,x 41,x 42,x 43,x 44,x 45,x 46,x 47,x 48,x 49,x 50,x 51,x 52]
theorem te13460980057145416556:tw13460980057145416556=tw13460980057145416556:=rfl
def tw12103932900412632848:List Stmt:=[x 11]
theorem te12103932900412632848:tw12103932900412632848=tw12103932900412632848:=rfl
def tw8481519505154003186:List Stmt:=[x 25,x 26,x 27,x 28,x 29]
theorem te8481519505154003186:tw8481519505154003186=tw8481519505154003186:=rfl
def tw12058044323298952915:List Stmt:=[x 53,x 54,x 55,x 56]
theorem te12058044323298952915:tw12058044323298952915=tw12058044323298952915:=rfl
def tw6436460087716632693:List Stmt:=[x 9]
theorem te6436460087716632693:tw6436460087716632693=tw6436460087716632693:=rfl
def tw16225226234042913302:List Stmt:=[x 34,x 35,x 36,x 37,x 38]
theorem te16225226234042913302:tw16225226234042913302=tw16225226234042913302:=rfl
def tw3545663870417881335:List Stmt:=[x 13]
theorem te3545663870417881335:tw3545663870417881335=tw3545663870417881335:=rfl
def tw14337077230593936343:List Stmt:=[x 39]
theorem te14337077230593936343:tw14337077230593936343=tw14337077230593936343:=rfl
def tw2408175605391131993:List Stmt:=[x 30,x 31,x 32,x 33]
theorem te2408175605391131993:tw2408175605391131993=tw2408175605391131993:=rfl
def tw16960243116465879609:List Stmt:=[x 0,x 1,x 2,x 3,x 4,x 5,x 6,x 7]
theorem te16960243116465879609:tw16960243116465879609=tw16960243116465879609:=rfl
def tw1568701652786536155:List Stmt:=[x 18,x 19,x 20,x 21,x 22,x 23,x 24]
theorem te1568701652786536155:tw1568701652786536155=tw1568701652786536155:=rfl
def tw18215756502095945759:List Stmt:=[x 10]
theorem te18215756502095945759:tw18215756502095945759=tw18215756502095945759:=rfl
def tw2840401661785982303:List Stmt:=[x 14]
theorem te2840401661785982303:tw2840401661785982303=tw2840401661785982303:=rfl
def tw15772453964879582047:List Stmt:=[x 12]
theorem te15772453964879582047:tw15772453964879582047=tw15772453964879582047:=rfl
def tw4801039047285985077:Program:={PySem.Challenge.pw_patchkin_k07_taken_and_dropped with main:={PySem.Challenge.pw_patchkin_k07_taken_and_dropped.main with body:=[x 0,x 2,x 3,x 4,x 5,x 7,x 8,x 9,x 10,x 11,x 12,x 13,x 14,x 15,x 17,x 18,x 19,x 20,x 21,x 22,x 23,x 24,x 25,x 26,x 27,x 28,x 29,x 30,x 32,x 33,x 34,x 35,x 36,x 37,x 38,x 39,x 41,x 42,x 43,x 44,x 45,x 46,x 47,x 48,x 49,x 50,x 51,x 52,x 53,x 54,x 55,x 56]}}
theorem te4801039047285985077:tw4801039047285985077=tw4801039047285985077:=rfl
end
end PySem.W.Fast
namespace PK
open PySem L2
theorem all_mk{l:W.OpenLaw}{w:World}{K:Qqy}{h:Heap}{mg:Qqx}{fa f0 f1 f2 f3 f4 f5 f6 f7 f8 f9 f10 f11 f12 f13 f14 f15 f16 f17 f18 f19 f20 f21 f22 f23 f24 f25 f26 f27 f28 f29 f30 f31 f32 f33 f34 f35 f36 f37 f38 f39 f40 f41 f42 f43 f44 f45 f46 f47 f48 f49 f50 f51 f52 f53 f54 f55 f56 f57 f58 f59 f60 f61 f62 gQ gL ij gw ig iI gp gq gr jw iM lX gS:Addr}{oX mY:Tok}(X:K.In h)(G:h.Ns mainGlobals mg)(hfa:mg "law"=some (.ref fa))
  (Fn:W.nsIn K mainGlobals "Line"=some (some (.ref gQ)))
  (Ck:W.nsIn K mainGlobals "Patch"=some (some (.ref gL)))
  (Cm:W.nsIn K mainGlobals "Sight"=some (some (.ref ij)))
  (Fo:W.nsIn K mainGlobals "Desk"=some (some (.ref gw)))
  (h0:FI K "counts_with" qt f0)
  (h1:FI K "most_pairs" rM f1)
  (h2:FI K "place_from" rN f2)
  (h3:FI K "kept" Ie f3)
  (h4:FI K "lines_named_by" lT f4)
  (h5:FI K "leans_straight_on" kA f5)
  (h6:FI K "live_patches" ph f6)
  (h7:FI K "lines_put" tS f7)
  (h8:FI K "standing_lines" lU f8)
  (h9:FI K "files_with_lines" pj f9)
  (WW:FI K "straight_ahead" nN f10)
  (Vz:FI K "joined" BC f11)
  (h12:FI K "all_ahead" pV f12)
  (h13:FI K "first_free" rO f13)
  (h14:FI K "row_of" xu f14)
  (h15:FI K "check_name" rP f15)
  (h16:FI K "check_places" pk f16)
  (h17:FI K "kept_behind" qu f17)
  (h18:FI K "new_lines" tT f18)
  (h19:FI K "changing_patch" kE f19)
  (WX:FI K "_law_cell_at" pw f20)
  (VA:FI K "_law_draw" tX f21)
  (h22:FI K "_law_name" tY f22)
  (h23:FI K "_law_text" pY f23)
  (h24:FI K "_law_edit" tZ f24)
  (h25:FI K "_law_deed" pZ f25)
  (h26:FI K "_law_desk" ou f26)
  (h27:FI K "_law_names_are" nR f27)
  (h28:FI K "_law_which" rW f28)
  (h29:FI K "_law_due" rX f29)
  (h30:FI K "_law_taken" rY f30)
  (h31:FI K "_law_dropped" pz f31)
  (h32:FI K "_law_take_right" j1 f32)
  (h33:FI K "_law_drop_right" j2 f33)
  (h34:FI K "_law_named" rZ f34)
  (h35:FI K "law" GA f35)
  (h36:MI K gQ "__init__" "Line.__init__" oE f36)
  (h37:MI K gL "__init__" "Patch.__init__" nM f37)
  (h38:MI K ij "__init__" "Sight.__init__" nO f38)
  (h39:MI K ij "is_ahead" "Sight.is_ahead" nP f39)
  (WY:MI K ij "quarrelling" "Sight.quarrelling" lV f40)
  (VC:MI K gw "__init__" "Desk.__init__" oF f41)
  (h42:MI K gw "begin" "Desk.begin" rQ f42)
  (h43:MI K gw "stores" "Desk.stores" vD f43)
  (h44:MI K gw "patches" "Desk.patches" pq f44)
  (h45:MI K gw "has" "Desk.has" rR f45)
  (h46:MI K gw "record" "Desk.record" n_ f46)
  (h47:MI K gw "cut" "Desk.cut" rS f47)
  (h48:MI K gw "back" "Desk.back" tU f48)
  (h49:MI K gw "take" "Desk.take" pW f49)
  (WZ:MI K gw "drop" "Desk.drop" tV f50)
  (VD:MI K gw "leans" "Desk.leans" oV f51)
  (h52:MI K gw "told" "Desk.told" pX f52)
  (h53:MI K gw "files" "Desk.files" xv f53)
  (h54:MI K gw "row" "Desk.row" rV f54)
  (h55:MI K gw "quarrels" "Desk.quarrels" oG f55)
  (h56:MI K gw "patches_of" "Desk.patches_of" lD f56)
  (h57:MI K gw "sight_of" "Desk.sight_of" oH f57)
  (h58:MI K gw "check_store" "Desk.check_store" ml f58)
  (h59:MI K gw "check_made" "Desk.check_made" mR f59)
  (h60:MI K gw "check_held" "Desk.check_held" mS f60)
  (h61:MI K gw "check_new" "Desk.check_new" nQ f61)
  (h62:MI K gw "keep" "Desk.keep" tW f62)
  (Fp:W.plainGet K gQ Str.empty=true)
  (Fq:W.hasDictIn K gQ=true)
  (Fs:W.plainOver K gQ=true)
  (Ft:W.findIn K (.ref gQ) "__setattr__"=some (some (.builtin "object.__setattr__")))
  (Fu:W.makesIn K gQ=true)
  (Fv:W.keepIn K (.ref gQ)=true)
  (gT:W.findIn K (.ref gQ) "name"=some none)
  (jI:W.findIn K (.ref gQ) "text"=some none)
  (iF:W.findIn K (.ref gQ) "upper_name"=some none)
  (iG:W.findIn K (.ref gQ) "lower_name"=some none)
  (Cn:W.plainGet K gL Str.empty=true)
  (Co:W.hasDictIn K gL=true)
  (Cp:W.plainOver K gL=true)
  (Cq:W.findIn K (.ref gL) "__setattr__"=some (some (.builtin "object.__setattr__")))
  (Cr:W.makesIn K gL=true)
  (Cs:W.keepIn K (.ref gL)=true)
  (i6:W.findIn K (.ref gL) "name"=some none)
  (ky:W.findIn K (.ref gL) "file"=some none)
  (jM:W.findIn K (.ref gL) "puts"=some none)
  (jN:W.findIn K (.ref gL) "cuts"=some none)
  (iW:W.findIn K (.ref gL) "other"=some none)
  (Ct:W.plainGet K ij Str.empty=true)
  (Cu:W.hasDictIn K ij=true)
  (Cv:W.plainOver K ij=true)
  (Cw:W.findIn K (.ref ij) "__setattr__"=some (some (.builtin "object.__setattr__")))
  (Cy:W.makesIn K ij=true)
  (Cz:W.keepIn K (.ref ij)=true)
  (jQ:W.findIn K (.ref ij) "ahead"=some none)
  (iB:W.findIn K (.ref ij) "lines"=some none)
  (Fw:W.plainGet K gw Str.empty=true)
  (Fx:W.hasDictIn K gw=true)
  (Fy:W.plainOver K gw=true)
  (Fz:W.findIn K (.ref gw) "__setattr__"=some (some (.builtin "object.__setattr__")))
  (FA:W.makesIn K gw=true)
  (FC:W.keepIn K (.ref gw)=true)
  (iS:W.findIn K (.ref gw) "made"=some none)
  (jo:W.findIn K (.ref gw) "needs"=some none)
  (iH:W.findIn K (.ref gw) "held"=some none)
  (qB:W.nsIn K mainGlobals "PatchError"=some (some (.ref ig)))
  (wC:W.nsIn K mainGlobals "BadName"=some (some (.ref iI)))
  (sC:W.nsIn K mainGlobals "NameTaken"=some (some (.ref gp)))
  (wD:W.nsIn K mainGlobals "NoStore"=some (some (.ref gq)))
  (wF:W.nsIn K mainGlobals "NoPatch"=some (some (.ref gr)))
  (zl:W.nsIn K mainGlobals "NoLine"=some (some (.ref jw)))
  (sD:W.nsIn K mainGlobals "Unsettled"=some (some (.ref iM)))
  (FD:W.nsIn K mainGlobals "Same"=some (some (.ref lX)))
  (CA:W.nsIn K mainGlobals "Leant"=some (some (.ref gS)))
  (qC:W.nsIn K mainGlobals "NAME_SIGNS"=some (some (.str (Str.ofString "abcdefghijklmnopqrstuvwxyz0123456789") oX)))
  (oN:W.nsIn K mainGlobals "LONGEST_NAME"=some (some (.int 12 mY)))
  (M_:W.nsIn K mainGlobals "len"=some none)
  (FE:W.nsIn K mainGlobals "range"=some none)
  (Na:W.nsIn K mainGlobals "max"=some none)
  (sE:W.nsIn K mainGlobals "isinstance"=some none)
  (IM:W.nsIn K mainGlobals "list"=some none)
  (Nb:W.nsIn K mainGlobals "str"=some none)
  (wG:W.nsIn K mainGlobals "reversed"=some none)
  (CB:W.nsIn K mainGlobals "sorted"=some none)
  (Nc:W.nsIn K mainGlobals "set"=some none)
  (uU:W.nsIn K mainGlobals "enumerate"=some none)
  (sF:W.nsIn K mainGlobals "ValueError"=some none)
  (wH:W.findIn K (.ref gq) "__getattribute__"=some (some (.builtin "BaseException.__getattribute__")))
  (wI:W.findIn K (.ref gq) "__getattr__"=some none)
  (wJ:W.findIn K (.ref gq) "__class__"=some (some (.builtin "object.__class__")))
  (wK:W.mroIn K gq (.type "object")=some true)
  (wL:W.mroIn K gq (.type "BaseException")=some true)
  (wM:W.findIn K (.ref gr) "__getattribute__"=some (some (.builtin "BaseException.__getattribute__")))
  (wN:W.findIn K (.ref gr) "__getattr__"=some none)
  (wO:W.findIn K (.ref gr) "__class__"=some (some (.builtin "object.__class__")))
  (wQ:W.mroIn K gr (.type "object")=some true)
  (wR:W.mroIn K gr (.type "BaseException")=some true)
  (sG:W.findIn K (.ref gp) "__getattribute__"=some (some (.builtin "BaseException.__getattribute__")))
  (sH:W.findIn K (.ref gp) "__getattr__"=some none)
  (sI:W.findIn K (.ref gp) "__class__"=some (some (.builtin "object.__class__")))
  (sJ:W.mroIn K gp (.type "object")=some true)
  (sL:W.mroIn K gp (.type "BaseException")=some true)
  (CC:W.findIn K (.ref gS) "__getattribute__"=some (some (.builtin "BaseException.__getattribute__")))
  (CD:W.findIn K (.ref gS) "__getattr__"=some none)
  (CF:W.findIn K (.ref gS) "__class__"=some (some (.builtin "object.__class__")))
  (CG:W.mroIn K gS (.type "object")=some true)
  (CH:W.mroIn K gS (.type "BaseException")=some true)
  (qD:W.excIn K ig [.type "ValueError",.type "Exception",.type "BaseException",.type "object"] "ValueError.__new__"=true)
  (wU:W.excIn K iI [.type "ValueError",.type "Exception",.type "BaseException",.type "object"] "ValueError.__new__"=true)
  (sM:W.excIn K gp [.type "ValueError",.type "Exception",.type "BaseException",.type "object"] "ValueError.__new__"=true)
  (wV:W.excIn K gq [.type "ValueError",.type "Exception",.type "BaseException",.type "object"] "ValueError.__new__"=true)
  (wW:W.excIn K gr [.type "ValueError",.type "Exception",.type "BaseException",.type "object"] "ValueError.__new__"=true)
  (zm:W.excIn K jw [.type "ValueError",.type "Exception",.type "BaseException",.type "object"] "ValueError.__new__"=true)
  (sO:W.excIn K iM [.type "ValueError",.type "Exception",.type "BaseException",.type "object"] "ValueError.__new__"=true)
  (FF:W.excIn K lX [.type "ValueError",.type "Exception",.type "BaseException",.type "object"] "ValueError.__new__"=true)
  (CI:W.excIn K gS [.type "ValueError",.type "Exception",.type "BaseException",.type "object"] "ValueError.__new__"=true)
  (j7:W.kitOne K (.ref gq) (.ref ig)=some true)
  (j8:W.kitOne K (.ref gq) (.ref iI)=some false)
  (jx:W.kitOne K (.ref gq) (.ref gp)=some false)
  (j9:W.kitOne K (.ref gq) (.ref gq)=some true)
  (j_:W.kitOne K (.ref gq) (.ref gr)=some false)
  (kF:W.kitOne K (.ref gq) (.ref jw)=some false)
  (jy:W.kitOne K (.ref gq) (.ref iM)=some false)
  (lL:W.kitOne K (.ref gq) (.ref lX)=some false)
  (lg:W.kitOne K (.ref gq) (.ref gS)=some false)
  (wX:W.kitOne K (.ref gq) (.type "ValueError")=some true)
  (kc:W.kitOne K (.ref gr) (.ref ig)=some true)
  (ke:W.kitOne K (.ref gr) (.ref iI)=some false)
  (jz:W.kitOne K (.ref gr) (.ref gp)=some false)
  (ki:W.kitOne K (.ref gr) (.ref gq)=some false)
  (kj:W.kitOne K (.ref gr) (.ref gr)=some true)
  (kG:W.kitOne K (.ref gr) (.ref jw)=some false)
  (jA:W.kitOne K (.ref gr) (.ref iM)=some false)
  (lM:W.kitOne K (.ref gr) (.ref lX)=some false)
  (lh:W.kitOne K (.ref gr) (.ref gS)=some false)
  (wY:W.kitOne K (.ref gr) (.type "ValueError")=some true)
  (jJ:W.kitOne K (.ref gp) (.ref ig)=some true)
  (jB:W.kitOne K (.ref gp) (.ref iI)=some false)
  (jf:W.kitOne K (.ref gp) (.ref gp)=some true)
  (jC:W.kitOne K (.ref gp) (.ref gq)=some false)
  (jD:W.kitOne K (.ref gp) (.ref gr)=some false)
  (jR:W.kitOne K (.ref gp) (.ref jw)=some false)
  (jg:W.kitOne K (.ref gp) (.ref iM)=some false)
  (kI:W.kitOne K (.ref gp) (.ref lX)=some false)
  (kl:W.kitOne K (.ref gp) (.ref gS)=some false)
  (sP:W.kitOne K (.ref gp) (.type "ValueError")=some true)
  (k8:W.kitOne K (.ref gS) (.ref ig)=some true)
  (lj:W.kitOne K (.ref gS) (.ref iI)=some false)
  (ko:W.kitOne K (.ref gS) (.ref gp)=some false)
  (ll:W.kitOne K (.ref gS) (.ref gq)=some false)
  (lq:W.kitOne K (.ref gS) (.ref gr)=some false)
  (lN:W.kitOne K (.ref gS) (.ref jw)=some false)
  (kq:W.kitOne K (.ref gS) (.ref iM)=some false)
  (nc:W.kitOne K (.ref gS) (.ref lX)=some false)
  (ma:W.kitOne K (.ref gS) (.ref gS)=some true)
  (CJ:W.kitOne K (.ref gS) (.type "ValueError")=some true)
  (wZ:(W.clsIn K gq).isSome=true)
  (nY:rF K gq ig=true)
  (sh:rF K gq gq=true)
  (w9:(W.clsIn K gr).isSome=true)
  (o4:rF K gr ig=true)
  (si:rF K gr gr=true)
  (sQ:(W.clsIn K gp).isSome=true)
  (ow:rF K gp ig=true)
  (oY:rF K gp gp=true)
  (CK:(W.clsIn K gS).isSome=true)
  (xW:rF K gS ig=true)
  (xX:rF K gS gS=true) :
  ∃fd:FuncData,(∀(s:Shared)(v:Value),BindsTo s fd ⟨[v],[]⟩ [("script",v)])∧∀base:Heap,K.In base→base.Ns mainGlobals mg→ip l.prog w K mg base nu 20 fa fd ["script"] (JG K):=by
 obtain⟨m0,d0,F0⟩:=h0
 obtain⟨m1,d1,F1⟩:=h1
 obtain⟨m2,d2,F2⟩:=h2
 obtain⟨m3,d3,F3⟩:=h3
 obtain⟨m4,d4,F4⟩:=h4
 obtain⟨m5,d5,F5⟩:=h5
 obtain⟨m6,d6,F6⟩:=h6
 obtain⟨m7,d7,F7⟩:=h7
 obtain⟨m8,d8,F8⟩:=h8
 obtain⟨m9,d9,F9⟩:=h9
 obtain⟨m10,d10,F10⟩:=WW
 obtain⟨m11,d11,F11⟩:=Vz
 obtain⟨m12,d12,F12⟩:=h12
 obtain⟨m13,d13,F13⟩:=h13
 obtain⟨m14,d14,F14⟩:=h14
 obtain⟨m15,d15,F15⟩:=h15
 obtain⟨m16,d16,F16⟩:=h16
 obtain⟨m17,d17,F17⟩:=h17
 obtain⟨m18,d18,F18⟩:=h18
 obtain⟨m19,d19,F19⟩:=h19
 obtain⟨m20,d20,F20⟩:=WX
 obtain⟨m21,d21,F21⟩:=VA
 obtain⟨m22,d22,F22⟩:=h22
 obtain⟨m23,d23,F23⟩:=h23
 obtain⟨m24,d24,F24⟩:=h24
 obtain⟨m25,d25,F25⟩:=h25
 obtain⟨m26,d26,F26⟩:=h26
 obtain⟨m27,d27,F27⟩:=h27
 obtain⟨m28,d28,F28⟩:=h28
 obtain⟨m29,d29,F29⟩:=h29
 obtain⟨m30,d30,F30⟩:=h30
 obtain⟨m31,d31,F31⟩:=h31
 obtain⟨m32,d32,F32⟩:=h32
 obtain⟨m33,d33,F33⟩:=h33
 obtain⟨m34,d34,F34⟩:=h34
 obtain⟨m35,d35,F35⟩:=h35
 obtain⟨m36,d36,F36⟩:=h36
 obtain⟨m37,d37,F37⟩:=h37
 obtain⟨m38,d38,F38⟩:=h38
 obtain⟨m39,d39,F39⟩:=h39
 obtain⟨m40,d40,F40⟩:=WY
 obtain⟨m41,d41,F41⟩:=VC
 obtain⟨m42,d42,F42⟩:=h42
 obtain⟨m43,d43,F43⟩:=h43
 obtain⟨m44,d44,F44⟩:=h44
 obtain⟨m45,d45,F45⟩:=h45
 obtain⟨m46,d46,F46⟩:=h46
 obtain⟨m47,d47,F47⟩:=h47
 obtain⟨m48,d48,F48⟩:=h48
 obtain⟨m49,d49,F49⟩:=h49
 obtain⟨m50,d50,F50⟩:=WZ
 obtain⟨m51,d51,F51⟩:=VD
 obtain⟨m52,d52,F52⟩:=h52
 obtain⟨m53,d53,F53⟩:=h53
 obtain⟨m54,d54,F54⟩:=h54
 obtain⟨m55,d55,F55⟩:=h55
 obtain⟨m56,d56,F56⟩:=h56
 obtain⟨m57,d57,F57⟩:=h57
 obtain⟨m58,d58,F58⟩:=h58
 obtain⟨m59,d59,F59⟩:=h59
 obtain⟨m60,d60,F60⟩:=h60
 obtain⟨m61,d61,F61⟩:=h61
 obtain⟨m62,d62,F62⟩:=h62
 have e:=hfa.symm.trans (aaq X G m35)
 cases e
 have T:Txt mg:=⟨abd X G M_,abd X G FE,abd X G Na,abd X G sE,abd X G IM,abd X G Nb,abd X G wG,abd X G CB,abd X G Nc,abd X G uU,abd X G sF⟩
 have O:Ok K mg (Ad.mk f0 d0 f1 d1 f2 d2 f3 d3 f36 d36 f37 d37 f4 d4 f5 d5 f6 d6 f7 d7 f8 d8 f9 d9 f10 d10 f11 d11 f12 d12 f13 d13 f14 d14 f38 d38 f39 d39 f40 d40 f15 d15 f16 d16 f17 d17 f18 d18 f19 d19 f41 d41 f42 d42 f43 d43 f44 d44 f45 d45 f46 d46 f47 d47 f48 d48 f49 d49 f50 d50 f51 d51 f52 d52 f53 d53 f54 d54 f55 d55 f56 d56 f57 d57 f58 d58 f59 d59 f60 d60 f61 d61 f62 d62 f20 d20 f21 d21 f22 d22 f23 d23 f24 d24 f25 d25 f26 d26 f27 d27 f28 d28 f29 d29 f30 d30 f31 d31 f32 d32 f33 d33 f34 d34 gQ gL ij gw ig iI gp gq gr jw iM lX gS oX mY ()):=⟨⟨F0,F0.bd,aaq X G m0⟩,⟨F1,F1.bd,aaq X G m1⟩,⟨F2,F2.bd,aaq X G m2⟩,⟨F3,F3.bd,aaq X G m3⟩,⟨F36,F36.bd,m36⟩,⟨F37,F37.bd,m37⟩,⟨F4,F4.bd,aaq X G m4⟩,⟨F5,F5.bd,aaq X G m5⟩,⟨F6,F6.bd,aaq X G m6⟩,⟨F7,F7.bd,aaq X G m7⟩,⟨F8,F8.bd,aaq X G m8⟩,⟨F9,F9.bd,aaq X G m9⟩,⟨F10,F10.bd,aaq X G m10⟩,⟨F11,F11.bd,aaq X G m11⟩,⟨F12,F12.bd,aaq X G m12⟩,⟨F13,F13.bd,aaq X G m13⟩,⟨F14,F14.bd,aaq X G m14⟩,⟨F38,F38.bd,m38⟩,⟨F39,F39.bd,m39⟩,⟨F40,F40.bd,m40⟩,⟨F15,F15.bd,aaq X G m15⟩,⟨F16,F16.bd,aaq X G m16⟩,⟨F17,F17.bd,aaq X G m17⟩,⟨F18,F18.bd,aaq X G m18⟩,⟨F19,F19.bd,aaq X G m19⟩,⟨F41,F41.bd,m41⟩,⟨F42,F42.bd,m42⟩,⟨F43,F43.bd,m43⟩,⟨F44,F44.bd,m44⟩,⟨F45,F45.bd,m45⟩,⟨F46,F46.bd,m46⟩,⟨F47,F47.bd,m47⟩,⟨F48,F48.bd,m48⟩,⟨F49,F49.bd,m49⟩,⟨F50,F50.bd,m50⟩,⟨F51,F51.bd,m51⟩,⟨F52,F52.bd,m52⟩,⟨F53,F53.bd,m53⟩,⟨F54,F54.bd,m54⟩,⟨F55,F55.bd,m55⟩,⟨F56,F56.bd,m56⟩,⟨F57,F57.bd,m57⟩,⟨F58,F58.bd,m58⟩,⟨F59,F59.bd,m59⟩,⟨F60,F60.bd,m60⟩,⟨F61,F61.bd,m61⟩,⟨F62,F62.bd,m62⟩,⟨F20,F20.bd,aaq X G m20⟩,⟨F21,F21.bd,aaq X G m21⟩,⟨F22,F22.bd,aaq X G m22⟩,⟨F23,F23.bd,aaq X G m23⟩,⟨F24,F24.bd,aaq X G m24⟩,⟨F25,F25.bd,aaq X G m25⟩,⟨F26,F26.bd,aaq X G m26⟩,⟨F27,F27.bd,aaq X G m27⟩,⟨F28,F28.bd,aaq X G m28⟩,⟨F29,F29.bd,aaq X G m29⟩,⟨F30,F30.bd,aaq X G m30⟩,⟨F31,F31.bd,aaq X G m31⟩,⟨F32,F32.bd,aaq X G m32⟩,⟨F33,F33.bd,aaq X G m33⟩,⟨F34,F34.bd,aaq X G m34⟩,⟨Fp,Fq,Fs,Ft⟩,⟨Fu,m36.at_,m36.fn,Fv⟩,aaq X G Fn,gT,jI,iF,iG,⟨Cn,Co,Cp,Cq⟩,⟨Cr,m37.at_,m37.fn,Cs⟩,aaq X G Ck,i6,ky,jM,jN,iW,⟨Ct,Cu,Cv,Cw⟩,⟨Cy,m38.at_,m38.fn,Cz⟩,aaq X G Cm,jQ,iB,⟨Fw,Fx,Fy,Fz⟩,⟨FA,m41.at_,m41.fn,FC⟩,aaq X G Fo,iS,jo,iH,⟨aaq X G qB,qD⟩,⟨aaq X G wC,wU⟩,⟨aaq X G sC,sM⟩,⟨aaq X G wD,wV⟩,⟨aaq X G wF,wW⟩,⟨aaq X G zl,zm⟩,⟨aaq X G sD,sO⟩,⟨aaq X G FD,FF⟩,⟨aaq X G CA,CI⟩,aaq X G qC,aaq X G oN,⟨wH,wI,wJ,wK,wL,wZ⟩,j7,j8,jx,j9,j_,kF,jy,lL,lg,wX,nY,sh,⟨wM,wN,wO,wQ,wR,w9⟩,kc,ke,jz,ki,kj,kG,jA,lM,lh,wY,o4,si,⟨sG,sH,sI,sJ,sL,sQ⟩,jJ,jB,jf,jC,jD,jR,jg,kI,kl,sP,ow,oY,⟨CC,CD,CF,CG,CH,CK⟩,k8,lj,ko,ll,lq,lN,kq,nc,ma,CJ,xW,xX,True.intro⟩
 refine⟨d35,fun s v=>?_,fun base _ _=>RB F35 T O⟩
 obtain⟨_,_,_,_,_,_,_,_,_,rfl,_,_⟩:=F35.ex
 exact .of_eq rfl
theorem walk{l:W.OpenLaw}{q:Program}{loose:List Str}{XP:(Qqx)→Heap→Prop}{YP:World→Heap→Prop}{d:DefRec}{K:Params→Qqy}(hn:l.most=some 63)(UH:d.params.defaults=[])
  (hY:∀(w:World)(h:Heap),YP w h→(K w.params).In h)
  (F:∀(w:World)(mg:Qqx)(fa:Addr)(h:Heap),(K w.params).In h→h.Ns mainGlobals mg→mg d.name=some (.ref fa)→
   ∃fd:FuncData,(∀(s:Shared)(u:Value),BindsTo s fd ⟨[u],[]⟩ [("script",u)])∧∀base:Heap,(K w.params).In base→base.Ns mainGlobals mg→ip l.prog w (K w.params) mg base nu 20 fa fd ["script"] (JG (K w.params))) :
  W.WalkO q loose XP YP l.row.toRowW d [] (fun f vs=>PySem.call f vs):=
 L2.NL (n:=63) (k:=20) (x:="script") (CX:=fun _=>nu) (sp:=fun w=>JG (K w.params)) hn (by decide) UH ⟨rfl,by decide,by decide⟩ hY F (fun _ _ a ns hl _ hS=>⟨a,ns,rfl,hS,hl,fun _=>rfl⟩) fun _ _ _ _ _ z=>z
end PK
open PySem PySem.W PyProof.Rows
theorem PySem.Challenge.cw_patchkin_k07_taken_and_dropped_holds : PySem.Challenge.rw_patchkin_k07_taken_and_dropped.Holds := by
 w_on;o_law;k_head;(case hw=>w_witness2)
 k_fill
 refine PK.walk (l:=PySem.Challenge.rw_patchkin_k07_taken_and_dropped) rfl rfl (fun w h Y=>PySem.W.kIn_of Y) ?F
 case F=>
  intro w mg fa h KX G UI
  refine' PK.all_mk KX G UI ?zqFn ?zqCk ?zqCm ?zqFo ?zqh0 ?zqh1 ?zqh2 ?zqh3 ?zqh4 ?zqh5 ?zqh6 ?zqh7 ?zqh8 ?zqh9 ?zqWW ?zqVz ?zqh12 ?zqh13 ?zqh14 ?zqh15 ?zqh16 ?zqh17 ?zqh18 ?zqh19 ?zqWX ?zqVA ?zqh22 ?zqh23 ?zqh24 ?zqh25 ?zqh26 ?zqh27 ?zqh28 ?zqh29 ?zqh30 ?zqh31 ?zqh32 ?zqh33 ?zqh34 ?zqh35 ?zqh36 ?zqh37 ?zqh38 ?zqh39 ?zqWY ?zqVC ?zqh42 ?zqh43 ?zqh44 ?zqh45 ?zqh46 ?zqh47 ?zqh48 ?zqh49 ?zqWZ ?zqVD ?zqh52 ?zqh53 ?zqh54 ?zqh55 ?zqh56 ?zqh57 ?zqh58 ?zqh59 ?zqh60 ?zqh61 ?zqh62 ?zqFp ?zqFq ?zqFs ?zqFt ?zqFu ?zqFv ?zqgT ?zqjI ?zqiF ?zqiG ?zqCn ?zqCo ?zqCp ?zqCq ?zqCr ?zqCs ?zqi6 ?zqky ?zqjM ?zqjN ?zqiW ?zqCt ?zqCu ?zqCv ?zqCw ?zqCy ?zqCz ?zqjQ ?zqiB ?zqFw ?zqFx ?zqFy ?zqFz ?zqFA ?zqFC ?zqiS ?zqjo ?zqiH ?zqqB ?zqwC ?zqsC ?zqwD ?zqwF ?zqzl ?zqsD ?zqFD ?zqCA ?zqqC ?zqoN ?zqM_ ?zqFE ?zqNa ?zqsE ?zqIM ?zqNb ?zqwG ?zqCB ?zqNc ?zquU ?zqsF ?zqwH ?zqwI ?zqwJ ?zqwK ?zqwL ?zqwM ?zqwN ?zqwO ?zqwQ ?zqwR ?zqsG ?zqsH ?zqsI ?zqsJ ?zqsL ?zqCC ?zqCD ?zqCF ?zqCG ?zqCH ?zqqD ?zqwU ?zqsM ?zqwV ?zqwW ?zqzm ?zqsO ?zqFF ?zqCI ?zqj7 ?zqj8 ?zqjx ?zqj9 ?zqj_ ?zqkF ?zqjy ?zqlL ?zqlg ?zqwX ?zqkc ?zqke ?zqjz ?zqki ?zqkj ?zqkG ?zqjA ?zqlM ?zqlh ?zqwY ?zqjJ ?zqjB ?zqjf ?zqjC ?zqjD ?zqjR ?zqjg ?zqkI ?zqkl ?zqsP ?zqk8 ?zqlj ?zqko ?zqll ?zqlq ?zqlN ?zqkq ?zqnc ?zqma ?zqCJ ?zqwZ ?zqnY ?zqsh ?zqw9 ?zqo4 ?zqsi ?zqsQ ?zqow ?zqoY ?zqCK ?zqxW ?zqxX
  (case zqFn|zqCk|zqCm|zqFo=>k_is)
  (case zqh0|zqh1|zqh2|zqh3|zqh4|zqh5|zqh6|zqh7|zqh8|zqh9|zqWW|zqVz|zqh12|zqh13|zqh14|zqh15|zqh16|zqh17|zqh18|zqh19|zqWX|zqVA|zqh22|zqh23|zqh24|zqh25|zqh26|zqh27|zqh28|zqh29|zqh30|zqh31|zqh32|zqh33|zqh34|zqh35=>refine' L2.T1 ?a ?l ?c ?k;(case a=>k_is);(case l=>k_is);(case c=>k_is);(case k=>k_is))
  (case zqh36|zqh37|zqh38|zqh39|zqWY|zqVC|zqh42|zqh43|zqh44|zqh45|zqh46|zqh47|zqh48|zqh49|zqWZ|zqVD|zqh52|zqh53|zqh54|zqh55|zqh56|zqh57|zqh58|zqh59|zqh60|zqh61|zqh62=>refine' L2.T3 ?a ?i ?l ?c ?k;(case a=>k_is);(case i=>k_is);(case l=>k_is);(case c=>k_is);(case k=>k_is))
  (case zqFp|zqFq|zqFs|zqFt|zqFu|zqFv|zqgT|zqjI|zqiF|zqiG|zqCn|zqCo|zqCp|zqCq|zqCr|zqCs|zqi6|zqky|zqjM|zqjN|zqiW|zqCt|zqCu|zqCv|zqCw|zqCy|zqCz|zqjQ|zqiB|zqFw|zqFx|zqFy|zqFz|zqFA|zqFC|zqiS|zqjo|zqiH|zqqB|zqwC|zqsC|zqwD|zqwF|zqzl|zqsD|zqFD|zqCA|zqqC|zqoN|zqM_|zqFE|zqNa|zqsE|zqIM|zqNb|zqwG|zqCB|zqNc|zquU|zqsF|zqwH|zqwI|zqwJ|zqwK|zqwL|zqwM|zqwN|zqwO|zqwQ|zqwR|zqsG|zqsH|zqsI|zqsJ|zqsL|zqCC|zqCD|zqCF|zqCG|zqCH=>k_is)
  (case zqqD|zqwU|zqsM|zqwV|zqwW|zqzm|zqsO|zqFF|zqCI=>k_exc)
  (case zqj7|zqj8|zqjx|zqj9|zqj_|zqkF|zqjy|zqlL|zqlg|zqwX|zqkc|zqke|zqjz|zqki|zqkj|zqkG|zqjA|zqlM|zqlh|zqwY|zqjJ|zqjB|zqjf|zqjC|zqjD|zqjR|zqjg|zqkI|zqkl|zqsP|zqk8|zqlj|zqko|zqll|zqlq|zqlN|zqkq|zqnc|zqma|zqCJ=>kit_is)
  (case zqwZ|zqnY|zqsh|zqw9|zqo4|zqsi|zqsQ|zqow|zqoY|zqCK|zqxW|zqxX=>kernel_rfl)
